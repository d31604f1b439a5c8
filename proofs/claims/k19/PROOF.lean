import PyProof.Rows.All
import Wide.All
import OpenK.AllK
import Wide.FinOn
import HandS.Base
import HandS.Call
import HandS.List
import HandS.Comp
import HandS.Ends
import HandS.Dict
import HandS.Iter
import HandS.Text
import HandS.Words
import HandS.WordsList
import HandS.WordsDict
import HandS.Conv
import HandS.Codes
import HandS.Wide
import HandS.Style
import KE.KTupSum
import HandS.Walk
import HandS.More
import HandS.Zip
import HandS.IsInst
import HandS.NoneIn
import PyProof.ReprRoads
import PyProof.ReprLen
import KE.KRevSl
import HandS.DeepEq
import HandS.TupAny
import HandS.TupMul
import KE.GoesMore
import KE.GoesEnum
import HandS.Sort
import PyProof.FactsAll.tuple_2
import HandS.RaiseMore
import HandS.TupLe
import KE.DataMinMax
import HandS.WideBits
import HandS.Flt
import KE.KEqNest
import HandS.Defaults
import PyProof.Rows.IntBool
import HandS.DictTup
import HandS.TupLen
import KE.KDictPairs
import KE.KDictCopyH
import PySem.Challenge.RW_nonegrowsrich_k19_doubters_of_anything
set_option Elab.async false
set_option linter.all false
set_option maxRecDepth 100000
set_option maxHeartbeats 4000000
namespace NG
open PySem PySem.Spec PyProof.Rows L2

/-! ### sum of a tuple -/
theorem cr_sumT {X : Cx} (hc : X.calm = true) : CallR X (.builtin "sum") (fun vs H Q => ∃ (a : Addr) (ns : List Int), vs = [V.ref a] ∧ SqT X.K H a (ns.map V.int) ∧ Q (.int ns.sum) H) := by
  intro pins s σ H vs us Q I r h
  obtain ⟨a, ns, rfl, hs, q⟩ := h
  obtain ⟨its, rv, hl, _⟩ := I.tuple hs
  rw [Vals.ref1 r]
  have hi := rv.ints
  obtain ⟨xs, e⟩ := hi.allInts.items
  have hn : numsOf (intItems xs).toList = ns := by rw [← e]; exact hi.numsOf
  rw [nums_intItems] at hn
  rw [e] at hl
  refine PySem.W.ktm_sumG (I.ok.hd hc) hl fun h' tk t' hk => ?_
  rw [preSum_eq, List.take_of_length_le (by simp), hn]
  exact ⟨.int _, H, I.kept hk, ⟨_, rfl⟩, q⟩

/-! ### rules whose reading names the written part, for a comprehension's block -/
theorem ixl {X : Cx} (K : PySem.W.Frag) (h : X.K = K := by rfl) : IxR X (rIxL K) := by
  subst h
  exact ix_list
theorem ixt {X : Cx} (K : PySem.W.Frag) (h : X.K = K := by rfl) : IxR X (rIxT K) := by
  subst h
  exact ix_tup
theorem lenK {X : Cx} (K : PySem.W.Frag) (h : X.K = K := by rfl) : CallR X (.builtin "len") (fun xs H Q => ∃ p ys, xs = [.ref p] ∧ (SqL K H p ys ∨ SqT K H p ys) ∧ Q (.int ys.length) H) := by
  subst h
  exact call_len_seq
theorem sumT {X : Cx} (K : PySem.W.Frag) (hc : X.calm = true) (h : X.K = K := by rfl) : CallR X (.builtin "sum") (fun vs H Q => ∃ (a : Addr) (ns : List Int), vs = [V.ref a] ∧ SqT K H a (ns.map V.int) ∧ Q (.int ns.sum) H) := by
  subst h
  exact cr_sumT hc
theorem sumL {X : Cx} (K : PySem.W.Frag) (hc : X.calm = true) (h : X.K = K := by rfl) : CallR X (.builtin "sum") (rSum K) := by
  subst h
  exact cr_sum hc

/-! ### short words -/
theorem iteFF {c : Bool} {A B : Prop} (hc : c = false) (h : B) : if c = true then A else B := by
  subst hc
  exact iteF h
theorem iteTT {c : Bool} {A B : Prop} (hc : c = true) (h : A) : if c = true then A else B := by
  subst hc
  exact iteT h
theorem iteD {p : Prop} [Decidable p] {A B : Prop} (h1 : p → A) (h2 : ¬ p → B) : if decide p = true then A else B := by
  by_cases h : p
  · rw [decide_eq_true h]
    exact iteT (h1 h)
  · rw [decide_eq_false h]
    exact iteF (h2 h)
theorem at_mem {xs : List V} {i : Int} (h0 : 0 ≤ i) (h1 : i < xs.length) : ∃ v, atI xs i = some v ∧ v ∈ xs := by
  have hj : i.toNat < xs.length := by omega
  refine ⟨xs[i.toNat], ?_, List.getElem_mem hj⟩
  exact at_of (j := i.toNat) (by omega) (List.getElem?_eq_getElem hj)
theorem at_int {ns : List Int} {i : Int} (h0 : 0 ≤ i) (h1 : i < ns.length) : atI (ns.map V.int) i = some (.int (ns.getD i.toNat 0)) := by
  have hj : i.toNat < ns.length := by omega
  refine at_of (j := i.toNat) (by omega) ?_
  rw [List.getElem?_map, List.getElem?_eq_getElem hj, List.getD_eq_getElem?_getD, List.getElem?_eq_getElem hj]
  rfl

/-- an expression, with a word behind it -/
def tCutE (t : TE) : TE := fun σ H Q => ∃ M : VK, t σ H M ∧ ∀ v H', M v H' → Q v H'
theorem pe_cut {X : Cx} {e : Expr} {t : TE} (h : PE X e t) : PE X e (tCutE t) :=
  ⟨fun pins s σ H Q I ⟨M, hm, hq⟩ => thn (h.run pins s σ H M I hm) fun u s1 ⟨x, H1, I1, r, q⟩ => ⟨x, H1, I1, r, hq _ _ q⟩⟩

/-! ### heaps: all but one object is as it was -/
def But (a : Addr) (H H' : Hp) : Prop := ∀ b o, b ≠ a → H b = some o → H' b = some o
theorem But.refl (a : Addr) (H : Hp) : But a H H := fun _ _ _ h => h
theorem But.trans {a : Addr} {H H1 H2 : Hp} (x : But a H H1) (y : But a H1 H2) : But a H H2 := fun b o n h => y b o n (x b o n h)
theorem But.of {a : Addr} {H H' : Hp} (x : Same H H') : But a H H' := fun b o _ h => x b o h
theorem But.new {a p : Addr} {H : Hp} {o : HO} (h : H p = none) : But a H (upd H p o) := fun b u _ e => by
  rw [upd_ne (ne_of_none e h)]
  exact e
theorem But.put {a : Addr} {H : Hp} {o : HO} : But a H (upd H a o) := fun b u n e => by
  rw [upd_ne n]
  exact e
theorem But.same {a : Addr} {H H' : Hp} (x : But a H H') (h : H a = none) : Same H H' := fun b o e => x b o (ne_of_none e h) e
theorem same_new {p : Addr} {H : Hp} {o : HO} (h : H p = none) : Same H (upd H p o) := fun b u e => by
  rw [upd_ne (ne_of_none e h)]
  exact e
theorem But.free {a b : Addr} {H H' : Hp} {o : HO} (x : But a H H') (h : H a = some o) (n : H' b = none) (n2 : H' a ≠ none) : H b = none := by
  cases q : H b with
  | none => rfl
  | some u =>
    by_cases e : b = a
    · subst e
      exact absurd n n2
    · rw [x b u e q] at n
      cases n
theorem But.sqt {a p : Addr} {H H' : Hp} {K : PySem.W.Frag} {l xs : List V} (x : But a H H') (h : H a = some (.lst l)) (q : SqT K H p xs) : SqT K H' p xs := by
  rcases q with (q | ⟨o, q⟩) | q
  · exact .inl (.inl (x _ _ (ne_of q h (by intro z; cases z)) q))
  · exact .inl (.inr ⟨o, x _ _ (ne_of q h (by intro z; cases z)) q⟩)
  · exact .inr q
theorem same_sqt {p : Addr} {H H' : Hp} {K : PySem.W.Frag} {xs : List V} (x : Same H H') (q : SqT K H p xs) : SqT K H' p xs := by
  rcases q with (q | ⟨o, q⟩) | q
  · exact .inl (.inl (x _ _ q))
  · exact .inl (.inr ⟨o, x _ _ q⟩)
  · exact .inr q

/-! ### the hand -/
def HandAt (H : Hp) (a : Addr) (n : Nat) : Prop := ∃ g s m : Int, H a = some (.lst [.int g, .int s, .int m]) ∧ 0 ≤ g ∧ 0 ≤ s ∧ 0 ≤ m ∧ m ≤ n
theorem HandAt.le {H : Hp} {a : Addr} {n k : Nat} (h : HandAt H a n) (l : n ≤ k) : HandAt H a k := by
  obtain ⟨g, s, m, e, h1, h2, h3, h4⟩ := h
  exact ⟨g, s, m, e, h1, h2, h3, by omega⟩
theorem HandAt.new {H : Hp} {a p : Addr} {n : Nat} {o : HO} (h : HandAt H a n) (hp : H p = none) : HandAt (upd H p o) a n := by
  obtain ⟨g, s, m, e, h1, h2, h3, h4⟩ := h
  exact ⟨g, s, m, by rw [upd_ne (ne_of_none e hp)]; exact e, h1, h2, h3, h4⟩
theorem HandAt.put {H : Hp} {a p : Addr} {n : Nat} {o : HO} (h : HandAt H a n) (hp : p ≠ a) : HandAt (upd H p o) a n := by
  obtain ⟨g, s, m, e, h1, h2, h3, h4⟩ := h
  exact ⟨g, s, m, by rw [upd_ne (Ne.symm hp)]; exact e, h1, h2, h3, h4⟩
theorem HandAt.ne {H : Hp} {a p : Addr} {n : Nat} (h : HandAt H a n) (hp : H p = none) : p ≠ a := by
  obtain ⟨g, s, m, e, _⟩ := h
  exact (ne_of_none e hp).symm
theorem HandAt.some {H : Hp} {a : Addr} {n : Nat} (h : HandAt H a n) : ∃ l, H a = some (.lst l) := by
  obtain ⟨g, s, m, e, _⟩ := h
  exact ⟨_, e⟩
theorem But.sq {a p : Addr} {H H' : Hp} {K : PySem.W.Frag} {n : Nat} {xs : List V} (x : But a H H') (h : HandAt H a n) (q : SqT K H p xs) : SqT K H' p xs := by
  obtain ⟨l, e⟩ := h.some
  exact x.sqt e q

structure Bl (mg : Str → Option Value) : Prop where
  len : mg "len" = none
  sum : mg "sum" = none
  max : mg "max" = none
  min : mg "min" = none
  abs : mg "abs" = none
  int : mg "int" = none
  tuple : mg "tuple" = none
  range : mg "range" = none
  sorted : mg "sorted" = none
  zip : mg "zip" = none
  isinstance : mg "isinstance" = none
  list : mg "list" = none
  all : mg "all" = none
  repr : mg "repr" = none
  str : mg "str" = none
  enumerate : mg "enumerate" = none

/-! ### a def that may be called by its name -/
structure Cal (P : Program) (w : World) (K : PySem.W.Frag) (mg : Str → Option Value) (base : Heap) (k : Nat) (x : Str) (sp : Sp) : Prop where
  ex : ∃ (f : Addr) (fd : FuncData) (ps : List Str), FnOk P w K mg base CX0 k f fd ps sp ∧ mg x = some (.ref f) ∧ PySem.W.keepIn K (.ref f) = true ∧ Binds K fd ps []
section
variable {X : Cx} {k j : Nat} {x : Str} {sp : Sp} {p pos : Pos} {e : Expr} {es : List Expr} {t : TA}
theorem pe_c (c : Cal X.prog X.w X.K X.mg X.base k x sp) (hr : Room j X.A) (hk : k ≤ j) (hg : Gl X x) (ha : PA X (e :: es) t)
    (hdb : (x == ("__debug__" : Str)) = false := by decide) (he : starEach (e :: es) X.env = (false, eval e X.env) :: starEach es X.env := by rfl) (hpl : (backTo pos (starEach es X.env)).any (·.1) = false := by rfl) :
    PE X (.Call (.Name x p) (e :: es) [] pos) (tCall sp [] E0 t) := by
  obtain ⟨f, fd, ps, F, hm, kp, b⟩ := c.ex
  exact pe_call F (hr.mono hk) hg hm kp b .nil pass0 ha hdb he hpl
end
theorem Cal.mono {P : Program} {w : World} {K : PySem.W.Frag} {mg : Str → Option Value} {base : Heap} {j k : Nat} {x : Str} {sp : Sp} (c : Cal P w K mg base j x sp) (h : j ≤ k) : Cal P w K mg base k x sp := by
  obtain ⟨f, fd, ps, F, r⟩ := c.ex
  exact ⟨f, fd, ps, F.mono h, r⟩

/-! ### promises of the draws -/
def spTake : Sp := fun vs H Q _ => ∃ (a : Addr) (many : Int) (n : Nat), vs = [.ref a, .int many] ∧ 0 < many ∧ many < 2 ^ 62 ∧ HandAt H a n ∧ n ≤ 1000000000 ∧
  ∀ H' r, But a H H' → HandAt H' a (n + 1) → 0 ≤ r → r < many → Q (.int r) H'
def spHand (K : PySem.W.Frag) : Sp := fun vs H Q _ => ∃ (a : Addr) (k : Int) (ns : List Int), vs = [.ref a, .int k] ∧ 0 ≤ k ∧ k < 1000 ∧ SqL K H a (ns.map V.int) ∧
  ∀ p g s, H p = none → 0 ≤ g → 0 ≤ s → Q (.ref p) (upd H p (.lst [.int g, .int s, .int 0]))
/-- an item of a list that is given -/
def spOf (K : PySem.W.Frag) : Sp := fun vs H Q _ => ∃ (a b : Addr) (xs : List V) (n : Nat), vs = [.ref a, .ref b] ∧ a ≠ b ∧ H b = some (.lst xs) ∧ 0 < xs.length ∧ xs.length ≤ 1000 ∧ HandAt H a n ∧ n ≤ 1000000000 ∧
  ∀ H' v, But a H H' → HandAt H' a (n + 1) → v ∈ xs → Q v H'
def spFigure : Sp := fun vs H Q _ => ∃ (a : Addr) (n : Nat), vs = [.ref a] ∧ HandAt H a n ∧ n ≤ 999999990 ∧
  ∀ H' c, But a H H' → HandAt H' a (n + 3) → -1000 ≤ c → c ≤ 1000 → Q (.int c) H'
end NG

namespace NG
open PySem PySem.Spec PyProof.Rows L2

/-! ### expressions -/
inductive W4 where
  | sum | less | least | most
  deriving DecidableEq
def wn : W4 → Str
  | .sum => "sum"
  | .less => "less"
  | .least => "least"
  | .most => "most"
inductive Ex where
  | fig (c : Int) | reg (i : Nat) | share (j : Nat)
  | two (w : W4) (a b : Ex)
  | times (f : Int) (a : Ex) | by (i : Nat) (a : Ex)
  | when (i : Nat) (c : Int) (a b : Ex) | whr (j : Nat) (c : Int) (a b : Ex)
def ExAt (K : PySem.W.Frag) (H : Hp) : Ex → V → Prop
  | .fig c, v => ∃ p, v = .ref p ∧ SqT K H p [.str "fig", .int c]
  | .reg i, v => ∃ p, v = .ref p ∧ SqT K H p [.str "reg", .int (i : Int)]
  | .share j, v => ∃ p, v = .ref p ∧ SqT K H p [.str "share", .int (j : Int)]
  | .two w a b, v => ∃ p x y, v = .ref p ∧ SqT K H p [.str (wn w), x, y] ∧ ExAt K H a x ∧ ExAt K H b y
  | .times f a, v => ∃ p x, v = .ref p ∧ SqT K H p [.str "times", .int f, x] ∧ ExAt K H a x
  | .by i a, v => ∃ p x, v = .ref p ∧ SqT K H p [.str "by", .int (i : Int), x] ∧ ExAt K H a x
  | .when i c a b, v => ∃ p x y, v = .ref p ∧ SqT K H p [.str "when", .int (i : Int), .int c, x, y] ∧ ExAt K H a x ∧ ExAt K H b y
  | .whr j c a b, v => ∃ p x y, v = .ref p ∧ SqT K H p [.str "where", .int (j : Int), .int c, x, y] ∧ ExAt K H a x ∧ ExAt K H b y
theorem ExAt.imp {K : PySem.W.Frag} {H H' : Hp} (h : ∀ p xs, SqT K H p xs → SqT K H' p xs) : ∀ {e : Ex} {v : V}, ExAt K H e v → ExAt K H' e v
  | .fig _, _, ⟨p, e, q⟩ => ⟨p, e, h _ _ q⟩
  | .reg _, _, ⟨p, e, q⟩ => ⟨p, e, h _ _ q⟩
  | .share _, _, ⟨p, e, q⟩ => ⟨p, e, h _ _ q⟩
  | .two _ _ _, _, ⟨p, x, y, e, q, a, b⟩ => ⟨p, x, y, e, h _ _ q, ExAt.imp h a, ExAt.imp h b⟩
  | .times _ _, _, ⟨p, x, e, q, a⟩ => ⟨p, x, e, h _ _ q, ExAt.imp h a⟩
  | .by _ _, _, ⟨p, x, e, q, a⟩ => ⟨p, x, e, h _ _ q, ExAt.imp h a⟩
  | .when _ _ _ _, _, ⟨p, x, y, e, q, a, b⟩ => ⟨p, x, y, e, h _ _ q, ExAt.imp h a, ExAt.imp h b⟩
  | .whr _ _ _ _, _, ⟨p, x, y, e, q, a, b⟩ => ⟨p, x, y, e, h _ _ q, ExAt.imp h a, ExAt.imp h b⟩
theorem ExAt.but {K : PySem.W.Frag} {H H' : Hp} {a : Addr} {n : Nat} {e : Ex} {v : V} (x : ExAt K H e v) (b : But a H H') (h : HandAt H a n) : ExAt K H' e v := x.imp fun _ _ q => b.sq h q
theorem ExAt.same {K : PySem.W.Frag} {H H' : Hp} {e : Ex} {v : V} (x : ExAt K H e v) (b : Same H H') : ExAt K H' e v := x.imp fun _ _ q => same_sqt b q
theorem ExAt.new {K : PySem.W.Frag} {H : Hp} {p : Addr} {o : HO} {e : Ex} {v : V} (x : ExAt K H e v) (n : H p = none) : ExAt K (upd H p o) e v := x.same (same_new n)
def ExOk (many : Nat) : Ex → Prop
  | .fig c => -1000 ≤ c ∧ c ≤ 1000
  | .reg i => i < 4
  | .share j => j < many
  | .two _ a b => ExOk many a ∧ ExOk many b
  | .times f a => (-9 ≤ f ∧ f ≤ 9) ∧ ExOk many a
  | .by i a => i < 4 ∧ ExOk many a
  | .when i c a b => i < 4 ∧ (-1000 ≤ c ∧ c ≤ 1000) ∧ ExOk many a ∧ ExOk many b
  | .whr j c a b => j < many ∧ (1 ≤ c ∧ c ≤ 1000) ∧ ExOk many a ∧ ExOk many b
def Ex.dep : Ex → Nat
  | .fig _ => 1
  | .reg _ => 1
  | .share _ => 1
  | .two _ a b => max a.dep b.dep + 1
  | .times _ a => a.dep + 1
  | .by _ a => a.dep + 1
  | .when _ _ a b => max a.dep b.dep + 1
  | .whr _ _ a b => max a.dep b.dep + 1
def jw : W4 → Int → Int → Int
  | .sum, x, y => x + y
  | .less, x, y => x - y
  | .least, x, y => if y < x then y else x
  | .most, x, y => if y > x then y else x
def wo (rs ss : List Int) : Ex → Int
  | .fig c => c * ss.sum
  | .reg i => rs.getD i 0 * ss.sum
  | .share j => 1000 * ss.getD j 0
  | .two w a b => jw w (wo rs ss a) (wo rs ss b)
  | .times f a => f * wo rs ss a
  | .by i a => rs.getD i 0 * wo rs ss a
  | .when i c a b => if rs.getD i 0 < c then wo rs ss a else wo rs ss b
  | .whr j c a b => if 1000 * ss.getD j 0 < c * ss.sum then wo rs ss a else wo rs ss b
theorem at_nth {ns : List Int} {i : Nat} (h : i < ns.length) : atI (ns.map V.int) (i : Int) = some (.int (ns.getD i 0)) := at_int (by omega) (by omega)

def RegsAt (K : PySem.W.Frag) (H : Hp) (rs : List Int) (v : V) : Prop := ∃ p, v = .ref p ∧ SqT K H p (rs.map V.int) ∧ rs.length = 4 ∧ ∀ x ∈ rs, -1000 ≤ x ∧ x ≤ 1000
def ShAt (K : PySem.W.Frag) (H : Hp) (many : Nat) (ss : List Int) (v : V) : Prop := ∃ p, v = .ref p ∧ SqT K H p (ss.map V.int) ∧ ss.length = many ∧ (∀ x ∈ ss, 0 ≤ x ∧ x < 2 ^ 50) ∧ 0 < ss.sum ∧ ss.sum < 2 ^ 60
theorem RegsAt.imp {K : PySem.W.Frag} {H H' : Hp} {rs : List Int} {v : V} (r : RegsAt K H rs v) (h : ∀ p xs, SqT K H p xs → SqT K H' p xs) : RegsAt K H' rs v := by
  obtain ⟨p, e, q, l⟩ := r
  exact ⟨p, e, h _ _ q, l⟩
theorem ShAt.imp {K : PySem.W.Frag} {H H' : Hp} {many : Nat} {rs : List Int} {v : V} (r : ShAt K H many rs v) (h : ∀ p xs, SqT K H p xs → SqT K H' p xs) : ShAt K H' many rs v := by
  obtain ⟨p, e, q, l⟩ := r
  exact ⟨p, e, h _ _ q, l⟩
theorem getD_mem {ns : List Int} {i : Nat} (h : i < ns.length) : ns.getD i 0 ∈ ns := by
  rw [List.getD_eq_getElem?_getD, List.getElem?_eq_getElem h]
  exact List.getElem_mem h

/-! ### promises -/
def spWorth (K : PySem.W.Frag) (n : Nat) : Sp := fun vs H Q _ => ∃ (v r s : V) (e : Ex) (many : Nat) (rs ss : List Int), vs = [v, r, s] ∧ ExAt K H e v ∧ ExOk many e ∧ e.dep ≤ n ∧ RegsAt K H rs r ∧ ShAt K H many ss s ∧ Q (.int (wo rs ss e)) H
def spJoinW : Sp := fun vs H Q _ => ∃ (w : W4) (x y : Int), vs = [.str (wn w), .int x, .int y] ∧ Q (.int (jw w x y)) H
def spLed (K : PySem.W.Frag) : Sp := fun vs H Q _ => ∃ (p : Addr) (r x y : V) (i : Nat) (c : Int) (rs : List Int), vs = [.ref p, r] ∧ SqT K H p [.str "when", .int (i : Int), .int c, x, y] ∧ i < 4 ∧ RegsAt K H rs r ∧ Q (if rs.getD i 0 < c then x else y) H
def spSide (K : PySem.W.Frag) : Sp := fun vs H Q _ => ∃ (p : Addr) (s x y : V) (many j : Nat) (c : Int) (ss : List Int), vs = [.ref p, s] ∧ SqT K H p [.str "where", .int (j : Int), .int c, x, y] ∧ j < many ∧ (1 ≤ c ∧ c ≤ 1000) ∧ ShAt K H many ss s ∧ Q (if 1000 * ss.getD j 0 < c * ss.sum then x else y) H
def spMills (K : PySem.W.Frag) : Sp := fun vs H Q _ => ∃ (s : V) (many j : Nat) (ss : List Int), vs = [s, .int (j : Int)] ∧ ShAt K H many ss s ∧ j < many ∧ Q (.int (1000 * ss.getD j 0 / ss.sum)) H
def cost : Nat → Nat
  | 0 => 6
  | n + 1 => 2 * cost n + 20
theorem cost_ge (l : Nat) : 6 ≤ cost l := by
  cases l with
  | zero => exact Nat.le_refl _
  | succ l =>
    unfold cost
    omega
def spLeaf (K : PySem.W.Frag) : Sp := fun vs H Q _ => ∃ (a : Addr) (many n : Nat), vs = [.ref a, .int (many : Int)] ∧ 1 ≤ many ∧ many ≤ 1000 ∧ HandAt H a n ∧ n ≤ 999999000 ∧
  ∀ H' v e, But a H H' → HandAt H' a (n + 5) → ExAt K H' e v → ExOk many e → e.dep ≤ 1 → Q v H'
def spExpr (K : PySem.W.Frag) (m : Nat) : Sp := fun vs H Q _ => ∃ (a : Addr) (many l n : Nat), vs = [.ref a, .int (many : Int), .int (l : Int), .int 1] ∧ l < m ∧ 1 ≤ many ∧ many ≤ 1000 ∧ HandAt H a n ∧ n + cost l ≤ 999999000 ∧
  ∀ H' v e, But a H H' → HandAt H' a (n + cost l) → ExAt K H' e v → ExOk many e → e.dep ≤ l + 1 → Q v H'
theorem cal_never {P : Program} {w : World} {K : PySem.W.Frag} {mg : Str → Option Value} {base : Heap} {k : Nat} {x qual : Str} {st : Stmt} {f : Addr} {fd : FuncData} {ps : List Str} {sp : Sp} (F : Fun K x qual st f fd) (gF : mg x = some (.ref f)) (b : Binds K fd ps []) (h : ∀ vs H Q E, ¬ sp vs H Q E) : Cal P w K mg base k x sp :=
  ⟨f, fd, ps, ⟨fun vs H Q E q => absurd q (h _ _ _ _), fun A outer s H args us vs Q E _ _ _ _ q => absurd q (h _ _ _ _)⟩, gF, F.kp, b⟩
theorem fn_never {P : Program} {w : World} {K : PySem.W.Frag} {mg : Str → Option Value} {base : Heap} {k : Nat} {f : Addr} {fd : FuncData} {ps : List Str} {sp : Sp} (h : ∀ vs H Q E, ¬ sp vs H Q E) : FnOk P w K mg base CX0 k f fd ps sp :=
  ⟨fun vs H Q E q => absurd q (h _ _ _ _), fun A outer s H args us vs Q E _ _ _ _ q => absurd q (h _ _ _ _)⟩
end NG

namespace NG
open PySem PySem.Spec PyProof.Rows L2

/-! ### the greatest that divides all -/
def gf (g : Nat) (x : Int) : Nat := Nat.gcd g x.toNat
def gl (ns : List Int) : Nat := ns.foldl gf 0
theorem gl_step {ns : List Int} {i : Nat} {x : Int} (h : ns[i]? = some x) : gl (ns.take (i + 1)) = Nat.gcd (gl (ns.take i)) x.toNat := by
  unfold gl
  rw [List.take_add_one, h, List.foldl_append]
  rfl
theorem gf_dvd : ∀ (ns : List Int) (g : Nat), ns.foldl gf g ∣ g ∧ ∀ x ∈ ns, ns.foldl gf g ∣ x.toNat
  | [], g => ⟨Nat.dvd_refl _, fun x h => by cases h⟩
  | y :: ns, g => by
    obtain ⟨h1, h2⟩ := gf_dvd ns (gf g y)
    refine ⟨Nat.dvd_trans h1 (Nat.gcd_dvd_left _ _), fun x hx => ?_⟩
    rcases List.mem_cons.mp hx with rfl | hx
    · exact Nat.dvd_trans h1 (Nat.gcd_dvd_right _ _)
    · exact h2 x hx
theorem gl_dvd {ns : List Int} {x : Int} (h : x ∈ ns) : gl ns ∣ x.toNat := (gf_dvd ns 0).2 x h
theorem gl_pos {ns : List Int} {x : Int} (h : x ∈ ns) (p : 0 < x) : 0 < gl ns := Nat.pos_of_dvd_of_pos (gl_dvd h) (by omega)
theorem sum_nonneg : ∀ {ms : List Int}, (∀ x ∈ ms, 0 ≤ x) → 0 ≤ ms.sum
  | [], _ => by simp
  | y :: ms, h => by
    have := sum_nonneg (ms := ms) fun x hx => h x (List.mem_cons_of_mem _ hx)
    have := h y List.mem_cons_self
    rw [List.sum_cons]
    omega
theorem sum_pos : ∀ {ms : List Int} {x : Int}, (∀ x ∈ ms, 0 ≤ x) → x ∈ ms → 0 < x → 0 < ms.sum
  | y :: ms, x, h, hx, p => by
    have h1 := sum_nonneg (ms := ms) fun x hx => h x (List.mem_cons_of_mem _ hx)
    have h2 := h y List.mem_cons_self
    rw [List.sum_cons]
    rcases List.mem_cons.mp hx with rfl | hx
    · omega
    · have := sum_pos (ms := ms) (fun x hx => h x (List.mem_cons_of_mem _ hx)) hx p
      omega
theorem sum_le {B : Int} : ∀ {ms : List Int}, (∀ x ∈ ms, x ≤ B) → ms.sum ≤ ms.length * B
  | [], _ => by simp
  | y :: ms, h => by
    have h1 := sum_le (ms := ms) fun x hx => h x (List.mem_cons_of_mem _ hx)
    have h2 := h y List.mem_cons_self
    rw [List.sum_cons, List.length_cons, Int.natCast_succ, Int.add_mul]
    omega
theorem div_le_self' {x : Int} {g : Nat} (h : 0 ≤ x) : x / (g : Int) ≤ x := Int.ediv_le_self _ h
/-- what lowest makes -/
def low (ns : List Int) : List Int := ns.map fun x => x / (gl ns : Int)
theorem low_sh {ns : List Int} (hb : ∀ x ∈ ns, 0 ≤ x ∧ x < 2 ^ 50) (hl : ns.length ≤ 1000) {y : Int} (hy : y ∈ ns) (py : 0 < y) :
    (∀ x ∈ low ns, 0 ≤ x ∧ x < 2 ^ 50) ∧ 0 < (low ns).sum ∧ (low ns).sum < 2 ^ 60 := by
  have hg := gl_pos hy py
  have h1 : ∀ x ∈ low ns, 0 ≤ x ∧ x < 2 ^ 50 := fun x hx => by
    obtain ⟨z, hz, rfl⟩ := List.mem_map.mp hx
    have h2 := hb z hz
    exact ⟨Int.ediv_nonneg h2.1 (by omega), Int.lt_of_le_of_lt (div_le_self' h2.1) h2.2⟩
  refine ⟨h1, ?_, ?_⟩
  · refine sum_pos (x := y / (gl ns : Int)) (fun x hx => (h1 x hx).1) (List.mem_map.mpr ⟨y, hy, rfl⟩) ?_
    have hd : (gl ns : Nat) ≤ y.toNat := Nat.le_of_dvd (by omega) (gl_dvd hy)
    exact Int.ediv_pos_of_pos_of_dvd py (by omega) (by
      have : ((gl ns : Nat) : Int) ∣ ((y.toNat : Nat) : Int) := Int.natCast_dvd_natCast.mpr (gl_dvd hy)
      rwa [Int.toNat_of_nonneg (by omega)] at this)
  · have h3 := sum_le (B := 2 ^ 50) (ms := low ns) fun x hx => Int.le_of_lt (h1 x hx).2
    have h4 : (low ns).length ≤ 1000 := by
      unfold low
      rw [List.length_map]
      exact hl
    have h5 : ((low ns).length : Int) * 2 ^ 50 ≤ 1000 * 2 ^ 50 := Int.mul_le_mul_of_nonneg_right (by omega) (by decide)
    have h6 : (1000 : Int) * 2 ^ 50 < 2 ^ 60 := by decide
    omega
theorem gcd_turn {u v : Nat} : Nat.gcd v (u % v) = Nat.gcd u v := by
  rw [Nat.gcd_comm v, ← Nat.gcd_rec, Nat.gcd_comm]
theorem ixN_of {n : Nat} {r : Int} (h0 : 0 ≤ r) (h1 : r < n) : ixN n r = some r.toNat := by
  unfold ixN
  rw [if_pos h0, if_pos h1]

theorem tYes_in {σ : L2.St} {H : Hp} {A B : Hp → Prop} (h : A H) : tYes σ H (fun b H3 => if b = true then A H3 else B H3) := by
  show if true = true then A H else B H
  exact iteT h

/-! ### promises -/
def spLow (K : PySem.W.Frag) : Sp := fun vs H Q _ => ∃ (p : Addr) (ns : List Int) (y : Int), vs = [.ref p] ∧ H p = some (.lst (ns.map V.int)) ∧ (∀ x ∈ ns, 0 ≤ x ∧ x < 2 ^ 50) ∧ ns.length ≤ 1000 ∧ y ∈ ns ∧ 0 < y ∧
  ∀ H' v ms, Same H H' → ShAt K H' ns.length ms v → Q v H'
def spShares (K : PySem.W.Frag) : Sp := fun vs H Q _ => ∃ (a : Addr) (many n : Nat), vs = [.ref a, .int (many : Int)] ∧ 1 ≤ many ∧ many ≤ 3 ∧ HandAt H a n ∧ n ≤ 999998000 ∧
  ∀ H' v ms, But a H H' → HandAt H' a (n + 20) → ShAt K H' many ms v → Q v H'
def spRegs (K : PySem.W.Frag) : Sp := fun vs H Q _ => ∃ (a : Addr) (n : Nat), vs = [.ref a] ∧ HandAt H a n ∧ n ≤ 999998000 ∧
  ∀ H' v rs, But a H H' → HandAt H' a (n + 12) → RegsAt K H' rs v → Q v H'
def spAsked (K : PySem.W.Frag) : Sp := fun vs H Q _ => ∃ (a : Addr) (many n : Nat), vs = [.ref a, .int (many : Int)] ∧ 2 ≤ many ∧ many ≤ 3 ∧ HandAt H a n ∧ n ≤ 999997000 ∧
  ∀ H' v ms, But a H H' → HandAt H' a (n + 25) → ShAt K H' many ms v → Q v H'
end NG

namespace NG
open PySem PySem.Spec PyProof.Rows L2
/-! ### rows of expressions -/
def RowsAt (K : PySem.W.Frag) (H : Hp) : List V → List Ex → Prop
  | [], [] => True
  | v :: vs, e :: es => ExAt K H e v ∧ RowsAt K H vs es
  | _, _ => False
theorem RowsAt.imp {K : PySem.W.Frag} {H H' : Hp} (h : ∀ p xs, SqT K H p xs → SqT K H' p xs) : ∀ {vs : List V} {es : List Ex}, RowsAt K H vs es → RowsAt K H' vs es
  | [], [], _ => trivial
  | _ :: _, _ :: _, ⟨x, r⟩ => ⟨x.imp h, RowsAt.imp h r⟩
theorem RowsAt.same {K : PySem.W.Frag} {H H' : Hp} {vs : List V} {es : List Ex} (r : RowsAt K H vs es) (s : Same H H') : RowsAt K H' vs es := r.imp fun _ _ q => same_sqt s q
theorem RowsAt.len {K : PySem.W.Frag} {H : Hp} : ∀ {vs : List V} {es : List Ex}, RowsAt K H vs es → vs.length = es.length
  | [], [], _ => rfl
  | _ :: _, _ :: _, ⟨_, r⟩ => by rw [List.length_cons, List.length_cons, r.len]
theorem RowsAt.snoc {K : PySem.W.Frag} {H : Hp} {v : V} {e : Ex} (x : ExAt K H e v) : ∀ {vs : List V} {es : List Ex}, RowsAt K H vs es → RowsAt K H (vs ++ [v]) (es ++ [e])
  | [], [], _ => ⟨x, trivial⟩
  | _ :: _, _ :: _, ⟨y, r⟩ => ⟨y, RowsAt.snoc x r⟩
theorem RowsAt.get {K : PySem.W.Frag} {H : Hp} : ∀ {vs : List V} {es : List Ex} {k : Nat} {e : Ex}, RowsAt K H vs es → es[k]? = some e → ∃ v, vs[k]? = some v ∧ ExAt K H e v
  | [], [], _, _, _, h => by simp at h
  | v :: vs, e' :: es, 0, e, ⟨x, r⟩, h => by
    have : e' = e := Option.some.inj h
    subst this
    exact ⟨v, rfl, x⟩
  | v :: vs, e' :: es, k + 1, e, ⟨x, r⟩, h => RowsAt.get (k := k) r h
def pairUp : List Ex → List Ex
  | a :: b :: r => .two .sum a b :: pairUp r
  | _ => []
theorem pairUp_get : ∀ {es : List Ex} {k : Nat} {a b : Ex}, es[2 * k]? = some a → es[2 * k + 1]? = some b → (pairUp es)[k]? = some (.two .sum a b)
  | [], k, _, _, h, _ => by simp at h
  | [_], k, _, _, _, h => by
    have := (List.getElem?_eq_some_iff.mp h).1
    rw [List.length_singleton] at this
    omega
  | x :: y :: r, 0, a, b, h, h2 => by
    have e1 : x = a := Option.some.inj h
    have e2 : y = b := Option.some.inj h2
    rw [← e1, ← e2]
    rfl
  | x :: y :: r, k + 1, a, b, h, h2 => by
    have h : r[2 * k]? = some a := h
    have h2 : r[2 * k + 1]? = some b := h2
    exact pairUp_get (es := r) (k := k) h h2
theorem pairUp_sum (rs ss : List Int) : ∀ {es : List Ex} {k : Nat}, es.length = 2 * k → ((pairUp es).map (wo rs ss)).sum = (es.map (wo rs ss)).sum ∧ (pairUp es).length = k
  | [], k, h => by
    rw [List.length_nil] at h
    exact ⟨rfl, by show 0 = k; omega⟩
  | [_], k, h => by
    rw [List.length_singleton] at h
    omega
  | x :: y :: r, k, h => by
    rw [List.length_cons, List.length_cons] at h
    obtain ⟨h1, h2⟩ := pairUp_sum rs ss (es := r) (k := k - 1) (by omega)
    refine ⟨?_, ?_⟩
    · show (wo rs ss (.two .sum x y) :: (pairUp r).map (wo rs ss)).sum = (wo rs ss x :: wo rs ss y :: r.map (wo rs ss)).sum
      rw [List.sum_cons, List.sum_cons, List.sum_cons, h1]
      show wo rs ss x + wo rs ss y + _ = _
      omega
    · show (pairUp r).length + 1 = k
      omega
theorem pairUp_ok {many d : Nat} : ∀ {es : List Ex}, (∀ e ∈ es, ExOk many e ∧ e.dep ≤ d) → ∀ e ∈ pairUp es, ExOk many e ∧ e.dep ≤ d + 1
  | [], _, e, h => by cases h
  | [_], _, e, h => by cases h
  | x :: y :: r, h, e, he => by
    have hx := h x List.mem_cons_self
    have hy := h y (List.mem_cons_of_mem _ List.mem_cons_self)
    rcases List.mem_cons.mp he with rfl | he
    · refine ⟨⟨hx.1, hy.1⟩, ?_⟩
      show max x.dep y.dep + 1 ≤ d + 1
      omega
    · exact pairUp_ok (es := r) (fun e he => h e (List.mem_cons_of_mem _ (List.mem_cons_of_mem _ he))) e he
def whn (j : Nat) (z : Int) : Ex := .whr j z (.fig 0) (.fig 1)
theorem count_sum (rs ss : List Int) (j : Nat) (h0 : 0 < ss.sum) : ∀ fs : List Int, ((fs.map (whn j)).map (wo rs ss)).sum = ((fs.filter fun z => decide (z ≤ 1000 * ss.getD j 0 / ss.sum)).length : Int) * ss.sum
  | [] => by simp
  | z :: fs => by
    have ih := count_sum rs ss j h0 fs
    have hm : 1000 * ss.getD j 0 / ss.sum < z ↔ 1000 * ss.getD j 0 < z * ss.sum := Int.ediv_lt_iff_lt_mul h0
    show (wo rs ss (whn j z) :: (fs.map (whn j)).map (wo rs ss)).sum = _
    rw [List.sum_cons, ih]
    show (if 1000 * ss.getD j 0 < z * ss.sum then 0 * ss.sum else 1 * ss.sum) + _ = _
    by_cases c : z ≤ 1000 * ss.getD j 0 / ss.sum
    · rw [List.filter_cons_of_pos (by rw [decide_eq_true c]), if_neg (fun q => by have := hm.mpr q; omega), List.length_cons, Int.natCast_succ, Int.add_mul]
      omega
    · rw [List.filter_cons_of_neg (by rw [decide_eq_false c]; exact Bool.false_ne_true), if_pos (hm.mp (by omega))]
      omega
def spCount (K : PySem.W.Frag) : Sp := fun vs H Q _ => ∃ (a : Addr) (many n : Nat) (s : V) (ss : List Int), vs = [.ref a, .int (many : Int), s] ∧ 2 ≤ many ∧ many ≤ 3 ∧ HandAt H a n ∧ n ≤ 999990000 ∧ ShAt K H many ss s ∧
  ∀ H', But a H H' → HandAt H' a (n + 10) → Q (.bl true) H'
end NG

namespace NG
open PySem PySem.Spec PyProof.Rows L2

/-! ### more rules -/
theorem pgtK {X : Cx} (K : PySem.W.Frag) {es : List Expr} {k : Nat} {t : TGs} {n : Nat} {pos : Pos} (hc : X.calm = true) (h : PGs X es t)
    (hn : (assignEach es X.env).length = n := by rfl) (hst : (assignEach es X.env).findIdx? (·.1) = none := by rfl) (hK : X.K = K := by rfl) : PG X (.Tuple es k pos) (gTup K n t) := by
  subst hK
  exact pg_tup hc h hn hst
theorem inK {X : Cx} (K : PySem.W.Frag) (h : X.K = K := by rfl) : OpR X (compareOp .In) (rIn K false) := by
  subst h
  exact op_in_seq
theorem isiK {X : Cx} (K : PySem.W.Frag) (h : X.K = K := by rfl) : CallR X (.builtin "isinstance") (rIsi K) := by
  subst h
  exact call_isi
theorem walk_zipT {K : PySem.W.Frag} {a b : Addr} {xs ys : List V} {n : Nat} (hx : xs.length = n) (hy : ys.length = n) : Walk (RZ.ItzT K a b) n (fun H => SqT K H a xs ∧ SqT K H b ys) (YPair (fun i => xs[i]?) (fun i => ys[i]?)) := by
  refine ⟨fun i H hi q => ?_, fun H q => ⟨xs, ys, q.1, q.2, .inl (by omega)⟩, fun i H v H' hi q y => ?_⟩
  · exact ⟨xs, ys, xs[i]'(by omega), ys[i]'(by omega), q.1, q.2, List.getElem?_eq_getElem _, List.getElem?_eq_getElem _⟩
  · obtain ⟨T, x, z, h1, h2, h3, h4, h5⟩ := y
    exact ⟨T, x, z, h1, h2, h3, h4 xs q.1, h5 ys q.2⟩
def tChain3 (r r' r'' : R2) (ta tb tc td : TE) : TT := fun σ H Q => ta σ H fun x H1 => tb σ H1 fun y H2 => r x y H2 fun z H3 => ∃ k, z = .bl k ∧
  (if k = true then tc σ H3 fun u H4 => r' y u H4 fun z' H5 => ∃ k', z' = .bl k' ∧ (if k' = true then td σ H5 fun v H6 => r'' u v H6 fun z'' H7 => ∃ k'', z'' = .bl k'' ∧ Q k'' H7 else Q false H5) else Q false H3)
theorem pt_chain3 {X : Cx} {a b c d : Expr} {ta tb tc td : TE} {pos : Pos} {o1 o2 o3 : CmpOp} {r1 r2 r3 : R2} (h1 : OpR X (compareOp o1) r1) (h2 : OpR X (compareOp o2) r2) (h3 : OpR X (compareOp o3) r3) (ha : PE X a ta) (hb : PE X b tb) (hc : PE X c tc) (hd : PE X d td)
    (hm : lastMarks [o1, o2, o3] [b, c, d] = false := by with_unfolding_all rfl) : PT X (.Compare a [o1, o2, o3] [b, c, d] pos) (tChain3 r1 r2 r3 ta tb tc td) := by
  refine ⟨fun pins s σ H Q I h => isTrue_chain (thn (ha.run pins s σ H _ I h) fun v1 s1 ⟨x, H1, I1, e1, q1⟩ => test_link (thn (hb.run pins s1 σ H1 _ I1 q1) fun v2 s2 ⟨y, H2, I2, e2, q2⟩ => thn (h1 pins s2 σ H2 x y v1 v2 _ I2 e1 e2 q2) fun v3 s3 ⟨z, H3, I3, e3, k, ek, q3⟩ => ?_)) hm⟩
  subst ek
  cases e3
  refine wpAny_truthy_bool ?_
  cases k with
  | false => exact ite_ff ⟨H3, I3, q3⟩
  | true =>
    refine ite_tt (test_link (thn (hc.run pins s3 σ H3 _ I3 q3) fun v4 s4 ⟨u, H4, I4, e4, q4⟩ => thn (h2 pins s4 σ H4 y u v2 v4 _ I4 e2 e4 q4) fun v5 s5 ⟨z', H5, I5, e5, k', ek', q5⟩ => ?_))
    subst ek'
    cases e5
    refine wpAny_truthy_bool ?_
    cases k' with
    | false => exact ite_ff ⟨H5, I5, q5⟩
    | true =>
      refine ite_tt (test_last (thn (hd.run pins s5 σ H5 _ I5 q5) fun v6 s6 ⟨v, H6, I6, e6, q6⟩ => thn (h3 pins s6 σ H6 u v v4 v6 _ I6 e4 e6 q6) fun v7 s7 ⟨z'', H7, I7, e7, k'', ek'', q7⟩ => ?_))
      subst ek''
      cases e7
      exact wpAny_truthy_bool ⟨H7, I7, q7⟩

/-! ### the shapes of words -/
def shapeOf : Ex → List Str
  | .fig _ => ["figure"]
  | .reg _ => ["place"]
  | .share _ => ["sign"]
  | .two _ _ _ => ["part", "part"]
  | .times _ _ => ["factor", "part"]
  | .by _ _ => ["place", "part"]
  | .when _ _ _ _ => ["place", "figure", "part", "part"]
  | .whr _ _ _ _ => ["sign", "line", "part", "part"]
def wordOf : Ex → Str
  | .fig _ => "fig"
  | .reg _ => "reg"
  | .share _ => "share"
  | .two w _ _ => wn w
  | .times _ _ => "times"
  | .by _ _ => "by"
  | .when _ _ _ _ => "when"
  | .whr _ _ _ _ => "where"
def Shapes (K : PySem.W.Frag) (w : World) (d : Addr) : Prop := ∀ e : Ex, ∃ q, KDct K w d (wordOf e) (.ref q) ∧ ∀ H, SqT K H q ((shapeOf e).map V.str)
def Ex.kids : Ex → List Ex
  | .fig _ => []
  | .reg _ => []
  | .share _ => []
  | .two _ a b => [a, b]
  | .times _ a => [a]
  | .by _ a => [a]
  | .when _ _ a b => [a, b]
  | .whr _ _ a b => [a, b]
/-- the items whose kind is a part -/
def pk : List Str → List V → List V
  | k :: ks, v :: vs => if V.str k = V.str "part" then v :: pk ks vs else pk ks vs
  | _, _ => []
theorem pk_snoc : ∀ {ks : List Str} {vs : List V} {i : Nat} {k : Str} {v : V}, ks[i]? = some k → vs[i]? = some v → pk (ks.take (i + 1)) (vs.take (i + 1)) = pk (ks.take i) (vs.take i) ++ (if V.str k = V.str "part" then [v] else [])
  | [], _, i, _, _, h, _ => by simp at h
  | _ :: _, [], i, _, _, _, h => by simp at h
  | k0 :: ks, v0 :: vs, 0, k, v, h, h2 => by
    have e1 : k0 = k := Option.some.inj h
    have e2 : v0 = v := Option.some.inj h2
    subst e1 e2
    show (if V.str k0 = V.str "part" then v0 :: pk (ks.take 0) (vs.take 0) else pk (ks.take 0) (vs.take 0)) = _
    split <;> rfl
  | k0 :: ks, v0 :: vs, i + 1, k, v, h, h2 => by
    have ih := pk_snoc (ks := ks) (vs := vs) (i := i) h h2
    show (if V.str k0 = V.str "part" then v0 :: pk (ks.take (i + 1)) (vs.take (i + 1)) else pk (ks.take (i + 1)) (vs.take (i + 1))) = (if V.str k0 = V.str "part" then v0 :: pk (ks.take i) (vs.take i) else pk (ks.take i) (vs.take i)) ++ _
    rw [ih]
    split <;> rfl
/-- how an expression lies: its word, then what belongs there -/
theorem ExAt.lies {K : PySem.W.Frag} {H : Hp} : ∀ {e : Ex} {v : V}, ExAt K H e v → ∃ (p : Addr) (xs : List V), v = .ref p ∧ SqT K H p (.str (wordOf e) :: xs) ∧ xs.length = (shapeOf e).length ∧ xs.length ≤ 4 ∧ 0 < xs.length ∧ RowsAt K H (pk (shapeOf e) xs) e.kids
  | .fig _, _, ⟨p, e, q⟩ => ⟨p, _, e, q, rfl, by simp, by simp, trivial⟩
  | .reg _, _, ⟨p, e, q⟩ => ⟨p, _, e, q, rfl, by simp, by simp, trivial⟩
  | .share _, _, ⟨p, e, q⟩ => ⟨p, _, e, q, rfl, by simp, by simp, trivial⟩
  | .two _ _ _, _, ⟨p, x, y, e, q, a, b⟩ => ⟨p, _, e, q, rfl, by simp, by simp, a, b, trivial⟩
  | .times _ _, _, ⟨p, x, e, q, a⟩ => ⟨p, _, e, q, rfl, by simp, by simp, a, trivial⟩
  | .by _ _, _, ⟨p, x, e, q, a⟩ => ⟨p, _, e, q, rfl, by simp, by simp, a, trivial⟩
  | .when _ _ _ _, _, ⟨p, x, y, e, q, a, b⟩ => ⟨p, _, e, q, rfl, by simp, by simp, a, b, trivial⟩
  | .whr _ _ _ _, _, ⟨p, x, y, e, q, a, b⟩ => ⟨p, _, e, q, rfl, by simp, by simp, a, b, trivial⟩
theorem pk_len : ∀ (ks : List Str) (vs : List V), (pk ks vs).length ≤ vs.length
  | [], vs => by
    unfold pk
    exact Nat.zero_le _
  | _ :: _, [] => Nat.le_refl _
  | k :: ks, v :: vs => by
    have := pk_len ks vs
    unfold pk
    split
    · rw [List.length_cons, List.length_cons]
      omega
    · rw [List.length_cons]
      omega

/-! ### spans -/
def mn (x y : Int) : Int := if y < x then y else x
def mx (x y : Int) : Int := if y > x then y else x
theorem mn_le (x y : Int) : mn x y ≤ x ∧ mn x y ≤ y := by unfold mn; split <;> omega
theorem le_mx (x y : Int) : x ≤ mx x y ∧ y ≤ mx x y := by unfold mx; split <;> omega
theorem mn_or (x y : Int) : mn x y = x ∨ mn x y = y := by unfold mn; split <;> simp
theorem mx_or (x y : Int) : mx x y = x ∨ mx x y = y := by unfold mx; split <;> simp
def ab (x : Int) : Int := if x < 0 then -x else x
def js : W4 → Int × Int → Int × Int → Int × Int
  | .sum, x, y => (x.1 + y.1, x.2 + y.2)
  | .less, x, y => (x.1 - y.2, x.2 - y.1)
  | .least, x, y => (mn x.1 y.1, mn x.2 y.2)
  | .most, x, y => (mx x.1 y.1, mx x.2 y.2)
def spn : Ex → Int × Int
  | .fig c => (c, c)
  | .reg _ => (-1000, 1000)
  | .share _ => (0, 1000)
  | .two w a b => js w (spn a) (spn b)
  | .times f a => (mn (f * (spn a).1) (f * (spn a).2), mx (f * (spn a).1) (f * (spn a).2))
  | .by _ a => (-1000 * mx (ab (spn a).1) (ab (spn a).2), 1000 * mx (ab (spn a).1) (ab (spn a).2))
  | .when _ _ a b => (mn (spn a).1 (spn b).1, mx (spn a).2 (spn b).2)
  | .whr _ _ a b => (mn (spn a).1 (spn b).1, mx (spn a).2 (spn b).2)
def SpAt (K : PySem.W.Frag) (H : Hp) (s : Int × Int) (v : V) : Prop := ∃ p, v = .ref p ∧ SqT K H p [.int s.1, .int s.2]
def SpsAt (K : PySem.W.Frag) (H : Hp) : List V → List (Int × Int) → Prop
  | [], [] => True
  | v :: vs, s :: ss => SpAt K H s v ∧ SpsAt K H vs ss
  | _, _ => False
theorem SpsAt.imp {K : PySem.W.Frag} {H H' : Hp} (h : ∀ p xs, SqT K H p xs → SqT K H' p xs) : ∀ {vs : List V} {ss : List (Int × Int)}, SpsAt K H vs ss → SpsAt K H' vs ss
  | [], [], _ => trivial
  | _ :: _, _ :: _, ⟨⟨p, e, q⟩, r⟩ => ⟨⟨p, e, h _ _ q⟩, SpsAt.imp h r⟩
theorem SpsAt.snoc {K : PySem.W.Frag} {H : Hp} {v : V} {s : Int × Int} (x : SpAt K H s v) : ∀ {vs : List V} {ss : List (Int × Int)}, SpsAt K H vs ss → SpsAt K H (vs ++ [v]) (ss ++ [s])
  | [], [], _ => ⟨x, trivial⟩
  | _ :: _, _ :: _, ⟨y, r⟩ => ⟨y, SpsAt.snoc x r⟩
theorem SpsAt.len {K : PySem.W.Frag} {H : Hp} : ∀ {vs : List V} {ss : List (Int × Int)}, SpsAt K H vs ss → vs.length = ss.length
  | [], [], _ => rfl
  | _ :: _, _ :: _, ⟨_, r⟩ => by rw [List.length_cons, List.length_cons, r.len]

theorem int_at {ns : List Int} {i : Nat} {v : V} (h : (ns.map V.int)[i]? = some v) : ∃ z : Int, v = .int z ∧ ns[i]? = some z := by
  rw [List.getElem?_map] at h
  cases e : ns[i]? with
  | none => rw [e] at h; cases h
  | some z => rw [e] at h; exact ⟨z, (Option.some.inj h).symm, rfl⟩
theorem SpsAt.one {K : PySem.W.Frag} {H : Hp} {us : List V} {s : Int × Int} (h : SpsAt K H us [s]) : ∃ p, us = [.ref p] ∧ SqT K H p [.int s.1, .int s.2] := by
  cases us with
  | nil => exact h.elim
  | cons u r =>
    cases r with
    | nil =>
      obtain ⟨⟨p, e, q⟩, _⟩ := h
      exact ⟨p, by rw [e], q⟩
    | cons _ _ => exact h.2.elim
theorem SpsAt.pair {K : PySem.W.Frag} {H : Hp} {us : List V} {s t : Int × Int} (h : SpsAt K H us [s, t]) : ∃ p q, us = [.ref p, .ref q] ∧ SqT K H p [.int s.1, .int s.2] ∧ SqT K H q [.int t.1, .int t.2] := by
  cases us with
  | nil => exact h.elim
  | cons u r =>
    obtain ⟨⟨p, e, q⟩, h2⟩ := h
    obtain ⟨p2, e2, q2⟩ := SpsAt.one h2
    exact ⟨p, p2, by rw [e, e2], q, q2⟩
theorem put_sqt {K : PySem.W.Frag} {H : Hp} {D p : Addr} {us us' xs : List V} (h : H D = some (.lst us)) (q : SqT K H p xs) : SqT K (upd H D (.lst us')) p xs := by
  rcases q with (q | ⟨o, q⟩) | q
  · exact .inl (.inl (by rw [upd_ne (ne_of q h (by intro z; cases z))]; exact q))
  · exact .inl (.inr ⟨o, by rw [upd_ne (ne_of q h (by intro z; cases z))]; exact q⟩)
  · exact .inr q
theorem RowsAt.get' {K : PySem.W.Frag} {H : Hp} : ∀ {vs : List V} {es : List Ex} {k : Nat} {v : V}, RowsAt K H vs es → vs[k]? = some v → ∃ e, es[k]? = some e ∧ ExAt K H e v
  | [], [], _, _, _, h => by simp at h
  | v' :: vs, e :: es, 0, v, ⟨x, r⟩, h => by
    have : v' = v := Option.some.inj h
    subst this
    exact ⟨e, rfl, x⟩
  | v' :: vs, e :: es, k + 1, v, ⟨x, r⟩, h => RowsAt.get' (k := k) r h
theorem mn_of {m a b : Int} (h : m ∈ [a, b]) (hl : ∀ y ∈ [a, b], m ≤ y) : m = mn a b := by
  have h1 := hl a (by simp)
  have h2 := hl b (by simp)
  simp only [List.mem_cons, List.not_mem_nil, or_false] at h
  unfold mn
  split <;> omega
theorem mx_of {m a b : Int} (h : m ∈ [a, b]) (hl : ∀ y ∈ [a, b], y ≤ m) : m = mx a b := by
  have h1 := hl a (by simp)
  have h2 := hl b (by simp)
  simp only [List.mem_cons, List.not_mem_nil, or_false] at h
  unfold mx
  split <;> omega

/-! ### promises -/
def spParts (K : PySem.W.Frag) : Sp := fun vs H Q _ => ∃ (v : V) (e : Ex), vs = [v] ∧ ExAt K H e v ∧ ∀ H' p xs, Same H H' → H p = none → H' p = some (.lst xs) → RowsAt K H' xs e.kids → Q (.ref p) H'
def spJoinS (K : PySem.W.Frag) : Sp := fun vs H Q _ => ∃ (e : Ex) (x y : V) (s t : Int × Int), vs = [.str (wordOf e), x, y] ∧ SpAt K H s x ∧ SpAt K H t y ∧
  ((∃ w a b, e = .two w a b ∧ ∀ H' v, Same H H' → SpAt K H' (js w s t) v → Q v H') ∨ ((∃ i c a b, e = .when i c a b) ∨ (∃ i c a b, e = .whr i c a b)) ∧ ∀ H' v, Same H H' → SpAt K H' (mn s.1 t.1, mx s.2 t.2) v → Q v H')
def spSpan (K : PySem.W.Frag) (n : Nat) : Sp := fun vs H Q _ => ∃ (v : V) (e : Ex) (many : Nat), vs = [v] ∧ ExAt K H e v ∧ ExOk many e ∧ e.dep ≤ n ∧ ∀ H' u, Same H H' → SpAt K H' (spn e) u → Q u H'
theorem kids_dep : ∀ (e : Ex) (k : Ex), k ∈ e.kids → k.dep + 1 ≤ e.dep
  | .fig _, k, h => by cases h
  | .reg _, k, h => by cases h
  | .share _, k, h => by cases h
  | .two w0 a b, k, h => by
    simp only [Ex.kids, List.mem_cons, List.not_mem_nil, or_false] at h
    have e : Ex.dep (.two w0 a b) = max a.dep b.dep + 1 := rfl
    rw [e]
    rcases h with rfl | rfl <;> omega
  | .times _ a, k, h => by
    simp only [Ex.kids, List.mem_cons, List.not_mem_nil, or_false] at h
    subst h
    exact Nat.le_refl _
  | .by _ a, k, h => by
    simp only [Ex.kids, List.mem_cons, List.not_mem_nil, or_false] at h
    subst h
    exact Nat.le_refl _
  | .when i0 c0 a b, k, h => by
    simp only [Ex.kids, List.mem_cons, List.not_mem_nil, or_false] at h
    have e : Ex.dep (.when i0 c0 a b) = max a.dep b.dep + 1 := rfl
    rw [e]
    rcases h with rfl | rfl <;> omega
  | .whr i0 c0 a b, k, h => by
    simp only [Ex.kids, List.mem_cons, List.not_mem_nil, or_false] at h
    have e : Ex.dep (.whr i0 c0 a b) = max a.dep b.dep + 1 := rfl
    rw [e]
    rcases h with rfl | rfl <;> omega
theorem kids_ok {many : Nat} : ∀ (e : Ex) (k : Ex), ExOk many e → k ∈ e.kids → ExOk many k
  | .fig _, k, _, h => by cases h
  | .reg _, k, _, h => by cases h
  | .share _, k, _, h => by cases h
  | .two _ a b, k, o, h => by
    simp only [Ex.kids, List.mem_cons, List.not_mem_nil, or_false] at h
    rcases h with rfl | rfl
    · exact o.1
    · exact o.2
  | .times _ a, k, o, h => by
    simp only [Ex.kids, List.mem_cons, List.not_mem_nil, or_false] at h
    subst h
    exact o.2
  | .by _ a, k, o, h => by
    simp only [Ex.kids, List.mem_cons, List.not_mem_nil, or_false] at h
    subst h
    exact o.2
  | .when _ _ a b, k, o, h => by
    simp only [Ex.kids, List.mem_cons, List.not_mem_nil, or_false] at h
    rcases h with rfl | rfl
    · exact o.2.2.1
    · exact o.2.2.2
  | .whr _ _ a b, k, o, h => by
    simp only [Ex.kids, List.mem_cons, List.not_mem_nil, or_false] at h
    rcases h with rfl | rfl
    · exact o.2.2.1
    · exact o.2.2.2
end NG

namespace NG
open PySem PySem.Spec PyProof.Rows L2
/-! ### what stands around an expression -/
inductive Cx1 where
  | l (w : W4) (x : Ex) | r (w : W4) (x : Ex) | times (f : Int) | by (i : Nat)
  | whenL (i : Nat) (c : Int) (x : Ex) | whenR (i : Nat) (c : Int) (x : Ex) | whrL (j : Nat) (c : Int) (x : Ex) | whrR (j : Nat) (c : Int) (x : Ex)
def Cx1.put : Cx1 → Ex → Ex
  | .l w x, e => .two w e x
  | .r w x, e => .two w x e
  | .times f, e => .times f e
  | .by i, e => .by i e
  | .whenL i c x, e => .when i c e x
  | .whenR i c x, e => .when i c x e
  | .whrL j c x, e => .whr j c e x
  | .whrR j c x, e => .whr j c x e
def Cx1.lay (u : V) : Cx1 → List V × List V
  | .l w _ => ([.str (wn w)], [u])
  | .r w _ => ([.str (wn w), u], [])
  | .times f => ([.str "times", .int f], [])
  | .by i => ([.str "by", .int (i : Int)], [])
  | .whenL i c _ => ([.str "when", .int (i : Int), .int c], [u])
  | .whenR i c _ => ([.str "when", .int (i : Int), .int c, u], [])
  | .whrL j c _ => ([.str "where", .int (j : Int), .int c], [u])
  | .whrR j c _ => ([.str "where", .int (j : Int), .int c, u], [])
def Cx1.leaf (K : PySem.W.Frag) (H : Hp) (u : V) : Cx1 → Prop
  | .l _ x => ExAt K H x u
  | .r _ x => ExAt K H x u
  | .times _ => True
  | .by _ => True
  | .whenL _ _ x => ExAt K H x u
  | .whenR _ _ x => ExAt K H x u
  | .whrL _ _ x => ExAt K H x u
  | .whrR _ _ x => ExAt K H x u
def Cx1.ok (many : Nat) : Cx1 → Prop
  | .l _ x => ExOk many x ∧ x.dep ≤ 1
  | .r _ x => ExOk many x ∧ x.dep ≤ 1
  | .times f => -9 ≤ f ∧ f ≤ 9
  | .by i => i < 4
  | .whenL i c x => i < 4 ∧ (-1000 ≤ c ∧ c ≤ 1000) ∧ ExOk many x ∧ x.dep ≤ 1
  | .whenR i c x => i < 4 ∧ (-1000 ≤ c ∧ c ≤ 1000) ∧ ExOk many x ∧ x.dep ≤ 1
  | .whrL j c x => j < many ∧ (1 ≤ c ∧ c ≤ 1000) ∧ ExOk many x ∧ x.dep ≤ 1
  | .whrR j c x => j < many ∧ (1 ≤ c ∧ c ≤ 1000) ∧ ExOk many x ∧ x.dep ≤ 1
def CtxAt (K : PySem.W.Frag) (H : Hp) (c : Cx1) (v : V) : Prop := ∃ (p pa pr : Addr) (u : V), v = .ref p ∧ SqT K H p [.ref pa, .ref pr] ∧ SqT K H pa (c.lay u).1 ∧ SqT K H pr (c.lay u).2 ∧ c.leaf K H u
theorem CtxAt.imp {K : PySem.W.Frag} {H H' : Hp} {c : Cx1} {v : V} (x : CtxAt K H c v) (h : ∀ p xs, SqT K H p xs → SqT K H' p xs) : CtxAt K H' c v := by
  obtain ⟨p, pa, pr, u, e, q1, q2, q3, lf⟩ := x
  refine ⟨p, pa, pr, u, e, h _ _ q1, h _ _ q2, h _ _ q3, ?_⟩
  cases c with
  | l w x => exact ExAt.imp h lf
  | r w x => exact ExAt.imp h lf
  | times f => trivial
  | «by» i => trivial
  | whenL i c x => exact ExAt.imp h lf
  | whenR i c x => exact ExAt.imp h lf
  | whrL i c x => exact ExAt.imp h lf
  | whrR i c x => exact ExAt.imp h lf
def CtxsAt (K : PySem.W.Frag) (H : Hp) : List V → List Cx1 → Prop
  | [], [] => True
  | v :: vs, c :: cs => CtxAt K H c v ∧ CtxsAt K H vs cs
  | _, _ => False
theorem CtxsAt.imp {K : PySem.W.Frag} {H H' : Hp} (h : ∀ p xs, SqT K H p xs → SqT K H' p xs) : ∀ {vs : List V} {cs : List Cx1}, CtxsAt K H vs cs → CtxsAt K H' vs cs
  | [], [], _ => trivial
  | _ :: _, _ :: _, ⟨x, r⟩ => ⟨x.imp h, CtxsAt.imp h r⟩
theorem CtxsAt.len {K : PySem.W.Frag} {H : Hp} : ∀ {vs : List V} {cs : List Cx1}, CtxsAt K H vs cs → vs.length = cs.length
  | [], [], _ => rfl
  | _ :: _, _ :: _, ⟨_, r⟩ => by rw [List.length_cons, List.length_cons, r.len]
theorem CtxsAt.snoc {K : PySem.W.Frag} {H : Hp} {v : V} {c : Cx1} (x : CtxAt K H c v) : ∀ {vs : List V} {cs : List Cx1}, CtxsAt K H vs cs → CtxsAt K H (vs ++ [v]) (cs ++ [c])
  | [], [], _ => ⟨x, trivial⟩
  | _ :: _, _ :: _, ⟨y, r⟩ => ⟨y, CtxsAt.snoc x r⟩
theorem CtxsAt.get' {K : PySem.W.Frag} {H : Hp} : ∀ {vs : List V} {cs : List Cx1} {k : Nat} {v : V}, CtxsAt K H vs cs → vs[k]? = some v → ∃ c, cs[k]? = some c ∧ CtxAt K H c v
  | [], [], _, _, _, h => by simp at h
  | v' :: vs, e :: es, 0, v, ⟨x, r⟩, h => by
    have : v' = v := Option.some.inj h
    subst this
    exact ⟨e, rfl, x⟩
  | v' :: vs, e :: es, k + 1, v, ⟨x, r⟩, h => CtxsAt.get' (k := k) r h
theorem put_at {K : PySem.W.Frag} {H : Hp} {c : Cx1} {u v : V} {e : Ex} {p : Addr} (hp : SqT K H p ((c.lay u).1 ++ [v] ++ (c.lay u).2)) (lf : c.leaf K H u) (he : ExAt K H e v) : ExAt K H (c.put e) (.ref p) := by
  cases c with
  | l w x => exact ⟨p, v, u, rfl, hp, he, lf⟩
  | r w x => exact ⟨p, u, v, rfl, hp, lf, he⟩
  | times f => exact ⟨p, v, rfl, hp, he⟩
  | «by» i => exact ⟨p, v, rfl, hp, he⟩
  | whenL i c x => exact ⟨p, v, u, rfl, hp, he, lf⟩
  | whenR i c x => exact ⟨p, u, v, rfl, hp, lf, he⟩
  | whrL i c x => exact ⟨p, v, u, rfl, hp, he, lf⟩
  | whrR i c x => exact ⟨p, u, v, rfl, hp, lf, he⟩
theorem put_ok {many : Nat} {c : Cx1} {e : Ex} (o : c.ok many) (oe : ExOk many e) : ExOk many (c.put e) := by
  cases c with
  | l w x => exact ⟨oe, o.1⟩
  | r w x => exact ⟨o.1, oe⟩
  | times f => exact ⟨o, oe⟩
  | «by» i => exact ⟨o, oe⟩
  | whenL i c x => exact ⟨o.1, o.2.1, oe, o.2.2.1⟩
  | whenR i c x => exact ⟨o.1, o.2.1, o.2.2.1, oe⟩
  | whrL i c x => exact ⟨o.1, o.2.1, oe, o.2.2.1⟩
  | whrR i c x => exact ⟨o.1, o.2.1, o.2.2.1, oe⟩
theorem dep_pos (e : Ex) : 1 ≤ e.dep := by cases e <;> (unfold Ex.dep; omega)
theorem put_dep {many : Nat} {c : Cx1} {e : Ex} (o : c.ok many) : (c.put e).dep ≤ e.dep + 1 := by
  have he := dep_pos e
  cases c with
  | l w x => show max e.dep x.dep + 1 ≤ _; have := o.2; omega
  | r w x => show max x.dep e.dep + 1 ≤ _; have := o.2; omega
  | times f => exact Nat.le_refl _
  | «by» i => exact Nat.le_refl _
  | whenL i c x => show max e.dep x.dep + 1 ≤ _; have := o.2.2.2; omega
  | whenR i c x => show max x.dep e.dep + 1 ≤ _; have := o.2.2.2; omega
  | whrL i c x => show max e.dep x.dep + 1 ≤ _; have := o.2.2.2; omega
  | whrR i c x => show max x.dep e.dep + 1 ≤ _; have := o.2.2.2; omega
def putAll (cs : List Cx1) (e : Ex) : Ex := cs.foldl (fun e c => c.put e) e
theorem putAll_ok {many : Nat} : ∀ {cs : List Cx1} {e : Ex}, (∀ c ∈ cs, c.ok many) → ExOk many e → ExOk many (putAll cs e)
  | [], _, _, h => h
  | c :: cs, e, o, h => putAll_ok (cs := cs) (e := c.put e) (fun c' h' => o c' (List.mem_cons_of_mem _ h')) (put_ok (o c List.mem_cons_self) h)
theorem putAll_dep {many : Nat} : ∀ {cs : List Cx1} {e : Ex}, (∀ c ∈ cs, c.ok many) → (putAll cs e).dep ≤ e.dep + cs.length
  | [], _, _ => Nat.le_refl _
  | c :: cs, e, o => by
    have h1 := putAll_dep (cs := cs) (e := c.put e) (fun c' h' => o c' (List.mem_cons_of_mem _ h'))
    have h2 := put_dep (e := e) (o c List.mem_cons_self)
    show (putAll cs (c.put e)).dep ≤ _
    rw [List.length_cons]
    omega
def fac1 (rs : List Int) (F : Int) : Cx1 → Int
  | .times f => F * f
  | .by i => F * rs.getD i 0
  | .r .less _ => 0 - F
  | _ => F
def fac (rs : List Int) (cs : List Cx1) : Int := cs.foldl (fac1 rs) 1

/-! ### a greater part put in -/
def Btw (d m : Int) : Prop := (0 ≤ d ∧ d ≤ m) ∨ (m ≤ d ∧ d ≤ 0)
theorem btw_mul {f d m : Int} (h : Btw d m) : Btw (f * d) (f * m) := by
  rcases Int.le_total 0 f with hf | hf
  · rcases h with ⟨h1, h2⟩ | ⟨h1, h2⟩
    · exact .inl ⟨Int.mul_nonneg hf h1, Int.mul_le_mul_of_nonneg_left h2 hf⟩
    · exact .inr ⟨Int.mul_le_mul_of_nonneg_left h1 hf, Int.mul_nonpos_of_nonneg_of_nonpos hf h2⟩
  · rcases h with ⟨h1, h2⟩ | ⟨h1, h2⟩
    · exact .inr ⟨Int.mul_le_mul_of_nonpos_left hf h2, Int.mul_nonpos_of_nonpos_of_nonneg hf h1⟩
    · exact .inl ⟨Int.mul_nonneg_of_nonpos_of_nonpos hf h2, Int.mul_le_mul_of_nonpos_left hf h1⟩
theorem btw_zero {m : Int} : Btw 0 m := by
  unfold Btw
  omega
theorem btw_jw {d m x y z : Int} (w : W4) (h : Btw d m) (e : d = y - x) (hw : w ≠ .less) : Btw (jw w y z - jw w x z) m := by
  unfold Btw at *
  cases w with
  | sum => simp only [jw]; omega
  | less => exact absurd rfl hw
  | least => simp only [jw]; split <;> split <;> omega
  | most => simp only [jw]; split <;> split <;> omega
theorem btw_jw' {d m x y z : Int} (w : W4) (h : Btw d m) (e : d = y - x) (hw : w ≠ .less) : Btw (jw w z y - jw w z x) m := by
  unfold Btw at *
  cases w with
  | sum => simp only [jw]; omega
  | less => exact absurd rfl hw
  | least => simp only [jw]; split <;> split <;> omega
  | most => simp only [jw]; split <;> split <;> omega
theorem btw_step {rs ss : List Int} {c : Cx1} {e1 e2 : Ex} {F P : Int} (h : Btw (wo rs ss e2 - wo rs ss e1) (F * P)) : Btw (wo rs ss (c.put e2) - wo rs ss (c.put e1)) (fac1 rs F c * P) := by
  cases c with
  | l w x =>
    cases w with
    | less =>
      show Btw ((wo rs ss e2 - wo rs ss x) - (wo rs ss e1 - wo rs ss x)) (F * P)
      rw [show (wo rs ss e2 - wo rs ss x) - (wo rs ss e1 - wo rs ss x) = wo rs ss e2 - wo rs ss e1 by omega]
      exact h
    | sum => exact btw_jw .sum h rfl (by simp)
    | least => exact btw_jw .least h rfl (by simp)
    | most => exact btw_jw .most h rfl (by simp)
  | r w x =>
    cases w with
    | less =>
      show Btw ((wo rs ss x - wo rs ss e2) - (wo rs ss x - wo rs ss e1)) ((0 - F) * P)
      rw [Int.sub_mul, Int.zero_mul]
      unfold Btw at *
      omega
    | sum => exact btw_jw' .sum h rfl (by simp)
    | least => exact btw_jw' .least h rfl (by simp)
    | most => exact btw_jw' .most h rfl (by simp)
  | times f =>
    show Btw (f * wo rs ss e2 - f * wo rs ss e1) (F * f * P)
    rw [← Int.mul_sub, Int.mul_comm F f, Int.mul_assoc]
    exact btw_mul h
  | «by» i =>
    show Btw (rs.getD i 0 * wo rs ss e2 - rs.getD i 0 * wo rs ss e1) (F * rs.getD i 0 * P)
    rw [← Int.mul_sub, Int.mul_comm F, Int.mul_assoc]
    exact btw_mul h
  | whenL i c x =>
    show Btw ((if rs.getD i 0 < c then wo rs ss e2 else wo rs ss x) - (if rs.getD i 0 < c then wo rs ss e1 else wo rs ss x)) (F * P)
    split
    · exact h
    · rw [Int.sub_self]
      exact btw_zero
  | whenR i c x =>
    show Btw ((if rs.getD i 0 < c then wo rs ss x else wo rs ss e2) - (if rs.getD i 0 < c then wo rs ss x else wo rs ss e1)) (F * P)
    split
    · rw [Int.sub_self]
      exact btw_zero
    · exact h
  | whrL j c x =>
    show Btw ((if 1000 * ss.getD j 0 < c * ss.sum then wo rs ss e2 else wo rs ss x) - (if 1000 * ss.getD j 0 < c * ss.sum then wo rs ss e1 else wo rs ss x)) (F * P)
    split
    · exact h
    · rw [Int.sub_self]
      exact btw_zero
  | whrR j c x =>
    show Btw ((if 1000 * ss.getD j 0 < c * ss.sum then wo rs ss x else wo rs ss e2) - (if 1000 * ss.getD j 0 < c * ss.sum then wo rs ss x else wo rs ss e1)) (F * P)
    split
    · rw [Int.sub_self]
      exact btw_zero
    · exact h
theorem btw_all {rs ss : List Int} {P : Int} : ∀ {cs : List Cx1} {e1 e2 : Ex} {F : Int}, Btw (wo rs ss e2 - wo rs ss e1) (F * P) → Btw (wo rs ss (putAll cs e2) - wo rs ss (putAll cs e1)) (cs.foldl (fac1 rs) F * P)
  | [], _, _, _, h => h
  | c :: cs, e1, e2, F, h => btw_all (cs := cs) (e1 := c.put e1) (e2 := c.put e2) (F := fac1 rs F c) (btw_step h)
theorem moved {rs ss : List Int} {cs : List Cx1} {e : Ex} {p : Int} (h : 0 ≤ p * ss.sum) : Btw (wo rs ss (putAll cs (.two .sum e (.fig p))) - wo rs ss (putAll cs e)) (fac rs cs * p * ss.sum) := by
  rw [Int.mul_assoc]
  refine btw_all (F := 1) ?_
  show Btw (wo rs ss e + p * ss.sum - wo rs ss e) (1 * (p * ss.sum))
  rw [Int.one_mul]
  unfold Btw
  omega

/-! ### worths lie in their spans -/
theorem le_sum : ∀ {ss : List Int} {j : Nat}, (∀ x ∈ ss, 0 ≤ x) → j < ss.length → ss.getD j 0 ≤ ss.sum
  | [], _, _, h => by simp at h
  | x :: ss, 0, h, _ => by
    have := sum_nonneg (ms := ss) fun y hy => h y (List.mem_cons_of_mem _ hy)
    show x ≤ (x :: ss).sum
    rw [List.sum_cons]
    omega
  | x :: ss, j + 1, h, hj => by
    have h1 := le_sum (ss := ss) (j := j) (fun y hy => h y (List.mem_cons_of_mem _ hy)) (by simpa using hj)
    have h2 := h x List.mem_cons_self
    show ss.getD j 0 ≤ (x :: ss).sum
    rw [List.sum_cons]
    omega
theorem spn_le : ∀ e : Ex, (spn e).1 ≤ (spn e).2
  | .fig _ => Int.le_refl _
  | .reg _ => by
    show (-1000 : Int) ≤ 1000
    decide
  | .share _ => by
    show (0 : Int) ≤ 1000
    decide
  | .two w a b => by
    have ha := spn_le a
    have hb := spn_le b
    show (js w (spn a) (spn b)).1 ≤ (js w (spn a) (spn b)).2
    cases w with
    | sum => show _ + _ ≤ _ + _; omega
    | less => show _ - _ ≤ _ - _; omega
    | least => show mn _ _ ≤ mn _ _; unfold mn; split <;> split <;> omega
    | most => show mx _ _ ≤ mx _ _; unfold mx; split <;> split <;> omega
  | .times f a => by
    show mn _ _ ≤ mx _ _
    unfold mn mx
    split <;> split <;> omega
  | .by _ a => by
    have h1 : 0 ≤ ab (spn a).1 := by unfold ab; split <;> omega
    have h2 := le_mx (ab (spn a).1) (ab (spn a).2)
    show -1000 * _ ≤ 1000 * _
    omega
  | .when _ _ a b => by
    have ha := spn_le a
    have h1 := mn_le (spn a).1 (spn b).1
    have h2 := le_mx (spn a).2 (spn b).2
    show mn _ _ ≤ mx _ _
    omega
  | .whr _ _ a b => by
    have ha := spn_le a
    have h1 := mn_le (spn a).1 (spn b).1
    have h2 := le_mx (spn a).2 (spn b).2
    show mn _ _ ≤ mx _ _
    omega
theorem mulr_le {a b n : Int} (h : a ≤ b) (hn : 0 ≤ n) : a * n ≤ b * n := Int.mul_le_mul_of_nonneg_right h hn
theorem in_span {many : Nat} {rs ss : List Int} (hr : rs.length = 4) (hrb : ∀ x ∈ rs, -1000 ≤ x ∧ x ≤ 1000) (hs : ss.length = many) (hsb : ∀ x ∈ ss, 0 ≤ x) : ∀ e : Ex, ExOk many e → (spn e).1 * ss.sum ≤ wo rs ss e ∧ wo rs ss e ≤ (spn e).2 * ss.sum
  | .fig c, _ => ⟨Int.le_refl _, Int.le_refl _⟩
  | .reg i, o => by
    have hn := sum_nonneg hsb
    have h := hrb _ (getD_mem (ns := rs) (i := i) (by rw [hr]; exact o))
    exact ⟨mulr_le h.1 hn, mulr_le h.2 hn⟩
  | .share j, o => by
    have o : j < many := o
    have h1 := le_sum (j := j) hsb (by omega)
    have h2 := hsb _ (getD_mem (ns := ss) (i := j) (by omega))
    show 0 * ss.sum ≤ 1000 * ss.getD j 0 ∧ 1000 * ss.getD j 0 ≤ 1000 * ss.sum
    omega
  | .two w a b, o => by
    have ha := in_span hr hrb hs hsb a o.1
    have hb := in_span hr hrb hs hsb b o.2
    have hn := sum_nonneg hsb
    show (js w (spn a) (spn b)).1 * ss.sum ≤ jw w (wo rs ss a) (wo rs ss b) ∧ jw w (wo rs ss a) (wo rs ss b) ≤ (js w (spn a) (spn b)).2 * ss.sum
    cases w with
    | sum =>
      show ((spn a).1 + (spn b).1) * ss.sum ≤ wo rs ss a + wo rs ss b ∧ wo rs ss a + wo rs ss b ≤ ((spn a).2 + (spn b).2) * ss.sum
      rw [Int.add_mul, Int.add_mul]
      omega
    | less =>
      show ((spn a).1 - (spn b).2) * ss.sum ≤ wo rs ss a - wo rs ss b ∧ wo rs ss a - wo rs ss b ≤ ((spn a).2 - (spn b).1) * ss.sum
      rw [Int.sub_mul, Int.sub_mul]
      omega
    | least =>
      have h1 := mn_le (spn a).1 (spn b).1
      have h3 := mulr_le h1.1 hn
      have h4 := mulr_le h1.2 hn
      have h5 := mn_or (spn a).2 (spn b).2
      show mn (spn a).1 (spn b).1 * ss.sum ≤ (if wo rs ss b < wo rs ss a then wo rs ss b else wo rs ss a) ∧ (if wo rs ss b < wo rs ss a then wo rs ss b else wo rs ss a) ≤ mn (spn a).2 (spn b).2 * ss.sum
      rcases h5 with h5 | h5 <;> rw [h5] <;> split <;> omega
    | most =>
      have h1 := le_mx (spn a).2 (spn b).2
      have h3 := mulr_le h1.1 hn
      have h4 := mulr_le h1.2 hn
      have h5 := mx_or (spn a).1 (spn b).1
      show mx (spn a).1 (spn b).1 * ss.sum ≤ (if wo rs ss b > wo rs ss a then wo rs ss b else wo rs ss a) ∧ (if wo rs ss b > wo rs ss a then wo rs ss b else wo rs ss a) ≤ mx (spn a).2 (spn b).2 * ss.sum
      rcases h5 with h5 | h5 <;> rw [h5] <;> split <;> omega
  | .times f a, o => by
    have ha := in_span hr hrb hs hsb a o.2
    have hn := sum_nonneg hsb
    have m1 := mn_le (f * (spn a).1) (f * (spn a).2)
    have m2 := le_mx (f * (spn a).1) (f * (spn a).2)
    have n1 := mulr_le m1.1 hn
    have n2 := mulr_le m1.2 hn
    have n3 := mulr_le m2.1 hn
    have n4 := mulr_le m2.2 hn
    rw [Int.mul_assoc] at n1 n2 n3 n4
    show mn _ _ * ss.sum ≤ f * wo rs ss a ∧ f * wo rs ss a ≤ mx _ _ * ss.sum
    rcases Int.le_total 0 f with hf | hf
    · have p1 := Int.mul_le_mul_of_nonneg_left ha.1 hf
      have p2 := Int.mul_le_mul_of_nonneg_left ha.2 hf
      omega
    · have p1 := Int.mul_le_mul_of_nonpos_left hf ha.1
      have p2 := Int.mul_le_mul_of_nonpos_left hf ha.2
      omega
  | .by i a, o => by
    have ha := in_span hr hrb hs hsb a o.2
    have hn := sum_nonneg hsb
    have hg := hrb _ (getD_mem (ns := rs) (i := i) (by rw [hr]; exact o.1))
    generalize ht : mx (ab (spn a).1) (ab (spn a).2) = t
    have t1 : -t ≤ (spn a).1 ∧ (spn a).2 ≤ t := by
      have h2 := le_mx (ab (spn a).1) (ab (spn a).2)
      rw [ht] at h2
      have h3 : -(spn a).1 ≤ ab (spn a).1 := by unfold ab; split <;> omega
      have h4 : (spn a).2 ≤ ab (spn a).2 := by unfold ab; split <;> omega
      omega
    have w1 : -(t * ss.sum) ≤ wo rs ss a := by
      have := mulr_le t1.1 hn
      rw [Int.neg_mul] at this
      omega
    have w2 : wo rs ss a ≤ t * ss.sum := by
      have := mulr_le t1.2 hn
      omega
    show (-1000 * mx (ab (spn a).1) (ab (spn a).2)) * ss.sum ≤ rs.getD i 0 * wo rs ss a ∧ rs.getD i 0 * wo rs ss a ≤ (1000 * mx (ab (spn a).1) (ab (spn a).2)) * ss.sum
    rw [ht, Int.mul_assoc, Int.mul_assoc]
    generalize rs.getD i 0 = g at *
    generalize t * ss.sum = T at *
    generalize wo rs ss a = x at *
    have hT : 0 ≤ T := by omega
    rcases Int.le_total 0 g with hgn | hgn
    · have p1 := Int.mul_le_mul_of_nonneg_left w1 hgn
      have p2 := Int.mul_le_mul_of_nonneg_left w2 hgn
      have p3 := Int.mul_le_mul_of_nonneg_right hg.2 hT
      rw [Int.mul_neg] at p1
      omega
    · have p1 := Int.mul_le_mul_of_nonpos_left hgn w1
      have p2 := Int.mul_le_mul_of_nonpos_left hgn w2
      have p3 := Int.mul_le_mul_of_nonneg_right hg.1 hT
      rw [Int.mul_neg] at p1
      omega
  | .when i c a b, o => by
    have ha := in_span hr hrb hs hsb a o.2.2.1
    have hb := in_span hr hrb hs hsb b o.2.2.2
    have hn := sum_nonneg hsb
    have m1 := mn_le (spn a).1 (spn b).1
    have m2 := le_mx (spn a).2 (spn b).2
    have n1 := mulr_le m1.1 hn
    have n2 := mulr_le m1.2 hn
    have n3 := mulr_le m2.1 hn
    have n4 := mulr_le m2.2 hn
    show mn _ _ * ss.sum ≤ (if rs.getD i 0 < c then wo rs ss a else wo rs ss b) ∧ (if rs.getD i 0 < c then wo rs ss a else wo rs ss b) ≤ mx _ _ * ss.sum
    split <;> omega
  | .whr j c a b, o => by
    have ha := in_span hr hrb hs hsb a o.2.2.1
    have hb := in_span hr hrb hs hsb b o.2.2.2
    have hn := sum_nonneg hsb
    have m1 := mn_le (spn a).1 (spn b).1
    have m2 := le_mx (spn a).2 (spn b).2
    have n1 := mulr_le m1.1 hn
    have n2 := mulr_le m1.2 hn
    have n3 := mulr_le m2.1 hn
    have n4 := mulr_le m2.2 hn
    show mn _ _ * ss.sum ≤ (if 1000 * ss.getD j 0 < c * ss.sum then wo rs ss a else wo rs ss b) ∧ (if 1000 * ss.getD j 0 < c * ss.sum then wo rs ss a else wo rs ss b) ≤ mx _ _ * ss.sum
    split <;> omega

/-! ### promises -/
def spAround (K : PySem.W.Frag) : Sp := fun vs H Q _ => ∃ (a : Addr) (many n : Nat), vs = [.ref a, .int (many : Int)] ∧ 2 ≤ many ∧ many ≤ 3 ∧ HandAt H a n ∧ n ≤ 999998000 ∧
  ∀ H' p xs cs, But a H H' → HandAt H' a (n + 90) → p ≠ a → H' p = some (.lst xs) → CtxsAt K H' xs cs → (∀ c ∈ cs, c.ok many) → cs.length ≤ 4 → Q (.ref p) H'
def spPut (K : PySem.W.Frag) : Sp := fun vs H Q _ => ∃ (p : Addr) (v : V) (xs : List V) (cs : List Cx1) (e : Ex), vs = [.ref p, v] ∧ H p = some (.lst xs) ∧ CtxsAt K H xs cs ∧ ExAt K H e v ∧ ∀ H' u, Same H H' → ExAt K H' (putAll cs e) u → Q u H'
def spFac (K : PySem.W.Frag) (many : Nat) : Sp := fun vs H Q _ => ∃ (p : Addr) (r : V) (xs : List V) (cs : List Cx1) (rs : List Int), vs = [.ref p, r] ∧ H p = some (.lst xs) ∧ CtxsAt K H xs cs ∧ (∀ c ∈ cs, c.ok many) ∧ RegsAt K H rs r ∧ Q (.int (fac rs cs)) H
end NG

namespace NG
open PySem PySem.Spec PyProof.Rows L2

/-! ### promises that are kept while no repr is under way -/
structure FnG (P : Program) (w : World) (K : PySem.W.Frag) (mg : Str → Option Value) (base : Heap) (k : Nat) (f : Addr) (fd : FuncData) (ps : List Str) (sp : Sp) : Prop where
  len : ∀ vs H Q E, sp vs H Q E → vs.length = ps.length
  run : ∀ (A : Around) (outer : List Env) (s : Shared) (H : Hp) (args : Args) (us : List Value) (vs : List V) (Q : VK), A.guards = some [] → Room k A → Env0 P w K mg base A outer s H → BindsTo s fd args (ps.zip us) → Vals vs us → sp vs H Q E0 →
    codeAny (model P w) A (.call (.ref f) args) (CR CX0 outer P w H s Q E0) s
theorem FnG.of {P : Program} {w : World} {K : PySem.W.Frag} {mg : Str → Option Value} {base : Heap} {k : Nat} {f : Addr} {fd : FuncData} {ps : List Str} {sp : Sp} (F : FnOk P w K mg base CX0 k f fd ps sp) : FnG P w K mg base k f fd ps sp :=
  ⟨F.len, fun A outer s H args us vs Q _ hr he hb hv hs => F.run A outer s H args us vs Q E0 hr he hb hv hs⟩
theorem fnG {P : Program} {w : World} {K : PySem.W.Frag} {mg : Str → Option Value} {base : Heap} {x qual : Str} {st : Stmt} {f : Addr} {fd : FuncData} {N ps : List Str} {k : Nat} {sp : Sp} (F : Fun K x qual st f fd) (S : FnScope N ps (defScope st)) (len : ∀ vs H Q E, sp vs H Q E → vs.length = ps.length)
    (walk : ∀ (cdv : Value) (A : Around) (outer : List Env) (s : Shared) (H : Hp) (vs : List V) (Q : VK), A.guards = some [] → Room k (A.deeper (envOfC qual (defScope st) s.heap.objs.size f cdv)) → sp vs H Q E0 →
      ∃ t, PSs (cxOf CX0 P w K mg base N qual (defScope st) f cdv A outer s H E0).nox (defBody st) t ∧ t { nx := fun _ H' => Q .non H', rt := Q } (start N vs) H) : FnG P w K mg base (k + 1) f fd ps sp := by
  obtain ⟨oc, od, kV, doc, pm, an, cdv, ct, osl, rfl, lk, hcd⟩ := F.ex
  refine ⟨len, fun A outer s H args us vs Q hg hr e0 bd rv hs => ?_⟩
  have inK : K.In s.heap := e0.mod.kin.keeps fun b o e => (e0.bs b o e).1
  have nolim : s.heap.NoLimit := e0.mod.nolimit.keeps fun b o e => (e0.bs b o e).1
  refine codeAny_call_function hr.depth (inK _ _ lk) rfl S.co S.gen rfl (PySem.W.codeRec_of inK hcd) (bd _ _ _ _ ?_)
  refine wpAny_newFunctionEnv_cells S.kind (fun y hy => ?_) fun env he s1 ic => ?_
  · obtain ⟨n, v⟩ := y
    rcases S.par n (List.of_mem_zip hy).1 with z | z
    · exact .inl z
    · exact .inr ⟨z, PySem.W.cellsFrom_some _ _ _ (.inl z)⟩
  subst he
  refine ⟨nolim.keeps ic.toInCall.keep, codeAny_func ?_⟩
  obtain ⟨t, ht, hq⟩ := walk cdv A outer s H vs Q hg (hr.deeper _) hs
  have I := inv_start (CX := CX0) (E := E0) S hr.hd e0 (len _ _ _ _ hs) rv ic
  refine wpAny_mono (ht.nox.run [] s1 (start N vs) H _ I hq) (fun fl s' hf => ?_) fun e s' hf => hf
  match fl, hf with
  | .ret u, ⟨v, σ', H', J, r, q⟩ => exact ⟨v, H', J.os, J.bare, J.base, J.hok, r, q⟩
  | .next, ⟨σ', H', J, q⟩ => exact ⟨.non, H', J.os, J.bare, J.base, J.hok, rfl, q⟩
  | .brk, ⟨_, _, _, q⟩ => exact q.elim
  | .cont, ⟨_, _, _, q⟩ => exact q.elim

structure CalG (P : Program) (w : World) (K : PySem.W.Frag) (mg : Str → Option Value) (base : Heap) (k : Nat) (x : Str) (sp : Sp) : Prop where
  ex : ∃ (f : Addr) (fd : FuncData) (ps : List Str), FnG P w K mg base k f fd ps sp ∧ mg x = some (.ref f) ∧ PySem.W.keepIn K (.ref f) = true ∧ Binds K fd ps []
theorem Cal.g {P : Program} {w : World} {K : PySem.W.Frag} {mg : Str → Option Value} {base : Heap} {k : Nat} {x : Str} {sp : Sp} (c : Cal P w K mg base k x sp) : CalG P w K mg base k x sp := by
  obtain ⟨f, fd, ps, F, r⟩ := c.ex
  exact ⟨f, fd, ps, .of F, r⟩
section
variable {X : Cx} {k j : Nat} {x : Str} {sp : Sp} {p pos : Pos} {e : Expr} {es : List Expr} {t : TA}
theorem pe_g (c : CalG X.prog X.w X.K X.mg X.base k x sp) (hgd : X.A.guards = some []) (hr : Room j X.A) (hk : k ≤ j) (hg : Gl X x) (ha : PA X (e :: es) t)
    (hdb : (x == ("__debug__" : Str)) = false := by decide) (he : starEach (e :: es) X.env = (false, eval e X.env) :: starEach es X.env := by rfl) (hpl : (backTo pos (starEach es X.env)).any (·.1) = false := by rfl) :
    PE X (.Call (.Name x p) (e :: es) [] pos) (tCall sp [] E0 t) := by
  obtain ⟨f, fd, ps, F, hm, kp, b⟩ := c.ex
  refine ⟨fun pins s σ H Q I h => wpAny_Call_Name_kw (ld_glob I hg hm ?_ hdb)⟩
  refine PySem.W.callWith_K (h₀ := X.base) I.ok.mod.kin kp (thn (ha.run pos pins s σ H _ I h) fun us s1 ⟨vs, H1, I1, r, q⟩ => ⟨I1.kIn, ?_⟩) he hpl
  have q : sp (vs ++ []) H1 Q E0 := q
  rw [List.append_nil] at q
  have hl : (us ++ []).length = ps.length := by
    rw [List.append_nil, ← r.length]
    exact F.len _ _ _ _ q
  have bd := b s1 us I1.kIn hl
  rw [List.append_nil] at bd
  refine wpAny_call (codeAny_mono (F.run X.A X.stack s1 H1 ⟨us, []⟩ us vs Q hgd (hr.mono hk) I1.env0 bd r q) fun res s' hq => ?_)
  match res, hq with
  | .ok (.ret u), hq => exact I1.after hq
  | .ok .next, hq => exact False.elim hq
  | .ok .brk, hq => exact False.elim hq
  | .ok .cont, hq => exact False.elim hq
  | .error e, hq => exact False.elim hq
end

/-! ### the law's call -/
theorem lawG {P : Program} {w : World} {K : PySem.W.Frag} {mg mb : Str → Option Value} {k : Nat} {fa a : Addr} {fd : FuncData} {x : Str} {sp : Sp} {st : Shared} {vs : List Value} {ns : List Int}
    (inK : K.In st.heap) (gl : st.heap.Ns mainGlobals mg) (bl : st.heap.Ns builtinsNs mb) (blt : ∀ y : Str, y ≠ "__name__" → mb y = bootBuiltins y) (lim : st.heap.NoLimit) (gens : st.gens = #[])
    (at0 : st.heap.get? a = some { cls := .type "list", data := .seq vs.toArray }) (hint : IntsAre vs ns) (short : ns.length ≤ sizeLine) (room : Room k callerA)
    (F : ∀ base : Heap, K.In base → base.Ns mainGlobals mg → FnG P w K mg base k fa fd [x] sp) (bind : ∀ (s : Shared) (u : Value), BindsTo s fd ⟨[u], []⟩ [(x, u)])
    (prom : ∀ H : Hp, Only H → SqL K H a (ns.map V.int) → sp [.ref a] H (fun v _ => v = .bl true) E0) :
    codeAny (model P w) callerA (.call (.ref fa) ⟨[.ref a], []⟩) (fun r s' => r = .ok (.ret (.bool true)) ∧ OldK st.heap s'.heap ∧ s'.os = st.os ∧ AllBare s'.gens) st := by
  have rel := vals_ints hint
  have go : ∀ H : Hp, Only H → SqL K H a (ns.map V.int) → HOk P w H st.heap → (∀ b, H b ≠ none → b = a ∧ K.lookup b = none) →
      codeAny (model P w) callerA (.call (.ref fa) ⟨[.ref a], []⟩) (fun r s' => r = .ok (.ret (.bool true)) ∧ OldK st.heap s'.heap ∧ s'.os = st.os ∧ AllBare s'.gens) st := by
    intro H on sq ok sole
    have dicts : ∀ {b : Addr} {o : Obj} {es : Array DictEntry} {ep : Nat}, st.heap.get? b = some o → o.data = .dict es ep → H b = none := by
      intro b o es ep e d
      by_cases z : H b = none
      · exact z
      · obtain ⟨rfl, _⟩ := sole b z
        rw [at0] at e
        cases e
        cases d
    have names : ∀ {b : Addr} {m : Str → Option Value}, st.heap.Ns b m → (hidT st.heap H).Ns b m := by
      rintro b m ⟨o, es, ep, e, d, r⟩
      exact ⟨o, es, ep, hidT_get e (dicts e d), d, r⟩
    have kin : K.In (hidT st.heap H) := by
      intro b o e
      refine hidT_get (inK b o e) ?_
      by_cases z : H b = none
      · exact z
      · rw [(sole b z).2] at e
        cases e
    have md : Mod K mg (hidT st.heap H) := by
      obtain ⟨mc, l1, l2⟩ := lim
      exact ⟨kin, names gl, ⟨mb, names bl, blt⟩, ⟨mc, names l1, l2⟩⟩
    have env : Env0 P w K mg (hidT st.heap H) callerA [] st H :=
      ⟨rfl, md, fun b o e => of_hidT e, Nat.le_of_eq (hidT_size _ _), trivial, fun b z => absurd (show b ∈ ([] : List Addr) from z) (by simp), ok, .of_eq gens⟩
    refine codeAny_mono ((F _ kin (names gl)).run callerA [] st H ⟨[.ref a], []⟩ [.ref a] [.ref a] _ rfl room env (bind st (.ref a)) (.cons rfl .nil) (prom H on sq)) fun res s' hq => ?_
    match res, hq with
    | .ok .next, hq => exact False.elim hq
    | .ok .brk, hq => exact False.elim hq
    | .ok .cont, hq => exact False.elim hq
    | .error e, hq => exact False.elim hq
    | .ok (.ret u), ⟨v, H', os, bare, un, ok', r, q⟩ =>
      have q : v = .bl true := q
      subst q
      have r : u = Value.bool true := r
      subst r
      refine ⟨rfl, OldK.of_keep fun b o e => ?_, os, bare⟩
      by_cases z : H b = none
      · exact un.keep b o e z (fun y => absurd (show b ∈ ([] : List Addr) from y) (by simp)) (by simp)
      · rcases on b with y | ⟨ob, xs, y⟩
        · exact absurd y z
        · obtain ⟨p1, _⟩ := ok b _ y
          obtain ⟨p2, _⟩ := ok' b _ (un.frzs b ob _ y)
          rw [e] at p1
          cases p1
          exact p2
  by_cases hk : K.lookup a = none
  · refine go (upd (fun _ => none) a (.frz { cls := .type "list", data := .seq vs.toArray } (.lst (ns.map V.int)))) (fun b => ?_) (.inl (.inr ⟨_, upd_same⟩)) (fun b u z => ?_) (fun b z => ?_)
    · by_cases hb : b = a
      · subst hb
        exact .inr ⟨_, _, upd_same⟩
      · exact .inl (upd_ne hb)
    · by_cases hb : b = a
      · subst hb
        rw [upd_same] at z
        cases z
        exact ⟨at0, by rw [List.length_map]; exact short, vs, _, rel, at0⟩
      · rw [upd_ne hb] at z
        cases z
    · by_cases hb : b = a
      · subst hb
        exact ⟨rfl, hk⟩
      · exact absurd (upd_ne hb) z
  · obtain ⟨o, ho⟩ := Option.ne_none_iff_exists'.mp hk
    have e := inK a o ho
    rw [at0] at e
    cases e
    refine go (fun _ => none) (fun _ => .inl rfl) (.inr ⟨_, vs.toArray, _, ho, rfl, rfl, rfl, ?_, by simpa using rel⟩) (fun b u z => by cases z) (fun b z => absurd rfl z)
    rw [List.size_toArray, hint.length]
    exact short
theorem walkG {l : PySem.W.OpenLaw} {n k : Nat} {q : Program} {loose : List Str} {XP : (Str → Option Value) → Heap → Prop} {YP : World → Heap → Prop} {d : DefRec} {K : Params → PySem.W.Frag} {sp : World → Sp} {x : Str}
    (hn : l.most = some n) (hn2 : n ≤ sizeLine) (hdf : d.params.defaults = []) (hr : Room k callerA) (hY : ∀ (w : World) (h : Heap), YP w h → (K w.params).In h)
    (F : ∀ (w : World) (mg : Str → Option Value) (fa : Addr) (h : Heap), (K w.params).In h → h.Ns mainGlobals mg → mg d.name = some (.ref fa) →
      ∃ fd : FuncData, (∀ (s : Shared) (u : Value), BindsTo s fd ⟨[u], []⟩ [(x, u)]) ∧ ∀ base : Heap, (K w.params).In base → base.Ns mainGlobals mg → FnG l.prog w (K w.params) mg base k fa fd [x] (sp w))
    (hsp : ∀ (w : World) (H : Hp) (a : Addr) (ns : List Int), ns.length ≤ n → Only H → SqL (K w.params) H a (ns.map V.int) → sp w [.ref a] H (fun v _ => v = .bl true) E0) :
    PySem.W.WalkO q loose XP YP l.row.toRowW d [] (fun f vs => PySem.call f vs) := by
  refine Att.attach_call hn hdf fun w s0 s1 mg mb fa o pm cd doc a vs ns G Y _ _ _ hmg hobj hints hlen hg => ?_
  have inK := hY w _ Y
  obtain ⟨fd, hb, hF⟩ := F w mg fa _ inK G.T.g hmg
  exact lawG inK G.T.g G.T.b G.T.builtins G.T.nolimit hg hobj hints (Nat.le_trans hlen hn2) hr hF hb fun H on sq => hsp w H a ns hlen on sq

/-! ### repr -/
mutual
theorem Dp_nodict {K : PySem.W.Frag} {H : Hp} : ∀ {d : PyData} {v : V}, Dp K H v d → d.hasDict = false
  | .none, _, _ => by simp only [PyData.hasDict]
  | .bool _, _, _ => by simp only [PyData.hasDict]
  | .int _, _, _ => by simp only [PyData.hasDict]
  | .str _, _, _ => by simp only [PyData.hasDict]
  | .list ds, _, h => by
    cases h with
    | lst _ h => simp only [PyData.hasDict, DpAll_nodict h]
  | .tuple ds, _, h => by
    cases h with
    | tup _ h => simp only [PyData.hasDict, DpAll_nodict h]
  | .dict _, _, h => by cases h
theorem DpAll_nodict {K : PySem.W.Frag} {H : Hp} : ∀ {ds : List PyData} {vs : List V}, DpAll K H vs ds → PyData.hasDictAll ds = false
  | [], _, _ => by simp only [PyData.hasDictAll]
  | d :: ds, _, h => by
    cases h with
    | cons h1 h2 => simp only [PyData.hasDictAll, Dp_nodict h1, DpAll_nodict h2, Bool.or_self]
end
def rRepr (K : PySem.W.Frag) : List V → Hp → VK → Prop := fun vs H Q => ∃ (p : Addr) (d : PyData), vs = [.ref p] ∧ Dp K H (.ref p) d ∧ d.showable = true ∧ d.depth ≤ 60 ∧ d.shown.length ≤ sizeLine ∧ Q (.str d.shown) H
theorem cr_repr {X : Cx} (hg : X.A.guards = some []) (hu : X.A.units + 64 < cLine) : CallR X (.builtin "repr") (rRepr X.K) := by
  intro pins s σ H vs us Q I r h
  obtain ⟨p, d, rfl, hd, hs, hz, hl, q⟩ := h
  rw [Vals.ref1 r]
  obtain ⟨as, rd⟩ := Dp.reads I d (.ref p) (.ref p) hd rfl
  exact repr_of_reads' rd hs (PyData.noDict_hsm (Dp_nodict hd)) hg (by omega) (fun _ _ e => e) (fun h' u tk hk => ⟨.str _, H, I.kept hk, ⟨_, rfl⟩, q⟩) hl
end NG

namespace NG
open PySem PySem.Spec PyProof.Rows L2

/-! ### xs[::-1] -/
theorem pe_revL {X : Cx} {e st : Expr} {te ts : TE} {pos p2 : Pos} (he : PE X e te) (hs : PE X st ts) : PE X (.Subscript e (.Slice none none (some st) p2) pos)
    (fun σ H Q => te σ H fun x H1 => ts σ H1 fun y H2 => y = .int (-1) ∧ ∃ a xs, x = .ref a ∧ SqL X.K H2 a xs ∧ ∀ p, H2 p = none → Q (.ref p) (upd H2 p (.lst xs.reverse))) := by
  refine ⟨fun pins s σ H Q I h => ?_⟩
  refine Subscript_ (thn (he.run pins s σ H _ I h) fun v s1 ⟨x, H1, I1, r1, q1⟩ => ?_)
  refine wpAny_Slice ?_
  rw [evalPart_none]
  refine wpAny_pure (wpAny_pure ?_)
  rw [evalPart_some]
  refine thn (hs.run pins s1 σ H1 _ I1 q1) fun vk s2 ⟨y, H2, I2, r2, q2⟩ => ?_
  obtain ⟨rfl, a, xs, rfl, hx, q⟩ := q2
  obtain ⟨t, rfl⟩ := r2
  cases r1
  obtain ⟨its, rv, ht, hz⟩ := I2.list hx
  have I3 : Inv X pins σ H2 { s2 with heap := s2.heap.push { cls := .type "slice", data := .fields #[.none, .none, .int (-1) t] } } := I2.kept (t' := s2.toks) fun b ob q => Heap.get?_push_of_some _ q
  obtain ⟨its', rv', ht', _⟩ := I3.list hx
  have hl := rv'.length
  refine tail_any (ops := [.ref a, .ref s2.heap.objs.size]) ht'.isList.typeIs slot_list_getitem.lookup ?_ (by with_unfolding_all rfl)
  refine wpAny_getItem_list_slice ht'.isList (Heap.IsSliceOf.new ..) .none .none (.int (-1) t) (by decide) ?_ (by rw [List.size_toArray]; omega)
  rw [PySem.W.krv_pick]
  refine ⟨.ref _, _, I3.laid (t' := s2.toks) (o := .lst xs.reverse) (fun b ob q => Heap.get?_push_of_some _ q) (Nat.le_refl _) ?_, rfl, q _ (I3.hok.fresh (Nat.le_refl _))⟩
  refine ⟨by rw [List.length_reverse]; exact hz, its'.reverse, 0, ?_, Heap.get?_push_size _ rfl⟩
  have rev : ∀ {xs : List V} {us : List Value}, Vals xs us → Vals xs.reverse us.reverse := by
    intro xs us r
    induction r with
    | nil => exact .nil
    | cons h t ih =>
      rw [List.reverse_cons, List.reverse_cons]
      exact ih.append (.cons h .nil)
  exact rev rv'

/-! ### calls by keywords alone, handed in from the last parameter to the first -/
theorem Vals.rev {xs : List V} {us : List Value} (r : Vals xs us) : Vals xs.reverse us.reverse := by
  induction r with
  | nil => exact .nil
  | cons h t ih =>
    rw [List.reverse_cons, List.reverse_cons]
    exact ih.append (.cons h .nil)
structure CalK (P : Program) (w : World) (K : PySem.W.Frag) (mg : Str → Option Value) (base : Heap) (k : Nat) (x : Str) (ks : List Str) (sp : Sp) : Prop where
  ex : ∃ (f : Addr) (fd : FuncData), FnG P w K mg base k f fd ks.reverse sp ∧ mg x = some (.ref f) ∧ PySem.W.keepIn K (.ref f) = true ∧ ∀ (s : Shared) (ws : List Value), ws.length = ks.length → BindsTo s fd ⟨[], ks.zip ws⟩ (ks.reverse.zip ws.reverse)
section
variable {X : Cx} {k j : Nat} {x : Str} {ks : List Str} {sp : Sp} {p pos : Pos} {kws : List Keyword} {tk : TA}
theorem pe_kw (c : CalK X.prog X.w X.K X.mg X.base k x ks sp) (hgd : X.A.guards = some []) (hr : Room j X.A) (hk : k ≤ j) (hg : Gl X x) (hkw : PK X kws tk) (hall : (backToKw pos (keywordEach kws X.env)).all (·.1.isSome) = true := by rfl) (hks : (backToKw pos (keywordEach kws X.env)).filterMap (·.1) = ks := by rfl)
    (hdb : (x == ("__debug__" : Str)) = false := by decide) (hpl : ((backTo pos (starEach [] X.env)).any (·.1) || (backToKw pos (keywordEach kws X.env)).any (·.1.isNone)) = false := by rfl) :
    PE X (.Call (.Name x p) [] kws pos) (fun σ H Q => tk σ H fun zs H2 => zs.length = ks.length ∧ sp zs.reverse H2 Q E0) := by
  obtain ⟨f, fd, F, hm, kp, b⟩ := c.ex
  refine ⟨fun pins s σ H Q I h => wpAny_Call_Name_kw (ld_glob I hg hm ?_ hdb)⟩
  refine PySem.W.callWith_KW0 (h₀ := X.base) I.ok.mod.kin kp hall (thn (hkw.run pos pins s σ H _ I h) fun ws s2 ⟨zs, H2, I2, rz, hl, q⟩ => ⟨I2.kIn, ?_⟩) hpl
  rw [hks]
  refine wpAny_call (codeAny_mono (F.run X.A X.stack s2 H2 ⟨[], ks.zip ws⟩ ws.reverse zs.reverse Q hgd (hr.mono hk) I2.env0 (b s2 ws (by rw [← rz.length]; exact hl)) (Vals.rev rz) q) fun res s' hq => ?_)
  match res, hq with
  | .ok (.ret u), hq => exact I2.after hq
  | .ok .next, hq => exact False.elim hq
  | .ok .brk, hq => exact False.elim hq
  | .ok .cont, hq => exact False.elim hq
  | .error e, hq => exact False.elim hq
end

/-! ### an expression as its items -/
inductive Itm where
  | s (x : Str) | i (c : Int) | k (e : Ex)
def ItAt (K : PySem.W.Frag) (H : Hp) : Itm → V → Prop
  | .s x, v => v = .str x
  | .i c, v => v = .int c
  | .k e, v => ExAt K H e v
def ItsAt (K : PySem.W.Frag) (H : Hp) : List V → List Itm → Prop
  | [], [] => True
  | v :: vs, t :: ts => ItAt K H t v ∧ ItsAt K H vs ts
  | _, _ => False
def Ex.items : Ex → List Itm
  | .fig c => [.s "fig", .i c]
  | .reg i => [.s "reg", .i (i : Int)]
  | .share j => [.s "share", .i (j : Int)]
  | .two w a b => [.s (wn w), .k a, .k b]
  | .times f a => [.s "times", .i f, .k a]
  | .by i a => [.s "by", .i (i : Int), .k a]
  | .when i c a b => [.s "when", .i (i : Int), .i c, .k a, .k b]
  | .whr j c a b => [.s "where", .i (j : Int), .i c, .k a, .k b]
def kidsI : List Itm → List Ex
  | [] => []
  | .k e :: r => e :: kidsI r
  | .s _ :: r => kidsI r
  | .i _ :: r => kidsI r
theorem kidsI_items (e : Ex) : kidsI e.items = e.kids := by cases e <;> rfl
theorem kidsI_append : ∀ (l r : List Itm), kidsI (l ++ r) = kidsI l ++ kidsI r
  | [], r => rfl
  | .k e :: l, r => by
    show e :: kidsI (l ++ r) = e :: (kidsI l ++ kidsI r)
    rw [kidsI_append l r]
  | .s _ :: l, r => kidsI_append l r
  | .i _ :: l, r => kidsI_append l r
theorem ExAt.its {K : PySem.W.Frag} {H : Hp} : ∀ {e : Ex} {v : V}, ExAt K H e v → ∃ p xs, v = .ref p ∧ SqT K H p xs ∧ ItsAt K H xs e.items
  | .fig _, _, ⟨p, e, q⟩ => ⟨p, _, e, q, rfl, rfl, trivial⟩
  | .reg _, _, ⟨p, e, q⟩ => ⟨p, _, e, q, rfl, rfl, trivial⟩
  | .share _, _, ⟨p, e, q⟩ => ⟨p, _, e, q, rfl, rfl, trivial⟩
  | .two _ _ _, _, ⟨p, x, y, e, q, a, b⟩ => ⟨p, _, e, q, rfl, a, b, trivial⟩
  | .times _ _, _, ⟨p, x, e, q, a⟩ => ⟨p, _, e, q, rfl, rfl, a, trivial⟩
  | .by _ _, _, ⟨p, x, e, q, a⟩ => ⟨p, _, e, q, rfl, rfl, a, trivial⟩
  | .when _ _ _ _, _, ⟨p, x, y, e, q, a, b⟩ => ⟨p, _, e, q, rfl, rfl, rfl, a, b, trivial⟩
  | .whr _ _ _ _, _, ⟨p, x, y, e, q, a, b⟩ => ⟨p, _, e, q, rfl, rfl, rfl, a, b, trivial⟩
theorem ItsAt.get {K : PySem.W.Frag} {H : Hp} : ∀ {vs : List V} {ts : List Itm} {k : Nat} {v : V}, ItsAt K H vs ts → vs[k]? = some v → ∃ t, ts[k]? = some t ∧ ItAt K H t v
  | [], [], _, _, _, h => by simp at h
  | v' :: vs, t :: ts, 0, v, ⟨x, r⟩, h => by
    have : v' = v := Option.some.inj h
    subst this
    exact ⟨t, rfl, x⟩
  | v' :: vs, t :: ts, k + 1, v, ⟨x, r⟩, h => ItsAt.get (k := k) r h
theorem ItsAt.len {K : PySem.W.Frag} {H : Hp} : ∀ {vs : List V} {ts : List Itm}, ItsAt K H vs ts → vs.length = ts.length
  | [], [], _ => rfl
  | _ :: _, _ :: _, ⟨_, r⟩ => by rw [List.length_cons, List.length_cons, r.len]
theorem tyx_tup {K : PySem.W.Frag} {H : Hp} {p : Addr} {xs : List V} (h : SqT K H p xs) : TyX K H (.ref p) (.type "tuple") := by
  rcases h with (h | ⟨o, h⟩) | ⟨o, its, n, h1, h2, _⟩
  · exact .base (.tup h)
  · exact .fTuple h
  · exact .kTuple h1 h2
def Itm.isK : Itm → Bool
  | .k _ => true
  | _ => false
theorem isi_item {K : PySem.W.Frag} {H : Hp} {t : Itm} {v : V} (h : ItAt K H t v) : ∃ ty, TyX K H v ty ∧ PySem.W.kitOne K ty (.type "tuple") = some t.isK := by
  cases t with
  | s x =>
    have h : v = .str x := h
    subst h
    exact ⟨_, .base (.str x), kit_ty (show kitB "str" "tuple" = some false by decide +kernel)⟩
  | i c =>
    have h : v = .int c := h
    subst h
    exact ⟨_, .base (.int c), kit_ty (show kitB "int" "tuple" = some false by decide +kernel)⟩
  | k e =>
    obtain ⟨p, xs, rfl, hp, _⟩ := ExAt.its h
    exact ⟨_, tyx_tup hp, kit_ty (show kitB "tuple" "tuple" = some true by decide +kernel)⟩

/-! ### as data, for repr -/
def toI : Itm → (Ex → PyData) → PyData
  | .s x, _ => .str x
  | .i c, _ => .int c
  | .k e, f => f e
def toD : Ex → PyData
  | .fig c => .tuple [.str "fig", .int c]
  | .reg i => .tuple [.str "reg", .int (i : Int)]
  | .share j => .tuple [.str "share", .int (j : Int)]
  | .two w a b => .tuple [.str (wn w), toD a, toD b]
  | .times f a => .tuple [.str "times", .int f, toD a]
  | .by i a => .tuple [.str "by", .int (i : Int), toD a]
  | .when i c a b => .tuple [.str "when", .int (i : Int), .int c, toD a, toD b]
  | .whr j c a b => .tuple [.str "where", .int (j : Int), .int c, toD a, toD b]
theorem ExAt.dp {K : PySem.W.Frag} {H : Hp} : ∀ {e : Ex} {v : V}, ExAt K H e v → Dp K H v (toD e)
  | .fig _, _, ⟨p, e, q⟩ => by subst e; exact .tup q (.cons (.str _) (.cons (.int _) .nil))
  | .reg _, _, ⟨p, e, q⟩ => by subst e; exact .tup q (.cons (.str _) (.cons (.int _) .nil))
  | .share _, _, ⟨p, e, q⟩ => by subst e; exact .tup q (.cons (.str _) (.cons (.int _) .nil))
  | .two _ _ _, _, ⟨p, x, y, e, q, a, b⟩ => by subst e; exact .tup q (.cons (.str _) (.cons a.dp (.cons b.dp .nil)))
  | .times _ _, _, ⟨p, x, e, q, a⟩ => by subst e; exact .tup q (.cons (.str _) (.cons (.int _) (.cons a.dp .nil)))
  | .by _ _, _, ⟨p, x, e, q, a⟩ => by subst e; exact .tup q (.cons (.str _) (.cons (.int _) (.cons a.dp .nil)))
  | .when _ _ _ _, _, ⟨p, x, y, e, q, a, b⟩ => by subst e; exact .tup q (.cons (.str _) (.cons (.int _) (.cons (.int _) (.cons a.dp (.cons b.dp .nil)))))
  | .whr _ _ _ _, _, ⟨p, x, y, e, q, a, b⟩ => by subst e; exact .tup q (.cons (.str _) (.cons (.int _) (.cons (.int _) (.cons a.dp (.cons b.dp .nil)))))
/-- short enough to be shown: every number below 2 ^ 600, every sign small -/
structure Shw (d : PyData) (w k : Nat) : Prop where
  sh : d.showable = true
  lf : d.leavesShort 700 = true
  wt : d.weight ≤ w
  dp : d.depth ≤ k
theorem log_of {i : Int} (h : i.natAbs < 2 ^ 600) : i.natAbs.log2 < 600 := PySem.Flt.log2_lt_of (by decide) h
theorem Shw.int {i : Int} (h : i.natAbs < 2 ^ 600) : Shw (.int i) 601 0 := by
  have hl := log_of h
  refine ⟨?_, ?_, ?_, Nat.le_refl _⟩
  · show decide (i.natAbs.log2 < 1920) = true
    exact decide_eq_true (by omega)
  · show decide ((PyData.shown (.int i)).length ≤ 700) = true
    refine decide_eq_true ?_
    have e := int_text_length_le (k := 600) (by decide) hl
    show (Str.ofString (toString i)).length ≤ 700
    rw [PySem.ofString_length]
    omega
  · show (if i == 0 then 0 else i.natAbs.log2 + 1) ≤ 601
    split <;> omega
theorem Shw.small {i : Int} (h : i.natAbs < 2 ^ 15) : Shw (.int i) 15 0 := by
  have hl : i.natAbs.log2 < 15 := PySem.Flt.log2_lt_of (by decide) h
  have h6 := Shw.int (i := i) (Nat.lt_of_lt_of_le h (Nat.pow_le_pow_right (by decide) (by decide)))
  refine ⟨h6.sh, h6.lf, ?_, Nat.le_refl _⟩
  show (if i == 0 then 0 else i.natAbs.log2 + 1) ≤ 15
  split <;> omega
theorem Shw.str {x : Str} (h : (x.cps.toList.all fun c => decide (c < 16 ^ 8)) = true) (hl : x.cps.size ≤ 10) : Shw (.str x) 10 0 := ⟨rfl, h, hl, Nat.le_refl _⟩
structure ShwAll (ds : List PyData) (w k : Nat) : Prop where
  sh : PyData.showableAll ds = true
  lf : PyData.leavesShortAll 700 ds = true
  wt : PyData.weightAll ds ≤ w
  dp : PyData.depthAll ds ≤ k
theorem ShwAll.nil {k : Nat} : ShwAll [] 0 k := ⟨rfl, rfl, Nat.le_refl _, Nat.zero_le _⟩
theorem ShwAll.cons {d : PyData} {ds : List PyData} {w1 w2 k1 k2 k : Nat} (h1 : Shw d w1 k1) (h2 : ShwAll ds w2 k2) (hk1 : k1 ≤ k) (hk2 : k2 ≤ k) : ShwAll (d :: ds) (w1 + 1 + w2) k := by
  refine ⟨?_, ?_, ?_, ?_⟩
  · show (d.showable && PyData.showableAll ds) = true
    rw [h1.sh, h2.sh]
    rfl
  · show (d.leavesShort 700 && PyData.leavesShortAll 700 ds) = true
    rw [h1.lf, h2.lf]
    rfl
  · show d.weight + 1 + PyData.weightAll ds ≤ _
    have := h1.wt
    have := h2.wt
    omega
  · show max d.depth (PyData.depthAll ds) ≤ k
    have := h1.dp
    have := h2.dp
    omega
theorem ShwAll.tup {ds : List PyData} {w k : Nat} (h : ShwAll ds w k) : Shw (.tuple ds) w (k + 1) := ⟨h.sh, h.lf, h.wt, by show PyData.depthAll ds + 1 ≤ k + 1; have := h.dp; omega⟩
theorem ShwAll.lst {ds : List PyData} {w k : Nat} (h : ShwAll ds w k) : Shw (.list ds) w (k + 1) := ⟨h.sh, h.lf, h.wt, by show PyData.depthAll ds + 1 ≤ k + 1; have := h.dp; omega⟩
theorem Shw.mono {d : PyData} {w w' k k' : Nat} (h : Shw d w k) (hw : w ≤ w') (hk : k ≤ k') : Shw d w' k' := ⟨h.sh, h.lf, Nat.le_trans h.wt hw, Nat.le_trans h.dp hk⟩
theorem Shw.fits {d : PyData} {w k : Nat} (h : Shw d w k) (hw : w ≤ 20000) : d.shown.length ≤ sizeLine := by
  have := PyData.shown_le 700 (by decide) d h.lf
  have := h.wt
  have e : sizeLine = 16777216 := by decide
  omega
def wgt : Nat → Nat
  | 0 => 0
  | n + 1 => 2 * wgt n + 60
theorem wgt_mono : ∀ {m n : Nat}, m ≤ n → wgt m ≤ wgt n
  | 0, _, _ => Nat.zero_le _
  | m + 1, 0, h => absurd h (by omega)
  | m + 1, n + 1, h => by
    have := wgt_mono (m := m) (n := n) (by omega)
    show 2 * wgt m + 60 ≤ 2 * wgt n + 60
    omega
theorem shw_ex {many : Nat} (hm : many ≤ 1000) : ∀ {e : Ex}, ExOk many e → Shw (toD e) (wgt e.dep) e.dep
  | .fig c, o => (ShwAll.tup (.cons (.str (by decide) (by decide)) (.cons (.small (by have := o.1; have := o.2; omega)) .nil (Nat.le_refl 0) (Nat.le_refl 0)) (Nat.le_refl 0) (Nat.le_refl 0))).mono (show _ ≤ wgt 1 by decide) (show 0 + 1 ≤ 1 by decide)
  | .reg i, o => by
    have o : i < 4 := o
    exact (ShwAll.tup (.cons (.str (by decide) (by decide)) (.cons (.small (by omega)) .nil (Nat.le_refl 0) (Nat.le_refl 0)) (Nat.le_refl 0) (Nat.le_refl 0))).mono (show _ ≤ wgt 1 by decide) (show 0 + 1 ≤ 1 by decide)
  | .share j, o => by
    have o : j < many := o
    exact (ShwAll.tup (.cons (.str (by decide) (by decide)) (.cons (.small (by omega)) .nil (Nat.le_refl 0) (Nat.le_refl 0)) (Nat.le_refl 0) (Nat.le_refl 0))).mono (show _ ≤ wgt 1 by decide) (show 0 + 1 ≤ 1 by decide)
  | .two w a b, o => by
    have ha := shw_ex hm (e := a) o.1
    have hb := shw_ex hm (e := b) o.2
    have hw : Shw (.str (wn w)) 10 0 := by cases w <;> exact .str (by decide) (by decide)
    have h1 := wgt_mono (Nat.le_max_left a.dep b.dep)
    have h2 := wgt_mono (Nat.le_max_right a.dep b.dep)
    refine (ShwAll.tup (.cons hw (.cons ha (.cons hb .nil (Nat.le_refl _) (Nat.zero_le _)) (Nat.le_max_left a.dep b.dep) (Nat.le_max_right a.dep b.dep)) (Nat.zero_le _) (Nat.le_refl _))).mono ?_ (Nat.le_refl _)
    show 10 + 1 + (wgt a.dep + 1 + (wgt b.dep + 1 + 0)) ≤ 2 * wgt (max a.dep b.dep) + 60
    omega
  | .times f a, o => by
    have ha := shw_ex hm (e := a) o.2
    refine (ShwAll.tup (.cons (.str (by decide) (by decide)) (.cons (.small (by have := o.1; omega)) (.cons ha .nil (Nat.le_refl _) (Nat.zero_le _)) (Nat.zero_le _) (Nat.le_refl _)) (Nat.zero_le _) (Nat.le_refl _))).mono ?_ (Nat.le_refl _)
    show 10 + 1 + (15 + 1 + (wgt a.dep + 1 + 0)) ≤ 2 * wgt a.dep + 60
    omega
  | .by i a, o => by
    have ha := shw_ex hm (e := a) o.2
    refine (ShwAll.tup (.cons (.str (by decide) (by decide)) (.cons (.small (by have := o.1; omega)) (.cons ha .nil (Nat.le_refl _) (Nat.zero_le _)) (Nat.zero_le _) (Nat.le_refl _)) (Nat.zero_le _) (Nat.le_refl _))).mono ?_ (Nat.le_refl _)
    show 10 + 1 + (15 + 1 + (wgt a.dep + 1 + 0)) ≤ 2 * wgt a.dep + 60
    omega
  | .when i c a b, o => by
    have ha := shw_ex hm (e := a) o.2.2.1
    have hb := shw_ex hm (e := b) o.2.2.2
    have h1 := wgt_mono (Nat.le_max_left a.dep b.dep)
    have h2 := wgt_mono (Nat.le_max_right a.dep b.dep)
    refine (ShwAll.tup (.cons (.str (by decide) (by decide)) (.cons (.small (by have := o.1; omega)) (.cons (.small (by have := o.2.1; omega)) (.cons ha (.cons hb .nil (Nat.le_refl _) (Nat.zero_le _)) (Nat.le_max_left a.dep b.dep) (Nat.le_max_right a.dep b.dep)) (Nat.zero_le _) (Nat.le_refl _)) (Nat.zero_le _) (Nat.le_refl _)) (Nat.zero_le _) (Nat.le_refl _))).mono ?_ (Nat.le_refl _)
    show 10 + 1 + (15 + 1 + (15 + 1 + (wgt a.dep + 1 + (wgt b.dep + 1 + 0)))) ≤ 2 * wgt (max a.dep b.dep) + 60
    omega
  | .whr i c a b, o => by
    have ha := shw_ex hm (e := a) o.2.2.1
    have hb := shw_ex hm (e := b) o.2.2.2
    have h1 := wgt_mono (Nat.le_max_left a.dep b.dep)
    have h2 := wgt_mono (Nat.le_max_right a.dep b.dep)
    refine (ShwAll.tup (.cons (.str (by decide) (by decide)) (.cons (.small (by have := o.1; omega)) (.cons (.small (by have := o.2.1; omega)) (.cons ha (.cons hb .nil (Nat.le_refl _) (Nat.zero_le _)) (Nat.le_max_left a.dep b.dep) (Nat.le_max_right a.dep b.dep)) (Nat.zero_le _) (Nat.le_refl _)) (Nat.zero_le _) (Nat.le_refl _)) (Nat.zero_le _) (Nat.le_refl _))).mono ?_ (Nat.le_refl _)
    show 10 + 1 + (15 + 1 + (15 + 1 + (wgt a.dep + 1 + (wgt b.dep + 1 + 0)))) ≤ 2 * wgt (max a.dep b.dep) + 60
    omega
/-- numbers of spans and worths stay below 2 ^ 600 -/
theorem spn_bnd : ∀ {many : Nat} {e : Ex}, ExOk many e → (spn e).1.natAbs ≤ 1000 * 2000 ^ e.dep ∧ (spn e).2.natAbs ≤ 1000 * 2000 ^ e.dep := by
  intro many e
  have up : ∀ {m n : Nat}, m ≤ n → 1000 * 2000 ^ m ≤ 1000 * 2000 ^ n := fun h => Nat.mul_le_mul_left _ (Nat.pow_le_pow_right (by decide) h)
  have nx : ∀ n : Nat, 1000 * 2000 ^ (n + 1) = 2000 * (1000 * 2000 ^ n) := fun n => by rw [Nat.pow_succ]; omega
  induction e with
  | fig c =>
    intro o
    have := o.1
    have := o.2
    show c.natAbs ≤ 1000 * 2000 ^ 1 ∧ c.natAbs ≤ 1000 * 2000 ^ 1
    omega
  | reg i =>
    intro o
    show (-1000 : Int).natAbs ≤ 1000 * 2000 ^ 1 ∧ (1000 : Int).natAbs ≤ 1000 * 2000 ^ 1
    decide
  | share j =>
    intro o
    show (0 : Int).natAbs ≤ 1000 * 2000 ^ 1 ∧ (1000 : Int).natAbs ≤ 1000 * 2000 ^ 1
    decide
  | two w a b iha ihb =>
    intro o
    have ha := iha o.1
    have hb := ihb o.2
    have h1 := up (Nat.le_max_left a.dep b.dep)
    have h2 := up (Nat.le_max_right a.dep b.dep)
    show (js w (spn a) (spn b)).1.natAbs ≤ 1000 * 2000 ^ (max a.dep b.dep + 1) ∧ (js w (spn a) (spn b)).2.natAbs ≤ 1000 * 2000 ^ (max a.dep b.dep + 1)
    rw [nx]
    cases w with
    | sum => simp only [js]; omega
    | less => simp only [js]; omega
    | least => simp only [js, mn]; split <;> split <;> omega
    | most => simp only [js, mx]; split <;> split <;> omega
  | times f a ih =>
    intro o
    have ha := ih o.2
    have hf : f.natAbs ≤ 9 := by have := o.1; omega
    have m1 : (f * (spn a).1).natAbs ≤ 9 * (1000 * 2000 ^ a.dep) := by rw [Int.natAbs_mul]; exact Nat.mul_le_mul hf ha.1
    have m2 : (f * (spn a).2).natAbs ≤ 9 * (1000 * 2000 ^ a.dep) := by rw [Int.natAbs_mul]; exact Nat.mul_le_mul hf ha.2
    show (mn _ _).natAbs ≤ 1000 * 2000 ^ (a.dep + 1) ∧ (mx _ _).natAbs ≤ 1000 * 2000 ^ (a.dep + 1)
    rw [nx]
    unfold mn mx
    split <;> split <;> omega
  | «by» i a ih =>
    intro o
    have ha := ih o.2
    have m1 : (mx (ab (spn a).1) (ab (spn a).2)).natAbs ≤ 1000 * 2000 ^ a.dep := by
      unfold mx ab
      repeat' split
      all_goals omega
    show (-1000 * mx _ _).natAbs ≤ 1000 * 2000 ^ (a.dep + 1) ∧ (1000 * mx _ _).natAbs ≤ 1000 * 2000 ^ (a.dep + 1)
    rw [nx]
    omega
  | when i c a b iha ihb =>
    intro o
    have ha := iha o.2.2.1
    have hb := ihb o.2.2.2
    have h1 := up (Nat.le_max_left a.dep b.dep)
    have h2 := up (Nat.le_max_right a.dep b.dep)
    show (mn _ _).natAbs ≤ 1000 * 2000 ^ (max a.dep b.dep + 1) ∧ (mx _ _).natAbs ≤ 1000 * 2000 ^ (max a.dep b.dep + 1)
    rw [nx]
    unfold mn mx
    split <;> split <;> omega
  | whr i c a b iha ihb =>
    intro o
    have ha := iha o.2.2.1
    have hb := ihb o.2.2.2
    have h1 := up (Nat.le_max_left a.dep b.dep)
    have h2 := up (Nat.le_max_right a.dep b.dep)
    show (mn _ _).natAbs ≤ 1000 * 2000 ^ (max a.dep b.dep + 1) ∧ (mx _ _).natAbs ≤ 1000 * 2000 ^ (max a.dep b.dep + 1)
    rw [nx]
    unfold mn mx
    split <;> split <;> omega
theorem bnd_600 {d : Nat} {x : Int} (hd : d ≤ 10) (h : x.natAbs ≤ 1000 * 2000 ^ d) : x.natAbs < 2 ^ 300 := by
  have h1 : 1000 * 2000 ^ d ≤ 1000 * 2000 ^ 10 := Nat.mul_le_mul_left _ (Nat.pow_le_pow_right (by decide) hd)
  have h2 : (1000 * 2000 ^ 10 : Nat) < 2 ^ 300 := by decide
  omega
end NG

namespace NG
open PySem PySem.Spec PyProof.Rows L2

/-! ### leaves and borders -/
def lvs : Ex → Int
  | .fig _ => 1
  | .reg _ => 1
  | .share _ => 1
  | .two .sum a b => lvs a * lvs b
  | .two .less a b => lvs a * lvs b
  | .two .least a b => lvs a + lvs b
  | .two .most a b => lvs a + lvs b
  | .times _ a => lvs a
  | .by _ a => lvs a
  | .when _ _ a b => mx (lvs a) (lvs b)
  | .whr _ _ a b => lvs a + lvs b
def bds : Ex → Int
  | .fig _ => 0
  | .reg _ => 0
  | .share _ => 0
  | .two .sum a b => bds a + bds b
  | .two .less a b => bds a + bds b
  | .two .least a b => bds a + bds b + lvs a * lvs b
  | .two .most a b => bds a + bds b + lvs a * lvs b
  | .times _ a => bds a
  | .by _ a => bds a
  | .when _ _ a b => mx (bds a) (bds b)
  | .whr _ _ a b => bds a + bds b + 1
def bnd : Nat → Nat
  | 0 => 1
  | n + 1 => bnd n * bnd n + 2 * bnd n
theorem bnd_pos : ∀ n, 1 ≤ bnd n
  | 0 => Nat.le_refl _
  | n + 1 => by
    have := bnd_pos n
    show 1 ≤ bnd n * bnd n + 2 * bnd n
    omega
theorem bnd_up : ∀ {m n : Nat}, m ≤ n → bnd m ≤ bnd n := by
  intro m n h
  induction h with
  | refl => exact Nat.le_refl _
  | step _ ih =>
    refine Nat.le_trans ih ?_
    show _ ≤ bnd _ * bnd _ + 2 * bnd _
    omega
theorem lb_bnd : ∀ e : Ex, (lvs e).natAbs ≤ bnd e.dep ∧ (bds e).natAbs ≤ bnd e.dep := by
  intro e
  have pm : ∀ {x y : Int} {B : Nat}, x.natAbs ≤ B → y.natAbs ≤ B → (x * y).natAbs ≤ B * B := fun hx hy => by rw [Int.natAbs_mul]; exact Nat.mul_le_mul hx hy
  induction e with
  | fig c => exact ⟨by show 1 ≤ bnd 1; exact bnd_pos 1, Nat.zero_le _⟩
  | reg c => exact ⟨by show 1 ≤ bnd 1; exact bnd_pos 1, Nat.zero_le _⟩
  | share c => exact ⟨by show 1 ≤ bnd 1; exact bnd_pos 1, Nat.zero_le _⟩
  | two w a b iha ihb =>
    have h1 := bnd_up (Nat.le_max_left a.dep b.dep)
    have h2 := bnd_up (Nat.le_max_right a.dep b.dep)
    have hm := pm (Nat.le_trans iha.1 h1) (Nat.le_trans ihb.1 h2)
    show (lvs (.two w a b)).natAbs ≤ bnd (max a.dep b.dep) * bnd (max a.dep b.dep) + 2 * bnd (max a.dep b.dep) ∧ (bds (.two w a b)).natAbs ≤ bnd (max a.dep b.dep) * bnd (max a.dep b.dep) + 2 * bnd (max a.dep b.dep)
    cases w <;> simp only [lvs, bds] <;> omega
  | times f a ih =>
    show (lvs a).natAbs ≤ bnd a.dep * bnd a.dep + 2 * bnd a.dep ∧ (bds a).natAbs ≤ bnd a.dep * bnd a.dep + 2 * bnd a.dep
    omega
  | «by» i a ih =>
    show (lvs a).natAbs ≤ bnd a.dep * bnd a.dep + 2 * bnd a.dep ∧ (bds a).natAbs ≤ bnd a.dep * bnd a.dep + 2 * bnd a.dep
    omega
  | when i c a b iha ihb =>
    have h1 := bnd_up (Nat.le_max_left a.dep b.dep)
    have h2 := bnd_up (Nat.le_max_right a.dep b.dep)
    show (mx (lvs a) (lvs b)).natAbs ≤ bnd (max a.dep b.dep) * bnd (max a.dep b.dep) + 2 * bnd (max a.dep b.dep) ∧ (mx (bds a) (bds b)).natAbs ≤ bnd (max a.dep b.dep) * bnd (max a.dep b.dep) + 2 * bnd (max a.dep b.dep)
    unfold mx
    split <;> split <;> omega
  | whr i c a b iha ihb =>
    have h1 := bnd_up (Nat.le_max_left a.dep b.dep)
    have h2 := bnd_up (Nat.le_max_right a.dep b.dep)
    have h3 := bnd_pos (max a.dep b.dep)
    have h4 : bnd (max a.dep b.dep) ≤ bnd (max a.dep b.dep) * bnd (max a.dep b.dep) := Nat.le_mul_of_pos_left _ h3
    show (lvs a + lvs b).natAbs ≤ bnd (max a.dep b.dep) * bnd (max a.dep b.dep) + 2 * bnd (max a.dep b.dep) ∧ (bds a + bds b + 1).natAbs ≤ bnd (max a.dep b.dep) * bnd (max a.dep b.dep) + 2 * bnd (max a.dep b.dep)
    omega
theorem lvs_mul {e : Ex} {y : Int} (h : e.dep ≤ 5) : CMul (lvs e) y := by
  have h1 := (lb_bnd e).1
  have h2 := bnd_up h
  have h3 : bnd 5 < 2 ^ 64 := by decide
  exact .inl ⟨by omega, by omega⟩
theorem lb_600 {e : Ex} (h : e.dep ≤ 6) : (lvs e).natAbs < 2 ^ 600 ∧ (bds e).natAbs < 2 ^ 600 := by
  have h1 := lb_bnd e
  have h2 := bnd_up h
  have h3 : bnd 6 < 2 ^ 600 := by decide
  omega
def spCnt (K : PySem.W.Frag) (f : Ex → Int) (n : Nat) : Sp := fun vs H Q _ => ∃ (v : V) (e : Ex) (many : Nat), vs = [v] ∧ ExAt K H e v ∧ ExOk many e ∧ e.dep ≤ n ∧ e.dep ≤ 6 ∧ ∀ H', Same H H' → Q (.int (f e)) H'
def spLB (K : PySem.W.Frag) (n : Nat) : Sp := fun vs H Q _ => ∃ (v : V) (e : Ex) (many : Nat), vs = [v] ∧ ExAt K H e v ∧ ExOk many e ∧ e.dep ≤ n ∧ e.dep ≤ 6 ∧ ∀ H' u, Same H H' → SpAt K H' (lvs e, bds e) u → Q u H'

/-! ### the law's own reading -/
def Ex.rest : Ex → List Itm
  | .fig c => [.i c]
  | .reg i => [.i (i : Int)]
  | .share j => [.i (j : Int)]
  | .two _ a b => [.k a, .k b]
  | .times f a => [.i f, .k a]
  | .by i a => [.i (i : Int), .k a]
  | .when i c a b => [.i (i : Int), .i c, .k a, .k b]
  | .whr j c a b => [.i (j : Int), .i c, .k a, .k b]
theorem kidsI_rest (e : Ex) : kidsI e.rest = e.kids := by cases e <;> rfl
theorem rest_len (e : Ex) : e.rest.length ≤ 4 := by cases e <;> simp [Ex.rest]
theorem ItsAt.imp {K : PySem.W.Frag} {H H' : Hp} (sm : Same H H') : ∀ {vs : List V} {ts : List Itm}, ItsAt K H vs ts → ItsAt K H' vs ts
  | [], [], _ => trivial
  | _ :: _, .s _ :: _, ⟨x, r⟩ => ⟨x, r.imp sm⟩
  | _ :: _, .i _ :: _, ⟨x, r⟩ => ⟨x, r.imp sm⟩
  | _ :: _, .k e :: _, ⟨x, r⟩ => ⟨ExAt.same (e := e) x sm, r.imp sm⟩
theorem ExAt.rst {K : PySem.W.Frag} {H : Hp} : ∀ {e : Ex} {v : V}, ExAt K H e v → ∃ p xs, v = .ref p ∧ SqT K H p (.str (wordOf e) :: xs) ∧ 0 < xs.length ∧ ItsAt K H xs e.rest
  | .fig _, _, ⟨p, e, q⟩ => ⟨p, _, e, q, by simp, rfl, trivial⟩
  | .reg _, _, ⟨p, e, q⟩ => ⟨p, _, e, q, by simp, rfl, trivial⟩
  | .share _, _, ⟨p, e, q⟩ => ⟨p, _, e, q, by simp, rfl, trivial⟩
  | .two _ _ _, _, ⟨p, x, y, e, q, a, b⟩ => ⟨p, _, e, q, by simp, a, b, trivial⟩
  | .times _ _, _, ⟨p, x, e, q, a⟩ => ⟨p, _, e, q, by simp, rfl, a, trivial⟩
  | .by _ _, _, ⟨p, x, e, q, a⟩ => ⟨p, _, e, q, by simp, rfl, a, trivial⟩
  | .when _ _ _ _, _, ⟨p, x, y, e, q, a, b⟩ => ⟨p, _, e, q, by simp, rfl, rfl, a, b, trivial⟩
  | .whr _ _ _ _, _, ⟨p, x, y, e, q, a, b⟩ => ⟨p, _, e, q, by simp, rfl, rfl, a, b, trivial⟩
theorem cut1 {x : V} {xs : List V} : cutV (x :: xs) (some 1) none = xs := by
  unfold cutV
  rw [show HT.sIx (x :: xs).length 0 (some 1) = min 1 (x :: xs).length from HT.sIx_nat _ 0 1, HT.sIx_none, List.length_cons, show min 1 (xs.length + 1) = 1 by omega]
  show List.take (xs.length + 1 - 1) xs = xs
  rw [Nat.add_sub_cancel, List.take_length]
theorem cut1w {x : V} {xs : List V} (h : 0 < xs.length) : ¬ (HT.sIx (x :: xs).length 0 (some 1) = 0 ∧ HT.sIx (x :: xs).length (x :: xs).length none = (x :: xs).length) := by
  rw [show HT.sIx (x :: xs).length 0 (some 1) = min 1 (x :: xs).length from HT.sIx_nat _ 0 1, List.length_cons]
  omega
theorem kidsI_snoc {ts : List Itm} {i : Nat} {t : Itm} (h : ts[i]? = some t) : kidsI (ts.take (i + 1)) = kidsI (ts.take i) ++ kidsI [t] := by
  rw [List.take_add_one, h, kidsI_append]
  rfl
theorem mem_kidsI {e : Ex} : ∀ {ts : List Itm}, Itm.k e ∈ ts → e ∈ kidsI ts
  | .k e' :: r, h => by
    rcases List.mem_cons.mp h with h | h
    · cases h
      exact List.mem_cons_self
    · exact List.mem_cons_of_mem _ (mem_kidsI h)
  | .s _ :: r, h => by
    rcases List.mem_cons.mp h with h | h
    · cases h
    · exact mem_kidsI (ts := r) h
  | .i _ :: r, h => by
    rcases List.mem_cons.mp h with h | h
    · cases h
    · exact mem_kidsI (ts := r) h
theorem sort2 {ns : List Int} {a b : Int} (hp : ns.Perm [a, b]) (hs : ns.Pairwise (· ≤ ·)) : ns = [mn a b, mx a b] := by
  have hl := hp.length_eq
  match ns, hl with
  | [x, y], _ =>
    have hxy : x ≤ y := by simpa using hs
    have h1 : x = a ∨ x = b := by simpa using hp.mem_iff (a := x)
    have h2 : y = a ∨ y = b := by simpa using hp.mem_iff (a := y)
    have h3 : a = x ∨ a = y := by simpa using (hp.mem_iff (a := a)).mpr (by simp)
    have h4 : b = x ∨ b = y := by simpa using (hp.mem_iff (a := b)).mpr (by simp)
    have e1 : x = mn a b := by unfold mn; split <;> omega
    have e2 : y = mx a b := by unfold mx; split <;> omega
    rw [e1, e2]
theorem far_eq {lo hi : Int} (h : lo ≤ hi) : (if (0 - lo) > hi then (0 - lo) else hi) = mx (ab lo) (ab hi) := by
  unfold mx ab
  repeat' split
  all_goals omega
end NG

namespace NG
open PySem PySem.Spec PyProof.Rows L2
/-! ### rows of expressions as data -/
theorem lay_ex : ∀ e : Ex, (toD e).canLay0 = true
  | .fig _ => by
    show (PyData.canLay0 (.str "fig") && (true && true)) = true
    decide +kernel
  | .reg _ => by
    show (PyData.canLay0 (.str "reg") && (true && true)) = true
    decide +kernel
  | .share _ => by
    show (PyData.canLay0 (.str "share") && (true && true)) = true
    decide +kernel
  | .two w a b => by
    have ha := lay_ex a
    have hb := lay_ex b
    show (PyData.canLay0 (.str (wn w)) && (PyData.canLay0 (toD a) && (PyData.canLay0 (toD b) && true))) = true
    rw [ha, hb]
    cases w <;> decide +kernel
  | .times _ a => by
    have ha := lay_ex a
    show (PyData.canLay0 (.str "times") && (true && (PyData.canLay0 (toD a) && true))) = true
    rw [ha]
    decide +kernel
  | .by _ a => by
    have ha := lay_ex a
    show (PyData.canLay0 (.str "by") && (true && (PyData.canLay0 (toD a) && true))) = true
    rw [ha]
    decide +kernel
  | .when _ _ a b => by
    have ha := lay_ex a
    have hb := lay_ex b
    show (PyData.canLay0 (.str "when") && (true && (true && (PyData.canLay0 (toD a) && (PyData.canLay0 (toD b) && true))))) = true
    rw [ha, hb]
    decide +kernel
  | .whr _ _ a b => by
    have ha := lay_ex a
    have hb := lay_ex b
    show (PyData.canLay0 (.str "where") && (true && (true && (PyData.canLay0 (toD a) && (PyData.canLay0 (toD b) && true))))) = true
    rw [ha, hb]
    decide +kernel
theorem depth_ex : ∀ e : Ex, (toD e).depth ≤ e.dep
  | .fig _ => Nat.le_refl _
  | .reg _ => Nat.le_refl _
  | .share _ => Nat.le_refl _
  | .two w a b => by
    have ha := depth_ex a
    have hb := depth_ex b
    show max 0 (max (toD a).depth (max (toD b).depth 0)) + 1 ≤ max a.dep b.dep + 1
    omega
  | .times _ a => by
    have ha := depth_ex a
    show max 0 (max 0 (max (toD a).depth 0)) + 1 ≤ a.dep + 1
    omega
  | .by _ a => by
    have ha := depth_ex a
    show max 0 (max 0 (max (toD a).depth 0)) + 1 ≤ a.dep + 1
    omega
  | .when _ _ a b => by
    have ha := depth_ex a
    have hb := depth_ex b
    show max 0 (max 0 (max 0 (max (toD a).depth (max (toD b).depth 0)))) + 1 ≤ max a.dep b.dep + 1
    omega
  | .whr _ _ a b => by
    have ha := depth_ex a
    have hb := depth_ex b
    show max 0 (max 0 (max 0 (max (toD a).depth (max (toD b).depth 0)))) + 1 ≤ max a.dep b.dep + 1
    omega
theorem shaped_rows {es : List Ex} (h : ∀ e ∈ es, e.dep ≤ 40) : SeqAt.shaped (.list (es.map toD)) = true := by
  have h1 : PyData.canLayAll0 (es.map toD) = true := by
    clear h
    induction es with
    | nil => rfl
    | cons e r ih =>
      show ((toD e).canLay0 && PyData.canLayAll0 (r.map toD)) = true
      rw [lay_ex e, ih]
      rfl
  have h2 : PyData.depthAll (es.map toD) ≤ 40 := by
    clear h1
    induction es with
    | nil => exact Nat.zero_le _
    | cons e r ih =>
      have a := depth_ex e
      have b := h e (by simp)
      have c := ih fun x hx => h x (List.mem_cons_of_mem _ hx)
      show max (toD e).depth (PyData.depthAll (r.map toD)) ≤ 40
      omega
  show (PyData.canLayAll0 (es.map toD) && decide (PyData.depthAll (es.map toD) + 1 ≤ 64)) = true
  rw [h1, decide_eq_true (by omega)]
  rfl
theorem RowsAt.dps {K : PySem.W.Frag} {H : Hp} : ∀ {vs : List V} {es : List Ex}, RowsAt K H vs es → DpAll K H vs (es.map toD)
  | [], [], _ => .nil
  | _ :: _, _ :: _, ⟨x, r⟩ => .cons x.dp r.dps
theorem RowsAt.append {K : PySem.W.Frag} {H : Hp} : ∀ {vs ws : List V} {es fs : List Ex}, RowsAt K H vs es → RowsAt K H ws fs → RowsAt K H (vs ++ ws) (es ++ fs)
  | [], _, [], _, _, r => r
  | _ :: _, _, _ :: _, _, ⟨x, q⟩, r => ⟨x, q.append r⟩
theorem RowsAt.mem {K : PySem.W.Frag} {H : Hp} : ∀ {vs : List V} {es : List Ex} {v : V}, RowsAt K H vs es → v ∈ vs → ∃ e ∈ es, ExAt K H e v
  | v' :: vs, e :: es, v, ⟨x, r⟩, h => by
    rcases List.mem_cons.mp h with h | h
    · subst h
      exact ⟨e, by simp, x⟩
    · obtain ⟨e', h1, h2⟩ := r.mem h
      exact ⟨e', List.mem_cons_of_mem _ h1, h2⟩
/-! ### slices of lists -/
theorem cut_take {xs : List V} {j : Nat} : cutV xs none (some (j : Int)) = xs.take j := by
  unfold cutV
  rw [HT.sIx_none, HT.sIx_nat, List.drop_zero, Nat.sub_zero]
  by_cases h : j ≤ xs.length
  · rw [Nat.min_eq_left h]
  · rw [Nat.min_eq_right (by omega), List.take_length, List.take_of_length_le (by omega)]
theorem cut_drop {xs : List V} {j : Nat} : cutV xs (some (j : Int)) none = xs.drop j := by
  unfold cutV
  rw [HT.sIx_none, HT.sIx_nat]
  by_cases h : j ≤ xs.length
  · rw [Nat.min_eq_left h, List.take_of_length_le (by rw [List.length_drop]; exact Nat.le_refl _)]
  · rw [Nat.min_eq_right (by omega), Nat.sub_self, List.take_zero, List.drop_of_length_le (by omega)]
/-! ### words within -/
def spWords (K : PySem.W.Frag) (n : Nat) : Sp := fun vs H Q _ => ∃ (v : V) (x : Str) (e : Ex) (many : Nat), vs = [v, .str x] ∧ ExAt K H e v ∧ ExOk many e ∧ e.dep ≤ n ∧ e.dep ≤ 6 ∧
  ∀ H' l us es, Same H H' → H l = none → H' l = some (.lst us) → RowsAt K H' us es → es.length ≤ 3 ^ n → (∀ e' ∈ es, ExOk many e' ∧ wordOf e' = x ∧ e'.dep ≤ e.dep) → Q (.ref l) H'
def spBorder (K : PySem.W.Frag) : Sp := fun vs H Q _ => ∃ (a : Addr) (v : V) (e : Ex) (many n : Nat), vs = [.ref a, v, .int (many : Int)] ∧ ExAt K H e v ∧ ExOk many e ∧ e.dep ≤ 5 ∧ 2 ≤ many ∧ many ≤ 3 ∧ HandAt H a n ∧ n ≤ 999997000 ∧
  ∀ H' u ms, But a H H' → HandAt H' a (n + 20) → ShAt K H' many ms u → Q u H'
def spNear (K : PySem.W.Frag) : Sp := fun vs H Q _ => ∃ (a : Addr) (v : V) (e : Ex) (many n : Nat), vs = [.ref a, v] ∧ ExAt K H e v ∧ ExOk many e ∧ e.dep ≤ 5 ∧ HandAt H a n ∧ n ≤ 999997000 ∧
  ∀ H' u rs, But a H H' → HandAt H' a (n + 15) → RegsAt K H' rs u → Q u H'
theorem is_whr {e : Ex} (h : wordOf e = "where") : ∃ j c a b, e = .whr j c a b := by
  cases e with
  | whr j c a b => exact ⟨j, c, a, b, rfl⟩
  | two w a b => cases w <;> exact absurd h (of_decide_eq_false rfl)
  | fig _ => exact absurd h (of_decide_eq_false rfl)
  | reg _ => exact absurd h (of_decide_eq_false rfl)
  | share _ => exact absurd h (of_decide_eq_false rfl)
  | times _ _ => exact absurd h (of_decide_eq_false rfl)
  | «by» _ _ => exact absurd h (of_decide_eq_false rfl)
  | when _ _ _ _ => exact absurd h (of_decide_eq_false rfl)
theorem is_when {e : Ex} (h : wordOf e = "when") : ∃ j c a b, e = .when j c a b := by
  cases e with
  | when j c a b => exact ⟨j, c, a, b, rfl⟩
  | two w a b => cases w <;> exact absurd h (of_decide_eq_false rfl)
  | fig _ => exact absurd h (of_decide_eq_false rfl)
  | reg _ => exact absurd h (of_decide_eq_false rfl)
  | share _ => exact absurd h (of_decide_eq_false rfl)
  | times _ _ => exact absurd h (of_decide_eq_false rfl)
  | «by» _ _ => exact absurd h (of_decide_eq_false rfl)
  | whr _ _ _ _ => exact absurd h (of_decide_eq_false rfl)
end NG

namespace NG
open PySem PySem.Spec PyProof.Rows L2
/-! ### tuples put together and cut, whatever they hold -/
theorem catA {K : PySem.W.Frag} {H : Hp} {a b : Addr} {xs ys : List V} {Q : VK} (ha : SqT K H a xs) (hb : SqT K H b ys) (hl : xs.length + ys.length ≤ sizeLine) (q : ∀ H' p, Same H H' → SqT K H' p (xs ++ ys) → Q (.ref p) H') : rCatA K (.ref a) (.ref b) H Q := by
  refine ⟨a, b, xs, ys, rfl, rfl, ha, hb, hl, fun h => ?_, fun _ h => ?_, fun _ _ p np => ?_⟩
  · subst h
    exact q H b (Same.refl _) hb
  · subst h
    exact q H a (Same.refl _) (by rw [List.append_nil]; exact ha)
  · exact q _ p (same_new np) (SqT.of upd_same)
theorem cutV_whole {xs : List V} {lo hi : Option Int} (h : HT.sIx xs.length 0 lo = 0 ∧ HT.sIx xs.length xs.length hi = xs.length) : cutV xs lo hi = xs := by
  unfold cutV
  rw [h.1, h.2, List.drop_zero, Nat.sub_zero, List.take_length]
theorem slA {K : PySem.W.Frag} {H : Hp} {a : Addr} {xs : List V} {lo hi : Option Int} {Q : VK} (ha : SqT K H a xs) (q : ∀ H' p, Same H H' → SqT K H' p (cutV xs lo hi) → Q (.ref p) H') : rSlA K (.ref a) lo hi H Q := by
  refine ⟨a, xs, rfl, ha, fun h => ?_, fun _ p np => ?_⟩
  · exact q H a (Same.refl _) (by rw [cutV_whole h]; exact ha)
  · exact q _ p (same_new np) (SqT.of upd_same)
theorem HandAt.same {H H' : Hp} {a : Addr} {n : Nat} (h : HandAt H a n) (s : Same H H') : HandAt H' a n := by
  obtain ⟨g, sd, m, e, z⟩ := h
  exact ⟨g, sd, m, s _ _ e, z⟩

/-! ### deeds -/
inductive D5 where
  | put | add | copy | plus | told
  deriving DecidableEq
def dn : D5 → Str
  | .put => "put"
  | .add => "add"
  | .copy => "copy"
  | .plus => "plus"
  | .told => "told"
inductive Ds where
  | nil
  | op (w : D5) (i : Nat) (x : Int) (r : Ds)
  | when (i : Nat) (c : Int) (a b r : Ds)
def DsAt (K : PySem.W.Frag) (H : Hp) : Ds → List V → Prop
  | .nil, vs => vs = []
  | .op w i x r, vs => ∃ p us, vs = .ref p :: us ∧ SqT K H p [.str (dn w), .int (i : Int), .int x] ∧ DsAt K H r us
  | .when i c a b r, vs => ∃ p pa pb xa xb us, vs = .ref p :: us ∧ SqT K H p [.str "when", .int (i : Int), .int c, .ref pa, .ref pb] ∧ SqT K H pa xa ∧ DsAt K H a xa ∧ SqT K H pb xb ∧ DsAt K H b xb ∧ DsAt K H r us
theorem DsAt.imp {K : PySem.W.Frag} {H H' : Hp} (h : ∀ p xs, SqT K H p xs → SqT K H' p xs) : ∀ {d : Ds} {vs : List V}, DsAt K H d vs → DsAt K H' d vs
  | .nil, _, e => e
  | .op _ _ _ _, _, ⟨p, us, e, q, r⟩ => ⟨p, us, e, h _ _ q, DsAt.imp h r⟩
  | .when _ _ _ _ _, _, ⟨p, pa, pb, xa, xb, us, e, q, qa, a, qb, b, r⟩ => ⟨p, pa, pb, xa, xb, us, e, h _ _ q, h _ _ qa, DsAt.imp h a, h _ _ qb, DsAt.imp h b, DsAt.imp h r⟩
theorem DsAt.same {K : PySem.W.Frag} {H H' : Hp} {d : Ds} {vs : List V} (x : DsAt K H d vs) (s : Same H H') : DsAt K H' d vs := x.imp fun _ _ q => same_sqt s q
def Ds.app : Ds → Ds → Ds
  | .nil, e => e
  | .op w i x r, e => .op w i x (r.app e)
  | .when i c a b r, e => .when i c a b (r.app e)
theorem DsAt.app {K : PySem.W.Frag} {H : Hp} : ∀ {d e : Ds} {vs ws : List V}, DsAt K H d vs → DsAt K H e ws → DsAt K H (d.app e) (vs ++ ws)
  | .nil, _, _, _, e, y => by
    subst e
    exact y
  | .op _ _ _ _, _, _, _, ⟨p, us, e, q, r⟩, y => by
    subst e
    exact ⟨p, _, rfl, q, DsAt.app r y⟩
  | .when _ _ _ _ _, _, _, _, ⟨p, pa, pb, xa, xb, us, e, q, qa, a, qb, b, r⟩, y => by
    subst e
    exact ⟨p, pa, pb, xa, xb, _, rfl, q, qa, a, qb, b, DsAt.app r y⟩
def Ds.cnt : Ds → Nat
  | .nil => 0
  | .op _ _ _ r => 1 + r.cnt
  | .when _ _ a b r => 1 + (a.cnt + b.cnt) + r.cnt
def Ds.len : Ds → Nat
  | .nil => 0
  | .op _ _ _ r => r.len + 1
  | .when _ _ _ _ r => r.len + 1
def Ds.dep : Ds → Nat
  | .nil => 0
  | .op _ _ _ r => max 1 r.dep
  | .when _ _ a b r => max (max a.dep b.dep + 1) r.dep
theorem Ds.len_le : ∀ d : Ds, d.len ≤ d.cnt
  | .nil => Nat.le_refl _
  | .op _ _ _ r => by have := r.len_le; show r.len + 1 ≤ 1 + r.cnt; omega
  | .when _ _ a b r => by have := r.len_le; show r.len + 1 ≤ 1 + (a.cnt + b.cnt) + r.cnt; omega
theorem DsAt.len {K : PySem.W.Frag} {H : Hp} : ∀ {d : Ds} {vs : List V}, DsAt K H d vs → vs.length = d.len
  | .nil, _, e => by subst e; rfl
  | .op _ _ _ _, _, ⟨p, us, e, q, r⟩ => by subst e; rw [List.length_cons, r.len]; rfl
  | .when _ _ _ _ _, _, ⟨p, pa, pb, xa, xb, us, e, q, qa, a, qb, b, r⟩ => by subst e; rw [List.length_cons, r.len]; rfl
theorem Ds.cnt_app : ∀ d e : Ds, (d.app e).cnt = d.cnt + e.cnt
  | .nil, e => by show e.cnt = 0 + e.cnt; omega
  | .op _ _ _ r, e => by show 1 + (r.app e).cnt = 1 + r.cnt + e.cnt; rw [Ds.cnt_app r e]; omega
  | .when _ _ a b r, e => by show 1 + (a.cnt + b.cnt) + (r.app e).cnt = 1 + (a.cnt + b.cnt) + r.cnt + e.cnt; rw [Ds.cnt_app r e]; omega
theorem Ds.dep_app : ∀ d e : Ds, (d.app e).dep = max d.dep e.dep
  | .nil, e => by show e.dep = max 0 e.dep; omega
  | .op _ _ _ r, e => by show max 1 (r.app e).dep = max (max 1 r.dep) e.dep; rw [Ds.dep_app r e]; omega
  | .when _ _ a b r, e => by show max (max a.dep b.dep + 1) (r.app e).dep = max (max (max a.dep b.dep + 1) r.dep) e.dep; rw [Ds.dep_app r e]; omega
def xok (many : Nat) : D5 → Int → Prop
  | .put, x => -1000 ≤ x ∧ x ≤ 1000
  | .add, x => -1000 ≤ x ∧ x ≤ 1000
  | .copy, x => 0 ≤ x ∧ x < 4
  | .plus, x => 0 ≤ x ∧ x < 4
  | .told, x => 0 ≤ x ∧ x < many
theorem xok_small {many : Nat} (hm : many ≤ 1000) : ∀ {w : D5} {x : Int}, xok many w x → -1000 ≤ x ∧ x ≤ 1000
  | .put, _, h => h
  | .add, _, h => h
  | .copy, _, h => by have := h.1; have := h.2; constructor <;> omega
  | .plus, _, h => by have := h.1; have := h.2; constructor <;> omega
  | .told, _, h => by have := h.1; have := h.2; constructor <;> omega
def DsOk (many : Nat) : Ds → Prop
  | .nil => True
  | .op w i x r => i < 4 ∧ xok many w x ∧ DsOk many r
  | .when i c a b r => i < 4 ∧ (-1000 ≤ c ∧ c ≤ 1000) ∧ DsOk many a ∧ DsOk many b ∧ DsOk many r
theorem DsOk.app {many : Nat} : ∀ {d e : Ds}, DsOk many d → DsOk many e → DsOk many (d.app e)
  | .nil, _, _, y => y
  | .op _ _ _ _, _, ⟨h1, h2, h3⟩, y => ⟨h1, h2, DsOk.app h3 y⟩
  | .when _ _ _ _ _, _, ⟨h1, h2, h3, h4, h5⟩, y => ⟨h1, h2, h3, h4, DsOk.app h5 y⟩
def cl (n : Int) : Int := mx (-1000) (mn 1000 n)
theorem cl_in (n : Int) : -1000 ≤ cl n ∧ cl n ≤ 1000 := by
  unfold cl mx mn
  repeat' split
  all_goals omega
def hb (ss : List Int) : D5 → Nat → Int → List Int → Int
  | .put, _, x, _ => x
  | .add, i, x, rs => rs.getD i 0 + x
  | .copy, _, x, rs => rs.getD x.toNat 0
  | .plus, i, x, rs => rs.getD i 0 + rs.getD x.toNat 0
  | .told, _, x, _ => 1000 * ss.getD x.toNat 0 / ss.sum
def ap (ss : List Int) : Ds → List Int → List Int
  | .nil, rs => rs
  | .op w i x r, rs => ap ss r (rs.set i (cl (hb ss w i x rs)))
  | .when i c a b r, rs => ap ss r (if rs.getD i 0 < c then ap ss a rs else ap ss b rs)
def RegOk (rs : List Int) : Prop := rs.length = 4 ∧ ∀ x ∈ rs, -1000 ≤ x ∧ x ≤ 1000
theorem RegOk.set {rs : List Int} (h : RegOk rs) (i : Nat) (n : Int) : RegOk (rs.set i (cl n)) := by
  refine ⟨by rw [List.length_set]; exact h.1, fun x hx => ?_⟩
  rcases List.mem_or_eq_of_mem_set hx with hx | rfl
  · exact h.2 x hx
  · exact cl_in n
theorem RegOk.ap {ss : List Int} : ∀ {d : Ds} {rs : List Int}, RegOk rs → RegOk (ap ss d rs)
  | .nil, _, h => h
  | .op w i x r, rs, h => RegOk.ap (d := r) (h.set i _)
  | .when i c a b r, rs, h => by
    show RegOk (NG.ap ss r (if rs.getD i 0 < c then NG.ap ss a rs else NG.ap ss b rs))
    refine RegOk.ap (d := r) ?_
    split
    · exact RegOk.ap (d := a) h
    · exact RegOk.ap (d := b) h
theorem RegsAt.ok {K : PySem.W.Frag} {H : Hp} {rs : List Int} {v : V} (h : RegsAt K H rs v) : RegOk rs := by
  obtain ⟨p, _, _, l, b⟩ := h
  exact ⟨l, b⟩
theorem RegsAt.same {K : PySem.W.Frag} {H H' : Hp} {rs : List Int} {v : V} (h : RegsAt K H rs v) (s : Same H H') : RegsAt K H' rs v := h.imp fun _ _ q => same_sqt s q
theorem ShAt.same {K : PySem.W.Frag} {H H' : Hp} {many : Nat} {rs : List Int} {v : V} (h : ShAt K H many rs v) (s : Same H H') : ShAt K H' many rs v := h.imp fun _ _ q => same_sqt s q
/-! ### rows of deeds, doubters -/
def BhAt (K : PySem.W.Frag) (H : Hp) : List V → List Ds → Prop
  | [], [] => True
  | v :: vs, d :: ds => (∃ p xs, v = .ref p ∧ SqT K H p xs ∧ DsAt K H d xs) ∧ BhAt K H vs ds
  | _, _ => False
theorem BhAt.imp {K : PySem.W.Frag} {H H' : Hp} (h : ∀ p xs, SqT K H p xs → SqT K H' p xs) : ∀ {vs : List V} {es : List Ds}, BhAt K H vs es → BhAt K H' vs es
  | [], [], _ => trivial
  | _ :: _, _ :: _, ⟨⟨p, xs, e, q, x⟩, r⟩ => ⟨⟨p, xs, e, h _ _ q, x.imp h⟩, BhAt.imp h r⟩
theorem BhAt.same {K : PySem.W.Frag} {H H' : Hp} {vs : List V} {es : List Ds} (r : BhAt K H vs es) (s : Same H H') : BhAt K H' vs es := r.imp fun _ _ q => same_sqt s q
theorem BhAt.len {K : PySem.W.Frag} {H : Hp} : ∀ {vs : List V} {es : List Ds}, BhAt K H vs es → vs.length = es.length
  | [], [], _ => rfl
  | _ :: _, _ :: _, ⟨_, r⟩ => by rw [List.length_cons, List.length_cons, r.len]
theorem BhAt.snoc {K : PySem.W.Frag} {H : Hp} {p : Addr} {xs : List V} {d : Ds} (q : SqT K H p xs) (x : DsAt K H d xs) : ∀ {vs : List V} {es : List Ds}, BhAt K H vs es → BhAt K H (vs ++ [.ref p]) (es ++ [d])
  | [], [], _ => ⟨⟨p, xs, rfl, q, x⟩, trivial⟩
  | _ :: _, _ :: _, ⟨y, r⟩ => ⟨y, BhAt.snoc q x r⟩
theorem BhAt.get {K : PySem.W.Frag} {H : Hp} : ∀ {vs : List V} {es : List Ds} {k : Nat} {d : Ds}, BhAt K H vs es → es[k]? = some d → ∃ p xs, vs[k]? = some (.ref p) ∧ SqT K H p xs ∧ DsAt K H d xs
  | [], [], _, _, _, h => by simp at h
  | v :: vs, e' :: es, 0, e, ⟨⟨p, xs, e1, q, x⟩, r⟩, h => by
    have : e' = e := Option.some.inj h
    subst this
    exact ⟨p, xs, by rw [e1]; rfl, q, x⟩
  | v :: vs, e' :: es, k + 1, e, ⟨x, r⟩, h => BhAt.get (k := k) r h
structure Dbt where
  name : Str
  scale : Nat
  begins : List Int
  stakes : List Ex
  behinds : List Ds
def DbAt (K : PySem.W.Frag) (H : Hp) (D : Dbt) (v : V) : Prop := ∃ (p : Addr) (vb : V) (ps pb : Addr) (us ws : List V), v = .ref p ∧ SqT K H p [.str D.name, .int (D.scale : Int), vb, .ref ps, .ref pb] ∧ RegsAt K H D.begins vb ∧ SqT K H ps us ∧ RowsAt K H us D.stakes ∧ SqT K H pb ws ∧ BhAt K H ws D.behinds
theorem DbAt.imp {K : PySem.W.Frag} {H H' : Hp} {D : Dbt} {v : V} (x : DbAt K H D v) (h : ∀ p xs, SqT K H p xs → SqT K H' p xs) : DbAt K H' D v := by
  obtain ⟨p, vb, ps, pb, us, ws, e, q, r, q1, r1, q2, r2⟩ := x
  exact ⟨p, vb, ps, pb, us, ws, e, h _ _ q, r.imp h, h _ _ q1, r1.imp h, h _ _ q2, r2.imp h⟩
theorem DbAt.same {K : PySem.W.Frag} {H H' : Hp} {D : Dbt} {v : V} (x : DbAt K H D v) (s : Same H H') : DbAt K H' D v := x.imp fun _ _ q => same_sqt s q
/-- names, scale, registers, stakes of a depth, deeds of a depth and a number -/
structure DbOk (many dE dD cD : Nat) (D : Dbt) : Prop where
  nm : D.name = "a" ∨ D.name = "doubter" ∨ D.name = "sceptics" ∨ D.name = "zz"
  sc : D.scale < 5
  rg : RegOk D.begins
  sl : D.stakes.length = many
  st : ∀ e ∈ D.stakes, ExOk many e ∧ e.dep ≤ dE
  bl : D.behinds.length = many
  bh : ∀ d ∈ D.behinds, DsOk many d ∧ d.dep ≤ dD ∧ d.cnt ≤ cD
/-! ### as data -/
def dsD : Ds → List PyData
  | .nil => []
  | .op w i x r => .tuple [.str (dn w), .int (i : Int), .int x] :: dsD r
  | .when i c a b r => .tuple [.str "when", .int (i : Int), .int c, .tuple (dsD a), .tuple (dsD b)] :: dsD r
theorem DsAt.dps {K : PySem.W.Frag} {H : Hp} : ∀ {d : Ds} {vs : List V}, DsAt K H d vs → DpAll K H vs (dsD d)
  | .nil, _, e => by subst e; exact .nil
  | .op _ _ _ _, _, ⟨p, us, e, q, r⟩ => by subst e; exact .cons (.tup q (.cons (.str _) (.cons (.int _) (.cons (.int _) .nil)))) r.dps
  | .when _ _ _ _ _, _, ⟨p, pa, pb, xa, xb, us, e, q, qa, a, qb, b, r⟩ => by subst e; exact .cons (.tup q (.cons (.str _) (.cons (.int _) (.cons (.int _) (.cons (.tup qa a.dps) (.cons (.tup qb b.dps) .nil)))))) r.dps
theorem BhAt.dps {K : PySem.W.Frag} {H : Hp} : ∀ {vs : List V} {es : List Ds}, BhAt K H vs es → DpAll K H vs (es.map fun d => .tuple (dsD d))
  | [], [], _ => .nil
  | _ :: _, _ :: _, ⟨⟨p, xs, e, q, x⟩, r⟩ => by subst e; exact .cons (.tup q x.dps) r.dps
def dbD (D : Dbt) : PyData := .tuple [.str D.name, .int (D.scale : Int), .tuple (D.begins.map PyData.int), .tuple (D.stakes.map toD), .tuple (D.behinds.map fun d => .tuple (dsD d))]
theorem dp_ints {K : PySem.W.Frag} {H : Hp} : ∀ ns : List Int, DpAll K H (ns.map V.int) (ns.map PyData.int)
  | [] => .nil
  | n :: r => .cons (.int n) (dp_ints r)
theorem DbAt.dp {K : PySem.W.Frag} {H : Hp} {D : Dbt} {v : V} (x : DbAt K H D v) : Dp K H v (dbD D) := by
  obtain ⟨p, vb, ps, pb, us, ws, e, q, ⟨pr, e2, r, _⟩, q1, r1, q2, r2⟩ := x
  subst e e2
  exact .tup q (.cons (.str _) (.cons (.int _) (.cons (.tup r (dp_ints _)) (.cons (.tup q1 r1.dps) (.cons (.tup q2 r2.dps) .nil)))))
theorem shw_smalls : ∀ {ns : List Int}, (∀ x ∈ ns, -1000 ≤ x ∧ x ≤ 1000) → ShwAll (ns.map PyData.int) (16 * ns.length) 0
  | [], _ => ShwAll.nil
  | n :: r, h => by
    have h0 := h n (by simp)
    have h1 := Shw.small (i := n) (by omega)
    have h2 := shw_smalls (ns := r) fun x hx => h x (List.mem_cons_of_mem _ hx)
    have h3 := ShwAll.cons h1 h2 (Nat.le_refl 0) (Nat.le_refl 0)
    refine ⟨h3.sh, h3.lf, Nat.le_trans h3.wt ?_, h3.dp⟩
    rw [List.length_cons]
    omega
theorem shw_ds {many : Nat} (hm : many ≤ 1000) : ∀ {d : Ds}, DsOk many d → ShwAll (dsD d) (60 * d.cnt) (2 * d.dep)
  | .nil, _ => ShwAll.nil
  | .op w i x r, ⟨o1, o2, o3⟩ => by
    have hr := shw_ds hm (d := r) o3
    have hx := xok_small hm o2
    have hw : Shw (.str (dn w)) 10 0 := by cases w <;> exact .str (by decide) (by decide)
    have h1 := ShwAll.tup (.cons hw (.cons (.small (i := (i : Int)) (by omega)) (.cons (.small (i := x) (by omega)) .nil (Nat.le_refl 0) (Nat.le_refl 0)) (Nat.le_refl 0) (Nat.le_refl 0)) (Nat.le_refl 0) (Nat.le_refl 0))
    have h2 := ShwAll.cons h1 hr (k := 2 * max 1 r.dep) (by omega) (by omega)
    refine ⟨h2.sh, h2.lf, Nat.le_trans h2.wt ?_, h2.dp⟩
    show 10 + 1 + (15 + 1 + (15 + 1 + 0)) + 1 + 60 * r.cnt ≤ 60 * (1 + r.cnt)
    omega
  | .when i c a b r, ⟨o1, o2, o3, o4, o5⟩ => by
    have ha := (shw_ds hm (d := a) o3).tup
    have hb := (shw_ds hm (d := b) o4).tup
    have hr := shw_ds hm (d := r) o5
    have h1 := ShwAll.tup (.cons (.str (x := "when") (by decide) (by decide)) (.cons (.small (i := (i : Int)) (by omega)) (.cons (.small (i := c) (by omega)) (.cons ha (.cons hb .nil (k := 2 * max a.dep b.dep + 1) (by omega) (Nat.zero_le _)) (by omega) (Nat.le_refl _)) (Nat.zero_le _) (Nat.le_refl _)) (Nat.zero_le _) (Nat.le_refl _)) (Nat.zero_le _) (Nat.le_refl _))
    have h2 := ShwAll.cons h1 hr (k := 2 * max (max a.dep b.dep + 1) r.dep) (by omega) (by omega)
    refine ⟨h2.sh, h2.lf, Nat.le_trans h2.wt ?_, h2.dp⟩
    show 10 + 1 + (15 + 1 + (15 + 1 + (60 * a.cnt + 1 + (60 * b.cnt + 1 + 0)))) + 1 + 60 * r.cnt ≤ 60 * (1 + (a.cnt + b.cnt) + r.cnt)
    omega
theorem shw_list {α : Type} {f : α → PyData} {w k : Nat} : ∀ {xs : List α}, (∀ x ∈ xs, Shw (f x) w k) → ShwAll (xs.map f) ((w + 1) * xs.length) k
  | [], _ => ShwAll.nil
  | n :: r, h => by
    have h1 := h n (by simp)
    have h2 := shw_list (xs := r) fun x hx => h x (List.mem_cons_of_mem _ hx)
    have h3 := ShwAll.cons h1 h2 (Nat.le_refl k) (Nat.le_refl k)
    refine ⟨h3.sh, h3.lf, Nat.le_trans h3.wt ?_, h3.dp⟩
    rw [List.length_cons, Nat.mul_add]
    omega
/-- a doubter's weight -/
theorem shw_db {many dE dD cD : Nat} {D : Dbt} (hm : many ≤ 3) (hE : dE ≤ 8) (hD : dD ≤ 8) (o : DbOk many dE dD cD D) : Shw (dbD D) (120 + 3 * wgt dE + 180 * cD) 20 := by
  have h0 : Shw (.str D.name) 10 0 := by rcases o.nm with e | e | e | e <;> rw [e] <;> exact .str (by decide) (by decide)
  have h1 : Shw (.int (D.scale : Int)) 15 0 := .small (by have := o.sc; omega)
  have h2 := (shw_smalls o.rg.2).tup
  have h3 := (shw_list (f := toD) (w := wgt dE) (k := dE) fun e he => (shw_ex (many := many) (by omega) (o.st e he).1).mono (wgt_mono (o.st e he).2) (o.st e he).2).tup
  have h4 := (shw_list (f := fun d => PyData.tuple (dsD d)) (w := 60 * cD) (k := 2 * dD + 1) fun d hd => ((shw_ds (many := many) (by omega) (o.bh d hd).1).tup).mono (Nat.mul_le_mul_left _ (o.bh d hd).2.2) (by have := (o.bh d hd).2.1; omega)).tup
  have h5 := ShwAll.tup (.cons h0 (.cons h1 (.cons h2 (.cons h3 (.cons h4 (ShwAll.nil (k := 0)) (k := 18) (by omega) (by omega)) (by omega) (Nat.le_refl 18)) (by omega) (Nat.le_refl 18)) (by omega) (Nat.le_refl 18)) (by omega) (Nat.le_refl 18))
  refine h5.mono ?_ (by decide)
  rw [o.sl, o.bl, o.rg.1]
  have a1 : (wgt dE + 1) * many ≤ (wgt dE + 1) * 3 := Nat.mul_le_mul_left _ hm
  have a2 : (60 * cD + 1) * many ≤ (60 * cD + 1) * 3 := Nat.mul_le_mul_left _ hm
  omega
/-! ### promises -/
def spExprJ (K : PySem.W.Frag) (m : Nat) : Sp := fun vs H Q _ => ∃ (a : Addr) (many l n j : Nat), vs = [.ref a, .int (many : Int), .int (l : Int), .int (j : Int)] ∧ j ≤ 1 ∧ l < m ∧ 1 ≤ many ∧ many ≤ 1000 ∧ HandAt H a n ∧ n + cost l ≤ 999999000 ∧
  ∀ H' v e, But a H H' → HandAt H' a (n + cost l) → ExAt K H' e v → ExOk many e → e.dep ≤ l + 1 → Q v H'
/-- a stake: cut to its far -/
def spStake (K : PySem.W.Frag) (m : Nat) : Sp := fun vs H Q _ => ∃ (a : Addr) (many l n j : Nat), vs = [.ref a, .int (many : Int), .int (l : Int), .int (j : Int)] ∧ j ≤ 1 ∧ l < m ∧ 1 ≤ many ∧ many ≤ 1000 ∧ HandAt H a n ∧ n + cost l ≤ 999998000 ∧
  ∀ H' v e, But a H H' → HandAt H' a (n + cost l + 3) → ExAt K H' e v → ExOk many e → e.dep ≤ l + 3 → (∃ c : Int, e = .fig c ∧ -500 ≤ c ∧ c ≤ 500) ∨ (∃ (c : Int) (e' : Ex), e = .two .least (.fig c) (.two .most (.fig (-c)) e') ∧ 1 ≤ c ∧ c ≤ 500 ∧ ExOk many e' ∧ e'.dep ≤ l + 1) → Q v H'
def dB : Nat → Nat
  | 0 => 20
  | n + 1 => 2 * dB n + 30
def dC : Nat → Nat
  | 0 => 3
  | n + 1 => 2 * dC n + 4
theorem dC_ge (n : Nat) : 3 ≤ dC n := by
  cases n with
  | zero => exact Nat.le_refl _
  | succ n => show 3 ≤ 2 * dC n + 4; omega
theorem dB_ge (n : Nat) : 20 ≤ dB n := by
  cases n with
  | zero => exact Nat.le_refl _
  | succ n => show 20 ≤ 2 * dB n + 30; omega
def spDeeds (K : PySem.W.Frag) (m : Nat) : Sp := fun vs H Q _ => ∃ (a : Addr) (many l n : Nat), vs = [.ref a, .int (many : Int), .int (l : Int)] ∧ l < m ∧ l ≤ 3 ∧ 1 ≤ many ∧ many ≤ 1000 ∧ HandAt H a n ∧ n + dB l ≤ 999998000 ∧
  ∀ H' p xs d, But a H H' → HandAt H' a (n + dB l) → SqT K H' p xs → DsAt K H' d xs → DsOk many d → d.dep ≤ l + 1 → d.cnt ≤ dC l → Q (.ref p) H'
def StOk (many l : Nat) (e : Ex) : Prop := (∃ c : Int, e = .fig c ∧ -500 ≤ c ∧ c ≤ 500) ∨ (∃ (c : Int) (e' : Ex), e = .two .least (.fig c) (.two .most (.fig (-c)) e') ∧ 1 ≤ c ∧ c ≤ 500 ∧ ExOk many e' ∧ e'.dep ≤ l + 1)
def spDoubter (K : PySem.W.Frag) (m : Nat) : Sp := fun vs H Q _ => ∃ (a : Addr) (many l n j : Nat), vs = [.ref a, .int (many : Int), .int (l : Int), .int (j : Int)] ∧ j ≤ 1 ∧ l < m ∧ l ≤ 5 ∧ 1 ≤ many ∧ many ≤ 3 ∧ HandAt H a n ∧ n ≤ 999990000 ∧
  ∀ H' v D, But a H H' → HandAt H' a (n + 3 * cost l + 300) → DbAt K H' D v → DbOk many (l + 3) 2 10 D → (∀ e ∈ D.stakes, StOk many l e) → Q v H'
end NG

namespace NG
open PySem PySem.Spec PyProof.Rows L2
/-! ### zip of a list with a tuple -/
def ItLT (K : PySem.W.Frag) (a b : Addr) : It :=
  ⟨fun i H => ∃ (us ws : List V) (u v : V), SqL K H a us ∧ SqT K H b ws ∧ us[i]? = some u ∧ ws[i]? = some v,
   fun i H r H' => ∃ (T : Addr) (u v : V), r = .ref T ∧ H T = none ∧ H' = upd H T (.tup [u, v]) ∧ (∀ us, SqL K H a us → us[i]? = some u) ∧ ∀ ws, SqT K H b ws → ws[i]? = some v,
   fun i H => ∃ us ws : List V, SqL K H a us ∧ SqT K H b ws ∧ us.length = i ∧ ws.length = i⟩
theorem turn_LT {P : Program} {w : World} {K : PySem.W.Frag} {es : List Expr} {k : Nat} {ps : Pos} {a b z TI TO i1 i2 : Addr} (S : ZipSep2 z TI TO i1 i2 [i1, a] [i2, b]) (na : a ≠ i1) (nb : b ≠ i2) :
    Turn P w K (.Tuple es k ps) (ItLT K a b) [z, TI, TO, i1, i2] z (fun i h => IsZip h z TI TO .none ∧ IsTupOf2 h TI (.ref i1) (.ref i2) ∧ (∃ c d, IsTupOf2 h TO c d) ∧ h.IsListIter i1 a i ∧ h.IsTupleIter i2 b i) := by
  have five : ∀ {c : Addr}, c ∈ [z, TI, TO, i1, i2] → c = z ∨ c = TI ∨ c = TO ∨ c = i1 ∨ c = i2 := fun h => by simpa using h
  have lives : ∀ (i : Nat) (h : Heap), (IsZip h z TI TO .none ∧ IsTupOf2 h TI (.ref i1) (.ref i2) ∧ (∃ c d, IsTupOf2 h TO c d) ∧ h.IsListIter i1 a i ∧ h.IsTupleIter i2 b i) → ∀ c ∈ [z, TI, TO, i1, i2], ∃ o, h.get? c = some o ∧ ∀ v, o.data ≠ .cell v := fun i h st c hc => by
    obtain ⟨s1, s2, ⟨x, y, s3⟩, ⟨o4, s4, _, d4⟩, ⟨o5, s5, _, d5⟩⟩ := st
    rcases five hc with rfl | rfl | rfl | rfl | rfl
    · exact ⟨_, s1, fun v q => nomatch q⟩
    · exact ⟨_, s2, fun v q => nomatch q⟩
    · exact ⟨_, s3, fun v q => nomatch q⟩
    · exact ⟨o4, s4, fun v q => by rw [d4] at q; exact nomatch q⟩
    · exact ⟨o5, s5, fun v q => by rw [d5] at q; exact nomatch q⟩
  refine ⟨List.mem_cons_self, lives, fun i h h' st kp => ?_, fun X eP ew eK hc i pins s σ H E I hf st hg => ?_, fun X eP ew eK hc i pins s σ H E I hf st hg => ?_, fun A i s Q E st q => wpAny_pyIter_zip st.1 q⟩
  · obtain ⟨s1, s2, ⟨x, y, s3⟩, s4, s5⟩ := st
    exact ⟨kp _ (by simp) _ s1, kp _ (by simp) _ s2, ⟨x, y, kp _ (by simp) _ s3⟩, s4.at fun o q => kp _ (by simp) o q, s5.at fun o q => kp _ (by simp) o q⟩
  · cases eP
    cases ew
    cases eK
    have lv := lives i _ st
    obtain ⟨s1, s2, s3, s4, s5⟩ := st
    obtain ⟨us, ws, u, v, qa, qb, hu, hv⟩ := hg
    obtain ⟨la, ra, pa, _⟩ := I.list qa
    obtain ⟨lb, rb, pb, _⟩ := I.tuple qb
    obtain ⟨u', eu, ru⟩ := ra.get hu
    obtain ⟨v', ev', rv⟩ := rb.get hv
    have W := WalksT.zipD2 (A := X.A) S (Draws.list (prog := X.prog) (w := X.w) (A := X.A.in1) (I.ok.hd hc) i1 a na la.toArray) (Draws.tuple (A := X.A.in1) (I.ok.hd hc) i2 b nb lb.toArray)
    have il : i < la.length := (List.getElem?_eq_some_iff.mp eu).1
    have ir : i < lb.length := (List.getElem?_eq_some_iff.mp ev').1
    refine W.item i s _ E (by rw [List.size_toArray, List.size_toArray]; omega) ⟨s1, s2, s3, ⟨s4, pa.isList⟩, ⟨s5, pb⟩⟩ fun T vals h1 tk pv hT tT mid k1 => ⟨_, rfl, ?_⟩
    have apT := W.apart i T h1 mid
    refine W.go es k ps i T _ _ _ mid fun h2 st2 k2 => ?_
    obtain ⟨x1, x2, e1, e2, rfl⟩ := pv
    have f1 : x1 = u' := by
      have := e1.symm.trans (show la.toArray[i]? = some u' by simpa using eu)
      exact Option.some.inj this
    have f2 : x2 = v' := by
      have := e2.symm.trans (show lb.toArray[i]? = some v' by simpa using ev')
      exact Option.some.inj this
    subst f1 f2
    obtain ⟨z1, z2, z3, ⟨z4, _⟩, ⟨z5, _⟩⟩ := st2
    have tT2 : h2.IsTuple T #[x1, x2] := tT.at fun o e => k2 T o apT e
    have in5 : ∀ c, c ∉ [z, TI, TO, i1, i2] → c ∉ [z, TO, i1, i2] := fun c h m => h (by
      rcases (by simpa using m : c = z ∨ c = TO ∨ c = i1 ∨ c = i2) with rfl | rfl | rfl | rfl <;> simp)
    have J := I.turnedNew (h' := h2) (t' := tk) (ch := [z, TI, TO, i1, i2]) (T := T) (ob := .tup [u, v]) (fun c o hb' q => k2 c o (in5 c hb') (k1 c o (in5 c hb') q)) hf hT ⟨(by show 2 ≤ sizeLine; decide), [x1, x2], .cons ru (.cons rv .nil), tT2⟩
    refine ⟨.ref T, _, J, rfl, ⟨T, u, v, rfl, I.hok.fresh hT, rfl, fun l hl => ?_, fun l hl => ?_⟩, ⟨z1, z2, z3, z4, z5⟩, fun c hcm => ?_⟩
    · rw [I.list_inj hl qa]
      exact hu
    · rw [I.tuple_inj hl qb]
      exact hv
    · obtain ⟨o, ho, _⟩ := lv c hcm
      have lt := Heap.lt_size ho
      rw [upd_ne (Nat.ne_of_lt (Nat.lt_of_lt_of_le lt hT))]
      exact (hf c hcm).1
  · cases eP
    cases ew
    cases eK
    obtain ⟨s1, s2, s3, s4, s5⟩ := st
    obtain ⟨us, ws, qa, qb, e1, e2⟩ := hg
    obtain ⟨la, ra, pa, _⟩ := I.list qa
    obtain ⟨lb, rb, pb, _⟩ := I.tuple qb
    have W := WalksT.zipD2 (A := X.A) S (Draws.list (prog := X.prog) (w := X.w) (A := X.A.in1) (I.ok.hd hc) i1 a na la.toArray) (Draws.tuple (A := X.A.in1) (I.ok.hd hc) i2 b nb lb.toArray)
    have l1 := ra.length
    have l2 := rb.length
    have en : min la.toArray.size lb.toArray.size = i := by
      rw [List.size_toArray, List.size_toArray]
      omega
    rw [en] at W
    refine W.done s _ E ⟨s1, s2, s3, ⟨s4, pa.isList⟩, ⟨s5, pb⟩⟩ fun h1 tk k1 => ⟨rfl, ?_⟩
    exact I.turnedL (t' := tk) (ch := [z, TI, TO, i1, i2]) (fun c o hb' q => k1 c o (fun m => hb' (by rcases (by simpa using m : c = z ∨ c = TO ∨ c = i1 ∨ c = i2) with rfl | rfl | rfl | rfl <;> simp)) q) hf
def iZipLT (K : PySem.W.Frag) (ta : TA) : TI := fun σ H R => ta σ H fun vs H1 => ∃ a b us ws, vs = [.ref a, .ref b] ∧ SqL K H1 a us ∧ SqT K H1 b ws ∧ R (ItLT K a b) H1
theorem pi_zipLT {X : Cx} {e e2 : Expr} {ta : TA} {p pos tpos : Pos} {elts : List Expr} {kk : Nat} (hg : Gl X "zip") (hm : X.mg "zip" = none) (ha : PA X [e, e2] ta)
    (hs : starEach [e, e2] X.env = (false, eval e X.env) :: starEach [e2] X.env := by rfl) (hpl : (backTo pos (starEach [e2] X.env)).any (·.1) = false := by rfl) : PI X (.Tuple elts kk tpos) (.Call (.Name "zip" p) [e, e2] [] pos) (iZipLT X.K ta) := by
  refine ⟨fun pins s σ H R I h => Call_ (ld_blt I hg hm PyProof.Rows.boot_zip (PyProof.Rows.callWith_type1 (thn (ha.run pos pins s σ H _ I h) fun us s1 ⟨vs, H1, I1, r1, q1⟩ => ?_) hs hpl))⟩
  obtain ⟨a, b, ul, wl, rfl, qa, qb, q⟩ := q1
  obtain ⟨v1, v2, rfl, t1, t2⟩ := vals2 r1
  cases t1
  cases t2
  obtain ⟨la, ra, pa, _⟩ := I1.list qa
  obtain ⟨lb, rb, pb, _⟩ := I1.tuple qb
  obtain ⟨ob, hob, _⟩ := id pb
  have lt1 : a < s1.heap.objs.size := pa.lt
  have lt2 : b < s1.heap.objs.size := Heap.lt_size hob
  refine zip_begins2 (begins_list a la.toArray) (begins_tuple b lb.toArray) pa.isList pb fun h' hz hTI hTO g1 g2 hsz hk => wpAny_pyIter_zip hz ?_
  have J : Inv X pins σ H1 { s1 with heap := h' } := I1.kept (t' := s1.toks) hk
  have S := zip_sep2 (N := s1.heap.objs.size) (fp1 := [a]) (fp2 := [b]) (fun c hc => by rw [List.mem_singleton.mp hc]; exact lt1) (fun c hc => by rw [List.mem_singleton.mp hc]; exact lt2)
  refine ⟨_, _, _, _, H1, rfl, J, turn_LT S (Nat.ne_of_lt lt1) (Nat.ne_of_lt (Nat.lt_succ_of_lt lt2)), ⟨hz, hTI, ⟨_, _, hTO⟩, ⟨_, g1, rfl, rfl⟩, ⟨_, g2, rfl, rfl⟩⟩, fun c hcm => ?_, q⟩
  have le : s1.heap.objs.size ≤ c := by
    rcases (by simpa using hcm : c = s1.heap.objs.size + 4 ∨ c = s1.heap.objs.size + 2 ∨ c = s1.heap.objs.size + 3 ∨ c = s1.heap.objs.size ∨ c = s1.heap.objs.size + 1) with e | e | e | e | e <;> (rw [e]; first | exact Nat.le_refl _ | exact Nat.le_add_right _ _)
  exact I1.fpOk le (I1.hok.fresh le)
theorem walk_LT {K : PySem.W.Frag} {a b : Addr} {us ws : List V} {n : Nat} (hx : us.length = n) (hy : ws.length = n) : Walk (ItLT K a b) n (fun H => SqL K H a us ∧ SqT K H b ws) (YPair (fun i => us[i]?) (fun i => ws[i]?)) := by
  refine ⟨fun i H hi q => ⟨us, ws, us[i]'(by omega), ws[i]'(by omega), q.1, q.2, List.getElem?_eq_getElem _, List.getElem?_eq_getElem _⟩, fun H q => ⟨us, ws, q.1, q.2, hx, hy⟩, fun i H v H' hi q y => ?_⟩
  obtain ⟨T, x, z, h1, h2, h3, h4, h5⟩ := y
  exact ⟨T, x, z, h1, h2, h3, h4 us q.1, h5 ws q.2⟩
end NG

namespace NG
open PySem PySem.Spec PyProof.Rows L2
/-! ### enumerate of a tuple -/
set_option maxHeartbeats 1000000 in
theorem enum_new1 {v : Value} {ob : Obj} {Hv : Heap → Prop} (B : Begins v ob Hv) :
    Meets (Builtin.«enumerate.__new__» ⟨[.type "enumerate", v], []⟩) (fun _ R st => Hv st.heap ∧ R (.ok (.ret (.ref (st.heap.push ob).objs.size))) { st with heap := (st.heap.push ob).push { cls := .type "enumerate", data := .fields #[.none, .bool false, .ref st.heap.objs.size, rawInt 0, .none, .none] } }) := by
  refine .of_wp fun pr wl A R st h => ?_
  obtain ⟨hp, g, d, tk, os⟩ := st
  obtain ⟨hv, hR⟩ := h
  have se := sub_enumerate
  have qi : ∀ {A' : Around} {E : Value → Shared → Prop} {Q : Value → Shared → Prop}, Q (.ref hp.objs.size) ⟨hp.push ob, g, d, tk, os⟩ → wpAny (model pr wl) A' (pyIter v) Q E ⟨hp, g, d, tk, os⟩ := fun q => B.iter pr wl _ _ ⟨hp, g, d, tk, os⟩ _ hv q
  wp_walk using qi
  refine wpAny_stack_any fun sk => wpAny_pure ?_
  split
  · rename_i c _ _ _ _ _
    cases (c == Value.type "enumerate")
    all_goals
      wp_walk using qi
      exact ⟨_, rfl, hR⟩
  · wp_walk using qi
    exact ⟨_, rfl, hR⟩
theorem enum_call1 {pr : Program} {wl : World} {A : Around} {E : Value → Shared → Prop} {st : Shared} {v : Value} {ob : Obj} {Hv : Heap → Prop} {Q : Value → Shared → Prop} (B : Begins v ob Hv) (hv : Hv st.heap)
    (hQ : ∀ h', IsEnum h' (st.heap.objs.size + 1) st.heap.objs.size 0 .none → h'.get? st.heap.objs.size = some ob → (∀ b o, st.heap.get? b = some o → h'.get? b = some o) → Q (.ref (st.heap.objs.size + 1)) { st with heap := h' }) : wpAny (model pr wl) A (call (.type "enumerate") [v]) Q E st := by
  refine callType_new F.called_enumerate (by decide) (F.typeCall_enumerate_1 _) (F.newCall_enumerate_1 _) (fun x => F.args_object_init_2 x _) F.entry_enumerate_new (enum_new1 B) ⟨hv, ?_⟩
  have sz : (st.heap.push ob).objs.size = st.heap.objs.size + 1 := Heap.size_push ..
  show _ ∧ _
  rw [sz]
  have ie : IsEnum ((st.heap.push ob).push { cls := .type "enumerate", data := .fields #[.none, .bool false, .ref st.heap.objs.size, rawInt 0, .none, .none] }) (st.heap.objs.size + 1) st.heap.objs.size 0 .none := by
    have t := Heap.get?_push_size (st.heap.push ob) (o := { cls := .type "enumerate", data := .fields #[.none, .bool false, .ref st.heap.objs.size, rawInt 0, .none, .none] }) rfl
    rw [sz] at t
    exact t
  exact ⟨⟨_, ie, rfl⟩, hQ _ ie (Heap.get?_push_of_some _ (Heap.get?_push_size _ B.free)) fun b o x => Heap.get?_push_of_some _ (Heap.get?_push_of_some _ x)⟩
def ItEn (K : PySem.W.Frag) (a : Addr) : It :=
  ⟨fun i H => ∃ (ws : List V) (v : V), SqT K H a ws ∧ ws[i]? = some v,
   fun i H r H' => ∃ (T : Addr) (v : V), r = .ref T ∧ H T = none ∧ H' = upd H T (.tup [.int (i : Nat), v]) ∧ ∀ ws, SqT K H a ws → ws[i]? = some v,
   fun i H => ∃ ws : List V, SqT K H a ws ∧ ws.length = i⟩
theorem turn_En {P : Program} {w : World} {K : PySem.W.Frag} {es : List Expr} {k : Nat} {ps : Pos} {a e it : Addr} (ne : e ≠ it) (nea : e ≠ a) (na : a ≠ it) :
    Turn P w K (.Tuple es k ps) (ItEn K a) [e, it] e (fun i h => (∃ old, IsEnum h e it ((i : Nat) : Int) old) ∧ h.IsTupleIter it a i) := by
  have two : ∀ {c : Addr}, c ∈ [e, it] → c = e ∨ c = it := fun h => by simpa using h
  have lives : ∀ (i : Nat) (h : Heap), ((∃ old, IsEnum h e it ((i : Nat) : Int) old) ∧ h.IsTupleIter it a i) → ∀ c ∈ [e, it], ∃ o, h.get? c = some o ∧ ∀ v, o.data ≠ .cell v := fun i h st c hc => by
    obtain ⟨⟨old, s1⟩, ⟨o5, s5, _, d5⟩⟩ := st
    rcases two hc with rfl | rfl
    · exact ⟨_, s1, fun v q => nomatch q⟩
    · exact ⟨o5, s5, fun v q => by rw [d5] at q; exact nomatch q⟩
  have hef : e ∉ [it, a] := fun m => by
    rcases (by simpa using m : e = it ∨ e = a) with q | q
    · exact ne q
    · exact nea q
  refine ⟨List.mem_cons_self, lives, fun i h h' st kp => ?_, fun X eP ew eK hc i pins s σ H E I hf st hg => ?_, fun X eP ew eK hc i pins s σ H E I hf st hg => ?_, fun A i s Q E st q => let ⟨⟨_, z⟩, _⟩ := st; wpAny_pyIter_enum z q⟩
  · obtain ⟨⟨old, s1⟩, s5⟩ := st
    exact ⟨⟨old, kp _ (by simp) _ s1⟩, s5.at fun o q => kp _ (by simp) o q⟩
  · cases eP
    cases ew
    cases eK
    have lv := lives i _ st
    obtain ⟨s1, s5⟩ := st
    obtain ⟨ws, v, qb, hv⟩ := hg
    obtain ⟨lb, rb, pb, _⟩ := I.tuple qb
    obtain ⟨v', ev', rv⟩ := rb.get hv
    have W := WalksT.enumerateD (A := X.A) (Draws.tuple (prog := X.prog) (w := X.w) (A := X.A.in1) (I.ok.hd hc) it a na lb.toArray) e ne hef List.mem_cons_self
    have ir : i < lb.length := (List.getElem?_eq_some_iff.mp ev').1
    refine W.item i s _ E (by rw [List.size_toArray]; omega) ⟨s1, s5, pb⟩ fun T vals h1 tk pv hT tT mid k1 => ⟨_, rfl, ?_⟩
    have apT := W.apart i T h1 mid
    refine W.go es k ps i T _ _ _ mid fun h2 st2 k2 => ?_
    obtain ⟨t2, x2, e2, rfl⟩ := pv
    have f2 : x2 = v' := by
      have := e2.symm.trans (show lb.toArray[i]? = some v' by simpa using ev')
      exact Option.some.inj this
    subst f2
    obtain ⟨z1, z5, _⟩ := st2
    have tT2 : h2.IsTuple T #[.int i t2, x2] := tT.at fun o e => k2 T o apT e
    have J := I.turnedNew (h' := h2) (t' := tk) (ch := [e, it]) (T := T) (ob := .tup [.int (i : Nat), v]) (fun c o hb' q => k2 c o hb' (k1 c o hb' q)) hf hT ⟨(by show 2 ≤ sizeLine; decide), [.int i t2, x2], .cons ⟨_, rfl⟩ (.cons rv .nil), tT2⟩
    refine ⟨.ref T, _, J, rfl, ⟨T, v, rfl, I.hok.fresh hT, rfl, fun l hl => ?_⟩, ⟨z1, z5⟩, fun c hcm => ?_⟩
    · rw [I.tuple_inj hl qb]
      exact hv
    · obtain ⟨o, ho, _⟩ := lv c hcm
      have lt := Heap.lt_size ho
      rw [upd_ne (Nat.ne_of_lt (Nat.lt_of_lt_of_le lt hT))]
      exact (hf c hcm).1
  · cases eP
    cases ew
    cases eK
    obtain ⟨s1, s5⟩ := st
    obtain ⟨ws, qb, e2⟩ := hg
    obtain ⟨lb, rb, pb, _⟩ := I.tuple qb
    have W := WalksT.enumerateD (A := X.A) (Draws.tuple (prog := X.prog) (w := X.w) (A := X.A.in1) (I.ok.hd hc) it a na lb.toArray) e ne hef List.mem_cons_self
    have l2 := rb.length
    have en : lb.toArray.size = i := by
      rw [List.size_toArray]
      omega
    rw [en] at W
    refine W.done s _ E ⟨s1, s5, pb⟩ fun h1 tk k1 => ⟨rfl, ?_⟩
    exact I.turnedL (t' := tk) (ch := [e, it]) (fun c o hb' q => k1 c o hb' q) hf
def iEnT (K : PySem.W.Frag) (ta : TA) : TI := fun σ H R => ta σ H fun vs H1 => ∃ a ws, vs = [.ref a] ∧ SqT K H1 a ws ∧ R (ItEn K a) H1
theorem pi_enumT {X : Cx} {x : Expr} {ta : TA} {p pos tpos : Pos} {elts : List Expr} {kk : Nat} (hg : Gl X "enumerate") (hm : X.mg "enumerate" = none) (ha : PA X [x] ta)
    (hs : starEach [x] X.env = [(false, eval x X.env)] := by rfl) : PI X (.Tuple elts kk tpos) (.Call (.Name "enumerate" p) [x] [] pos) (iEnT X.K ta) := by
  refine ⟨fun pins s σ H R I h => Call_ (ld_blt I hg hm boot_enumerate (PyProof.Rows.callWith_type1 (thn (ha.run pos pins s σ H _ I h) fun us s1 ⟨vs, H1, I1, r1, q1⟩ => ?_) hs rfl))⟩
  obtain ⟨a, wl, rfl, qb, q⟩ := q1
  rw [Vals.ref1 r1]
  obtain ⟨lb, rb, pb, _⟩ := I1.tuple qb
  obtain ⟨ob, hob, _⟩ := id pb
  have lt2 : a < s1.heap.objs.size := Heap.lt_size hob
  refine enum_call1 (begins_tuple a lb.toArray) pb fun h' he g2 hk => wpAny_pyIter_enum he ?_
  have J : Inv X pins σ H1 { s1 with heap := h' } := I1.kept (t' := s1.toks) hk
  refine ⟨_, _, _, _, H1, rfl, J, turn_En (a := a) (e := s1.heap.objs.size + 1) (it := s1.heap.objs.size) (Nat.succ_ne_self _) (Nat.ne_of_gt (Nat.lt_succ_of_lt lt2)) (Nat.ne_of_lt lt2), ⟨⟨.none, he⟩, ⟨_, g2, rfl, rfl⟩⟩, fun c hcm => ?_, q⟩
  have le : s1.heap.objs.size ≤ c := by
    rcases (by simpa using hcm : c = s1.heap.objs.size + 1 ∨ c = s1.heap.objs.size) with e | e <;> (rw [e]; first | exact Nat.le_refl _ | exact Nat.le_add_right _ _)
  exact I1.fpOk le (I1.hok.fresh le)
theorem walk_En {K : PySem.W.Frag} {a : Addr} {ws : List V} {n : Nat} (hy : ws.length = n) : Walk (ItEn K a) n (fun H => SqT K H a ws) (YPair (fun i => some (.int (i : Nat))) (fun i => ws[i]?)) := by
  refine ⟨fun i H hi q => ⟨ws, ws[i]'(by omega), q, List.getElem?_eq_getElem _⟩, fun H q => ⟨ws, q, hy⟩, fun i H v H' hi q y => ?_⟩
  obtain ⟨T, z, h1, h2, h3, h4⟩ := y
  exact ⟨T, .int (i : Nat), z, h1, h2, h3, rfl, h4 ws q⟩
end NG

namespace NG
open PySem PySem.Spec PyProof.Rows L2
/-! ### the same with a truth for jumps -/
def spExprB (K : PySem.W.Frag) (m : Nat) : Sp := fun vs H Q _ => ∃ (a : Addr) (many l n : Nat) (j : Bool), vs = [.ref a, .int (many : Int), .int (l : Int), .bl j] ∧ True ∧ l < m ∧ 1 ≤ many ∧ many ≤ 1000 ∧ HandAt H a n ∧ n + cost l ≤ 999999000 ∧
  ∀ H' v e, But a H H' → HandAt H' a (n + cost l) → ExAt K H' e v → ExOk many e → e.dep ≤ l + 1 → Q v H'
/-- a stake: cut to its far -/
def spStakeB (K : PySem.W.Frag) (m : Nat) : Sp := fun vs H Q _ => ∃ (a : Addr) (many l n : Nat) (j : Bool), vs = [.ref a, .int (many : Int), .int (l : Int), .bl j] ∧ True ∧ l < m ∧ 1 ≤ many ∧ many ≤ 1000 ∧ HandAt H a n ∧ n + cost l ≤ 999998000 ∧
  ∀ H' v e, But a H H' → HandAt H' a (n + cost l + 3) → ExAt K H' e v → ExOk many e → e.dep ≤ l + 3 → (∃ c : Int, e = .fig c ∧ -500 ≤ c ∧ c ≤ 500) ∨ (∃ (c : Int) (e' : Ex), e = .two .least (.fig c) (.two .most (.fig (-c)) e') ∧ 1 ≤ c ∧ c ≤ 500 ∧ ExOk many e' ∧ e'.dep ≤ l + 1) → Q v H'
def spDoubterB (K : PySem.W.Frag) (m : Nat) : Sp := fun vs H Q _ => ∃ (a : Addr) (many l n : Nat) (j : Bool), vs = [.ref a, .int (many : Int), .int (l : Int), .bl j] ∧ True ∧ l < m ∧ l ≤ 5 ∧ 1 ≤ many ∧ many ≤ 3 ∧ HandAt H a n ∧ n ≤ 999990000 ∧
  ∀ H' v D, But a H H' → HandAt H' a (n + 3 * cost l + 300) → DbAt K H' D v → DbOk many (l + 3) 2 10 D → (∀ e ∈ D.stakes, StOk many l e) → Q v H'
end NG

namespace NG
open PySem PySem.Spec PyProof.Rows L2
/-! ### a tuple so many times, any number of times -/
theorem mul_itself (l : Addr) (its : Array Value) (n : Nat) (dd : Option Addr) (sl : Array (Option Value)) (x : Int) (u : Tok) (c0 : (decide (x < -(2 ^ 63)) || decide (x ≥ 2 ^ 63)) = false) (c1 : (its.isEmpty || x == 1) = true) :
    Meets (Builtin.«tuple.__mul__» ⟨[.ref l, .int x u], []⟩) (fun _ R st => st.heap.get? l = some { cls := .type "tuple", dict := dd, data := .seq its n, slots := sl } ∧ R (.ok (.ret (Value.ref l))) st) := by
  refine .of_wp fun pr wl A R st h => ?_
  obtain ⟨hp, g, d, tk, os⟩ := st
  obtain ⟨hl, hR⟩ := h
  have f1 := AutoSeq1.idx_int
  wp_walk using wpAny_loadPart' hl
  repeat (first
    | (refine wpAny_ite_false (decide_eq_false (by rw [c0]; exact Bool.false_ne_true)) ?_; wp_walk using wpAny_loadPart' hl)
    | (refine wpAny_ite_true (decide_eq_true c1) ?_; wp_walk using wpAny_loadPart' hl))
  exact ⟨_, rfl, hR⟩
theorem mul_none (l : Addr) (its : Array Value) (n : Nat) (dd : Option Addr) (sl : Array (Option Value)) (x : Int) (u : Tok) (c0 : (decide (x < -(2 ^ 63)) || decide (x ≥ 2 ^ 63)) = false) (c1 : (its.isEmpty || x == 1) = false) (c2 : (decide (x ≤ 0) || its.isEmpty) = true) :
    Meets (Builtin.«tuple.__mul__» ⟨[.ref l, .int x u], []⟩) (fun _ R st => st.heap.get? l = some { cls := .type "tuple", dict := dd, data := .seq its n, slots := sl } ∧ R (.ok (.ret (Value.ref st.heap.objs.size))) { st with heap := st.heap.push { cls := Value.type "tuple", data := Data.seq #[] } }) := by
  refine .of_wp fun pr wl A R st h => ?_
  obtain ⟨hp, g, d, tk, os⟩ := st
  obtain ⟨hl, hR⟩ := h
  have f1 := AutoSeq1.idx_int
  wp_walk using wpAny_loadPart' hl
  repeat (first
    | (refine wpAny_ite_false (decide_eq_false (by rw [c0]; exact Bool.false_ne_true)) ?_; wp_walk using wpAny_loadPart' hl)
    | (refine wpAny_ite_false (decide_eq_false (by rw [c1]; exact Bool.false_ne_true)) ?_; wp_walk using wpAny_loadPart' hl)
    | (refine wpAny_ite_true (decide_eq_true c2) ?_; wp_walk using wpAny_loadPart' hl))
  exact ⟨_, rfl, hR⟩
def rRepA (K : PySem.W.Frag) : R2 := fun x y H Q => ∃ l k xs, x = .ref l ∧ y = .int k ∧ SqT K H l xs ∧ -1000 ≤ k ∧ k ≤ 1000 ∧ xs.length ≤ 1000 ∧ ∀ H' p, Same H H' → SqT K H' p (List.replicate k.toNat xs).flatten → Q (.ref p) H'
theorem op_repA {X : Cx} : OpR X (binaryOp .Mult) (rRepA X.K) := by
  intro pins s σ H x y v u Q I rx ry h
  obtain ⟨l, k, xs, rfl, rfl, hT, h0, h2, hz, q⟩ := h
  by_cases hbig : xs ≠ [] ∧ 2 ≤ k
  · exact op_repT pins s σ H _ _ v u Q I rx ry ⟨l, k, xs, rfl, rfl, hT, hbig.1, hbig.2, h2, hz, fun p np => q _ p (same_new np) (SqT.of upd_same)⟩
  · have rx0 := rx
    cases rx
    obtain ⟨t, rfl⟩ := ry
    obtain ⟨its, r, ⟨⟨cls, dd, data, sl⟩, ho, hc, n, hd⟩, hs⟩ := I.tuple hT
    simp only at hc hd
    subst hc hd
    have hle : its.length = xs.length := r.length.symm
    have c0 : (decide (k < -(2 ^ 63)) || decide (k ≥ 2 ^ 63)) = false := by
      rw [decide_eq_false (by omega), decide_eq_false (by omega)]
      rfl
    by_cases hone : xs = [] ∨ k = 1
    · have c1 : (its.toArray.isEmpty || k == 1) = true := by
        rcases hone with e | e
        · rw [e] at hle
          have : its = [] := List.eq_nil_of_length_eq_zero hle
          rw [this]
          rfl
        · rw [e]
          simp
      have e1 : (List.replicate k.toNat xs).flatten = xs := by
        rcases hone with e | e
        · rw [e]
          simp
        · rw [e]
          simp
      refine wpAny_binaryOp_repeat_ref (T := "tuple") (U := "int") (by decide) ⟨_, ho, rfl⟩ (fun s' => typeIs_int s' k t) noFill_tuple_mul F.fills_int_mul F.slot_int_rmul repeat_tuple F.slot_int_index.lookup
        (call_meets F.slot_int_rmul (typeIs_int s k t) F.entry_int_rmul (F.args_int_rmul_2 _ _) (int_rmul_tuple k t l its.toArray n dd sl) ⟨ho, rfl, ⟨_, ho, rfl⟩, call_meets F.slot_tuple_mul ⟨_, ho, rfl⟩ F.entry_tuple_mul (F.args_tuple_mul_2 _ _) (mul_itself l its.toArray n dd sl k t c0 c1) ⟨ho, ?_⟩⟩)
      exact ⟨.ref l, H, I, rfl, q H l (Same.refl _) (by rw [e1]; exact hT)⟩
    · have hk0 : k ≤ 0 := by
        have h1 : ¬ xs = [] := fun z => hone (.inl z)
        have h2 : ¬ k = 1 := fun z => hone (.inr z)
        have h3 : ¬ 2 ≤ k := fun z => hbig ⟨h1, z⟩
        omega
      have hn : its ≠ [] := fun e => hone (.inl (by
        rw [e] at hle
        exact List.eq_nil_of_length_eq_zero hle.symm))
      have hi : its.toArray.isEmpty = false := by
        cases its with
        | nil => exact absurd rfl hn
        | cons a b => rfl
      have c1 : (its.toArray.isEmpty || k == 1) = false := by
        rw [hi, Bool.false_or]
        exact beq_eq_false_iff_ne.mpr (by omega)
      have c2 : (decide (k ≤ 0) || its.toArray.isEmpty) = true := by
        rw [decide_eq_true hk0]
        rfl
      have e0 : (List.replicate k.toNat xs).flatten = [] := by
        rw [show k.toNat = 0 by omega]
        rfl
      refine wpAny_binaryOp_repeat_ref (T := "tuple") (U := "int") (by decide) ⟨_, ho, rfl⟩ (fun s' => typeIs_int s' k t) noFill_tuple_mul F.fills_int_mul F.slot_int_rmul repeat_tuple F.slot_int_index.lookup
        (call_meets F.slot_int_rmul (typeIs_int s k t) F.entry_int_rmul (F.args_int_rmul_2 _ _) (int_rmul_tuple k t l its.toArray n dd sl) ⟨ho, rfl, ⟨_, ho, rfl⟩, call_meets F.slot_tuple_mul ⟨_, ho, rfl⟩ F.entry_tuple_mul (F.args_tuple_mul_2 _ _) (mul_none l its.toArray n dd sl k t c0 c1 c2) ⟨ho, ?_⟩⟩)
      have np : H s.heap.objs.size = none := I.hok.fresh (Nat.le_refl _)
      refine ⟨.ref s.heap.objs.size, _, I.laid (t' := s.toks) (o := .tup []) (fun b ob q => Heap.get?_push_of_some _ q) (Nat.le_refl _) ?_, rfl, q _ _ (same_new np) (by rw [e0]; exact SqT.of upd_same)⟩
      exact ⟨Nat.zero_le _, [], .nil, IsTup.new _ _⟩
end NG

namespace NG
open PySem PySem.Spec PyProof.Rows L2
/-! ### what is shown, of small numbers -/
structure Shh (d : PyData) (w k : Nat) : Prop where
  sh : d.showable = true
  lf : d.leavesShort 70 = true
  wt : d.weight ≤ w
  dp : d.depth ≤ k
structure ShhAll (ds : List PyData) (w k : Nat) : Prop where
  sh : PyData.showableAll ds = true
  lf : PyData.leavesShortAll 70 ds = true
  wt : PyData.weightAll ds ≤ w
  dp : PyData.depthAll ds ≤ k
theorem Shw.hh {d : PyData} {w k : Nat} (h : Shw d w k) (l : d.leavesShort 70 = true) : Shh d w k := ⟨h.sh, l, h.wt, h.dp⟩
theorem int60 {i : Int} (h : i.natAbs < 2 ^ 60) : PyData.leavesShort 70 (.int i) = true := by
  have hl : i.natAbs.log2 < 60 := PySem.Flt.log2_lt_of (by decide) h
  show decide ((PyData.shown (.int i)).length ≤ 70) = true
  refine decide_eq_true ?_
  have e := int_text_length_le (k := 60) (by decide) hl
  show (Str.ofString (toString i)).length ≤ 70
  rw [PySem.ofString_length]
  omega
theorem Shh.int {i : Int} (h : i.natAbs < 2 ^ 60) : Shh (.int i) 60 0 := by
  have hl : i.natAbs.log2 < 60 := PySem.Flt.log2_lt_of (by decide) h
  have h6 := Shw.int (i := i) (Nat.lt_of_lt_of_le h (Nat.pow_le_pow_right (by decide) (by decide)))
  refine ⟨h6.sh, int60 h, ?_, Nat.le_refl _⟩
  show (if i == 0 then 0 else i.natAbs.log2 + 1) ≤ 60
  split <;> omega
theorem Shh.str {x : Str} (h : (x.cps.toList.all fun c => decide (c < 16 ^ 8)) = true) (hl : x.cps.size ≤ 10) : Shh (.str x) 10 0 := ⟨rfl, h, hl, Nat.le_refl _⟩
theorem ShhAll.nil {k : Nat} : ShhAll [] 0 k := ⟨rfl, rfl, Nat.le_refl _, Nat.zero_le _⟩
theorem ShhAll.cons {d : PyData} {ds : List PyData} {w1 w2 k1 k2 k : Nat} (h1 : Shh d w1 k1) (h2 : ShhAll ds w2 k2) (hk1 : k1 ≤ k) (hk2 : k2 ≤ k) : ShhAll (d :: ds) (w1 + 1 + w2) k := by
  refine ⟨?_, ?_, ?_, ?_⟩
  · show (d.showable && PyData.showableAll ds) = true
    rw [h1.sh, h2.sh]
    rfl
  · show (d.leavesShort 70 && PyData.leavesShortAll 70 ds) = true
    rw [h1.lf, h2.lf]
    rfl
  · show d.weight + 1 + PyData.weightAll ds ≤ _
    have a := h1.wt
    have b := h2.wt
    omega
  · show max d.depth (PyData.depthAll ds) ≤ k
    have a := h1.dp
    have b := h2.dp
    omega
theorem ShhAll.tup {ds : List PyData} {w k : Nat} (h : ShhAll ds w k) : Shh (.tuple ds) w (k + 1) := ⟨h.sh, h.lf, h.wt, by show PyData.depthAll ds + 1 ≤ k + 1; have := h.dp; omega⟩
theorem ShhAll.lst {ds : List PyData} {w k : Nat} (h : ShhAll ds w k) : Shh (.list ds) w (k + 1) := ⟨h.sh, h.lf, h.wt, by show PyData.depthAll ds + 1 ≤ k + 1; have := h.dp; omega⟩
theorem Shh.mono {d : PyData} {w w' k k' : Nat} (h : Shh d w k) (hw : w ≤ w') (hk : k ≤ k') : Shh d w' k' := ⟨h.sh, h.lf, Nat.le_trans h.wt hw, Nat.le_trans h.dp hk⟩
theorem ShhAll.mono {d : List PyData} {w w' k k' : Nat} (h : ShhAll d w k) (hw : w ≤ w') (hk : k ≤ k') : ShhAll d w' k' := ⟨h.sh, h.lf, Nat.le_trans h.wt hw, Nat.le_trans h.dp hk⟩
theorem Shh.fits {d : PyData} {w k : Nat} (h : Shh d w k) (hw : w ≤ 230000) : d.shown.length ≤ sizeLine := by
  have := PyData.shown_le 70 (by decide) d h.lf
  have := h.wt
  have e : sizeLine = 16777216 := by decide
  omega
theorem ShhAll.app {es : List PyData} {w2 k : Nat} : ∀ {ds : List PyData} {w1 : Nat}, ShhAll ds w1 k → ShhAll es w2 k → ShhAll (ds ++ es) (w1 + w2) k
  | [], w1, _, h2 => h2.mono (by omega) (Nat.le_refl _)
  | d :: ds, w1, h1, h2 => by
    have s1 : (d.showable && PyData.showableAll ds) = true := h1.sh
    have s2 : (d.leavesShort 70 && PyData.leavesShortAll 70 ds) = true := h1.lf
    have s3 : d.weight + 1 + PyData.weightAll ds ≤ w1 := h1.wt
    have s4 : max d.depth (PyData.depthAll ds) ≤ k := h1.dp
    have s1 := Bool.and_eq_true_iff.mp s1
    have s2 := Bool.and_eq_true_iff.mp s2
    have hd : Shh d d.weight k := ⟨s1.1, s2.1, Nat.le_refl _, by omega⟩
    have hr : ShhAll ds (PyData.weightAll ds) k := ⟨s1.2, s2.2, Nat.le_refl _, by omega⟩
    exact (ShhAll.cons hd (ShhAll.app hr h2) (Nat.le_refl _) (Nat.le_refl _)).mono (by omega) (Nat.le_refl _)
theorem lf_and {d : PyData} {ds : List PyData} (h : d.leavesShort 70 = true) (t : PyData.leavesShortAll 70 ds = true) : PyData.leavesShortAll 70 (d :: ds) = true := by
  show (d.leavesShort 70 && PyData.leavesShortAll 70 ds) = true
  rw [h, t]
  rfl
theorem lf_ex {many : Nat} (hm : many ≤ 1000) : ∀ {e : Ex}, ExOk many e → (toD e).leavesShort 70 = true
  | .fig c, o => lf_and (d := .str "fig") (by decide) (lf_and (int60 (by have := o.1; have := o.2; omega)) rfl)
  | .reg i, o => lf_and (d := .str "reg") (by decide) (lf_and (int60 (by have o : i < 4 := o; omega)) rfl)
  | .share j, o => lf_and (d := .str "share") (by decide) (lf_and (int60 (by have o : j < many := o; omega)) rfl)
  | .two w a b, o => lf_and (d := .str (wn w)) (by cases w <;> decide) (lf_and (lf_ex hm o.1) (lf_and (lf_ex hm o.2) rfl))
  | .times f a, o => lf_and (d := .str "times") (by decide) (lf_and (int60 (by have := o.1.1; have := o.1.2; omega)) (lf_and (lf_ex hm o.2) rfl))
  | .by i a, o => lf_and (d := .str "by") (by decide) (lf_and (int60 (by have := o.1; omega)) (lf_and (lf_ex hm o.2) rfl))
  | .when i c a b, o => lf_and (d := .str "when") (by decide) (lf_and (int60 (by have := o.1; omega)) (lf_and (int60 (by have := o.2.1.1; have := o.2.1.2; omega)) (lf_and (lf_ex hm o.2.2.1) (lf_and (lf_ex hm o.2.2.2) rfl))))
  | .whr j c a b, o => lf_and (d := .str "where") (by decide) (lf_and (int60 (by have := o.1; omega)) (lf_and (int60 (by have := o.2.1.1; have := o.2.1.2; omega)) (lf_and (lf_ex hm o.2.2.1) (lf_and (lf_ex hm o.2.2.2) rfl))))
theorem lf_ds {many : Nat} (hm : many ≤ 1000) : ∀ {d : Ds}, DsOk many d → PyData.leavesShortAll 70 (dsD d) = true
  | .nil, _ => rfl
  | .op w i x r, o => lf_and (d := .tuple [.str (dn w), .int (i : Int), .int x]) (lf_and (d := .str (dn w)) (by cases w <;> decide) (lf_and (int60 (by have := o.1; omega)) (lf_and (int60 (by have := xok_small hm o.2.1; omega)) rfl))) (lf_ds hm o.2.2)
  | .when i c a b r, o => lf_and (d := .tuple [.str "when", .int (i : Int), .int c, .tuple (dsD a), .tuple (dsD b)]) (lf_and (d := .str "when") (by decide) (lf_and (int60 (by have := o.1; omega)) (lf_and (int60 (by have := o.2.1.1; have := o.2.1.2; omega)) (lf_and (d := .tuple (dsD a)) (lf_ds hm o.2.2.1) (lf_and (d := .tuple (dsD b)) (lf_ds hm o.2.2.2.1) rfl))))) (lf_ds hm o.2.2.2.2)
theorem lf_list {α : Type} {f : α → PyData} : ∀ {xs : List α}, (∀ x ∈ xs, (f x).leavesShort 70 = true) → PyData.leavesShortAll 70 (xs.map f) = true
  | [], _ => rfl
  | x :: r, h => lf_and (h x (by simp)) (lf_list fun y hy => h y (List.mem_cons_of_mem _ hy))
theorem lf_db {many dE dD cD : Nat} {D : Dbt} (hm : many ≤ 1000) (o : DbOk many dE dD cD D) : (dbD D).leavesShort 70 = true := by
  refine lf_and (d := .str D.name) (by rcases o.nm with e | e | e | e <;> rw [e] <;> decide) (lf_and (int60 (by have := o.sc; omega)) (lf_and (d := .tuple (D.begins.map PyData.int)) (lf_list fun x hx => int60 (by have := o.rg.2 x hx; omega)) (lf_and (d := .tuple (D.stakes.map toD)) (lf_list fun e he => lf_ex hm (o.st e he).1) (lf_and (d := .tuple (D.behinds.map fun d => .tuple (dsD d))) (lf_list fun d hd => ?_) rfl))))
  exact lf_ds hm (o.bh d hd).1
end NG

namespace NG
open PySem PySem.Spec PyProof.Rows L2
/-! ### ones, members -/
structure One where
  dbt : Dbt
  regs : List Int
  weight : Int
  motes : Int
  owed : Int
  days : Int
  got : Int
def OneAt (K : PySem.W.Frag) (H : Hp) (o : One) (v : V) : Prop := ∃ (p : Addr) (dv rv : V), v = .ref p ∧ SqT K H p [.str "one", dv, rv, .int o.weight, .int o.motes, .int o.owed, .int o.days, .int o.got] ∧ DbAt K H o.dbt dv ∧ RegsAt K H o.regs rv
theorem OneAt.imp {K : PySem.W.Frag} {H H' : Hp} {o : One} {v : V} (x : OneAt K H o v) (h : ∀ p xs, SqT K H p xs → SqT K H' p xs) : OneAt K H' o v := by
  obtain ⟨p, dv, rv, e, q, d, r⟩ := x
  exact ⟨p, dv, rv, e, h _ _ q, d.imp h, r.imp h⟩
def oneD (o : One) : PyData := .tuple [.str "one", dbD o.dbt, .tuple (o.regs.map PyData.int), .int o.weight, .int o.motes, .int o.owed, .int o.days, .int o.got]
theorem OneAt.dp {K : PySem.W.Frag} {H : Hp} {o : One} {v : V} (x : OneAt K H o v) : Dp K H v (oneD o) := by
  obtain ⟨p, dv, rv, e, q, d, ⟨pr, e2, r, _⟩⟩ := x
  subst e e2
  exact .tup q (.cons (.str _) (.cons d.dp (.cons (.tup r (dp_ints _)) (.cons (.int _) (.cons (.int _) (.cons (.int _) (.cons (.int _) (.cons (.int _) .nil))))))))
structure OneOk (many dE dD cD : Nat) (o : One) : Prop where
  db : DbOk many dE dD cD o.dbt
  rg : RegOk o.regs
  w1 : 1 ≤ o.weight ∧ o.weight ≤ 1000000000000
  m1 : 0 ≤ o.motes ∧ o.motes ≤ 3000000000000
  o1 : 0 ≤ o.owed ∧ o.owed ≤ 99
  d1 : 0 ≤ o.days ∧ o.days ≤ 40
  g1 : -5000000000 ≤ o.got ∧ o.got ≤ 5000000000
theorem shh_one {many dE dD cD : Nat} {o : One} (hm : many ≤ 3) (hE : dE ≤ 8) (hD : dD ≤ 8) (h : OneOk many dE dD cD o) : Shh (oneD o) (600 + 3 * wgt dE + 180 * cD) 22 := by
  have h1 : Shh (.str "one") 10 0 := .str (by decide) (by decide)
  have h2 := (shw_db hm hE hD h.db).hh (lf_db (by omega) h.db)
  have h3 : Shh (.tuple (o.regs.map PyData.int)) (16 * o.regs.length) 1 := ((shw_smalls h.rg.2).tup).hh (lf_list fun x hx => int60 (by have := h.rg.2 x hx; omega))
  have i1 : Shh (.int o.weight) 60 0 := .int (by have := h.w1; omega)
  have i2 : Shh (.int o.motes) 60 0 := .int (by have := h.m1; omega)
  have i3 : Shh (.int o.owed) 60 0 := .int (by have := h.o1; omega)
  have i4 : Shh (.int o.days) 60 0 := .int (by have := h.d1; omega)
  have i5 : Shh (.int o.got) 60 0 := .int (by have := h.g1; omega)
  have hl := h.rg.1
  rw [hl] at h3
  have z : ShhAll [PyData.str "one", dbD o.dbt, .tuple (o.regs.map PyData.int), .int o.weight, .int o.motes, .int o.owed, .int o.days, .int o.got] _ 21 := .cons h1 (.cons h2 (.cons h3 (.cons i1 (.cons i2 (.cons i3 (.cons i4 (.cons i5 (ShhAll.nil (k := 0)) (k := 21) (by omega) (by omega)) (by omega) (Nat.le_refl _)) (by omega) (Nat.le_refl _)) (by omega) (Nat.le_refl _)) (by omega) (Nat.le_refl _)) (by omega) (Nat.le_refl _)) (by omega) (Nat.le_refl _)) (by omega) (Nat.le_refl _)
  exact z.tup.mono (by omega) (by omega)
inductive Ms where
  | nil
  | one (o : One) (r : Ms)
  | house (nm : Str) (m r : Ms)
inductive Mk where
  | one (o : One)
  | house (nm : Str) (m : Ms)
def MsAt (K : PySem.W.Frag) (H : Hp) : Ms → List V → Prop
  | .nil, vs => vs = []
  | .one o r, vs => ∃ v us, vs = v :: us ∧ OneAt K H o v ∧ MsAt K H r us
  | .house nm m r, vs => ∃ p pm xs us, vs = .ref p :: us ∧ SqT K H p [.str "house", .str nm, .ref pm] ∧ SqT K H pm xs ∧ MsAt K H m xs ∧ MsAt K H r us
theorem MsAt.imp {K : PySem.W.Frag} {H H' : Hp} (h : ∀ p xs, SqT K H p xs → SqT K H' p xs) : ∀ {m : Ms} {vs : List V}, MsAt K H m vs → MsAt K H' m vs
  | .nil, _, e => e
  | .one _ _, _, ⟨v, us, e, q, r⟩ => ⟨v, us, e, q.imp h, MsAt.imp h r⟩
  | .house _ _ _, _, ⟨p, pm, xs, us, e, q, qm, m, r⟩ => ⟨p, pm, xs, us, e, h _ _ q, h _ _ qm, MsAt.imp h m, MsAt.imp h r⟩
theorem MsAt.same {K : PySem.W.Frag} {H H' : Hp} {m : Ms} {vs : List V} (x : MsAt K H m vs) (s : Same H H') : MsAt K H' m vs := x.imp fun _ _ q => same_sqt s q
def MkAt (K : PySem.W.Frag) (H : Hp) : Mk → V → Prop
  | .one o, v => OneAt K H o v
  | .house nm m, v => ∃ p pm xs, v = .ref p ∧ SqT K H p [.str "house", .str nm, .ref pm] ∧ SqT K H pm xs ∧ MsAt K H m xs
theorem MkAt.imp {K : PySem.W.Frag} {H H' : Hp} (h : ∀ p xs, SqT K H p xs → SqT K H' p xs) : ∀ {m : Mk} {v : V}, MkAt K H m v → MkAt K H' m v
  | .one _, _, x => OneAt.imp x h
  | .house _ _, _, ⟨p, pm, xs, e, q, qm, m⟩ => ⟨p, pm, xs, e, h _ _ q, h _ _ qm, m.imp h⟩
def msD : Ms → List PyData
  | .nil => []
  | .one o r => oneD o :: msD r
  | .house nm m r => .tuple [.str "house", .str nm, .tuple (msD m)] :: msD r
def mkD : Mk → PyData
  | .one o => oneD o
  | .house nm m => .tuple [.str "house", .str nm, .tuple (msD m)]
theorem MsAt.dps {K : PySem.W.Frag} {H : Hp} : ∀ {m : Ms} {vs : List V}, MsAt K H m vs → DpAll K H vs (msD m)
  | .nil, _, e => by subst e; exact .nil
  | .one _ _, _, ⟨v, us, e, q, r⟩ => by subst e; exact .cons q.dp r.dps
  | .house _ _ _, _, ⟨p, pm, xs, us, e, q, qm, m, r⟩ => by subst e; exact .cons (.tup q (.cons (.str _) (.cons (.str _) (.cons (.tup qm m.dps) .nil)))) r.dps
theorem MkAt.dp {K : PySem.W.Frag} {H : Hp} : ∀ {m : Mk} {v : V}, MkAt K H m v → Dp K H v (mkD m)
  | .one _, _, x => OneAt.dp x
  | .house _ _, _, ⟨p, pm, xs, e, q, qm, m⟩ => by subst e; exact .tup q (.cons (.str _) (.cons (.str _) (.cons (.tup qm m.dps) .nil)))
theorem MkAt.ref {K : PySem.W.Frag} {H : Hp} : ∀ {m : Mk} {v : V}, MkAt K H m v → ∃ p, v = .ref p
  | .one _, _, ⟨p, _, _, e, _⟩ => ⟨p, e⟩
  | .house _ _, _, ⟨p, _, _, e, _⟩ => ⟨p, e⟩
def mkW : Mk → Str
  | .one _ => "one"
  | .house _ _ => "house"
/-- the word ahead -/
theorem MkAt.wd {K : PySem.W.Frag} {H : Hp} : ∀ {m : Mk} {v : V}, MkAt K H m v → ∃ p xs, v = .ref p ∧ SqT K H p (.str (mkW m) :: xs)
  | .one _, _, ⟨p, _, _, e, q, _⟩ => ⟨p, _, e, q⟩
  | .house _ _, _, ⟨p, _, _, e, q, _⟩ => ⟨p, _, e, q⟩
def Ms.cnt : Ms → Nat
  | .nil => 0
  | .one _ r => 1 + r.cnt
  | .house _ m r => 1 + m.cnt + r.cnt
def Ms.len : Ms → Nat
  | .nil => 0
  | .one _ r => r.len + 1
  | .house _ _ r => r.len + 1
def Ms.dep : Ms → Nat
  | .nil => 0
  | .one _ r => r.dep
  | .house _ m r => max (m.dep + 1) r.dep
theorem Ms.len_le : ∀ m : Ms, m.len ≤ m.cnt
  | .nil => Nat.le_refl _
  | .one _ r => by have := r.len_le; show r.len + 1 ≤ 1 + r.cnt; omega
  | .house _ m r => by have := r.len_le; show r.len + 1 ≤ 1 + m.cnt + r.cnt; omega
theorem MsAt.len {K : PySem.W.Frag} {H : Hp} : ∀ {m : Ms} {vs : List V}, MsAt K H m vs → vs.length = m.len
  | .nil, _, e => by subst e; rfl
  | .one _ _, _, ⟨v, us, e, q, r⟩ => by subst e; rw [List.length_cons, r.len]; rfl
  | .house _ _ _, _, ⟨p, pm, xs, us, e, q, qm, m, r⟩ => by subst e; rw [List.length_cons, r.len]; rfl
def Ms.app : Ms → Ms → Ms
  | .nil, e => e
  | .one o r, e => .one o (r.app e)
  | .house nm m r, e => .house nm m (r.app e)
theorem MsAt.app {K : PySem.W.Frag} {H : Hp} : ∀ {d e : Ms} {vs ws : List V}, MsAt K H d vs → MsAt K H e ws → MsAt K H (d.app e) (vs ++ ws)
  | .nil, _, _, _, e, y => by subst e; exact y
  | .one _ _, _, _, _, ⟨v, us, e, q, r⟩, y => by subst e; exact ⟨v, _, rfl, q, MsAt.app r y⟩
  | .house _ _ _, _, _, _, ⟨p, pm, xs, us, e, q, qm, m, r⟩, y => by subst e; exact ⟨p, pm, xs, _, rfl, q, qm, m, MsAt.app r y⟩
theorem Ms.cnt_app : ∀ d e : Ms, (d.app e).cnt = d.cnt + e.cnt
  | .nil, e => by show e.cnt = 0 + e.cnt; omega
  | .one _ r, e => by show 1 + (r.app e).cnt = 1 + r.cnt + e.cnt; rw [Ms.cnt_app r e]; omega
  | .house _ m r, e => by show 1 + m.cnt + (r.app e).cnt = 1 + m.cnt + r.cnt + e.cnt; rw [Ms.cnt_app r e]; omega
theorem Ms.dep_app : ∀ d e : Ms, (d.app e).dep = max d.dep e.dep
  | .nil, e => by show e.dep = max 0 e.dep; omega
  | .one _ r, e => Ms.dep_app r e
  | .house _ m r, e => by show max (m.dep + 1) (r.app e).dep = max (max (m.dep + 1) r.dep) e.dep; rw [Ms.dep_app r e]; omega
/-- each one in it -/
def Ms.all (P : One → Prop) : Ms → Prop
  | .nil => True
  | .one o r => P o ∧ r.all P
  | .house _ m r => m.all P ∧ r.all P
theorem Ms.all_app {P : One → Prop} : ∀ {d e : Ms}, d.all P → e.all P → (d.app e).all P
  | .nil, _, _, y => y
  | .one _ _, _, ⟨a, b⟩, y => ⟨a, Ms.all_app b y⟩
  | .house _ _ _, _, ⟨a, b⟩, y => ⟨a, Ms.all_app b y⟩
def nmOk (nm : Str) : Prop := (nm.cps.toList.all fun c => decide (c < 16 ^ 8)) = true ∧ nm.cps.size ≤ 10
def Ms.nms : Ms → Prop
  | .nil => True
  | .one _ r => r.nms
  | .house nm m r => nmOk nm ∧ m.nms ∧ r.nms
theorem Ms.nms_app : ∀ {d e : Ms}, d.nms → e.nms → (d.app e).nms
  | .nil, _, _, y => y
  | .one _ r, _, a, y => Ms.nms_app (d := r) a y
  | .house _ _ _, _, ⟨n, a, b⟩, y => ⟨n, a, Ms.nms_app b y⟩
def Ms.tl : Ms → Ms
  | .nil => .nil
  | .one _ r => r
  | .house _ _ r => r
def Ms.hd : Ms → Option Mk
  | .nil => none
  | .one o _ => some (.one o)
  | .house nm m _ => some (.house nm m)
def Ms.drop : Nat → Ms → Ms
  | 0, d => d
  | n + 1, d => (d.drop n).tl
theorem MsAt.tl {K : PySem.W.Frag} {H : Hp} : ∀ {d : Ms} {vs : List V}, MsAt K H d vs → MsAt K H d.tl (vs.drop 1)
  | .nil, _, e => by subst e; rfl
  | .one _ _, _, ⟨v, us, e, q, r⟩ => by subst e; exact r
  | .house _ _ _, _, ⟨p, pm, xs, us, e, q, qm, m, r⟩ => by subst e; exact r
theorem MsAt.drop {K : PySem.W.Frag} {H : Hp} {d : Ms} {vs : List V} (h : MsAt K H d vs) : ∀ n, MsAt K H (d.drop n) (vs.drop n)
  | 0 => h
  | n + 1 => by
    have := (MsAt.drop h n).tl
    rw [List.drop_drop] at this
    exact this
theorem MsAt.head {K : PySem.W.Frag} {H : Hp} : ∀ {d : Ms} {v : V} {us : List V}, MsAt K H d (v :: us) → ∃ k, d.hd = some k ∧ MkAt K H k v
  | .one o _, _, _, ⟨v, us, e, q, r⟩ => by cases e; exact ⟨.one o, rfl, q⟩
  | .house nm m _, _, _, ⟨p, pm, xs, us, e, q, qm, mm, r⟩ => by cases e; exact ⟨.house nm m, rfl, p, pm, xs, rfl, q, qm, mm⟩
theorem MsAt.nth {K : PySem.W.Frag} {H : Hp} {d : Ms} {vs : List V} {i : Nat} {v : V} (h : MsAt K H d vs) (hi : vs[i]? = some v) : ∃ k, (d.drop i).hd = some k ∧ MkAt K H k v := by
  have hil := (List.getElem?_eq_some_iff.mp hi).1
  have hd := h.drop i
  rw [List.drop_eq_getElem_cons hil, (List.getElem?_eq_some_iff.mp hi).2] at hd
  exact hd.head
theorem Ms.dep_tl : ∀ d : Ms, d.tl.dep ≤ d.dep
  | .nil => Nat.le_refl _
  | .one _ r => Nat.le_refl _
  | .house _ m r => by show r.dep ≤ max (m.dep + 1) r.dep; omega
theorem Ms.dep_drop (d : Ms) : ∀ n, (d.drop n).dep ≤ d.dep
  | 0 => Nat.le_refl _
  | n + 1 => Nat.le_trans (Ms.dep_tl _) (Ms.dep_drop d n)
theorem Ms.cnt_tl : ∀ d : Ms, d.tl.cnt ≤ d.cnt
  | .nil => Nat.le_refl _
  | .one _ r => by show r.cnt ≤ 1 + r.cnt; omega
  | .house _ m r => by show r.cnt ≤ 1 + m.cnt + r.cnt; omega
theorem Ms.cnt_drop (d : Ms) : ∀ n, (d.drop n).cnt ≤ d.cnt
  | 0 => Nat.le_refl _
  | n + 1 => Nat.le_trans (Ms.cnt_tl _) (Ms.cnt_drop d n)
/-- a house ahead lies deeper, is smaller -/
theorem Ms.hd_house {d : Ms} {nm : Str} {m : Ms} (h : d.hd = some (.house nm m)) : m.dep + 1 ≤ d.dep ∧ m.cnt + 1 ≤ d.cnt := by
  cases d with
  | nil => cases h
  | one o r => cases h
  | house n2 m2 r =>
    cases h
    exact ⟨by show m.dep + 1 ≤ max (m.dep + 1) r.dep; omega, by show m.cnt + 1 ≤ 1 + m.cnt + r.cnt; omega⟩
/-! ### all that stand, with their paths -/
def stdI : Ms → List Int → Int → List (List Int × Mk)
  | .nil, _, _ => []
  | .one o r, path, i => (path ++ [i], .one o) :: stdI r path (i + 1)
  | .house nm m r, path, i => (path ++ [i], .house nm m) :: (stdI m (path ++ [i]) 0 ++ stdI r path (i + 1))
def stdH : Option Mk → List Int → Int → List (List Int × Mk)
  | none, _, _ => []
  | some (.one o), path, i => [(path ++ [i], .one o)]
  | some (.house nm m), path, i => (path ++ [i], .house nm m) :: stdI m (path ++ [i]) 0
theorem stdI_step : ∀ (d : Ms) (path : List Int) (i : Int), stdI d path i = stdH d.hd path i ++ stdI d.tl path (i + 1)
  | .nil, _, _ => rfl
  | .one _ _, _, _ => rfl
  | .house _ _ _, _, _ => rfl
theorem stdI_len : ∀ (d : Ms) (path : List Int) (i : Int), (stdI d path i).length = d.cnt
  | .nil, _, _ => rfl
  | .one _ r, path, i => by show (stdI r path (i + 1)).length + 1 = 1 + r.cnt; rw [stdI_len r]; omega
  | .house _ m r, path, i => by show (stdI m (path ++ [i]) 0 ++ stdI r path (i + 1)).length + 1 = 1 + m.cnt + r.cnt; rw [List.length_append, stdI_len m, stdI_len r]; omega
def PrAt (K : PySem.W.Frag) (H : Hp) (x : List Int × Mk) (u : V) : Prop := ∃ (t h : Addr) (v : V), u = .ref t ∧ SqT K H t [.ref h, v] ∧ SqT K H h (x.1.map V.int) ∧ MkAt K H x.2 v
theorem PrAt.imp {K : PySem.W.Frag} {H H' : Hp} (h : ∀ p xs, SqT K H p xs → SqT K H' p xs) {x : List Int × Mk} {u : V} (y : PrAt K H x u) : PrAt K H' x u := by
  obtain ⟨t, q, v, e, a, b, c⟩ := y
  exact ⟨t, q, v, e, h _ _ a, h _ _ b, c.imp h⟩
def PrsAt (K : PySem.W.Frag) (H : Hp) : List V → List (List Int × Mk) → Prop
  | [], [] => True
  | u :: us, x :: xs => PrAt K H x u ∧ PrsAt K H us xs
  | _, _ => False
theorem PrsAt.imp {K : PySem.W.Frag} {H H' : Hp} (h : ∀ p xs, SqT K H p xs → SqT K H' p xs) : ∀ {us : List V} {xs : List (List Int × Mk)}, PrsAt K H us xs → PrsAt K H' us xs
  | [], [], _ => trivial
  | _ :: _, _ :: _, ⟨x, r⟩ => ⟨x.imp h, PrsAt.imp h r⟩
theorem PrsAt.app {K : PySem.W.Frag} {H : Hp} : ∀ {us ws : List V} {xs ys : List (List Int × Mk)}, PrsAt K H us xs → PrsAt K H ws ys → PrsAt K H (us ++ ws) (xs ++ ys)
  | [], _, [], _, _, y => y
  | _ :: _, _, _ :: _, _, ⟨x, r⟩, y => ⟨x, PrsAt.app r y⟩
theorem PrsAt.len {K : PySem.W.Frag} {H : Hp} : ∀ {us : List V} {xs : List (List Int × Mk)}, PrsAt K H us xs → us.length = xs.length
  | [], [], _ => rfl
  | _ :: _, _ :: _, ⟨_, r⟩ => by rw [List.length_cons, List.length_cons, r.len]
theorem PrsAt.get {K : PySem.W.Frag} {H : Hp} : ∀ {us : List V} {xs : List (List Int × Mk)} {i : Nat} {u : V}, PrsAt K H us xs → us[i]? = some u → ∃ x, xs[i]? = some x ∧ PrAt K H x u
  | [], [], _, _, _, h => by simp at h
  | v :: us, x :: xs, 0, u, ⟨y, r⟩, h => by
    have : v = u := Option.some.inj h
    subst this
    exact ⟨x, rfl, y⟩
  | v :: us, x :: xs, i + 1, u, ⟨y, r⟩, h => PrsAt.get (i := i) r h
def prD (x : List Int × Mk) : PyData := .tuple [.tuple (x.1.map PyData.int), mkD x.2]
theorem PrAt.dp {K : PySem.W.Frag} {H : Hp} {x : List Int × Mk} {u : V} (y : PrAt K H x u) : Dp K H u (prD x) := by
  obtain ⟨t, q, v, e, a, b, c⟩ := y
  subst e
  exact .tup a (.cons (.tup b (dp_ints _)) (.cons c.dp .nil))
theorem PrsAt.dps {K : PySem.W.Frag} {H : Hp} : ∀ {us : List V} {xs : List (List Int × Mk)}, PrsAt K H us xs → DpAll K H us (xs.map prD)
  | [], [], _ => .nil
  | _ :: _, _ :: _, ⟨x, r⟩ => .cons x.dp r.dps
def isOne (x : List Int × Mk) : Bool := match x.2 with
  | .one _ => true
  | .house _ _ => false
def toOne (x : List Int × Mk) : Option One := match x.2 with
  | .one o => some o
  | .house _ _ => none
def onesI (m : Ms) : List (List Int × Mk) := (stdI m [] 0).filter isOne
def aoI : Ms → List One
  | .nil => []
  | .one o r => o :: aoI r
  | .house _ m r => aoI m ++ aoI r
theorem ao_std : ∀ (d : Ms) (path : List Int) (i : Int), ((stdI d path i).filter isOne).filterMap toOne = aoI d
  | .nil, _, _ => rfl
  | .one o r, path, i => by
    show (((path ++ [i], Mk.one o) :: stdI r path (i + 1)).filter isOne).filterMap toOne = o :: aoI r
    rw [List.filter_cons_of_pos (by rfl), List.filterMap_cons_some (b := o) (by rfl), ao_std r]
  | .house nm m r, path, i => by
    show (((path ++ [i], Mk.house nm m) :: (stdI m (path ++ [i]) 0 ++ stdI r path (i + 1))).filter isOne).filterMap toOne = aoI m ++ aoI r
    rw [List.filter_cons_of_neg (by intro h; cases h), List.filter_append, List.filterMap_append, ao_std m, ao_std r]
theorem ones_map : ∀ {xs : List (List Int × Mk)}, (∀ x ∈ xs, isOne x = true) → (xs.filterMap toOne).length = xs.length
  | [], _ => rfl
  | (p, .one o) :: r, h => by
    rw [List.filterMap_cons_some (b := o) (by rfl), List.length_cons, List.length_cons, ones_map fun x hx => h x (List.mem_cons_of_mem _ hx)]
  | (p, .house nm m) :: r, h => by
    have := h (p, .house nm m) (by simp)
    cases this
theorem ones_len (m : Ms) : (onesI m).length = (aoI m).length := by
  have h := ones_map (xs := onesI m) fun x hx => (List.mem_filter.mp hx).2
  rw [← h]
  unfold onesI
  rw [ao_std]
def motesI (m : Ms) : Int := ((aoI m).map (·.motes)).sum
theorem ao_len : ∀ d : Ms, (aoI d).length ≤ d.cnt
  | .nil => Nat.le_refl _
  | .one _ r => by have := ao_len r; show (aoI r).length + 1 ≤ 1 + r.cnt; omega
  | .house _ m r => by have := ao_len m; have := ao_len r; show (aoI m ++ aoI r).length ≤ 1 + m.cnt + r.cnt; rw [List.length_append]; omega
theorem ao_all {P : One → Prop} : ∀ {d : Ms}, d.all P → ∀ o ∈ aoI d, P o
  | .nil, _, o, h => by cases h
  | .one _ r, ⟨a, b⟩, o, h => by
    rcases List.mem_cons.mp h with rfl | h
    · exact a
    · exact ao_all b o h
  | .house _ m r, ⟨a, b⟩, o, h => by
    rcases List.mem_append.mp h with h | h
    · exact ao_all a o h
    · exact ao_all b o h
theorem ao_app : ∀ d e : Ms, aoI (d.app e) = aoI d ++ aoI e
  | .nil, e => rfl
  | .one o r, e => by show o :: aoI (r.app e) = o :: (aoI r ++ aoI e); rw [ao_app r e]
  | .house _ m r, e => by show aoI m ++ aoI (r.app e) = aoI m ++ aoI r ++ aoI e; rw [ao_app r e, List.append_assoc]
/-! ### promises -/
def spStands (K : PySem.W.Frag) (n : Nat) : Sp := fun vs H Q _ => ∃ (p q : Addr) (xs : List V) (m : Ms) (path : List Int), vs = [.ref p, .ref q] ∧ SqT K H p xs ∧ MsAt K H m xs ∧ m.dep < n ∧ m.cnt ≤ 300 ∧ SqT K H q (path.map V.int) ∧ path.length + m.dep ≤ 100 ∧
  ∀ H' l us, Same H H' → H l = none → H' l = some (.lst us) → PrsAt K H' us (stdI m path 0) → Q (.ref l) H'
def spOnes (K : PySem.W.Frag) (n : Nat) : Sp := fun vs H Q _ => ∃ (p pm : Addr) (xs : List V) (many : Int) (m : Ms), vs = [.ref p] ∧ SqT K H p [.int many, .ref pm] ∧ SqT K H pm xs ∧ MsAt K H m xs ∧ m.dep < n ∧ m.cnt ≤ 300 ∧ m.dep ≤ 50 ∧
  ∀ H' t us, Same H H' → SqT K H' t us → PrsAt K H' us (onesI m) → Q (.ref t) H'
def spMotes (K : PySem.W.Frag) (n : Nat) : Sp := fun vs H Q _ => ∃ (p pm : Addr) (xs : List V) (many : Int) (m : Ms), vs = [.ref p] ∧ SqT K H p [.int many, .ref pm] ∧ SqT K H pm xs ∧ MsAt K H m xs ∧ m.dep < n ∧ m.cnt ≤ 300 ∧ m.dep ≤ 50 ∧
  ∀ H', Same H H' → Q (.int (motesI m)) H'
end NG

namespace NG
open PySem PySem.Spec PyProof.Rows L2
theorem reprK {X : Cx} (K : PySem.W.Frag) (hg : X.A.guards = some []) (hu : X.A.units + 64 < cLine) (h : X.K = K := by rfl) : CallR X (.builtin "repr") (rRepr K) := by
  subst h
  exact cr_repr hg hu
/-! ### what is shown of members -/
theorem shh_list {α : Type} {f : α → PyData} {w k : Nat} : ∀ {xs : List α}, (∀ x ∈ xs, Shh (f x) w k) → ShhAll (xs.map f) ((w + 1) * xs.length) k
  | [], _ => ShhAll.nil
  | n :: r, h => by
    have h1 := h n (by simp)
    have h2 := shh_list (xs := r) fun x hx => h x (List.mem_cons_of_mem _ hx)
    refine (ShhAll.cons h1 h2 (Nat.le_refl k) (Nat.le_refl k)).mono ?_ (Nat.le_refl k)
    rw [List.length_cons, Nat.mul_add]
    omega
theorem shh_ms {many dE dD cD : Nat} (hm : many ≤ 3) (hE : dE ≤ 8) (hD : dD ≤ 8) : ∀ {m : Ms}, m.all (OneOk many dE dD cD) → m.nms → ShhAll (msD m) ((700 + 3 * wgt dE + 180 * cD) * m.cnt) (22 + 2 * m.dep)
  | .nil, _, _ => ShhAll.nil
  | .one o r, a, n => by
    have h1 := shh_one hm hE hD a.1
    have h2 := shh_ms hm hE hD (m := r) a.2 n
    refine (ShhAll.cons h1 h2 (k := 22 + 2 * r.dep) (by omega) (Nat.le_refl _)).mono ?_ (Nat.le_refl _)
    show _ ≤ (700 + 3 * wgt dE + 180 * cD) * (1 + r.cnt)
    rw [Nat.mul_add, Nat.mul_one]
    omega
  | .house nm m r, a, n => by
    have h1 := (shh_ms hm hE hD (m := m) a.1 n.2.1).tup
    have h2 := shh_ms hm hE hD (m := r) a.2 n.2.2
    have s1 : Shh (.str "house") 10 0 := .str (by decide) (by decide)
    have s2 : Shh (.str nm) 10 0 := .str n.1.1 n.1.2
    have h3 := (ShhAll.cons s1 (.cons s2 (.cons h1 (ShhAll.nil (k := 0)) (k := 23 + 2 * m.dep) (by omega) (by omega)) (by omega) (Nat.le_refl _)) (by omega) (Nat.le_refl _)).tup
    refine (ShhAll.cons h3 h2 (k := 22 + 2 * max (m.dep + 1) r.dep) (by omega) (by omega)).mono ?_ (Nat.le_refl _)
    show _ ≤ (700 + 3 * wgt dE + 180 * cD) * (1 + m.cnt + r.cnt)
    rw [Nat.mul_add, Nat.mul_add, Nat.mul_one]
    omega
theorem std_path : ∀ (d : Ms) (path : List Int) (i : Int), 0 ≤ i → i + (d.cnt : Int) ≤ 300 → ∀ x ∈ stdI d path i, x.1.length ≤ path.length + d.dep + 1 ∧ ∀ e ∈ x.1, e ∈ path ∨ (0 ≤ e ∧ e ≤ 300)
  | .nil, _, _, _, _, x, h => by cases h
  | .one o r, path, i, i0, i1, x, h => by
    have i1 : i + ((1 + r.cnt : Nat) : Int) ≤ 300 := i1
    have h : x ∈ (path ++ [i], Mk.one o) :: stdI r path (i + 1) := h
    rcases List.mem_cons.mp h with rfl | h
    · refine ⟨by rw [List.length_append]; show path.length + 1 ≤ _; omega, fun e he => ?_⟩
      rcases List.mem_append.mp he with he | he
      · exact .inl he
      · rw [List.mem_singleton.mp he]
        exact .inr ⟨i0, by omega⟩
    · exact std_path r path (i + 1) (by omega) (by omega) x h
  | .house nm m r, path, i, i0, i1, x, h => by
    have i1 : i + ((1 + m.cnt + r.cnt : Nat) : Int) ≤ 300 := i1
    have h : x ∈ (path ++ [i], Mk.house nm m) :: (stdI m (path ++ [i]) 0 ++ stdI r path (i + 1)) := h
    show x.1.length ≤ path.length + max (m.dep + 1) r.dep + 1 ∧ _
    rcases List.mem_cons.mp h with rfl | h
    · refine ⟨by rw [List.length_append]; show path.length + 1 ≤ _; omega, fun e he => ?_⟩
      rcases List.mem_append.mp he with he | he
      · exact .inl he
      · rw [List.mem_singleton.mp he]
        exact .inr ⟨i0, by omega⟩
    · rcases List.mem_append.mp h with h | h
      · obtain ⟨h1, h2⟩ := std_path m (path ++ [i]) 0 (by decide) (by omega) x h
        refine ⟨by rw [List.length_append] at h1; have h1 : x.1.length ≤ path.length + 1 + m.dep + 1 := h1; omega, fun e he => ?_⟩
        rcases h2 e he with he | he
        · rcases List.mem_append.mp he with he | he
          · exact .inl he
          · rw [List.mem_singleton.mp he]
            exact .inr ⟨i0, by omega⟩
        · exact .inr he
      · obtain ⟨h1, h2⟩ := std_path r path (i + 1) (by omega) (by omega) x h
        exact ⟨by omega, h2⟩
theorem std_all {P : One → Prop} : ∀ (d : Ms) (path : List Int) (i : Int), d.all P → ∀ x ∈ stdI d path i, ∀ o, x.2 = .one o → P o
  | .nil, _, _, _, x, h, _, _ => by cases h
  | .one o r, path, i, a, x, h, o2, e => by
    have h : x ∈ (path ++ [i], Mk.one o) :: stdI r path (i + 1) := h
    rcases List.mem_cons.mp h with rfl | h
    · cases e
      exact a.1
    · exact std_all r path (i + 1) a.2 x h o2 e
  | .house nm m r, path, i, a, x, h, o2, e => by
    have h : x ∈ (path ++ [i], Mk.house nm m) :: (stdI m (path ++ [i]) 0 ++ stdI r path (i + 1)) := h
    rcases List.mem_cons.mp h with rfl | h
    · cases e
    · rcases List.mem_append.mp h with h | h
      · exact std_all m (path ++ [i]) 0 a.1 x h o2 e
      · exact std_all r path (i + 1) a.2 x h o2 e
theorem std_house : ∀ (d : Ms) (path : List Int) (i : Int), ∀ x ∈ stdI d path i, ∀ nm m2, x.2 = .house nm m2 → m2.dep + 1 ≤ d.dep ∧ m2.cnt + 1 ≤ d.cnt
  | .nil, _, _, x, h, _, _, _ => by cases h
  | .one o r, path, i, x, h, nm, m2, e => by
    have h : x ∈ (path ++ [i], Mk.one o) :: stdI r path (i + 1) := h
    rcases List.mem_cons.mp h with rfl | h
    · cases e
    · obtain ⟨h1, h2⟩ := std_house r path (i + 1) x h nm m2 e
      exact ⟨h1, by show m2.cnt + 1 ≤ 1 + r.cnt; omega⟩
  | .house nm m r, path, i, x, h, nm2, m2, e => by
    have h : x ∈ (path ++ [i], Mk.house nm m) :: (stdI m (path ++ [i]) 0 ++ stdI r path (i + 1)) := h
    show m2.dep + 1 ≤ max (m.dep + 1) r.dep ∧ m2.cnt + 1 ≤ 1 + m.cnt + r.cnt
    rcases List.mem_cons.mp h with rfl | h
    · cases e
      exact ⟨by omega, by omega⟩
    · rcases List.mem_append.mp h with h | h
      · obtain ⟨h1, h2⟩ := std_house m (path ++ [i]) 0 x h nm2 m2 e
        exact ⟨by omega, by omega⟩
      · obtain ⟨h1, h2⟩ := std_house r path (i + 1) x h nm2 m2 e
        exact ⟨by omega, by omega⟩
/-- a pair of a path and a one, as shown -/
theorem shh_pr {many dE dD cD : Nat} {m : Ms} (hm : many ≤ 3) (hE : dE ≤ 8) (hD : dD ≤ 8) (a : m.all (OneOk many dE dD cD)) (hc : m.cnt ≤ 300) (hd : m.dep ≤ 20) : ∀ x ∈ onesI m, ∃ o, x.2 = .one o ∧ OneOk many dE dD cD o ∧ Shh (prD x) (1000 + 3 * wgt dE + 180 * cD) 23 := fun x hx => by
  obtain ⟨h1, h2⟩ := List.mem_filter.mp hx
  obtain ⟨p1, p2⟩ := std_path m [] 0 (by decide) (by omega) x h1
  obtain ⟨pth, k⟩ := x
  cases k with
  | house nm m2 => cases h2
  | one o =>
    have ho := std_all m [] 0 a _ h1 o rfl
    refine ⟨o, rfl, ho, ?_⟩
    have hb : ∀ e ∈ pth, -1000 ≤ e ∧ e ≤ 1000 := fun e he => by
      rcases p2 e he with z | z
      · cases z
      · omega
    have s1 : Shh (.tuple (pth.map PyData.int)) (16 * pth.length) 1 := ((shw_smalls hb).tup).hh (lf_list fun e he => int60 (by have := hb e he; omega))
    have s2 := shh_one hm hE hD ho
    have pl : pth.length ≤ 21 := by
      have p1 : pth.length ≤ 0 + m.dep + 1 := p1
      omega
    exact ((ShhAll.cons s1 (.cons s2 (ShhAll.nil (k := 0)) (k := 22) (by omega) (by omega)) (by omega) (Nat.le_refl _)).tup).mono (by omega) (by omega)
theorem shh_ones {many dE dD cD : Nat} {m : Ms} (hm : many ≤ 3) (hE : dE ≤ 8) (hD : dD ≤ 8) (a : m.all (OneOk many dE dD cD)) (hc : m.cnt ≤ 300) (hd : m.dep ≤ 20) : Shh (.tuple ((onesI m).map prD)) ((1001 + 3 * wgt dE + 180 * cD) * m.cnt) 24 := by
  have h := shh_list (f := prD) (xs := onesI m) (w := 1000 + 3 * wgt dE + 180 * cD) (k := 23) fun x hx => by
    obtain ⟨o, _, _, h⟩ := shh_pr hm hE hD a hc hd x hx
    exact h
  refine h.tup.mono (Nat.mul_le_mul (by omega) ?_) (by decide)
  rw [ones_len]
  exact ao_len m
theorem motes_bnd {many dE dD cD : Nat} {m : Ms} (a : m.all (OneOk many dE dD cD)) (hc : m.cnt ≤ 300) : (motesI m).natAbs.log2 < 1920 := by
  have h0 : ∀ x ∈ (aoI m).map One.motes, 0 ≤ x ∧ x ≤ 3000000000000 := fun x hx => by
    obtain ⟨o, ho, rfl⟩ := List.mem_map.mp hx
    exact (ao_all a o ho).m1
  have h1 := sum_nonneg (ms := (aoI m).map One.motes) fun x hx => (h0 x hx).1
  have h2 := sum_le (B := 3000000000000) (ms := (aoI m).map One.motes) fun x hx => (h0 x hx).2
  rw [List.length_map] at h2
  have h3 := ao_len m
  have h4 : ((aoI m).length : Int) * 3000000000000 ≤ 300 * 3000000000000 := Int.mul_le_mul_of_nonneg_right (by omega) (by decide)
  have h5 : (motesI m).natAbs < 2 ^ 60 := by
    show (((aoI m).map One.motes).sum).natAbs < 2 ^ 60
    omega
  have := PySem.Flt.log2_lt_of (k := 60) (by decide) h5
  omega
theorem w3 : wgt 3 = 420 := rfl
theorem shh_house {many : Nat} {m : Ms} (hm : many ≤ 3) (a : m.all (OneOk many 3 2 10)) (n : m.nms) (hc : m.cnt ≤ 40) (hd : m.dep ≤ 6) : Shh (.tuple [.int (many : Int), .tuple (msD m)]) 200000 60 := by
  have h1 := (shh_ms hm (by decide) (by decide) a n).tup
  rw [w3] at h1
  have h2 : Shh (.int (many : Int)) 60 0 := .int (by omega)
  have h3 := (ShhAll.cons h2 (.cons h1 (ShhAll.nil (k := 0)) (k := 35) (by omega) (by omega)) (by omega) (Nat.le_refl _)).tup
  exact h3.mono (by omega) (by omega)
theorem shh_ones' {many : Nat} {m : Ms} (hm : many ≤ 3) (a : m.all (OneOk many 3 2 10)) (hc : m.cnt ≤ 40) (hd : m.dep ≤ 6) : Shh (.tuple ((onesI m).map prD)) 200000 60 := by
  have h := shh_ones hm (by decide) (by decide) a (by omega) (by omega)
  rw [w3] at h
  exact h.mono (by omega) (by omega)
theorem shh_one' {many : Nat} {o : One} (hm : many ≤ 3) (a : OneOk many 3 2 10 o) : Shh (oneD o) 200000 60 := by
  have h := shh_one hm (by decide) (by decide) a
  rw [w3] at h
  exact h.mono (by omega) (by omega)
def ofOnes : List One → Ms
  | [] => .nil
  | o :: r => .one o (ofOnes r)
theorem ofOnes_cnt : ∀ os, (ofOnes os).cnt = os.length
  | [] => rfl
  | o :: r => by show 1 + (ofOnes r).cnt = r.length + 1; rw [ofOnes_cnt r]; omega
theorem ofOnes_dep : ∀ os, (ofOnes os).dep = 0
  | [] => rfl
  | o :: r => ofOnes_dep r
theorem ofOnes_nms : ∀ os, (ofOnes os).nms
  | [] => trivial
  | o :: r => ofOnes_nms r
theorem ofOnes_all {P : One → Prop} : ∀ {os : List One}, (∀ o ∈ os, P o) → (ofOnes os).all P
  | [], _ => trivial
  | o :: r, h => ⟨h o (by simp), ofOnes_all fun x hx => h x (List.mem_cons_of_mem _ hx)⟩
end NG

namespace NG
open PySem PySem.Spec PyProof.Rows L2
/-! ### xs[i] read ahead of xs[i] += .. -/
theorem get_neg {X : Cx} : PGet X (fun o i H Q => ∃ (p : Addr) (xs : List V) (k : Int) (z : V), o = .ref p ∧ i = .int k ∧ k < 0 ∧ SqL X.K H p xs ∧ atI xs k = some z ∧ Q z H) := by
  intro pins s σ H o i ov iv Q I ro ri h
  obtain ⟨p, xs, k, z, rfl, rfl, hk, hq, he, q⟩ := h
  cases ro
  obtain ⟨t, rfl⟩ := ri
  obtain ⟨its, r, pl, hz⟩ := I.list hq
  obtain ⟨j, h1, h2, h3, h4, h5⟩ := atI_get he
  obtain ⟨w, ew, rw'⟩ := r.get h2
  have hl := r.length
  have hn := line63
  have hj : (k + (its.toArray.size : Int)).toNat = j := by
    rw [seqIndex_neg (by omega) h4] at h1
    rw [List.size_toArray, ← hl]
    exact Option.some.inj h1
  exact wpAny_getItem_list_neg pl.isList hk (by rw [List.size_toArray]; omega) (by omega) (by rw [hj]; simpa using ew) ⟨z, H, I, rw', q⟩
theorem slAK {X : Cx} (K : PySem.W.Frag) (h : X.K = K := by rfl) : SlR X (rSlA K) := by
  subst h
  exact sl_tupA
theorem catAK {X : Cx} (K : PySem.W.Frag) (h : X.K = K := by rfl) : OpR X (binaryOp .Add) (rCatA K) := by
  subst h
  exact op_catA
theorem pilK {X : Cx} (K : PySem.W.Frag) {tg l : Expr} {tl : TE} (hl : PE X l tl) (h : X.K = K := by rfl) : PI X tg l (iList K tl) := by
  subst h
  exact pi_list hl
theorem pitK {X : Cx} (K : PySem.W.Frag) {tg l : Expr} {tl : TE} (hl : PE X l tl) (h : X.K = K := by rfl) : PI X tg l (iTup K tl) := by
  subst h
  exact pi_tup hl
end NG

namespace NG
open PySem PySem.Spec PyProof.Rows L2
/-! ### zip of a tuple with a list -/
def ItTL (K : PySem.W.Frag) (a b : Addr) : It :=
  ⟨fun i H => ∃ (us ws : List V) (u v : V), SqT K H a us ∧ SqL K H b ws ∧ us[i]? = some u ∧ ws[i]? = some v,
   fun i H r H' => ∃ (T : Addr) (u v : V), r = .ref T ∧ H T = none ∧ H' = upd H T (.tup [u, v]) ∧ (∀ us, SqT K H a us → us[i]? = some u) ∧ ∀ ws, SqL K H b ws → ws[i]? = some v,
   fun i H => ∃ us ws : List V, SqT K H a us ∧ SqL K H b ws ∧ min us.length ws.length = i⟩
theorem turn_TL {P : Program} {w : World} {K : PySem.W.Frag} {es : List Expr} {k : Nat} {ps : Pos} {a b z TI TO i1 i2 : Addr} (S : ZipSep2 z TI TO i1 i2 [i1, a] [i2, b]) (na : a ≠ i1) (nb : b ≠ i2) :
    Turn P w K (.Tuple es k ps) (ItTL K a b) [z, TI, TO, i1, i2] z (fun i h => IsZip h z TI TO .none ∧ IsTupOf2 h TI (.ref i1) (.ref i2) ∧ (∃ c d, IsTupOf2 h TO c d) ∧ h.IsTupleIter i1 a i ∧ h.IsListIter i2 b i) := by
  have five : ∀ {c : Addr}, c ∈ [z, TI, TO, i1, i2] → c = z ∨ c = TI ∨ c = TO ∨ c = i1 ∨ c = i2 := fun h => by simpa using h
  have lives : ∀ (i : Nat) (h : Heap), (IsZip h z TI TO .none ∧ IsTupOf2 h TI (.ref i1) (.ref i2) ∧ (∃ c d, IsTupOf2 h TO c d) ∧ h.IsTupleIter i1 a i ∧ h.IsListIter i2 b i) → ∀ c ∈ [z, TI, TO, i1, i2], ∃ o, h.get? c = some o ∧ ∀ v, o.data ≠ .cell v := fun i h st c hc => by
    obtain ⟨s1, s2, ⟨x, y, s3⟩, ⟨o4, s4, _, d4⟩, ⟨o5, s5, _, d5⟩⟩ := st
    rcases five hc with rfl | rfl | rfl | rfl | rfl
    · exact ⟨_, s1, fun v q => nomatch q⟩
    · exact ⟨_, s2, fun v q => nomatch q⟩
    · exact ⟨_, s3, fun v q => nomatch q⟩
    · exact ⟨o4, s4, fun v q => by rw [d4] at q; exact nomatch q⟩
    · exact ⟨o5, s5, fun v q => by rw [d5] at q; exact nomatch q⟩
  refine ⟨List.mem_cons_self, lives, fun i h h' st kp => ?_, fun X eP ew eK hc i pins s σ H E I hf st hg => ?_, fun X eP ew eK hc i pins s σ H E I hf st hg => ?_, fun A i s Q E st q => wpAny_pyIter_zip st.1 q⟩
  · obtain ⟨s1, s2, ⟨x, y, s3⟩, s4, s5⟩ := st
    exact ⟨kp _ (by simp) _ s1, kp _ (by simp) _ s2, ⟨x, y, kp _ (by simp) _ s3⟩, s4.at fun o q => kp _ (by simp) o q, s5.at fun o q => kp _ (by simp) o q⟩
  · cases eP
    cases ew
    cases eK
    have lv := lives i _ st
    obtain ⟨s1, s2, s3, s4, s5⟩ := st
    obtain ⟨us, ws, u, v, qa, qb, hu, hv⟩ := hg
    obtain ⟨la, ra, pa, _⟩ := I.tuple qa
    obtain ⟨lb, rb, pb, _⟩ := I.list qb
    obtain ⟨u', eu, ru⟩ := ra.get hu
    obtain ⟨v', ev', rv⟩ := rb.get hv
    have W := WalksT.zipD2 (A := X.A) S (Draws.tuple (A := X.A.in1) (I.ok.hd hc) i1 a na la.toArray) (Draws.list (prog := X.prog) (w := X.w) (A := X.A.in1) (I.ok.hd hc) i2 b nb lb.toArray)
    have il : i < la.length := (List.getElem?_eq_some_iff.mp eu).1
    have ir : i < lb.length := (List.getElem?_eq_some_iff.mp ev').1
    refine W.item i s _ E (by rw [List.size_toArray, List.size_toArray]; omega) ⟨s1, s2, s3, ⟨s4, pa⟩, ⟨s5, pb.isList⟩⟩ fun T vals h1 tk pv hT tT mid k1 => ⟨_, rfl, ?_⟩
    have apT := W.apart i T h1 mid
    refine W.go es k ps i T _ _ _ mid fun h2 st2 k2 => ?_
    obtain ⟨x1, x2, e1, e2, rfl⟩ := pv
    have f1 : x1 = u' := by
      have := e1.symm.trans (show la.toArray[i]? = some u' by simpa using eu)
      exact Option.some.inj this
    have f2 : x2 = v' := by
      have := e2.symm.trans (show lb.toArray[i]? = some v' by simpa using ev')
      exact Option.some.inj this
    subst f1 f2
    obtain ⟨z1, z2, z3, ⟨z4, _⟩, ⟨z5, _⟩⟩ := st2
    have tT2 : h2.IsTuple T #[x1, x2] := tT.at fun o e => k2 T o apT e
    have in5 : ∀ c, c ∉ [z, TI, TO, i1, i2] → c ∉ [z, TO, i1, i2] := fun c h m => h (by
      rcases (by simpa using m : c = z ∨ c = TO ∨ c = i1 ∨ c = i2) with rfl | rfl | rfl | rfl <;> simp)
    have J := I.turnedNew (h' := h2) (t' := tk) (ch := [z, TI, TO, i1, i2]) (T := T) (ob := .tup [u, v]) (fun c o hb' q => k2 c o (in5 c hb') (k1 c o (in5 c hb') q)) hf hT ⟨(by show 2 ≤ sizeLine; decide), [x1, x2], .cons ru (.cons rv .nil), tT2⟩
    refine ⟨.ref T, _, J, rfl, ⟨T, u, v, rfl, I.hok.fresh hT, rfl, fun l hl => ?_, fun l hl => ?_⟩, ⟨z1, z2, z3, z4, z5⟩, fun c hcm => ?_⟩
    · rw [I.tuple_inj hl qa]
      exact hu
    · rw [I.list_inj hl qb]
      exact hv
    · obtain ⟨o, ho, _⟩ := lv c hcm
      have lt := Heap.lt_size ho
      rw [upd_ne (Nat.ne_of_lt (Nat.lt_of_lt_of_le lt hT))]
      exact (hf c hcm).1
  · cases eP
    cases ew
    cases eK
    obtain ⟨s1, s2, s3, s4, s5⟩ := st
    obtain ⟨us, ws, qa, qb, e1⟩ := hg
    obtain ⟨la, ra, pa, _⟩ := I.tuple qa
    obtain ⟨lb, rb, pb, _⟩ := I.list qb
    have W := WalksT.zipD2 (A := X.A) S (Draws.tuple (A := X.A.in1) (I.ok.hd hc) i1 a na la.toArray) (Draws.list (prog := X.prog) (w := X.w) (A := X.A.in1) (I.ok.hd hc) i2 b nb lb.toArray)
    have l1 := ra.length
    have l2 := rb.length
    have en : min la.toArray.size lb.toArray.size = i := by
      rw [List.size_toArray, List.size_toArray]
      omega
    rw [en] at W
    refine W.done s _ E ⟨s1, s2, s3, ⟨s4, pa⟩, ⟨s5, pb.isList⟩⟩ fun h1 tk k1 => ⟨rfl, ?_⟩
    exact I.turnedL (t' := tk) (ch := [z, TI, TO, i1, i2]) (fun c o hb' q => k1 c o (fun m => hb' (by rcases (by simpa using m : c = z ∨ c = TO ∨ c = i1 ∨ c = i2) with rfl | rfl | rfl | rfl <;> simp)) q) hf
def iZipTL (K : PySem.W.Frag) (ta : TA) : TI := fun σ H R => ta σ H fun vs H1 => ∃ a b us ws, vs = [.ref a, .ref b] ∧ SqT K H1 a us ∧ SqL K H1 b ws ∧ R (ItTL K a b) H1
theorem pi_zipTL {X : Cx} {e e2 : Expr} {ta : TA} {p pos tpos : Pos} {elts : List Expr} {kk : Nat} (hg : Gl X "zip") (hm : X.mg "zip" = none) (ha : PA X [e, e2] ta)
    (hs : starEach [e, e2] X.env = (false, eval e X.env) :: starEach [e2] X.env := by rfl) (hpl : (backTo pos (starEach [e2] X.env)).any (·.1) = false := by rfl) : PI X (.Tuple elts kk tpos) (.Call (.Name "zip" p) [e, e2] [] pos) (iZipTL X.K ta) := by
  refine ⟨fun pins s σ H R I h => Call_ (ld_blt I hg hm PyProof.Rows.boot_zip (PyProof.Rows.callWith_type1 (thn (ha.run pos pins s σ H _ I h) fun us s1 ⟨vs, H1, I1, r1, q1⟩ => ?_) hs hpl))⟩
  obtain ⟨a, b, ul, wl, rfl, qa, qb, q⟩ := q1
  obtain ⟨v1, v2, rfl, t1, t2⟩ := vals2 r1
  cases t1
  cases t2
  obtain ⟨la, ra, pa, _⟩ := I1.tuple qa
  obtain ⟨lb, rb, pb, _⟩ := I1.list qb
  obtain ⟨ob, hob, _⟩ := id pa
  have lt1 : a < s1.heap.objs.size := Heap.lt_size hob
  have lt2 : b < s1.heap.objs.size := pb.lt
  refine zip_begins2 (begins_tuple a la.toArray) (begins_list b lb.toArray) pa pb.isList fun h' hz hTI hTO g1 g2 hsz hk => wpAny_pyIter_zip hz ?_
  have J : Inv X pins σ H1 { s1 with heap := h' } := I1.kept (t' := s1.toks) hk
  have S := zip_sep2 (N := s1.heap.objs.size) (fp1 := [a]) (fp2 := [b]) (fun c hc => by rw [List.mem_singleton.mp hc]; exact lt1) (fun c hc => by rw [List.mem_singleton.mp hc]; exact lt2)
  refine ⟨_, _, _, _, H1, rfl, J, turn_TL S (Nat.ne_of_lt lt1) (Nat.ne_of_lt (Nat.lt_succ_of_lt lt2)), ⟨hz, hTI, ⟨_, _, hTO⟩, ⟨_, g1, rfl, rfl⟩, ⟨_, g2, rfl, rfl⟩⟩, fun c hcm => ?_, q⟩
  have le : s1.heap.objs.size ≤ c := by
    rcases (by simpa using hcm : c = s1.heap.objs.size + 4 ∨ c = s1.heap.objs.size + 2 ∨ c = s1.heap.objs.size + 3 ∨ c = s1.heap.objs.size ∨ c = s1.heap.objs.size + 1) with e | e | e | e | e <;> (rw [e]; first | exact Nat.le_refl _ | exact Nat.le_add_right _ _)
  exact I1.fpOk le (I1.hok.fresh le)
theorem walk_TLm {K : PySem.W.Frag} {a b : Addr} {us ws : List V} {n : Nat} (hn : min us.length ws.length = n) : Walk (ItTL K a b) n (fun H => SqT K H a us ∧ SqL K H b ws) (YPair (fun i => us[i]?) (fun i => ws[i]?)) := by
  refine ⟨fun i H hi q => ⟨us, ws, us[i]'(by omega), ws[i]'(by omega), q.1, q.2, List.getElem?_eq_getElem _, List.getElem?_eq_getElem _⟩, fun H q => ⟨us, ws, q.1, q.2, hn⟩, fun i H v H' hi q y => ?_⟩
  obtain ⟨T, x, z, h1, h2, h3, h4, h5⟩ := y
  exact ⟨T, x, z, h1, h2, h3, h4 us q.1, h5 ws q.2⟩
theorem walk_TL {K : PySem.W.Frag} {a b : Addr} {us ws : List V} {n : Nat} (hx : us.length = n) (hy : ws.length = n) : Walk (ItTL K a b) n (fun H => SqT K H a us ∧ SqL K H b ws) (YPair (fun i => us[i]?) (fun i => ws[i]?)) := walk_TLm (by omega)
theorem tupK {X : Cx} (K : PySem.W.Frag) {a : Expr} {ta : TE} {p pos : Pos} (hg : Gl X "tuple") (hm : X.mg "tuple" = none) (ha : PE X a ta) (na : starEach [a] X.env = (false, eval a X.env) :: starEach [] X.env := by rfl) (h : X.K = K := by rfl) :
    PE X (.Call (.Name "tuple" p) [a] [] pos) (tThen ta (kTup K)) := by
  subst h
  exact pe_tupleOf hg hm ha na
/-! ### max of a tuple of ints -/
def rMaxT (K : PySem.W.Frag) : List V → Hp → VK → Prop := fun vs H Q => ∃ (a : Addr) (n : Int) (ns : List Int), vs = [V.ref a] ∧ SqT K H a ((n :: ns).map V.int) ∧ Q (.int (ns.foldl max n)) H
theorem depth_ints : ∀ ns : List Int, PyData.depthAll (ns.map PyData.int) = 0
  | [] => rfl
  | n :: r => by
    rw [List.map_cons]
    show max (PyData.depth (.int n)) (PyData.depthAll (r.map PyData.int)) = 0
    rw [depth_ints r]
    rfl
theorem cr_maxT {X : Cx} (hc : X.calm = true) (hu : X.A.units + 64 < cLine) : CallR X (.builtin "max") (rMaxT X.K) := by
  intro pins s σ H vs us Q I r h
  obtain ⟨a, n, ns, rfl, hs, q⟩ := h
  obtain ⟨its, rv, p, _⟩ := I.tuple hs
  rw [Vals.ref1 r]
  obtain ⟨as, hr⟩ := Dp.readsAll I ((n :: ns).map PyData.int) _ its (dp_ints (n :: ns)) rv
  rw [List.map_cons] at hr
  have al : PySem.W.AlikeAll (PyData.int n :: ns.map PyData.int) := ⟨fun x hx y hy => by
    rw [← List.map_cons (f := PyData.int)] at hx hy
    obtain ⟨i, _, rfl⟩ := List.mem_map.mp hx
    obtain ⟨j, _, rfl⟩ := List.mem_map.mp hy
    rfl, fun x hx => by
    rw [← List.map_cons (f := PyData.int)] at hx
    obtain ⟨i, _, rfl⟩ := List.mem_map.mp hx
    exact fun e => nomatch e⟩
  refine PySem.W.max_tuple_data (I.ok.hd hc) p (by simpa using hr) al (by rw [← List.map_cons (f := PyData.int), depth_ints]; omega) fun i v h' tk bs _ rd hk => ?_
  rw [PySem.W.maxD_ints] at rd
  cases rd
  exact ⟨.int _, H, I.kept hk, ⟨_, rfl⟩, q⟩
theorem foldl_max_spec : ∀ (ns : List Int) (n : Int), (n ≤ ns.foldl max n ∧ ∀ x ∈ ns, x ≤ ns.foldl max n) ∧ (ns.foldl max n = n ∨ ns.foldl max n ∈ ns)
  | [], n => ⟨⟨Int.le_refl _, fun _ h => absurd h (by simp)⟩, .inl rfl⟩
  | k :: r, n => by
    rw [List.foldl_cons]
    obtain ⟨⟨h1, h2⟩, h3⟩ := foldl_max_spec r (max n k)
    have e1 : n ≤ max n k := Int.le_max_left ..
    have e2 : k ≤ max n k := Int.le_max_right ..
    refine ⟨⟨Int.le_trans e1 h1, fun x hx => ?_⟩, ?_⟩
    · rcases List.mem_cons.mp hx with rfl | hx
      · exact Int.le_trans e2 h1
      · exact h2 x hx
    · rcases h3 with h3 | h3
      · rw [h3]
        by_cases c : n ≤ k
        · rw [Int.max_eq_right c]
          exact .inr (by simp)
        · rw [Int.max_eq_left (by omega)]
          exact .inl rfl
      · exact .inr (List.mem_cons_of_mem _ h3)
/-! ### gains -/
def dotI (ss ps : List Int) : Int := (List.zipWith (· * ·) ss ps).sum
def gainI (ss ps : List Int) (p : Int) : Int := ss.sum * p - dotI ss ps
def rightI (ss ps : List Int) (g : Int) : Bool := (List.zipWith (fun s p => (s == 0 || p == g)) ss ps).all id
theorem dot_lin (c d : Int) : ∀ ss ps : List Int, ss.length = ps.length → dotI ss (ps.map fun p => c * p - d) = c * dotI ss ps - d * ss.sum
  | [], [], _ => by simp [dotI]
  | s :: ss, p :: ps, h => by
    have ih := dot_lin c d ss ps (by simpa using h)
    unfold dotI at ih ⊢
    rw [List.map_cons, List.zipWith_cons_cons, List.zipWith_cons_cons, List.sum_cons, List.sum_cons, List.sum_cons, ih, Int.mul_add, Int.mul_add]
    have e1 : s * (c * p - d) = c * (s * p) - d * s := by rw [Int.mul_sub, Int.mul_left_comm, Int.mul_comm s d]
    omega
theorem gains_nought (ss ps : List Int) (h : ss.length = ps.length) : dotI ss (ps.map (gainI ss ps)) = 0 := by
  show dotI ss (ps.map fun p => ss.sum * p - dotI ss ps) = 0
  rw [dot_lin _ _ _ _ h, Int.mul_comm]
  omega
theorem dot_gap (g : Int) : ∀ ss ps : List Int, ss.length = ps.length → (∀ s ∈ ss, 0 ≤ s) → (∀ p ∈ ps, p ≤ g) → dotI ss ps ≤ ss.sum * g ∧ (dotI ss ps = ss.sum * g ↔ rightI ss ps g = true)
  | [], [], _, _, _ => by simp [dotI, rightI]
  | s :: ss, p :: ps, h, hs, hp => by
    obtain ⟨i1, i2⟩ := dot_gap g ss ps (by simpa using h) (fun x hx => hs x (List.mem_cons_of_mem _ hx)) (fun x hx => hp x (List.mem_cons_of_mem _ hx))
    have s0 := hs s (by simp)
    have p0 := hp p (by simp)
    have e : (List.zipWith (fun x1 x2 => x1 * x2) (s :: ss) (p :: ps)).sum = s * p + dotI ss ps := by
      rw [List.zipWith_cons_cons, List.sum_cons]
      rfl
    have er : rightI (s :: ss) (p :: ps) g = ((s == 0 || p == g) && rightI ss ps g) := rfl
    have m : s * p ≤ s * g := Int.mul_le_mul_of_nonneg_left p0 s0
    have es : (s :: ss).sum * g = s * g + ss.sum * g := by rw [List.sum_cons, Int.add_mul]
    have ed : dotI (s :: ss) (p :: ps) = s * p + dotI ss ps := e
    rw [es, ed, er]
    refine ⟨by omega, ?_⟩
    have eq : s * p = s * g ↔ (s == 0 || p == g) = true := by
      rw [Bool.or_eq_true, beq_iff_eq, beq_iff_eq]
      constructor
      · intro q
        by_cases z : s = 0
        · exact .inl z
        · exact .inr (Int.eq_of_mul_eq_mul_left z q)
      · rintro (rfl | rfl)
        · rw [Int.zero_mul, Int.zero_mul]
        · rfl
    rw [Bool.and_eq_true, ← i2, ← eq]
    omega
/-- who is right: just where the greatest gain is at most 0 -/
theorem right_iff {ss ps : List Int} {g m : Int} (h : ss.length = ps.length) (hs : ∀ s ∈ ss, 0 ≤ s) (h0 : 0 < ss.sum) (hg : g ∈ ps) (hp : ∀ p ∈ ps, p ≤ g) (hm : m ∈ ps.map (gainI ss ps)) (hx : ∀ y ∈ ps.map (gainI ss ps), y ≤ m) : rightI ss ps g = decide (m ≤ 0) := by
  obtain ⟨g1, g2⟩ := dot_gap g ss ps h hs hp
  obtain ⟨p, hpm, rfl⟩ := List.mem_map.mp hm
  have k1 := hx (gainI ss ps g) (List.mem_map_of_mem hg)
  have k2 : ss.sum * p ≤ ss.sum * g := Int.mul_le_mul_of_nonneg_left (hp p hpm) (Int.le_of_lt h0)
  unfold gainI at k1 ⊢
  rw [Bool.eq_iff_iff, ← g2, decide_eq_true_iff]
  constructor
  · intro e
    omega
  · intro e
    omega
end NG

namespace NG
open PySem PySem.Spec PyProof.Rows L2
/-! ### rough numbers -/
def bl (n : Nat) : Nat := if n = 0 then 0 else n.log2 + 1
theorem bl_eq (n : Nat) : Builtin.Int.intBits (n : Int) = bl n := by
  unfold Builtin.Int.intBits bl
  rw [Int.natAbs_natCast]
  by_cases h : n = 0
  · subst h
    rfl
  · rw [if_neg h, if_neg (by simpa using h)]
theorem lt_bl (n : Nat) : n < 2 ^ bl n := by
  unfold bl
  by_cases h : n = 0
  · subst h
    decide
  · rw [if_neg h]
    exact Nat.lt_log2_self
theorem bl_le {n k : Nat} (h : n < 2 ^ k) : bl n ≤ k := by
  unfold bl
  by_cases h0 : n = 0
  · rw [if_pos h0]
    exact Nat.zero_le _
  · rw [if_neg h0]
    exact (Nat.log2_lt h0).mpr h
theorem pow_bl {n : Nat} (h : n ≠ 0) : 2 ^ (bl n - 1) ≤ n ∧ 1 ≤ bl n := by
  unfold bl
  rw [if_neg h]
  exact ⟨Nat.log2_self_le h, by omega⟩
def cd (h s : Nat) : Nat := (h + 2 ^ s - 1) / 2 ^ s
theorem cd_cast (h s : Nat) : -(-(h : Int) / 2 ^ s) = ((cd h s : Nat) : Int) := by
  have hp : 0 < 2 ^ s := Nat.pow_pos (by decide)
  have e : (2 : Int) ^ s = ((2 ^ s : Nat) : Int) := by push_cast; rfl
  rw [e]
  unfold cd
  generalize 2 ^ s = p at hp
  have d1 := Nat.div_add_mod (h + p - 1) p
  have d2 := Nat.mod_lt (h + p - 1) hp
  generalize (h + p - 1) / p = q at *
  generalize (h + p - 1) % p = r at *
  have key : -(h : Int) / (p : Int) = -(q : Int) := by
    have a1 : -(q : Int) ≤ -(h : Int) / (p : Int) := by
      rw [Int.le_ediv_iff_mul_le (by omega)]
      have : (h : Int) ≤ (q : Int) * (p : Int) := by
        have z : h ≤ p * q := by omega
        have z2 : ((p * q : Nat) : Int) = (q : Int) * (p : Int) := by push_cast; exact Int.mul_comm _ _
        omega
      rw [Int.neg_mul]
      omega
    have a2 : -(h : Int) / (p : Int) < -(q : Int) + 1 := by
      rw [Int.ediv_lt_iff_lt_mul (by omega), Int.add_mul, Int.neg_mul, Int.one_mul]
      have z2 : ((p * q : Nat) : Int) = (q : Int) * (p : Int) := by push_cast; exact Int.mul_comm _ _
      omega
    omega
  rw [key]
  omega
abbrev Rg := Nat × Nat × Nat
structure Rgh (L bits x : Nat) (r : Rg) : Prop where
  lo : r.1 * 2 ^ r.2.2 ≤ x
  hi : x ≤ r.2.1 * 2 ^ r.2.2
  le : r.1 ≤ r.2.1
  sz : r.2.1 ≤ 2 ^ bits
  ex : L ≤ bits → r = (x, x, 0)
def trimR (lo hi sh bits : Nat) : Rg := (lo / 2 ^ (bl hi - bits), cd hi (bl hi - bits), sh + (bl hi - bits))
theorem trim_ok {L bits x lo hi sh : Nat} (h1 : lo * 2 ^ sh ≤ x) (h2 : x ≤ hi * 2 ^ sh) (h3 : lo ≤ hi) (hx : x < 2 ^ L) (ex : L ≤ bits → lo = x ∧ hi = x ∧ sh = 0) : Rgh L bits x (trimR lo hi sh bits) := by
  unfold trimR
  have hb := lt_bl hi
  generalize hs : bl hi - bits = s
  have hp : 0 < 2 ^ s := Nat.pow_pos (by decide)
  have d1 := Nat.div_add_mod (hi + 2 ^ s - 1) (2 ^ s)
  have d2 := Nat.mod_lt (hi + 2 ^ s - 1) hp
  have hc : hi ≤ cd hi s * 2 ^ s := by
    unfold cd
    rw [Nat.mul_comm]
    omega
  refine ⟨?_, ?_, ?_, ?_, ?_⟩
  · show lo / 2 ^ s * 2 ^ (sh + s) ≤ x
    rw [Nat.add_comm, Nat.pow_add, ← Nat.mul_assoc]
    exact Nat.le_trans (Nat.mul_le_mul_right _ (Nat.div_mul_le_self lo (2 ^ s))) h1
  · show x ≤ cd hi s * 2 ^ (sh + s)
    rw [Nat.add_comm, Nat.pow_add, ← Nat.mul_assoc]
    exact Nat.le_trans h2 (Nat.mul_le_mul_right _ hc)
  · show lo / 2 ^ s ≤ cd hi s
    exact Nat.div_le_div_right (by omega)
  · show cd hi s ≤ 2 ^ bits
    have : hi < 2 ^ bits * 2 ^ s := by
      rw [← Nat.pow_add]
      exact Nat.lt_of_lt_of_le hb (Nat.pow_le_pow_right (by decide) (by omega))
    unfold cd
    rw [← Nat.lt_succ_iff, Nat.div_lt_iff_lt_mul hp, Nat.succ_mul]
    omega
  · intro hL
    obtain ⟨rfl, rfl, rfl⟩ := ex hL
    have := bl_le hx
    have e0 : s = 0 := by omega
    subst e0
    unfold cd
    simp
def timesR (a b : Rg) (bits : Nat) : Rg := trimR (a.1 * b.1) (a.2.1 * b.2.1) (a.2.2 + b.2.2) bits
theorem times_ok {L bits x y : Nat} {a b : Rg} (ha : Rgh L bits x a) (hb : Rgh L bits y b) (h : x * y < 2 ^ L) : Rgh L bits (x * y) (timesR a b bits) := by
  refine trim_ok ?_ ?_ (Nat.mul_le_mul ha.le hb.le) h ?_
  · rw [Nat.pow_add, show a.1 * b.1 * (2 ^ a.2.2 * 2 ^ b.2.2) = (a.1 * 2 ^ a.2.2) * (b.1 * 2 ^ b.2.2) by grind]
    exact Nat.mul_le_mul ha.lo hb.lo
  · rw [Nat.pow_add, show a.2.1 * b.2.1 * (2 ^ a.2.2 * 2 ^ b.2.2) = (a.2.1 * 2 ^ a.2.2) * (b.2.1 * 2 ^ b.2.2) by grind]
    exact Nat.mul_le_mul ha.hi hb.hi
  · intro hL
    rw [ha.ex hL, hb.ex hL]
    exact ⟨rfl, rfl, rfl⟩
theorem one_ok {L bits : Nat} : Rgh L bits 1 (1, 1, 0) := ⟨by decide, by decide, by decide, Nat.pow_pos (by decide), fun _ => rfl⟩
theorem plain_ok {L bits x : Nat} (h : x < 2 ^ L) : Rgh L bits x (trimR x x 0 bits) := trim_ok (by simp) (by simp) (Nat.le_refl _) h fun _ => ⟨rfl, rfl, rfl⟩
/-- n * 2 ^ s > m * 2 ^ t -/
def abv (n s m t : Nat) : Bool := decide (m * 2 ^ t < n * 2 ^ s)
theorem abv_zero {n s m t : Nat} (h : n = 0 ∨ m = 0) : abv n s m t = decide (m < n) := by
  unfold abv
  have hs : 0 < 2 ^ s := Nat.pow_pos (by decide)
  rcases h with rfl | rfl
  · rw [decide_eq_false (by omega), decide_eq_false (by omega)]
  · by_cases hn : n = 0
    · subst hn
      rw [decide_eq_false (by omega), decide_eq_false (by omega)]
    · have : 0 < n * 2 ^ s := Nat.mul_pos (by omega) hs
      rw [decide_eq_true (by omega), decide_eq_true (by omega)]
theorem abv_size {n s m t : Nat} (hn : n ≠ 0) (hm : m ≠ 0) (h : bl n + s ≠ bl m + t) : abv n s m t = decide (bl m + t < bl n + s) := by
  have key : ∀ {n s m t : Nat}, n ≠ 0 → bl m + t < bl n + s → m * 2 ^ t < n * 2 ^ s := fun {n s m t} hn h => by
    have h1 := lt_bl m
    obtain ⟨h2, h3⟩ := pow_bl hn
    have a1 : m * 2 ^ t < 2 ^ (bl m + t) := by
      rw [Nat.pow_add]
      exact (Nat.mul_lt_mul_right (Nat.pow_pos (by decide))).mpr h1
    have a2 : 2 ^ (bl n - 1 + s) ≤ n * 2 ^ s := by
      rw [Nat.pow_add]
      exact Nat.mul_le_mul_right _ h2
    have a3 : (2 : Nat) ^ (bl m + t) ≤ 2 ^ (bl n - 1 + s) := Nat.pow_le_pow_right (by decide) (by omega)
    omega
  unfold abv
  by_cases c : bl m + t < bl n + s
  · rw [decide_eq_true (key hn c), decide_eq_true c]
  · have := key (n := m) (s := t) (m := n) (t := s) hm (by omega)
    rw [decide_eq_false (by omega), decide_eq_false c]
theorem abv_shift {n s m t : Nat} : abv n s m t = decide (m * 2 ^ (t - min s t) < n * 2 ^ (s - min s t)) := by
  unfold abv
  have e : ∀ a k l : Nat, l ≤ k → a * 2 ^ k = a * 2 ^ (k - l) * 2 ^ l := fun a k l h => by
    rw [Nat.mul_assoc, ← Nat.pow_add, Nat.sub_add_cancel h]
  rw [e m t (min s t) (Nat.min_le_right _ _), e n s (min s t) (Nat.min_le_left _ _)]
  have hp : 0 < 2 ^ min s t := Nat.pow_pos (by decide)
  rw [decide_eq_decide]
  exact Nat.mul_lt_mul_right hp
def cmpR (a b : Rg) : Int := if abv a.1 a.2.2 b.2.1 b.2.2 = true then 1 else if abv a.2.1 a.2.2 b.1 b.2.2 = true then 0 else -1
theorem cmp_ok {L bits x y : Nat} {a b : Rg} (ha : Rgh L bits x a) (hb : Rgh L bits y b) : (cmpR a b = 1 ∧ y < x) ∨ (cmpR a b = -1 ∧ x ≤ y) ∨ (cmpR a b = 0 ∧ bits < L) := by
  unfold cmpR
  by_cases c : abv a.1 a.2.2 b.2.1 b.2.2 = true
  · rw [if_pos c]
    unfold abv at c
    have c := of_decide_eq_true c
    have := ha.lo
    have := hb.hi
    exact .inl ⟨rfl, by omega⟩
  · rw [if_neg c]
    by_cases d : abv a.2.1 a.2.2 b.1 b.2.2 = true
    · rw [if_pos d]
      refine .inr (.inr ⟨rfl, ?_⟩)
      by_cases hL : L ≤ bits
      · rw [ha.ex hL, hb.ex hL] at c d
        exact absurd d c
      · omega
    · rw [if_neg d]
      unfold abv at d
      have d : ¬ (b.1 * 2 ^ b.2.2 < a.2.1 * 2 ^ a.2.2) := fun z => d (decide_eq_true z)
      have := ha.hi
      have := hb.lo
      exact .inr (.inl ⟨rfl, by omega⟩)

/-! ### the greatest off -/
def tkN (far days w j : Nat) : Nat := (500 + far) ^ j * (500 - far) ^ (2 * days - j) * (w * w)
def gvN (days held : Nat) : Nat := 500 ^ (2 * days) * (held * held)
def bornN (far days w held j : Nat) : Bool := decide (tkN far days w j ≤ gvN days held)
theorem tk_up {far days w j : Nat} (h : j < 2 * days) : tkN far days w j ≤ tkN far days w (j + 1) := by
  unfold tkN
  refine Nat.mul_le_mul_right _ ?_
  rw [show 2 * days - j = 2 * days - (j + 1) + 1 by omega, Nat.pow_succ, Nat.pow_succ]
  rw [show (500 + far) ^ j * ((500 - far) ^ (2 * days - (j + 1)) * (500 - far)) = (500 + far) ^ j * (500 - far) * (500 - far) ^ (2 * days - (j + 1)) by grind]
  exact Nat.mul_le_mul_right _ (Nat.mul_le_mul_left _ (by omega))
theorem tk_mono {far days w i : Nat} : ∀ {k : Nat}, i + k ≤ 2 * days → tkN far days w i ≤ tkN far days w (i + k)
  | 0, _ => Nat.le_refl _
  | k + 1, h => Nat.le_trans (tk_mono (k := k) (by omega)) (tk_up (by omega))
theorem born_down {far days w held i j : Nat} (hij : i ≤ j) (hj : j ≤ 2 * days) (h : bornN far days w held j = true) : bornN far days w held i = true := by
  unfold bornN at *
  have h := of_decide_eq_true h
  have := tk_mono (far := far) (days := days) (w := w) (i := i) (k := j - i) (by omega)
  rw [show i + (j - i) = j by omega] at this
  exact decide_eq_true (by omega)
def lastJ (P : Nat → Bool) : Nat → Option Nat
  | 0 => none
  | n + 1 => if P n = true then some n else lastJ P n
theorem lastJ_none {P : Nat → Bool} : ∀ {n : Nat}, (∀ j, j < n → P j = false) → lastJ P n = none
  | 0, _ => rfl
  | n + 1, h => by
    unfold lastJ
    rw [if_neg (by rw [h n (by omega)]; exact Bool.false_ne_true)]
    exact lastJ_none fun j hj => h j (by omega)
theorem lastJ_some {P : Nat → Bool} {l : Nat} (hl : P l = true) : ∀ {n : Nat}, l < n → (∀ j, l < j → j < n → P j = false) → lastJ P n = some l
  | 0, h, _ => by omega
  | n + 1, h, hj => by
    unfold lastJ
    by_cases e : l = n
    · subst e
      rw [if_pos hl]
    · rw [if_neg (by rw [hj n (by omega) (by omega)]; exact Bool.false_ne_true)]
      exact lastJ_some hl (by omega) fun j h1 h2 => hj j h1 (by omega)
def moI (far days w held : Nat) : Option Nat := lastJ (bornN far days w held) (2 * days + 1)
def moV (days : Nat) : Option Nat → V
  | none => .non
  | some j => .int ((j : Int) - (days : Int))
theorem mo_none {far days w held : Nat} (h : bornN far days w held 0 = false) : moI far days w held = none := lastJ_none fun j hj => by
  by_cases c : bornN far days w held j = true
  · rw [born_down (Nat.zero_le j) (by omega) c] at h
    cases h
  · simpa using c
theorem mo_some {far days w held l : Nat} (hl : l ≤ 2 * days) (h : bornN far days w held l = true) (hn : l = 2 * days ∨ bornN far days w held (l + 1) = false) : moI far days w held = some l := by
  refine lastJ_some h (by omega) fun j h1 h2 => ?_
  rcases hn with e | e
  · omega
  · by_cases c : bornN far days w held j = true
    · rw [born_down (i := l + 1) (by omega) (by omega) c] at e
      cases e
    · simpa using c
/-! ### sizes -/
theorem pow_size {b e k : Nat} (hb : b < 2 ^ k) : b ^ e ≤ 2 ^ (k * e) := by
  rw [Nat.pow_mul]
  exact Nat.pow_le_pow_left (Nat.le_of_lt hb) e
def LL : Nat := 25000
theorem pw_size {b e : Nat} (hb : b < 1024) (he : e ≤ 2000) : b ^ e ≤ 2 ^ 20000 := by
  have h := pow_size (b := b) (e := e) (k := 10) hb
  exact Nat.le_trans h (Nat.pow_le_pow_right (by decide) (by omega))
theorem size_lt {a b : Nat} (h : a < b) : (2 : Nat) ^ a < 2 ^ b := Nat.pow_lt_pow_right (by decide) h
theorem pw_LL {b e : Nat} (hb : b < 1024) (he : e ≤ 2000) : b ^ e < 2 ^ LL := Nat.lt_of_le_of_lt (pw_size hb he) (size_lt (by decide))

/-! ### on the heap -/
def RgAt (K : PySem.W.Frag) (H : Hp) (r : Rg) (v : V) : Prop := ∃ p, v = .ref p ∧ SqT K H p [.int (r.1 : Int), .int (r.2.1 : Int), .int (r.2.2 : Int)]
theorem RgAt.same {K : PySem.W.Frag} {H H' : Hp} {x : Rg} {v : V} (r : RgAt K H x v) (s : Same H H') : RgAt K H' x v := by
  obtain ⟨p, e, q⟩ := r
  exact ⟨p, e, same_sqt s q⟩
def spTrim (K : PySem.W.Frag) : Sp := fun vs H Q _ => ∃ lo hi sh bits : Nat, vs = [.int (lo : Int), .int (hi : Int), .int (sh : Int), .int (bits : Int)] ∧ ∀ H' v, Same H H' → RgAt K H' (trimR lo hi sh bits) v → Q v H'
def spTimes (K : PySem.W.Frag) : Sp := fun vs H Q _ => ∃ (u v : V) (a b : Rg) (bits : Nat), vs = [u, v, .int (bits : Int)] ∧ RgAt K H a u ∧ RgAt K H b v ∧ bits ≤ 200000 ∧ a.1 ≤ a.2.1 ∧ b.1 ≤ b.2.1 ∧ a.2.1 ≤ 2 ^ bits ∧ b.2.1 ≤ 2 ^ bits ∧ ∀ H' v, Same H H' → RgAt K H' (timesR a b bits) v → Q v H'
def spRPower (K : PySem.W.Frag) : Sp := fun vs H Q _ => ∃ b e bits : Nat, vs = [.int (b : Int), .int (e : Int), .int (bits : Int)] ∧ b < 1024 ∧ e ≤ 1000 ∧ bits ≤ 200000 ∧ ∀ H' v r, Same H H' → RgAt K H' r v → Rgh LL bits (b ^ e) r → Q v H'
def spAbove : Sp := fun vs H Q _ => ∃ n s m t : Nat, vs = [.int (n : Int), .int (s : Int), .int (m : Int), .int (t : Int)] ∧ n < 2 ^ 300000 ∧ m < 2 ^ 300000 ∧ Q (.bl (abv n s m t)) H
def spCompared (K : PySem.W.Frag) : Sp := fun vs H Q _ => ∃ (u v : V) (a b : Rg), vs = [u, v] ∧ RgAt K H a u ∧ RgAt K H b v ∧ a.1 ≤ a.2.1 ∧ b.1 ≤ b.2.1 ∧ a.2.1 < 2 ^ 300000 ∧ b.2.1 < 2 ^ 300000 ∧ Q (.int (cmpR a b)) H
structure OffOk (far days w held : Nat) : Prop where
  f : far ≤ 500
  d : days ≤ 500
  w : w < 2 ^ 64
  h : held < 2 ^ 64
def spWithin (K : PySem.W.Frag) : Sp := fun vs H Q _ => ∃ far days w held j bits : Nat, vs = [.int (far : Int), .int (days : Int), .int (w : Int), .int (held : Int), .int ((j : Int) - (days : Int)), .int (bits : Int)] ∧ OffOk far days w held ∧ j ≤ 2 * days ∧ bits ≤ 200000 ∧
  ∀ H' c, Same H H' → ((c = 1 ∧ bornN far days w held j = false) ∨ (c = -1 ∧ bornN far days w held j = true) ∨ (c = 0 ∧ bits < LL)) → Q (.int c) H'
def spSureIn (K : PySem.W.Frag) : Sp := fun vs H Q _ => ∃ far days w held j : Nat, vs = [.int (far : Int), .int (days : Int), .int (w : Int), .int (held : Int), .int ((j : Int) - (days : Int))] ∧ OffOk far days w held ∧ j ≤ 2 * days ∧
  ∀ H', Same H H' → Q (.bl (bornN far days w held j)) H'
def spMostOff (K : PySem.W.Frag) : Sp := fun vs H Q _ => ∃ far days w held : Nat, vs = [.int (far : Int), .int (days : Int), .int (w : Int), .int (held : Int)] ∧ OffOk far days w held ∧ ∀ H', Same H H' → Q (moV days (moI far days w held)) H'
end NG

namespace NG
open PySem PySem.Spec PyProof.Rows L2
/-! ### comprehensions of two for -/
theorem lc2_tup {K : PySem.W.Frag} {a : Addr} {xs : List V} {g : TG} {tt : TT} {B : L2.St → Hp → (Hp → Prop) → Prop} {vs : List Nat} {σ : L2.St} {H1 : Hp} {D : Addr} {Qd : Hp → Prop} (Pv : Nat → Hp → Prop) (h0 : Pv 0 (upd H1 D (.lst []))) (hl : ∀ i H, i ≤ xs.length → Pv i H → SqT K H a xs)
    (hs : ∀ i x H, xs[i]? = some x → Pv i H → g x (wipe σ vs) H fun σ2 H2 => wipe σ2 vs = wipe σ vs ∧ tt σ2 H2 fun b H3 => if b = true then B σ2 H3 (Pv (i + 1)) else Pv (i + 1) H3) (hd : ∀ H, Pv xs.length H → Qd H) :
    ∃ W : Nat → Nat → Hp → Prop, (∃ m, W 0 m (upd H1 D (.lst []))) ∧ ∀ i m H, W i m H →
      ((Itt K a).stop i H ∧ Qd H) ∨ ((Itt K a).go i H ∧ ∃ Nx : Hp → Prop, (∀ H', Nx H' → ∃ m', m' < m ∧ W (i + 1) m' H') ∧ ∀ x H', (Itt K a).yld i H x H' → g x (wipe σ vs) H' fun σ2 H2 => wipe σ2 vs = wipe σ vs ∧ tt σ2 H2 fun b H3 =>
        if b = true then B σ2 H3 Nx else Nx H3) := by
  refine ⟨fun i m H => m = xs.length - i ∧ i ≤ xs.length ∧ Pv i H, ⟨xs.length, by simp, Nat.zero_le _, h0⟩, ?_⟩
  rintro i m H ⟨rfl, hi, p⟩
  have q := hl i H hi p
  by_cases hlt : i < xs.length
  · refine .inr ⟨⟨xs, xs[i], q, by simp [hlt]⟩, Pv (i + 1), fun H' p' => ⟨xs.length - (i + 1), by omega, rfl, hlt, p'⟩, fun x H' y => ?_⟩
    obtain ⟨e, y⟩ := y
    subst e
    exact hs i x _ (y xs q) p
  · have e : i = xs.length := by omega
    subst e
    exact .inl ⟨⟨xs, q, Nat.le_refl _⟩, hd H p⟩
theorem in_tup {K : PySem.W.Frag} {a : Addr} {xs : List V} {g : TG} {tt : TT} {te : TE} {vs : List Nat} {σ : L2.St} {H1 : Hp} {D : Addr} {Qd : Hp → Prop} (Pv : Nat → Hp → Prop) (h0 : Pv 0 H1) (hl : ∀ i H, i ≤ xs.length → Pv i H → SqT K H a xs)
    (hs : ∀ i x H, xs[i]? = some x → Pv i H → g x (wipe σ vs) H fun σ2 H2 => wipe σ2 vs = wipe σ vs ∧ tt σ2 H2 fun b H3 =>
      if b = true then te σ2 H3 fun y H4 => ∃ acc, H4 D = some (.lst acc) ∧ acc.length < sizeLine ∧ Pv (i + 1) (upd H4 D (.lst (acc ++ [y]))) else Pv (i + 1) H3) (hd : ∀ H, Pv xs.length H → Qd H) :
    ∃ W : Nat → Nat → Hp → Prop, (∃ m, W 0 m H1) ∧ ∀ i m H, W i m H →
      ((Itt K a).stop i H ∧ Qd H) ∨ ((Itt K a).go i H ∧ ∃ Nx : Hp → Prop, (∀ H', Nx H' → ∃ m', m' < m ∧ W (i + 1) m' H') ∧ ∀ x H', (Itt K a).yld i H x H' → g x (wipe σ vs) H' fun σ2 H2 => wipe σ2 vs = wipe σ vs ∧ tt σ2 H2 fun b H3 =>
        if b = true then te σ2 H3 fun y H4 => ∃ acc, H4 D = some (.lst acc) ∧ acc.length < sizeLine ∧ Nx (upd H4 D (.lst (acc ++ [y]))) else Nx H3) := by
  refine ⟨fun i m H => m = xs.length - i ∧ i ≤ xs.length ∧ Pv i H, ⟨xs.length, by simp, Nat.zero_le _, h0⟩, ?_⟩
  rintro i m H ⟨rfl, hi, p⟩
  have q := hl i H hi p
  by_cases hlt : i < xs.length
  · refine .inr ⟨⟨xs, xs[i], q, by simp [hlt]⟩, Pv (i + 1), fun H' p' => ⟨xs.length - (i + 1), by omega, rfl, hlt, p'⟩, fun x H' y => ?_⟩
    obtain ⟨e, y⟩ := y
    subst e
    exact hs i x _ (y xs q) p
  · have e : i = xs.length := by omega
    subst e
    exact .inl ⟨⟨xs, q, Nat.le_refl _⟩, hd H p⟩
/-! ### max of three ints -/
theorem cr_max3 {X : Cx} (hc : X.calm = true) : CallR X (.builtin "max") (fun xs H Q => ∃ i j k : Int, xs = [.int i, .int j, .int k] ∧ Q (.int (mx (mx i j) k)) H) := by
  intro pins s σ H xs us Q I r h
  obtain ⟨i, j, k, rfl, q⟩ := h
  refine call_max3Nu hc pins s σ H _ us Q I r ⟨_, _, _, _, rfl, ?_, q⟩
  have e2 : ∀ a b : Int, nuMax2 (.int a) (.int b) = some (.int (mx a b)) := fun a b => by
    show (some (decide (a < b))).map (fun c => if c = true then V.int b else V.int a) = _
    unfold mx
    by_cases c : a < b
    · rw [decide_eq_true c, if_pos c]
      rfl
    · rw [decide_eq_false c, if_neg c]
      rfl
  show (nuMax2 (.int i) (.int j)).bind _ = _
  rw [e2]
  show nuMax2 (.int (mx i j)) (.int k) = _
  rw [e2]
/-! ### bounds of doubters -/
def farS (a : Int) (e : Ex) : Int := mx (mx a (ab (spn e).1)) (ab (spn e).2)
def farI (es : List Ex) : Int := es.foldl farS 0
def endsI (es : List Ex) : List Int := es.flatMap fun e => [ab (spn e).1, ab (spn e).2]
theorem ab_nn (x : Int) : 0 ≤ ab x := by unfold ab; split <;> omega
theorem farF_ge : ∀ (es : List Ex) (a : Int), a ≤ es.foldl farS a ∧ ∀ x ∈ endsI es, x ≤ es.foldl farS a
  | [], a => ⟨Int.le_refl _, fun x h => by cases h⟩
  | e :: es, a => by
    obtain ⟨h1, h2⟩ := farF_ge es (farS a e)
    have k1 := le_mx a (ab (spn e).1)
    have k2 := le_mx (mx a (ab (spn e).1)) (ab (spn e).2)
    have k3 : farS a e = mx (mx a (ab (spn e).1)) (ab (spn e).2) := rfl
    refine ⟨?_, fun x hx => ?_⟩
    · show a ≤ es.foldl farS (farS a e)
      omega
    · show x ≤ es.foldl farS (farS a e)
      have hx : x ∈ [ab (spn e).1, ab (spn e).2] ++ endsI es := hx
      rcases List.mem_append.mp hx with hx | hx
      · simp only [List.mem_cons, List.not_mem_nil, or_false] at hx
        rcases hx with rfl | rfl <;> omega
      · exact h2 x hx
theorem farF_or : ∀ (es : List Ex) (a : Int), es.foldl farS a = a ∨ es.foldl farS a ∈ endsI es
  | [], a => .inl rfl
  | e :: es, a => by
    show es.foldl farS (farS a e) = a ∨ es.foldl farS (farS a e) ∈ [ab (spn e).1, ab (spn e).2] ++ endsI es
    rcases farF_or es (farS a e) with h | h
    · rw [h]
      unfold farS
      rcases mx_or (mx a (ab (spn e).1)) (ab (spn e).2) with z | z
      · rw [z]
        rcases mx_or a (ab (spn e).1) with y | y
        · exact .inl y
        · rw [y]
          exact .inr (List.mem_append_left _ (by simp))
      · rw [z]
        exact .inr (List.mem_append_left _ (by simp))
    · exact .inr (List.mem_append_right _ h)
theorem far_max {es : List Ex} {m : Int} (h0 : es ≠ []) (hm : m ∈ endsI es) (hx : ∀ y ∈ endsI es, y ≤ m) : m = farI es := by
  obtain ⟨h1, h2⟩ := farF_ge es 0
  have k := h2 m hm
  have nn : ∀ y ∈ endsI es, 0 ≤ y := fun y hy => by
    obtain ⟨e, _, hy⟩ := List.mem_flatMap.mp hy
    simp only [List.mem_cons, List.not_mem_nil, or_false] at hy
    rcases hy with rfl | rfl <;> exact ab_nn _
  have k2 := nn m hm
  unfold farI
  rcases farF_or es 0 with h | h
  · omega
  · have := hx _ h
    omega
def pw2 : Nat → Int
  | 0 => 1
  | 1 => 2
  | 2 => 4
  | 3 => 8
  | _ => 16
theorem pw2_bnd (s : Nat) : 1 ≤ pw2 s ∧ pw2 s ≤ 16 := by
  match s with
  | 0 => decide
  | 1 => decide
  | 2 => decide
  | 3 => decide
  | _ + 4 => show (1 : Int) ≤ 16 ∧ (16 : Int) ≤ 16; decide
def bndI (D : Dbt) : Int := mx 1 ((farI D.stakes + pw2 D.scale - 1) / pw2 D.scale)
theorem st_ends {many l : Nat} {e : Ex} (h : StOk many l e) : ab (spn e).1 ≤ 500 ∧ ab (spn e).2 ≤ 500 := by
  have k : ∀ {x : Int}, -500 ≤ x → x ≤ 500 → ab x ≤ 500 := fun h1 h2 => by unfold ab; split <;> omega
  rcases h with ⟨c, rfl, h1, h2⟩ | ⟨c, e', rfl, h1, h2, _⟩
  · exact ⟨k h1 h2, k h1 h2⟩
  · have z : ∀ y : Int, -500 ≤ mn c (mx (-c) y) ∧ mn c (mx (-c) y) ≤ 500 := fun y => by
      unfold mn mx
      split <;> split <;> omega
    exact ⟨k (z _).1 (z _).2, k (z _).1 (z _).2⟩
theorem far_500 {many l : Nat} {es : List Ex} (h : ∀ e ∈ es, StOk many l e) : 0 ≤ farI es ∧ farI es ≤ 500 := by
  refine ⟨(farF_ge es 0).1, ?_⟩
  unfold farI
  rcases farF_or es 0 with k | k
  · omega
  · obtain ⟨e, he, hy⟩ := List.mem_flatMap.mp k
    have := st_ends (h e he)
    simp only [List.mem_cons, List.not_mem_nil, or_false] at hy
    rcases hy with hy | hy <;> omega
theorem bnd_500 {many l : Nat} {D : Dbt} (h : ∀ e ∈ D.stakes, StOk many l e) : 1 ≤ bndI D ∧ bndI D ≤ 500 := by
  have h1 := far_500 h
  have h2 := pw2_bnd D.scale
  unfold bndI
  have h3 : (farI D.stakes + pw2 D.scale - 1) / pw2 D.scale ≤ 500 := by
    have : (farI D.stakes + pw2 D.scale - 1) / pw2 D.scale < 501 := by
      rw [Int.ediv_lt_iff_lt_mul (by omega)]
      omega
    omega
  unfold mx
  split <;> omega
end NG

namespace NG
open PySem PySem.Spec PyProof.Rows L2
/-! ### a statement that is never reached -/
theorem ps_dead {X : Cx} {st : Stmt} : PS X st (fun _ _ _ => False) := ⟨fun _ _ _ _ _ _ h => h.elim⟩
/-! ### min of a tuple of ints -/
def rMinT (K : PySem.W.Frag) : List V → Hp → VK → Prop := fun vs H Q => ∃ (a : Addr) (n : Int) (ns : List Int), vs = [V.ref a] ∧ SqT K H a ((n :: ns).map V.int) ∧ Q (.int (ns.foldl min n)) H
theorem cr_minT {X : Cx} (hc : X.calm = true) (hu : X.A.units + 64 < cLine) : CallR X (.builtin "min") (rMinT X.K) := by
  intro pins s σ H vs us Q I r h
  obtain ⟨a, n, ns, rfl, hs, q⟩ := h
  obtain ⟨its, rv, p, _⟩ := I.tuple hs
  rw [Vals.ref1 r]
  obtain ⟨as, hr⟩ := Dp.readsAll I ((n :: ns).map PyData.int) _ its (dp_ints (n :: ns)) rv
  rw [List.map_cons] at hr
  have al : PySem.W.AlikeAll (PyData.int n :: ns.map PyData.int) := ⟨fun x hx y hy => by
    rw [← List.map_cons (f := PyData.int)] at hx hy
    obtain ⟨i, _, rfl⟩ := List.mem_map.mp hx
    obtain ⟨j, _, rfl⟩ := List.mem_map.mp hy
    rfl, fun x hx => by
    rw [← List.map_cons (f := PyData.int)] at hx
    obtain ⟨i, _, rfl⟩ := List.mem_map.mp hx
    exact fun e => nomatch e⟩
  refine PySem.W.min_tuple_data (I.ok.hd hc) p (by simpa using hr) al (by rw [← List.map_cons (f := PyData.int), depth_ints]; omega) fun i v h' tk bs _ rd hk => ?_
  rw [PySem.W.minD_ints] at rd
  cases rd
  exact ⟨.int _, H, I.kept hk, ⟨_, rfl⟩, q⟩
/-! ### days of ones -/
def wsI (ss : List Int) (o : One) : List Int := o.dbt.stakes.map (wo o.regs ss)
def fullI (ss : List Int) (o : One) : Int := 1000 * pw2 o.dbt.scale * ss.sum * ss.sum
def winI (ss : List Int) (j : Nat) (o : One) : Int := ss.sum * (wsI ss o).getD j 0 - dotI ss (wsI ss o)
def alikeI : List Int → Bool
  | [] => true
  | n :: ns => decide (ns.foldl min n = ns.foldl max n)
theorem alike_eq (n : Int) (ns : List Int) : (ns.foldl min n == ns.foldl max n) = alikeI (n :: ns) := by
  show _ = decide (ns.foldl min n = ns.foldl max n)
  rw [Bool.eq_iff_iff]
  simp
def dayO (rg : List Int → Ds → List Int → List Int) (ss : List Int) (j : Nat) (o : One) : One :=
  ⟨o.dbt, rg ss (o.dbt.behinds.getD j .nil) o.regs, o.weight, o.motes * (fullI ss o + winI ss j o) / fullI ss o, -(-o.owed * (fullI ss o + winI ss j o) / fullI ss o) + 1, if alikeI (wsI ss o) = true then o.days else o.days + 1, o.got + 1000000000 * winI ss j o / fullI ss o⟩
def dayMs (rg : List Int → Ds → List Int → List Int) (ss : List Int) (j : Nat) : Ms → Ms
  | .nil => .nil
  | .one o r => .one (dayO rg ss j o) (dayMs rg ss j r)
  | .house nm m r => .house nm (dayMs rg ss j m) (dayMs rg ss j r)
theorem day_ao (rg : List Int → Ds → List Int → List Int) (ss : List Int) (j : Nat) : ∀ m : Ms, aoI (dayMs rg ss j m) = (aoI m).map (dayO rg ss j)
  | .nil => rfl
  | .one o r => by
    show _ :: aoI (dayMs rg ss j r) = _
    rw [day_ao rg ss j r]
    rfl
  | .house nm m r => by
    show aoI (dayMs rg ss j m) ++ aoI (dayMs rg ss j r) = _
    rw [day_ao rg ss j m, day_ao rg ss j r, ← List.map_append]
    rfl
/-! ### members as a list -/
def mks : Ms → List Mk
  | .nil => []
  | .one o r => .one o :: mks r
  | .house nm m r => .house nm m :: mks r
def MksAt (K : PySem.W.Frag) (H : Hp) : List V → List Mk → Prop
  | [], [] => True
  | v :: vs, e :: es => MkAt K H e v ∧ MksAt K H vs es
  | _, _ => False
theorem MksAt.imp {K : PySem.W.Frag} {H H' : Hp} (h : ∀ p xs, SqT K H p xs → SqT K H' p xs) : ∀ {vs : List V} {es : List Mk}, MksAt K H vs es → MksAt K H' vs es
  | [], [], _ => trivial
  | _ :: _, _ :: _, ⟨x, r⟩ => ⟨x.imp h, MksAt.imp h r⟩
theorem MksAt.len {K : PySem.W.Frag} {H : Hp} : ∀ {vs : List V} {es : List Mk}, MksAt K H vs es → vs.length = es.length
  | [], [], _ => rfl
  | _ :: _, _ :: _, ⟨_, r⟩ => by rw [List.length_cons, List.length_cons, r.len]
theorem MksAt.snoc {K : PySem.W.Frag} {H : Hp} {v : V} {e : Mk} (x : MkAt K H e v) : ∀ {vs : List V} {es : List Mk}, MksAt K H vs es → MksAt K H (vs ++ [v]) (es ++ [e])
  | [], [], _ => ⟨x, trivial⟩
  | _ :: _, _ :: _, ⟨y, r⟩ => ⟨y, MksAt.snoc x r⟩
theorem MksAt.get' {K : PySem.W.Frag} {H : Hp} : ∀ {vs : List V} {es : List Mk} {k : Nat} {v : V}, MksAt K H vs es → vs[k]? = some v → ∃ e, es[k]? = some e ∧ MkAt K H e v
  | [], [], _, _, _, h => by simp at h
  | v :: vs, e' :: es, 0, v', ⟨x, r⟩, h => by
    have : v = v' := Option.some.inj h
    subst this
    exact ⟨e', rfl, x⟩
  | v :: vs, e' :: es, k + 1, e, ⟨x, r⟩, h => MksAt.get' (k := k) r h
theorem MsAt.mks {K : PySem.W.Frag} {H : Hp} : ∀ {m : Ms} {vs : List V}, MsAt K H m vs → MksAt K H vs (mks m)
  | .nil, vs, h => by
    have h : vs = [] := h
    subst h
    exact trivial
  | .one o r, _, ⟨v, us, e, q, h⟩ => by
    subst e
    exact ⟨q, MsAt.mks h⟩
  | .house nm m r, _, ⟨p, pm, xs, us, e, q, qm, h1, h2⟩ => by
    subst e
    exact ⟨⟨p, pm, xs, rfl, q, qm, h1⟩, MsAt.mks h2⟩
theorem MksAt.ms {K : PySem.W.Frag} {H : Hp} : ∀ {m : Ms} {vs : List V}, MksAt K H vs (NG.mks m) → MsAt K H m vs
  | .nil, [], _ => rfl
  | .nil, _ :: _, h => h.elim
  | .one o r, [], h => h.elim
  | .one o r, v :: vs, ⟨x, h⟩ => ⟨v, vs, rfl, x, MksAt.ms h⟩
  | .house nm m r, [], h => h.elim
  | .house nm m r, v :: vs, ⟨⟨p, pm, xs, e, q, qm, h1⟩, h⟩ => by
    subst e
    exact ⟨p, pm, xs, vs, rfl, q, qm, h1, MksAt.ms h⟩
def dayMk (rg : List Int → Ds → List Int → List Int) (ss : List Int) (j : Nat) : Mk → Mk
  | .one o => .one (dayO rg ss j o)
  | .house nm m => .house nm (dayMs rg ss j m)
theorem mks_day (rg : List Int → Ds → List Int → List Int) (ss : List Int) (j : Nat) : ∀ m : Ms, mks (dayMs rg ss j m) = (mks m).map (dayMk rg ss j)
  | .nil => rfl
  | .one o r => by
    show _ :: mks (dayMs rg ss j r) = _
    rw [mks_day rg ss j r]
    rfl
  | .house nm m r => by
    show _ :: mks (dayMs rg ss j r) = _
    rw [mks_day rg ss j r]
    rfl
theorem mks_len : ∀ m : Ms, (mks m).length ≤ m.cnt
  | .nil => Nat.le_refl _
  | .one o r => by
    have := mks_len r
    show (mks r).length + 1 ≤ 1 + r.cnt
    omega
  | .house nm m r => by
    have := mks_len r
    show (mks r).length + 1 ≤ 1 + m.cnt + r.cnt
    omega
def MkD (P : One → Prop) (d c : Nat) : Mk → Prop
  | .one o => P o
  | .house _ m => m.dep < d ∧ m.cnt ≤ c ∧ m.all P
theorem mks_ok {P : One → Prop} {c : Nat} : ∀ {m : Ms} {d : Nat}, m.dep < d + 1 → m.cnt ≤ c → m.all P → ∀ k ∈ mks m, MkD P d c k
  | .nil, _, _, _, _, k, hk => by cases hk
  | .one o r, d, h1, h2, h3, k, hk => by
    have h1 : r.dep < d + 1 := h1
    have h2 : 1 + r.cnt ≤ c := h2
    rcases List.mem_cons.mp hk with rfl | hk
    · exact h3.1
    · exact mks_ok h1 (by omega) h3.2 k hk
  | .house nm m r, d, h1, h2, h3, k, hk => by
    have h1 : max (m.dep + 1) r.dep < d + 1 := h1
    have h2 : 1 + m.cnt + r.cnt ≤ c := h2
    rcases List.mem_cons.mp hk with rfl | hk
    · exact ⟨by omega, by omega, h3.1⟩
    · exact mks_ok (by omega) (by omega) h3.2 k hk
end NG

namespace NG
open PySem PySem.Spec PyProof.Rows L2
/-! ### rules with the fragment named, for use inside a comprehension -/
theorem maxTK {X : Cx} (K : PySem.W.Frag) (hc : X.calm = true) (hu : X.A.units + 64 < cLine) (h : X.K = K := by rfl) : CallR X (.builtin "max") (rMaxT K) := by
  subst h; exact cr_maxT hc hu
theorem minTK {X : Cx} (K : PySem.W.Frag) (hc : X.calm = true) (hu : X.A.units + 64 < cLine) (h : X.K = K := by rfl) : CallR X (.builtin "min") (rMinT K) := by
  subst h; exact cr_minT hc hu
theorem eqDK {X : Cx} (K : PySem.W.Frag) (hu : X.A.units + 64 < cLine) (h : X.K = K := by rfl) : OpR X (compareOp .Eq) (rEqD K) := by
  subst h; exact op_eqD hu
theorem neDK {X : Cx} (K : PySem.W.Frag) (hu : X.A.units + 64 < cLine) (h : X.K = K := by rfl) : OpR X (compareOp .NotEq) (rNeD K) := by
  subst h; exact op_neD hu
end NG

namespace NG
open PySem PySem.Spec PyProof.Rows L2
/-! ### a word among a written dict's keys -/
def rInKd (K : PySem.W.Frag) (w : World) : R2 := fun x y H Q => ∃ z p v, x = .str z ∧ y = .ref p ∧ KDct K w p z v ∧ (p == sysModules) = false ∧ Q (.bl true) H
def rNinKd (K : PySem.W.Frag) (w : World) : R2 := fun x y H Q => ∃ z p v, x = .str z ∧ y = .ref p ∧ KDct K w p z v ∧ (p == sysModules) = false ∧ Q (.bl false) H
theorem op_inKd {X : Cx} : OpR X (compareOp .In) (rInKd X.K X.w) := by
  intro pins s σ H x y v u Q I rx ry h
  obtain ⟨z, p, v0, rfl, rfl, ⟨es, n, u0, hl, hk, e, ru⟩, low, q⟩ := h
  exact op_in_kd (X := X) ⟨hl, hk, low⟩ pins s σ H _ _ v u Q I rx ry ⟨z, some u0, rfl, rfl, e, q⟩
theorem op_ninKd {X : Cx} : OpR X (compareOp .NotIn) (rNinKd X.K X.w) := by
  intro pins s σ H x y v u Q I rx ry h
  obtain ⟨z, p, v0, rfl, rfl, ⟨es, n, u0, hl, hk, e, ru⟩, low, q⟩ := h
  exact op_notIn_kd (X := X) ⟨hl, hk, low⟩ pins s σ H _ _ v u Q I rx ry ⟨z, some u0, rfl, rfl, e, q⟩
/-! ### kinds of things -/
def tyd : PyData → String
  | .none => "NoneType"
  | .bool _ => "bool"
  | .int _ => "int"
  | .str _ => "str"
  | .list _ => "list"
  | .tuple _ => "tuple"
  | .dict _ => "dict"
theorem Dp.tyx {K : PySem.W.Frag} {H : Hp} {d : PyData} {v : V} (h : Dp K H v d) : TyX K H v (.type (tyd d)) := by
  cases h with
  | non => exact .base .non
  | bl b => exact .base (.bl b)
  | int i => exact .base (.int i)
  | str x => exact .base (.str x)
  | lst q _ =>
    rcases q with (q | ⟨o, q⟩) | ⟨o, its, n, h1, h2, _⟩
    · exact .base (.lst q)
    · exact .base (.frz q)
    · exact .kList h1 h2
  | tup q _ => exact tyx_tup q
def isInt : PyData → Bool
  | .int _ => true
  | _ => false
theorem rIsi_of {K : PySem.W.Frag} {H : Hp} {d : PyData} {v : V} {T : String} {b : Bool} {Q : VK} (h : Dp K H v d) (k : kitB (tyd d) T = some b) (q : Q (.bl b) H) : rIsi K [v, .ty T] H Q :=
  ⟨v, .ty T, _, _, b, rfl, .ty T, Dp.tyx h, kit_ty k, q⟩
def kB : PyData → Bool
  | .bool _ => true
  | _ => false
def kI : PyData → Bool
  | .int _ => true
  | .bool _ => true
  | _ => false
theorem kit_int (d : PyData) : kitB (tyd d) "int" = some (kI d) := by
  cases d with
  | none => exact (by decide +kernel : kitB "NoneType" "int" = some false)
  | bool _ => exact (by decide +kernel : kitB "bool" "int" = some true)
  | int _ => exact (by decide +kernel : kitB "int" "int" = some true)
  | str _ => exact (by decide +kernel : kitB "str" "int" = some false)
  | list _ => exact (by decide +kernel : kitB "list" "int" = some false)
  | tuple _ => exact (by decide +kernel : kitB "tuple" "int" = some false)
  | dict _ => exact (by decide +kernel : kitB "dict" "int" = some false)
theorem kit_bool (d : PyData) : kitB (tyd d) "bool" = some (kB d) := by
  cases d with
  | none => exact (by decide +kernel : kitB "NoneType" "bool" = some false)
  | bool _ => exact (by decide +kernel : kitB "bool" "bool" = some true)
  | int _ => exact (by decide +kernel : kitB "int" "bool" = some false)
  | str _ => exact (by decide +kernel : kitB "str" "bool" = some false)
  | list _ => exact (by decide +kernel : kitB "list" "bool" = some false)
  | tuple _ => exact (by decide +kernel : kitB "tuple" "bool" = some false)
  | dict _ => exact (by decide +kernel : kitB "dict" "bool" = some false)
def kT : PyData → Bool
  | .tuple _ => true
  | _ => false
theorem kit_tup (d : PyData) : kitB (tyd d) "tuple" = some (kT d) := by
  cases d with
  | none => exact (by decide +kernel : kitB "NoneType" "tuple" = some false)
  | bool _ => exact (by decide +kernel : kitB "bool" "tuple" = some false)
  | int _ => exact (by decide +kernel : kitB "int" "tuple" = some false)
  | str _ => exact (by decide +kernel : kitB "str" "tuple" = some false)
  | list _ => exact (by decide +kernel : kitB "list" "tuple" = some false)
  | tuple _ => exact (by decide +kernel : kitB "tuple" "tuple" = some true)
  | dict _ => exact (by decide +kernel : kitB "dict" "tuple" = some false)
theorem isInt_eq (d : PyData) : (kI d && !kB d) = isInt d := by
  cases d <;> rfl
mutual
theorem dp_same {K : PySem.W.Frag} {H H' : Hp} (s : Same H H') : ∀ {d : PyData} {v : V}, Dp K H v d → Dp K H' v d
  | .none, _, .non => .non
  | .bool _, _, .bl b => .bl b
  | .int _, _, .int i => .int i
  | .str _, _, .str x => .str x
  | .list _, _, .lst q a => .lst (s.seq q) (dpall_same s a)
  | .tuple _, _, .tup q a => .tup (same_sqt s q) (dpall_same s a)
theorem dpall_same {K : PySem.W.Frag} {H H' : Hp} (s : Same H H') : ∀ {ds : List PyData} {vs : List V}, DpAll K H vs ds → DpAll K H' vs ds
  | [], _, .nil => .nil
  | _ :: _, _, .cons a b => .cons (dp_same s a) (dpall_same s b)
end
theorem dpall_len {K : PySem.W.Frag} {H : Hp} : ∀ {ds : List PyData} {vs : List V}, DpAll K H vs ds → vs.length = ds.length
  | [], _, .nil => rfl
  | _ :: _, _, .cons _ b => by rw [List.length_cons, List.length_cons, dpall_len b]
theorem dpall_get {K : PySem.W.Frag} {H : Hp} : ∀ {ds : List PyData} {vs : List V} {i : Nat} {v : V}, DpAll K H vs ds → vs[i]? = some v → ∃ d, ds[i]? = some d ∧ Dp K H v d
  | [], _, _, _, .nil, h => by simp at h
  | d :: _, _, 0, v, .cons a _, h => by
    have := Option.some.inj h
    subst this
    exact ⟨d, rfl, a⟩
  | _ :: _, _, i + 1, v, .cons _ b, h => dpall_get (i := i) b h
theorem dpall_drop {K : PySem.W.Frag} {H : Hp} : ∀ {n : Nat} {ds : List PyData} {vs : List V}, DpAll K H vs ds → DpAll K H (vs.drop n) (ds.drop n)
  | 0, _, _, h => h
  | _ + 1, [], _, .nil => by simpa using (.nil : DpAll K H [] [])
  | n + 1, _ :: _, _, .cons _ b => by
    rw [List.drop_succ_cons, List.drop_succ_cons]
    exact dpall_drop b
theorem dpall_snoc {K : PySem.W.Frag} {H : Hp} {v : V} {d : PyData} (x : Dp K H v d) : ∀ {ds : List PyData} {vs : List V}, DpAll K H vs ds → DpAll K H (vs ++ [v]) (ds ++ [d])
  | [], _, .nil => .cons x .nil
  | _ :: _, _, .cons a b => .cons a (dpall_snoc x b)
/-! ### kinds of places, words, shapes -/
inductive Kd where
  | part | sign | figure | place | factor | line
  deriving DecidableEq
def kdn : Kd → Str
  | .part => "part"
  | .sign => "sign"
  | .figure => "figure"
  | .place => "place"
  | .factor => "factor"
  | .line => "line"
def bndE : Kd → Int × Int
  | .part => (0, 0)
  | .sign => (0, 0)
  | .figure => (-1000, 1000)
  | .place => (0, 3)
  | .factor => (-9, 9)
  | .line => (1, 1000)
inductive We where
  | fig | reg | share | two (w : W4) | times | by | when | whr
  deriving DecidableEq
def wen : We → Str
  | .fig => "fig"
  | .reg => "reg"
  | .share => "share"
  | .two w => wn w
  | .times => "times"
  | .by => "by"
  | .when => "when"
  | .whr => "where"
def wsh : We → List Kd
  | .fig => [.figure]
  | .reg => [.place]
  | .share => [.sign]
  | .two _ => [.part, .part]
  | .times => [.factor, .part]
  | .by => [.place, .part]
  | .when => [.place, .figure, .part, .part]
  | .whr => [.sign, .line, .part, .part]
def weOf (x : Str) : Option We :=
  if x = "fig" then some .fig else if x = "reg" then some .reg else if x = "share" then some .share else if x = "sum" then some (.two .sum) else if x = "less" then some (.two .less)
  else if x = "least" then some (.two .least) else if x = "most" then some (.two .most) else if x = "times" then some .times else if x = "by" then some .by else if x = "when" then some .when else if x = "where" then some .whr else none
theorem weOf_wen (w : We) : weOf (wen w) = some w := by
  cases w with
  | two o => cases o <;> decide
  | _ => decide
inductive Wb where
  | op (w : D5) | when
def wbn : Wb → Str
  | .op w => dn w
  | .when => "when"
def wbsh : Wb → List Kd
  | .op .put => [.place, .figure]
  | .op .add => [.place, .figure]
  | .op .copy => [.place, .place]
  | .op .plus => [.place, .place]
  | .op .told => [.place, .sign]
  | .when => [.place, .figure, .part, .part]
def wbOf (x : Str) : Option Wb :=
  if x = "put" then some (.op .put) else if x = "add" then some (.op .add) else if x = "copy" then some (.op .copy) else if x = "plus" then some (.op .plus) else if x = "told" then some (.op .told) else if x = "when" then some .when else none
theorem wbOf_wbn (w : Wb) : wbOf (wbn w) = some w := by
  cases w with
  | op o => cases o <;> rfl
  | when => rfl
theorem wsh_len (w : We) : (wsh w).length ≤ 4 := by
  cases w with
  | two o => exact (by decide : 2 ≤ 4)
  | _ => decide
theorem wbsh_len (w : Wb) : (wbsh w).length ≤ 4 := by
  cases w with
  | op o => cases o <;> decide
  | when => decide
/-! ### what fits -/
def inD (lo hi : Int) : PyData → Bool
  | .int i => decide (lo ≤ i) && decide (i ≤ hi)
  | _ => false
def fitD (many : Int) : Kd → PyData → Bool
  | .part, _ => true
  | .sign, d => inD 0 (many - 1) d
  | .figure, d => inD (-1000) 1000 d
  | .place, d => inD 0 3 d
  | .factor, d => inD (-9) 9 d
  | .line, d => inD 1 1000 d
def fitsD (many : Int) : List Kd → List PyData → Bool
  | k :: ks, d :: ds => fitD many k d && fitsD many ks ds
  | [], [] => true
  | _, _ => false
theorem fitsD_len {many : Int} : ∀ {ks : List Kd} {ds : List PyData}, fitsD many ks ds = true → ds.length = ks.length
  | [], [], _ => rfl
  | _ :: _, _ :: _, h => by
    unfold fitsD at h
    rw [Bool.and_eq_true] at h
    rw [List.length_cons, List.length_cons, fitsD_len h.2]
  | [], _ :: _, h => by cases h
  | _ :: _, [], h => by cases h
theorem fitsD_ne {many : Int} {ks : List Kd} {ds : List PyData} (h : ds.length ≠ ks.length) : fitsD many ks ds = false := by
  cases e : fitsD many ks ds with
  | false => rfl
  | true => exact absurd (fitsD_len e) h
theorem fitsD_zip {many : Int} : ∀ {ks : List Kd} {ds : List PyData}, ds.length = ks.length → fitsD many ks ds = (List.zipWith (fitD many) ks ds).all id
  | [], [], _ => rfl
  | k :: ks, d :: ds, h => by
    rw [List.zipWith_cons_cons, List.all_cons, ← fitsD_zip (by simpa using h)]
    rfl
  | [], _ :: _, h => by simp at h
  | _ :: _, [], h => by simp at h
def partsD : List Kd → List PyData → List PyData
  | k :: ks, d :: ds => if k = .part then d :: partsD ks ds else partsD ks ds
  | _, _ => []
theorem partsD_len : ∀ (ks : List Kd) (ds : List PyData), (partsD ks ds).length ≤ ds.length
  | [], _ => Nat.zero_le _
  | _ :: _, [] => Nat.zero_le _
  | k :: ks, d :: ds => by
    have := partsD_len ks ds
    unfold partsD
    split <;> simp only [List.length_cons] <;> omega
theorem partsD_snoc : ∀ {ks : List Kd} {ds : List PyData} {i : Nat} {k : Kd} {d : PyData}, ks[i]? = some k → ds[i]? = some d → partsD (ks.take (i + 1)) (ds.take (i + 1)) = partsD (ks.take i) (ds.take i) ++ (if k = .part then [d] else [])
  | [], _, i, _, _, h, _ => by simp at h
  | _ :: _, [], i, _, _, _, h => by simp at h
  | k0 :: ks, d0 :: ds, 0, k, d, h, h2 => by
    have e1 : k0 = k := Option.some.inj h
    have e2 : d0 = d := Option.some.inj h2
    subst e1 e2
    simp [partsD]
  | k0 :: ks, d0 :: ds, i + 1, k, d, h, h2 => by
    have ih := partsD_snoc (ks := ks) (ds := ds) (i := i) h h2
    rw [List.take_succ_cons, List.take_succ_cons, List.take_succ_cons, List.take_succ_cons]
    unfold partsD
    split
    · rw [ih, List.cons_append]
    · exact ih
/-! ### how many parts, deeds -/
def addE : Nat → List Nat → Nat
  | t, [] => t
  | t, i :: r => if i = 0 then 0 else addE (t + i) r
def cntE (many : Int) : Nat → PyData → Nat
  | 0, _ => 0
  | k + 1, d => match d with
    | .tuple (.str x :: ds) => match weOf x with
      | some w => if fitsD many (wsh w) ds = true then addE 1 ((partsD (wsh w) ds).map (cntE many k)) else 0
      | none => 0
    | _ => 0
theorem cntE_eq (many : Int) (k : Nat) (w : We) (ds : List PyData) : cntE many (k + 1) (.tuple (.str (wen w) :: ds)) = if fitsD many (wsh w) ds = true then addE 1 ((partsD (wsh w) ds).map (cntE many k)) else 0 := by
  unfold cntE
  simp only [weOf_wen]
def wdE (many : Int) : Nat → PyData → Prop
  | 0, d => ∃ w ds, d = .tuple (.str (wen w) :: ds)
  | k + 1, d => ∃ w ds, d = .tuple (.str (wen w) :: ds) ∧ (fitsD many (wsh w) ds = true → ∀ x ∈ partsD (wsh w) ds, wdE many k x)
def isEx (many : Int) (d : PyData) : Bool := decide (1 ≤ cntE many 8 d) && decide (cntE many 8 d ≤ 40)
def exD : Nat → PyData → Ex
  | 0, _ => .fig 0
  | k + 1, d => match d with
    | .tuple (.str x :: ds) => match weOf x, ds with
      | some .fig, [.int c] => .fig c
      | some .reg, [.int i] => .reg i.toNat
      | some .share, [.int j] => .share j.toNat
      | some (.two w), [a, b] => .two w (exD k a) (exD k b)
      | some .times, [.int f, a] => .times f (exD k a)
      | some .by, [.int i, a] => .by i.toNat (exD k a)
      | some .when, [.int i, .int c, a, b] => .when i.toNat c (exD k a) (exD k b)
      | some .whr, [.int i, .int c, a, b] => .whr i.toNat c (exD k a) (exD k b)
      | _, _ => .fig 0
    | _ => .fig 0
def stakeD (many : Int) (sc : Nat) (d : PyData) : Bool := isEx many d && (decide (-(500 * pw2 sc) ≤ (spn (exD 8 d)).1) && decide ((spn (exD 8 d)).2 ≤ 500 * pw2 sc))
def addB : Nat → List (Option Nat) → Option Nat
  | t, [] => some t
  | _, none :: _ => none
  | t, some i :: r => addB (t + i) r
def sumB : Nat → List (Option Nat) → Option Nat
  | t, [] => some t
  | _, none :: _ => none
  | t, some i :: r => if 20 < t + i then none else sumB (t + i) r
def deedD (many : Int) (f : PyData → Option Nat) : PyData → Option Nat
  | .tuple (.str x :: ds) => match wbOf x with
    | some w => if fitsD many (wbsh w) ds = true then addB 1 ((ds.drop 2).map f) else none
    | none => none
  | _ => none
theorem deedD_eq (many : Int) (f : PyData → Option Nat) (w : Wb) (ds : List PyData) : deedD many f (.tuple (.str (wbn w) :: ds)) = if fitsD many (wbsh w) ds = true then addB 1 ((ds.drop 2).map f) else none := by
  unfold deedD
  simp only [wbOf_wbn]
def cntB (many : Int) : Nat → PyData → Option Nat
  | 0, d => match d with
    | .tuple [] => some 0
    | _ => none
  | k + 1, d => match d with
    | .tuple ds => sumB 0 (ds.map (deedD many (cntB many k)))
    | _ => none
def wdB (many : Int) : Nat → PyData → Prop
  | 0, _ => True
  | k + 1, d => ∀ ds, d = .tuple ds → ∀ x ∈ ds, ∃ w es, x = .tuple (.str (wbn w) :: es) ∧ (fitsD many (wbsh w) es = true → ∀ y ∈ es.drop 2, wdB many k y)
def optV : Option Nat → V
  | none => .non
  | some n => .int (n : Int)
def nameD (z : Str) : Bool := (decide (1 ≤ z.length) && decide (z.length ≤ 8)) && (z.cps.toList.all fun c => decide (c ∈ ("abcdefghijklmnopqrstuvwxyz" : Str).cps.toList))
def regsD (ds : List PyData) : Bool := decide (ds.length = 4) && ds.all (inD (-1000) 1000)
def dbtD (many : Nat) (nm : Str) (sc : Int) (rg st bh : List PyData) : Bool :=
  if (nameD nm && (decide (0 ≤ sc) && decide (sc ≤ 4)) && regsD rg) = true then (decide (st.length = many) && st.all (stakeD many sc.toNat)) && (decide (bh.length = many) && bh.all fun d => (cntB many 4 d).isSome) else false
/-! ### the tables -/
def TabE (K : PySem.W.Frag) (w : World) (a : Addr) : Prop := (a == sysModules) = false ∧ ∀ x : We, ∃ q, KDct K w a (wen x) (.ref q) ∧ ∀ H, SqT K H q ((wsh x).map fun k => V.str (kdn k))
def TabB (K : PySem.W.Frag) (w : World) (a : Addr) : Prop := (a == sysModules) = false ∧ ∀ x : Wb, ∃ q, KDct K w a (wbn x) (.ref q) ∧ ∀ H, SqT K H q ((wbsh x).map fun k => V.str (kdn k))
def TabN (K : PySem.W.Frag) (w : World) (a : Addr) : Prop := ∀ k : Kd, k ≠ .part → k ≠ .sign → ∃ q, KDct K w a (kdn k) (.ref q) ∧ ∀ H, SqT K H q [.int (bndE k).1, .int (bndE k).2]
theorem TabE.of {K : PySem.W.Frag} {w : World} {a : Addr} (h : Shapes K w a) (l : (a == sysModules) = false) : TabE K w a := ⟨l, fun x => by
  cases x with
  | fig => exact h (.fig 0)
  | reg => exact h (.reg 0)
  | share => exact h (.share 0)
  | two o => exact h (.two o (.fig 0) (.fig 0))
  | times => exact h (.times 0 (.fig 0))
  | «by» => exact h (.by 0 (.fig 0))
  | when => exact h (.when 0 0 (.fig 0) (.fig 0))
  | whr => exact h (.whr 0 0 (.fig 0) (.fig 0))⟩
/-! ### data of expressions -/
theorem ExAt.of {K : PySem.W.Frag} {H : Hp} : ∀ {e : Ex} {v : V}, Dp K H v (toD e) → ExAt K H e v := by
  intro e
  induction e with
  | fig c => intro v h; unfold toD at h; cases h with | tup q a => cases a with | cons a b => cases a; cases b with | cons a b => cases a; cases b; exact ⟨_, rfl, q⟩
  | reg c => intro v h; unfold toD at h; cases h with | tup q a => cases a with | cons a b => cases a; cases b with | cons a b => cases a; cases b; exact ⟨_, rfl, q⟩
  | share c => intro v h; unfold toD at h; cases h with | tup q a => cases a with | cons a b => cases a; cases b with | cons a b => cases a; cases b; exact ⟨_, rfl, q⟩
  | two w x y ihx ihy => intro v h; unfold toD at h; cases h with | tup q a => cases a with | cons a b => cases a; cases b with | cons a b => cases b with | cons c b => cases b; exact ⟨_, _, _, rfl, q, ihx a, ihy c⟩
  | times f x ih => intro v h; unfold toD at h; cases h with | tup q a => cases a with | cons a b => cases a; cases b with | cons a b => cases a; cases b with | cons c b => cases b; exact ⟨_, _, rfl, q, ih c⟩
  | «by» f x ih => intro v h; unfold toD at h; cases h with | tup q a => cases a with | cons a b => cases a; cases b with | cons a b => cases a; cases b with | cons c b => cases b; exact ⟨_, _, rfl, q, ih c⟩
  | when i c x y ihx ihy => intro v h; unfold toD at h; cases h with | tup q a => cases a with | cons a b => cases a; cases b with | cons a b => cases a; cases b with | cons a b => cases a; cases b with | cons d b => cases b with | cons e b => cases b; exact ⟨_, _, _, rfl, q, ihx d, ihy e⟩
  | whr i c x y ihx ihy => intro v h; unfold toD at h; cases h with | tup q a => cases a with | cons a b => cases a; cases b with | cons a b => cases a; cases b with | cons a b => cases a; cases b with | cons d b => cases b with | cons e b => cases b; exact ⟨_, _, _, rfl, q, ihx d, ihy e⟩
theorem inD_int {lo hi : Int} {d : PyData} (h : inD lo hi d = true) : ∃ i, d = .int i ∧ lo ≤ i ∧ i ≤ hi := by
  cases d with
  | int i =>
    unfold inD at h
    rw [Bool.and_eq_true, decide_eq_true_eq, decide_eq_true_eq] at h
    exact ⟨i, rfl, h.1, h.2⟩
  | _ => cases h
theorem addE_pos : ∀ {l : List Nat} {t : Nat}, 0 < addE t l → ∀ i ∈ l, 0 < i
  | [], _, _, i, h => by cases h
  | j :: r, t, h, i, hi => by
    unfold addE at h
    split at h
    · omega
    · rcases List.mem_cons.mp hi with rfl | hi
      · omega
      · exact addE_pos h i hi
theorem exD_of {many : Nat} : ∀ {k : Nat} {d : PyData}, 0 < cntE many k d → toD (exD k d) = d ∧ ExOk many (exD k d) ∧ (exD k d).dep ≤ k
  | 0, _, h => by exact absurd h (by unfold cntE; omega)
  | k + 1, d, h => by
    match d, h with
    | .tuple (.str x :: ds), h =>
      unfold cntE at h
      simp only at h
      cases hw : weOf x with
      | none => rw [hw] at h; simp at h
      | some w =>
        rw [hw] at h
        simp only at h
        by_cases hf : fitsD many (wsh w) ds = true
        · rw [if_pos hf] at h
          have hp := addE_pos h
          have hx : x = wen w := by
            unfold weOf at hw
            repeat' split at hw
            all_goals first | (cases hw; assumption) | cases hw
          subst hx
          have ih : ∀ {y : PyData}, y ∈ partsD (wsh w) ds → toD (exD k y) = y ∧ ExOk many (exD k y) ∧ (exD k y).dep ≤ k := fun hy => exD_of (hp _ (List.mem_map.mpr ⟨_, hy, rfl⟩))
          have hl := fitsD_len hf
          unfold exD
          simp only [weOf_wen]
          cases w with
          | fig =>
            match ds, hl with
            | [a], _ =>
              simp only [wsh, fitsD, fitD, Bool.and_true] at hf
              obtain ⟨i, rfl, h1, h2⟩ := inD_int hf
              exact ⟨rfl, ⟨h1, h2⟩, by show 1 ≤ k + 1; omega⟩
          | reg =>
            match ds, hl with
            | [a], _ =>
              simp only [wsh, fitsD, fitD, Bool.and_true] at hf
              obtain ⟨i, rfl, h1, h2⟩ := inD_int hf
              exact ⟨by show PyData.tuple [.str "reg", .int ((i.toNat : Nat) : Int)] = _; rw [Int.toNat_of_nonneg h1]; rfl, by show i.toNat < 4; omega, by show 1 ≤ k + 1; omega⟩
          | share =>
            match ds, hl with
            | [a], _ =>
              simp only [wsh, fitsD, fitD, Bool.and_true] at hf
              obtain ⟨i, rfl, h1, h2⟩ := inD_int hf
              exact ⟨by show PyData.tuple [.str "share", .int ((i.toNat : Nat) : Int)] = _; rw [Int.toNat_of_nonneg h1]; rfl, by show i.toNat < many; omega, by show 1 ≤ k + 1; omega⟩
          | two o =>
            match ds, hl with
            | [a, b], _ =>
              have ha := ih (y := a) (by simp [wsh, partsD])
              have hb := ih (y := b) (by simp [wsh, partsD])
              exact ⟨by show PyData.tuple [.str (wn o), toD (exD k a), toD (exD k b)] = _; rw [ha.1, hb.1]; rfl, ⟨ha.2.1, hb.2.1⟩, by show max (exD k a).dep (exD k b).dep + 1 ≤ k + 1; omega⟩
          | times =>
            match ds, hl with
            | [a, b], _ =>
              have hb := ih (y := b) (by simp [wsh, partsD])
              simp only [wsh, fitsD, fitD, Bool.and_true] at hf
              obtain ⟨i, rfl, h1, h2⟩ := inD_int hf
              exact ⟨by show PyData.tuple [.str "times", .int i, toD (exD k b)] = _; rw [hb.1]; rfl, ⟨⟨h1, h2⟩, hb.2.1⟩, by show (exD k b).dep + 1 ≤ k + 1; omega⟩
          | «by» =>
            match ds, hl with
            | [a, b], _ =>
              have hb := ih (y := b) (by simp [wsh, partsD])
              simp only [wsh, fitsD, fitD, Bool.and_true] at hf
              obtain ⟨i, rfl, h1, h2⟩ := inD_int hf
              exact ⟨by show PyData.tuple [.str "by", .int ((i.toNat : Nat) : Int), toD (exD k b)] = _; rw [hb.1, Int.toNat_of_nonneg h1]; rfl, ⟨by show i.toNat < 4; omega, hb.2.1⟩, by show (exD k b).dep + 1 ≤ k + 1; omega⟩
          | when =>
            match ds, hl with
            | [a, b, c, e], _ =>
              have hc := ih (y := c) (by simp [wsh, partsD])
              have he := ih (y := e) (by simp [wsh, partsD])
              simp only [wsh, fitsD, fitD, Bool.and_true, Bool.and_eq_true] at hf
              obtain ⟨i, rfl, h1, h2⟩ := inD_int hf.1
              obtain ⟨j, rfl, h3, h4⟩ := inD_int hf.2
              exact ⟨by show PyData.tuple [.str "when", .int ((i.toNat : Nat) : Int), .int j, toD (exD k c), toD (exD k e)] = _; rw [hc.1, he.1, Int.toNat_of_nonneg h1]; rfl, ⟨by show i.toNat < 4; omega, ⟨h3, h4⟩, hc.2.1, he.2.1⟩, by show max (exD k c).dep (exD k e).dep + 1 ≤ k + 1; omega⟩
          | whr =>
            match ds, hl with
            | [a, b, c, e], _ =>
              have hc := ih (y := c) (by simp [wsh, partsD])
              have he := ih (y := e) (by simp [wsh, partsD])
              simp only [wsh, fitsD, fitD, Bool.and_true, Bool.and_eq_true] at hf
              obtain ⟨i, rfl, h1, h2⟩ := inD_int hf.1
              obtain ⟨j, rfl, h3, h4⟩ := inD_int hf.2
              exact ⟨by show PyData.tuple [.str "where", .int ((i.toNat : Nat) : Int), .int j, toD (exD k c), toD (exD k e)] = _; rw [hc.1, he.1, Int.toNat_of_nonneg h1]; rfl, ⟨by show i.toNat < many; omega, ⟨h3, h4⟩, hc.2.1, he.2.1⟩, by show max (exD k c).dep (exD k e).dep + 1 ≤ k + 1; omega⟩
        · rw [if_neg hf] at h
          omega
    | .tuple [], h => simp [cntE] at h
    | .tuple (.none :: _), h => simp [cntE] at h
    | .tuple (.bool _ :: _), h => simp [cntE] at h
    | .tuple (.int _ :: _), h => simp [cntE] at h
    | .tuple (.list _ :: _), h => simp [cntE] at h
    | .tuple (.tuple _ :: _), h => simp [cntE] at h
    | .tuple (.dict _ :: _), h => simp [cntE] at h
    | .none, h => simp [cntE] at h
    | .bool _, h => simp [cntE] at h
    | .int _, h => simp [cntE] at h
    | .str _, h => simp [cntE] at h
    | .list _, h => simp [cntE] at h
    | .dict _, h => simp [cntE] at h
theorem dep_pos' : ∀ e : Ex, 1 ≤ e.dep
  | .fig _ => Nat.le_refl _
  | .reg _ => Nat.le_refl _
  | .share _ => Nat.le_refl _
  | .two _ a b => by show 1 ≤ max a.dep b.dep + 1; omega
  | .times _ a => by show 1 ≤ a.dep + 1; omega
  | .by _ a => by show 1 ≤ a.dep + 1; omega
  | .when _ _ a b => by show 1 ≤ max a.dep b.dep + 1; omega
  | .whr _ _ a b => by show 1 ≤ max a.dep b.dep + 1; omega
def Ex.size : Ex → Nat
  | .fig _ => 1
  | .reg _ => 1
  | .share _ => 1
  | .two _ a b => 1 + a.size + b.size
  | .times _ a => 1 + a.size
  | .by _ a => 1 + a.size
  | .when _ _ a b => 1 + a.size + b.size
  | .whr _ _ a b => 1 + a.size + b.size
theorem inD_of {lo hi i : Int} (h1 : lo ≤ i) (h2 : i ≤ hi) : inD lo hi (.int i) = true := by
  show (decide (lo ≤ i) && decide (i ≤ hi)) = true
  rw [decide_eq_true h1, decide_eq_true h2]
  rfl
theorem size_pos : ∀ e : Ex, 0 < e.size
  | .fig _ => Nat.one_pos
  | .reg _ => Nat.one_pos
  | .share _ => Nat.one_pos
  | .two _ a b => by show 0 < 1 + a.size + b.size; omega
  | .times _ a => by show 0 < 1 + a.size; omega
  | .by _ a => by show 0 < 1 + a.size; omega
  | .when _ _ a b => by show 0 < 1 + a.size + b.size; omega
  | .whr _ _ a b => by show 0 < 1 + a.size + b.size; omega
def weE : Ex → We
  | .fig _ => .fig
  | .reg _ => .reg
  | .share _ => .share
  | .two w _ _ => .two w
  | .times _ _ => .times
  | .by _ _ => .by
  | .when _ _ _ _ => .when
  | .whr _ _ _ _ => .whr
def itE : Ex → List PyData
  | .fig c => [.int c]
  | .reg i => [.int (i : Int)]
  | .share j => [.int (j : Int)]
  | .two _ a b => [toD a, toD b]
  | .times f a => [.int f, toD a]
  | .by i a => [.int (i : Int), toD a]
  | .when i c a b => [.int (i : Int), .int c, toD a, toD b]
  | .whr j c a b => [.int (j : Int), .int c, toD a, toD b]
theorem toD_eq : ∀ e : Ex, toD e = .tuple (.str (wen (weE e)) :: itE e)
  | .fig _ => rfl
  | .reg _ => rfl
  | .share _ => rfl
  | .two _ _ _ => rfl
  | .times _ _ => rfl
  | .by _ _ => rfl
  | .when _ _ _ _ => rfl
  | .whr _ _ _ _ => rfl
theorem itE_fits {many : Nat} : ∀ {e : Ex}, ExOk many e → fitsD many (wsh (weE e)) (itE e) = true
  | .fig c, h => by simp only [weE, wsh, itE, fitsD, fitD]; rw [inD_of h.1 h.2]; rfl
  | .reg i, h => by
    have h : i < 4 := h
    simp only [weE, wsh, itE, fitsD, fitD]; rw [inD_of (by omega) (by omega)]; rfl
  | .share j, h => by
    have h : j < many := h
    simp only [weE, wsh, itE, fitsD, fitD]; rw [inD_of (by omega) (by omega)]; rfl
  | .two w a b, h => rfl
  | .times f a, h => by simp only [weE, wsh, itE, fitsD, fitD]; rw [inD_of h.1.1 h.1.2]; rfl
  | .by i a, h => by
    have h1 : i < 4 := h.1
    simp only [weE, wsh, itE, fitsD, fitD]; rw [inD_of (by omega) (by omega)]; rfl
  | .when i c a b, h => by
    have h1 : i < 4 := h.1
    simp only [weE, wsh, itE, fitsD, fitD]; rw [inD_of (by omega) (by omega), inD_of h.2.1.1 h.2.1.2]; rfl
  | .whr j c a b, h => by
    have h1 : j < many := h.1
    simp only [weE, wsh, itE, fitsD, fitD]; rw [inD_of (by omega) (by omega), inD_of h.2.1.1 h.2.1.2]; rfl
theorem itE_parts : ∀ e : Ex, partsD (wsh (weE e)) (itE e) = e.kids.map toD
  | .fig _ => rfl
  | .reg _ => rfl
  | .share _ => rfl
  | .two _ _ _ => rfl
  | .times _ _ => rfl
  | .by _ _ => rfl
  | .when _ _ _ _ => rfl
  | .whr _ _ _ _ => rfl
theorem wdE_of {many : Nat} : ∀ {k : Nat} {e : Ex}, ExOk many e → wdE many k (toD e)
  | 0, e, _ => ⟨weE e, itE e, toD_eq e⟩
  | k + 1, e, h => ⟨weE e, itE e, toD_eq e, fun _ x hx => by
    rw [itE_parts] at hx
    obtain ⟨y, hy, rfl⟩ := List.mem_map.mp hx
    exact wdE_of (kids_ok e y h hy)⟩
theorem cntE_of {many : Nat} : ∀ {k : Nat} {e : Ex}, ExOk many e → e.dep ≤ k → cntE many k (toD e) = e.size
  | 0, e, _, h => absurd h (by have := dep_pos' e; omega)
  | k + 1, e, h, hd => by
    rw [toD_eq, cntE_eq, if_pos (itE_fits h), itE_parts, List.map_map]
    have ih : ∀ y ∈ e.kids, cntE many k (toD y) = y.size := fun y hy => cntE_of (kids_ok e y h hy) (by have := kids_dep e y hy; omega)
    rw [show e.kids.map (cntE many k ∘ toD) = e.kids.map Ex.size from List.map_congr_left ih]
    cases e with
    | fig => rfl
    | reg => rfl
    | share => rfl
    | two w a b =>
      have := size_pos a
      have := size_pos b
      show addE 1 [a.size, b.size] = 1 + a.size + b.size
      simp only [addE]
      rw [if_neg (by omega), if_neg (by omega)]
    | times f a =>
      have := size_pos a
      show addE 1 [a.size] = 1 + a.size
      simp only [addE]
      rw [if_neg (by omega)]
    | «by» f a =>
      have := size_pos a
      show addE 1 [a.size] = 1 + a.size
      simp only [addE]
      rw [if_neg (by omega)]
    | when i c a b =>
      have := size_pos a
      have := size_pos b
      show addE 1 [a.size, b.size] = 1 + a.size + b.size
      simp only [addE]
      rw [if_neg (by omega), if_neg (by omega)]
    | whr i c a b =>
      have := size_pos a
      have := size_pos b
      show addE 1 [a.size, b.size] = 1 + a.size + b.size
      simp only [addE]
      rw [if_neg (by omega), if_neg (by omega)]
theorem exD_toD : ∀ {k : Nat} {e : Ex}, e.dep ≤ k → exD k (toD e) = e
  | 0, e, h => absurd h (by have := dep_pos' e; omega)
  | k + 1, e, h => by
    rw [toD_eq]
    unfold exD
    simp only [weOf_wen]
    cases e with
    | fig c => rfl
    | reg i => rfl
    | share j => rfl
    | two w a b =>
      have h : max a.dep b.dep + 1 ≤ k + 1 := h
      show Ex.two w (exD k (toD a)) (exD k (toD b)) = _
      rw [exD_toD (e := a) (by omega), exD_toD (e := b) (by omega)]
    | times f a =>
      have h : a.dep + 1 ≤ k + 1 := h
      show Ex.times f (exD k (toD a)) = _
      rw [exD_toD (e := a) (by omega)]
    | «by» f a =>
      have h : a.dep + 1 ≤ k + 1 := h
      show Ex.by f (exD k (toD a)) = _
      rw [exD_toD (e := a) (by omega)]
    | when i c a b =>
      have h : max a.dep b.dep + 1 ≤ k + 1 := h
      show Ex.when i c (exD k (toD a)) (exD k (toD b)) = _
      rw [exD_toD (e := a) (by omega), exD_toD (e := b) (by omega)]
    | whr i c a b =>
      have h : max a.dep b.dep + 1 ≤ k + 1 := h
      show Ex.whr i c (exD k (toD a)) (exD k (toD b)) = _
      rw [exD_toD (e := a) (by omega), exD_toD (e := b) (by omega)]
/-- a stake that is one -/
theorem stakeD_of {many sc : Nat} {e : Ex} (h : ExOk many e) (hd : e.dep ≤ 8) : stakeD many sc (toD e) = (decide (e.size ≤ 40) && (decide (-(500 * pw2 sc) ≤ (spn e).1) && decide ((spn e).2 ≤ 500 * pw2 sc))) := by
  unfold stakeD isEx
  rw [cntE_of h hd, exD_toD hd, decide_eq_true (show 1 ≤ e.size from size_pos e), Bool.true_and]
end NG

namespace NG
open PySem PySem.Spec PyProof.Rows L2
/-! ### repr of a number, a truth or None -/
def shV : V → Option Str
  | .int i => if i.natAbs.log2 < 1920 then some (Str.ofString (toString i)) else none
  | .bl b => some (if b = true then Str.ofString "True" else Str.ofString "False")
  | .non => some (Str.ofString "None")
  | _ => none
def rReprV : List V → Hp → VK → Prop := fun vs H Q => ∃ (v : V) (x : Str), vs = [v] ∧ shV v = some x ∧ Q (.str x) H
theorem cr_reprV {X : Cx} : CallR X (.builtin "repr") rReprV := by
  intro pins s σ H vs us Q I r h
  obtain ⟨v, x, rfl, hx, q⟩ := h
  obtain ⟨u, rfl, t⟩ := vals1 r
  cases v with
  | int i =>
    have hx : (if i.natAbs.log2 < 1920 then some (Str.ofString (toString i)) else none) = some x := hx
    by_cases hz : i.natAbs.log2 < 1920
    · rw [if_pos hz] at hx
      have hx := Option.some.inj hx
      subst hx
      obtain ⟨t, rfl⟩ := t
      exact PySem.P.repr_of_int hz ⟨.str _, H, I.tok (s.toks + 1), ⟨_, rfl⟩, q⟩
    · rw [if_neg hz] at hx
      cases hx
  | bl b =>
    cases hx
    have t : u = Value.bool b := t
    subst t
    exact PySem.P.repr_of_bool ⟨.str _, H, I.tok (s.toks + 1), ⟨_, rfl⟩, q⟩
  | non =>
    cases hx
    have t : u = Value.none := t
    subst t
    exact PySem.P.repr_of_none ⟨.str _, H, I.tok (s.toks + 1), ⟨_, rfl⟩, q⟩
  | _ => cases hx
theorem shV_int {i : Int} (h : i.natAbs < 2 ^ 1000) : ∃ x, shV (.int i) = some x := by
  refine ⟨Str.ofString (toString i), ?_⟩
  show (if i.natAbs.log2 < 1920 then some (Str.ofString (toString i)) else none) = _
  rw [if_pos]
  by_cases h0 : i.natAbs = 0
  · rw [h0]; decide
  · have := (Nat.log2_lt h0).mpr h
    omega
/-! ### one promise out of another -/
theorem FnOk.mono {P : Program} {w : World} {K : PySem.W.Frag} {mg : Str → Option Value} {base : Heap} {CX : CXT} {k : Nat} {f : Addr} {fd : FuncData} {ps : List Str} {sp sp' : Sp} (F : FnOk P w K mg base CX k f fd ps sp) (h : ∀ vs H Q E, sp' vs H Q E → sp vs H Q E) : FnOk P w K mg base CX k f fd ps sp' :=
  ⟨fun vs H Q E x => F.len vs H Q E (h vs H Q E x), fun A outer s H args us vs Q E r e b v x => F.run A outer s H args us vs Q E r e b v (h vs H Q E x)⟩
end NG

namespace NG
open PySem PySem.Spec PyProof.Rows L2
/-! ### things of any kind: as Dp, and empty dicts -/
mutual
inductive Dq (K : PySem.W.Frag) (H : Hp) : V → PyData → Prop
  | non : Dq K H .non .none
  | bl (b : Bool) : Dq K H (.bl b) (.bool b)
  | int (i : Int) : Dq K H (.int i) (.int i)
  | str (x : Str) : Dq K H (.str x) (.str x)
  | lst {a : Addr} {xs : List V} {ds : List PyData} : SqL K H a xs → DqAll K H xs ds → Dq K H (.ref a) (.list ds)
  | tup {a : Addr} {xs : List V} {ds : List PyData} : SqT K H a xs → DqAll K H xs ds → Dq K H (.ref a) (.tuple ds)
  | dic {a : Addr} : H a = some (.dK []) → Dq K H (.ref a) (.dict [])
inductive DqAll (K : PySem.W.Frag) (H : Hp) : List V → List PyData → Prop
  | nil : DqAll K H [] []
  | cons {v : V} {vs : List V} {d : PyData} {ds : List PyData} : Dq K H v d → DqAll K H vs ds → DqAll K H (v :: vs) (d :: ds)
end
mutual
theorem dq_of {K : PySem.W.Frag} {H : Hp} : ∀ {d : PyData} {v : V}, Dp K H v d → Dq K H v d
  | .none, _, .non => .non
  | .bool _, _, .bl b => .bl b
  | .int _, _, .int i => .int i
  | .str _, _, .str x => .str x
  | .list _, _, .lst q a => .lst q (dqall_of a)
  | .tuple _, _, .tup q a => .tup q (dqall_of a)
theorem dqall_of {K : PySem.W.Frag} {H : Hp} : ∀ {ds : List PyData} {vs : List V}, DpAll K H vs ds → DqAll K H vs ds
  | [], _, .nil => .nil
  | _ :: _, _, .cons a b => .cons (dq_of a) (dqall_of b)
end
mutual
theorem dq_same {K : PySem.W.Frag} {H H' : Hp} (s : Same H H') : ∀ {d : PyData} {v : V}, Dq K H v d → Dq K H' v d
  | .none, _, .non => .non
  | .bool _, _, .bl b => .bl b
  | .int _, _, .int i => .int i
  | .str _, _, .str x => .str x
  | .list _, _, .lst q a => .lst (s.seq q) (dqall_same s a)
  | .tuple _, _, .tup q a => .tup (same_sqt s q) (dqall_same s a)
  | .dict _, _, .dic h => .dic (s _ _ h)
theorem dqall_same {K : PySem.W.Frag} {H H' : Hp} (s : Same H H') : ∀ {ds : List PyData} {vs : List V}, DqAll K H vs ds → DqAll K H' vs ds
  | [], _, .nil => .nil
  | _ :: _, _, .cons a b => .cons (dq_same s a) (dqall_same s b)
end
theorem dqall_len {K : PySem.W.Frag} {H : Hp} : ∀ {ds : List PyData} {vs : List V}, DqAll K H vs ds → vs.length = ds.length
  | [], _, .nil => rfl
  | _ :: _, _, .cons _ b => by rw [List.length_cons, List.length_cons, dqall_len b]
theorem dqall_get {K : PySem.W.Frag} {H : Hp} : ∀ {ds : List PyData} {vs : List V} {i : Nat} {v : V}, DqAll K H vs ds → vs[i]? = some v → ∃ d, ds[i]? = some d ∧ Dq K H v d
  | [], _, _, _, .nil, h => by simp at h
  | d :: _, _, 0, v, .cons a _, h => by
    have := Option.some.inj h
    subst this
    exact ⟨d, rfl, a⟩
  | _ :: _, _, i + 1, v, .cons _ b, h => dqall_get (i := i) b h
theorem dqall_drop {K : PySem.W.Frag} {H : Hp} : ∀ {n : Nat} {ds : List PyData} {vs : List V}, DqAll K H vs ds → DqAll K H (vs.drop n) (ds.drop n)
  | 0, _, _, h => h
  | _ + 1, [], _, .nil => by simpa using (.nil : DqAll K H [] [])
  | n + 1, _ :: _, _, .cons _ b => by
    rw [List.drop_succ_cons, List.drop_succ_cons]
    exact dqall_drop b
theorem dqall_take {K : PySem.W.Frag} {H : Hp} : ∀ {n : Nat} {ds : List PyData} {vs : List V}, DqAll K H vs ds → DqAll K H (vs.take n) (ds.take n)
  | 0, _, _, _ => .nil
  | _ + 1, [], _, .nil => by simpa using (.nil : DqAll K H [] [])
  | n + 1, _ :: _, _, .cons a b => by
    rw [List.take_succ_cons, List.take_succ_cons]
    exact .cons a (dqall_take b)
theorem dqall_app {K : PySem.W.Frag} {H : Hp} {es : List PyData} {us : List V} (x : DqAll K H us es) : ∀ {ds : List PyData} {vs : List V}, DqAll K H vs ds → DqAll K H (vs ++ us) (ds ++ es)
  | [], _, .nil => x
  | _ :: _, _, .cons a b => .cons a (dqall_app x b)
theorem dqall_mem {K : PySem.W.Frag} {H : Hp} : ∀ {ds : List PyData} {vs : List V}, DqAll K H vs ds → ∀ v ∈ vs, ∃ d ∈ ds, Dq K H v d
  | [], _, .nil, v, h => by cases h
  | d :: _, _, .cons a b, v, h => by
    rcases List.mem_cons.mp h with rfl | h
    · exact ⟨d, List.mem_cons_self, a⟩
    · obtain ⟨e, he, q⟩ := dqall_mem b v h
      exact ⟨e, List.mem_cons_of_mem _ he, q⟩
theorem dq_ints {K : PySem.W.Frag} {H : Hp} : ∀ (ns : List Int), DqAll K H (ns.map V.int) (ns.map PyData.int)
  | [] => .nil
  | n :: ns => .cons (.int n) (dq_ints ns)
theorem Dq.tyx {K : PySem.W.Frag} {H : Hp} {d : PyData} {v : V} (h : Dq K H v d) : TyX K H v (.type (tyd d)) := by
  cases h with
  | non => exact .base .non
  | bl b => exact .base (.bl b)
  | int i => exact .base (.int i)
  | str x => exact .base (.str x)
  | lst q _ =>
    rcases q with (q | ⟨o, q⟩) | ⟨o, its, n, h1, h2, _⟩
    · exact .base (.lst q)
    · exact .base (.frz q)
    · exact .kList h1 h2
  | tup q _ => exact tyx_tup q
  | dic q => exact .base (.dK q)
theorem rIsi_q {K : PySem.W.Frag} {H : Hp} {d : PyData} {v : V} {T : String} {b : Bool} {Q : VK} (h : Dq K H v d) (k : kitB (tyd d) T = some b) (q : Q (.bl b) H) : rIsi K [v, .ty T] H Q :=
  ⟨v, .ty T, _, _, b, rfl, .ty T, Dq.tyx h, kit_ty k, q⟩
/-! ### reading them -/
mutual
inductive RdD (h : Heap) : Value → PyData → Prop
  | none : RdD h .none .none
  | bool (b) : RdD h (.bool b) (.bool b)
  | int (i t) : RdD h (.int i t) (.int i)
  | str (x t) : RdD h (.str x t) (.str x)
  | list {a o vs n xs} : h.get? a = some o → o.cls = .type "list" → o.data = .seq vs n → RdDs h vs.toList xs → RdD h (.ref a) (.list xs)
  | tuple {a o vs n xs} : h.get? a = some o → o.cls = .type "tuple" → o.data = .seq vs n → RdDs h vs.toList xs → RdD h (.ref a) (.tuple xs)
  | dict {a o es n} : h.get? a = some o → o.cls = .type "dict" → o.data = .dict es n → es.toList = [] → (a == sysModules) = false → RdD h (.ref a) (.dict [])
inductive RdDs (h : Heap) : List Value → List PyData → Prop
  | nil : RdDs h [] []
  | cons {v vs d ds} : RdD h v d → RdDs h vs ds → RdDs h (v :: vs) (d :: ds)
end
mutual
theorem RdD.reads {h : Heap} : ∀ {d : PyData} {v : Value}, RdD h v d → ∃ as, Reads h v d as
  | .none, _, .none => ⟨_, .none⟩
  | .bool _, _, .bool b => ⟨_, .bool b⟩
  | .int _, _, .int i t => ⟨_, .int i t⟩
  | .str _, _, .str x t => ⟨_, .str x t⟩
  | .list _, _, .list h1 h2 h3 h4 => by
    obtain ⟨as, r⟩ := RdDs.reads h4
    exact ⟨_, .list h1 h2 h3 r⟩
  | .tuple _, _, .tuple h1 h2 h3 h4 => by
    obtain ⟨as, r⟩ := RdDs.reads h4
    exact ⟨_, .tuple h1 h2 h3 r⟩
  | .dict _, _, .dict h1 h2 h3 h4 _ => ⟨_, .dict h1 h2 h3 (by rw [h4]; exact .nil) (by rw [h4]; exact .nil)⟩
theorem RdDs.reads {h : Heap} : ∀ {ds : List PyData} {vs : List Value}, RdDs h vs ds → ∃ as, ReadsAll h vs ds as
  | [], _, .nil => ⟨_, .nil⟩
  | _ :: _, _, .cons a b => by
    obtain ⟨as, r⟩ := RdD.reads a
    obtain ⟨bs, r2⟩ := RdDs.reads b
    exact ⟨_, .cons r r2⟩
end
section
variable {prog : Program} {w : World} {h₀ : Heap}
mutual
theorem reprK_rdd : ∀ {d : PyData} {v : Value}, RdD h₀ v d → d.showable = true → d.shown.length ≤ sizeLine → ∃ bs, ReadAtMost h₀ d.depth bs ∧ ReprK prog w bs h₀ d.depth v d.shown
  | .none, _, .none, _, _ => ⟨[], (fun _ h => nomatch h), by simp only [PyData.shown]; exact .of_is ReprIs.none _ _ _⟩
  | .bool _, _, .bool b, _, _ => ⟨[], (fun _ h => nomatch h), by simp only [PyData.shown]; exact .of_is (ReprIs.bool b) _ _ _⟩
  | .int _, _, .int i t, hs, _ => ⟨[], (fun _ h => nomatch h), by simp only [PyData.shown]; exact .of_is (ReprIs.int t (by simpa [PyData.showable] using hs)) _ _ _⟩
  | .str _, _, .str x t, _, hz => ⟨[], (fun _ h => nomatch h), by simp only [PyData.shown]; exact .of_is (ReprIs.str x t (by simpa only [PyData.shown] using hz)) _ _ _⟩
  | .list xs, _, .list (a := a) (vs := vs) h1 h2 h3 h4, hs, hz => by
    have hz' : (listText (PyData.shownAll xs)).length ≤ sizeLine := by simpa only [PyData.shown] using hz
    obtain ⟨bs, hb, hk⟩ := reprK_rdds h4 (by simpa [PyData.showable] using hs) (fun t ht => Nat.le_trans (listText_mem_le ht) hz')
    obtain ⟨as, r⟩ := RdD.reads (.list h1 h2 h3 h4)
    have hna : a ∉ bs := not_mem_of_deeper r (by simp only [PyData.depth]; omega) hb
    refine ⟨a :: bs, ReadAtMost.cons r (by simp only [PyData.depth]; omega) hb, ?_⟩
    simp only [PyData.depth, PyData.shown]
    obtain ⟨l⟩ := vs
    cases l with
    | nil =>
      have h4' : RdDs h₀ [] xs := h4
      cases h4'
      simp only [PyData.shownAll, listText_nil]
      exact ReprK.listEmpty h1 h2 h3
    | cons x l => exact ReprK.list h1 h2 h3 hna (by simpa using hk.length_eq) (fun i y e => hk.item i y (by simpa using e))
  | .tuple xs, _, .tuple (a := a) h1 h2 h3 h4, hs, hz => by
    have hz' : (tupleText (PyData.shownAll xs)).length ≤ sizeLine := by simpa only [PyData.shown] using hz
    obtain ⟨bs, hb, hk⟩ := reprK_rdds h4 (by simpa [PyData.showable] using hs) (fun t ht => Nat.le_trans (tupleText_mem_le ht) hz')
    obtain ⟨as, r⟩ := RdD.reads (.tuple h1 h2 h3 h4)
    have hna : a ∉ bs := not_mem_of_deeper r (by simp only [PyData.depth]; omega) hb
    refine ⟨a :: bs, ReadAtMost.cons r (by simp only [PyData.depth]; omega) hb, ?_⟩
    simp only [PyData.depth, PyData.shown]
    exact ReprK.tuple h1 h2 h3 hna hk
  | .dict _, _, .dict (a := a) (es := es) h1 h2 h3 h4 h5, hs, hz => by
    obtain ⟨as, r⟩ := RdD.reads (.dict h1 h2 h3 h4 h5)
    refine ⟨a :: [], ReadAtMost.cons r (Nat.zero_le _) (fun _ h => nomatch h), ?_⟩
    simp only [PyData.depth, PyData.shown, PyData.shownKv_eq]
    exact ReprK.dict (as := []) h1 h2 h3 h5 (by simp) (ReprEntriesK.of_two es.toList _ _ (by rw [h4]; exact .nil) (by rw [h4]; exact .nil))
theorem reprK_rdds : ∀ {ds : List PyData} {vs : List Value}, RdDs h₀ vs ds → PyData.showableAll ds = true → (∀ t ∈ PyData.shownAll ds, t.length ≤ sizeLine) →
    ∃ bs, ReadAtMost h₀ (PyData.depthAll ds) bs ∧ ReprAllK prog w bs h₀ (PyData.depthAll ds) vs (PyData.shownAll ds)
  | [], _, .nil, _, _ => ⟨[], (fun _ h => nomatch h), by simp only [PyData.shownAll]; exact .nil⟩
  | d :: ds, _, .cons r rs, hs, hz => by
    have hs' : d.showable = true ∧ PyData.showableAll ds = true := by simpa [PyData.showableAll] using hs
    obtain ⟨b1, hb1, k1⟩ := reprK_rdd r hs'.1 (hz _ (by simp only [PyData.shownAll]; exact List.mem_cons_self ..))
    obtain ⟨b2, hb2, k2⟩ := reprK_rdds rs hs'.2 (fun t ht => hz t (by simp only [PyData.shownAll]; exact List.mem_cons_of_mem _ ht))
    refine ⟨b1 ++ b2, ?_, ?_⟩
    · intro b hm
      simp only [PyData.depthAll]
      rcases List.mem_append.mp hm with hm | hm
      · obtain ⟨d', as', r', hd'⟩ := hb1 b hm
        exact ⟨d', as', r', Nat.le_trans hd' (Nat.le_max_left _ _)⟩
      · obtain ⟨d', as', r', hd'⟩ := hb2 b hm
        exact ⟨d', as', r', Nat.le_trans hd' (Nat.le_max_right _ _)⟩
    · simp only [PyData.depthAll, PyData.shownAll]
      exact .cons ((k1.more fun b hb => List.mem_append_left _ hb).level_le (Nat.le_max_left _ _)) (k2.more_le (fun b hb => List.mem_append_right _ hb) (Nat.le_max_right _ _))
end
theorem showsBy_rdd {a : Addr} {d : PyData} (r : RdD h₀ (.ref a) d) (hs : d.showable = true) (hsz : d.shown.length ≤ sizeLine) : ∃ T idr, ShowsBy prog w h₀ a d T idr := by
  cases r with
  | list h1 h2 h3 h4 =>
    rename_i o vs n xs
    have hz' : (listText (PyData.shownAll xs)).length ≤ sizeLine := by simpa only [PyData.shown] using hsz
    obtain ⟨bs, hb, hk⟩ := reprK_rdds (prog := prog) (w := w) h4 (by simpa [PyData.showable] using hs) (fun t ht => Nat.le_trans (listText_mem_le ht) hz')
    obtain ⟨as, r⟩ := RdD.reads (.list h1 h2 h3 h4)
    have hna : a ∉ bs := not_mem_of_deeper r (by simp only [PyData.depth]; omega) hb
    refine ⟨"list", "list.__repr__", F.slot_list_repr.toG, F.slot_list_str, F.slot_list_format, fun s hk0 => ⟨o, hk0 _ _ h1, h2⟩, fun A E s Q hg hu hk0 hQ => ?_⟩
    simp only [PyData.depth] at hu
    simp only [PyData.shown] at hQ
    obtain ⟨l⟩ := vs
    cases l with
    | nil =>
      have h4' : RdDs h₀ [] xs := h4
      cases h4'
      simp only [PyData.shownAll, listText_nil] at hQ
      exact call_list_repr_empty ⟨o, hk0 _ _ h1, h2⟩ (hk0 _ _ h1) h3 (hQ s.heap _ _ fun _ _ e => e)
    | cons x l =>
      exact call_list_reprK h1 h2 h3 hna (by simpa using hk.length_eq) (fun i y e => hk.item i y (by simpa using e)) hg (fun b _ => Clear.nil b) hu hk0 hQ hz'
  | tuple h1 h2 h3 h4 =>
    rename_i o vs n xs
    have hz' : (tupleText (PyData.shownAll xs)).length ≤ sizeLine := by simpa only [PyData.shown] using hsz
    obtain ⟨bs, hb, hk⟩ := reprK_rdds (prog := prog) (w := w) h4 (by simpa [PyData.showable] using hs) (fun t ht => Nat.le_trans (tupleText_mem_le ht) hz')
    obtain ⟨as, r⟩ := RdD.reads (.tuple h1 h2 h3 h4)
    have hna : a ∉ bs := not_mem_of_deeper r (by simp only [PyData.depth]; omega) hb
    refine ⟨"tuple", "tuple.__repr__", F.slot_tuple_repr, F.slot_tuple_str, F.slot_tuple_format, fun s hk0 => ⟨o, hk0 _ _ h1, h2⟩, fun A E s Q hg hu hk0 hQ => ?_⟩
    simp only [PyData.depth] at hu
    simp only [PyData.shown] at hQ
    exact call_tuple_reprK h1 h2 h3 hna hk hg (fun b _ => Clear.nil b) hu hk0 hQ hz'
  | dict h1 h2 h3 h4 h5 =>
    rename_i o es n
    refine ⟨"dict", "dict.__repr__", F.slot_dict_repr, F.slot_dict_str, F.slot_dict_format, fun s hk0 => ⟨o, hk0 _ _ h1, h2⟩, fun A E s Q hg hu hk0 hQ => ?_⟩
    simp only [PyData.depth] at hu
    simp only [PyData.shown, PyData.shownKv_eq] at hQ
    have hz' : (dictText (PyData.shownKv [])).length ≤ sizeLine := by simpa only [PyData.shown] using hsz
    exact call_dict_reprK (as := []) h1 h2 h3 h5 (by simp) (ReprEntriesK.of_two es.toList _ _ (by rw [h4]; exact .nil) (by rw [h4]; exact .nil)) hg (fun b _ => Clear.nil b) hu hk0 hQ (by rw [← PyData.shownKv_eq]; exact hz')
end
section
variable {X : Cx} {pins : List (Addr × Obj)} {σ : L2.St} {H : Hp} {s : Shared}
mutual
theorem Dq.rdd (I : Inv X pins σ H s) : ∀ (d : PyData) (v : V) (u : Value), Dq X.K H v d → RelV v u → RdD s.heap u d
  | .none, _, _, h, r => by
    cases h
    cases r
    exact .none
  | .bool b, _, _, h, r => by
    cases h
    cases r
    exact .bool b
  | .int i, _, _, h, r => by
    cases h
    obtain ⟨t, rfl⟩ := r
    exact .int i t
  | .str x, _, _, h, r => by
    cases h
    obtain ⟨t, rfl⟩ := r
    exact .str x t
  | .list ds, _, _, h, r => by
    cases h with
    | lst hs ha =>
      cases r
      obtain ⟨its, rv, ⟨o, n, ho, hc, _, hd⟩, _⟩ := I.list hs
      exact .list ho hc hd (Dq.rdds I ds _ its ha rv)
  | .tuple ds, _, _, h, r => by
    cases h with
    | tup hs ha =>
      cases r
      obtain ⟨its, rv, ⟨o, ho, hc, n, hd⟩, _⟩ := I.tuple hs
      exact .tuple ho hc hd (Dq.rdds I ds _ its ha rv)
  | .dict _, _, _, h, r => by
    cases h with
    | dic hx =>
      cases r
      obtain ⟨_, hn, vs, hk, o, es, ep, ho, hx2, hd, _, hp, _⟩ := dk_of I.hok hx
      cases hk
      refine .dict ho hx2.1 hd ?_ hn
      have := Pairs.length hp
      exact List.length_eq_zero_iff.mp this
theorem Dq.rdds (I : Inv X pins σ H s) : ∀ (ds : List PyData) (vs : List V) (us : List Value), DqAll X.K H vs ds → Vals vs us → RdDs s.heap us ds
  | [], _, _, h, r => by
    cases h
    cases r
    exact .nil
  | d :: ds, _, _, h, r => by
    cases h with
    | cons h1 h2 =>
      cases r with
      | cons r1 r2 => exact .cons (Dq.rdd I d _ _ h1 r1) (Dq.rdds I ds _ _ h2 r2)
end
end
def rReprQ (K : PySem.W.Frag) : List V → Hp → VK → Prop := fun vs H Q => ∃ (v : V) (d : PyData), vs = [v] ∧ Dq K H v d ∧ d.showable = true ∧ d.depth ≤ 60 ∧ d.shown.length ≤ sizeLine ∧ Q (.str d.shown) H
theorem cr_reprQ {X : Cx} (hg : X.A.guards = some []) (hu : X.A.units + 64 < cLine) : CallR X (.builtin "repr") (rReprQ X.K) := by
  intro pins s σ H vs us Q I r h
  obtain ⟨v, d, rfl, hd, hs, hz, hl, q⟩ := h
  obtain ⟨u, rfl, t⟩ := vals1 r
  have rd := Dq.rdd I d v u hd t
  cases rd with
  | none => simp only [PyData.shown] at q; exact PySem.P.repr_of_none ⟨.str _, H, I.tok (s.toks + 1), ⟨_, rfl⟩, q⟩
  | bool b => simp only [PyData.shown] at q; exact PySem.P.repr_of_bool ⟨.str _, H, I.tok (s.toks + 1), ⟨_, rfl⟩, q⟩
  | int i t => simp only [PyData.shown] at q; exact PySem.P.repr_of_int (by simpa [PyData.showable] using hs) ⟨.str _, H, I.tok (s.toks + 1), ⟨_, rfl⟩, q⟩
  | str x t => simp only [PyData.shown] at q hl; exact PySem.P.repr_of_str ⟨.str _, H, I.tok (s.toks + 1), ⟨_, rfl⟩, q⟩ hl
  | list h1 h2 h3 h4 =>
    obtain ⟨T, idr, S⟩ := showsBy_rdd (prog := X.prog) (w := X.w) (.list h1 h2 h3 h4) hs hl
    exact call_repr_slot (by omega) (S.typeIs s fun _ _ e => e) S.slotRepr (S.call _ _ s _ hg (by show X.A.units + 1 + _ < cLine; omega) (fun _ _ e => e) fun h' u tk hk => ⟨_, _, rfl, ⟨.str _, H, I.kept hk, ⟨_, rfl⟩, q⟩⟩)
  | tuple h1 h2 h3 h4 =>
    obtain ⟨T, idr, S⟩ := showsBy_rdd (prog := X.prog) (w := X.w) (.tuple h1 h2 h3 h4) hs hl
    exact call_repr_slot (by omega) (S.typeIs s fun _ _ e => e) S.slotRepr (S.call _ _ s _ hg (by show X.A.units + 1 + _ < cLine; omega) (fun _ _ e => e) fun h' u tk hk => ⟨_, _, rfl, ⟨.str _, H, I.kept hk, ⟨_, rfl⟩, q⟩⟩)
  | dict h1 h2 h3 h4 h5 =>
    obtain ⟨T, idr, S⟩ := showsBy_rdd (prog := X.prog) (w := X.w) (.dict h1 h2 h3 h4 h5) hs hl
    exact call_repr_slot (by omega) (S.typeIs s fun _ _ e => e) S.slotRepr (S.call _ _ s _ hg (by show X.A.units + 1 + _ < cLine; omega) (fun _ _ e => e) fun h' u tk hk => ⟨_, _, rfl, ⟨.str _, H, I.kept hk, ⟨_, rfl⟩, q⟩⟩)
end NG

namespace NG
open PySem PySem.Spec PyProof.Rows L2
/-! ### a heap without one object -/
def hide (a : Addr) (H : Hp) : Hp := fun b => if b = a then none else H b
theorem hide_ne {a b : Addr} {H : Hp} (h : b ≠ a) : hide a H b = H b := if_neg h
theorem hide_same {a : Addr} {H : Hp} : Same (hide a H) H := fun b o e => by
  unfold hide at e
  split at e
  · cases e
  · exact e
theorem hide_but {a : Addr} {H H' : Hp} (h : But a H H') : Same (hide a H) (hide a H') := fun b o e => by
  unfold hide at e ⊢
  split at e
  · cases e
  · rename_i hn
    rw [if_neg hn]
    exact h b o hn e
theorem hide_sqt {a p : Addr} {H : Hp} {K : PySem.W.Frag} {n : Nat} {xs : List V} (hh : HandAt H a n) (q : SqT K H p xs) : SqT K (hide a H) p xs := by
  obtain ⟨l, e⟩ := hh.some
  rcases q with (q | ⟨o, q⟩) | q
  · exact .inl (.inl ((hide_ne (ne_of q e (by intro z; cases z))).trans q))
  · exact .inl (.inr ⟨o, (hide_ne (ne_of q e (by intro z; cases z))).trans q⟩)
  · exact .inr q
theorem hide_at {a p : Addr} {H : Hp} {o : HO} (h : p ≠ a) (q : H p = some o) : hide a H p = some o := (hide_ne h).trans q
theorem Dq.shown {K : PySem.W.Frag} {H : Hp} {a : Addr} {d : PyData} {v : V} (h : Dq K (hide a H) v d) : Dq K H v d := dq_same hide_same h
theorem Dq.but {K : PySem.W.Frag} {H H' : Hp} {a : Addr} {d : PyData} {v : V} (h : Dq K (hide a H) v d) (b : But a H H') : Dq K (hide a H') v d := dq_same (hide_but b) h
theorem hide_same2 {a : Addr} {H H' : Hp} (h : Same H H') : Same (hide a H) (hide a H') := hide_but (But.of h)
/-! ### shown, of numbers below 10 ** 40 -/
theorem Shh.int40 {i : Int} (h : i.natAbs < 10 ^ 40) : Shh (.int i) 140 0 := by
  have hl : i.natAbs.log2 < 139 := PySem.Flt.log2_lt_of (by decide) (Nat.lt_trans h (by decide))
  refine ⟨?_, ?_, ?_, Nat.le_refl _⟩
  · show decide (i.natAbs.log2 < 1920) = true
    exact decide_eq_true (by omega)
  · show decide ((PyData.shown (.int i)).length ≤ 70) = true
    refine decide_eq_true ?_
    have e := int_text_length_le10 (k := 40) (by decide) h
    show (Str.ofString (toString i)).length ≤ 70
    rw [PySem.ofString_length]
    omega
  · show (if i == 0 then 0 else i.natAbs.log2 + 1) ≤ 140
    split <;> omega
theorem chars_of (s : String) : ((Str.ofString s).cps.toList.all fun c => decide (c < 16 ^ 8)) = true := by
  rw [Str.ofString_eq_toList, List.all_eq_true]
  intro c hc
  rw [List.toList_toArray] at hc
  obtain ⟨x, _, rfl⟩ := List.mem_map.mp hc
  have h := x.valid
  refine decide_eq_true ?_
  have : x.toNat < 4294967296 := x.val.toNat_lt
  omega
theorem Shh.sint {i : Int} (h : i.natAbs < 10 ^ 40) : Shh (.str (Str.ofString (toString i))) 41 0 := by
  refine ⟨rfl, chars_of _, ?_, Nat.le_refl _⟩
  have e := int_text_length_le10 (k := 40) (by decide) h
  show (Str.ofString (toString i)).length ≤ 41
  rw [PySem.ofString_length]
  exact e
theorem Shh.non : Shh .none 0 0 := ⟨rfl, rfl, Nat.le_refl _, Nat.le_refl _⟩
theorem Shh.bl (b : Bool) : Shh (.bool b) 0 0 := ⟨rfl, rfl, Nat.le_refl _, Nat.le_refl _⟩
theorem Shh.dic : Shh (.dict []) 0 1 := ⟨rfl, rfl, Nat.le_refl _, Nat.le_refl _⟩
theorem shh_all {f : PyData → Prop} {w k : Nat} : ∀ {ds : List PyData}, (∀ d ∈ ds, Shh d w k) → ShhAll ds (ds.length * (w + 1)) k
  | [], _ => by simpa using (ShhAll.nil : ShhAll [] 0 k)
  | d :: ds, h => by
    have h1 := h d List.mem_cons_self
    have h2 := shh_all (f := f) (ds := ds) fun x hx => h x (List.mem_cons_of_mem _ hx)
    refine (ShhAll.cons h1 h2 (Nat.le_refl _) (Nat.le_refl _)).mono ?_ (Nat.le_refl _)
    rw [List.length_cons, Nat.succ_mul]
    omega
end NG

set_option maxHeartbeats 2000000
namespace NG
open PySem PySem.Spec PyProof.Rows L2
/-! ### a written dict's keys: a text that may be none of them, None -/
def KdAt (K : PySem.W.Frag) (w : World) (d : Addr) : Prop := ∃ es n, K.lookup d = some ⟨.type "dict", none, .dict es n, #[]⟩ ∧ PySem.W.KeysLit w.params es.toList ∧ (d == sysModules) = false
def rInKq (K : PySem.W.Frag) (w : World) (neg : Bool) : R2 := fun x y H Q => ∃ d, y = .ref d ∧ KdAt K w d ∧ ((∃ z r, x = .str z ∧ PySem.W.nsIn K d z = some r ∧ Q (.bl (xor neg r.isSome)) H) ∨ (x = .non ∧ Q (.bl neg) H))
theorem none_mapK {P : Program} {w : World} {h : Heap} {K : PySem.W.Frag} {d : Addr} {es : Array DictEntry} {n : Nat} (X : K.In h) (hl : K.lookup d = some ⟨.type "dict", none, .dict es n, #[]⟩) (hk : PySem.W.KeysLit w.params es.toList) : ∃ f, h.MapOf (noneKind P w) d f ∧ f none = none := by
  refine ⟨fun k => findBy (noneKind P w).is es k, ⟨_, es, n, X _ _ hl, ⟨rfl, rfl, rfl⟩, rfl, fun e he => ?_, fun k => rfl⟩, ?_⟩
  · obtain ⟨x, t, e1, e2⟩ := hk.all e (Array.mem_toList_iff.mpr he)
    refine ⟨some (Sum.inr x), ?_, e2⟩
    rw [e1]
    exact kV_is (P := P) (w := w) (k := Sum.inr x) (u := .str x t) ⟨t, rfl⟩
  · have q : (es.find? fun e => nkIs none e.key) = none := by
      rw [Array.find?_eq_none]
      intro e he hq
      obtain ⟨x, t, e1, e2⟩ := hk.all e (Array.mem_toList_iff.mpr he)
      rw [e1] at hq
      cases hq
    show (es.find? fun e => nkIs none e.key).map (·.val) = none
    rw [q] <;> rfl
theorem op_inKq {X : Cx} : OpR X (compareOp .In) (rInKq X.K X.w false) := by
  intro pins s σ H x y v u Q I rx ry h
  obtain ⟨d, rfl, ⟨es, n, hl, hk, low⟩, h⟩ := h
  rcases h with ⟨z, r, rfl, e, q⟩ | ⟨rfl, q⟩
  · rw [Bool.false_xor] at q
    exact op_in_kd (X := X) ⟨hl, hk, low⟩ pins s σ H _ _ v u Q I rx ry ⟨z, r, rfl, rfl, e, q⟩
  · cases rx
    cases ry
    obtain ⟨f, hm, hf⟩ := none_mapK (P := X.prog) I.kIn hl hk
    refine wpAny_in_of (show (noneKind X.prog X.w).is none .none = true from rfl) low hm ?_
    rw [hf]
    exact ⟨.bl false, H, I.tok _, rfl, q⟩
theorem op_ninKq {X : Cx} : OpR X (compareOp .NotIn) (rInKq X.K X.w true) := by
  intro pins s σ H x y v u Q I rx ry h
  obtain ⟨d, rfl, ⟨es, n, hl, hk, low⟩, h⟩ := h
  rcases h with ⟨z, r, rfl, e, q⟩ | ⟨rfl, q⟩
  · rw [Bool.true_xor] at q
    exact op_notIn_kd (X := X) ⟨hl, hk, low⟩ pins s σ H _ _ v u Q I rx ry ⟨z, r, rfl, rfl, e, q⟩
  · cases rx
    cases ry
    obtain ⟨f, hm, hf⟩ := none_mapK (P := X.prog) I.kIn hl hk
    refine wpAny_notIn_of (show (noneKind X.prog X.w).is none .none = true from rfl) low hm ?_
    rw [hf]
    exact ⟨.bl true, H, I.tok _, rfl, q⟩
/-- what stands in the keys' row -/
def ktx (l : List DictEntry) : List (Option Str) := l.map fun e => match e.key with
  | .str x _ => some x
  | _ => none
theorem nsIn_absent {K : PySem.W.Frag} {w : World} {d : Addr} {es : Array DictEntry} {n : Nat} {x : Str} (hl : K.lookup d = some ⟨.type "dict", none, .dict es n, #[]⟩) (hk : PySem.W.KeysLit w.params es.toList) (h : some x ∉ ktx es.toList) : PySem.W.nsIn K d x = some none := by
  have key : ∀ e ∈ es.toList, e.key.isStr x = false ∧ e.refKey = false := fun e he => by
    obtain ⟨y, t, e1, e2⟩ := hk.all e he
    have hne : x ≠ y := fun z => h (by
      rw [z]
      exact List.mem_map.mpr ⟨e, he, by rw [e1]⟩)
    refine ⟨?_, ?_⟩
    · rw [e1]
      show (y == x) = false
      exact beq_eq_false_iff_ne.mpr fun z => hne z.symm
    · unfold DictEntry.refKey
      rw [e1]
  unfold PySem.W.nsIn
  rw [hl]
  dsimp only
  have h1 : es.toList.find? (·.key.isStr x) = none := List.find?_eq_none.mpr fun e he => by rw [(key e he).1]; exact Bool.false_ne_true
  rw [h1]
  dsimp only
  rw [if_neg]
  rw [List.any_eq_true]
  rintro ⟨e, he, q⟩
  rw [(key e he).2] at q
  cases q
/-! ### d.update(e), both with ints and texts as keys -/
def rDUpdate : V → List V → Hp → VK → Prop := fun x vs H Q => ∃ (a b : Addr) (ka kb : List (Key × V)), x = .ref a ∧ vs = [.ref b] ∧ a ≠ b ∧ H a = some (.dK ka) ∧ H b = some (.dK kb) ∧ ka.length + kb.length ≤ sizeLine ∧ Q .non (upd H a (.dK (mergeK ka kb)))
theorem mt_dupdate {X : Cx} : MtM X "dict.update" rDUpdate := by
  intro pins s σ H x vs v us Q I rx rv h
  obtain ⟨a, b, ka, kb, rfl, rfl, hab, ha, hb, hz, q⟩ := h
  cases rx
  obtain ⟨u, rfl, ru⟩ := rv.one
  cases ru
  obtain ⟨za, da, va, ra, dda⟩ := dk_of I.hok ha
  obtain ⟨zb, db, vb, rb, ddb⟩ := dk_of I.hok hb
  have l1 := ra.length
  have l2 := rb.length
  refine call_meetsIn F.slot_dict_update ?_ F.entry_dict_update ?_ (meets_dict_update (mixKind X.prog X.w) a b hab db) ⟨va, vb, dda, ddb, by omega, fun h' dd' _ hs => ?_⟩
  · exact let ⟨o, _, _, ho, hx, _⟩ := dda; ⟨o, ho, hx.1⟩
  · exact F.args_dict_update_2 _ _
  · have he : ∃ q, h'.get? a = some q := let ⟨q, _, _, hq, _⟩ := dd'; ⟨q, hq⟩
    have hl : (mergeK ka kb).length ≤ sizeLine := Nat.le_trans (length_mergeK kb ka) hz
    exact ⟨.non, _, d_write I (by rw [ha]; exact True.intro) hs he (dk_new hl da (KV.merge rb ra) dd'), rfl, q⟩
/-! ### t[::-1] of a tuple -/
theorem vals_rev' {xs : List V} {us : List Value} (r : Vals xs us) : Vals xs.reverse us.reverse := Vals.rev r
/-! ### t == () -/
def rEqE (K : PySem.W.Frag) : R2 := fun x y H Q => ∃ a b xs, x = .ref a ∧ y = .ref b ∧ SqT K H a xs ∧ SqT K H b [] ∧ Q (.bl xs.isEmpty) H
theorem op_eqE {X : Cx} (hu : X.A.units + 64 < cLine) : OpR X (compareOp .Eq) (rEqE X.K) := by
  intro pins s σ H x y v u Q I rx ry h
  obtain ⟨a, b, xs, rfl, rfl, ha, hb, q⟩ := h
  cases rx
  cases ry
  obtain ⟨its, r1, p1, _⟩ := I.tuple ha
  obtain ⟨its2, r2, p2, _⟩ := I.tuple hb
  cases r2
  refine PySem.W.eq_tuplesT (n := 0) (e := fun _ => true) p1 p2 (fun j h1 h2 => absurd h2 (by simp)) (by omega) ⟨.bl xs.isEmpty, H, I, ?_, q⟩
  have l := r1.length
  show Value.bool _ = Value.bool _
  cases xs with
  | nil => cases r1; rfl
  | cons z zs =>
    cases r1 with
    | cons _ _ => rfl
end NG

set_option maxHeartbeats 2000000
namespace NG
open PySem PySem.Spec PyProof.Rows L2
/-! ### zip of a text with a tuple -/
def sgV (x : Str) (i : Nat) : Option V := (x.cps[i]?).map fun c => V.str ⟨#[c]⟩
def ItST (K : PySem.W.Frag) (x : Str) (b : Addr) : It :=
  ⟨fun i H => ∃ (ws : List V) (u v : V), SqT K H b ws ∧ sgV x i = some u ∧ ws[i]? = some v,
   fun i H r H' => ∃ (T : Addr) (u v : V), r = .ref T ∧ H T = none ∧ H' = upd H T (.tup [u, v]) ∧ sgV x i = some u ∧ ∀ ws, SqT K H b ws → ws[i]? = some v,
   fun i H => ∃ ws : List V, SqT K H b ws ∧ x.cps.size = i ∧ ws.length = i⟩
theorem turn_ST {x0 : Str} {tk0 : Tok} {P : Program} {w : World} {K : PySem.W.Frag} {es : List Expr} {k : Nat} {ps : Pos} {b z TI TO i1 i2 : Addr} (S : ZipSep2 z TI TO i1 i2 [i1] [i2, b]) (nb : b ≠ i2) :
    Turn P w K (.Tuple es k ps) (ItST K x0 b) [z, TI, TO, i1, i2] z (fun i h => IsZip h z TI TO .none ∧ IsTupOf2 h TI (.ref i1) (.ref i2) ∧ (∃ c d, IsTupOf2 h TO c d) ∧ h.IsStrIter i1 (strIterType x0) x0 tk0 i ∧ h.IsTupleIter i2 b i) := by
  have five : ∀ {c : Addr}, c ∈ [z, TI, TO, i1, i2] → c = z ∨ c = TI ∨ c = TO ∨ c = i1 ∨ c = i2 := fun h => by simpa using h
  have lives : ∀ (i : Nat) (h : Heap), (IsZip h z TI TO .none ∧ IsTupOf2 h TI (.ref i1) (.ref i2) ∧ (∃ c d, IsTupOf2 h TO c d) ∧ h.IsStrIter i1 (strIterType x0) x0 tk0 i ∧ h.IsTupleIter i2 b i) → ∀ c ∈ [z, TI, TO, i1, i2], ∃ o, h.get? c = some o ∧ ∀ v, o.data ≠ .cell v := fun i h st c hc => by
    obtain ⟨s1, s2, ⟨x, y, s3⟩, ⟨o4, s4, _, d4⟩, ⟨o5, s5, _, d5⟩⟩ := st
    rcases five hc with rfl | rfl | rfl | rfl | rfl
    · exact ⟨_, s1, fun v q => nomatch q⟩
    · exact ⟨_, s2, fun v q => nomatch q⟩
    · exact ⟨_, s3, fun v q => nomatch q⟩
    · exact ⟨o4, s4, fun v q => by rw [d4] at q; exact nomatch q⟩
    · exact ⟨o5, s5, fun v q => by rw [d5] at q; exact nomatch q⟩
  refine ⟨List.mem_cons_self, lives, fun i h h' st kp => ?_, fun X eP ew eK hc i pins s σ H E I hf st hg => ?_, fun X eP ew eK hc i pins s σ H E I hf st hg => ?_, fun A i s Q E st q => wpAny_pyIter_zip st.1 q⟩
  · obtain ⟨s1, s2, ⟨x, y, s3⟩, s4, s5⟩ := st
    exact ⟨kp _ (by simp) _ s1, kp _ (by simp) _ s2, ⟨x, y, kp _ (by simp) _ s3⟩, let ⟨o, ho, r⟩ := s4; ⟨o, kp _ (by simp) o ho, r⟩, s5.at fun o q => kp _ (by simp) o q⟩
  · cases eP
    cases ew
    cases eK
    have lv := lives i _ st
    obtain ⟨s1, s2, s3, s4, s5⟩ := st
    obtain ⟨ws, u, v, qb, hu, hv⟩ := hg
    obtain ⟨lb, rb, pb, _⟩ := I.tuple qb
    obtain ⟨v', ev', rv⟩ := rb.get hv
    have W := WalksT.zipD2 (A := X.A) S (Draws.text (prog := X.prog) (w := X.w) (A := X.A.in1) (I.ok.hd hc) i1 x0 tk0) (Draws.tuple (A := X.A.in1) (I.ok.hd hc) i2 b nb lb.toArray)
    obtain ⟨c0, hc0, eu0⟩ : ∃ c, x0.cps[i]? = some c ∧ V.str ⟨#[c]⟩ = u := by
      unfold sgV at hu
      cases hq : x0.cps[i]? with
      | none => rw [hq] at hu; cases hu
      | some c => rw [hq] at hu; exact ⟨c, rfl, Option.some.inj hu⟩
    have il : i < x0.cps.size := (Array.getElem?_eq_some_iff.mp hc0).1
    have ir : i < lb.length := (List.getElem?_eq_some_iff.mp ev').1
    refine W.item i s _ E (by have hsz : lb.toArray.size = lb.length := List.size_toArray; omega) ⟨s1, s2, s3, s4, ⟨s5, pb⟩⟩ fun T vals h1 tk pv hT tT mid k1 => ⟨_, rfl, ?_⟩
    have apT := W.apart i T h1 mid
    refine W.go es k ps i T _ _ _ mid fun h2 st2 k2 => ?_
    obtain ⟨x1, x2, e1, e2, rfl⟩ := pv
    obtain ⟨c1, u1, hc1, ex1⟩ := e1
    have f1 : c1 = c0 := Option.some.inj (hc1.symm.trans hc0)
    have f2 : x2 = v' := by
      have := e2.symm.trans (show lb.toArray[i]? = some v' by simpa using ev')
      exact Option.some.inj this
    subst f1 f2 ex1
    have ru : RelV u (.str ⟨#[c1]⟩ u1) := by rw [← eu0]; exact ⟨u1, rfl⟩
    obtain ⟨z1, z2, z3, z4, ⟨z5, _⟩⟩ := st2
    have tT2 : h2.IsTuple T #[.str ⟨#[c1]⟩ u1, x2] := tT.at fun o e => k2 T o apT e
    have in5 : ∀ c, c ∉ [z, TI, TO, i1, i2] → c ∉ [z, TO, i1, i2] := fun c h m => h (by
      rcases (by simpa using m : c = z ∨ c = TO ∨ c = i1 ∨ c = i2) with rfl | rfl | rfl | rfl <;> simp)
    have J := I.turnedNew (h' := h2) (t' := tk) (ch := [z, TI, TO, i1, i2]) (T := T) (ob := .tup [u, v]) (fun c o hb' q => k2 c o (in5 c hb') (k1 c o (in5 c hb') q)) hf hT ⟨(by show 2 ≤ sizeLine; decide), [.str ⟨#[c1]⟩ u1, x2], .cons ru (.cons rv .nil), tT2⟩
    refine ⟨.ref T, _, J, rfl, ⟨T, u, v, rfl, I.hok.fresh hT, rfl, hu, fun l hl => ?_⟩, ⟨z1, z2, z3, z4, z5⟩, fun c hcm => ?_⟩
    · rw [I.tuple_inj hl qb]
      exact hv
    · obtain ⟨o, ho, _⟩ := lv c hcm
      have lt := Heap.lt_size ho
      rw [upd_ne (Nat.ne_of_lt (Nat.lt_of_lt_of_le lt hT))]
      exact (hf c hcm).1
  · cases eP
    cases ew
    cases eK
    obtain ⟨s1, s2, s3, s4, s5⟩ := st
    obtain ⟨ws, qb, e1, e2⟩ := hg
    obtain ⟨lb, rb, pb, _⟩ := I.tuple qb
    have W := WalksT.zipD2 (A := X.A) S (Draws.text (prog := X.prog) (w := X.w) (A := X.A.in1) (I.ok.hd hc) i1 x0 tk0) (Draws.tuple (A := X.A.in1) (I.ok.hd hc) i2 b nb lb.toArray)
    have l2 := rb.length
    have en : min x0.cps.size lb.toArray.size = i := by
      have hsz : lb.toArray.size = lb.length := List.size_toArray
      omega
    rw [en] at W
    refine W.done s _ E ⟨s1, s2, s3, s4, ⟨s5, pb⟩⟩ fun h1 tk k1 => ⟨rfl, ?_⟩
    exact I.turnedL (t' := tk) (ch := [z, TI, TO, i1, i2]) (fun c o hb' q => k1 c o (fun m => hb' (by rcases (by simpa using m : c = z ∨ c = TO ∨ c = i1 ∨ c = i2) with rfl | rfl | rfl | rfl <;> simp)) q) hf
def iZipST (K : PySem.W.Frag) (ta : TA) : TI := fun σ H R => ta σ H fun vs H1 => ∃ x b ws, vs = [.str x, .ref b] ∧ SqT K H1 b ws ∧ R (ItST K x b) H1
theorem pi_zipST {X : Cx} {e e2 : Expr} {ta : TA} {p pos tpos : Pos} {elts : List Expr} {kk : Nat} (hg : Gl X "zip") (hm : X.mg "zip" = none) (ha : PA X [e, e2] ta)
    (hs : starEach [e, e2] X.env = (false, eval e X.env) :: starEach [e2] X.env := by rfl) (hpl : (backTo pos (starEach [e2] X.env)).any (·.1) = false := by rfl) : PI X (.Tuple elts kk tpos) (.Call (.Name "zip" p) [e, e2] [] pos) (iZipST X.K ta) := by
  refine ⟨fun pins s σ H R I h => Call_ (ld_blt I hg hm PyProof.Rows.boot_zip (PyProof.Rows.callWith_type1 (thn (ha.run pos pins s σ H _ I h) fun us s1 ⟨vs, H1, I1, r1, q1⟩ => ?_) hs hpl))⟩
  obtain ⟨x0, b, wl, rfl, qb, q⟩ := q1
  obtain ⟨v1, v2, rfl, t1, t2⟩ := vals2 r1
  obtain ⟨tk0, rfl⟩ := t1
  cases t2
  obtain ⟨lb, rb, pb, _⟩ := I1.tuple qb
  obtain ⟨ob, hob, _⟩ := id pb
  have lt2 : b < s1.heap.objs.size := Heap.lt_size hob
  refine zip_begins2 (begins_text x0 tk0) (begins_tuple b lb.toArray) trivial pb fun h' hz hTI hTO g1 g2 hsz hk => wpAny_pyIter_zip hz ?_
  have J : Inv X pins σ H1 { s1 with heap := h' } := I1.kept (t' := s1.toks) hk
  have S := zip_sep2 (N := s1.heap.objs.size) (fp1 := []) (fp2 := [b]) (fun c hc => absurd hc (by simp)) (fun c hc => by rw [List.mem_singleton.mp hc]; exact lt2)
  refine ⟨_, _, _, _, H1, rfl, J, turn_ST S (Nat.ne_of_lt (Nat.lt_succ_of_lt lt2)), ⟨hz, hTI, ⟨_, _, hTO⟩, ⟨_, g1, rfl, rfl⟩, ⟨_, g2, rfl, rfl⟩⟩, fun c hcm => ?_, q⟩
  have le : s1.heap.objs.size ≤ c := by
    rcases (by simpa using hcm : c = s1.heap.objs.size + 4 ∨ c = s1.heap.objs.size + 2 ∨ c = s1.heap.objs.size + 3 ∨ c = s1.heap.objs.size ∨ c = s1.heap.objs.size + 1) with e | e | e | e | e <;> (rw [e]; first | exact Nat.le_refl _ | exact Nat.le_add_right _ _)
  exact I1.fpOk le (I1.hok.fresh le)
theorem walk_ST {K : PySem.W.Frag} {x : Str} {b : Addr} {ws : List V} {n : Nat} (hx : x.cps.size = n) (hy : ws.length = n) : Walk (ItST K x b) n (fun H => SqT K H b ws) (YPair (fun i => sgV x i) (fun i => ws[i]?)) := by
  refine ⟨fun i H hi q => ⟨ws, V.str ⟨#[x.cps[i]'(by omega)]⟩, ws[i]'(by omega), q, ?_, List.getElem?_eq_getElem _⟩, fun H q => ⟨ws, q, hx, hy⟩, fun i H v H' hi q y => ?_⟩
  · unfold sgV
    rw [Array.getElem?_eq_getElem (by omega)]
    rfl
  · obtain ⟨T, x, z, h1, h2, h3, h4, h5⟩ := y
    exact ⟨T, x, z, h1, h2, h3, h4, h5 ws q⟩
end NG

set_option maxHeartbeats 2000000
namespace PySem
namespace HT
open PySem PySem.Spec PyProof.Rows
theorem filterMap_same {α β : Type} {f g : α → Option β} : ∀ {l : List α}, (∀ m ∈ l, f m = g m) → l.filterMap f = l.filterMap g
  | [], _ => rfl
  | x :: l, h => by
    rw [List.filterMap_cons, List.filterMap_cons, h x List.mem_cons_self, filterMap_same fun m hm => h m (List.mem_cons_of_mem _ hm)]
section
variable {prog : Program} {w : World} {A : Around} {E : Value → Shared → Prop} {s : Shared}
theorem sliceApplied_rev {sl : Addr} {t0 : Tok} {n : Nat} {Q : Int × Int × Nat → Shared → Prop} (hs : s.heap.IsSliceOf sl .none .none (.int (-1) t0))
    (h : Q ((n : Int) - 1, -1, n) s) : wpAny (model prog w) A (Builtin.Slice.sliceApplied (.ref sl) (pure (n : Int))) Q E s := by
  obtain ⟨os, hos, hcs, hds⟩ := id hs
  unfold Builtin.Slice.sliceApplied Builtin.Slice.sliceFields
  refine wpAny_bind (wpAny_bind (wpAny_field hos hds (x := .none) rfl (wpAny_bind (wpAny_field hos hds (x := .none) rfl (wpAny_bind (wpAny_field hos hds (x := .int (-1) t0) rfl (wpAny_pure ?_)))))))
  refine wpAny_bind (slicePart_int ?_)
  show wpAny _ _ (if ((-1 : Int) == 0) = true then _ else _) _ _ s
  rw [if_neg (by decide)]
  refine wpAny_bind (slicePart_none (wpAny_bind (slicePart_none (wpAny_bind (wpAny_pure ?_)))))
  show wpAny _ _ (match Builtin.Slice.sliceAdjust none none (-1) (n : Int) with | (lo, hi) => pure (lo, (-1 : Int), Builtin.Slice.slicePlaces lo hi (-1))) _ _ s
  have e : Builtin.Slice.sliceAdjust none none (-1) (n : Int) = ((n : Int) - 1, -1) := by
    unfold Builtin.Slice.sliceAdjust
    simp
  rw [e]
  show wpAny _ _ (pure ((n : Int) - 1, (-1 : Int), Builtin.Slice.slicePlaces ((n : Int) - 1) (-1) (-1))) _ _ s
  have e2 : Builtin.Slice.slicePlaces ((n : Int) - 1) (-1) (-1) = n := by
    unfold Builtin.Slice.slicePlaces
    simp
    omega
  rw [e2]
  exact wpAny_pure h
theorem pick_rev (xs : Array Value) : ((List.range xs.size).filterMap fun (m : Nat) => xs[(((xs.size : Int) - 1) + (m : Int) * (-1)).toNat]?).toArray = xs.toList.reverse.toArray := by
  have e : ((List.range xs.size).filterMap fun (m : Nat) => xs[(((xs.size : Int) - 1) + (m : Int) * (-1)).toNat]?) = ((List.range xs.size).map fun k => xs.size - 1 - k).filterMap (xs[·]?) := by
    rw [List.filterMap_map]
    refine filterMap_same fun m hm => ?_
    have hm := List.mem_range.mp hm
    show xs[(((xs.size : Int) - 1) + (m : Int) * (-1)).toNat]? = xs[xs.size - 1 - m]?
    congr 1
    omega
  rw [e, PySem.W.krv_range, List.filterMap_reverse, PySem.W.krv_all]
theorem getItem_tuple_rev {t sl : Addr} {t0 : Tok} {items : Array Value} {Q : Value → Shared → Prop} (ht : IsTup s.heap t items) (hs : s.heap.IsSliceOf sl .none .none (.int (-1) t0))
    (h : Q (.ref s.heap.objs.size) { s with heap := s.heap.push { cls := .type "tuple", data := .seq items.toList.reverse.toArray } })
    (hsz : items.size ≤ sizeLine) : wpAny (model prog w) A (getItem (.ref t) (.ref sl)) Q E s := by
  have htake : sizeOk (.seq items.toList.reverse.toArray) := by
    show items.toList.reverse.toArray.size ≤ sizeLine
    rw [List.size_toArray, List.length_reverse, Array.length_toList]
    exact hsz
  obtain ⟨os, hos, hcs, hds⟩ := id hs
  have hTs : s.TypeIs (.ref sl) "slice" := ⟨os, hos, hcs⟩
  unfold getItem
  try with_reducible refine wpAny_holding ?_
  first | refine wpAny_bind (wpAny_pure ?_) | skip
  refine wpAny_bind (wpAny_sequenceKey ht.typeIs (by decide) ?_)
  refine wpAny_bind (wpAny_callSpecial?_slot (name := Str.ofString "__getitem__") ht.typeIs PyProof.Rows.slot_tuple_getitem
    (wpAny_call_entry PyProof.Rows.slot_tuple_getitem ht.typeIs entry_tuple_getitem ?_ (args_tuple_getitem _ _)))
  show wpAny _ _ (Builtin.Tuple.tupleItemsOf (.ref t) >>= _) _ _ s
  refine wpAny_bind (tupleItemsOf_ ht ?_)
  refine wpAny_bind (wpAny_typeOf hTs ?_)
  rw [if_pos (by decide)]
  refine wpAny_bind (sliceApplied_rev hs ?_)
  show wpAny _ _ (if ((((items.size : Int) - 1) == 0 && (-1 : Int) == 1 && items.size == items.size)) = true then _ else _) _ _ s
  rw [if_neg (by simp), pick_rev]
  first
    | exact wpAny_bind (m := Builtin.Tuple.tupleExact _) (wpAny_newObj_type (wpAny_pure ⟨_, rfl, wpAny_pure h⟩) htake)
    | exact wpAny_bind (m := Builtin.Tuple.tupleExact _) (wpAny_newObj_type (wpAny_bind (wpAny_pure (wpAny_pure ⟨_, rfl, wpAny_pure h⟩))) htake)
    | exact wpAny_bind (wpAny_bind (m := Builtin.Tuple.tupleExact _) (wpAny_newObj_type (wpAny_pure (wpAny_pure ⟨_, rfl, wpAny_pure h⟩)) htake))
    | exact wpAny_bind (wpAny_bind (m := Builtin.Tuple.tupleExact _) (wpAny_newObj_type (wpAny_pure ⟨_, rfl, wpAny_pure h⟩) htake))
end
end HT
end PySem
namespace NG
open PySem PySem.Spec PyProof.Rows L2
/-! ### a def without parameters -/
theorem pe_c0 {X : Cx} {k j : Nat} {x : Str} {sp : Sp} {p pos : Pos} (c : Cal X.prog X.w X.K X.mg X.base k x sp) (hr : Room j X.A) (hk : k ≤ j) (hg : Gl X x) (hdb : (x == ("__debug__" : Str)) = false := by decide) : PE X (.Call (.Name x p) [] [] pos) (tCall sp [] E0 tNil) := by
  obtain ⟨f, fd, ps, F, hm, kp, b⟩ := c.ex
  exact pe_call0 F (hr.mono hk) hg hm kp b .nil pass0 hdb
/-! ### t[::-1] of a tuple -/
theorem pe_revT {X : Cx} {e st : Expr} {te ts : TE} {pos p2 : Pos} (he : PE X e te) (hs : PE X st ts) : PE X (.Subscript e (.Slice none none (some st) p2) pos)
    (fun σ H Q => te σ H fun x H1 => ts σ H1 fun y H2 => y = .int (-1) ∧ ∃ a xs, x = .ref a ∧ SqT X.K H2 a xs ∧ ∀ p, H2 p = none → Q (.ref p) (upd H2 p (.tup xs.reverse))) := by
  refine ⟨fun pins s σ H Q I h => ?_⟩
  refine Subscript_ (thn (he.run pins s σ H _ I h) fun v s1 ⟨x, H1, I1, r1, q1⟩ => ?_)
  refine wpAny_Slice ?_
  rw [evalPart_none]
  refine wpAny_pure (wpAny_pure ?_)
  rw [evalPart_some]
  refine thn (hs.run pins s1 σ H1 _ I1 q1) fun vk s2 ⟨y, H2, I2, r2, q2⟩ => ?_
  obtain ⟨rfl, a, xs, rfl, hx, q⟩ := q2
  obtain ⟨t, rfl⟩ := r2
  cases r1
  have I3 : Inv X pins σ H2 { s2 with heap := s2.heap.push { cls := .type "slice", data := .fields #[.none, .none, .int (-1) t] } } := I2.kept (t' := s2.toks) fun b ob q => Heap.get?_push_of_some _ q
  obtain ⟨its', rv', ht', hz'⟩ := I3.tuple hx
  have hl := rv'.length
  refine tail_any (ops := [.ref a, .ref s2.heap.objs.size]) ht'.typeIs PyProof.Rows.slot_tuple_getitem.lookup ?_ (by with_unfolding_all rfl)
  refine PySem.HT.getItem_tuple_rev ht' (Heap.IsSliceOf.new ..) ?_ (by rw [List.size_toArray]; omega)
  refine ⟨.ref _, _, I3.laid (t' := s2.toks) (o := .tup xs.reverse) (fun b ob q => Heap.get?_push_of_some _ q) (Nat.le_refl _) ?_, rfl, q _ (I3.hok.fresh (Nat.le_refl _))⟩
  exact ⟨by rw [List.length_reverse]; exact hz', its'.reverse, Vals.rev rv', IsTup.new _ _⟩
end NG

namespace NG
open PySem PySem.Spec PyProof.Rows L2
def topS (i : Nat) : Stmt := PySem.Challenge.pw_nonegrowsrich_k19_doubters_of_anything.main.body.getD i (.Pass ⟨0, 0, 0, 0⟩)
abbrev s_is_number : Stmt := topS 1
abbrev N_is_number : List Str := ["thing"]
theorem sc_is_number : FnScope ["thing"] ["thing"] (defScope s_is_number) := ⟨rfl, rfl, rfl, by decide +kernel, rfl, by decide +kernel, by decide +kernel⟩
abbrev s_is_within : Stmt := topS 2
abbrev N_is_within : List Str := ["thing", "low", "high"]
theorem sc_is_within : FnScope ["thing", "low", "high"] ["thing", "low", "high"] (defScope s_is_within) := ⟨rfl, rfl, rfl, by decide +kernel, rfl, by decide +kernel, by decide +kernel⟩
abbrev s_fits : Stmt := topS 9
abbrev N_fits : List Str := ["kind", "thing", "many", "low", "high"]
theorem sc_fits : FnScope ["kind", "thing", "many", "low", "high"] ["kind", "thing", "many"] (defScope s_fits) := ⟨rfl, rfl, rfl, by decide +kernel, rfl, by decide +kernel, by decide +kernel⟩
abbrev s_first_word : Stmt := topS 10
abbrev N_first_word : List Str := ["thing"]
theorem sc_first_word : FnScope ["thing"] ["thing"] (defScope s_first_word) := ⟨rfl, rfl, rfl, by decide +kernel, rfl, by decide +kernel, by decide +kernel⟩
abbrev s_fits_shape : Stmt := topS 11
abbrev N_fits_shape : List Str := ["thing", "shape", "many", "kind", "item"]
theorem sc_fits_shape : FnScope ["thing", "shape", "many", "kind", "item"] ["thing", "shape", "many"] (defScope s_fits_shape) := ⟨rfl, rfl, rfl, by decide +kernel, rfl, by decide +kernel, by decide +kernel⟩
abbrev s_has_shape : Stmt := topS 12
abbrev N_has_shape : List Str := ["thing", "many", "word"]
theorem sc_has_shape : FnScope ["thing", "many", "word"] ["thing", "many"] (defScope s_has_shape) := ⟨rfl, rfl, rfl, by decide +kernel, rfl, by decide +kernel, by decide +kernel⟩
abbrev s_is_registers : Stmt := topS 13
abbrev N_is_registers : List Str := ["thing", "low", "high", "number"]
theorem sc_is_registers : FnScope ["thing", "low", "high", "number"] ["thing"] (defScope s_is_registers) := ⟨rfl, rfl, rfl, by decide +kernel, rfl, by decide +kernel, by decide +kernel⟩
abbrev s_parts : Stmt := topS 14
abbrev N_parts : List Str := ["expression", "shape", "kind", "item"]
theorem sc_parts : FnScope ["expression", "shape", "kind", "item"] ["expression"] (defScope s_parts) := ⟨rfl, rfl, rfl, by decide +kernel, rfl, by decide +kernel, by decide +kernel⟩
abbrev s_count_parts : Stmt := topS 15
abbrev N_count_parts : List Str := ["thing", "many", "deep", "total", "part", "inside"]
theorem sc_count_parts : FnScope ["thing", "many", "deep", "total", "part", "inside"] ["thing", "many", "deep"] (defScope s_count_parts) := ⟨rfl, rfl, rfl, by decide +kernel, rfl, by decide +kernel, by decide +kernel⟩
abbrev s_is_expression : Stmt := topS 16
abbrev N_is_expression : List Str := ["thing", "many"]
theorem sc_is_expression : FnScope ["thing", "many"] ["thing", "many"] (defScope s_is_expression) := ⟨rfl, rfl, rfl, by decide +kernel, rfl, by decide +kernel, by decide +kernel⟩
abbrev s_join_spans : Stmt := topS 17
abbrev N_join_spans : List Str := ["word", "first", "second", "low", "high", "lower", "higher"]
theorem sc_join_spans : FnScope ["word", "first", "second", "low", "high", "lower", "higher"] ["word", "first", "second"] (defScope s_join_spans) := ⟨rfl, rfl, rfl, by decide +kernel, rfl, by decide +kernel, by decide +kernel⟩
abbrev s_span : Stmt := topS 18
abbrev N_span : List Str := ["expression", "word", "spans", "part", "ends", "end", "furthest"]
theorem sc_span : FnScope ["expression", "word", "spans", "part", "ends", "end", "furthest"] ["expression"] (defScope s_span) := ⟨rfl, rfl, rfl, by decide +kernel, rfl, by decide +kernel, by decide +kernel⟩
abbrev s_is_name : Stmt := topS 27
abbrev N_is_name : List Str := ["thing", "letter"]
theorem sc_is_name : FnScope ["thing", "letter"] ["thing"] (defScope s_is_name) := ⟨rfl, rfl, rfl, by decide +kernel, rfl, by decide +kernel, by decide +kernel⟩
abbrev s_power : Stmt := topS 28
abbrev N_power : List Str := ["scale"]
theorem sc_power : FnScope ["scale"] ["scale"] (defScope s_power) := ⟨rfl, rfl, rfl, by decide +kernel, rfl, by decide +kernel, by decide +kernel⟩
abbrev s_count_deed : Stmt := topS 29
abbrev N_count_deed : List Str := ["thing", "many", "deep", "word", "total", "inner", "inside"]
theorem sc_count_deed : FnScope ["thing", "many", "deep", "word", "total", "inner", "inside"] ["thing", "many", "deep"] (defScope s_count_deed) := ⟨rfl, rfl, rfl, by decide +kernel, rfl, by decide +kernel, by decide +kernel⟩
abbrev s_count_deeds : Stmt := topS 30
abbrev N_count_deeds : List Str := ["thing", "many", "deep", "total", "deed", "inside"]
theorem sc_count_deeds : FnScope ["thing", "many", "deep", "total", "deed", "inside"] ["thing", "many", "deep"] (defScope s_count_deeds) := ⟨rfl, rfl, rfl, by decide +kernel, rfl, by decide +kernel, by decide +kernel⟩
abbrev s_is_stake : Stmt := topS 31
abbrev N_is_stake : List Str := ["thing", "scale", "many", "low", "high", "widest"]
theorem sc_is_stake : FnScope ["thing", "scale", "many", "low", "high", "widest"] ["thing", "scale", "many"] (defScope s_is_stake) := ⟨rfl, rfl, rfl, by decide +kernel, rfl, by decide +kernel, by decide +kernel⟩
abbrev s_are_stakes : Stmt := topS 32
abbrev N_are_stakes : List Str := ["thing", "scale", "many", "stake"]
theorem sc_are_stakes : FnScope ["thing", "scale", "many", "stake"] ["thing", "scale", "many"] (defScope s_are_stakes) := ⟨rfl, rfl, rfl, by decide +kernel, rfl, by decide +kernel, by decide +kernel⟩
abbrev s_are_behinds : Stmt := topS 33
abbrev N_are_behinds : List Str := ["thing", "many", "deeds"]
theorem sc_are_behinds : FnScope ["thing", "many", "deeds"] ["thing", "many"] (defScope s_are_behinds) := ⟨rfl, rfl, rfl, by decide +kernel, rfl, by decide +kernel, by decide +kernel⟩
abbrev s_is_doubter : Stmt := topS 34
abbrev N_is_doubter : List Str := ["thing", "many", "name", "scale", "begins", "stakes", "behinds"]
theorem sc_is_doubter : FnScope ["thing", "many", "name", "scale", "begins", "stakes", "behinds"] ["thing", "many"] (defScope s_is_doubter) := ⟨rfl, rfl, rfl, by decide +kernel, rfl, by decide +kernel, by decide +kernel⟩
abbrev s_L_hand : Stmt := topS 36
abbrev N_L_hand : List Str := ["_law_script", "_law_k", "_law_cell", "_law_great"]
theorem sc_L_hand : FnScope ["_law_script", "_law_k", "_law_cell", "_law_great"] ["_law_script", "_law_k"] (defScope s_L_hand) := ⟨rfl, rfl, rfl, by decide +kernel, rfl, by decide +kernel, by decide +kernel⟩
abbrev s_L_take : Stmt := topS 37
abbrev N_L_take : List Str := ["_law_hand_here", "_law_wide", "_law_digit", "_law_primes", "_law_prime", "_law_drawn"]
theorem sc_L_take : FnScope ["_law_hand_here", "_law_wide", "_law_digit", "_law_primes", "_law_prime", "_law_drawn"] ["_law_hand_here", "_law_wide"] (defScope s_L_take) := ⟨rfl, rfl, rfl, by decide +kernel, rfl, by decide +kernel, by decide +kernel⟩
abbrev s_L_of : Stmt := topS 38
abbrev N_L_of : List Str := ["_law_hand_here", "_law_some"]
theorem sc_L_of : FnScope ["_law_hand_here", "_law_some"] ["_law_hand_here", "_law_some"] (defScope s_L_of) := ⟨rfl, rfl, rfl, by decide +kernel, rfl, by decide +kernel, by decide +kernel⟩
abbrev s_L_figure : Stmt := topS 39
abbrev N_L_figure : List Str := ["_law_hand_here", "_law_some"]
theorem sc_L_figure : FnScope ["_law_hand_here", "_law_some"] ["_law_hand_here"] (defScope s_L_figure) := ⟨rfl, rfl, rfl, by decide +kernel, rfl, by decide +kernel, by decide +kernel⟩
abbrev s_L_registers : Stmt := topS 40
abbrev N_L_registers : List Str := ["_law_hand_here", "_law_turn"]
theorem sc_L_registers : FnScope ["_law_hand_here", "_law_turn"] ["_law_hand_here"] (defScope s_L_registers) := ⟨rfl, rfl, rfl, by decide +kernel, rfl, by decide +kernel, by decide +kernel⟩
abbrev s_L_leaf : Stmt := topS 41
abbrev N_L_leaf : List Str := ["_law_hand_here", "_law_wide", "_law_sort"]
theorem sc_L_leaf : FnScope ["_law_hand_here", "_law_wide", "_law_sort"] ["_law_hand_here", "_law_wide"] (defScope s_L_leaf) := ⟨rfl, rfl, rfl, by decide +kernel, rfl, by decide +kernel, by decide +kernel⟩
abbrev s_L_expression : Stmt := topS 42
abbrev N_L_expression : List Str := ["_law_hand_here", "_law_wide", "_law_level", "_law_jumps", "_law_words", "_law_word", "_law_one", "_law_other", "_law_grains"]
theorem sc_L_expression : FnScope ["_law_hand_here", "_law_wide", "_law_level", "_law_jumps", "_law_words", "_law_word", "_law_one", "_law_other", "_law_grains"] ["_law_hand_here", "_law_wide", "_law_level", "_law_jumps"] (defScope s_L_expression) := ⟨rfl, rfl, rfl, by decide +kernel, rfl, by decide +kernel, by decide +kernel⟩
abbrev s_L_stake : Stmt := topS 43
abbrev N_L_stake : List Str := ["_law_hand_here", "_law_wide", "_law_level", "_law_jumps", "_law_far", "_law_inner"]
theorem sc_L_stake : FnScope ["_law_hand_here", "_law_wide", "_law_level", "_law_jumps", "_law_far", "_law_inner"] ["_law_hand_here", "_law_wide", "_law_level", "_law_jumps"] (defScope s_L_stake) := ⟨rfl, rfl, rfl, by decide +kernel, rfl, by decide +kernel, by decide +kernel⟩
abbrev s_L_deeds : Stmt := topS 44
abbrev N_L_deeds : List Str := ["_law_hand_here", "_law_wide", "_law_deep", "_law_found", "_law_turn", "_law_i", "_law_word", "_law_parts"]
theorem sc_L_deeds : FnScope ["_law_hand_here", "_law_wide", "_law_deep", "_law_found", "_law_turn", "_law_i", "_law_word", "_law_parts"] ["_law_hand_here", "_law_wide", "_law_deep"] (defScope s_L_deeds) := ⟨rfl, rfl, rfl, by decide +kernel, rfl, by decide +kernel, by decide +kernel⟩
abbrev s_L_doubter : Stmt := topS 45
abbrev N_L_doubter : List Str := ["_law_hand_here", "_law_wide", "_law_level", "_law_jumps", "_law_name_here", "_law_scale", "_law_stakes", "_law_face", "_law_behinds"]
theorem sc_L_doubter : FnScope ["_law_hand_here", "_law_wide", "_law_level", "_law_jumps", "_law_name_here", "_law_scale", "_law_stakes", "_law_face", "_law_behinds"] ["_law_hand_here", "_law_wide", "_law_level", "_law_jumps"] (defScope s_L_doubter) := ⟨rfl, rfl, rfl, by decide +kernel, rfl, by decide +kernel, by decide +kernel⟩
abbrev s_L_whole : Stmt := topS 46
abbrev N_L_whole : List Str := ["_law_lump", "_law_low", "_law_high"]
theorem sc_L_whole : FnScope ["_law_lump", "_law_low", "_law_high"] ["_law_lump", "_law_low", "_law_high"] (defScope s_L_whole) := ⟨rfl, rfl, rfl, by decide +kernel, rfl, by decide +kernel, by decide +kernel⟩
abbrev s_L_heads : Stmt := topS 47
abbrev N_L_heads : List Str := ["_law_word", "_law_wide", "_law_figure_here", "_law_peg", "_law_face", "_law_some", "_law_pair"]
theorem sc_L_heads : FnScope ["_law_word", "_law_wide", "_law_figure_here", "_law_peg", "_law_face", "_law_some", "_law_pair"] ["_law_word", "_law_wide"] (defScope s_L_heads) := ⟨rfl, rfl, rfl, by decide +kernel, rfl, by decide +kernel, by decide +kernel⟩
abbrev s_L_count : Stmt := topS 48
abbrev N_L_count : List Str := ["_law_lump", "_law_wide", "_law_deep", "_law_told", "_law_number", "_law_low", "_law_high", "_law_part"]
theorem sc_L_count : FnScope ["_law_lump", "_law_wide", "_law_deep", "_law_told", "_law_number", "_law_low", "_law_high", "_law_part"] ["_law_lump", "_law_wide", "_law_deep"] (defScope s_L_count) := ⟨rfl, rfl, rfl, by decide +kernel, rfl, by decide +kernel, by decide +kernel⟩
abbrev s_L_span : Stmt := topS 49
abbrev N_L_span : List Str := ["_law_phrase", "_law_word", "_law_spans", "_law_part", "_law_low", "_law_high", "_law_far", "_law_ends", "_law_other", "_law_some"]
theorem sc_L_span : FnScope ["_law_phrase", "_law_word", "_law_spans", "_law_part", "_law_low", "_law_high", "_law_far", "_law_ends", "_law_other", "_law_some"] ["_law_phrase"] (defScope s_L_span) := ⟨rfl, rfl, rfl, by decide +kernel, rfl, by decide +kernel, by decide +kernel⟩
abbrev s_L_deeds_in : Stmt := topS 50
abbrev N_L_deeds_in : List Str := ["_law_lump", "_law_wide", "_law_deep", "_law_found", "_law_deed", "_law_ends", "_law_part"]
theorem sc_L_deeds_in : FnScope ["_law_lump", "_law_wide", "_law_deep", "_law_found", "_law_deed", "_law_ends", "_law_part"] ["_law_lump", "_law_wide", "_law_deep"] (defScope s_L_deeds_in) := ⟨rfl, rfl, rfl, by decide +kernel, rfl, by decide +kernel, by decide +kernel⟩
abbrev s_L_is_stake : Stmt := topS 51
abbrev N_L_is_stake : List Str := ["_law_lump", "_law_wide", "_law_scale", "_law_low", "_law_high", "_law_far"]
theorem sc_L_is_stake : FnScope ["_law_lump", "_law_wide", "_law_scale", "_law_low", "_law_high", "_law_far"] ["_law_lump", "_law_wide", "_law_scale"] (defScope s_L_is_stake) := ⟨rfl, rfl, rfl, by decide +kernel, rfl, by decide +kernel, by decide +kernel⟩
abbrev s_L_is_doubter : Stmt := topS 52
abbrev N_L_is_doubter : List Str := ["_law_lump", "_law_wide", "_law_name_here", "_law_scale", "_law_begins", "_law_stakes", "_law_behinds", "_law_face", "_law_part", "_law_number", "_law_stake_here", "_law_deeds_here"]
theorem sc_L_is_doubter : FnScope ["_law_lump", "_law_wide", "_law_name_here", "_law_scale", "_law_begins", "_law_stakes", "_law_behinds", "_law_face", "_law_part", "_law_number", "_law_stake_here", "_law_deeds_here"] ["_law_lump", "_law_wide"] (defScope s_L_is_doubter) := ⟨rfl, rfl, rfl, by decide +kernel, rfl, by decide +kernel, by decide +kernel⟩
abbrev s_L_name : Stmt := topS 53
abbrev N_L_name : List Str := ["_law_hand_here", "_law_some", "_law_letters", "_law_size", "_law_turn"]
theorem sc_L_name : FnScope ["_law_hand_here", "_law_some", "_law_letters", "_law_size", "_law_turn"] ["_law_hand_here"] (defScope s_L_name) := ⟨rfl, rfl, rfl, by decide +kernel, rfl, by decide +kernel, by decide +kernel⟩
abbrev s_L_odd : Stmt := topS 54
abbrev N_L_odd : List Str := ["_law_hand_here", "_law_lump", "_law_some"]
theorem sc_L_odd : FnScope ["_law_hand_here", "_law_lump", "_law_some"] ["_law_hand_here", "_law_lump"] (defScope s_L_odd) := ⟨rfl, rfl, rfl, by decide +kernel, rfl, by decide +kernel, by decide +kernel⟩
abbrev s_L_bent : Stmt := topS 55
abbrev N_L_bent : List Str := ["_law_hand_here", "_law_lump", "_law_room", "_law_at", "_law_way"]
theorem sc_L_bent : FnScope ["_law_hand_here", "_law_lump", "_law_room", "_law_at", "_law_way"] ["_law_hand_here", "_law_lump", "_law_room"] (defScope s_L_bent) := ⟨rfl, rfl, rfl, by decide +kernel, rfl, by decide +kernel, by decide +kernel⟩
abbrev s_law : Stmt := topS 56
abbrev N_law : List Str := ["_law_script", "_law_k", "_law_hand_here", "_law_wide", "_law_good", "_law_other", "_law_things", "_law_turn", "_law_bent_here", "_law_lump", "_law_ahead_of", "_law_signs", "_law_due", "_law_told"]
theorem sc_law : FnScope ["_law_script", "_law_k", "_law_hand_here", "_law_wide", "_law_good", "_law_other", "_law_things", "_law_turn", "_law_bent_here", "_law_lump", "_law_ahead_of", "_law_signs", "_law_due", "_law_told"] ["_law_script"] (defScope s_law) := ⟨rfl, rfl, rfl, by decide +kernel, rfl, by decide +kernel, by decide +kernel⟩

end NG

namespace NG
open PySem PySem.Spec PyProof.Rows L2
section
variable {P : Program} {w : World} {K : PySem.W.Frag} {mg : Str → Option Value} {base : Heap}
theorem primes_at {m : Int} (h : 0 ≤ m) : ∃ p : Int, atI ([.int 2147483647, .int 2147483629, .int 2147483587, .int 2147483579, .int 2147483563, .int 2147483549, .int 2147483543, .int 2147483497] : List V) (m % 8) = some (.int p) ∧ 1000 < p ∧ p < 2147483648 := by
  have h1 : m % 8 = 0 ∨ m % 8 = 1 ∨ m % 8 = 2 ∨ m % 8 = 3 ∨ m % 8 = 4 ∨ m % 8 = 5 ∨ m % 8 = 6 ∨ m % 8 = 7 := by omega
  rcases h1 with e | e | e | e | e | e | e | e <;> rw [e] <;> exact ⟨_, rfl, by decide, by decide⟩
theorem ok_take {f : Addr} {fd : FuncData} (F : Fun K "_law_take" "_law_take" s_L_take f fd) (gF : mg "_law_take" = some (.ref f)) (b : Binds K fd ["_law_hand_here", "_law_wide"] []) : Cal P w K mg base 1 "_law_take" spTake := by
  refine ⟨f, fd, _, F.ok sc_L_take (fun vs H Q E h => ?_) (fun cdv A outer s H vs Q E hr h => ?_), gF, F.kp, b⟩
  · obtain ⟨a, m, n, rfl, _⟩ := h
    rfl
  · obtain ⟨a, many, n, rfl, hm, hm2, ⟨g, sd, m, e, hg, hs, h0, hn⟩, hN, q⟩ := h
    refine ⟨_, (pss_cons (ps_if (pt_cmpR op_gt (pe_ix ix_list (pv 0) pe_int (fun _ _ => rfl)) pe_int (nomark _)) (pss_cons (ps_set (i := 2) sc_L_take.nd rfl (.inl rfl) (pe_op op_mod (pe_ix ix_list (pv 0) pe_int (fun _ _ => rfl)) (pv 1))) (pss_cons (ps_asg (pe_op op_fdivW (pe_ix ix_list (pv 0) pe_int (fun _ _ => rfl)) (pv 1)) (pg_sub (pv 0) pe_int set_list)) (pss_one (ps_ret (pv 2))))) pss_nil) (pss_cons (ps_asg (pe_op op_add (pe_ix ix_list (pv 0) pe_int (fun _ _ => rfl)) pe_int) (pg_sub (pv 0) pe_int set_list)) (pss_cons (ps_set (i := 3) sc_L_take.nd rfl (.inl rfl) (pe_lst (pa_cons pe_int (pa_cons pe_int (pa_cons pe_int (pa_cons pe_int (pa_cons pe_int (pa_cons pe_int (pa_cons pe_int (pa_cons pe_int pa_nil)))))))))) (pss_cons (ps_set (i := 4) sc_L_take.nd rfl (.inl rfl) (pe_ix ix_list (pv 3) (pe_op op_mod (pe_ix ix_list (pv 0) pe_int (fun _ _ => rfl)) pe_int) (fun _ _ => rfl))) (pss_cons (ps_set (i := 5) sc_L_take.nd rfl (.inl rfl) (pe_op op_add (pe_op op_mod (pe_op op_mod (pe_op op_add (pe_ix ix_list (pv 0) pe_int (fun _ _ => rfl)) (pe_op op_mul (pe_op op_mul pe_int (pe_ix ix_list (pv 0) pe_int (fun _ _ => rfl))) (pe_ix ix_list (pv 0) pe_int (fun _ _ => rfl)))) (pe_op op_pow (pv 4) pe_int)) (pv 4)) pe_int)) (pss_one (ps_ret (pe_op op_mod (pe_op op_fdiv (pe_op op_mod (pe_op op_mul (pv 5) (pe_op op_add (pe_op op_mod (pv 5) pe_int) (pe_ix ix_list (pv 0) pe_int (fun _ _ => rfl)))) (pv 4)) pe_int) (pv 1))))))))), ?_⟩
    refine ⟨.ref a, rfl, a, _, 0, .int g, rfl, rfl, SqL.of e, rfl, g, 0, rfl, rfl, _, rfl, iteD (fun c => ?_) (fun c => ?_)⟩
    · refine ⟨.ref a, rfl, a, _, 0, .int g, rfl, rfl, SqL.of e, rfl, .int many, rfl, g, many, rfl, rfl, hm, ?_⟩
      refine ⟨.ref a, rfl, a, _, 0, .int g, rfl, rfl, SqL.of e, rfl, .int many, rfl, g, many, rfl, rfl, wide_div (b := 62) hm (by omega) (by decide) (by decide), ?_⟩
      refine ⟨.ref a, rfl, a, _, 0, 0, rfl, rfl, e, rfl, ?_⟩
      refine ⟨.int (g % many), rfl, q _ _ But.put ?_ (Int.emod_nonneg _ (by omega)) (Int.emod_lt_of_pos _ hm)⟩
      exact ⟨g / many, sd, m, upd_same, Int.ediv_nonneg hg (by omega), hs, h0, by omega⟩
    · refine ⟨.ref a, rfl, a, _, 2, .int m, rfl, rfl, SqL.of e, rfl, m, 1, rfl, rfl, ?_⟩
      refine ⟨.ref a, rfl, a, _, 2, 2, rfl, rfl, e, rfl, ?_⟩
      have e1 : (upd H a (.lst [.int g, .int sd, .int (m + 1)])) a = some (.lst [.int g, .int sd, .int (m + 1)]) := upd_same
      refine ⟨by decide, fun p np => ?_⟩
      have npa : p ≠ a := (ne_of_none e1 np).symm
      obtain ⟨pr, hat, hp1, hp2⟩ := primes_at (m := m + 1) (by omega)
      have e2 : (upd (upd H a (.lst [.int g, .int sd, .int (m + 1)])) p (.lst [.int 2147483647, .int 2147483629, .int 2147483587, .int 2147483579, .int 2147483563, .int 2147483549, .int 2147483543, .int 2147483497])) a = some (.lst [.int g, .int sd, .int (m + 1)]) := by rw [upd_ne npa.symm]; exact e1
      have e3 : (upd (upd H a (.lst [.int g, .int sd, .int (m + 1)])) p (.lst [.int 2147483647, .int 2147483629, .int 2147483587, .int 2147483579, .int 2147483563, .int 2147483549, .int 2147483543, .int 2147483497])) p = some (.lst [.int 2147483647, .int 2147483629, .int 2147483587, .int 2147483579, .int 2147483563, .int 2147483549, .int 2147483543, .int 2147483497]) := upd_same
      refine ⟨.ref p, rfl, .ref a, rfl, a, _, 2, .int (m + 1), rfl, rfl, SqL.of e2, rfl, m + 1, 8, rfl, rfl, (by show (0 : Int) < 8; decide), p, _, (m + 1) % 8, .int pr, rfl, rfl, SqL.of e3, hat, ?_⟩
      have hsq : (0 : Int) < pr ^ (2 : Int).toNat := by
        show 0 < pr ^ 2
        exact Int.pow_pos (by omega)
      refine ⟨.ref a, rfl, a, _, 1, .int sd, rfl, rfl, SqL.of e2, rfl, .ref a, rfl, a, _, 2, .int (m + 1), rfl, rfl, SqL.of e2, rfl, 69621, m + 1, rfl, rfl, .inl ⟨by decide, by decide⟩, .ref a, rfl, a, _, 2, .int (m + 1), rfl, rfl, SqL.of e2, rfl, _, _, rfl, rfl, .inr ⟨by omega, by omega⟩, _, _, rfl, rfl,
        .int pr, rfl, pr, 2, rfl, rfl, ⟨by decide, by decide, by omega⟩, _, _, rfl, rfl, hsq, .int pr, rfl, _, pr, rfl, rfl, (by show 0 < pr; omega), _, 1, rfl, rfl, ?_⟩
      generalize hz : (sd + 69621 * (m + 1) * (m + 1)) % pr ^ (2 : Int).toNat % pr = z
      have hz0 : 0 ≤ z := by rw [← hz]; exact Int.emod_nonneg _ (by omega)
      have hz1 : z < pr := by rw [← hz]; exact Int.emod_lt_of_pos _ (by omega)
      refine ⟨.int (z + 1), rfl, .int (z + 1), rfl, z + 1, 1009, rfl, rfl, (by show (0 : Int) < 1009; decide), .ref a, rfl, a, _, 2, .int (m + 1), rfl, rfl, SqL.of e2, rfl, _, _, rfl, rfl, z + 1, _, rfl, rfl, .inl ⟨by omega, by omega⟩, .int pr, rfl, _, pr, rfl, rfl, (by show 0 < pr; omega), _, 7, rfl, rfl, ⟨by decide, by decide⟩, .int many, rfl, _, many, rfl, rfl, hm, ?_⟩
      refine q _ _ ?_ ⟨g, sd, m + 1, e2, hg, hs, by omega, by omega⟩ (Int.emod_nonneg _ (by omega)) (Int.emod_lt_of_pos _ hm)
      exact But.put.trans (But.new np)
end
end NG


namespace NG
open PySem PySem.Spec PyProof.Rows L2
/-! ### promises of the looks at things -/
def spIsNum (K : PySem.W.Frag) : Sp := fun vs H Q _ => ∃ (v : V) (d : PyData), vs = [v] ∧ Dq K H v d ∧ Q (.bl (isInt d)) H
def spInB (K : PySem.W.Frag) : Sp := fun vs H Q _ => ∃ (v : V) (lo hi : Int) (d : PyData), vs = [v, .int lo, .int hi] ∧ Dq K H v d ∧ Q (.bl (inD lo hi d)) H
def spFits (K : PySem.W.Frag) : Sp := fun vs H Q _ => ∃ (k : Kd) (v : V) (many : Int) (d : PyData), vs = [.str (kdn k), v, .int many] ∧ Dq K H v d ∧ ∀ H', Same H H' → Q (.bl (fitD many k d)) H'
def wdV : PyData → V
  | .tuple (.str x :: _) => .str x
  | _ => .non
def hasD (many : Int) : PyData → Bool
  | .tuple (.str x :: ds) => match weOf x with
    | some w => fitsD many (wsh w) ds
    | none => false
  | _ => false
theorem hasD_non {many : Int} : ∀ {d : PyData}, wdV d = .non → hasD many d = false
  | .tuple (.str _ :: _), h => by cases h
  | .tuple [], _ => rfl
  | .tuple (.none :: _), _ => rfl
  | .tuple (.bool _ :: _), _ => rfl
  | .tuple (.int _ :: _), _ => rfl
  | .tuple (.list _ :: _), _ => rfl
  | .tuple (.tuple _ :: _), _ => rfl
  | .tuple (.dict _ :: _), _ => rfl
  | .none, _ => rfl
  | .bool _, _ => rfl
  | .int _, _ => rfl
  | .str _, _ => rfl
  | .list _, _ => rfl
  | .dict _, _ => rfl
/-- no other words stand in the table -/
def Only11 (K : PySem.W.Frag) (a : Addr) : Prop := ∀ x, weOf x = none → PySem.W.nsIn K a x = some none
def spFirst (K : PySem.W.Frag) : Sp := fun vs H Q _ => ∃ (v : V) (d : PyData), vs = [v] ∧ Dq K H v d ∧ Q (wdV d) H
def spFitsSh (K : PySem.W.Frag) : Sp := fun vs H Q _ => ∃ (p q : Addr) (many : Int) (x : Str) (xs : List V) (ds : List PyData) (ks : List Kd), vs = [.ref p, .ref q, .int many] ∧ SqT K H p (.str x :: xs) ∧ DqAll K H xs ds ∧ (∀ H', SqT K H' q (ks.map fun k => V.str (kdn k))) ∧ ks.length ≤ 4 ∧ ∀ H', Same H H' → Q (.bl (fitsD many ks ds)) H'
def spHasSh (K : PySem.W.Frag) : Sp := fun vs H Q _ => ∃ (v : V) (many : Int) (d : PyData), vs = [v, .int many] ∧ Dq K H v d ∧ ∀ H', Same H H' → Q (.bl (hasD many d)) H'
def spPartsD (K : PySem.W.Frag) : Sp := fun vs H Q _ => ∃ (p : Addr) (w : We) (xs : List V) (ds : List PyData), vs = [.ref p] ∧ SqT K H p (.str (wen w) :: xs) ∧ DqAll K H xs ds ∧ ds.length = (wsh w).length ∧ ∀ H' l us, Same H H' → H l = none → H' l = some (.lst us) → DqAll K H' us (partsD (wsh w) ds) → Q (.ref l) H'
def spCntE (K : PySem.W.Frag) (n : Nat) : Sp := fun vs H Q _ => ∃ (v : V) (many : Int) (k : Nat) (d : PyData), vs = [v, .int many, .int (k : Int)] ∧ k < n ∧ Dq K H v d ∧ ∀ H', Same H H' → Q (.int (cntE many k d : Nat)) H'
theorem only11_of {K : PySem.W.Frag} {w : World} {d : Addr} {es : Array DictEntry} {n : Nat} (hl : K.lookup d = some ⟨.type "dict", none, .dict es n, #[]⟩) (hk : PySem.W.KeysLit w.params es.toList) (hx : ktx es.toList = [some ("fig" : Str), some ("reg" : Str), some ("share" : Str), some ("sum" : Str), some ("less" : Str), some ("times" : Str), some ("by" : Str), some ("least" : Str), some ("most" : Str), some ("when" : Str), some ("where" : Str)]) : Only11 K d := fun x h0 => nsIn_absent hl hk (fun h => by
  rw [hx] at h
  simp only [List.mem_cons, List.not_mem_nil, or_false, Option.some.injEq] at h
  rcases h with rfl | rfl | rfl | rfl | rfl | rfl | rfl | rfl | rfl | rfl | rfl <;> exact absurd h0 (by decide))
def spIsEx (K : PySem.W.Frag) : Sp := fun vs H Q _ => ∃ (v : V) (many : Int) (d : PyData), vs = [v, .int many] ∧ Dq K H v d ∧ ∀ H', Same H H' → Q (.bl (isEx many d)) H'
def spIsRegs (K : PySem.W.Frag) : Sp := fun vs H Q _ => ∃ (p : Addr) (xs : List V) (ds : List PyData), vs = [.ref p] ∧ SqT K H p xs ∧ DqAll K H xs ds ∧ ∀ H', Same H H' → Q (.bl (regsD ds)) H'
section
variable {P : Program} {w : World} {K : PySem.W.Frag} {mg : Str → Option Value} {base : Heap}
theorem ok_isnum {f : Addr} {fd : FuncData} (F : Fun K "is_number" "is_number" s_is_number f fd) (gF : mg "is_number" = some (.ref f)) (b : Binds K fd ["thing"] []) (B : Bl mg) (n_bool : mg "bool" = none) : Cal P w K mg base 1 "is_number" (spIsNum K) := by
  refine ⟨f, fd, _, F.ok sc_is_number (fun vs H Q E h => ?_) (fun cdv A outer s H vs Q E hr h => ?_), gF, F.kp, b⟩
  · obtain ⟨_, _, rfl, _⟩ := h
    rfl
  · obtain ⟨v, d, rfl, hd, q⟩ := h
    refine ⟨_, (pss_one (ps_ret (pe_and (pe_callB call_isi (by rfl) B.isinstance (by decide +kernel) (pa_cons (pv 0) (pa_cons (pe_bltn (v := .ty "int") (by rfl) B.int (by decide +kernel) rfl) pa_nil))) (pe_one (pe_not (pe_callB call_isi (by rfl) B.isinstance (by decide +kernel) (pa_cons (pv 0) (pa_cons (pe_bltn (v := .ty "bool") (by rfl) n_bool (by decide +kernel) rfl) pa_nil)))))))), ?_⟩
    refine ⟨v, rfl, v, .ty "int", _, _, _, rfl, .ty _, Dq.tyx hd, kit_ty (kit_int d), _, rfl, ?_⟩
    rw [← isInt_eq d] at q
    cases hk : kI d with
    | false =>
      rw [hk] at q
      exact iteFF rfl q
    | true =>
      rw [hk] at q
      exact iteTT rfl ⟨v, rfl, v, .ty "bool", _, _, _, rfl, .ty _, Dq.tyx hd, kit_ty (kit_bool d), _, rfl, q⟩
theorem ok_iswithin {f : Addr} {fd : FuncData} (F : Fun K "is_within" "is_within" s_is_within f fd) (gF : mg "is_within" = some (.ref f)) (b : Binds K fd ["thing", "low", "high"] []) (c_is_number : Cal P w K mg base 1 "is_number" (spIsNum K)) : Cal P w K mg base 2 "is_within" (spInB K) := by
  refine ⟨f, fd, _, F.ok sc_is_within (fun vs H Q E h => ?_) (fun cdv A outer s H vs Q E hr h => ?_), gF, F.kp, b⟩
  · obtain ⟨_, _, _, _, rfl, _⟩ := h
    rfl
  · obtain ⟨v, lo, hi, d, rfl, hd, q⟩ := h
    refine ⟨_, (pss_one (ps_ret (pe_and (pe_c c_is_number hr (by omega) (by rfl) (pa_cons (pv 0) pa_nil)) (pe_one (pe_chain op_le op_le (pv 1) (pv 0) (pv 2)))))), ?_⟩
    refine ⟨v, rfl, v, d, rfl, hd, _, rfl, ?_⟩
    cases hd with
    | int i =>
      refine iteTT rfl ⟨.int lo, rfl, .int i, rfl, _, _, rfl, rfl, _, rfl, ?_⟩
      have q : Q (.bl (decide (lo ≤ i) && decide (i ≤ hi))) H := q
      by_cases c : lo ≤ i
      · rw [decide_eq_true c] at q ⊢
        exact iteT ⟨.int hi, rfl, _, _, rfl, rfl, q⟩
      · rw [decide_eq_false c] at q ⊢
        exact iteF q
    | non => exact iteFF rfl q
    | bl _ => exact iteFF rfl q
    | str _ => exact iteFF rfl q
    | lst _ _ => exact iteFF rfl q
    | tup _ _ => exact iteFF rfl q
    | dic _ => exact iteFF rfl q
theorem ok_fits {f a_BOUNDS : Addr} {fd : FuncData} (F : Fun K "fits" "fits" s_fits f fd) (gF : mg "fits" = some (.ref f)) (b : Binds K fd ["kind", "thing", "many"] []) (mg_BOUNDS : mg "BOUNDS" = some (.ref a_BOUNDS)) (hN : TabN K w a_BOUNDS) (c_is_within : Cal P w K mg base 2 "is_within" (spInB K)) : Cal P w K mg base 3 "fits" (spFits K) := by
  refine ⟨f, fd, _, F.ok sc_fits (fun vs H Q E h => ?_) (fun cdv A outer s H vs Q E hr h => ?_), gF, F.kp, b⟩
  · obtain ⟨_, _, _, _, rfl, _⟩ := h
    rfl
  · obtain ⟨k, v, many, d, rfl, hd, q⟩ := h
    refine ⟨_, (pss_cons (ps_if (pt_cmpR op_eq (pv 0) pe_str (nomark _)) (pss_one (ps_ret pe_bl)) pss_nil) (pss_cons (ps_asg (pe_cut (pe_ifExp (pt_cmpR op_eq (pv 0) pe_str (nomark _)) (pe_tup (pa_cons pe_int (pa_cons (pe_op op_sub (pv 2) pe_int) pa_nil))) (pe_ix ix_kdict (pe_glob (v := .ref a_BOUNDS) (by rfl) mg_BOUNDS rfl) (pv 0) (fun _ _ => rfl)))) (pg_tup rfl (pgs_cons (pg_name (i := 3) sc_fits.nd rfl (.inl rfl)) (pgs_cons (pg_name (i := 4) sc_fits.nd rfl (.inl rfl)) pgs_nil)))) (pss_one (ps_ret (pe_c c_is_within hr (by omega) (by rfl) (pa_cons (pv 1) (pa_cons (pv 3) (pa_cons (pv 4) pa_nil)))))))), ?_⟩
    cases k with
    | part => exact ⟨_, rfl, rfl, _, rfl, iteTT (by decide) (q H (Same.refl _))⟩
    | sign =>
      refine ⟨_, rfl, rfl, _, rfl, iteFF (by decide) ⟨fun u H' => Same H H' ∧ ∃ bq, u = .ref bq ∧ SqT K H' bq [.int 0, .int (many - 1)], ⟨_, rfl, rfl, _, rfl, iteTT (by decide) ⟨_, rfl, _, _, rfl, rfl, (by show 2 ≤ sizeLine; decide), fun p np => ⟨same_new np, p, rfl, SqT.of upd_same⟩⟩⟩, ?_⟩⟩
      rintro u H1 ⟨sm, b1, rfl, hb1⟩
      exact ⟨b1, _, rfl, hb1, rfl, _, _, rfl, _, _, rfl, rfl, v, rfl, _, rfl, _, rfl, v, _, _, d, rfl, dq_same sm hd, q _ sm⟩
    | figure =>
      obtain ⟨bq, hkd, hsq⟩ := hN .figure (by decide) (by decide)
      refine ⟨_, rfl, rfl, _, rfl, iteFF (by decide) ⟨fun u H' => Same H H' ∧ ∃ bq, u = .ref bq ∧ SqT K H' bq [.int (bndE .figure).1, .int (bndE .figure).2], ⟨_, rfl, rfl, _, rfl, iteFF (by decide) ⟨_, rfl, a_BOUNDS, _, _, rfl, rfl, hkd, Same.refl _, bq, rfl, hsq _⟩⟩, ?_⟩⟩
      rintro u H1 ⟨sm, b1, rfl, hb1⟩
      exact ⟨b1, _, rfl, hb1, rfl, _, _, rfl, _, _, rfl, rfl, v, rfl, _, rfl, _, rfl, v, _, _, d, rfl, dq_same sm hd, q _ sm⟩
    | place =>
      obtain ⟨bq, hkd, hsq⟩ := hN .place (by decide) (by decide)
      refine ⟨_, rfl, rfl, _, rfl, iteFF (by decide) ⟨fun u H' => Same H H' ∧ ∃ bq, u = .ref bq ∧ SqT K H' bq [.int (bndE .place).1, .int (bndE .place).2], ⟨_, rfl, rfl, _, rfl, iteFF (by decide) ⟨_, rfl, a_BOUNDS, _, _, rfl, rfl, hkd, Same.refl _, bq, rfl, hsq _⟩⟩, ?_⟩⟩
      rintro u H1 ⟨sm, b1, rfl, hb1⟩
      exact ⟨b1, _, rfl, hb1, rfl, _, _, rfl, _, _, rfl, rfl, v, rfl, _, rfl, _, rfl, v, _, _, d, rfl, dq_same sm hd, q _ sm⟩
    | factor =>
      obtain ⟨bq, hkd, hsq⟩ := hN .factor (by decide) (by decide)
      refine ⟨_, rfl, rfl, _, rfl, iteFF (by decide) ⟨fun u H' => Same H H' ∧ ∃ bq, u = .ref bq ∧ SqT K H' bq [.int (bndE .factor).1, .int (bndE .factor).2], ⟨_, rfl, rfl, _, rfl, iteFF (by decide) ⟨_, rfl, a_BOUNDS, _, _, rfl, rfl, hkd, Same.refl _, bq, rfl, hsq _⟩⟩, ?_⟩⟩
      rintro u H1 ⟨sm, b1, rfl, hb1⟩
      exact ⟨b1, _, rfl, hb1, rfl, _, _, rfl, _, _, rfl, rfl, v, rfl, _, rfl, _, rfl, v, _, _, d, rfl, dq_same sm hd, q _ sm⟩
    | line =>
      obtain ⟨bq, hkd, hsq⟩ := hN .line (by decide) (by decide)
      refine ⟨_, rfl, rfl, _, rfl, iteFF (by decide) ⟨fun u H' => Same H H' ∧ ∃ bq, u = .ref bq ∧ SqT K H' bq [.int (bndE .line).1, .int (bndE .line).2], ⟨_, rfl, rfl, _, rfl, iteFF (by decide) ⟨_, rfl, a_BOUNDS, _, _, rfl, rfl, hkd, Same.refl _, bq, rfl, hsq _⟩⟩, ?_⟩⟩
      rintro u H1 ⟨sm, b1, rfl, hb1⟩
      exact ⟨b1, _, rfl, hb1, rfl, _, _, rfl, _, _, rfl, rfl, v, rfl, _, rfl, _, rfl, v, _, _, d, rfl, dq_same sm hd, q _ sm⟩
theorem kit_str (d : PyData) : kitB (tyd d) "str" = some (match d with | .str _ => true | _ => false) := by
  cases d with
  | none => exact (by decide +kernel : kitB "NoneType" "str" = some false)
  | bool _ => exact (by decide +kernel : kitB "bool" "str" = some false)
  | int _ => exact (by decide +kernel : kitB "int" "str" = some false)
  | str _ => exact (by decide +kernel : kitB "str" "str" = some true)
  | list _ => exact (by decide +kernel : kitB "list" "str" = some false)
  | tuple _ => exact (by decide +kernel : kitB "tuple" "str" = some false)
  | dict _ => exact (by decide +kernel : kitB "dict" "str" = some false)
theorem ok_firstword {f : Addr} {fd : FuncData} (F : Fun K "first_word" "first_word" s_first_word f fd) (gF : mg "first_word" = some (.ref f)) (b : Binds K fd ["thing"] []) (B : Bl mg) : Cal P w K mg base 1 "first_word" (spFirst K) := by
  refine ⟨f, fd, _, F.ok sc_first_word (fun vs H Q E h => ?_) (fun cdv A outer s H vs Q E hr h => ?_), gF, F.kp, b⟩
  · obtain ⟨_, _, rfl, _⟩ := h
    rfl
  · obtain ⟨v, d, rfl, hd, q⟩ := h
    refine ⟨_, (pss_cons (ps_if (PW.pt (pw_and (pt_val (pe_callB call_isi (by rfl) B.isinstance (by decide +kernel) (pa_cons (pv 0) (pa_cons (pe_bltn (v := .ty "tuple") (by rfl) B.tuple (by decide +kernel) rfl) pa_nil)))) (pw_and (pt_truth (pv 0) (by intro _; rfl)) (pw_and1 (pt_val (pe_callB call_isi (by rfl) B.isinstance (by decide +kernel) (pa_cons (pe_ix ix_tup (pv 0) pe_int (fun _ _ => rfl)) (pa_cons (pe_bltn (v := .ty "str") (by rfl) B.str (by decide +kernel) rfl) pa_nil)))))))) (pss_one (ps_ret (pe_ix ix_tup (pv 0) pe_int (fun _ _ => rfl)))) pss_nil) (pss_one (ps_ret pe_non))), ?_⟩
    cases hkt : kT d with
    | false =>
      have hw : wdV d = .non := by
        cases d <;> first | rfl | cases hkt
      rw [hw] at q
      exact ⟨v, rfl, v, .ty "tuple", _, _, false, rfl, .ty _, Dq.tyx hd, kit_ty (by rw [kit_tup, hkt]), _, rfl, iteFF rfl q⟩
    | true =>
      cases hd with
      | tup hp ha =>
        rename_i p xs ds
        refine ⟨.ref p, rfl, .ref p, .ty "tuple", _, _, true, rfl, .ty _, tyx_tup hp, kit_ty (show kitB "tuple" "tuple" = some true by decide +kernel), true, rfl, iteTT rfl ?_⟩
        cases ha with
        | nil => exact ⟨.ref p, rfl, false, .inr (.inl ⟨_, hp, rfl⟩), iteFF rfl q⟩
        | cons hx hr' =>
          rename_i x xs d0 ds
          refine ⟨.ref p, rfl, true, .inr (.inl ⟨_, hp, rfl⟩), iteTT rfl ?_⟩
          refine ⟨.ref p, rfl, p, _, 0, _, rfl, rfl, hp, at_of (j := 0) rfl rfl, x, .ty "str", _, _, _, rfl, .ty _, Dq.tyx hx, kit_ty (kit_str d0), _, rfl, ?_⟩
          cases hx with
          | str z => exact iteTT rfl ⟨.ref p, rfl, p, _, 0, _, rfl, rfl, hp, at_of (j := 0) rfl rfl, q⟩
          | _ => exact iteFF rfl q
      | _ => cases hkt
theorem cutT1 {x : V} {xs : List V} : cutV (x :: xs) (some 1) none = xs := by
  unfold cutV
  rw [show HT.sIx (x :: xs).length 0 (some 1) = min 1 (x :: xs).length from HT.sIx_nat _ 0 1, HT.sIx_none, List.length_cons, show min 1 (xs.length + 1) = 1 by omega]
  show List.take (xs.length + 1 - 1) xs = xs
  rw [Nat.add_sub_cancel, List.take_length]
theorem ok_fitsshape {f : Addr} {fd : FuncData} (F : Fun K "fits_shape" "fits_shape" s_fits_shape f fd) (gF : mg "fits_shape" = some (.ref f)) (b : Binds K fd ["thing", "shape", "many"] []) (B : Bl mg) (c_fits : Cal P w K mg base 3 "fits" (spFits K)) : Cal P w K mg base 4 "fits_shape" (spFitsSh K) := by
  refine ⟨f, fd, _, F.ok sc_fits_shape (fun vs H Q E h => ?_) (fun cdv A outer s H vs Q E hr h => ?_), gF, F.kp, b⟩
  · obtain ⟨_, _, _, _, _, _, _, rfl, _⟩ := h
    rfl
  · obtain ⟨p, sq, many, x, xs, ds, ks, rfl, hp, hds, hsq, hk4, q⟩ := h
    refine ⟨_, (pss_cons (ps_if (pt_cmpR op_ne (pe_callB call_len_seq (by rfl) B.len PySem.boot_len (pa_cons (pv 0) pa_nil)) (pe_op op_add (pe_callB call_len_seq (by rfl) B.len PySem.boot_len (pa_cons (pv 1) pa_nil)) pe_int) (nomark _)) (pss_one (ps_ret pe_bl)) pss_nil) (pss_one (ps_ret (pe_callB (cr_all rfl) (by rfl) B.all (by decide +kernel) (pa_cons (pe_lc (own := [("kind", 3), ("item", 4)]) rfl sc_fits_shape.nd (RZ.pi_zipA (by rfl) B.zip (pa_cons (pv 1) (pa_cons (pe_slice sl_tupA (pv 0) (po_some pe_int) po_none) pa_nil))) (blkOk_by (N := N_fits_shape) (sc := defScope s_fits_shape) (by decide +kernel)) (fun _ _ _ _ _ => pgtK (n := 2) K rfl (pgs_cons (pg_name (i := 3) sc_fits_shape.nd rfl (.inl rfl)) (pgs_cons (pg_name (i := 4) sc_fits_shape.nd rfl (.inl rfl)) pgs_nil))) (fun _ _ _ _ _ => pts_nil) (fun _ _ _ _ _ => pe_c c_fits hr (by omega) (by rfl) (pa_cons (pv 3) (pa_cons (pv 4) (pa_cons (pv 2) pa_nil))))) pa_nil))))), ?_⟩
    have hlx := dqall_len hds
    refine ⟨.ref p, rfl, p, _, rfl, .inr hp, .ref sq, rfl, sq, _, rfl, .inr (hsq _), _, _, rfl, rfl, rfl, _, rfl, ?_⟩
    by_cases c : ds.length = ks.length
    · refine iteFF (by simp [hlx, c]) ?_
      refine ⟨.ref sq, rfl, .ref p, rfl, 1, rfl, ?_⟩
      dsimp only [tNoPart]
      refine slA hp fun H1 c1 sm1 hc1 => ?_
      rw [cutT1] at hc1
      have hlk : (ks.map fun k => V.str (kdn k)).length = xs.length := by rw [List.length_map]; omega
      refine ⟨sq, c1, (ks.map fun k => V.str (kdn k)), xs, rfl, .inr ⟨hsq _, hc1, fun D nD => lc_it (walk_zipT hlk rfl) (fun i H' => Same H1 H' ∧ H' D = some (.lst (((List.zipWith (fitD many) ks ds).take i).map V.bl))) ⟨same_new nD, upd_same⟩ (fun i H' _ h => ⟨hsq _, same_sqt h.1 hc1⟩) ?_ ?_⟩⟩
      · rintro i y H2 H3 hi ⟨sm, hD⟩ ⟨T, k, it, rfl, nT, rfl, e1, e2⟩
        have e1 : (ks.map fun k => V.str (kdn k))[i]? = some k := e1
        have e2 : xs[i]? = some it := e2
        rw [List.getElem?_map] at e1
        cases hk : ks[i]? with
        | none => rw [hk] at e1; cases e1
        | some kk =>
          rw [hk] at e1
          have ek : V.str (kdn kk) = k := Option.some.inj e1
          subst ek
          obtain ⟨dd, hdd, hdp⟩ := dqall_get hds e2
          have sm2 := sm.trans (same_new (o := .tup [V.str (kdn kk), it]) nT)
          have hD2 := same_new (o := .tup [V.str (kdn kk), it]) nT _ _ hD
          refine ⟨T, _, rfl, SqT.of upd_same, rfl, _, _, rfl, _, _, rfl, rfl, rfl, tYes_in ⟨_, rfl, _, rfl, _, rfl, kk, it, many, dd, rfl, dq_same (sm1.trans sm2) hdp, fun H4 sm4 => ?_⟩⟩
          refine ⟨_, sm4 _ _ hD2, ?_, fun b' o eb => ?_, ?_⟩
          · rw [List.length_map, List.length_take]
            exact small1000 (by have : (List.zipWith (fitD many) ks ds).length ≤ 4 := by rw [List.length_zipWith]; omega
                                omega)
          · rw [upd_ne (ne_of_none eb nD)]
            exact sm4 _ _ (sm2 _ _ eb)
          · rw [upd_same, List.take_add_one, show (List.zipWith (fitD many) ks ds)[i]? = some (fitD many kk dd) by rw [List.getElem?_zipWith, hk, hdd], List.map_append]
            rfl
      · rintro H2 ⟨sm, hD⟩
        rw [List.take_of_length_le (by rw [List.length_zipWith]; omega)] at hD
        refine ⟨D, _, rfl, SqL.of hD, ?_⟩
        rw [← fitsD_zip c]
        exact q _ (sm1.trans sm)
    · refine iteTT (by simp [hlx]; omega) ?_
      have := q H (Same.refl _)
      rw [fitsD_ne c] at this
      exact this
theorem weOf_eq {x : Str} {w : We} (h : weOf x = some w) : x = wen w := by
  unfold weOf at h
  repeat' split at h
  all_goals first | (cases h; assumption) | cases h
theorem ok_hasshape {f a_SHAPES : Addr} {fd : FuncData} (F : Fun K "has_shape" "has_shape" s_has_shape f fd) (gF : mg "has_shape" = some (.ref f)) (b : Binds K fd ["thing", "many"] []) (mg_SHAPES : mg "SHAPES" = some (.ref a_SHAPES)) (hE : TabE K w a_SHAPES) (hK : KdAt K w a_SHAPES) (hO : Only11 K a_SHAPES) (c_first_word : Cal P w K mg base 1 "first_word" (spFirst K)) (c_fits_shape : Cal P w K mg base 4 "fits_shape" (spFitsSh K)) : Cal P w K mg base 5 "has_shape" (spHasSh K) := by
  refine ⟨f, fd, _, F.ok sc_has_shape (fun vs H Q E h => ?_) (fun cdv A outer s H vs Q E hr h => ?_), gF, F.kp, b⟩
  · obtain ⟨_, _, _, rfl, _⟩ := h
    rfl
  · obtain ⟨v, many, d, rfl, hd, q⟩ := h
    refine ⟨_, (pss_cons (ps_set (i := 2) sc_has_shape.nd rfl (.inl rfl) (pe_c c_first_word hr (by omega) (by rfl) (pa_cons (pv 0) pa_nil))) (pss_one (ps_ret (pe_and (pe_cmpR op_inKq (pv 2) (pe_glob (v := .ref a_SHAPES) (by rfl) mg_SHAPES rfl) (by rfl)) (pe_one (pe_c c_fits_shape hr (by omega) (by rfl) (pa_cons (pv 0) (pa_cons (pe_ix ix_kdict (pe_glob (v := .ref a_SHAPES) (by rfl) mg_SHAPES rfl) (pv 2) (fun _ _ => rfl)) (pa_cons (pv 1) pa_nil))))))))), ?_⟩
    refine ⟨v, rfl, v, d, rfl, hd, ?_⟩
    have bad := @hasD_non many d
    by_cases hw : wdV d = .non
    · rw [hw]
      refine ⟨_, rfl, a_SHAPES, rfl, hK, .inr ⟨rfl, _, rfl, iteFF rfl ?_⟩⟩
      have q := q H (Same.refl _)
      rw [bad hw] at q
      exact q
    · obtain ⟨x, ds, rfl⟩ : ∃ x ds, d = .tuple (.str x :: ds) := by
        unfold wdV at hw
        split at hw
        · exact ⟨_, _, rfl⟩
        · exact absurd rfl hw
      cases hd with
      | tup hp ha =>
        rename_i p xs0
        cases ha with
        | cons hx hds =>
          rename_i y xs
          cases hx
          cases hwo : weOf x with
          | none =>
            refine ⟨_, rfl, a_SHAPES, rfl, hK, .inl ⟨x, none, rfl, hO x hwo, _, rfl, iteFF rfl ?_⟩⟩
            have q := q H (Same.refl _)
            have e : hasD many (.tuple (.str x :: ds)) = false := by
              unfold hasD
              simp only [hwo]
            rw [e] at q
            exact q
          | some we =>
            have ex := weOf_eq hwo
            subst ex
            obtain ⟨sq, hkd, hsq⟩ := hE.2 we
            have hkd' := hkd
            obtain ⟨es, n, u, hl, hk, hns, ru⟩ := hkd'
            refine ⟨_, rfl, a_SHAPES, rfl, hK, .inl ⟨wen we, some u, rfl, hns, _, rfl, iteTT rfl ?_⟩⟩
            refine ⟨.ref p, rfl, _, rfl, a_SHAPES, _, .ref sq, rfl, rfl, hkd, _, rfl, p, sq, many, _, xs, ds, _, rfl, hp, hds, hsq, wsh_len we, fun H' sm => ?_⟩
            have q := q H' sm
            have e : hasD many (.tuple (.str (wen we) :: ds)) = fitsD many (wsh we) ds := by
              unfold hasD
              simp only [weOf_wen]
            rw [e] at q
            exact q
def pkK : List Kd → List V → List V
  | k :: ks, d :: ds => if k = .part then d :: pkK ks ds else pkK ks ds
  | _, _ => []
theorem pkK_len : ∀ (ks : List Kd) (ds : List V), (pkK ks ds).length ≤ ds.length
  | [], _ => Nat.zero_le _
  | _ :: _, [] => Nat.zero_le _
  | k :: ks, d :: ds => by
    have := pkK_len ks ds
    unfold pkK
    split <;> simp only [List.length_cons] <;> omega
theorem pkK_snoc : ∀ {ks : List Kd} {ds : List V} {i : Nat} {k : Kd} {d : V}, ks[i]? = some k → ds[i]? = some d → pkK (ks.take (i + 1)) (ds.take (i + 1)) = pkK (ks.take i) (ds.take i) ++ (if k = .part then [d] else [])
  | [], _, i, _, _, h, _ => by simp at h
  | _ :: _, [], i, _, _, _, h => by simp at h
  | k0 :: ks, d0 :: ds, 0, k, d, h, h2 => by
    have e1 : k0 = k := Option.some.inj h
    have e2 : d0 = d := Option.some.inj h2
    subst e1 e2
    simp [pkK]
  | k0 :: ks, d0 :: ds, i + 1, k, d, h, h2 => by
    have ih := pkK_snoc (ks := ks) (ds := ds) (i := i) h h2
    rw [List.take_succ_cons, List.take_succ_cons, List.take_succ_cons, List.take_succ_cons]
    unfold pkK
    split
    · rw [ih, List.cons_append]
    · exact ih
theorem pkK_dp {K : PySem.W.Frag} {H : Hp} : ∀ {ks : List Kd} {ds : List PyData} {xs : List V}, DqAll K H xs ds → DqAll K H (pkK ks xs) (partsD ks ds)
  | [], [], _, .nil => .nil
  | [], _ :: _, _, .cons _ _ => .nil
  | _ :: _, [], _, .nil => .nil
  | k :: ks, d :: ds, _, .cons a b => by
    unfold pkK partsD
    split
    · exact .cons a (pkK_dp b)
    · exact pkK_dp b
theorem ok_partsD {f a_SHAPES : Addr} {fd : FuncData} (F : Fun K "parts" "parts" s_parts f fd) (gF : mg "parts" = some (.ref f)) (b : Binds K fd ["expression"] []) (B : Bl mg) (mg_SHAPES : mg "SHAPES" = some (.ref a_SHAPES)) (hE : TabE K w a_SHAPES) : Cal P w K mg base 1 "parts" (spPartsD K) := by
  refine ⟨f, fd, _, F.ok sc_parts (fun vs H Q E h => ?_) (fun cdv A outer s H vs Q E hr h => ?_), gF, F.kp, b⟩
  · obtain ⟨_, _, _, _, rfl, _⟩ := h
    rfl
  · obtain ⟨p, x, xs, ds, rfl, hp, hds, hl, q⟩ := h
    obtain ⟨sq, hkd, hsq⟩ := hE.2 x
    have hlx := dqall_len hds
    have hl4 := wsh_len x
    refine ⟨_, (pss_cons (ps_set (i := 1) sc_parts.nd rfl (.inl rfl) (pe_ix ix_kdict (pe_glob (v := .ref a_SHAPES) (by rfl) mg_SHAPES rfl) (pe_ix ix_tup (pv 0) pe_int (fun _ _ => rfl)) (fun _ _ => rfl))) (pss_one (ps_ret (pe_lc (own := [("kind", 2), ("item", 3)]) rfl sc_parts.nd (RZ.pi_zipA (by rfl) B.zip (pa_cons (pv 1) (pa_cons (pe_slice sl_tup (pv 0) (po_some pe_int) po_none) pa_nil))) (blkOk_by (N := N_parts) (sc := defScope s_parts) (by decide +kernel)) (fun _ _ _ _ _ => pgtK (n := 2) K rfl (pgs_cons (pg_name (i := 2) sc_parts.nd rfl (.inl rfl)) (pgs_cons (pg_name (i := 3) sc_parts.nd rfl (.inl rfl)) pgs_nil))) (fun _ _ _ _ _ => pts_one (pt_cmpR op_eq (pv 2) pe_str (nomark _))) (fun _ _ _ _ _ => pv 3))))), ?_⟩
    refine ⟨.ref p, rfl, p, _, 0, _, rfl, rfl, hp, at_of (j := 0) rfl rfl, a_SHAPES, _, .ref sq, rfl, rfl, hkd, ?_⟩
    refine ⟨.ref sq, rfl, .ref p, rfl, 1, rfl, p, _, rfl, hp, ?_, fun c nc => ?_⟩
    · rw [show HT.sIx (V.str (wen x) :: xs).length 0 (some 1) = min 1 (V.str (wen x) :: xs).length from HT.sIx_nat _ 0 1, List.length_cons]
      have : 0 < (wsh x).length := by cases x <;> exact Nat.succ_pos _
      omega
    rw [cutT1]
    have smc : Same H (upd H c (.tup xs)) := same_new nc
    have hc : (upd H c (.tup xs)) c = some (.tup xs) := upd_same
    have hlk : ((wsh x).map fun k => V.str (kdn k)).length = xs.length := by rw [List.length_map]; omega
    refine ⟨sq, c, _, xs, rfl, .inr ⟨hsq _, SqT.of hc, fun D nD => lc_it (walk_zipT hlk rfl) (fun i H' => Same (upd H c (.tup xs)) H' ∧ H' D = some (.lst (pkK ((wsh x).take i) (xs.take i)))) ⟨same_new nD, upd_same⟩ (fun i H' _ h => ⟨hsq _, SqT.of (h.1 _ _ hc)⟩) ?_ ?_⟩⟩
    · rintro i y H1 H2 hi ⟨sm, hD⟩ ⟨T, k, it, rfl, nT, rfl, e1, e2⟩
      have e1 : ((wsh x).map fun k => V.str (kdn k))[i]? = some k := e1
      have e2 : xs[i]? = some it := e2
      rw [List.getElem?_map] at e1
      cases hk : (wsh x)[i]? with
      | none => rw [hk] at e1; cases e1
      | some kk =>
        rw [hk] at e1
        have ek : V.str (kdn kk) = k := Option.some.inj e1
        subst ek
        obtain ⟨dd, hdd, hdp⟩ := dqall_get hds e2
        have sT := same_new (o := .tup [V.str (kdn kk), it]) nT
        have sm2 := sm.trans sT
        have hD2 := sT _ _ hD
        refine ⟨T, _, rfl, SqT.of upd_same, rfl, _, _, rfl, _, _, rfl, rfl, rfl, .str (kdn kk), rfl, rfl, _, rfl, ?_⟩
        by_cases cq : kk = .part
        · subst cq
          refine iteTT (by decide) ⟨it, rfl, _, hD2, ?_, fun b' o eb => ?_, ?_⟩
          · refine small1000 (Nat.le_trans (pkK_len _ _) ?_)
            rw [List.length_take]
            omega
          · rw [upd_ne (ne_of_none eb nD)]
            exact sm2 _ _ eb
          · rw [upd_same, pkK_snoc hk e2, if_pos rfl]
        · refine iteFF (by cases kk <;> first | exact absurd rfl cq | decide) ⟨sm2, ?_⟩
          rw [hD2, pkK_snoc hk e2, if_neg cq, List.append_nil]
    · rintro H1 ⟨sm, hD⟩
      rw [List.take_of_length_le (by rw [← hlk, List.length_map]; exact Nat.le_refl _), List.take_length] at hD
      have smt := smc.trans sm
      exact q _ D _ smt (smc.free nD) hD (dqall_same smt (pkK_dp hds))
end
end NG

namespace NG
open PySem PySem.Spec PyProof.Rows L2
theorem addE_drop {l : List Nat} {t i j : Nat} (h : l[i]? = some j) : addE t (l.drop i) = if j = 0 then 0 else addE (t + j) (l.drop (i + 1)) := by
  have hi := (List.getElem?_eq_some_iff.mp h).1
  rw [List.drop_eq_getElem_cons hi, (List.getElem?_eq_some_iff.mp h).2]
  rfl
theorem cntE_has {many : Int} {k : Nat} : ∀ {d : PyData}, hasD many d = true → ∃ w ds, d = .tuple (.str (wen w) :: ds) ∧ fitsD many (wsh w) ds = true
  | .tuple (.str x :: ds), h => by
    unfold hasD at h
    cases hw : weOf x with
    | none => simp only [hw] at h; cases h
    | some w =>
      simp only [hw] at h
      exact ⟨w, ds, by rw [weOf_eq hw], h⟩
  | .tuple [], h => by cases h
  | .tuple (.none :: _), h => by cases h
  | .tuple (.bool _ :: _), h => by cases h
  | .tuple (.int _ :: _), h => by cases h
  | .tuple (.list _ :: _), h => by cases h
  | .tuple (.tuple _ :: _), h => by cases h
  | .tuple (.dict _ :: _), h => by cases h
  | .none, h => by cases h
  | .bool _, h => by cases h
  | .int _, h => by cases h
  | .str _, h => by cases h
  | .list _, h => by cases h
  | .dict _, h => by cases h
theorem cntE_not {many : Int} {k : Nat} : ∀ {d : PyData}, hasD many d = false → cntE many (k + 1) d = 0
  | .tuple (.str x :: ds), h => by
    unfold hasD at h
    unfold cntE
    cases hw : weOf x with
    | none => simp only [hw]
    | some w =>
      simp only [hw] at h ⊢
      rw [if_neg (by rw [h]; exact Bool.false_ne_true)]
  | .tuple [], h => rfl
  | .tuple (.none :: _), h => rfl
  | .tuple (.bool _ :: _), h => rfl
  | .tuple (.int _ :: _), h => rfl
  | .tuple (.list _ :: _), h => rfl
  | .tuple (.tuple _ :: _), h => rfl
  | .tuple (.dict _ :: _), h => rfl
  | .none, h => rfl
  | .bool _, h => rfl
  | .int _, h => rfl
  | .str _, h => rfl
  | .list _, h => rfl
  | .dict _, h => rfl
section
variable {P : Program} {w : World} {K : PySem.W.Frag} {mg : Str → Option Value} {base : Heap}
theorem ok_cntE {f : Addr} {fd : FuncData} (F : Fun K "count_parts" "count_parts" s_count_parts f fd) (gF : mg "count_parts" = some (.ref f)) (b : Binds K fd ["thing", "many", "deep"] []) (c_has_shape : Cal P w K mg base 5 "has_shape" (spHasSh K)) (c_parts : Cal P w K mg base 1 "parts" (spPartsD K)) : ∀ n, Cal P w K mg base (n + 6) "count_parts" (spCntE K n)
  | 0 => cal_never F gF b fun vs H Q E => by rintro ⟨_, _, k, _, _, hk, _⟩; omega
  | n + 1 => by
    have c_count_parts := ok_cntE F gF b c_has_shape c_parts n
    refine ⟨f, fd, _, F.ok sc_count_parts (fun vs H Q E h => ?_) (fun cdv A outer s H vs Q E hr h => ?_), gF, F.kp, b⟩
    · obtain ⟨_, _, _, _, rfl, _⟩ := h
      rfl
    · obtain ⟨v, many, k, d, rfl, hk, hd, q⟩ := h
      refine ⟨_, (pss_cons (ps_if (PW.pt (pw_or (pt_cmpR op_eq (pv 2) pe_int (nomark _)) (pw_or1 (pt_not (pt_val (pe_c c_has_shape hr (by omega) (by rfl) (pa_cons (pv 0) (pa_cons (pv 1) pa_nil)))))))) (pss_one (ps_ret pe_int)) pss_nil) (pss_cons (ps_set (i := 3) sc_count_parts.nd rfl (.inl rfl) pe_int) (pss_cons (ps_for PassesOwn.never rfl (pi_list (pe_c c_parts hr (by omega) (by rfl) (pa_cons (pv 0) pa_nil))) (pg_name (i := 4) sc_count_parts.nd rfl (.inl rfl)) (pss_cons (ps_set (i := 5) sc_count_parts.nd rfl (.inl rfl) (pe_c c_count_parts hr (by omega) (by rfl) (pa_cons (pv 4) (pa_cons (pv 1) (pa_cons (pe_op op_sub (pv 2) pe_int) pa_nil))))) (pss_cons (ps_if (pt_cmpR op_eq (pv 5) pe_int (nomark _)) (pss_one (ps_ret pe_int)) pss_nil) (pss_one (ps_aug (i := 3) sc_count_parts.nd rfl (.inl rfl) (pv 5) ip_add))))) (pss_one (ps_ret (pv 3)))))), ?_⟩
      cases k with
      | zero => exact ⟨_, rfl, rfl, _, rfl, iteTT (by rfl) (iteTT rfl (q _ (Same.refl _)))⟩
      | succ k =>
        refine ⟨_, rfl, rfl, _, rfl, iteFF (by rw [decide_eq_false (by intro e; cases e)]) ?_⟩
        refine ⟨_, rfl, _, rfl, v, many, d, rfl, hd, fun H1 sm1 => ⟨_, rfl, ?_⟩⟩
        cases hh : hasD many d with
        | false =>
          rw [cntE_not hh] at q
          exact iteTT rfl (q _ sm1)
        | true =>
          obtain ⟨x, ds, rfl, c⟩ := cntE_has (k := 0) hh
          cases hd with
          | @tup p xs0 _ hp ha =>
            cases ha with
            | @cons y xs _ _ hy hds =>
              cases hy
              rw [cntE_eq, if_pos c] at q
              refine iteFF rfl ?_
              refine ⟨_, rfl, p, x, xs, ds, rfl, same_sqt sm1 hp, dqall_same sm1 hds, fitsD_len c, fun H2 l us sm2 nl hl hus => ?_⟩
              have hlen := dqall_len hus
              refine ⟨l, rfl, ⟨_, SqL.of hl⟩, for_list (xs := us) (fun i σ H' => ∃ (t : Nat) (y4 y5 : Option V), σ = [some (.ref p), some (.int many), some (.int ((k + 1 : Nat) : Int)), some (.int (t : Int)), y4, y5] ∧ Same H2 H' ∧ addE 1 ((partsD (wsh x) ds).map (cntE many k)) = addE t (((partsD (wsh x) ds).map (cntE many k)).drop i)) ⟨1, none, none, rfl, Same.refl _, rfl⟩ (fun i σ H' _ h => ?_) ?_ ?_⟩
              · obtain ⟨_, _, _, _, sm, _⟩ := h
                exact SqL.of (sm _ _ hl)
              · rintro i y σ H3 hy ⟨t, y4, y5, rfl, sm3, e⟩
                obtain ⟨dd, hdd, hdp⟩ := dqall_get hus hy
                have hm : ((partsD (wsh x) ds).map (cntE many k))[i]? = some (cntE many k dd) := by rw [List.getElem?_map, hdd]; rfl
                rw [addE_drop hm] at e
                refine ⟨_, rfl, _, rfl, _, rfl, _, _, rfl, rfl, y, many, k, dd, ?_, by omega, dq_same sm3 hdp, fun H4 sm4 => ?_⟩
                · show [y, V.int many, V.int (((k + 1 : Nat) : Int) - 1)] = _
                  rw [show ((k + 1 : Nat) : Int) - 1 = (k : Int) by omega]
                by_cases c0 : cntE many k dd = 0
                · rw [if_pos c0] at e
                  rw [e] at q
                  exact ⟨_, rfl, rfl, _, rfl, iteTT (by rw [c0]; rfl) (q _ (((sm1.trans sm2).trans sm3).trans sm4))⟩
                · rw [if_neg c0] at e
                  refine ⟨_, rfl, rfl, _, rfl, iteFF (decide_eq_false fun e => c0 (by have := V.int.inj e; omega)) ?_⟩
                  exact ⟨_, rfl, _, rfl, _, _, rfl, rfl, t + cntE many k dd, _, _, rfl, sm3.trans sm4, e⟩
              · rintro σ H3 ⟨t, y4, y5, rfl, sm3, e⟩
                rw [List.drop_of_length_le (by rw [List.length_map, hlen]; exact Nat.le_refl _)] at e
                rw [e] at q
                exact ⟨_, rfl, q _ ((sm1.trans sm2).trans sm3)⟩
theorem fn_isex {f : Addr} {fd : FuncData} (F : Fun K "is_expression" "is_expression" s_is_expression f fd) {t1 t2 : Tok} (mg_MOST_DEEP_expressions : mg "MOST_DEEP_expressions" = some (.int 8 t1)) (mg_MOST_PARTS : mg "MOST_PARTS" = some (.int 40 t2)) (c_count_parts : Cal P w K mg base 15 "count_parts" (spCntE K 9)) : FnOk P w K mg base CX0 16 f fd ["thing", "many"] (spIsEx K) := by
  refine F.ok sc_is_expression (fun vs H Q E h => ?_) (fun cdv A outer s H vs Q E hr h => ?_)
  · obtain ⟨_, _, _, rfl, _⟩ := h
    rfl
  · obtain ⟨v, many, d, rfl, hd, q⟩ := h
    refine ⟨_, (pss_one (ps_ret (pe_chain op_le op_le pe_int (pe_c c_count_parts hr (by omega) (by rfl) (pa_cons (pv 0) (pa_cons (pv 1) (pa_cons (pe_glob (v := .int (8)) (by rfl) mg_MOST_DEEP_expressions ⟨_, rfl⟩) pa_nil)))) (pe_glob (v := .int (40)) (by rfl) mg_MOST_PARTS ⟨_, rfl⟩)))), ?_⟩
    refine ⟨_, rfl, _, rfl, v, many, 8, d, rfl, by decide, hd, fun H1 sm1 => ?_⟩
    have q := q H1 sm1
    unfold isEx at q
    refine ⟨_, _, rfl, rfl, _, rfl, ?_⟩
    by_cases c : 1 ≤ cntE many 8 d
    · rw [decide_eq_true c, Bool.true_and] at q
      refine iteTT (decide_eq_true (by omega)) ⟨_, _, rfl, rfl, ?_⟩
      show Q (.bl (decide (((cntE many 8 d : Nat) : Int) ≤ 40))) H1
      rw [show decide (((cntE many 8 d : Nat) : Int) ≤ 40) = decide (cntE many 8 d ≤ 40) by rw [decide_eq_decide]; omega]
      exact q
    · rw [decide_eq_false c, Bool.false_and] at q
      exact iteFF (decide_eq_false (by omega)) q
end
end NG

namespace NG
open PySem PySem.Spec PyProof.Rows L2
section
variable {P : Program} {w : World} {K : PySem.W.Frag} {mg : Str → Option Value} {base : Heap}
theorem ok_hand {f : Addr} {fd : FuncData} (F : Fun K "_law_hand" "_law_hand" s_L_hand f fd) (gF : mg "_law_hand" = some (.ref f)) (b : Binds K fd ["_law_script", "_law_k"] []) (B : Bl mg) : Cal P w K mg base 1 "_law_hand" (spHand K) := by
  refine ⟨f, fd, _, F.ok sc_L_hand (fun vs H Q E h => ?_) (fun cdv A outer s H vs Q E hr h => ?_), gF, F.kp, b⟩
  · obtain ⟨a, m, n, rfl, _⟩ := h
    rfl
  · obtain ⟨a, k, ns, rfl, hk0, hk1, hS, q⟩ := h
    refine ⟨_, (pss_cons (ps_set (i := 2) sc_L_hand.nd rfl (.inl rfl) (pe_cut (pe_ifExp (pt_cmpR op_lt (pv 1) (pe_callB call_len_seq (by rfl) B.len PySem.boot_len (pa_cons (pv 0) pa_nil)) (nomark _)) (pe_ix ix_list (pv 0) (pv 1) (fun _ _ => rfl)) pe_int))) (pss_cons (ps_set (i := 3) sc_L_hand.nd rfl (.inl rfl) (pe_op op_mul (pe_op op_mod (pe_callB call_abs (by rfl) B.abs (by decide +kernel) (pa_cons (pv 2) pa_nil)) (pe_op op_mulW (pe_op op_pow pe_int pe_int) (pe_op op_pow pe_int pe_int))) (pe_callTy call_int1 (by rfl) B.int (by decide +kernel) (pa_cons (pe_cmpR op_ge (pe_callB call_abs (by rfl) B.abs (by decide +kernel) (pa_cons (pv 2) pa_nil)) (pe_op op_pow pe_int pe_int) (nomark _)) pa_nil)))) (pss_one (ps_ret (pe_lst (pa_cons (pv 3) (pa_cons (pe_op op_add (pe_op op_add (pe_op op_mod (pv 2) pe_int) (pe_op op_mul pe_int (pv 1))) pe_int) (pa_cons pe_int pa_nil)))))))), ?_⟩
    refine ⟨fun v H' => H' = H ∧ ∃ c : Int, v = .int c, ?_, fun v H' hv => ?_⟩
    · refine ⟨.int k, rfl, .ref a, rfl, a, _, rfl, .inl hS, k, _, rfl, rfl, _, rfl, iteD (fun c => ?_) (fun c => ?_)⟩
      · exact ⟨.ref a, rfl, .int k, rfl, a, _, k, _, rfl, rfl, hS, at_int hk0 (by rw [List.length_map] at c; exact c), rfl, _, rfl⟩
      · exact ⟨rfl, 0, rfl⟩
    · obtain ⟨rfl, c, rfl⟩ := hv
      refine ⟨.int c, rfl, c, rfl, 10, 60, rfl, rfl, ⟨by decide, by decide, by decide⟩, 10, 60, rfl, rfl, ⟨by decide, by decide, by decide⟩, _, _, rfl, rfl, wide_mul (a := 300) (b := 300) (by decide) (by decide) (by decide) (by decide) (by decide), _, _, rfl, rfl, (by show (0 : Int) < 10 ^ 60 * 10 ^ 60; decide), ?_⟩
      refine ⟨.int c, rfl, c, rfl, 10, 18, rfl, rfl, ⟨by decide, by decide, by decide⟩, _, _, rfl, rfl, .inr ⟨_, rfl, ?_⟩⟩
      have h01 : ∀ z : Bool, (0 : Int) ≤ (if z = true then 1 else 0) ∧ (if z = true then (1 : Int) else 0) ≤ 1 := by
        intro z
        cases z <;> decide
      refine ⟨_, _, rfl, rfl, .inr ⟨by have := h01 (decide ((10 : Int) ^ (18 : Int).toNat ≤ if c < 0 then -c else c)); omega, by have := h01 (decide ((10 : Int) ^ (18 : Int).toNat ≤ if c < 0 then -c else c)); omega⟩, ?_⟩
      refine ⟨_, rfl, .int c, rfl, c, 2305843009213693951, rfl, rfl, (by show (0 : Int) < 2305843009213693951; decide), .int k, rfl, 104729, k, rfl, rfl, .inl ⟨by decide, by decide⟩, _, _, rfl, rfl, _, 7, rfl, rfl, (by show 3 ≤ sizeLine; decide), fun p np => ?_⟩
      refine q p _ _ np (Int.mul_nonneg (Int.emod_nonneg _ (by show (10 : Int) ^ 60 * 10 ^ 60 ≠ 0; decide)) (h01 _).1) ?_
      have : 0 ≤ c % 2305843009213693951 := Int.emod_nonneg _ (by decide)
      omega
theorem ok_of {f : Addr} {fd : FuncData} (F : Fun K "_law_of" "_law_of" s_L_of f fd) (gF : mg "_law_of" = some (.ref f)) (b : Binds K fd ["_law_hand_here", "_law_some"] []) (B : Bl mg) (c_L_take : Cal P w K mg base 1 "_law_take" spTake) : Cal P w K mg base 2 "_law_of" (spOf K) := by
  refine ⟨f, fd, _, F.ok sc_L_of (fun vs H Q E h => ?_) (fun cdv A outer s H vs Q E hr h => ?_), gF, F.kp, b⟩
  · obtain ⟨a, m, n, _, rfl, _⟩ := h
    rfl
  · obtain ⟨a, l, xs, n, rfl, hal, hl, h0, h1, hh, hn, q⟩ := h
    refine ⟨_, (pss_one (ps_ret (pe_ix ix_list (pv 1) (pe_c c_L_take hr (by omega) (by rfl) (pa_cons (pv 0) (pa_cons (pe_callB call_len_seq (by rfl) B.len PySem.boot_len (pa_cons (pv 1) pa_nil)) pa_nil))) (fun _ _ => rfl)))), ?_⟩
    refine ⟨.ref l, rfl, .ref a, rfl, .ref l, rfl, l, _, rfl, .inl (SqL.of hl), ?_⟩
    refine ⟨a, _, n, rfl, by omega, by omega, hh, hn, fun H' r bt hh' r0 r1 => ?_⟩
    have hl' : H' l = some (.lst xs) := bt _ _ (Ne.symm hal) hl
    obtain ⟨v, hv, hm⟩ := at_mem (xs := xs) r0 r1
    exact ⟨l, _, r, v, rfl, rfl, SqL.of hl', hv, q _ _ bt hh' hm⟩
theorem ok_figure {f : Addr} {fd : FuncData} (F : Fun K "_law_figure" "_law_figure" s_L_figure f fd) (gF : mg "_law_figure" = some (.ref f)) (b : Binds K fd ["_law_hand_here"] []) (B : Bl mg) (c_L_take : Cal P w K mg base 1 "_law_take" spTake) (c_L_of : Cal P w K mg base 2 "_law_of" (spOf K)) : Cal P w K mg base 3 "_law_figure" spFigure := by
  refine ⟨f, fd, _, F.ok sc_L_figure (fun vs H Q E h => ?_) (fun cdv A outer s H vs Q E hr h => ?_), gF, F.kp, b⟩
  · obtain ⟨a, m, rfl, _⟩ := h
    rfl
  · obtain ⟨a, n, rfl, hh, hn, q⟩ := h
    refine ⟨_, (pss_cons (ps_set (i := 1) sc_L_figure.nd rfl (.inl rfl) (pe_lst (pa_cons pe_int (pa_cons pe_int (pa_cons (pe_un un_neg pe_int) (pa_cons pe_int (pa_cons pe_int (pa_cons pe_int (pa_cons pe_int (pa_cons (pe_un un_neg pe_int) (pa_cons pe_int (pa_cons (pe_un un_neg pe_int) pa_nil)))))))))))) (pss_one (ps_ret (pe_c c_L_of hr (by omega) (by rfl) (pa_cons (pv 0) (pa_cons (pe_op op_cat (pv 1) (pe_lst (pa_cons (pe_op op_sub (pe_c c_L_take hr (by omega) (by rfl) (pa_cons (pv 0) (pa_cons pe_int pa_nil))) pe_int) (pa_cons (pe_op op_sub (pe_c c_L_take hr (by omega) (by rfl) (pa_cons (pv 0) (pa_cons pe_int pa_nil))) pe_int) pa_nil)))) pa_nil)))))), ?_⟩
    refine ⟨_, rfl, _, rfl, _, rfl, (by show 10 ≤ sizeLine; decide), fun l nl => ?_⟩
    have hla := hh.ne nl
    have hl : (upd H l (.lst [.int 0, .int 1, .int (-1), .int 50, .int 100, .int 250, .int 500, .int (-500), .int 1000, .int (-1000)])) l = _ := upd_same
    refine ⟨.ref a, rfl, .ref l, rfl, .ref a, rfl, a, 2001, n, rfl, by decide, by decide, hh.new nl, by omega, fun H1 r1 b1 hh1 r10 r11 => ⟨_, _, rfl, rfl, ?_⟩⟩
    refine ⟨.ref a, rfl, a, 201, n + 1, rfl, by decide, by decide, hh1, by omega, fun H2 r2 b2 hh2 r20 r21 => ⟨_, _, rfl, rfl, ?_⟩⟩
    refine ⟨(by show 2 ≤ sizeLine; decide), fun l2 nl2 => ?_⟩
    have hl2a := hh2.ne nl2
    have e1 : H2 l = some (.lst [.int 0, .int 1, .int (-1), .int 50, .int 100, .int 250, .int 500, .int (-500), .int 1000, .int (-1000)]) := b2 _ _ hla (b1 _ _ hla hl)
    refine ⟨l, l2, _, _, rfl, rfl, by rw [upd_ne (ne_of_none e1 nl2)]; exact e1, upd_same, (by show 12 ≤ sizeLine; decide), fun l3 nl3 => ?_⟩
    have hh3 := (hh2.new (o := .lst [.int (r1 - 1000), .int (r2 - 100)]) nl2)
    refine ⟨a, l3, _, n + 2, rfl, (hh3.ne nl3).symm, upd_same, (by show 0 < 12; decide), (by show 12 ≤ 1000; decide), hh3.new nl3, by omega, fun H4 v b4 hh4 hv => ?_⟩
    have bb : But a H H4 := (((((But.new nl).trans b1).trans b2).trans (But.new nl2)).trans (But.new nl3)).trans b4
    have key : ∃ c : Int, v = .int c ∧ -1000 ≤ c ∧ c ≤ 1000 := by
      simp only [List.cons_append, List.nil_append, List.mem_cons, List.not_mem_nil, or_false] at hv
      rcases hv with rfl | rfl | rfl | rfl | rfl | rfl | rfl | rfl | rfl | rfl | rfl | rfl
      all_goals exact ⟨_, rfl, by omega, by omega⟩
    obtain ⟨c, rfl, c0, c1⟩ := key
    exact q _ _ bb hh4 c0 c1
end
end NG

namespace NG
open PySem PySem.Spec PyProof.Rows L2
theorem wn_ne {o : W4} {s : Str} (h : s = "fig" ∨ s = "reg" ∨ s = "share" ∨ s = "times" ∨ s = "by" ∨ s = "when" ∨ s = "where") : decide (V.str (wn o) = V.str s) = false := by
  rcases h with rfl | rfl | rfl | rfl | rfl | rfl | rfl <;> cases o <;> decide
end NG

namespace NG
open PySem PySem.Spec PyProof.Rows L2
section
variable {P : Program} {w : World} {K : PySem.W.Frag} {mg : Str → Option Value} {base : Heap}
theorem ok_parts {f a_SHAPES : Addr} {fd : FuncData} (F : Fun K "parts" "parts" s_parts f fd) (gF : mg "parts" = some (.ref f)) (b : Binds K fd ["expression"] []) (B : Bl mg) (mg_SHAPES : mg "SHAPES" = some (.ref a_SHAPES)) (hSh : Shapes K w a_SHAPES) : Cal P w K mg base 1 "parts" (spParts K) := by
  refine ⟨f, fd, _, F.ok sc_parts (fun vs H Q E h => ?_) (fun cdv A outer s H vs Q E hr h => ?_), gF, F.kp, b⟩
  · obtain ⟨_, _, rfl, _⟩ := h
    rfl
  · obtain ⟨v, e, rfl, he, q⟩ := h
    obtain ⟨p, xs, rfl, hp, hl, hl4, hl0, hrow⟩ := he.lies
    obtain ⟨sq, hkd, hsq⟩ := hSh e
    refine ⟨_, (pss_cons (ps_set (i := 1) sc_parts.nd rfl (.inl rfl) (pe_ix ix_kdict (pe_glob (v := .ref a_SHAPES) (by rfl) mg_SHAPES rfl) (pe_ix ix_tup (pv 0) pe_int (fun _ _ => rfl)) (fun _ _ => rfl))) (pss_one (ps_ret (pe_lc (own := [("kind", 2), ("item", 3)]) rfl sc_parts.nd (RZ.pi_zipA (by rfl) B.zip (pa_cons (pv 1) (pa_cons (pe_slice sl_tup (pv 0) (po_some pe_int) po_none) pa_nil))) (blkOk_by (N := N_parts) (sc := defScope s_parts) (by decide +kernel)) (fun _ _ _ _ _ => pgtK (n := 2) K rfl (pgs_cons (pg_name (i := 2) sc_parts.nd rfl (.inl rfl)) (pgs_cons (pg_name (i := 3) sc_parts.nd rfl (.inl rfl)) pgs_nil))) (fun _ _ _ _ _ => pts_one (pt_cmpR op_eq (pv 2) pe_str (nomark _))) (fun _ _ _ _ _ => pv 3))))), ?_⟩
    refine ⟨.ref p, rfl, p, _, 0, _, rfl, rfl, hp, at_of (j := 0) rfl rfl, a_SHAPES, _, .ref sq, rfl, rfl, hkd, ?_⟩
    have hcut : cutV (V.str (wordOf e) :: xs) (some 1) none = xs := by
      unfold cutV
      rw [show HT.sIx (V.str (wordOf e) :: xs).length 0 (some 1) = min 1 (V.str (wordOf e) :: xs).length from HT.sIx_nat _ 0 1, HT.sIx_none, List.length_cons, show min 1 (xs.length + 1) = 1 by omega]
      show List.take (xs.length + 1 - 1) xs = xs
      rw [Nat.add_sub_cancel, List.take_length]
    refine ⟨.ref sq, rfl, .ref p, rfl, 1, rfl, p, _, rfl, hp, ?_, fun c nc => ?_⟩
    · rw [show HT.sIx (V.str (wordOf e) :: xs).length 0 (some 1) = min 1 (V.str (wordOf e) :: xs).length from HT.sIx_nat _ 0 1, List.length_cons]
      omega
    rw [hcut]
    have smc : Same H (upd H c (.tup xs)) := same_new nc
    have hc : (upd H c (.tup xs)) c = some (.tup xs) := upd_same
    have hlk : ((shapeOf e).map V.str).length = xs.length := by rw [List.length_map]; exact hl.symm
    refine ⟨sq, c, (shapeOf e).map V.str, xs, rfl, .inr ⟨hsq _, SqT.of hc, fun D nD => lc_it (walk_zipT hlk rfl) (fun i H' => Same (upd H c (.tup xs)) H' ∧ H' D = some (.lst (pk ((shapeOf e).take i) (xs.take i)))) ⟨same_new nD, upd_same⟩ (fun i H' _ h => ⟨hsq _, SqT.of (h.1 _ _ hc)⟩) ?_ ?_⟩⟩
    · rintro i x H1 H2 hi ⟨sm, hD⟩ ⟨T, k, it, rfl, nT, rfl, e1, e2⟩
      have e1 : ((shapeOf e).map V.str)[i]? = some k := e1
      have e2 : xs[i]? = some it := e2
      rw [List.getElem?_map] at e1
      cases hk : (shapeOf e)[i]? with
      | none => rw [hk] at e1; cases e1
      | some ks =>
        rw [hk] at e1
        have ek : V.str ks = k := Option.some.inj e1
        subst ek
        have sm2 := sm.trans (same_new (o := .tup [V.str ks, it]) nT)
        have hD2 := same_new (o := .tup [V.str ks, it]) nT _ _ hD
        refine ⟨T, _, rfl, SqT.of upd_same, rfl, _, _, rfl, _, _, rfl, rfl, rfl, .str ks, rfl, rfl, _, rfl, iteD (fun cq => ?_) (fun cq => ?_)⟩
        · refine ⟨it, rfl, _, hD2, ?_, fun b' o eb => ?_, ?_⟩
          · refine small1000 (Nat.le_trans (pk_len _ _) ?_)
            rw [List.length_take]
            omega
          · rw [upd_ne (ne_of_none eb nD)]
            exact sm2 _ _ eb
          · rw [upd_same, pk_snoc hk e2, if_pos cq]
        · refine ⟨sm2, ?_⟩
          rw [hD2, pk_snoc hk e2, if_neg cq, List.append_nil]
    · rintro H1 ⟨sm, hD⟩
      rw [List.take_of_length_le (by rw [hl]; exact Nat.le_refl _), List.take_length] at hD
      have smt := smc.trans sm
      exact q _ D _ smt (smc.free nD) hD (hrow.same smt)
theorem ok_joinS {f : Addr} {fd : FuncData} (F : Fun K "join_spans" "join_spans" s_join_spans f fd) (gF : mg "join_spans" = some (.ref f)) (b : Binds K fd ["word", "first", "second"] []) (B : Bl mg) : Cal P w K mg base 1 "join_spans" (spJoinS K) := by
  refine ⟨f, fd, _, F.ok sc_join_spans (fun vs H Q E h => ?_) (fun cdv A outer s H vs Q E hr h => ?_), gF, F.kp, b⟩
  · obtain ⟨_, _, _, _, _, rfl, _⟩ := h
    rfl
  · obtain ⟨e, _, _, ⟨x1, x2⟩, ⟨y1, y2⟩, rfl, ⟨px, rfl, hx⟩, ⟨py, rfl, hy⟩, q⟩ := h
    refine ⟨_, (pss_cons (ps_asg (pv 1) (pg_tup rfl (pgs_cons (pg_name (i := 3) sc_join_spans.nd rfl (.inl rfl)) (pgs_cons (pg_name (i := 4) sc_join_spans.nd rfl (.inl rfl)) pgs_nil)))) (pss_cons (ps_asg (pv 2) (pg_tup rfl (pgs_cons (pg_name (i := 5) sc_join_spans.nd rfl (.inl rfl)) (pgs_cons (pg_name (i := 6) sc_join_spans.nd rfl (.inl rfl)) pgs_nil)))) (pss_cons (ps_if (pt_cmpR op_eq (pv 0) pe_str (nomark _)) (pss_one (ps_ret (pe_tup (pa_cons (pe_op op_add (pv 3) (pv 5)) (pa_cons (pe_op op_add (pv 4) (pv 6)) pa_nil))))) pss_nil) (pss_cons (ps_if (pt_cmpR op_eq (pv 0) pe_str (nomark _)) (pss_one (ps_ret (pe_tup (pa_cons (pe_op op_sub (pv 3) (pv 6)) (pa_cons (pe_op op_sub (pv 4) (pv 5)) pa_nil))))) pss_nil) (pss_cons (ps_if (pt_cmpR op_eq (pv 0) pe_str (nomark _)) (pss_one (ps_ret (pe_tup (pa_cons (pe_callB (call_min2 rfl) (by rfl) B.min (by decide +kernel) (pa_cons (pv 3) (pa_cons (pv 5) pa_nil))) (pa_cons (pe_callB (call_min2 rfl) (by rfl) B.min (by decide +kernel) (pa_cons (pv 4) (pa_cons (pv 6) pa_nil))) pa_nil))))) pss_nil) (pss_cons (ps_if (pt_cmpR op_eq (pv 0) pe_str (nomark _)) (pss_one (ps_ret (pe_tup (pa_cons (pe_callB (call_max2 rfl) (by rfl) B.max (by decide +kernel) (pa_cons (pv 3) (pa_cons (pv 5) pa_nil))) (pa_cons (pe_callB (call_max2 rfl) (by rfl) B.max (by decide +kernel) (pa_cons (pv 4) (pa_cons (pv 6) pa_nil))) pa_nil))))) pss_nil) (pss_one (ps_ret (pe_tup (pa_cons (pe_callB (call_min2 rfl) (by rfl) B.min (by decide +kernel) (pa_cons (pv 3) (pa_cons (pv 5) pa_nil))) (pa_cons (pe_callB (call_max2 rfl) (by rfl) B.max (by decide +kernel) (pa_cons (pv 4) (pa_cons (pv 6) pa_nil))) pa_nil))))))))))), ?_⟩
    refine ⟨.ref px, rfl, px, _, rfl, hx, rfl, _, _, rfl, _, _, rfl, rfl, .ref py, rfl, py, _, rfl, hy, rfl, _, _, rfl, _, _, rfl, rfl, ?_⟩
    refine ⟨_, rfl, rfl, _, rfl, ?_⟩
    rcases q with ⟨o, a, bb, rfl, q⟩ | ⟨he, q⟩
    · cases o with
      | sum =>
        refine iteTT rfl ?_
        exact ⟨_, rfl, _, rfl, _, _, rfl, rfl, _, rfl, _, rfl, _, _, rfl, rfl, (by show 2 ≤ sizeLine; decide), fun p np => q _ _ (same_new np) ⟨p, rfl, SqT.of upd_same⟩⟩
      | less =>
        refine iteFF rfl ⟨_, rfl, rfl, _, rfl, iteTT rfl ?_⟩
        exact ⟨_, rfl, _, rfl, _, _, rfl, rfl, _, rfl, _, rfl, _, _, rfl, rfl, (by show 2 ≤ sizeLine; decide), fun p np => q _ _ (same_new np) ⟨p, rfl, SqT.of upd_same⟩⟩
      | least =>
        refine iteFF rfl ⟨_, rfl, rfl, _, rfl, iteFF rfl ⟨_, rfl, rfl, _, rfl, iteTT rfl ?_⟩⟩
        exact ⟨_, rfl, _, rfl, _, _, rfl, _, rfl, _, rfl, _, _, rfl, (by show 2 ≤ sizeLine; decide), fun p np => q _ _ (same_new np) ⟨p, rfl, SqT.of upd_same⟩⟩
      | most =>
        refine iteFF rfl ⟨_, rfl, rfl, _, rfl, iteFF rfl ⟨_, rfl, rfl, _, rfl, iteFF rfl ⟨_, rfl, rfl, _, rfl, iteTT rfl ?_⟩⟩⟩
        exact ⟨_, rfl, _, rfl, _, _, rfl, _, rfl, _, rfl, _, _, rfl, (by show 2 ≤ sizeLine; decide), fun p np => q _ _ (same_new np) ⟨p, rfl, SqT.of upd_same⟩⟩
    · have hw : wordOf e = "when" ∨ wordOf e = "where" := by
        rcases he with ⟨_, _, _, _, rfl⟩ | ⟨_, _, _, _, rfl⟩
        · exact .inl rfl
        · exact .inr rfl
      have nn : ∀ s : Str, s = "sum" ∨ s = "less" ∨ s = "least" ∨ s = "most" → decide (V.str (wordOf e) = V.str s) = false := fun s hs => by
        rcases hw with h | h <;> rw [h] <;> rcases hs with rfl | rfl | rfl | rfl <;> decide
      refine iteFF (nn _ (by simp)) ⟨_, rfl, rfl, _, rfl, iteFF (nn _ (by simp)) ⟨_, rfl, rfl, _, rfl, iteFF (nn _ (by simp)) ⟨_, rfl, rfl, _, rfl, iteFF (nn _ (by simp)) ?_⟩⟩⟩
      exact ⟨_, rfl, _, rfl, _, _, rfl, _, rfl, _, rfl, _, _, rfl, (by show 2 ≤ sizeLine; decide), fun p np => q _ _ (same_new np) ⟨p, rfl, SqT.of upd_same⟩⟩
end
end NG

namespace NG
open PySem PySem.Spec PyProof.Rows L2
section
variable {P : Program} {w : World} {K : PySem.W.Frag} {mg : Str → Option Value} {base : Heap}
theorem fn_span {f : Addr} {fd : FuncData} (F : Fun K "span" "span" s_span f fd) (gF : mg "span" = some (.ref f)) (b : Binds K fd ["expression"] []) (B : Bl mg) (c_parts : Cal P w K mg base 1 "parts" (spParts K)) (c_join_spans : Cal P w K mg base 1 "join_spans" (spJoinS K)) : ∀ n, FnOk P w K mg base CX0 (n + 2) f fd ["expression"] (spSpan K n) := by
  intro n
  induction n with
  | zero =>
    refine fn_never fun vs H Q E h => ?_
    obtain ⟨_, e, _, _, _, _, hd, _⟩ := h
    cases e <;> (unfold Ex.dep at hd; omega)
  | succ n ih =>
  have c_span : Cal P w K mg base (n + 2) "span" (spSpan K n) := ⟨f, fd, _, ih, gF, F.kp, b⟩
  refine F.ok sc_span (fun vs H Q E h => ?_) (fun cdv A outer s H vs Q E hr h => ?_)
  · obtain ⟨_, _, _, rfl, _⟩ := h
    rfl
  · obtain ⟨v, e, many, rfl, he, ho, hd, q⟩ := h
    refine ⟨_, (pss_cons (ps_set (i := 1) sc_span.nd rfl (.inl rfl) (pe_ix ix_tup (pv 0) pe_int (fun _ _ => rfl))) (pss_cons (ps_if (pt_cmpR op_eq (pv 1) pe_str (nomark _)) (pss_one (ps_ret (pe_tup (pa_cons (pe_ix ix_tup (pv 0) pe_int (fun _ _ => rfl)) (pa_cons (pe_ix ix_tup (pv 0) pe_int (fun _ _ => rfl)) pa_nil))))) pss_nil) (pss_cons (ps_if (pt_cmpR op_eq (pv 1) pe_str (nomark _)) (pss_one (ps_ret (pe_tup (pa_cons (pe_un un_neg pe_int) (pa_cons pe_int pa_nil))))) pss_nil) (pss_cons (ps_if (pt_cmpR op_eq (pv 1) pe_str (nomark _)) (pss_one (ps_ret (pe_tup (pa_cons pe_int (pa_cons pe_int pa_nil))))) pss_nil) (pss_cons (ps_setLc (i := 2) (own := [("part", 3)]) rfl sc_span.nd rfl rfl (sw_true rfl rfl rfl (by decide +kernel)) (pi_list (pe_c c_parts hr (by omega) (by rfl) (pa_cons (pv 0) pa_nil))) (blkOk_by (N := N_span) (sc := defScope s_span) (by decide +kernel)) (fun _ _ _ _ _ => pg_name (i := 3) sc_span.nd rfl (.inl rfl)) (fun _ _ _ _ _ => pts_nil) (fun _ _ _ _ _ => pe_c c_span hr (by omega) (by rfl) (pa_cons (pv 3) pa_nil))) (pss_cons (ps_if (pt_cmpR op_eq (pv 1) pe_str (nomark _)) (pss_cons (ps_setLc (i := 4) (own := [("end", 5)]) rfl sc_span.nd rfl rfl (sw_true rfl rfl rfl (by decide +kernel)) (pi_tup (pe_ix ix_list (pv 2) pe_int (fun _ _ => rfl))) (blkOk_by (N := N_span) (sc := defScope s_span) (by decide +kernel)) (fun _ _ _ _ _ => pg_name (i := 5) sc_span.nd rfl (.inl rfl)) (fun _ _ _ _ _ => pts_nil) (fun _ _ _ _ _ => pe_op op_mul (pe_ix (ixt K) (pv 0) pe_int (fun _ _ => rfl)) (pv 5))) (pss_one (ps_ret (pe_tup (pa_cons (pe_callB (cr_min rfl) (by rfl) B.min (by decide +kernel) (pa_cons (pv 4) pa_nil)) (pa_cons (pe_callB (cr_max rfl) (by rfl) B.max (by decide +kernel) (pa_cons (pv 4) pa_nil)) pa_nil)))))) pss_nil) (pss_cons (ps_if (pt_cmpR op_eq (pv 1) pe_str (nomark _)) (pss_cons (ps_set (i := 6) sc_span.nd rfl (.inl rfl) (pe_callB (cr_max rfl) (by rfl) B.max (by decide +kernel) (pa_cons (pe_lc (own := [("end", 5)]) rfl sc_span.nd (pi_tup (pe_ix ix_list (pv 2) pe_int (fun _ _ => rfl))) (blkOk_by (N := N_span) (sc := defScope s_span) (by decide +kernel)) (fun _ _ _ _ _ => pg_name (i := 5) sc_span.nd rfl (.inl rfl)) (fun _ _ _ _ _ => pts_nil) (fun _ _ _ _ _ => pe_callB call_abs (by rfl) B.abs (by decide +kernel) (pa_cons (pv 5) pa_nil))) pa_nil))) (pss_one (ps_ret (pe_tup (pa_cons (pe_op op_mul (pe_un un_neg pe_int) (pv 6)) (pa_cons (pe_op op_mul pe_int (pv 6)) pa_nil)))))) pss_nil) (pss_one (ps_ret (pe_c c_join_spans hr (by omega) (by rfl) (pa_cons (pv 1) (pa_cons (pe_ix ix_list (pv 2) pe_int (fun _ _ => rfl)) (pa_cons (pe_ix ix_list (pv 2) pe_int (fun _ _ => rfl)) pa_nil))))))))))))), ?_⟩
    obtain ⟨p, xs, rfl, hp, hl, hl4, hl0, hrow⟩ := he.lies
    refine ⟨.ref p, rfl, p, _, 0, _, rfl, rfl, hp, at_of (j := 0) rfl rfl, ?_⟩
    refine ⟨_, rfl, rfl, _, rfl, ?_⟩
    by_cases hleaf : e.kids = []
    · cases e with
      | fig c =>
        refine iteTT rfl ?_
        have hp : SqT K H p [.str "fig", .int c] := by
          obtain ⟨p', e', q'⟩ := he
          cases e'
          exact q'
        exact ⟨.ref p, rfl, p, _, 1, _, rfl, rfl, hp, rfl, .ref p, rfl, p, _, 1, _, rfl, rfl, hp, rfl, (by show 2 ≤ sizeLine; decide), fun t nt => q _ _ (same_new nt) ⟨t, rfl, SqT.of upd_same⟩⟩
      | reg i =>
        refine iteFF rfl ⟨_, rfl, rfl, _, rfl, iteTT rfl ?_⟩
        exact ⟨_, rfl, (by show 2 ≤ sizeLine; decide), fun t nt => q _ _ (same_new nt) ⟨t, rfl, SqT.of upd_same⟩⟩
      | share j =>
        refine iteFF rfl ⟨_, rfl, rfl, _, rfl, iteFF rfl ⟨_, rfl, rfl, _, rfl, iteTT rfl ?_⟩⟩
        exact ⟨(by show 2 ≤ sizeLine; decide), fun t nt => q _ _ (same_new nt) ⟨t, rfl, SqT.of upd_same⟩⟩
      | two o a b => cases hleaf
      | times f a => cases hleaf
      | «by» i a => cases hleaf
      | when i c a b => cases hleaf
      | whr i c a b => cases hleaf
    · have nn : ∀ s : Str, s = "fig" ∨ s = "reg" ∨ s = "share" → decide (V.str (wordOf e) = V.str s) = false := fun s hs => by
        cases e with
        | fig c => exact absurd rfl hleaf
        | reg c => exact absurd rfl hleaf
        | share c => exact absurd rfl hleaf
        | two o a b => rcases hs with rfl | rfl | rfl <;> exact wn_ne (by simp)
        | times f a => rcases hs with rfl | rfl | rfl <;> rfl
        | «by» i a => rcases hs with rfl | rfl | rfl <;> rfl
        | when i c a b => rcases hs with rfl | rfl | rfl <;> rfl
        | whr i c a b => rcases hs with rfl | rfl | rfl <;> rfl
      refine iteFF (nn _ (by simp)) ⟨_, rfl, rfl, _, rfl, iteFF (nn _ (by simp)) ⟨_, rfl, rfl, _, rfl, iteFF (nn _ (by simp)) ?_⟩⟩
      refine ⟨.ref p, rfl, .ref p, e, rfl, he, fun H1 l xs1 sm1 nl hl1 hrow1 => ⟨l, rfl, ⟨_, SqL.of hl1⟩, fun D nD => lc_list (xs := xs1) (fun i H' => Same H1 H' ∧ ∃ us, H' D = some (.lst us) ∧ SpsAt K H' us ((e.kids.take i).map spn)) ⟨same_new nD, [], upd_same, trivial⟩ (fun i H' _ h => SqL.of (h.1 _ _ hl1)) ?_ ?_⟩⟩
      · rintro i x H2 hx ⟨sm2, us, hD, hus⟩
        obtain ⟨k, hk, xk⟩ := hrow1.get' hx
        have hkm := List.mem_of_getElem? hk
        have hkd := kids_dep e k hkm
        refine ⟨rfl, tYes_in ?_⟩
        refine ⟨x, rfl, x, k, many, rfl, xk.same sm2, kids_ok e k ho hkm, by omega, fun H3 u sm3 hu => ?_⟩
        have hD3 := sm3 _ _ hD
        have hlen := hus.len
        rw [List.length_map, List.length_take] at hlen
        have hkl : e.kids.length ≤ 2 := by cases e <;> simp [Ex.kids]
        refine ⟨us, hD3, small1000 (by omega), fun b' o eb => ?_, us ++ [u], upd_same, ?_⟩
        · rw [upd_ne (ne_of_none eb nD)]
          exact sm3 _ _ (sm2 _ _ eb)
        · rw [List.take_add_one, hk, List.map_append]
          refine SpsAt.snoc (s := spn k) (v := u) ?_ ((hus.imp fun _ _ q => same_sqt sm3 q).imp fun _ _ q => put_sqt hD3 q)
          obtain ⟨pu, eu, qu⟩ := hu
          exact ⟨pu, eu, put_sqt hD3 qu⟩
      · rintro H2 ⟨sm2, us, hD, hus⟩
        rw [hrow1.len, List.take_length] at hus
        have sm02 := sm1.trans sm2
        clear hrow1 hl1 nD nl
        have hp2 := same_sqt sm02 hp
        refine ⟨_, rfl, rfl, _, rfl, ?_⟩
        cases e with
        | fig c => exact absurd rfl hleaf
        | reg c => exact absurd rfl hleaf
        | share c => exact absurd rfl hleaf
        | times fa a =>
          obtain ⟨⟨o1, o2⟩, oa⟩ := ho
          refine iteTT rfl ?_
          obtain ⟨pu, rfl, hu⟩ := hus.one
          obtain ⟨p', x', e', q', _⟩ := he
          cases e'
          have hpf := same_sqt sm02 q'
          refine ⟨.ref D, rfl, D, _, 0, _, rfl, rfl, SqL.of hD, rfl, pu, rfl, ⟨_, hu⟩, fun D2 nD2 => lc_tup (xs := [(spn a).1, (spn a).2].map V.int) (fun i H' => Same H2 H' ∧ H' D2 = some (.lst ((([(spn a).1, (spn a).2].take i).map (fa * ·)).map V.int))) ⟨same_new nD2, upd_same⟩ (fun i H' _ h => same_sqt h.1 hu) ?_ ?_⟩
          · rintro i v H3 hv ⟨sm3, hD2⟩
            obtain ⟨z, rfl, hz⟩ := int_at hv
            have hi2 : i < 2 := (List.getElem?_eq_some_iff.mp hz).1
            refine ⟨rfl, tYes_in ?_⟩
            refine ⟨.ref p, rfl, p, _, 1, _, rfl, rfl, same_sqt sm3 hpf, rfl, .int z, rfl, fa, z, rfl, rfl, .inl ⟨by omega, by omega⟩, _, hD2, ?_, fun b' o eb => ?_, ?_⟩
            · rw [List.length_map, List.length_map, List.length_take]
              exact small1000 (by omega)
            · rw [upd_ne (ne_of_none eb nD2)]
              exact sm3 _ _ eb
            · rw [upd_same, List.take_add_one, hz, List.map_append, List.map_append]
              rfl
          · rintro H3 ⟨sm3, hD2⟩
            refine ⟨.ref D2, rfl, D2, [fa * (spn a).1, fa * (spn a).2], rfl, SqL.of hD2, (by show 0 < 2; decide), fun m hm hle => ⟨.ref D2, rfl, D2, [fa * (spn a).1, fa * (spn a).2], rfl, SqL.of hD2, (by show 0 < 2; decide), fun M hM hge => ⟨(by show 2 ≤ sizeLine; decide), fun t nt => ?_⟩⟩⟩
            rw [mn_of hm hle, mx_of hM hge]
            exact q _ _ (sm02.trans (sm3.trans (same_new nt))) ⟨t, rfl, SqT.of upd_same⟩
        | «by» i a =>
          refine iteFF rfl ⟨_, rfl, rfl, _, rfl, iteTT rfl ?_⟩
          obtain ⟨pu, rfl, hu⟩ := hus.one
          refine ⟨.ref D, rfl, D, _, 0, _, rfl, rfl, SqL.of hD, rfl, pu, rfl, ⟨_, hu⟩, fun D2 nD2 => lc_tup (xs := [(spn a).1, (spn a).2].map V.int) (fun i H' => Same H2 H' ∧ H' D2 = some (.lst ((([(spn a).1, (spn a).2].take i).map ab).map V.int))) ⟨same_new nD2, upd_same⟩ (fun i H' _ h => same_sqt h.1 hu) ?_ ?_⟩
          · rintro i v H3 hv ⟨sm3, hD2⟩
            obtain ⟨z, rfl, hz⟩ := int_at hv
            have hi2 : i < 2 := (List.getElem?_eq_some_iff.mp hz).1
            refine ⟨rfl, tYes_in ?_⟩
            refine ⟨.int z, rfl, z, rfl, _, hD2, ?_, fun b' o eb => ?_, ?_⟩
            · rw [List.length_map, List.length_map, List.length_take]
              exact small1000 (by omega)
            · rw [upd_ne (ne_of_none eb nD2)]
              exact sm3 _ _ eb
            · rw [upd_same, List.take_add_one, hz, List.map_append, List.map_append]
              rfl
          · rintro H3 ⟨sm3, hD2⟩
            refine ⟨D2, [ab (spn a).1, ab (spn a).2], rfl, SqL.of hD2, (by show 0 < 2; decide), fun M hM hge => ?_⟩
            rw [mx_of hM hge]
            refine ⟨_, rfl, .int _, rfl, _, _, rfl, rfl, .inl ⟨by decide, by decide⟩, .int _, rfl, _, _, rfl, rfl, .inl ⟨by decide, by decide⟩, (by show 2 ≤ sizeLine; decide), fun t nt => ?_⟩
            exact q _ _ (sm02.trans (sm3.trans (same_new nt))) ⟨t, rfl, SqT.of upd_same⟩
        | two o a b =>
          refine iteFF (wn_ne (by simp)) ⟨_, rfl, rfl, _, rfl, iteFF (wn_ne (by simp)) ?_⟩
          obtain ⟨pu, pw, rfl, hu, hw⟩ := hus.pair
          refine ⟨_, rfl, .ref D, rfl, D, _, 0, _, rfl, rfl, SqL.of hD, rfl, .ref D, rfl, D, _, 1, _, rfl, rfl, SqL.of hD, rfl, .two o a b, _, _, spn a, spn b, rfl, ⟨pu, rfl, hu⟩, ⟨pw, rfl, hw⟩, .inl ⟨o, a, b, rfl, fun H3 v sm3 hv => ?_⟩⟩
          exact q _ _ (sm02.trans sm3) hv
        | when i c a b =>
          refine iteFF rfl ⟨_, rfl, rfl, _, rfl, iteFF rfl ?_⟩
          obtain ⟨pu, pw, rfl, hu, hw⟩ := hus.pair
          refine ⟨_, rfl, .ref D, rfl, D, _, 0, _, rfl, rfl, SqL.of hD, rfl, .ref D, rfl, D, _, 1, _, rfl, rfl, SqL.of hD, rfl, .when i c a b, _, _, spn a, spn b, rfl, ⟨pu, rfl, hu⟩, ⟨pw, rfl, hw⟩, .inr ⟨.inl ⟨i, c, a, b, rfl⟩, fun H3 v sm3 hv => ?_⟩⟩
          exact q _ _ (sm02.trans sm3) hv
        | whr i c a b =>
          refine iteFF rfl ⟨_, rfl, rfl, _, rfl, iteFF rfl ?_⟩
          obtain ⟨pu, pw, rfl, hu, hw⟩ := hus.pair
          refine ⟨_, rfl, .ref D, rfl, D, _, 0, _, rfl, rfl, SqL.of hD, rfl, .ref D, rfl, D, _, 1, _, rfl, rfl, SqL.of hD, rfl, .whr i c a b, _, _, spn a, spn b, rfl, ⟨pu, rfl, hu⟩, ⟨pw, rfl, hw⟩, .inr ⟨.inr ⟨i, c, a, b, rfl⟩, fun H3 v sm3 hv => ?_⟩⟩
          exact q _ _ (sm02.trans sm3) hv
theorem ok_span {f : Addr} {fd : FuncData} (F : Fun K "span" "span" s_span f fd) (gF : mg "span" = some (.ref f)) (b : Binds K fd ["expression"] []) (B : Bl mg) (c_parts : Cal P w K mg base 1 "parts" (spParts K)) (c_join_spans : Cal P w K mg base 1 "join_spans" (spJoinS K)) : ∀ n, Cal P w K mg base (n + 2) "span" (spSpan K n) := fun n => ⟨f, fd, _, fn_span F gF b B c_parts c_join_spans n, gF, F.kp, b⟩
end
end NG

namespace NG
open PySem PySem.Spec PyProof.Rows L2
def spPow2 : Sp := fun vs H Q _ => ∃ s : Nat, vs = [.int (s : Int)] ∧ s < 5 ∧ Q (.int (pw2 s)) H
def spBound (K : PySem.W.Frag) (n : Nat) : Sp := fun vs H Q _ => ∃ (dv : V) (D : Dbt) (many : Nat), vs = [dv] ∧ DbAt K H D dv ∧ 1 ≤ D.stakes.length ∧ D.stakes.length ≤ 3 ∧ (∀ e ∈ D.stakes, ExOk many e ∧ e.dep ≤ n) ∧ D.scale < 5 ∧ ∀ H', Same H H' → Q (.int (bndI D)) H'
theorem ends_snoc {es : List Ex} {i : Nat} {e : Ex} (h : es[i]? = some e) : endsI (es.take (i + 1)) = endsI (es.take i) ++ [ab (spn e).1, ab (spn e).2] := by
  unfold endsI
  rw [List.take_add_one, h, List.flatMap_append]
  simp
theorem ends_len : ∀ es : List Ex, (endsI es).length = 2 * es.length
  | [] => rfl
  | e :: es => by
    show ([ab (spn e).1, ab (spn e).2] ++ endsI es).length = _
    rw [List.length_append, ends_len es]
    show 2 + 2 * es.length = 2 * (es.length + 1)
    omega
section
variable {P : Program} {w : World} {K : PySem.W.Frag} {mg : Str → Option Value} {base : Heap}
theorem ok_pow2 {f : Addr} {fd : FuncData} (F : Fun K "power" "power" s_power f fd) (gF : mg "power" = some (.ref f)) (b : Binds K fd ["scale"] []) (B : Bl mg) : Cal P w K mg base 1 "power" spPow2 := by
  refine ⟨f, fd, _, F.ok sc_power (fun vs H Q E h => ?_) (fun cdv A outer s H vs Q E hr h => ?_), gF, F.kp, b⟩
  · obtain ⟨_, rfl, _⟩ := h
    rfl
  · obtain ⟨sc, rfl, hs, q⟩ := h
    refine ⟨_, (pss_one (ps_ret (pe_op op_shl pe_int (pe_callB (call_max2 rfl) (by rfl) B.max (by decide +kernel) (pa_cons pe_int (pa_cons (pv 0) pa_nil)))))), ?_⟩
    have : sc = 0 ∨ sc = 1 ∨ sc = 2 ∨ sc = 3 ∨ sc = 4 := by omega
    rcases this with rfl | rfl | rfl | rfl | rfl <;> exact ⟨_, rfl, _, _, rfl, _, _, rfl, rfl, ⟨by decide, by decide, by decide⟩, q⟩
end
end NG

namespace NG
open PySem PySem.Spec PyProof.Rows L2
/-! ### a def with defaults, called by fewer arguments -/
structure CalD (P : Program) (w : World) (K : PySem.W.Frag) (mg : Str → Option Value) (base : Heap) (k : Nat) (x : Str) (dvs : List V) (sp : Sp) : Prop where
  ex : ∃ (f : Addr) (fd : FuncData) (ps : List Str) (ds : List Value), FnOk P w K mg base CX0 k f fd ps sp ∧ mg x = some (.ref f) ∧ PySem.W.keepIn K (.ref f) = true ∧ Binds K fd ps ds ∧ Vals dvs ds
theorem pe_cd {X : Cx} {k j : Nat} {x : Str} {dvs : List V} {sp : Sp} {p pos : Pos} {e : Expr} {es : List Expr} {t : TA} (c : CalD X.prog X.w X.K X.mg X.base k x dvs sp) (hr : Room j X.A) (hk : k ≤ j) (hg : Gl X x) (ha : PA X (e :: es) t)
    (hdb : (x == ("__debug__" : Str)) = false := by decide) (he : starEach (e :: es) X.env = (false, eval e X.env) :: starEach es X.env := by rfl) (hpl : (backTo pos (starEach es X.env)).any (·.1) = false := by rfl) :
    PE X (.Call (.Name x p) (e :: es) [] pos) (tCall sp dvs E0 t) := by
  obtain ⟨f, fd, ps, ds, F, hm, kp, b, hd⟩ := c.ex
  exact pe_call F (hr.mono hk) hg hm kp b hd pass0 ha hdb he hpl
theorem fund_mk {K : PySem.W.Frag} {x qual : Str} {st : Stmt} {f dT : Addr} {oc : Value} {od odT : Option Addr} {kV doc pm : Value} {an : Option Addr} {cdv ct : Value} {osl slT : Array (Option Value)} {its : Array Value} {m : Nat} {dvs : List V}
    (l : K.lookup f = some ⟨oc, od, .func (PySem.W.fnOf x qual (defArgs st) (defBody st) (defScope st) (.ref dT) kV doc pm an cdv ct), osl⟩) (c : PySem.W.codeIn K cdv qual = true) (kp : PySem.W.keepIn K (.ref f) = true)
    (lt : K.lookup dT = some ⟨.type "tuple", odT, .seq its m, slT⟩) (hv : Vals dvs its.toList) (hn : dvs ≠ []) : FunD K x qual (defArgs st) (defBody st) (defScope st) dvs [] f (PySem.W.fnOf x qual (defArgs st) (defBody st) (defScope st) (.ref dT) kV doc pm an cdv ct) :=
  ⟨⟨oc, od, .ref dT, kV, doc, pm, an, cdv, ct, osl, rfl, l, c, .inr ⟨hn, dT, _, its.toList, m, rfl, lt, by simp, hv⟩, .inl rfl⟩, kp⟩
theorem fund_ok {P : Program} {w : World} {K : PySem.W.Frag} {mg : Str → Option Value} {base : Heap} {x qual : Str} {params : Arguments} {body : List Stmt} {scope : Scope} {dvs : List V} {kws : List (Str × V)} {f : Addr} {fd : FuncData} {N ps : List Str} {k : Nat} {sp : Sp} (F : FunD K x qual params body scope dvs kws f fd) (S : FnScope N ps scope) (len : ∀ vs H Q E, sp vs H Q E → vs.length = ps.length)
    (hbody : ∀ (cdv : Value) (A : Around) (outer : List Env) (s : Shared) (H : Hp) (vs : List V) (Q : VK) (E : XK), Room k (A.deeper (envOfC qual scope s.heap.objs.size f cdv)) → sp vs H Q E →
      ∃ t, PSs (cxOf CX0 P w K mg base N qual scope f cdv A outer s H E).nox body t ∧ t { nx := fun _ H' => Q .non H', rt := Q } (start N vs) H) : FnOk P w K mg base CX0 (k + 1) f fd ps sp :=
  F.ok S len fun cdv A outer s H vs Q E hr h => by
    obtain ⟨t, ht, hq⟩ := hbody cdv A outer s H vs Q E hr h
    exact ⟨t, ht.nox, hq⟩
theorem binds_full {K : PySem.W.Frag} {fd : FuncData} {ps : List Str} {dvs : List V} {n : Nat} (h : ∃ ds, Vals (List.drop n dvs) ds ∧ L2.Binds K fd ps ds) (hn : List.drop n dvs = []) : L2.Binds K fd ps [] := by
  obtain ⟨ds, hd, hb⟩ := h
  rw [hn] at hd
  cases hd
  exact hb
/-! ### expressions without where words -/
def noW : Ex → Prop
  | .fig _ => True
  | .reg _ => True
  | .share _ => True
  | .two _ a b => noW a ∧ noW b
  | .times _ a => noW a
  | .by _ a => noW a
  | .when _ _ a b => noW a ∧ noW b
  | .whr _ _ _ _ => False
theorem noW_kids : ∀ {e : Ex}, noW e → ∀ k ∈ e.kids, noW k
  | .fig _, _, k, hk => by cases hk
  | .reg _, _, k, hk => by cases hk
  | .share _, _, k, hk => by cases hk
  | .two _ a b, h, k, hk => by
    rcases List.mem_cons.mp hk with rfl | hk
    · exact h.1
    · rw [List.mem_singleton.mp hk]; exact h.2
  | .times _ a, h, k, hk => by rw [List.mem_singleton.mp hk]; exact h
  | .by _ a, h, k, hk => by rw [List.mem_singleton.mp hk]; exact h
  | .when _ _ a b, h, k, hk => by
    rcases List.mem_cons.mp hk with rfl | hk
    · exact h.1
    · rw [List.mem_singleton.mp hk]; exact h.2
  | .whr _ _ _ _, h, k, hk => h.elim
end NG

namespace NG
open PySem PySem.Spec PyProof.Rows L2
/-! ### doubters that are such -/
theorem sumB_cons {t i : Nat} {r : List (Option Nat)} (h : t + i ≤ 20) : sumB t (some i :: r) = sumB (t + i) r := by
  show (if 20 < t + i then none else sumB (t + i) r) = _
  rw [if_neg (by omega)]
theorem cntB_sum (many : Int) (k : Nat) (ds : List PyData) (h : ds = [] ∨ ∃ k', k = k' + 1) : cntB many k (.tuple ds) = sumB 0 (ds.map (deedD many (cntB many (k - 1)))) := by
  rcases h with rfl | ⟨k', rfl⟩
  · cases k <;> rfl
  · rfl
theorem op_fits {many : Nat} {o : D5} {i : Nat} {x : Int} (hi : i < 4) (hx : xok many o x) : fitsD many (wbsh (.op o)) [.int (i : Int), .int x] = true := by
  cases o with
  | put => simp only [wbsh, fitsD, fitD]; rw [inD_of (by omega) (by omega), inD_of hx.1 hx.2]; rfl
  | add => simp only [wbsh, fitsD, fitD]; rw [inD_of (by omega) (by omega), inD_of hx.1 hx.2]; rfl
  | copy => have h1 := hx.1; have h2 := hx.2; simp only [wbsh, fitsD, fitD]; rw [inD_of (by omega) (by omega), inD_of h1 (by omega)]; rfl
  | plus => have h1 := hx.1; have h2 := hx.2; simp only [wbsh, fitsD, fitD]; rw [inD_of (by omega) (by omega), inD_of h1 (by omega)]; rfl
  | told => have h1 := hx.1; have h2 := hx.2; simp only [wbsh, fitsD, fitD]; rw [inD_of (by omega) (by omega), inD_of h1 (by omega)]; rfl
theorem cntB_of {many : Nat} : ∀ {d : Ds} {k t : Nat}, DsOk many d → d.dep ≤ k → t + d.cnt ≤ 20 → sumB t ((dsD d).map (deedD many (cntB many (k - 1)))) = some (t + d.cnt)
  | .nil, k, t, _, _, _ => rfl
  | .op o i x r, k, t, ⟨h1, h2, h3⟩, hd, hc => by
    have hd : max 1 r.dep ≤ k := hd
    have hc : t + (1 + r.cnt) ≤ 20 := hc
    have e : deedD many (cntB many (k - 1)) (.tuple [.str (dn o), .int (i : Int), .int x]) = some 1 := by
      have := deedD_eq many (cntB many (k - 1)) (.op o) [.int (i : Int), .int x]
      rw [if_pos (op_fits h1 h2)] at this
      exact this
    show sumB t (deedD many (cntB many (k - 1)) (.tuple [.str (dn o), .int (i : Int), .int x]) :: (dsD r).map (deedD many (cntB many (k - 1)))) = some (t + (1 + r.cnt))
    rw [e, sumB_cons (by omega), cntB_of h3 (by omega) (by omega)]
    congr 1
    omega
  | .when i c a b r, k, t, ⟨h1, h2, h3, h4, h5⟩, hd, hc => by
    have hd : max (max a.dep b.dep + 1) r.dep ≤ k := hd
    have hc : t + (1 + (a.cnt + b.cnt) + r.cnt) ≤ 20 := hc
    have ca : cntB many (k - 1) (.tuple (dsD a)) = some a.cnt := by
      rw [cntB_sum many (k - 1) (dsD a) (by
        cases a with
        | nil => exact .inl rfl
        | op o i x r => have : max 1 r.dep ≤ k - 1 := by have h : (Ds.op o i x r).dep = max 1 r.dep := rfl; omega
                        exact .inr ⟨k - 2, by omega⟩
        | when i c a b r => have : max (max a.dep b.dep + 1) r.dep ≤ k - 1 := by have h : (Ds.when i c a b r).dep = max (max a.dep b.dep + 1) r.dep := rfl; omega
                            exact .inr ⟨k - 2, by omega⟩), cntB_of h3 (by omega) (by omega), Nat.zero_add]
    have cb : cntB many (k - 1) (.tuple (dsD b)) = some b.cnt := by
      rw [cntB_sum many (k - 1) (dsD b) (by
        cases b with
        | nil => exact .inl rfl
        | op o i x r => have : max 1 r.dep ≤ k - 1 := by have h : (Ds.op o i x r).dep = max 1 r.dep := rfl; omega
                        exact .inr ⟨k - 2, by omega⟩
        | when i c a b r => have : max (max a.dep b.dep + 1) r.dep ≤ k - 1 := by have h : (Ds.when i c a b r).dep = max (max a.dep b.dep + 1) r.dep := rfl; omega
                            exact .inr ⟨k - 2, by omega⟩), cntB_of h4 (by omega) (by omega), Nat.zero_add]
    have e : deedD many (cntB many (k - 1)) (.tuple [.str "when", .int (i : Int), .int c, .tuple (dsD a), .tuple (dsD b)]) = some (1 + a.cnt + b.cnt) := by
      have := deedD_eq many (cntB many (k - 1)) .when [.int (i : Int), .int c, .tuple (dsD a), .tuple (dsD b)]
      rw [if_pos (by simp only [wbsh, fitsD, fitD]; rw [inD_of (by omega) (by omega), inD_of h2.1 h2.2]; rfl)] at this
      refine this.trans ?_
      show addB 1 [cntB many (k - 1) (.tuple (dsD a)), cntB many (k - 1) (.tuple (dsD b))] = _
      rw [ca, cb]
      rfl
    show sumB t (deedD many (cntB many (k - 1)) (.tuple [.str "when", .int (i : Int), .int c, .tuple (dsD a), .tuple (dsD b)]) :: (dsD r).map (deedD many (cntB many (k - 1)))) = some (t + (1 + (a.cnt + b.cnt) + r.cnt))
    rw [e, sumB_cons (by omega), cntB_of h5 (by omega) (by omega)]
    congr 1
    omega
theorem wdB_of {many : Int} : ∀ {k : Nat} {d : Ds}, wdB many k (.tuple (dsD d))
  | 0, _ => trivial
  | k + 1, d => fun ds e x hx => by
    cases e
    have go : ∀ {d : Ds}, x ∈ dsD d → ∃ w es, x = .tuple (.str (wbn w) :: es) ∧ (fitsD many (wbsh w) es = true → ∀ y ∈ es.drop 2, wdB many k y) := by
      intro d
      induction d with
      | nil => intro hx; cases hx
      | op o i z r ih =>
        intro hx
        rcases List.mem_cons.mp hx with rfl | hx
        · exact ⟨.op o, _, rfl, fun _ y hy => by cases hy⟩
        · exact ih hx
      | when i c a b r iha ihb ih =>
        intro hx
        rcases List.mem_cons.mp hx with rfl | hx
        · refine ⟨.when, _, rfl, fun _ y hy => ?_⟩
          rcases List.mem_cons.mp hy with rfl | hy
          · exact wdB_of
          · rw [List.mem_singleton.mp hy]
            exact wdB_of
        · exact ih hx
    exact go hx
structure DbFit (many : Nat) (D : Dbt) : Prop where
  nm : nameD D.name = true
  sc : D.scale < 5
  rg : RegOk D.begins
  sl : D.stakes.length = many
  st : ∀ e ∈ D.stakes, ExOk many e ∧ e.dep ≤ 8 ∧ e.size ≤ 40 ∧ -(500 * pw2 D.scale) ≤ (spn e).1 ∧ (spn e).2 ≤ 500 * pw2 D.scale
  bl : D.behinds.length = many
  bh : ∀ d ∈ D.behinds, DsOk many d ∧ d.dep ≤ 4 ∧ d.cnt ≤ 20
theorem all_map_of {α β : Type} {f : α → β} {p : β → Bool} {l : List α} (h : ∀ x ∈ l, p (f x) = true) : (l.map f).all p = true := by
  rw [List.all_eq_true]
  intro y hy
  obtain ⟨x, hx, rfl⟩ := List.mem_map.mp hy
  exact h x hx
theorem dbtD_true {many : Nat} {D : Dbt} (h : DbFit many D) : dbtD many D.name (D.scale : Int) (D.begins.map PyData.int) (D.stakes.map toD) (D.behinds.map fun d => .tuple (dsD d)) = true := by
  unfold dbtD
  have h1 : regsD (D.begins.map PyData.int) = true := by
    unfold regsD
    rw [List.length_map, decide_eq_true h.rg.1, Bool.true_and]
    exact all_map_of fun x hx => inD_of (h.rg.2 x hx).1 (h.rg.2 x hx).2
  have hsc := h.sc
  rw [h.nm, decide_eq_true (show (0 : Int) ≤ (D.scale : Int) by omega), decide_eq_true (show (D.scale : Int) ≤ 4 by omega), h1]
  refine (if_pos rfl).trans ?_
  rw [List.length_map, List.length_map, decide_eq_true h.sl, decide_eq_true h.bl, Bool.true_and, Bool.true_and, Bool.and_eq_true]
  refine ⟨all_map_of fun e he => ?_, all_map_of fun d hd => ?_⟩
  · obtain ⟨a1, a2, a3, a4, a5⟩ := h.st e he
    rw [Int.toNat_natCast, stakeD_of a1 a2, decide_eq_true a3, decide_eq_true a4, decide_eq_true a5]
    rfl
  · obtain ⟨a1, a2, a3⟩ := h.bh d hd
    rw [cntB_sum many 4 (dsD d) (.inr ⟨3, rfl⟩), cntB_of (k := 4) (t := 0) a1 a2 (by omega)]
    rfl
/-! ### laid out -/
theorem laymap {α : Type} {f : α → PyData} : ∀ {l : List α}, (∀ x ∈ l, (f x).canLay0 = true) → PyData.canLayAll0 (l.map f) = true
  | [], _ => rfl
  | x :: r, h => by
    show ((f x).canLay0 && PyData.canLayAll0 (r.map f)) = true
    rw [h x (List.mem_cons_self ..), laymap fun y hy => h y (List.mem_cons_of_mem _ hy)]
    rfl
theorem depmap {α : Type} {f : α → PyData} {k : Nat} : ∀ {l : List α}, (∀ x ∈ l, (f x).depth ≤ k) → PyData.depthAll (l.map f) ≤ k
  | [], _ => Nat.zero_le _
  | x :: r, h => by
    have a := h x (List.mem_cons_self ..)
    have b := depmap (l := r) fun y hy => h y (List.mem_cons_of_mem _ hy)
    show max (f x).depth (PyData.depthAll (r.map f)) ≤ k
    omega
theorem layds : ∀ d : Ds, PyData.canLayAll0 (dsD d) = true
  | .nil => rfl
  | .op o i x r => by
    show (((PyData.canLay0 (.str (dn o))) && (true && (true && true))) && PyData.canLayAll0 (dsD r)) = true
    rw [layds r]
    cases o <;> decide +kernel
  | .when i c a b r => by
    show ((PyData.canLay0 (.str "when") && (true && (true && (PyData.canLayAll0 (dsD a) && (PyData.canLayAll0 (dsD b) && true))))) && PyData.canLayAll0 (dsD r)) = true
    rw [layds a, layds b, layds r]
    decide +kernel
theorem depds : ∀ d : Ds, PyData.depthAll (dsD d) ≤ 2 * d.dep
  | .nil => Nat.zero_le _
  | .op o i x r => by
    have := depds r
    show max (max 0 (max 0 (max 0 0)) + 1) (PyData.depthAll (dsD r)) ≤ 2 * max 1 r.dep
    omega
  | .when i c a b r => by
    have h1 := depds a
    have h2 := depds b
    have h3 := depds r
    show max (max 0 (max 0 (max 0 (max (PyData.depthAll (dsD a) + 1) (max (PyData.depthAll (dsD b) + 1) 0)))) + 1) (PyData.depthAll (dsD r)) ≤ 2 * max (max a.dep b.dep + 1) r.dep
    omega
theorem shaped_db {many : Nat} {D : Dbt} (hn : PyData.canLay0 (.str D.name) = true) (h : DbFit many D) : SeqAt.shaped (dbD D) = true := by
  have h2 : PyData.canLayAll0 (D.begins.map PyData.int) = true := laymap fun _ _ => rfl
  have h3 : PyData.canLayAll0 (D.stakes.map toD) = true := laymap fun e _ => lay_ex e
  have h4 : PyData.canLayAll0 (D.behinds.map fun d => .tuple (dsD d)) = true := laymap fun d _ => layds d
  have d2 : PyData.depthAll (D.begins.map PyData.int) ≤ 0 := depmap fun _ _ => Nat.le_refl _
  have d3 : PyData.depthAll (D.stakes.map toD) ≤ 8 := depmap fun e he => Nat.le_trans (depth_ex e) (h.st e he).2.1
  have d4 : PyData.depthAll (D.behinds.map fun d => .tuple (dsD d)) ≤ 9 := depmap fun d hd => by
    have a := depds d
    have b := (h.bh d hd).2.1
    show PyData.depthAll (dsD d) + 1 ≤ 9
    omega
  show ((PyData.canLay0 (.str D.name) && (true && (PyData.canLayAll0 (D.begins.map PyData.int) && (PyData.canLayAll0 (D.stakes.map toD) && (PyData.canLayAll0 (D.behinds.map fun d => .tuple (dsD d)) && true))))) && decide (max 0 (max 0 (max (PyData.depthAll (D.begins.map PyData.int) + 1) (max (PyData.depthAll (D.stakes.map toD) + 1) (max (PyData.depthAll (D.behinds.map fun d => .tuple (dsD d)) + 1) 0)))) + 1 ≤ 64)) = true
  rw [hn, h2, h3, h4, decide_eq_true (by omega)]
  rfl
/-! ### shares told, rows of ints shown -/
theorem shw_ints : ∀ {ns : List Int}, (∀ x ∈ ns, x.natAbs < 2 ^ 600) → ShwAll (ns.map PyData.int) (602 * ns.length) 0
  | [], _ => ShwAll.nil
  | n :: r, h => by
    have h1 := Shw.int (i := n) (h n (List.mem_cons_self ..))
    have h2 := shw_ints (ns := r) fun x hx => h x (List.mem_cons_of_mem _ hx)
    have h3 := ShwAll.cons h1 h2 (Nat.le_refl 0) (Nat.le_refl 0)
    refine ⟨h3.sh, h3.lf, Nat.le_trans h3.wt ?_, h3.dp⟩
    rw [List.length_cons]
    omega
end NG

set_option maxHeartbeats 2000000
namespace NG
open PySem PySem.Spec PyProof.Rows L2
/-! ### a truth taken for an int -/
def b2 (b : Bool) : Int := if b = true then 1 else 0
def rBI (f : Int → Int → Int) : R2 := fun x y H Q => ∃ i j, y = .int j ∧ (x = .int i ∨ ∃ b, x = .bl b ∧ i = b2 b) ∧ Q (.int (f i j)) H
theorem op_addIB {X : Cx} : OpR X (binaryOp .Add) (rBI (· + ·)) := by
  intro pins s σ H x y v u Q I rx ry h
  obtain ⟨i, j, rfl, h, q⟩ := h
  rcases h with rfl | ⟨b, rfl, rfl⟩
  · exact op_add (X := X) pins s σ H _ _ v u Q I rx ry ⟨i, j, rfl, rfl, q⟩
  · obtain rfl : v = Value.bool b := rx
    obtain ⟨t, rfl⟩ := ry
    exact PySem.IntBool.add_bool_int ⟨.int _, H, I.tok _, ⟨_, rfl⟩, q⟩
theorem op_subIB {X : Cx} : OpR X (binaryOp .Sub) (rBI (· - ·)) := by
  intro pins s σ H x y v u Q I rx ry h
  obtain ⟨i, j, rfl, h, q⟩ := h
  rcases h with rfl | ⟨b, rfl, rfl⟩
  · exact op_sub (X := X) pins s σ H _ _ v u Q I rx ry ⟨i, j, rfl, rfl, q⟩
  · obtain rfl : v = Value.bool b := rx
    obtain ⟨t, rfl⟩ := ry
    exact PySem.IntBool.sub_bool_int ⟨.int _, H, I.tok _, ⟨_, rfl⟩, q⟩
def shIB : V → Option Str
  | .int i => if i.natAbs.log2 < 1920 then some (Str.ofString (toString i)) else none
  | .bl b => some (if b = true then "True" else "False")
  | _ => none
theorem call_strIB {X : Cx} : CallR X (.type "str") (fun xs H Q => ∃ v z, xs = [v] ∧ shIB v = some z ∧ Q (.str z) H) := by
  intro pins s σ H xs us Q I r h
  obtain ⟨v, z, rfl, hz, q⟩ := h
  cases v with
  | int i =>
    have hz : (if i.natAbs.log2 < 1920 then some (Str.ofString (toString i)) else none) = some z := hz
    by_cases hc : i.natAbs.log2 < 1920
    · rw [if_pos hc] at hz
      have hz := Option.some.inj hz
      subst hz
      exact call_str_int (X := X) pins s σ H _ us Q I r ⟨i, rfl, hc, q⟩
    · rw [if_neg hc] at hz
      cases hz
  | bl b =>
    cases hz
    obtain ⟨u, rfl, t⟩ := vals1 r
    obtain rfl : u = Value.bool b := t
    exact PySem.P.str_of_bool ⟨.str _, H, I.tok _, ⟨_, rfl⟩, q⟩
  | _ => cases hz
end NG

set_option maxHeartbeats 2000000
namespace NG
open PySem PySem.Spec PyProof.Rows L2
/-! ### things with small leaves -/
mutual
def tame (B : Nat) : PyData → Bool
  | .none => true
  | .bool _ => true
  | .int i => decide (i.natAbs ≤ B)
  | .str x => (x.cps.toList.all fun c => decide (c < 16 ^ 8))
  | .list ds => tameAll B ds
  | .tuple ds => tameAll B ds
  | .dict kvs => kvs.isEmpty
def tameAll (B : Nat) : List PyData → Bool
  | [] => true
  | d :: ds => tame B d && tameAll B ds
end
mutual
theorem tame_show {B : Nat} (hB : B < 10 ^ 40) : ∀ {d : PyData}, tame B d = true → d.showable = true ∧ d.leavesShort 70 = true
  | .none, _ => ⟨rfl, rfl⟩
  | .bool _, _ => ⟨rfl, rfl⟩
  | .int i, h => by
    have h : i.natAbs ≤ B := of_decide_eq_true (by unfold tame at h; exact h)
    have := Shh.int40 (i := i) (by omega)
    exact ⟨this.sh, this.lf⟩
  | .str x, h => ⟨rfl, by unfold tame at h; exact h⟩
  | .list ds, h => by
    unfold tame at h
    exact tameAll_show hB h
  | .tuple ds, h => by
    unfold tame at h
    exact tameAll_show hB h
  | .dict [], h => ⟨rfl, rfl⟩
  | .dict (_ :: _), h => by
    unfold tame at h
    cases h
theorem tameAll_show {B : Nat} (hB : B < 10 ^ 40) : ∀ {ds : List PyData}, tameAll B ds = true → PyData.showableAll ds = true ∧ PyData.leavesShortAll 70 ds = true
  | [], _ => ⟨rfl, rfl⟩
  | d :: ds, h => by
    unfold tameAll at h
    rw [Bool.and_eq_true] at h
    obtain ⟨a, b⟩ := tame_show hB h.1
    obtain ⟨c, e⟩ := tameAll_show hB h.2
    exact ⟨by show (d.showable && PyData.showableAll ds) = true; rw [a, c]; rfl, by show (d.leavesShort 70 && PyData.leavesShortAll 70 ds) = true; rw [b, e]; rfl⟩
end
mutual
theorem tame_mono {B B' : Nat} (h : B ≤ B') : ∀ {d : PyData}, tame B d = true → tame B' d = true
  | .none, _ => rfl
  | .bool _, _ => rfl
  | .int i, x => by
    unfold tame at x ⊢
    have := of_decide_eq_true x
    exact decide_eq_true (by omega)
  | .str x, h => by unfold tame at h ⊢; exact h
  | .list ds, x => by unfold tame at x ⊢; exact tameAll_mono h x
  | .tuple ds, x => by unfold tame at x ⊢; exact tameAll_mono h x
  | .dict _, x => by unfold tame at x ⊢; exact x
theorem tameAll_mono {B B' : Nat} (h : B ≤ B') : ∀ {ds : List PyData}, tameAll B ds = true → tameAll B' ds = true
  | [], _ => rfl
  | d :: ds, x => by
    unfold tameAll at x ⊢
    rw [Bool.and_eq_true] at x ⊢
    exact ⟨tame_mono h x.1, tameAll_mono h x.2⟩
end
structure Tm (B W D : Nat) (d : PyData) : Prop where
  tm : tame B d = true
  wt : d.weight ≤ W
  dp : d.depth ≤ D
structure Tms (B W D : Nat) (ds : List PyData) : Prop where
  tm : tameAll B ds = true
  wt : PyData.weightAll ds ≤ W
  dp : PyData.depthAll ds ≤ D
theorem Tm.shh {B W D : Nat} {d : PyData} (h : Tm B W D d) (hB : B < 10 ^ 40) : Shh d W D := ⟨(tame_show hB h.tm).1, (tame_show hB h.tm).2, h.wt, h.dp⟩
theorem Tm.mono {B W D B' W' D' : Nat} {d : PyData} (h : Tm B W D d) (h1 : B ≤ B') (h2 : W ≤ W') (h3 : D ≤ D') : Tm B' W' D' d := ⟨tame_mono h1 h.tm, Nat.le_trans h.wt h2, Nat.le_trans h.dp h3⟩
theorem Tms.mono {B W D B' W' D' : Nat} {d : List PyData} (h : Tms B W D d) (h1 : B ≤ B') (h2 : W ≤ W') (h3 : D ≤ D') : Tms B' W' D' d := ⟨tameAll_mono h1 h.tm, Nat.le_trans h.wt h2, Nat.le_trans h.dp h3⟩
theorem Tms.nil {B W D : Nat} : Tms B W D [] := ⟨rfl, Nat.zero_le _, Nat.zero_le _⟩
theorem Tms.cons {B W1 W2 D : Nat} {d : PyData} {ds : List PyData} (h1 : Tm B W1 D d) (h2 : Tms B W2 D ds) : Tms B (W1 + 1 + W2) D (d :: ds) := by
  refine ⟨?_, ?_, ?_⟩
  · unfold tameAll
    rw [h1.tm, h2.tm]
    rfl
  · show d.weight + 1 + PyData.weightAll ds ≤ _
    have := h1.wt
    have := h2.wt
    omega
  · show max d.depth (PyData.depthAll ds) ≤ D
    have := h1.dp
    have := h2.dp
    omega
theorem Tms.head {B W D : Nat} {d : PyData} {ds : List PyData} (h : Tms B W D (d :: ds)) : Tm B d.weight D d ∧ Tms B (W - d.weight - 1) D ds ∧ d.weight + 1 ≤ W := by
  obtain ⟨a, b, c⟩ := h
  unfold tameAll at a
  rw [Bool.and_eq_true] at a
  have b : d.weight + 1 + PyData.weightAll ds ≤ W := b
  have c : max d.depth (PyData.depthAll ds) ≤ D := c
  exact ⟨⟨a.1, Nat.le_refl _, by omega⟩, ⟨a.2, by omega, by omega⟩, by omega⟩
theorem Tms.app {B D : Nat} {es : List PyData} {W2 : Nat} (h2 : Tms B W2 D es) : ∀ {ds : List PyData} {W1 : Nat}, Tms B W1 D ds → Tms B (W1 + W2) D (ds ++ es)
  | [], W1, _ => h2.mono (Nat.le_refl _) (by omega) (Nat.le_refl _)
  | d :: ds, W1, h => by
    obtain ⟨a, b, c⟩ := h.head
    exact (Tms.cons a (Tms.app h2 b)).mono (Nat.le_refl _) (by omega) (Nat.le_refl _)
theorem Tms.split {B D : Nat} : ∀ {ds : List PyData} {W : Nat} (i : Nat), Tms B W D ds → ∃ W1 W2, Tms B W1 D (ds.take i) ∧ Tms B W2 D (ds.drop i) ∧ W1 + W2 ≤ W
  | _, W, 0, h => ⟨0, W, .nil, h, by omega⟩
  | [], W, i + 1, h => ⟨0, 0, by rw [List.take_nil]; exact .nil, by rw [List.drop_nil]; exact .nil, by omega⟩
  | d :: ds, W, i + 1, h => by
    obtain ⟨a, b, c⟩ := h.head
    obtain ⟨W1, W2, p, q, e⟩ := Tms.split i b
    exact ⟨d.weight + 1 + W1, W2, Tms.cons a p, q, by omega⟩
theorem Tms.at {B W D : Nat} {ds : List PyData} {i : Nat} {d : PyData} (h : Tms B W D ds) (hd : ds[i]? = some d) : ∃ W1 W2 W3, Tms B W1 D (ds.take i) ∧ Tm B W2 D d ∧ Tms B W3 D (ds.drop (i + 1)) ∧ W1 + (W2 + 1) + W3 ≤ W := by
  obtain ⟨W1, W2, a, b, c⟩ := h.split i
  have hi := (List.getElem?_eq_some_iff.mp hd).1
  rw [List.drop_eq_getElem_cons hi, (List.getElem?_eq_some_iff.mp hd).2] at b
  obtain ⟨p, q, e⟩ := b.head
  exact ⟨W1, d.weight, W2 - d.weight - 1, a, p, q, by omega⟩
theorem Tms.rev {B W D : Nat} : ∀ {ds : List PyData} {W : Nat}, Tms B W D ds → Tms B W D ds.reverse
  | [], _, h => h
  | d :: ds, W, h => by
    obtain ⟨a, b, c⟩ := h.head
    rw [List.reverse_cons]
    have h1 := Tms.rev (W := 0) (B := B) (D := D) b
    exact (Tms.app (Tms.cons a (.nil (W := 0))) h1).mono (Nat.le_refl _) (by omega) (Nat.le_refl _)
theorem Tms.tup {B W D : Nat} {ds : List PyData} (h : Tms B W D ds) : Tm B W (D + 1) (.tuple ds) := ⟨by unfold tame; exact h.tm, h.wt, by show PyData.depthAll ds + 1 ≤ D + 1; have := h.dp; omega⟩
theorem Tms.lst {B W D : Nat} {ds : List PyData} (h : Tms B W D ds) : Tm B W (D + 1) (.list ds) := ⟨by unfold tame; exact h.tm, h.wt, by show PyData.depthAll ds + 1 ≤ D + 1; have := h.dp; omega⟩
theorem Tm.items {B W D : Nat} {ds : List PyData} (h : Tm B W (D + 1) (.tuple ds)) : Tms B W D ds := ⟨by have := h.tm; unfold tame at this; exact this, h.wt, by have h1 : PyData.depthAll ds + 1 ≤ D + 1 := h.dp; omega⟩
theorem Tm.int {B : Nat} {i : Int} (h : i.natAbs ≤ B) (hB : B < 10 ^ 40) : Tm B 140 0 (.int i) := ⟨by unfold tame; exact decide_eq_true h, (Shh.int40 (i := i) (by omega)).wt, Nat.le_refl _⟩
theorem Tm.bl {B : Nat} (b : Bool) : Tm B 0 0 (.bool b) := ⟨rfl, Nat.le_refl _, Nat.le_refl _⟩
theorem Tm.non {B : Nat} : Tm B 0 0 .none := ⟨rfl, Nat.le_refl _, Nat.le_refl _⟩
theorem Tm.dic {B : Nat} : Tm B 0 1 (.dict []) := ⟨rfl, Nat.le_refl _, Nat.le_refl _⟩
theorem Tm.str {B : Nat} {x : Str} (h : (x.cps.toList.all fun c => decide (c < 16 ^ 8)) = true) (hl : x.cps.size ≤ 10) : Tm B 10 0 (.str x) := ⟨by unfold tame; exact h, hl, Nat.le_refl _⟩
theorem Tm.sint {B : Nat} {i : Int} (h : i.natAbs < 10 ^ 40) : Tm B 41 0 (.str (Str.ofString (toString i))) := ⟨by unfold tame; exact chars_of _, (Shh.sint h).wt, Nat.le_refl _⟩
/-! ### cuts at counted places -/
theorem cut_to {xs : List V} {j : Nat} : cutV xs none (some (j : Int)) = xs.take j := by
  unfold cutV
  rw [HT.sIx_nat, show HT.sIx xs.length 0 none = 0 from HT.sIx_none _ _, List.drop_zero, Nat.sub_zero]
  by_cases c : j ≤ xs.length
  · rw [show min j xs.length = j by omega]
  · rw [show min j xs.length = xs.length by omega, List.take_length, List.take_of_length_le (by omega)]
theorem cut_from {xs : List V} {i : Nat} : cutV xs (some (i : Int)) none = xs.drop i := by
  unfold cutV
  rw [HT.sIx_nat, show HT.sIx xs.length xs.length none = xs.length from HT.sIx_none _ _]
  by_cases c : i ≤ xs.length
  · rw [show min i xs.length = i by omega, List.take_of_length_le (by rw [List.length_drop]; exact Nat.le_refl _)]
  · rw [show min i xs.length = xs.length by omega, List.drop_length, List.drop_of_length_le (by omega), List.take_nil]
theorem cut_mid {xs : List V} {i j : Nat} : cutV xs (some (i : Int)) (some (j : Int)) = (xs.drop i).take (j - i) := by
  unfold cutV
  rw [HT.sIx_nat, HT.sIx_nat]
  by_cases c : i ≤ xs.length
  · rw [show min i xs.length = i by omega]
    by_cases c2 : j ≤ xs.length
    · rw [show min j xs.length = j by omega]
    · rw [show min j xs.length = xs.length by omega, List.take_of_length_le (by rw [List.length_drop]; exact Nat.le_refl _), List.take_of_length_le (by rw [List.length_drop]; omega)]
  · rw [show min i xs.length = xs.length by omega, List.drop_length, List.drop_of_length_le (by omega), List.take_nil, List.take_nil]
theorem dqall_rev {K : PySem.W.Frag} {H : Hp} : ∀ {ds : List PyData} {vs : List V}, DqAll K H vs ds → DqAll K H vs.reverse ds.reverse
  | [], _, .nil => .nil
  | d :: ds, _, .cons a b => by
    rw [List.reverse_cons, List.reverse_cons]
    exact dqall_app (.cons a .nil) (dqall_rev b)
end NG

namespace NG
open PySem PySem.Spec PyProof.Rows L2
/-! ### doubters of anything -/
mutual
theorem dp_of_dq {K : PySem.W.Frag} {H : Hp} : ∀ {d : PyData} {v : V}, d.hasDict = false → Dq K H v d → Dp K H v d
  | .none, _, _, .non => .non
  | .bool _, _, _, .bl b => .bl b
  | .int _, _, _, .int i => .int i
  | .str _, _, _, .str x => .str x
  | .list _, _, h, .lst q a => .lst q (dpall_of_dq (by simpa only [PyData.hasDict] using h) a)
  | .tuple _, _, h, .tup q a => .tup q (dpall_of_dq (by simpa only [PyData.hasDict] using h) a)
  | .dict _, _, h, .dic _ => by simp only [PyData.hasDict] at h; cases h
theorem dpall_of_dq {K : PySem.W.Frag} {H : Hp} : ∀ {ds : List PyData} {vs : List V}, PyData.hasDictAll ds = false → DqAll K H vs ds → DpAll K H vs ds
  | [], _, _, .nil => .nil
  | _ :: _, _, h, .cons a b => by
    simp only [PyData.hasDictAll, Bool.or_eq_false_iff] at h
    exact .cons (dp_of_dq h.1 a) (dpall_of_dq h.2 b)
end
theorem toD_nodict : ∀ e : Ex, (toD e).hasDict = false
  | .fig _ => by simp [toD, PyData.hasDict, PyData.hasDictAll]
  | .reg _ => by simp [toD, PyData.hasDict, PyData.hasDictAll]
  | .share _ => by simp [toD, PyData.hasDict, PyData.hasDictAll]
  | .two _ a b => by simp [toD, PyData.hasDict, PyData.hasDictAll, toD_nodict a, toD_nodict b]
  | .times _ a => by simp [toD, PyData.hasDict, PyData.hasDictAll, toD_nodict a]
  | .by _ a => by simp [toD, PyData.hasDict, PyData.hasDictAll, toD_nodict a]
  | .when _ _ a b => by simp [toD, PyData.hasDict, PyData.hasDictAll, toD_nodict a, toD_nodict b]
  | .whr _ _ a b => by simp [toD, PyData.hasDict, PyData.hasDictAll, toD_nodict a, toD_nodict b]
theorem ExAt.ofQ {K : PySem.W.Frag} {H : Hp} {e : Ex} {v : V} (h : Dq K H v (toD e)) : ExAt K H e v := ExAt.of (dp_of_dq (toD_nodict e) h)
def nameQ : PyData → Bool
  | .str z => nameD z
  | _ => false
def strOk : PyData → Prop
  | .str z => z.length ≤ 100000
  | _ => True
def dnOk : PyData → Prop
  | .tuple (x :: _) => strOk x
  | _ => True
def regsQ : PyData → Bool
  | .tuple ds => regsD ds
  | _ => false
def stakesQ (many sc : Nat) : PyData → Bool
  | .tuple ds => decide (ds.length = many) && ds.all (stakeD many sc)
  | _ => false
def behindsQ (many : Nat) : PyData → Bool
  | .tuple ds => decide (ds.length = many) && ds.all fun d => (cntB many 4 d).isSome
  | _ => false
def intQ : PyData → Int
  | .int i => i
  | _ => 0
def dbQl (many : Nat) : List PyData → Bool
  | [nm, sc, rg, st, bh] => nameQ nm && (inD 0 4 sc && (regsQ rg && (stakesQ many (intQ sc).toNat st && behindsQ many bh)))
  | _ => false
def dbQ (many : Nat) : PyData → Bool
  | .tuple ds => dbQl many ds
  | _ => false
theorem dbQl_len {many : Nat} : ∀ {ds : List PyData}, ds.length ≠ 5 → dbQl many ds = false
  | [], _ => rfl
  | [_], _ => rfl
  | [_, _], _ => rfl
  | [_, _, _], _ => rfl
  | [_, _, _, _], _ => rfl
  | [_, _, _, _, _], h => absurd rfl h
  | _ :: _ :: _ :: _ :: _ :: _ :: _, _ => rfl
theorem dq_five {K : PySem.W.Frag} {H : Hp} {ds : List PyData} {xs : List V} (h : DqAll K H xs ds) (c : ds.length = 5) : ∃ d0 d1 d2 d3 d4 v0 v1 v2 v3 v4, ds = [d0, d1, d2, d3, d4] ∧ xs = [v0, v1, v2, v3, v4] ∧ Dq K H v0 d0 ∧ Dq K H v1 d1 ∧ Dq K H v2 d2 ∧ Dq K H v3 d3 ∧ Dq K H v4 d4 := by
  cases h with
  | nil => cases c
  | cons h0 h =>
    cases h with
    | nil => cases c
    | cons h1 h =>
      cases h with
      | nil => cases c
      | cons h2 h =>
        cases h with
        | nil => cases c
        | cons h3 h =>
          cases h with
          | nil => cases c
          | cons h4 h =>
            cases h with
            | nil => exact ⟨_, _, _, _, _, _, _, _, _, _, rfl, rfl, h0, h1, h2, h3, h4⟩
            | cons _ _ => simp at c
def Only6 (K : PySem.W.Frag) (a : Addr) : Prop := ∀ x, wbOf x = none → PySem.W.nsIn K a x = some none
theorem only6_of {K : PySem.W.Frag} {w : World} {d : Addr} {es : Array DictEntry} {n : Nat} (hl : K.lookup d = some ⟨.type "dict", none, .dict es n, #[]⟩) (hk : PySem.W.KeysLit w.params es.toList) (hx : ktx es.toList = [some ("put" : Str), some ("add" : Str), some ("copy" : Str), some ("plus" : Str), some ("told" : Str), some ("when" : Str)]) : Only6 K d := fun x h0 => nsIn_absent hl hk (fun h => by
  rw [hx] at h
  simp only [List.mem_cons, List.not_mem_nil, or_false, Option.some.injEq] at h
  rcases h with rfl | rfl | rfl | rfl | rfl | rfl <;> exact absurd h0 (by decide))
theorem wbOf_eq {x : Str} {w : Wb} (h : wbOf x = some w) : x = wbn w := by
  unfold wbOf at h
  repeat' split at h
  all_goals first | (cases h; assumption) | cases h
theorem deedD_non {many : Int} {f : PyData → Option Nat} : ∀ {d : PyData}, wdV d = .non → deedD many f d = none
  | .tuple (.str _ :: _), h => by cases h
  | .tuple [], _ => rfl
  | .tuple (.none :: _), _ => rfl
  | .tuple (.bool _ :: _), _ => rfl
  | .tuple (.int _ :: _), _ => rfl
  | .tuple (.list _ :: _), _ => rfl
  | .tuple (.tuple _ :: _), _ => rfl
  | .tuple (.dict _ :: _), _ => rfl
  | .none, _ => rfl
  | .bool _, _ => rfl
  | .int _, _ => rfl
  | .str _, _ => rfl
  | .list _, _ => rfl
  | .dict _, _ => rfl
theorem addB_drop {l : List (Option Nat)} {t i : Nat} {j : Option Nat} (h : l[i]? = some j) : addB t (l.drop i) = j.bind fun n => addB (t + n) (l.drop (i + 1)) := by
  have hi := (List.getElem?_eq_some_iff.mp h).1
  rw [List.drop_eq_getElem_cons hi, (List.getElem?_eq_some_iff.mp h).2]
  cases j <;> rfl
theorem sumB_drop {l : List (Option Nat)} {t i : Nat} {j : Option Nat} (h : l[i]? = some j) : sumB t (l.drop i) = j.bind fun n => if 20 < t + n then none else sumB (t + n) (l.drop (i + 1)) := by
  have hi := (List.getElem?_eq_some_iff.mp h).1
  rw [List.drop_eq_getElem_cons hi, (List.getElem?_eq_some_iff.mp h).2]
  cases j <;> rfl
theorem cutT3 {x : V} {xs : List V} : cutV (x :: xs) (some 3) none = xs.drop 2 := by
  rw [show (3 : Int) = ((3 : Nat) : Int) from rfl, cut_from]
  rfl
def spIsName (K : PySem.W.Frag) : Sp := fun vs H Q _ => ∃ (v : V) (d : PyData), vs = [v] ∧ Dq K H v d ∧ strOk d ∧ ∀ H', Same H H' → Q (.bl (nameQ d)) H'
def spCntB (K : PySem.W.Frag) (n : Nat) : Sp := fun vs H Q _ => ∃ (v : V) (many : Int) (k : Nat) (d : PyData), vs = [v, .int many, .int (k : Int)] ∧ k < n ∧ Dq K H v d ∧ ∀ H', Same H H' → Q (optV (cntB many k d)) H'
def spDeed (K : PySem.W.Frag) (n : Nat) : Sp := fun vs H Q _ => ∃ (v : V) (many : Int) (k : Nat) (d : PyData), vs = [v, .int many, .int ((k : Int) + 1)] ∧ k < n ∧ Dq K H v d ∧ ∀ H', Same H H' → Q (optV (deedD many (cntB many k) d)) H'
def spIsRegsQ (K : PySem.W.Frag) : Sp := fun vs H Q _ => ∃ (v : V) (d : PyData), vs = [v] ∧ Dq K H v d ∧ ∀ H', Same H H' → Q (.bl (regsQ d)) H'
def spIsStake (K : PySem.W.Frag) : Sp := fun vs H Q _ => ∃ (v : V) (sc many : Nat) (d : PyData), vs = [v, .int (sc : Int), .int (many : Int)] ∧ sc < 5 ∧ Dq K H v d ∧ ∀ H', Same H H' → Q (.bl (stakeD many sc d)) H'
def spAreSt (K : PySem.W.Frag) : Sp := fun vs H Q _ => ∃ (v : V) (sc many : Nat) (d : PyData), vs = [v, .int (sc : Int), .int (many : Int)] ∧ many ≤ 3 ∧ sc < 5 ∧ Dq K H v d ∧ ∀ H', Same H H' → Q (.bl (stakesQ many sc d)) H'
def spAreBh (K : PySem.W.Frag) : Sp := fun vs H Q _ => ∃ (v : V) (many : Nat) (d : PyData), vs = [v, .int (many : Int)] ∧ many ≤ 3 ∧ Dq K H v d ∧ ∀ H', Same H H' → Q (.bl (behindsQ many d)) H'
def spIsDb (K : PySem.W.Frag) : Sp := fun vs H Q _ => ∃ (v : V) (many : Nat) (d : PyData), vs = [v, .int (many : Int)] ∧ many ≤ 3 ∧ Dq K H v d ∧ dnOk d ∧ ∀ H', Same H H' → Q (.bl (dbQ many d)) H'
section
variable {P : Program} {w : World} {K : PySem.W.Frag} {mg : Str → Option Value} {base : Heap}
theorem ok_isname {f : Addr} {fd : FuncData} (F : Fun K "is_name" "is_name" s_is_name f fd) (gF : mg "is_name" = some (.ref f)) (b : Binds K fd ["thing"] []) (B : Bl mg) {t1 t2 : Tok} (mg_LONGEST_NAME : mg "LONGEST_NAME" = some (.int 8 t1)) (mg_LETTERS : mg "LETTERS" = some (.str "abcdefghijklmnopqrstuvwxyz" t2)) : Cal P w K mg base 1 "is_name" (spIsName K) := by
  refine ⟨f, fd, _, F.ok sc_is_name (fun vs H Q E h => ?_) (fun cdv A outer s H vs Q E hr h => ?_), gF, F.kp, b⟩
  · obtain ⟨_, _, rfl, _⟩ := h
    rfl
  · obtain ⟨v, d, rfl, hd, hok, q⟩ := h
    refine ⟨_, (pss_cons (ps_if (PW.pt (pw_or (pt_not (pt_val (pe_callB call_isi (by rfl) B.isinstance (by decide +kernel) (pa_cons (pv 0) (pa_cons (pe_bltn (v := .ty "str") (by rfl) B.str (by decide +kernel) rfl) pa_nil))))) (pw_or1 (pt_not (pt_chain op_le op_le pe_int (pe_callB call_len_str (by rfl) B.len PySem.boot_len (pa_cons (pv 0) pa_nil)) (pe_glob (v := .int (8)) (by rfl) mg_LONGEST_NAME ⟨_, rfl⟩)))))) (pss_one (ps_ret pe_bl)) pss_nil) (pss_one (ps_ret (pe_callB (cr_all rfl) (by rfl) B.all (by decide +kernel) (pa_cons (pe_lc (own := [("letter", 1)]) rfl sc_is_name.nd (pi_str (pv 0)) (blkOk_by (N := N_is_name) (sc := defScope s_is_name) (by decide +kernel)) (fun _ _ _ _ _ => pg_name (i := 1) sc_is_name.nd rfl (.inl rfl)) (fun _ _ _ _ _ => pts_nil) (fun _ _ _ _ _ => pe_cmpR op_in_sign (pv 1) (pe_glob (v := .str "abcdefghijklmnopqrstuvwxyz") (by rfl) mg_LETTERS ⟨_, rfl⟩) (by rfl))) pa_nil))))), ?_⟩
    refine ⟨v, rfl, v, .ty "str", _, _, _, rfl, .ty _, Dq.tyx hd, kit_ty (kit_str d), _, rfl, ?_⟩
    cases hd with
    | str z =>
      have hz : z.length ≤ 100000 := hok
      refine iteFF rfl ?_
      refine ⟨_, rfl, z, rfl, Nat.le_trans hz (by decide), _, _, rfl, rfl, _, rfl, ?_⟩
      have q : ∀ H', Same H H' → Q (.bl (nameD z)) H' := q
      by_cases c1 : 1 ≤ z.length
      · refine iteTT (decide_eq_true (by omega)) ⟨_, _, rfl, rfl, _, rfl, ?_⟩
        by_cases c2 : z.length ≤ 8
        · rw [decide_eq_true (show ((z.length : Nat) : Int) ≤ 8 by omega)]
          refine iteFF rfl ?_
          refine ⟨_, rfl, z, rfl, fun D nD => lc_it walk_str (fun i H' => Same H H' ∧ H' D = some (.lst (((z.cps.toList.map fun c => decide (c ∈ ("abcdefghijklmnopqrstuvwxyz" : Str).cps.toList)).take i).map V.bl))) ⟨same_new nD, upd_same⟩ (fun i H' _ h => trivial) ?_ ?_⟩
          · rintro i y H2 H3 hi ⟨sm, hD⟩ ⟨rfl, c, hc, rfl⟩
            refine ⟨rfl, tYes_in ⟨_, rfl, c, _, rfl, rfl, _, hD, ?_, fun b' o eb => ?_, ?_⟩⟩
            · rw [List.length_map, List.length_take, List.length_map]
              exact small1000 (by have : z.cps.toList.length = z.length := Array.length_toList; omega)
            · rw [upd_ne (ne_of_none eb nD)]
              exact sm _ _ eb
            · rw [upd_same, List.take_add_one, List.getElem?_map, Array.getElem?_toList, hc, List.map_append]
              rfl
          · rintro H2 ⟨sm, hD⟩
            rw [List.take_of_length_le (by rw [List.length_map, Array.length_toList]; exact Nat.le_refl _)] at hD
            refine ⟨D, _, rfl, SqL.of hD, ?_⟩
            have := q H2 sm
            unfold nameD at this
            rw [decide_eq_true c1, decide_eq_true c2, Bool.true_and, Bool.true_and] at this
            rw [List.all_map]
            exact this
        · rw [decide_eq_false (show ¬ ((z.length : Nat) : Int) ≤ 8 by omega)]
          refine iteTT rfl ?_
          have := q H (Same.refl _)
          unfold nameD at this
          rw [decide_eq_true c1, decide_eq_false c2] at this
          exact this
      · refine iteFF (decide_eq_false (by omega)) ⟨_, rfl, iteTT rfl ?_⟩
        have := q H (Same.refl _)
        unfold nameD at this
        rw [decide_eq_false c1] at this
        exact this
    | _ => exact iteTT rfl (iteTT rfl (q _ (Same.refl _)))
theorem ok_deed {f a_DEEDS : Addr} {fd : FuncData} (F : Fun K "count_deed" "count_deed" s_count_deed f fd) (gF : mg "count_deed" = some (.ref f)) (b : Binds K fd ["thing", "many", "deep"] []) (mg_DEEDS : mg "DEEDS" = some (.ref a_DEEDS)) (hB : TabB K w a_DEEDS) (hBK : KdAt K w a_DEEDS) (hBO : Only6 K a_DEEDS) (c_first_word : Cal P w K mg base 1 "first_word" (spFirst K)) (c_fits_shape : Cal P w K mg base 4 "fits_shape" (spFitsSh K)) {n lv : Nat} (hlv : 4 ≤ lv) (c_count_deeds : Cal P w K mg base lv "count_deeds" (spCntB K n)) : Cal P w K mg base (lv + 1) "count_deed" (spDeed K n) := by
  refine ⟨f, fd, _, F.ok sc_count_deed (fun vs H Q E h => ?_) (fun cdv A outer s H vs Q E hr h => ?_), gF, F.kp, b⟩
  · obtain ⟨_, _, _, _, rfl, _⟩ := h
    rfl
  · obtain ⟨v, many, k, d, rfl, hk, hd, q⟩ := h
    refine ⟨_, (pss_cons (ps_set (i := 3) sc_count_deed.nd rfl (.inl rfl) (pe_c c_first_word hr (by omega) (by rfl) (pa_cons (pv 0) pa_nil))) (pss_cons (ps_if (PW.pt (pw_or (pt_cmpR op_ninKq (pv 3) (pe_glob (v := .ref a_DEEDS) (by rfl) mg_DEEDS rfl) (by rfl)) (pw_or1 (pt_not (pt_val (pe_c c_fits_shape hr (by omega) (by rfl) (pa_cons (pv 0) (pa_cons (pe_ix ix_kdict (pe_glob (v := .ref a_DEEDS) (by rfl) mg_DEEDS rfl) (pv 3) (fun _ _ => rfl)) (pa_cons (pv 1) pa_nil))))))))) (pss_one (ps_ret pe_non)) pss_nil) (pss_cons (ps_set (i := 4) sc_count_deed.nd rfl (.inl rfl) pe_int) (pss_cons (ps_for PassesOwn.never rfl (pi_tup (pe_slice sl_tupA (pv 0) (po_some pe_int) po_none)) (pg_name (i := 5) sc_count_deed.nd rfl (.inl rfl)) (pss_cons (ps_set (i := 6) sc_count_deed.nd rfl (.inl rfl) (pe_c c_count_deeds hr (by omega) (by rfl) (pa_cons (pv 5) (pa_cons (pv 1) (pa_cons (pe_op op_sub (pv 2) pe_int) pa_nil))))) (pss_cons (ps_if (pt_cmpR op_isN (pv 6) pe_non (nomark _)) (pss_one (ps_ret pe_non)) pss_nil) (pss_one (ps_aug (i := 4) sc_count_deed.nd rfl (.inl rfl) (pv 6) ip_add))))) (pss_one (ps_ret (pv 4))))))), ?_⟩
    refine ⟨v, rfl, v, d, rfl, hd, ?_⟩
    have bad := @deedD_non many (cntB many k) d
    by_cases hw : wdV d = .non
    · rw [hw]
      rw [bad hw] at q
      exact ⟨_, rfl, a_DEEDS, rfl, hBK, .inr ⟨rfl, _, rfl, iteTT rfl (iteTT rfl (q _ (Same.refl _)))⟩⟩
    · obtain ⟨x, es, rfl⟩ : ∃ x ds, d = .tuple (.str x :: ds) := by
        unfold wdV at hw
        split at hw
        · exact ⟨_, _, rfl⟩
        · exact absurd rfl hw
      cases hd with
      | tup hp ha =>
        rename_i p xs0
        cases ha with
        | cons hx hes =>
          rename_i y xs
          cases hx
          cases hwo : wbOf x with
          | none =>
            have e : deedD many (cntB many k) (.tuple (.str x :: es)) = none := by
              unfold deedD
              simp only [hwo]
            rw [e] at q
            exact ⟨_, rfl, a_DEEDS, rfl, hBK, .inl ⟨x, none, rfl, hBO x hwo, _, rfl, iteTT rfl (iteTT rfl (q _ (Same.refl _)))⟩⟩
          | some wb =>
            have ex := wbOf_eq hwo
            subst ex
            obtain ⟨sq, hkd, hsq⟩ := hB.2 wb
            have hkd' := hkd
            obtain ⟨es', n', u, hl, hkk, hns, ru⟩ := hkd'
            rw [deedD_eq] at q
            refine ⟨_, rfl, a_DEEDS, rfl, hBK, .inl ⟨wbn wb, some u, rfl, hns, _, rfl, iteFF rfl ?_⟩⟩
            refine ⟨_, rfl, _, rfl, a_DEEDS, _, .ref sq, rfl, rfl, hkd, _, rfl, p, sq, many, _, xs, es, _, rfl, hp, hes, hsq, wbsh_len wb, fun H1 sm1 => ⟨_, rfl, ?_⟩⟩
            by_cases c : fitsD many (wbsh wb) es = true
            · rw [if_pos c] at q
              rw [c]
              refine iteFF rfl ?_
              refine ⟨_, rfl, 3, rfl, ?_⟩
              dsimp only [tNoPart]
              refine slA (same_sqt sm1 hp) fun H2 c2 sm2 hc2 => ?_
              rw [cutT3] at hc2
              have sm12 := sm1.trans sm2
              have hus := dqall_drop (n := 2) (dqall_same sm12 hes)
              have hlen := dqall_len hus
              refine ⟨c2, rfl, ⟨_, hc2⟩, ?_⟩
              refine for_tup (K := K) (a := c2) (xs := xs.drop 2) (σ := [some (.ref p), some (.int many), some (.int ((k : Int) + 1)), some (.str (wbn wb)), some (.int 1), none, none]) (H := H2) (g := gName 5) (D := { nx := tRet (tVar 4) { nx := fun x H' => Q V.non H', rt := Q }, rt := Q }) (fun i σ H' => ∃ (t : Nat) (y5 y6 : Option V), σ = [some (.ref p), some (.int many), some (.int ((k : Int) + 1)), some (.str (wbn wb)), some (.int (t : Int)), y5, y6] ∧ Same H2 H' ∧ addB 1 ((es.drop 2).map (cntB many k)) = addB t (((es.drop 2).map (cntB many k)).drop i)) ⟨1, none, none, by rfl, Same.refl _, by rfl⟩ (fun i σ H' _ h => ?_) ?_ ?_
              · obtain ⟨_, _, _, _, sm, _⟩ := h
                exact same_sqt sm hc2
              · rintro i y σ H3 hy ⟨t, y5, y6, rfl, sm3, e⟩
                obtain ⟨dd, hdd, hdp⟩ := dqall_get hus hy
                have hm : ((es.drop 2).map (cntB many k))[i]? = some (cntB many k dd) := by rw [List.getElem?_map, hdd]; rfl
                rw [addB_drop hm] at e
                refine ⟨_, rfl, _, rfl, _, rfl, _, _, rfl, rfl, y, many, k, dd, ?_, hk, dq_same sm3 hdp, fun H4 sm4 => ?_⟩
                · show [y, V.int many, V.int ((k : Int) + 1 - 1)] = _
                  rw [show (k : Int) + 1 - 1 = (k : Int) by omega]
                cases hc0 : cntB many k dd with
                | none =>
                  rw [hc0] at e
                  rw [e] at q
                  exact ⟨_, rfl, rfl, _, rfl, iteTT rfl (q _ ((sm12.trans sm3).trans sm4))⟩
                | some j =>
                  rw [hc0] at e
                  exact ⟨_, rfl, rfl, _, rfl, iteFF rfl ⟨_, rfl, _, rfl, _, _, rfl, rfl, t + j, _, _, rfl, sm3.trans sm4, e⟩⟩
              · rintro σ H3 ⟨t, y5, y6, rfl, sm3, e⟩
                have hdr : ((es.drop 2).map (cntB many k)).drop (xs.drop 2).length = [] := List.drop_of_length_le (by rw [List.length_map, hlen]; exact Nat.le_refl _)
                rw [hdr] at e
                rw [e] at q
                exact ⟨_, rfl, q _ (sm12.trans sm3)⟩
            · rw [if_neg c] at q
              rw [Bool.not_eq_true] at c
              rw [c]
              exact iteTT rfl (q _ sm1)
theorem ok_deeds' {f g a_DEEDS : Addr} {fd gd : FuncData} (F : Fun K "count_deeds" "count_deeds" s_count_deeds f fd) (gF : mg "count_deeds" = some (.ref f)) (b : Binds K fd ["thing", "many", "deep"] []) (B : Bl mg) (G : Fun K "count_deed" "count_deed" s_count_deed g gd) (gG : mg "count_deed" = some (.ref g)) (bG : Binds K gd ["thing", "many", "deep"] []) (mg_DEEDS : mg "DEEDS" = some (.ref a_DEEDS)) (hB : TabB K w a_DEEDS) (hBK : KdAt K w a_DEEDS) (hBO : Only6 K a_DEEDS) {t1 : Tok} (mg_MOST_DEEDS : mg "MOST_DEEDS" = some (.int 20 t1)) (c_first_word : Cal P w K mg base 1 "first_word" (spFirst K)) (c_fits_shape : Cal P w K mg base 4 "fits_shape" (spFitsSh K)) : ∀ n, Cal P w K mg base (2 * n + 4) "count_deeds" (spCntB K n)
  | 0 => cal_never F gF b fun vs H Q E => by rintro ⟨_, _, k, _, _, hk, _⟩; omega
  | n + 1 => by
    have c_count_deed := ok_deed G gG bG mg_DEEDS hB hBK hBO c_first_word c_fits_shape (by omega) (ok_deeds' F gF b B G gG bG mg_DEEDS hB hBK hBO mg_MOST_DEEDS c_first_word c_fits_shape n)
    refine Cal.mono (j := 2 * n + 6) ⟨f, fd, _, F.ok sc_count_deeds (fun vs H Q E h => ?_) (fun cdv A outer s H vs Q E hr h => ?_), gF, F.kp, b⟩ (by omega)
    · obtain ⟨_, _, _, _, rfl, _⟩ := h
      rfl
    · obtain ⟨v, many, k, d, rfl, hk, hd, q⟩ := h
      refine ⟨_, (C8.pss_cut (ps_if (PW.pt (pw_or (pt_not (pt_val (pe_callB call_isi (by rfl) B.isinstance (by decide +kernel) (pa_cons (pv 0) (pa_cons (pe_bltn (v := .ty "tuple") (by rfl) B.tuple (by decide +kernel) rfl) pa_nil))))) (pw_or1 (PW.pt (pw_and (pt_truth (pv 0) (by intro _; rfl)) (pw_and1 (pt_cmpR op_eq (pv 2) pe_int (nomark _)))))))) (pss_one (ps_ret pe_non)) pss_nil) (pss_cons (ps_set (i := 3) sc_count_deeds.nd rfl (.inl rfl) pe_int) (pss_cons (ps_for PassesOwn.never rfl (pi_tup (pv 0)) (pg_name (i := 4) sc_count_deeds.nd rfl (.inl rfl)) (pss_cons (ps_set (i := 5) sc_count_deeds.nd rfl (.inl rfl) (pe_c c_count_deed hr (by omega) (by rfl) (pa_cons (pv 4) (pa_cons (pv 1) (pa_cons (pv 2) pa_nil))))) (pss_cons (ps_if (PW.pt (pw_or (pt_cmpR op_isN (pv 5) pe_non (nomark _)) (pw_or1 (pt_cmpR op_gt (pe_op op_add (pv 3) (pv 5)) (pe_glob (v := .int (20)) (by rfl) mg_MOST_DEEDS ⟨_, rfl⟩) (nomark _))))) (pss_one (ps_ret pe_non)) pss_nil) (pss_one (ps_aug (i := 3) sc_count_deeds.nd rfl (.inl rfl) (pv 5) ip_add))))) (pss_one (ps_ret (pv 3)))))), ?_⟩
      refine ⟨fun σ H' => σ = [some v, some (.int many), some (.int (k : Int)), none, none, none] ∧ H' = H ∧ ∃ p xs ds, v = .ref p ∧ d = .tuple ds ∧ SqT K H p xs ∧ DqAll K H xs ds ∧ (ds = [] ∨ ∃ k', k = k' + 1), ?_, ?_⟩
      · refine ⟨_, rfl, v, .ty "tuple", _, _, _, rfl, .ty _, Dq.tyx hd, kit_ty (kit_tup d), _, rfl, ?_⟩
        cases hd with
        | @tup p xs ds hp hds =>
          refine iteFF rfl ⟨_, rfl, !xs.isEmpty, .inr (.inl ⟨_, hp, rfl⟩), ?_⟩
          have hlx := dqall_len hds
          cases xs with
          | nil => exact iteFF rfl (iteFF rfl ⟨rfl, rfl, p, [], ds, rfl, rfl, hp, hds, .inl (List.eq_nil_of_length_eq_zero (by simpa using hlx.symm))⟩)
          | cons x xs =>
            refine iteTT rfl ⟨_, rfl, rfl, _, rfl, ?_⟩
            cases k with
            | zero =>
              cases ds with
              | nil => simp at hlx
              | cons d0 ds => exact iteTT (by rfl) (q _ (Same.refl _))
            | succ k' => exact iteFF (decide_eq_false (by intro e; cases e)) ⟨rfl, rfl, p, _, ds, rfl, rfl, hp, hds, .inr ⟨k', rfl⟩⟩
        | _ => exact iteTT rfl (iteTT rfl (by have := q _ (Same.refl _); cases k <;> exact this))
      · rintro σ H1 ⟨rfl, rfl, p, xs, ds, rfl, rfl, hp, hds, hor⟩
        have hlx := dqall_len hds
        refine ⟨_, rfl, p, rfl, ⟨_, hp⟩, for_tup (xs := xs) (fun i σ H' => ∃ (t : Nat) (y4 y5 : Option V), σ = [some (.ref p), some (.int many), some (.int (k : Int)), some (.int (t : Int)), y4, y5] ∧ Same H1 H' ∧ cntB many k (.tuple ds) = sumB t ((ds.map (deedD many (cntB many (k - 1)))).drop i)) ⟨0, none, none, rfl, Same.refl _, ?_⟩ (fun i σ H' _ h => ?_) ?_ ?_⟩
        · rw [List.drop_zero]
          rcases hor with rfl | ⟨k', rfl⟩
          · cases k <;> rfl
          · rfl
        · obtain ⟨_, _, _, _, sm, _⟩ := h
          exact same_sqt sm hp
        · rintro i y σ H3 hy ⟨t, y4, y5, rfl, sm3, e⟩
          obtain ⟨dd, hdd, hdp⟩ := dqall_get hds hy
          rcases hor with rfl | ⟨k', rfl⟩
          · simp at hdd
          have hm : (ds.map (deedD many (cntB many (k' + 1 - 1))))[i]? = some (deedD many (cntB many k') dd) := by rw [List.getElem?_map, hdd]; rfl
          rw [sumB_drop hm] at e
          refine ⟨_, rfl, _, rfl, _, rfl, y, many, k', dd, rfl, by omega, dq_same sm3 hdp, fun H4 sm4 => ?_⟩
          cases hc : deedD many (cntB many k') dd with
          | none =>
            rw [hc] at e
            rw [e] at q
            exact ⟨_, rfl, rfl, _, rfl, iteTT rfl (iteTT rfl (q _ (sm3.trans sm4)))⟩
          | some j =>
            rw [hc] at e
            dsimp only [Option.bind] at e
            refine ⟨_, rfl, rfl, _, rfl, iteFF rfl ⟨_, rfl, _, rfl, _, _, rfl, rfl, _, _, rfl, rfl, _, rfl, ?_⟩⟩
            by_cases c : 20 < t + j
            · rw [if_pos c] at e
              rw [e] at q
              exact iteTT (decide_eq_true (by omega)) (q _ (sm3.trans sm4))
            · rw [if_neg c] at e
              exact iteFF (decide_eq_false (by omega)) ⟨_, rfl, _, rfl, _, _, rfl, rfl, t + j, _, _, rfl, sm3.trans sm4, e⟩
        · rintro σ H3 ⟨t, y4, y5, rfl, sm3, e⟩
          rw [List.drop_of_length_le (by rw [List.length_map, hlx]; exact Nat.le_refl _)] at e
          rw [e] at q
          exact ⟨_, rfl, q _ sm3⟩
theorem ok_isregs {f a_BOUNDS : Addr} {fd : FuncData} (F : Fun K "is_registers" "is_registers" s_is_registers f fd) (gF : mg "is_registers" = some (.ref f)) (b : Binds K fd ["thing"] []) (B : Bl mg) (mg_BOUNDS : mg "BOUNDS" = some (.ref a_BOUNDS)) (hN : TabN K w a_BOUNDS) {t1 : Tok} (mg_HOW_MANY_REGISTERS : mg "HOW_MANY_REGISTERS" = some (.int 4 t1)) (c_is_within : Cal P w K mg base 2 "is_within" (spInB K)) : Cal P w K mg base 3 "is_registers" (spIsRegsQ K) := by
  refine ⟨f, fd, _, F.ok sc_is_registers (fun vs H Q E h => ?_) (fun cdv A outer s H vs Q E hr h => ?_), gF, F.kp, b⟩
  · obtain ⟨_, _, rfl, _⟩ := h
    rfl
  · obtain ⟨v, d, rfl, hd, q⟩ := h
    refine ⟨_, (pss_cons (ps_if (PW.pt (pw_or (pt_not (pt_val (pe_callB call_isi (by rfl) B.isinstance (by decide +kernel) (pa_cons (pv 0) (pa_cons (pe_bltn (v := .ty "tuple") (by rfl) B.tuple (by decide +kernel) rfl) pa_nil))))) (pw_or1 (pt_cmpR op_ne (pe_callB call_len_seq (by rfl) B.len PySem.boot_len (pa_cons (pv 0) pa_nil)) (pe_glob (v := .int (4)) (by rfl) mg_HOW_MANY_REGISTERS ⟨_, rfl⟩) (nomark _))))) (pss_one (ps_ret pe_bl)) pss_nil) (pss_cons (ps_asg (pe_ix ix_kdict (pe_glob (v := .ref a_BOUNDS) (by rfl) mg_BOUNDS rfl) pe_str (fun _ _ => rfl)) (pg_tup rfl (pgs_cons (pg_name (i := 1) sc_is_registers.nd rfl (.inr rfl)) (pgs_cons (pg_name (i := 2) sc_is_registers.nd rfl (.inr rfl)) pgs_nil)))) (pss_one (ps_ret (pe_callB (cr_all rfl) (by rfl) B.all (by decide +kernel) (pa_cons (pe_lc (own := [("number", 3)]) rfl sc_is_registers.nd (pi_tup (pv 0)) (blkOk_by (N := N_is_registers) (sc := defScope s_is_registers) (by decide +kernel)) (fun _ _ _ _ _ => pg_name (i := 3) sc_is_registers.nd rfl (.inl rfl)) (fun _ _ _ _ _ => pts_nil) (fun _ _ _ _ _ => pe_c c_is_within hr (by omega) (by rfl) (pa_cons (pv 3) (pa_cons (pv 1) (pa_cons (pv 2) pa_nil))))) pa_nil)))))), ?_⟩
    refine ⟨v, rfl, v, .ty "tuple", _, _, _, rfl, .ty _, Dq.tyx hd, kit_ty (kit_tup d), _, rfl, ?_⟩
    cases hd with
    | @tup p xs ds hp hds =>
      have hlx := dqall_len hds
      have q : ∀ H', Same H H' → Q (.bl (regsD ds)) H' := q
      refine iteFF rfl ⟨.ref p, rfl, p, _, rfl, .inr hp, rfl, _, rfl, ?_⟩
      by_cases c : ds.length = 4
      · refine iteFF (by rw [hlx, c]; rfl) ?_
        obtain ⟨qn, hkd, hq⟩ := hN .figure (by decide) (by decide)
        refine ⟨a_BOUNDS, _, .ref qn, rfl, rfl, hkd, qn, _, rfl, hq _, rfl, _, _, rfl, _, _, rfl, rfl, ?_⟩
        refine ⟨.ref p, rfl, p, rfl, ⟨_, hp⟩, fun D nD => lc_tup (xs := xs) (fun i H' => Same H H' ∧ H' D = some (.lst (((ds.map (inD (-1000) 1000)).take i).map V.bl))) ⟨same_new nD, upd_same⟩ (fun i H' _ h => same_sqt h.1 hp) ?_ ?_⟩
        · rintro i y H2 hy ⟨sm, hD⟩
          have hi := (List.getElem?_eq_some_iff.mp hy).1
          obtain ⟨dd, hdd, hdp⟩ := dqall_get hds hy
          refine ⟨rfl, tYes_in ⟨_, rfl, _, rfl, _, rfl, y, -1000, 1000, dd, rfl, dq_same sm hdp, _, hD, ?_, fun b' o eb => ?_, ?_⟩⟩
          · rw [List.length_map, List.length_take]
            exact small1000 (by omega)
          · rw [upd_ne (ne_of_none eb nD)]
            exact sm _ _ eb
          · rw [upd_same, List.take_add_one, List.getElem?_map, hdd, List.map_append]
            rfl
        · rintro H2 ⟨sm, hD⟩
          rw [List.take_of_length_le (by rw [List.length_map]; omega)] at hD
          refine ⟨D, _, rfl, SqL.of hD, ?_⟩
          have := q H2 sm
          unfold regsD at this
          rw [decide_eq_true c, Bool.true_and] at this
          rw [List.all_map]
          exact this
      · refine iteTT (by rw [hlx]; simp; omega) ?_
        have := q H (Same.refl _)
        unfold regsD at this
        rw [decide_eq_false c] at this
        exact this
    | _ => exact iteTT rfl (q _ (Same.refl _))
theorem ok_isstake {f : Addr} {fd : FuncData} (F : Fun K "is_stake" "is_stake" s_is_stake f fd) (gF : mg "is_stake" = some (.ref f)) (b : Binds K fd ["thing", "scale", "many"] []) {t1 : Tok} (mg_WIDEST : mg "WIDEST" = some (.int 500 t1)) (c_power : Cal P w K mg base 1 "power" spPow2) (c_is_expression : Cal P w K mg base 16 "is_expression" (spIsEx K)) {n : Nat} (hn : n ≤ 14) (h8 : 8 ≤ n) (c_span : Cal P w K mg base (n + 2) "span" (spSpan K n)) : Cal P w K mg base 17 "is_stake" (spIsStake K) := by
  refine ⟨f, fd, _, F.ok sc_is_stake (fun vs H Q E h => ?_) (fun cdv A outer s H vs Q E hr h => ?_), gF, F.kp, b⟩
  · obtain ⟨_, _, _, _, rfl, _⟩ := h
    rfl
  · obtain ⟨v, sc, many, d, rfl, hsc, hd, q⟩ := h
    refine ⟨_, (pss_cons (ps_if (pt_not (pt_val (pe_c c_is_expression hr (by omega) (by rfl) (pa_cons (pv 0) (pa_cons (pv 2) pa_nil))))) (pss_one (ps_ret pe_bl)) pss_nil) (pss_cons (ps_asg (pe_c c_span hr (by omega) (by rfl) (pa_cons (pv 0) pa_nil)) (pg_tup rfl (pgs_cons (pg_name (i := 3) sc_is_stake.nd rfl (.inl rfl)) (pgs_cons (pg_name (i := 4) sc_is_stake.nd rfl (.inl rfl)) pgs_nil)))) (pss_cons (ps_set (i := 5) sc_is_stake.nd rfl (.inl rfl) (pe_op op_mul (pe_glob (v := .int (500)) (by rfl) mg_WIDEST ⟨_, rfl⟩) (pe_c c_power hr (by omega) (by rfl) (pa_cons (pv 1) pa_nil)))) (pss_one (ps_ret (pe_and (pe_cmpR op_le (pe_un un_neg (pv 5)) (pv 3) (nomark _)) (pe_one (pe_cmpR op_le (pv 4) (pv 5) (nomark _))))))))), ?_⟩
    refine ⟨_, rfl, _, rfl, v, many, d, rfl, hd, fun H1 sm1 => ⟨_, rfl, ?_⟩⟩
    cases c : isEx many d with
    | false =>
      refine iteTT rfl ?_
      have := q H1 sm1
      unfold stakeD at this
      rw [c] at this
      exact this
    | true =>
      refine iteFF rfl ?_
      have hp : 0 < cntE many 8 d := by
        unfold isEx at c
        rw [Bool.and_eq_true, decide_eq_true_eq] at c
        omega
      obtain ⟨e1, e2, e3⟩ := exD_of hp
      have hE : ExAt K H1 (exD 8 d) v := ExAt.ofQ (by rw [e1]; exact dq_same sm1 hd)
      refine ⟨_, rfl, v, exD 8 d, many, rfl, hE, e2, by omega, fun H2 u sm2 hu => ?_⟩
      obtain ⟨pu, rfl, hpu⟩ := hu
      refine ⟨pu, _, rfl, hpu, rfl, _, _, rfl, _, _, rfl, rfl, ?_⟩
      have hp2 := pw2_bnd sc
      refine ⟨_, rfl, sc, rfl, hsc, 500, pw2 sc, rfl, rfl, .inl ⟨by decide, by decide⟩, _, rfl, _, rfl, _, rfl, _, _, rfl, rfl, _, rfl, ?_⟩
      have := q H2 (sm1.trans sm2)
      unfold stakeD at this
      rw [c, Bool.true_and] at this
      by_cases c1 : -(500 * pw2 sc) ≤ (spn (exD 8 d)).1
      · rw [decide_eq_true c1, Bool.true_and] at this
        exact iteTT (decide_eq_true c1) ⟨_, rfl, _, rfl, _, _, rfl, rfl, this⟩
      · rw [decide_eq_false c1, Bool.false_and] at this
        exact iteFF (decide_eq_false c1) this
theorem ok_arestakes {f : Addr} {fd : FuncData} (F : Fun K "are_stakes" "are_stakes" s_are_stakes f fd) (gF : mg "are_stakes" = some (.ref f)) (b : Binds K fd ["thing", "scale", "many"] []) (B : Bl mg) (c_is_stake : Cal P w K mg base 17 "is_stake" (spIsStake K)) : Cal P w K mg base 18 "are_stakes" (spAreSt K) := by
  refine ⟨f, fd, _, F.ok sc_are_stakes (fun vs H Q E h => ?_) (fun cdv A outer s H vs Q E hr h => ?_), gF, F.kp, b⟩
  · obtain ⟨_, _, _, _, rfl, _⟩ := h
    rfl
  · obtain ⟨v, sc, many, d, rfl, hm3, hsc, hd, q⟩ := h
    refine ⟨_, (pss_cons (ps_if (PW.pt (pw_or (pt_not (pt_val (pe_callB call_isi (by rfl) B.isinstance (by decide +kernel) (pa_cons (pv 0) (pa_cons (pe_bltn (v := .ty "tuple") (by rfl) B.tuple (by decide +kernel) rfl) pa_nil))))) (pw_or1 (pt_cmpR op_ne (pe_callB call_len_seq (by rfl) B.len PySem.boot_len (pa_cons (pv 0) pa_nil)) (pv 2) (nomark _))))) (pss_one (ps_ret pe_bl)) pss_nil) (pss_one (ps_ret (pe_callB (cr_all rfl) (by rfl) B.all (by decide +kernel) (pa_cons (pe_lc (own := [("stake", 3)]) rfl sc_are_stakes.nd (pi_tup (pv 0)) (blkOk_by (N := N_are_stakes) (sc := defScope s_are_stakes) (by decide +kernel)) (fun _ _ _ _ _ => pg_name (i := 3) sc_are_stakes.nd rfl (.inl rfl)) (fun _ _ _ _ _ => pts_nil) (fun _ _ _ _ _ => pe_c c_is_stake hr (by omega) (by rfl) (pa_cons (pv 3) (pa_cons (pv 1) (pa_cons (pv 2) pa_nil))))) pa_nil))))), ?_⟩
    refine ⟨v, rfl, v, .ty "tuple", _, _, _, rfl, .ty _, Dq.tyx hd, kit_ty (kit_tup d), _, rfl, ?_⟩
    cases hd with
    | @tup p xs ds hp hds =>
      have hlx := dqall_len hds
      have q : ∀ H', Same H H' → Q (.bl (decide (ds.length = many) && ds.all (stakeD many sc))) H' := q
      refine iteFF rfl ⟨.ref p, rfl, p, _, rfl, .inr hp, _, rfl, rfl, _, rfl, ?_⟩
      by_cases c : ds.length = many
      · refine iteFF (by simp [hlx, c]) ?_
        refine ⟨.ref p, rfl, p, rfl, ⟨_, hp⟩, fun D nD => lc_tup (xs := xs) (fun i H' => Same H H' ∧ H' D = some (.lst (((ds.map (stakeD many sc)).take i).map V.bl))) ⟨same_new nD, upd_same⟩ (fun i H' _ h => same_sqt h.1 hp) ?_ ?_⟩
        · rintro i y H2 hy ⟨sm, hD⟩
          have hi := (List.getElem?_eq_some_iff.mp hy).1
          obtain ⟨dd, hdd, hdp⟩ := dqall_get hds hy
          refine ⟨rfl, tYes_in ⟨_, rfl, _, rfl, _, rfl, y, sc, many, dd, rfl, hsc, dq_same sm hdp, fun H3 sm3 => ⟨_, sm3 _ _ hD, ?_, fun b' o eb => ?_, ?_⟩⟩⟩
          · rw [List.length_map, List.length_take]
            exact small1000 (by omega)
          · rw [upd_ne (ne_of_none eb nD)]
            exact sm3 _ _ (sm _ _ eb)
          · rw [upd_same, List.take_add_one, List.getElem?_map, hdd, List.map_append]
            rfl
        · rintro H2 ⟨sm, hD⟩
          rw [List.take_of_length_le (by rw [List.length_map]; omega)] at hD
          refine ⟨D, _, rfl, SqL.of hD, ?_⟩
          have := q H2 sm
          rw [decide_eq_true c, Bool.true_and] at this
          rw [List.all_map]
          exact this
      · refine iteTT (by simp [hlx]; omega) ?_
        have := q H (Same.refl _)
        rw [decide_eq_false c] at this
        exact this
    | _ => exact iteTT rfl (q _ (Same.refl _))
theorem ok_arebehinds {f : Addr} {fd : FuncData} (F : Fun K "are_behinds" "are_behinds" s_are_behinds f fd) (gF : mg "are_behinds" = some (.ref f)) (b : Binds K fd ["thing", "many"] []) (B : Bl mg) {t1 : Tok} (mg_MOST_DEEP_doubters : mg "MOST_DEEP_doubters" = some (.int 4 t1)) (c_count_deeds : Cal P w K mg base 14 "count_deeds" (spCntB K 5)) : Cal P w K mg base 15 "are_behinds" (spAreBh K) := by
  refine ⟨f, fd, _, F.ok sc_are_behinds (fun vs H Q E h => ?_) (fun cdv A outer s H vs Q E hr h => ?_), gF, F.kp, b⟩
  · obtain ⟨_, _, _, rfl, _⟩ := h
    rfl
  · obtain ⟨v, many, d, rfl, hm3, hd, q⟩ := h
    refine ⟨_, (pss_cons (ps_if (PW.pt (pw_or (pt_not (pt_val (pe_callB call_isi (by rfl) B.isinstance (by decide +kernel) (pa_cons (pv 0) (pa_cons (pe_bltn (v := .ty "tuple") (by rfl) B.tuple (by decide +kernel) rfl) pa_nil))))) (pw_or1 (pt_cmpR op_ne (pe_callB call_len_seq (by rfl) B.len PySem.boot_len (pa_cons (pv 0) pa_nil)) (pv 1) (nomark _))))) (pss_one (ps_ret pe_bl)) pss_nil) (pss_one (ps_ret (pe_callB (cr_all rfl) (by rfl) B.all (by decide +kernel) (pa_cons (pe_lc (own := [("deeds", 2)]) rfl sc_are_behinds.nd (pi_tup (pv 0)) (blkOk_by (N := N_are_behinds) (sc := defScope s_are_behinds) (by decide +kernel)) (fun _ _ _ _ _ => pg_name (i := 2) sc_are_behinds.nd rfl (.inl rfl)) (fun _ _ _ _ _ => pts_nil) (fun _ _ _ _ _ => pe_cmpR op_notN (pe_c c_count_deeds hr (by omega) (by rfl) (pa_cons (pv 2) (pa_cons (pv 1) (pa_cons (pe_glob (v := .int (4)) (by rfl) mg_MOST_DEEP_doubters ⟨_, rfl⟩) pa_nil)))) pe_non (nomark _))) pa_nil))))), ?_⟩
    refine ⟨v, rfl, v, .ty "tuple", _, _, _, rfl, .ty _, Dq.tyx hd, kit_ty (kit_tup d), _, rfl, ?_⟩
    cases hd with
    | @tup p xs ds hp hds =>
      have hlx := dqall_len hds
      have q : ∀ H', Same H H' → Q (.bl (decide (ds.length = many) && ds.all fun d => (cntB many 4 d).isSome)) H' := q
      refine iteFF rfl ⟨.ref p, rfl, p, _, rfl, .inr hp, _, rfl, rfl, _, rfl, ?_⟩
      by_cases c : ds.length = many
      · refine iteFF (by simp [hlx, c]) ?_
        refine ⟨.ref p, rfl, p, rfl, ⟨_, hp⟩, fun D nD => lc_tup (xs := xs) (fun i H' => Same H H' ∧ H' D = some (.lst (((ds.map fun d => (cntB many 4 d).isSome).take i).map V.bl))) ⟨same_new nD, upd_same⟩ (fun i H' _ h => same_sqt h.1 hp) ?_ ?_⟩
        · rintro i y H2 hy ⟨sm, hD⟩
          have hi := (List.getElem?_eq_some_iff.mp hy).1
          obtain ⟨dd, hdd, hdp⟩ := dqall_get hds hy
          refine ⟨rfl, tYes_in ⟨_, rfl, _, rfl, y, many, 4, dd, rfl, by decide, dq_same sm hdp, fun H3 sm3 => ⟨rfl, _, sm3 _ _ hD, ?_, fun b' o eb => ?_, ?_⟩⟩⟩
          · rw [List.length_map, List.length_take]
            exact small1000 (by omega)
          · rw [upd_ne (ne_of_none eb nD)]
            exact sm3 _ _ (sm _ _ eb)
          · rw [upd_same, List.take_add_one, List.getElem?_map, hdd, List.map_append]
            have e : (!decide (optV (cntB many 4 dd) = V.non)) = (cntB many 4 dd).isSome := by
              cases cntB many 4 dd with
              | none => rfl
              | some j => rfl
            show some (HO.lst (_ ++ [V.bl (!decide (optV (cntB many 4 dd) = V.non))])) = _
            rw [e]
            rfl
        · rintro H2 ⟨sm, hD⟩
          rw [List.take_of_length_le (by rw [List.length_map]; omega)] at hD
          refine ⟨D, _, rfl, SqL.of hD, ?_⟩
          have := q H2 sm
          rw [decide_eq_true c, Bool.true_and] at this
          rw [List.all_map]
          exact this
      · refine iteTT (by simp [hlx]; omega) ?_
        have := q H (Same.refl _)
        rw [decide_eq_false c] at this
        exact this
    | _ => exact iteTT rfl (q _ (Same.refl _))
theorem fn_isdb {f : Addr} {fd : FuncData} (F : Fun K "is_doubter" "is_doubter" s_is_doubter f fd) (B : Bl mg) {t1 : Tok} (mg_GREATEST_SCALE : mg "GREATEST_SCALE" = some (.int 4 t1)) (c_is_name : Cal P w K mg base 1 "is_name" (spIsName K)) (c_is_within : Cal P w K mg base 2 "is_within" (spInB K)) (c_is_registers : Cal P w K mg base 3 "is_registers" (spIsRegsQ K)) (c_are_stakes : Cal P w K mg base 18 "are_stakes" (spAreSt K)) (c_are_behinds : Cal P w K mg base 15 "are_behinds" (spAreBh K)) : FnOk P w K mg base CX0 19 f fd ["thing", "many"] (spIsDb K) := by
  refine F.ok sc_is_doubter (fun vs H Q E h => ?_) (fun cdv A outer s H vs Q E hr h => ?_)
  · obtain ⟨_, _, _, rfl, _⟩ := h
    rfl
  · obtain ⟨v, many, d, rfl, hm3, hd, hnm, q⟩ := h
    refine ⟨_, (pss_cons (ps_if (PW.pt (pw_or (pt_not (pt_val (pe_callB call_isi (by rfl) B.isinstance (by decide +kernel) (pa_cons (pv 0) (pa_cons (pe_bltn (v := .ty "tuple") (by rfl) B.tuple (by decide +kernel) rfl) pa_nil))))) (pw_or1 (pt_cmpR op_ne (pe_callB call_len_seq (by rfl) B.len PySem.boot_len (pa_cons (pv 0) pa_nil)) pe_int (nomark _))))) (pss_one (ps_ret pe_bl)) pss_nil) (pss_cons (ps_asg (pv 0) (pg_tup rfl (pgs_cons (pg_name (i := 2) sc_is_doubter.nd rfl (.inl rfl)) (pgs_cons (pg_name (i := 3) sc_is_doubter.nd rfl (.inl rfl)) (pgs_cons (pg_name (i := 4) sc_is_doubter.nd rfl (.inl rfl)) (pgs_cons (pg_name (i := 5) sc_is_doubter.nd rfl (.inl rfl)) (pgs_cons (pg_name (i := 6) sc_is_doubter.nd rfl (.inl rfl)) pgs_nil))))))) (pss_cons (ps_if (PW.pt (pw_or (pt_not (pt_val (pe_c c_is_name hr (by omega) (by rfl) (pa_cons (pv 2) pa_nil)))) (pw_or (pt_not (pt_val (pe_c c_is_within hr (by omega) (by rfl) (pa_cons (pv 3) (pa_cons pe_int (pa_cons (pe_glob (v := .int (4)) (by rfl) mg_GREATEST_SCALE ⟨_, rfl⟩) pa_nil)))))) (pw_or1 (pt_not (pt_val (pe_c c_is_registers hr (by omega) (by rfl) (pa_cons (pv 4) pa_nil)))))))) (pss_one (ps_ret pe_bl)) pss_nil) (pss_one (ps_ret (pe_and (pe_c c_are_stakes hr (by omega) (by rfl) (pa_cons (pv 5) (pa_cons (pv 3) (pa_cons (pv 1) pa_nil)))) (pe_one (pe_c c_are_behinds hr (by omega) (by rfl) (pa_cons (pv 6) (pa_cons (pv 1) pa_nil)))))))))), ?_⟩
    refine ⟨v, rfl, v, .ty "tuple", _, _, _, rfl, .ty _, Dq.tyx hd, kit_ty (kit_tup d), _, rfl, ?_⟩
    cases hd with
    | @tup p xs ds hp hds =>
      have hlx := dqall_len hds
      refine iteFF rfl ⟨.ref p, rfl, p, _, rfl, .inr hp, rfl, _, rfl, ?_⟩
      by_cases c : ds.length = 5
      · refine iteFF (by rw [hlx, c]; rfl) ?_
        obtain ⟨d0, d1, d2, d3, d4, v0, v1, v2, v3, v4, rfl, rfl, h0, h1, h2, h3, h4⟩ := dq_five hds c
        ·
          refine ⟨.ref p, rfl, p, _, rfl, hp, rfl, _, _, rfl, _, _, rfl, _, _, rfl, _, _, rfl, _, _, rfl, rfl, ?_⟩
          refine ⟨_, rfl, v0, d0, rfl, h0, hnm, fun H1 sm1 => ⟨_, rfl, ?_⟩⟩
          cases c1 : nameQ d0 with
          | false =>
            refine iteTT rfl (iteTT rfl ?_)
            have := q H1 sm1
            have e : dbQ many (.tuple [d0, d1, d2, d3, d4]) = false := by
              show (nameQ d0 && _) = false
              rw [c1, Bool.false_and]
            rw [e] at this
            exact this
          | true =>
            refine iteFF rfl ⟨_, rfl, v1, 0, 4, d1, rfl, dq_same sm1 h1, _, rfl, ?_⟩
            cases c2 : inD 0 4 d1 with
            | false =>
              refine iteTT rfl (iteTT rfl ?_)
              have := q H1 sm1
              have e : dbQ many (.tuple [d0, d1, d2, d3, d4]) = false := by
                show (nameQ d0 && (inD 0 4 d1 && _)) = false
                rw [c2, Bool.false_and, Bool.and_false]
              rw [e] at this
              exact this
            | true =>
              obtain ⟨sc', e, h0', h4'⟩ := inD_int c2
              subst e
              cases h1
              have eq0 : dbQ many (.tuple [d0, .int sc', d2, d3, d4]) = (regsQ d2 && (stakesQ many sc'.toNat d3 && behindsQ many d4)) := by
                show (nameQ d0 && (inD 0 4 (.int sc') && (regsQ d2 && (stakesQ many sc'.toNat d3 && behindsQ many d4)))) = _
                rw [c1, c2, Bool.true_and, Bool.true_and]
              rw [eq0] at q
              refine iteFF rfl ⟨_, rfl, v2, d2, rfl, dq_same sm1 h2, fun H2 sm2 => ⟨_, rfl, ?_⟩⟩
              have sm12 := sm1.trans sm2
              cases c3 : regsQ d2 with
              | false =>
                rw [c3] at q
                exact iteTT rfl (q _ sm12)
              | true =>
                rw [c3, Bool.true_and] at q
                refine iteFF rfl ?_
                obtain ⟨sn, hsn⟩ : ∃ sn : Nat, sc' = (sn : Int) := ⟨sc'.toNat, by omega⟩
                subst hsn
                rw [Int.toNat_natCast] at q
                refine ⟨_, rfl, _, rfl, _, rfl, v3, sn, many, d3, rfl, hm3, by omega, dq_same sm12 h3, fun H3 sm3 => ⟨_, rfl, ?_⟩⟩
                have sm123 := sm12.trans sm3
                cases c4 : stakesQ many sn d3 with
                | false =>
                  have := q _ sm123
                  rw [c4] at this
                  exact iteFF rfl this
                | true =>
                  refine iteTT rfl ⟨_, rfl, _, rfl, v4, many, d4, rfl, hm3, dq_same sm123 h4, fun H4 sm4 => ?_⟩
                  have := q _ (sm123.trans sm4)
                  rw [c4, Bool.true_and] at this
                  exact this
      · refine iteTT (by rw [hlx]; simp; omega) ?_
        have := q H (Same.refl _)
        have e : dbQ many (.tuple ds) = false := dbQl_len c
        rw [e] at this
        exact this
    | _ => exact iteTT rfl (q _ (Same.refl _))
end
end NG

namespace NG
open PySem PySem.Spec PyProof.Rows L2
section
variable {P : Program} {w : World} {K : PySem.W.Frag} {mg : Str → Option Value} {base : Heap}
theorem ok_Lspan {f : Addr} {fd : FuncData} (F : Fun K "_law_span" "_law_span" s_L_span f fd) (gF : mg "_law_span" = some (.ref f)) (b : Binds K fd ["_law_phrase"] []) (B : Bl mg) : ∀ n, Cal P w K mg base (n + 1) "_law_span" (spSpan K n) := by
  intro n
  induction n with
  | zero =>
    refine cal_never F gF b fun vs H Q E h => ?_
    obtain ⟨_, e, _, _, _, _, hd, _⟩ := h
    cases e <;> (unfold Ex.dep at hd; omega)
  | succ n c_L_span =>
  refine ⟨f, fd, _, F.ok sc_L_span (fun vs H Q E h => ?_) (fun cdv A outer s H vs Q E hr h => ?_), gF, F.kp, b⟩
  · obtain ⟨_, _, _, rfl, _⟩ := h
    rfl
  · obtain ⟨v, e, many, rfl, he, ho, hd, q⟩ := h
    refine ⟨_, (pss_cons (ps_set (i := 1) sc_L_span.nd rfl (.inl rfl) (pe_ix ix_tup (pv 0) pe_int (fun _ _ => rfl))) (pss_cons (ps_if (pt_cmpR op_in_seq (pv 1) (pe_tup (pa_cons pe_str (pa_cons pe_str (pa_cons pe_str pa_nil)))) (by rfl)) (pss_one (ps_ret (pe_dget (hu_of hr) (pe_disp (pps_cons pe_str (pe_tup (pa_cons (pe_ix ix_tup (pv 0) pe_int (fun _ _ => rfl)) (pa_cons (pe_ix ix_tup (pv 0) pe_int (fun _ _ => rfl)) pa_nil))) (pps_cons pe_str (pe_tup (pa_cons (pe_un un_neg pe_int) (pa_cons pe_int pa_nil))) (pps_cons pe_str (pe_tup (pa_cons pe_int (pa_cons pe_int pa_nil))) pps_nil))) (by rfl) (by rfl) (by simp) (by decide)) (pv 1) (fun _ _ => rfl)))) pss_nil) (pss_cons (ps_setLc (i := 2) (own := [("_law_part", 3)]) rfl sc_L_span.nd rfl rfl (sw_true rfl rfl rfl (by decide +kernel)) (pi_tup (pv 0)) (blkOk_by (N := N_L_span) (sc := defScope s_L_span) (by decide +kernel)) (fun _ _ _ _ _ => pg_name (i := 3) sc_L_span.nd rfl (.inl rfl)) (fun _ _ _ _ _ => pts_one (pt_val (pe_callB (isiK K) (by rfl) B.isinstance (by decide +kernel) (pa_cons (pv 3) (pa_cons (pe_bltn (v := .ty "tuple") (by rfl) B.tuple (by decide +kernel) rfl) pa_nil))))) (fun _ _ _ _ _ => pe_c c_L_span hr (by omega) (by rfl) (pa_cons (pv 3) pa_nil))) (pss_cons (ps_asg (pe_ix ix_list (pv 2) pe_int (fun _ _ => rfl)) (pg_tup rfl (pgs_cons (pg_name (i := 4) sc_L_span.nd rfl (.inl rfl)) (pgs_cons (pg_name (i := 5) sc_L_span.nd rfl (.inl rfl)) pgs_nil)))) (pss_cons (ps_if (pt_cmpR op_eq (pv 1) pe_str (nomark _)) (pss_cons (ps_set (i := 6) sc_L_span.nd rfl (.inl rfl) (pe_callB (call_max2 rfl) (by rfl) B.max (by decide +kernel) (pa_cons (pe_callB call_abs (by rfl) B.abs (by decide +kernel) (pa_cons (pv 4) pa_nil)) (pa_cons (pe_callB call_abs (by rfl) B.abs (by decide +kernel) (pa_cons (pv 5) pa_nil)) pa_nil)))) (pss_one (ps_ret (pe_tup (pa_cons (pe_op op_mul (pe_un un_neg pe_int) (pv 6)) (pa_cons (pe_op op_mul pe_int (pv 6)) pa_nil)))))) pss_nil) (pss_cons (ps_if (pt_cmpR op_eq (pv 1) pe_str (nomark _)) (pss_cons (ps_set (i := 7) sc_L_span.nd rfl (.inl rfl) (pe_callB cr_sorted (by rfl) B.sorted (by decide +kernel) (pa_cons (pe_lst (pa_cons (pe_op op_mul (pe_ix ix_tup (pv 0) pe_int (fun _ _ => rfl)) (pv 4)) (pa_cons (pe_op op_mul (pe_ix ix_tup (pv 0) pe_int (fun _ _ => rfl)) (pv 5)) pa_nil))) pa_nil))) (pss_one (ps_ret (pe_tup (pa_cons (pe_ix ix_list (pv 7) pe_int (fun _ _ => rfl)) (pa_cons (pe_ix ix_list (pv 7) pe_int (fun _ _ => rfl)) pa_nil)))))) pss_nil) (pss_cons (ps_set (i := 8) sc_L_span.nd rfl (.inl rfl) (pe_ix ix_list (pv 2) pe_int (fun _ _ => rfl))) (pss_cons (ps_if (pt_cmpR op_in_seq (pv 1) (pe_tup (pa_cons pe_str (pa_cons pe_str pa_nil))) (by rfl)) (pss_one (ps_ret (pe_ifExp (pt_cmpR op_eq (pv 1) pe_str (nomark _)) (pe_tup (pa_cons (pe_op op_add (pv 4) (pe_ix ix_tup (pv 8) pe_int (fun _ _ => rfl))) (pa_cons (pe_op op_add (pv 5) (pe_ix ix_tup (pv 8) pe_int (fun _ _ => rfl))) pa_nil))) (pe_tup (pa_cons (pe_op op_sub (pv 4) (pe_ix ix_tup (pv 8) pe_int (fun _ _ => rfl))) (pa_cons (pe_op op_sub (pv 5) (pe_ix ix_tup (pv 8) pe_int (fun _ _ => rfl))) pa_nil)))))) pss_nil) (pss_cons (ps_if (pt_cmpR op_in_seq (pv 1) (pe_tup (pa_cons pe_str (pa_cons pe_str pa_nil))) (by rfl)) (pss_cons (ps_set (i := 9) sc_L_span.nd rfl (.inl rfl) (pe_lst (pa_cons (pe_callB cr_sorted (by rfl) B.sorted (by decide +kernel) (pa_cons (pe_lst (pa_cons (pv 4) (pa_cons (pe_ix ix_tup (pv 8) pe_int (fun _ _ => rfl)) pa_nil))) pa_nil)) (pa_cons (pe_callB cr_sorted (by rfl) B.sorted (by decide +kernel) (pa_cons (pe_lst (pa_cons (pv 5) (pa_cons (pe_ix ix_tup (pv 8) pe_int (fun _ _ => rfl)) pa_nil))) pa_nil)) pa_nil)))) (pss_one (ps_ret (pe_ifExp (pt_cmpR op_eq (pv 1) pe_str (nomark _)) (pe_tup (pa_cons (pe_ix ix_list (pe_ix ix_list (pv 9) pe_int (fun _ _ => rfl)) pe_int (fun _ _ => rfl)) (pa_cons (pe_ix ix_list (pe_ix ix_list (pv 9) pe_int (fun _ _ => rfl)) pe_int (fun _ _ => rfl)) pa_nil))) (pe_tup (pa_cons (pe_ix ix_list (pe_ix ix_list (pv 9) pe_int (fun _ _ => rfl)) pe_int (fun _ _ => rfl)) (pa_cons (pe_ix ix_list (pe_ix ix_list (pv 9) pe_int (fun _ _ => rfl)) pe_int (fun _ _ => rfl)) pa_nil))))))) pss_nil) (pss_one (ps_ret (pe_tup (pa_cons (pe_callB (call_min2 rfl) (by rfl) B.min (by decide +kernel) (pa_cons (pv 4) (pa_cons (pe_ix ix_tup (pv 8) pe_int (fun _ _ => rfl)) pa_nil))) (pa_cons (pe_callB (call_max2 rfl) (by rfl) B.max (by decide +kernel) (pa_cons (pv 5) (pa_cons (pe_ix ix_tup (pv 8) pe_int (fun _ _ => rfl)) pa_nil))) pa_nil)))))))))))))), ?_⟩
    have two_le : 2 ≤ sizeLine := by decide
    have three_le : 3 ≤ sizeLine := by decide
    obtain ⟨p, xs, rfl, hp, hl0, hits⟩ := he.rst
    refine ⟨.ref p, rfl, p, _, 0, _, rfl, rfl, hp, at_of (j := 0) rfl rfl, ?_⟩
    refine ⟨_, rfl, three_le, fun t nt => ⟨t, _, rfl, .inr (SqT.of upd_same), rfl, rfl, _, rfl, ?_⟩⟩
    have sm0 := same_new (o := .tup [.str "fig", .str "reg", .str "share"]) nt
    generalize upd H t (.tup [.str "fig", .str "reg", .str "share"]) = H0 at sm0
    have hp0 := same_sqt sm0 hp
    have hits0 := hits.imp sm0
    by_cases hleaf : e.kids = []
    · obtain ⟨c, hxs⟩ : ∃ c : Int, xs = [.int c] := by
        cases e with
        | fig c => match xs, hits with | [_], ⟨h, _⟩ => exact ⟨c, by rw [show _ = V.int c from h]⟩
        | reg c => match xs, hits with | [_], ⟨h, _⟩ => exact ⟨c, by rw [show _ = V.int (c : Int) from h]⟩
        | share c => match xs, hits with | [_], ⟨h, _⟩ => exact ⟨c, by rw [show _ = V.int (c : Int) from h]⟩
        | two o a b => cases hleaf
        | times f a => cases hleaf
        | «by» i a => cases hleaf
        | when i c a b => cases hleaf
        | whr i c a b => cases hleaf
      subst hxs
      refine iteTT (by cases e <;> first | rfl | cases hleaf) ?_
      intro pd nd
      have smd := same_new (o := HO.dK []) nd
      have hpd := same_sqt smd hp0
      refine ⟨.ref p, rfl, p, _, 1, _, rfl, rfl, hpd, at_of (j := 1) rfl rfl, .ref p, rfl, p, _, 1, _, rfl, rfl, hpd, at_of (j := 1) rfl rfl, two_le, fun t1 n1 => ⟨_, rfl, two_le, fun t2 n2 => ⟨two_le, fun t3 n3 => ?_⟩⟩⟩
      have f1 : (upd H0 pd (HO.dK [])) pd = some (.dK []) := upd_same
      have f2 := same_new (o := .tup [.int c, .int c]) n1 _ _ f1
      have g2 : (upd (upd H0 pd (HO.dK [])) t1 (.tup [.int c, .int c])) t1 = some (.tup [.int c, .int c]) := upd_same
      have f3 := same_new (o := .tup [.int (-1000), .int 1000]) n2 _ _ f2
      have g3 := same_new (o := .tup [.int (-1000), .int 1000]) n2 _ _ g2
      have k3 : (upd (upd (upd H0 pd (HO.dK [])) t1 (.tup [.int c, .int c])) t2 (.tup [.int (-1000), .int 1000])) t2 = some (.tup [.int (-1000), .int 1000]) := upd_same
      have f4 := same_new (o := .tup [.int 0, .int 1000]) n3 _ _ f3
      have g4 := same_new (o := .tup [.int 0, .int 1000]) n3 _ _ g3
      have k4 := same_new (o := .tup [.int 0, .int 1000]) n3 _ _ k3
      have m4 : (upd (upd (upd (upd H0 pd (HO.dK [])) t1 (.tup [.int c, .int c])) t2 (.tup [.int (-1000), .int 1000])) t3 (.tup [.int 0, .int 1000])) t3 = some (.tup [.int 0, .int 1000]) := upd_same
      have sm4 := ((smd.trans (same_new (o := .tup [.int c, .int c]) n1)).trans (same_new (o := .tup [.int (-1000), .int 1000]) n2)).trans (same_new (o := .tup [.int 0, .int 1000]) n3)
      refine ⟨f4, [(.inr "fig", .ref t1), (.inr "reg", .ref t2), (.inr "share", .ref t3)], rfl, (by show 3 ≤ 15; decide), ?_⟩
      refine ⟨_, rfl, pd, ?_⟩
      generalize hH4 : upd (upd (upd (upd H0 pd (HO.dK [])) t1 (.tup [.int c, .int c])) t2 (.tup [.int (-1000), .int 1000])) t3 (.tup [.int 0, .int 1000]) = H4 at f4 g4 k4 m4 sm4
      have keep : ∀ {a : Addr} {ys : List V} {o : HO}, H4 a = some (.tup ys) → (upd H4 pd o) a = some (.tup ys) := fun h => by rw [upd_ne (ne_of h f4 (by intro z; cases z))]; exact h
      have sm5 : Same H (upd H4 pd (.dK (mergeK [] [(.inr "fig", .ref t1), (.inr "reg", .ref t2), (.inr "share", .ref t3)]))) := fun a o ha => by
        have h0 := sm0 _ _ ha
        rw [upd_ne (ne_of_none h0 nd)]
        exact sm4 _ _ h0
      cases e with
      | fig c' =>
        have hc : c = c' := by cases hits.1; rfl
        subst hc
        exact ⟨.ref t1, rfl, .inl ⟨_, .inr "fig", .inl upd_same, rfl, rfl⟩, q _ _ sm5 ⟨t1, rfl, SqT.of (keep g4)⟩⟩
      | reg i => exact ⟨.ref t2, rfl, .inl ⟨_, .inr "reg", .inl upd_same, rfl, rfl⟩, q _ _ sm5 ⟨t2, rfl, SqT.of (keep k4)⟩⟩
      | share i => exact ⟨.ref t3, rfl, .inl ⟨_, .inr "share", .inl upd_same, rfl, rfl⟩, q _ _ sm5 ⟨t3, rfl, SqT.of (keep m4)⟩⟩
      | two o a b => cases hleaf
      | times f a => cases hleaf
      | «by» i a => cases hleaf
      | when i c a b => cases hleaf
      | whr i c a b => cases hleaf
    · refine iteFF (by cases e with
        | fig c => exact absurd rfl hleaf
        | reg c => exact absurd rfl hleaf
        | share c => exact absurd rfl hleaf
        | two o a b => cases o <;> rfl
        | times f a => rfl
        | «by» i a => rfl
        | when i c a b => rfl
        | whr i c a b => rfl) ?_
      obtain ⟨p', ys, ep, hpy, hits1⟩ := (he.same sm0).its
      cases ep
      refine ⟨.ref p, rfl, p, rfl, ⟨_, hpy⟩, fun D nD => lc_tup (xs := ys) (fun i H' => Same H0 H' ∧ ∃ us, H' D = some (.lst us) ∧ SpsAt K H' us ((kidsI (e.items.take i)).map spn)) ⟨same_new nD, [], upd_same, trivial⟩ (fun i H' _ h => same_sqt h.1 hpy) ?_ ?_⟩
      · rintro i x H2 hx ⟨sm2, us, hD, hus⟩
        obtain ⟨tm, htm, hit⟩ := (hits1.imp sm2).get hx
        obtain ⟨ty, tyx, kk⟩ := isi_item hit
        refine ⟨rfl, ?_⟩
        refine ⟨x, rfl, _, _, _, _, tm.isK, rfl, .ty _, tyx, kk, _, rfl, ?_⟩
        cases tm with
        | s z =>
          refine iteFF rfl ⟨sm2, us, hD, ?_⟩
          rw [kidsI_snoc htm]
          show SpsAt K H2 us (List.map spn (kidsI (List.take i e.items) ++ []))
          rw [List.append_nil]
          exact hus
        | i z =>
          refine iteFF rfl ⟨sm2, us, hD, ?_⟩
          rw [kidsI_snoc htm]
          show SpsAt K H2 us (List.map spn (kidsI (List.take i e.items) ++ []))
          rw [List.append_nil]
          exact hus
        | k k =>
          have hkm : k ∈ e.kids := by
            rw [← kidsI_items]
            exact mem_kidsI (List.mem_of_getElem? htm)
          have hkd := kids_dep e k hkm
          refine iteTT rfl ⟨x, rfl, x, k, many, rfl, hit, kids_ok e k ho hkm, by omega, fun H3 u sm3 hu => ?_⟩
          have hD3 := sm3 _ _ hD
          have hlen := hus.len
          have hkl : us.length ≤ 5 := by
            rw [hlen, List.length_map]
            have h1 : e.items.length ≤ 5 := by cases e <;> simp [Ex.items]
            have h2 : ∀ l : List Itm, (kidsI l).length ≤ l.length := fun l => by
              induction l with
              | nil => exact Nat.le_refl _
              | cons t r ih => cases t <;> simp only [kidsI, List.length_cons] <;> omega
            have h3 := h2 (e.items.take i)
            rw [List.length_take] at h3
            omega
          refine ⟨us, hD3, small1000 (by omega), fun b' o eb => ?_, us ++ [u], upd_same, ?_⟩
          · rw [upd_ne (ne_of_none eb nD)]
            exact sm3 _ _ (sm2 _ _ eb)
          · rw [kidsI_snoc htm, List.map_append]
            refine SpsAt.snoc (s := spn k) (v := u) ?_ ((hus.imp fun _ _ q => same_sqt sm3 q).imp fun _ _ q => put_sqt hD3 q)
            obtain ⟨pu, eu, qu⟩ := hu
            exact ⟨pu, eu, put_sqt hD3 qu⟩
      · rintro H2 ⟨sm2, us, hD, hus⟩
        rw [hits1.len, List.take_length, kidsI_items] at hus
        have sm02 := sm0.trans sm2
        have hp2 := same_sqt sm02 hp
        have he2 := he.same sm02
        clear hits1 hpy nD hits hp hp0 hits0
        obtain ⟨ss, hss⟩ : ∃ ss, ss = (e.kids.map spn) := ⟨_, rfl⟩
        cases e with
        | fig c => exact absurd rfl hleaf
        | reg c => exact absurd rfl hleaf
        | share c => exact absurd rfl hleaf
        | times fa a =>
          obtain ⟨⟨o1, o2⟩, oa⟩ := ho
          obtain ⟨pu, rfl, hu⟩ := hus.one
          obtain ⟨p', x', e', q', _⟩ := he
          cases e'
          have hpf := same_sqt sm02 q'
          refine ⟨.ref D, rfl, D, _, 0, _, rfl, rfl, SqL.of hD, rfl, ?_⟩
          refine ⟨pu, _, rfl, hu, rfl, _, _, rfl, _, _, rfl, rfl, ?_⟩
          refine ⟨_, rfl, rfl, _, rfl, iteFF rfl ⟨_, rfl, rfl, _, rfl, iteTT rfl ?_⟩⟩
          refine ⟨.ref p, rfl, p, _, 1, _, rfl, rfl, hpf, rfl, .int (spn a).1, rfl, fa, (spn a).1, rfl, rfl, .inl ⟨by omega, by omega⟩, ?_⟩
          refine ⟨.ref p, rfl, p, _, 1, _, rfl, rfl, hpf, rfl, .int (spn a).2, rfl, fa, (spn a).2, rfl, rfl, .inl ⟨by omega, by omega⟩, ?_⟩
          refine ⟨two_le, fun D2 nD2 => ⟨D2, [fa * (spn a).1, fa * (spn a).2], rfl, SqL.of upd_same, (by show 2 < 64; decide), fun ns' ps hperm hpw nps => ?_⟩⟩
          rw [sort2 hperm hpw]
          have sm3 := same_new (o := .lst ([fa * (spn a).1, fa * (spn a).2].map V.int)) nD2
          refine ⟨.ref ps, rfl, ps, _, 0, _, rfl, rfl, SqL.of upd_same, rfl, .ref ps, rfl, ps, _, 1, _, rfl, rfl, SqL.of upd_same, rfl, two_le, fun t4 n4 => ?_⟩
          exact q _ _ (sm02.trans (sm3.trans ((same_new nps).trans (same_new n4)))) ⟨t4, rfl, SqT.of upd_same⟩
        | «by» i a =>
          obtain ⟨pu, rfl, hu⟩ := hus.one
          refine ⟨.ref D, rfl, D, _, 0, _, rfl, rfl, SqL.of hD, rfl, ?_⟩
          refine ⟨pu, _, rfl, hu, rfl, _, _, rfl, _, _, rfl, rfl, ?_⟩
          refine ⟨_, rfl, rfl, _, rfl, iteTT rfl ?_⟩
          refine ⟨.int (spn a).1, rfl, _, rfl, .int (spn a).2, rfl, _, rfl, _, _, rfl, ?_⟩
          refine ⟨_, rfl, .int _, rfl, _, _, rfl, rfl, .inl ⟨by decide, by decide⟩, .int _, rfl, _, _, rfl, rfl, .inl ⟨by decide, by decide⟩, two_le, fun t4 n4 => ?_⟩
          exact q _ _ (sm02.trans (same_new n4)) ⟨t4, rfl, SqT.of upd_same⟩
        | two o a b' =>
          obtain ⟨pu, pw, rfl, hu, hw⟩ := hus.pair
          have sD := SqL.of (K := K) hD
          refine ⟨.ref D, rfl, D, _, 0, _, rfl, rfl, SqL.of hD, rfl, ?_⟩
          refine ⟨pu, _, rfl, hu, rfl, _, _, rfl, _, _, rfl, rfl, ?_⟩
          refine ⟨_, rfl, rfl, _, rfl, iteFF (wn_ne (by simp)) ⟨_, rfl, rfl, _, rfl, iteFF (wn_ne (by simp)) ?_⟩⟩
          refine ⟨.ref D, rfl, D, _, 1, _, rfl, rfl, SqL.of hD, rfl, ?_⟩
          refine ⟨_, rfl, two_le, fun t5 n5 => ⟨t5, _, rfl, .inr (SqT.of upd_same), rfl, rfl, _, rfl, ?_⟩⟩
          have sm5 := same_new (o := .tup [.str "sum", .str "less"]) n5
          generalize upd H2 t5 (.tup [.str "sum", .str "less"]) = H5 at sm5
          have hw5 := same_sqt sm5 hw
          have sm05 := sm02.trans sm5
          cases o
          case sum =>
            refine iteTT rfl ⟨_, rfl, rfl, _, rfl, iteTT rfl ?_⟩
            exact ⟨.int _, rfl, .ref pw, rfl, pw, _, 0, _, rfl, rfl, hw5, rfl, _, _, rfl, rfl, .int _, rfl, .ref pw, rfl, pw, _, 1, _, rfl, rfl, hw5, rfl, _, _, rfl, rfl, two_le, fun t4 n4 => q _ _ (sm05.trans (same_new n4)) ⟨t4, rfl, SqT.of upd_same⟩⟩
          case less =>
            refine iteTT rfl ⟨_, rfl, rfl, _, rfl, iteFF rfl ?_⟩
            exact ⟨.int _, rfl, .ref pw, rfl, pw, _, 1, _, rfl, rfl, hw5, rfl, _, _, rfl, rfl, .int _, rfl, .ref pw, rfl, pw, _, 0, _, rfl, rfl, hw5, rfl, _, _, rfl, rfl, two_le, fun t4 n4 => q _ _ (sm05.trans (same_new n4)) ⟨t4, rfl, SqT.of upd_same⟩⟩
          case least =>
            refine iteFF rfl ?_
            refine ⟨_, rfl, two_le, fun t6 n6 => ⟨t6, _, rfl, .inr (SqT.of upd_same), rfl, rfl, _, rfl, iteTT rfl ?_⟩⟩
            have sm6 := same_new (o := .tup [.str "least", .str "most"]) n6
            generalize upd H5 t6 (.tup [.str "least", .str "most"]) = H6 at sm6
            have hw6 := same_sqt sm6 hw5
            have sm06 := sm05.trans sm6
            refine ⟨.int _, rfl, .ref pw, rfl, pw, _, 0, _, rfl, rfl, hw6, rfl, two_le, fun D1 nD1 => ⟨D1, [(spn a).1, (spn b').1], rfl, SqL.of upd_same, (by show 2 < 64; decide), fun ns1 q1 hperm1 hpw1 nq1 => ?_⟩⟩
            rw [sort2 hperm1 hpw1]
            have sm7 := (same_new (o := .lst ([(spn a).1, (spn b').1].map V.int)) nD1).trans (same_new (o := .lst ([mn (spn a).1 (spn b').1, mx (spn a).1 (spn b').1].map V.int)) nq1)
            have hq1 : (upd (upd H6 D1 (.lst ([(spn a).1, (spn b').1].map V.int))) q1 (.lst ([mn (spn a).1 (spn b').1, mx (spn a).1 (spn b').1].map V.int))) q1 = some (.lst ([mn (spn a).1 (spn b').1, mx (spn a).1 (spn b').1].map V.int)) := upd_same
            have hw7 := same_sqt sm7 hw6
            refine ⟨.int _, rfl, .ref pw, rfl, pw, _, 1, _, rfl, rfl, hw7, rfl, two_le, fun D3 nD3 => ⟨D3, [(spn a).2, (spn b').2], rfl, SqL.of upd_same, (by show 2 < 64; decide), fun ns2 q2 hperm2 hpw2 nq2 => ?_⟩⟩
            rw [sort2 hperm2 hpw2]
            have sm8 := (same_new (o := .lst ([(spn a).2, (spn b').2].map V.int)) nD3).trans (same_new (o := .lst ([mn (spn a).2 (spn b').2, mx (spn a).2 (spn b').2].map V.int)) nq2)
            refine ⟨two_le, fun D5 n5 => ?_⟩
            have sm9 := same_new (o := .lst [V.ref q1, V.ref q2]) n5
            have hq1' := sm9 _ _ (sm8 _ _ hq1)
            have hq2 := sm9 _ _ (show (upd _ q2 (.lst ([mn (spn a).2 (spn b').2, mx (spn a).2 (spn b').2].map V.int))) q2 = some (.lst ([mn (spn a).2 (spn b').2, mx (spn a).2 (spn b').2].map V.int)) from upd_same)
            have sm10 := sm06.trans (sm7.trans (sm8.trans sm9))
            refine ⟨_, rfl, rfl, _, rfl, iteTT rfl ?_⟩
            exact ⟨.ref D5, rfl, D5, _, 0, _, rfl, rfl, SqL.of upd_same, rfl, q1, _, 0, _, rfl, rfl, SqL.of hq1', rfl, .ref D5, rfl, D5, _, 1, _, rfl, rfl, SqL.of upd_same, rfl, q2, _, 0, _, rfl, rfl, SqL.of hq2, rfl, two_le, fun t4 n4 => q _ _ (sm10.trans (same_new n4)) ⟨t4, rfl, SqT.of upd_same⟩⟩
          case most =>
            refine iteFF rfl ?_
            refine ⟨_, rfl, two_le, fun t6 n6 => ⟨t6, _, rfl, .inr (SqT.of upd_same), rfl, rfl, _, rfl, iteTT rfl ?_⟩⟩
            have sm6 := same_new (o := .tup [.str "least", .str "most"]) n6
            generalize upd H5 t6 (.tup [.str "least", .str "most"]) = H6 at sm6
            have hw6 := same_sqt sm6 hw5
            have sm06 := sm05.trans sm6
            refine ⟨.int _, rfl, .ref pw, rfl, pw, _, 0, _, rfl, rfl, hw6, rfl, two_le, fun D1 nD1 => ⟨D1, [(spn a).1, (spn b').1], rfl, SqL.of upd_same, (by show 2 < 64; decide), fun ns1 q1 hperm1 hpw1 nq1 => ?_⟩⟩
            rw [sort2 hperm1 hpw1]
            have sm7 := (same_new (o := .lst ([(spn a).1, (spn b').1].map V.int)) nD1).trans (same_new (o := .lst ([mn (spn a).1 (spn b').1, mx (spn a).1 (spn b').1].map V.int)) nq1)
            have hq1 : (upd (upd H6 D1 (.lst ([(spn a).1, (spn b').1].map V.int))) q1 (.lst ([mn (spn a).1 (spn b').1, mx (spn a).1 (spn b').1].map V.int))) q1 = some (.lst ([mn (spn a).1 (spn b').1, mx (spn a).1 (spn b').1].map V.int)) := upd_same
            have hw7 := same_sqt sm7 hw6
            refine ⟨.int _, rfl, .ref pw, rfl, pw, _, 1, _, rfl, rfl, hw7, rfl, two_le, fun D3 nD3 => ⟨D3, [(spn a).2, (spn b').2], rfl, SqL.of upd_same, (by show 2 < 64; decide), fun ns2 q2 hperm2 hpw2 nq2 => ?_⟩⟩
            rw [sort2 hperm2 hpw2]
            have sm8 := (same_new (o := .lst ([(spn a).2, (spn b').2].map V.int)) nD3).trans (same_new (o := .lst ([mn (spn a).2 (spn b').2, mx (spn a).2 (spn b').2].map V.int)) nq2)
            refine ⟨two_le, fun D5 n5 => ?_⟩
            have sm9 := same_new (o := .lst [V.ref q1, V.ref q2]) n5
            have hq1' := sm9 _ _ (sm8 _ _ hq1)
            have hq2 := sm9 _ _ (show (upd _ q2 (.lst ([mn (spn a).2 (spn b').2, mx (spn a).2 (spn b').2].map V.int))) q2 = some (.lst ([mn (spn a).2 (spn b').2, mx (spn a).2 (spn b').2].map V.int)) from upd_same)
            have sm10 := sm06.trans (sm7.trans (sm8.trans sm9))
            refine ⟨_, rfl, rfl, _, rfl, iteFF rfl ?_⟩
            exact ⟨.ref D5, rfl, D5, _, 0, _, rfl, rfl, SqL.of upd_same, rfl, q1, _, 1, _, rfl, rfl, SqL.of hq1', rfl, .ref D5, rfl, D5, _, 1, _, rfl, rfl, SqL.of upd_same, rfl, q2, _, 1, _, rfl, rfl, SqL.of hq2, rfl, two_le, fun t4 n4 => q _ _ (sm10.trans (same_new n4)) ⟨t4, rfl, SqT.of upd_same⟩⟩
        | when i c a b' =>
          obtain ⟨pu, pw, rfl, hu, hw⟩ := hus.pair
          have sD := SqL.of (K := K) hD
          refine ⟨.ref D, rfl, D, _, 0, _, rfl, rfl, SqL.of hD, rfl, ?_⟩
          refine ⟨pu, _, rfl, hu, rfl, _, _, rfl, _, _, rfl, rfl, ?_⟩
          refine ⟨_, rfl, rfl, _, rfl, iteFF rfl ⟨_, rfl, rfl, _, rfl, iteFF rfl ?_⟩⟩
          refine ⟨.ref D, rfl, D, _, 1, _, rfl, rfl, SqL.of hD, rfl, ?_⟩
          refine ⟨_, rfl, two_le, fun t5 n5 => ⟨t5, _, rfl, .inr (SqT.of upd_same), rfl, rfl, _, rfl, iteFF rfl ?_⟩⟩
          have sm5 := same_new (o := .tup [.str "sum", .str "less"]) n5
          generalize upd H2 t5 (.tup [.str "sum", .str "less"]) = H5 at sm5
          refine ⟨_, rfl, two_le, fun t6 n6 => ⟨t6, _, rfl, .inr (SqT.of upd_same), rfl, rfl, _, rfl, iteFF rfl ?_⟩⟩
          have sm6 := same_new (o := .tup [.str "least", .str "most"]) n6
          generalize upd H5 t6 (.tup [.str "least", .str "most"]) = H6 at sm6
          have sm06 := sm02.trans (sm5.trans sm6)
          have hw6 := same_sqt (sm5.trans sm6) hw
          exact ⟨.int _, rfl, .ref pw, rfl, pw, _, 0, _, rfl, rfl, hw6, rfl, _, _, rfl, .int _, rfl, .ref pw, rfl, pw, _, 1, _, rfl, rfl, hw6, rfl, _, _, rfl, two_le, fun t4 n4 => q _ _ (sm06.trans (same_new n4)) ⟨t4, rfl, SqT.of upd_same⟩⟩
        | whr i c a b' =>
          obtain ⟨pu, pw, rfl, hu, hw⟩ := hus.pair
          have sD := SqL.of (K := K) hD
          refine ⟨.ref D, rfl, D, _, 0, _, rfl, rfl, SqL.of hD, rfl, ?_⟩
          refine ⟨pu, _, rfl, hu, rfl, _, _, rfl, _, _, rfl, rfl, ?_⟩
          refine ⟨_, rfl, rfl, _, rfl, iteFF rfl ⟨_, rfl, rfl, _, rfl, iteFF rfl ?_⟩⟩
          refine ⟨.ref D, rfl, D, _, 1, _, rfl, rfl, SqL.of hD, rfl, ?_⟩
          refine ⟨_, rfl, two_le, fun t5 n5 => ⟨t5, _, rfl, .inr (SqT.of upd_same), rfl, rfl, _, rfl, iteFF rfl ?_⟩⟩
          have sm5 := same_new (o := .tup [.str "sum", .str "less"]) n5
          generalize upd H2 t5 (.tup [.str "sum", .str "less"]) = H5 at sm5
          refine ⟨_, rfl, two_le, fun t6 n6 => ⟨t6, _, rfl, .inr (SqT.of upd_same), rfl, rfl, _, rfl, iteFF rfl ?_⟩⟩
          have sm6 := same_new (o := .tup [.str "least", .str "most"]) n6
          generalize upd H5 t6 (.tup [.str "least", .str "most"]) = H6 at sm6
          have sm06 := sm02.trans (sm5.trans sm6)
          have hw6 := same_sqt (sm5.trans sm6) hw
          exact ⟨.int _, rfl, .ref pw, rfl, pw, _, 0, _, rfl, rfl, hw6, rfl, _, _, rfl, .int _, rfl, .ref pw, rfl, pw, _, 1, _, rfl, rfl, hw6, rfl, _, _, rfl, two_le, fun t4 n4 => q _ _ (sm06.trans (same_new n4)) ⟨t4, rfl, SqT.of upd_same⟩⟩
end
end NG

set_option maxHeartbeats 2000000
namespace NG
open PySem PySem.Spec PyProof.Rows L2
/-! ### dicts whose keys are tuples -/
def rInG (neg : Bool) : R2 := fun x y H Q => ∃ a o, y = .ref a ∧ DGet H a x o ∧ Q (.bl (if neg then !o.isSome else o.isSome)) H
theorem op_inG {X : Cx} (hu : X.A.units + 64 < cLine) : OpR X (compareOp .In) (rInG false) := by
  intro pins s σ H x y v u Q I rx ry h
  obtain ⟨a, o, rfl, g, q⟩ := h
  cases ry
  exact d_in (by omega) I g rx fun s' I' => ⟨.bl o.isSome, H, I', rfl, q⟩
theorem op_ninG {X : Cx} (hu : X.A.units + 64 < cLine) : OpR X (compareOp .NotIn) (rInG true) := by
  intro pins s σ H x y v u Q I rx ry h
  obtain ⟨a, o, rfl, g, q⟩ := h
  cases ry
  exact d_notIn (by omega) I g rx fun s' I' => ⟨.bl (!o.isSome), H, I', rfl, q⟩
def mergeT (kvs more : List (List Key × V)) : List (List Key × V) := more.foldl (fun acc kv => putK acc kv.1 kv.2) kvs
theorem KT.merge {H : Hp} : ∀ {more : List (List Key × V)} {ys : List (List Key × Addr × Value)} {kvs : List (List Key × V)} {xs : List (List Key × Addr × Value)}, KT H more ys → KT H kvs xs → KT H (mergeT kvs more) (storedAllH xs ys)
  | _, _, _, _, .nil, r => r
  | _, _, _, _, .cons (a := p) (b := y) h t, r => by
    obtain ⟨h1, h2, h3⟩ := h
    show KT H (mergeT (putK _ p.1 p.2) _) (storedAllH (storedH _ y.1 y.2.1 y.2.2) _)
    rw [← h1]
    exact KT.merge t (r.put p.1 h2 h3)
theorem length_mergeT : ∀ (more kvs : List (List Key × V)), (mergeT kvs more).length ≤ kvs.length + more.length
  | [], kvs => Nat.le_refl _
  | p :: more, kvs => by
    have h1 := length_mergeT more (putK kvs p.1 p.2)
    have h2 := length_putK kvs p.1 p.2
    show (mergeT (putK kvs p.1 p.2) more).length ≤ _
    rw [List.length_cons]
    omega
def rDUpdT (P : Program) (w : World) : V → List V → Hp → VK → Prop := fun x vs H Q => ∃ (a b : Addr) (ka kb : List (List Key × V)), x = .ref a ∧ vs = [.ref b] ∧ a ≠ b ∧ H a = some (.dT ka) ∧ H b = some (.dT kb) ∧ ka.length + kb.length ≤ sizeLine ∧ (ka ≠ [] ∨ (kb.map fun kv => tupleKeyHash (mixKind P w) kv.1).Nodup) ∧ Q .non (upd H a (.dT (mergeT ka kb)))
theorem mt_dupdateT {X : Cx} (hu : X.A.units + 64 < cLine) : MtM X "dict.update" (rDUpdT X.prog X.w) := by
  intro pins s σ H x vs v us Q I rx rv h
  obtain ⟨a, b, ka, kb, rfl, rfl, hab, ha, hb, hz, hn, q⟩ := h
  cases rx
  obtain ⟨u, rfl, ru⟩ := rv.one
  cases ru
  obtain ⟨za, da, va, ra, dda⟩ := dt_of I.hok ha
  obtain ⟨zb, db, vb, rb, ddb⟩ := dt_of I.hok hb
  have l1 : ka.length = va.length := Paired.length ra
  have l2 : kb.length = vb.length := Paired.length rb
  refine PySem.call_update_dictH (knd := tupleKind (mixKind X.prog X.w)) (tupleKind_room_in1 (by omega)) hab db dda ddb ?_ (by omega) fun h' dd' _ hs => ?_
  · rcases hn with hn | hn
    · left
      intro e
      rw [e] at l1
      exact hn (List.eq_nil_of_length_eq_zero l1)
    · right
      have all : ∀ {l : List (List Key × V)} {m : List (List Key × Addr × Value)}, KT H l m → (∀ x ∈ m, s.TypeIs (.ref x.2.1) "tuple") ∧ (m.map fun x => (tupleKind (mixKind X.prog X.w)).hash x.1) = l.map fun kv => tupleKeyHash (mixKind X.prog X.w) kv.1 := by
        intro l m r
        induction r with
        | nil => exact ⟨fun x hx => (nomatch hx), rfl⟩
        | @cons p y ps ys hp t ih =>
          obtain ⟨h1, h2, h3⟩ := hp
          refine ⟨fun x hx => ?_, ?_⟩
          · rcases List.mem_cons.mp hx with e | hx
            · subst e
              obtain ⟨o, _, _, e1, e2, _⟩ := key_of (P := X.prog) (w := X.w) I.hok h2
              exact ⟨o, e1, e2⟩
            · exact ih.1 x hx
          · rw [List.map_cons, List.map_cons, ih.2, ← h1]
            rfl
      obtain ⟨t1, t2⟩ := all rb
      exact ⟨t1, by rw [t2]; exact hn⟩
  · have hl : (mergeT ka kb).length ≤ sizeLine := Nat.le_trans (length_mergeT kb ka) hz
    obtain ⟨o, es, ep, hq, h2, h3, h4, _, h5⟩ := dd'
    refine ⟨.non, _, d_write (t' := s.toks) I (by rw [ha]; exact True.intro) hs ⟨o, hq⟩ (show ObjOk X.prog X.w (upd H a (.dT (mergeT ka kb))) h' a (.dT (mergeT ka kb)) from ⟨hl, da, _, (KT.merge rb ra).keeps fun c ys ec => ?_, o, es, ep, hq, h2, h3, h4, h5⟩), rfl, q⟩
    rw [upd_ne (ne_of ec ha (fun z => nomatch z))]
    exact ec
/-- dict(pairs), its keys tuples -/
def rDictPT (K : PySem.W.Frag) : List V → Hp → VK → Prop := fun xs H Q => ∃ (a : Addr) (ps : List Addr) (kvs : List (List Key × V)), xs = [.ref a] ∧ SqL K H a (ps.map V.ref) ∧ Paired (fun p kv => ∃ b, SqT K H p [.ref b, kv.2] ∧ H b = some (.tup (kv.1.map kV))) ps kvs ∧
    ∀ p, H p = none → Q (.ref p) (upd H p (.dT (mergeT [] kvs)))
theorem pairsT_of {X : Cx} {pins : List (Addr × Obj)} {σ : L2.St} {H : Hp} {s : Shared} (I : L2.Inv X pins σ H s) : ∀ {ps : List Addr} {kvs : List (List Key × V)}, Paired (fun p kv => ∃ b, SqT X.K H p [.ref b, kv.2] ∧ H b = some (.tup (kv.1.map kV))) ps kvs →
    ∃ prs : List (List Key × Addr × Value), KT H kvs prs ∧ prs.length = ps.length ∧ ∀ (j : Nat) (q : List Key × Addr × Value), prs[j]? = some q → ∃ T, ps[j]? = some T ∧ s.heap.IsTuple T #[.ref q.2.1, q.2.2]
  | _, _, .nil => ⟨[], .nil, rfl, fun j q e => by simp at e⟩
  | _, _, .cons (a := p) (b := kv) h t => by
    obtain ⟨prs, r, hl, hp⟩ := pairsT_of I t
    obtain ⟨b, h, hb⟩ := h
    obtain ⟨its, rv, ht, _⟩ := I.tuple h
    obtain ⟨u, y, rfl, ru, ry⟩ := rv.two
    cases ru
    refine ⟨(kv.1, b, y) :: prs, .cons ⟨rfl, hb, ry⟩ r, by rw [List.length_cons, List.length_cons, hl], fun j q e => ?_⟩
    cases j with
    | zero =>
      have e' : (kv.1, b, y) = q := Option.some.inj e
      subst e'
      exact ⟨p, rfl, ht⟩
    | succ j =>
      obtain ⟨T, e1, e2⟩ := hp j q (by simpa using e)
      exact ⟨T, by simpa using e1, e2⟩
theorem call_dictPT {X : Cx} (hcalm : X.calm = true) (hu : X.A.units + 64 < cLine) : CallR X (.type "dict") (rDictPT X.K) := by
  intro pins s σ H xs us Q I r q
  obtain ⟨a, ps, kvs, rfl, hq, hp, q⟩ := q
  obtain ⟨u, rfl, rx⟩ := r.one
  cases rx
  obtain ⟨its, rv, pl, hz⟩ := I.list hq
  have ei := refs_at rv
  subst ei
  rw [List.length_map] at hz
  obtain ⟨prs, rel, hl, hpr⟩ := pairsT_of I hp
  obtain ⟨o, n, ho, hc, hd, hdat⟩ := pl
  have hk : ∀ x ∈ prs, ∃ o, s.heap.get? x.2.1 = some o ∧ ∀ h' : Heap, h'.get? x.2.1 = some o → (tupleKind (mixKind X.prog X.w)).is h' x.1 x.2.1 := by
    have all : ∀ {l : List (List Key × V)} {m : List (List Key × Addr × Value)}, KT H l m → ∀ x ∈ m, ∃ o, s.heap.get? x.2.1 = some o ∧ ∀ h' : Heap, h'.get? x.2.1 = some o → (tupleKind (mixKind X.prog X.w)).is h' x.1 x.2.1 := by
      intro l m r
      induction r with
      | nil => exact fun x hx => nomatch hx
      | @cons p y ps ys hp t ih =>
        intro x hx
        rcases List.mem_cons.mp hx with e | hx
        · subst e
          obtain ⟨h1, h2, h3⟩ := hp
          obtain ⟨o, its, n, e1, e2, e3, e4⟩ := key_of (P := X.prog) (w := X.w) I.hok h2
          exact ⟨o, e1, fun h' e => ⟨o, its, n, e, e2, e3, by rw [← h1]; exact e4⟩⟩
        · exact ih x hx
    exact all rel
  have hm : (s.heap.objs.size == sysModules) = false := beq_eq_false_iff_ne.mpr (Nat.ne_of_gt I.big)
  let pv : List (Value × Value) := prs.map fun q => (Value.ref q.2.1, q.2.2)
  have hpv : pv.length = ps.length := by show (prs.map _).length = _; rw [List.length_map, hl]
  have hat : ∀ {j : Nat} {k v : Value}, pv[j]? = some (k, v) → ∃ q : List Key × Addr × Value, prs[j]? = some q ∧ k = .ref q.2.1 ∧ v = q.2.2 := fun {j k v} e => by
    have e : (prs.map fun q => (Value.ref q.2.1, q.2.2))[j]? = some (k, v) := e
    rw [List.getElem?_map] at e
    obtain ⟨q, hq, e2⟩ := Option.map_eq_some_iff.mp e
    cases e2
    exact ⟨q, hq, rfl, rfl⟩
  refine PySem.call_dict_pairsH (knd := tupleKind (mixKind X.prog X.w)) (ps := prs) (PairArg.list a (ps.map Value.ref).toArray (fun j => ps.getD j 0) pv) (I.ok.hd hcalm) (show X.A.units + 1 + 1 < cLine by omega) ⟨⟨o, n, ho, hc, hd, hdat⟩, ?_, fun j k v e => ?_⟩ ⟨by rw [hpv, hl], fun i key v e => ?_⟩ (fun h' kp x hx => ?_) (by rw [hpv]; exact hz) fun h' tk dd kp => ?_
  · rw [hpv]
    simp
  · obtain ⟨q, hq, rfl, rfl⟩ := hat e
    obtain ⟨T, hT, ht⟩ := hpr j q hq
    refine ⟨?_, .inl ?_⟩
    · rw [List.getElem?_toArray, List.getElem?_map, hT]
      show some (Value.ref T) = some (Value.ref (ps.getD j 0))
      rw [List.getD_eq_getElem?_getD, hT]
      rfl
    · show s.heap.IsTuple (ps.getD j 0) _
      rw [List.getD_eq_getElem?_getD, hT]
      exact ht
  · obtain ⟨q, hq, rfl, rfl⟩ := hat e
    exact ⟨q.1, q.2.1, hq, rfl⟩
  · obtain ⟨o, e1, e2⟩ := hk x hx
    exact e2 h' (kp _ _ (Nat.ne_of_lt (Heap.lt_size e1)) (by simp) e1)
  · have hlen : (mergeT [] kvs).length ≤ sizeLine := by
      refine Nat.le_trans (length_mergeT kvs []) ?_
      rw [List.length_nil, Nat.zero_add, show kvs.length = prs.length from Paired.length rel, hl]
      exact hz
    have hnone := I.hok.fresh (Nat.le_refl s.heap.objs.size)
    obtain ⟨o2, es, ep, hq, h2, h3, h4, _, h5⟩ := dd
    refine ⟨.ref s.heap.objs.size, upd H s.heap.objs.size (.dT (mergeT [] kvs)), I.laid (t' := tk) (fun b o e => kp b o (by simp) e) (Nat.le_refl _) (show ObjOk X.prog X.w _ _ _ (.dT (mergeT [] kvs)) from ⟨hlen, hm, _, (KT.merge rel .nil).keeps fun c ys ec => ?_, o2, es, ep, hq, h2, h3, h4, h5⟩), rfl, q _ hnone⟩
    rw [upd_ne (ne_of_none ec hnone)]
    exact ec
theorem dictPTK {X : Cx} (K : PySem.W.Frag) (hc : X.calm = true) (hu : X.A.units + 64 < cLine) (h : X.K = K := by rfl) : CallR X (.type "dict") (rDictPT K) := by
  subst h
  exact call_dictPT hc hu
theorem catTK {X : Cx} (K : PySem.W.Frag) (h : X.K = K := by rfl) : OpR X (binaryOp .Add) (rCatT K) := by
  subst h
  exact op_catT
theorem ninK {X : Cx} (K : PySem.W.Frag) (h : X.K = K := by rfl) : OpR X (compareOp .NotIn) (rIn K true) := by
  subst h
  exact op_notIn_seq
end NG

namespace NG
open PySem PySem.Spec PyProof.Rows L2
/-! ### the law's own look at expressions -/
def bnL (many : Int) : Kd → Int × Int
  | .sign => (0, many - 1)
  | k => bndE k
theorem fitD_bnL {many : Int} {k : Kd} (h : k ≠ .part) (d : PyData) : fitD many k d = inD (bnL many k).1 (bnL many k).2 d := by
  cases k <;> first | rfl | exact absurd rfl h
/-- what the look counts: as cntE, 99 and more where that's nought -/
def SzOk (c : Nat) (z : Int) : Prop := (0 < c → z = c) ∧ (c = 0 → 99 ≤ z)
def bk : We → List Kd
  | .fig => [.figure]
  | .reg => [.place]
  | .share => [.sign]
  | .two _ => []
  | .times => [.factor]
  | .by => [.place]
  | .when => [.place, .figure]
  | .whr => [.sign, .line]
def np : We → Nat
  | .fig => 0
  | .reg => 0
  | .share => 0
  | .two _ => 2
  | .times => 1
  | .by => 1
  | .when => 2
  | .whr => 2
theorem wsh_bk (x : We) : wsh x = bk x ++ List.replicate (np x) .part := by cases x <;> rfl
theorem bk_np {x : We} {k : Kd} (h : k ∈ bk x) : k ≠ .part := by
  cases x <;> simp only [bk, List.mem_cons, List.not_mem_nil, or_false] at h <;> first | (rcases h with rfl | rfl <;> decide) | (subst h; decide) | exact h.elim
theorem bk_len (x : We) : (bk x).length ≤ 2 := by cases x <;> first | decide | exact Nat.zero_le _
theorem np_le (x : We) : np x ≤ 2 := by cases x <;> first | decide | exact Nat.le_refl 2
theorem fitsD_parts {many : Int} : ∀ {n : Nat} {ds : List PyData}, ds.length = n → fitsD many (List.replicate n .part) ds = true
  | 0, [], _ => rfl
  | n + 1, d :: ds, h => by
    rw [List.replicate_succ]
    show (true && fitsD many (List.replicate n .part) ds) = true
    rw [fitsD_parts (by simpa using h)]
    rfl
theorem fitsD_app {many : Int} {n : Nat} : ∀ {ks : List Kd} {ds : List PyData}, ds.length = ks.length + n → fitsD many (ks ++ List.replicate n .part) ds = fitsD many ks (ds.take ks.length)
  | [], ds, h => by
    rw [List.nil_append, fitsD_parts (by simpa using h), List.length_nil, List.take_zero]
    rfl
  | k :: ks, [], h => by
    rw [List.length_nil, List.length_cons] at h
    omega
  | k :: ks, d :: ds, h => by
    show (fitD many k d && fitsD many (ks ++ List.replicate n .part) ds) = (fitD many k d && fitsD many ks (ds.take ks.length))
    rw [fitsD_app (by rw [List.length_cons, List.length_cons] at h; omega)]
theorem partsD_parts : ∀ {n : Nat} {ds : List PyData}, ds.length = n → partsD (List.replicate n .part) ds = ds
  | 0, [], _ => rfl
  | n + 1, d :: ds, h => by
    rw [List.replicate_succ]
    show d :: partsD (List.replicate n .part) ds = d :: ds
    rw [partsD_parts (by simpa using h)]
theorem partsD_app {n : Nat} : ∀ {ks : List Kd} {ds : List PyData}, (∀ k ∈ ks, k ≠ .part) → ds.length = ks.length + n → partsD (ks ++ List.replicate n .part) ds = ds.drop ks.length
  | [], ds, _, h => by
    rw [List.nil_append, partsD_parts (by simpa using h)]
    rfl
  | k :: ks, [], _, h => by
    rw [List.length_nil, List.length_cons] at h
    omega
  | k :: ks, d :: ds, hk, h => by
    show (if k = .part then d :: partsD (ks ++ List.replicate n .part) ds else partsD (ks ++ List.replicate n .part) ds) = ds.drop ks.length
    rw [if_neg (hk k List.mem_cons_self), partsD_app (fun k h => hk k (List.mem_cons_of_mem _ h)) (by rw [List.length_cons, List.length_cons] at h; omega)]
theorem fitsD_snoc {many : Int} : ∀ {ks : List Kd} {ds : List PyData} {i : Nat} {k : Kd} {d : PyData}, ks[i]? = some k → ds[i]? = some d → fitsD many (ks.take (i + 1)) (ds.take (i + 1)) = (fitsD many (ks.take i) (ds.take i) && fitD many k d)
  | [], _, i, _, _, h, _ => by simp at h
  | _ :: _, [], i, _, _, _, h => by simp at h
  | k0 :: ks, d0 :: ds, 0, k, d, h, h2 => by
    have e1 : k0 = k := Option.some.inj h
    have e2 : d0 = d := Option.some.inj h2
    subst e1 e2
    simp [fitsD]
  | k0 :: ks, d0 :: ds, i + 1, k, d, h, h2 => by
    have ih := fitsD_snoc (many := many) (ks := ks) (ds := ds) (i := i) h h2
    rw [List.take_succ_cons, List.take_succ_cons, List.take_succ_cons, List.take_succ_cons]
    unfold fitsD
    rw [ih, Bool.and_assoc]
theorem fitsD_take {many : Int} : ∀ (i : Nat) {ks : List Kd} {ds : List PyData}, fitsD many ks ds = true → fitsD many (ks.take i) (ds.take i) = true
  | 0, _, _, _ => rfl
  | _ + 1, [], [], _ => rfl
  | i + 1, k :: ks, d :: ds, h => by
    rw [List.take_succ_cons, List.take_succ_cons]
    unfold fitsD at h ⊢
    rw [Bool.and_eq_true] at h ⊢
    exact ⟨h.1, fitsD_take i h.2⟩
  | _ + 1, [], _ :: _, h => by cases h
  | _ + 1, _ :: _, [], h => by cases h
theorem addE_cons (t j : Nat) (l : List Nat) : addE t (j :: l) = if j = 0 then 0 else addE (t + j) l := rfl
/-- the sum of what each part comes to -/
theorem szOk_sum : ∀ {ns : List Nat} {zs : List Int} {t : Nat}, 0 < t → Paired SzOk ns zs → SzOk (addE t ns) ((t : Int) + zs.sum)
  | [], _, t, h, .nil => ⟨fun _ => by show (t : Int) + [].sum = ((addE t [] : Nat) : Int); simp [addE], fun h0 => by have : t = 0 := h0; omega⟩
  | n :: ns, z :: zs, t, h, .cons a b => by
    rw [addE_cons, List.sum_cons]
    have hn : ∀ {ns : List Nat} {zs : List Int}, Paired SzOk ns zs → 0 ≤ zs.sum := by
      intro ns zs p
      induction p with
      | nil => simp
      | @cons n z ns zs a _ ih =>
        rw [List.sum_cons]
        rcases Nat.eq_zero_or_pos n with c | c
        · have := a.2 c
          omega
        · have := a.1 c
          omega
    by_cases c : n = 0
    · rw [if_pos c]
      have := a.2 c
      have := hn b
      exact ⟨fun h => by omega, fun _ => by omega⟩
    · rw [if_neg c]
      have h1 := a.1 (by omega)
      have h2 := szOk_sum (t := t + n) (by omega) b
      rw [show (t : Int) + (z + zs.sum) = ((t + n : Nat) : Int) + zs.sum by omega]
      exact h2
theorem szOk_bad {many : Int} {k : Nat} {d : PyData} (h : hasD many d = false) : SzOk (cntE many (k + 1) d) 99 := by
  rw [cntE_not h]
  exact ⟨fun h => by omega, fun _ => by omega⟩
def HdAt (K : PySem.W.Frag) (H : Hp) (many : Int) (x : We) (t : Addr) : Prop := ∃ l ps, SqT K H t [.ref l, .int (np x : Int)] ∧ SqL K H l (ps.map V.ref) ∧ Paired (fun kd p => SqT K H p [.int (bnL many kd).1, .int (bnL many kd).2]) (bk x) ps
theorem HdAt.same {K : PySem.W.Frag} {H H' : Hp} {many : Int} {x : We} {t : Addr} (s : Same H H') (h : HdAt K H many x t) : HdAt K H' many x t := by
  obtain ⟨l, ps, h1, h2, h3⟩ := h
  refine ⟨l, ps, same_sqt s h1, s.seq h2, ?_⟩
  generalize bk x = ks at h3 ⊢
  clear h2
  induction h3 with
  | nil => exact .nil
  | cons a _ ih => exact .cons (same_sqt s a) ih
def spWhole (K : PySem.W.Frag) : Sp := fun vs H Q _ => ∃ (v : V) (lo hi : Int) (d : PyData), vs = [v, .int lo, .int hi] ∧ Dq K H v d ∧ Q (.bl (inD lo hi d)) H
def spHeads (K : PySem.W.Frag) : Sp := fun vs H Q _ => ∃ (x : Str) (many : Int), vs = [.str x, .int many] ∧ (weOf x = none → ∀ H', Same H H' → Q .non H') ∧ (∀ y, weOf x = some y → ∀ H' t, Same H H' → HdAt K H' many y t → Q (.ref t) H')
def spCnt19 (K : PySem.W.Frag) (n : Nat) : Sp := fun vs H Q _ => ∃ (v : V) (many : Int) (k : Nat) (d : PyData), vs = [v, .int many, .int (9 - (k : Int))] ∧ k < n ∧ k ≤ 8 ∧ Dq K H v d ∧ ∀ H' z, Same H H' → SzOk (cntE many k d) z → Q (.int z) H'
def headsK (u1 u2 u3 u4 u5 u6 u7 : Addr) : List (Key × V) := [(.inr "fig", .ref u1), (.inr "reg", .ref u2), (.inr "share", .ref u3), (.inr "times", .ref u4), (.inr "by", .ref u5), (.inr "when", .ref u6), (.inr "where", .ref u7)]
def pairs4 : List Str := ["sum", "less", "least", "most"]
def headsP (us : List Addr) : List (Key × V) := List.zipWith (fun x u => ((.inr x : Key), V.ref u)) pairs4 us
theorem heads_out {x : Str} {u1 u2 u3 u4 u5 u6 u7 : Addr} {us : List Addr} (h : weOf x = none) : valV (headsK u1 u2 u3 u4 u5 u6 u7 ++ headsP us) (.inr x) = none := by
  unfold valV
  have key : ∀ kv ∈ headsK u1 u2 u3 u4 u5 u6 u7 ++ headsP us, ∃ y : Str, weOf y ≠ none ∧ kv.1 = .inr y := by
    intro kv hm
    rcases List.mem_append.mp hm with hm | hm
    · simp only [headsK, List.mem_cons, List.not_mem_nil, or_false] at hm
      rcases hm with rfl | rfl | rfl | rfl | rfl | rfl | rfl <;> exact ⟨_, by decide, rfl⟩
    · unfold headsP pairs4 at hm
      match us with
      | [] => simp at hm
      | [a] => simp at hm; subst hm; exact ⟨_, by decide, rfl⟩
      | [a, b] => simp at hm; rcases hm with rfl | rfl <;> exact ⟨_, by decide, rfl⟩
      | [a, b, c] => simp at hm; rcases hm with rfl | rfl | rfl <;> exact ⟨_, by decide, rfl⟩
      | a :: b :: c :: d :: _ => simp at hm; rcases hm with rfl | rfl | rfl | rfl <;> exact ⟨_, by decide, rfl⟩
  rw [List.find?_eq_none.mpr fun kv hm => ?_]
  · rfl
  · obtain ⟨y, hy, e⟩ := key kv hm
    intro z
    have z := of_decide_eq_true z
    rw [e] at z
    exact hy (by rw [Sum.inr.inj z]; exact h)
section
variable {P : Program} {w : World} {K : PySem.W.Frag} {mg : Str → Option Value} {base : Heap}
theorem ok_whole {f : Addr} {fd : FuncData} (F : Fun K "_law_whole" "_law_whole" s_L_whole f fd) (gF : mg "_law_whole" = some (.ref f)) (b : Binds K fd ["_law_lump", "_law_low", "_law_high"] []) (B : Bl mg) (n_bool : mg "bool" = none) : Cal P w K mg base 1 "_law_whole" (spWhole K) := by
  refine ⟨f, fd, _, F.ok sc_L_whole (fun vs H Q E h => ?_) (fun cdv A outer s H vs Q E hr h => ?_), gF, F.kp, b⟩
  · obtain ⟨_, _, _, _, rfl, _⟩ := h
    rfl
  · obtain ⟨v, lo, hi, d, rfl, hd, q⟩ := h
    refine ⟨_, (pss_one (ps_ret (pe_and (pe_callB call_isi (by rfl) B.isinstance (by decide +kernel) (pa_cons (pv 0) (pa_cons (pe_bltn (v := .ty "int") (by rfl) B.int (by decide +kernel) rfl) pa_nil))) (pe_and (pe_not (pe_callB call_isi (by rfl) B.isinstance (by decide +kernel) (pa_cons (pv 0) (pa_cons (pe_bltn (v := .ty "bool") (by rfl) n_bool (by decide +kernel) rfl) pa_nil)))) (pe_one (pe_chain op_le op_le (pv 1) (pv 0) (pv 2))))))), ?_⟩
    refine ⟨v, rfl, v, .ty "int", _, _, _, rfl, .ty _, Dq.tyx hd, kit_ty (kit_int d), _, rfl, ?_⟩
    cases hd with
    | int x =>
      refine iteTT rfl ⟨.int x, rfl, .int x, .ty "bool", _, _, _, rfl, .ty _, Dq.tyx (H := H) (K := K) (.int x), kit_ty (kit_bool _), _, rfl, _, rfl, iteTT rfl ?_⟩
      refine ⟨_, rfl, _, rfl, _, _, rfl, rfl, _, rfl, ?_⟩
      have q : Q (.bl (decide (lo ≤ x) && decide (x ≤ hi))) H := q
      by_cases c1 : lo ≤ x
      · rw [decide_eq_true c1, Bool.true_and] at q
        exact iteTT (decide_eq_true c1) ⟨_, rfl, _, _, rfl, rfl, q⟩
      · rw [decide_eq_false c1, Bool.false_and] at q
        exact iteFF (decide_eq_false c1) q
    | bl x => exact iteTT rfl ⟨.bl x, rfl, .bl x, .ty "bool", _, _, _, rfl, .ty _, Dq.tyx (H := H) (K := K) (.bl x), kit_ty (kit_bool _), _, rfl, _, rfl, iteFF rfl q⟩
    | _ => exact iteFF rfl q

theorem ok_heads {f : Addr} {fd : FuncData} (F : Fun K "_law_heads" "_law_heads" s_L_heads f fd) (gF : mg "_law_heads" = some (.ref f)) (b : Binds K fd ["_law_word", "_law_wide"] []) (B : Bl mg) : Cal P w K mg base 1 "_law_heads" (spHeads K) := by
  refine ⟨f, fd, _, F.ok sc_L_heads (fun vs H Q E h => ?_) (fun cdv A outer s H vs Q E hr h => ?_), gF, F.kp, b⟩
  · obtain ⟨_, _, rfl, _⟩ := h
    rfl
  · obtain ⟨x, many, rfl, qn, qs⟩ := h
    refine ⟨_, (pss_cons (ps_par3 (i := 2) (j := 3) (l := 4) rfl sc_L_heads.nd rfl rfl rfl (by decide) (by decide) (by decide) rfl rfl rfl (pa_cons (pe_tup (pa_cons (pe_un un_neg pe_int) (pa_cons pe_int pa_nil))) (pa_cons (pe_tup (pa_cons pe_int (pa_cons pe_int pa_nil))) (pa_cons (pe_tup (pa_cons pe_int (pa_cons (pe_op op_sub (pv 1) pe_int) pa_nil))) pa_nil))) (by rfl)) (pss_cons (ps_set (i := 5) sc_L_heads.nd rfl (.inl rfl) (pe_disp (pps_cons pe_str (pe_tup (pa_cons (pe_lst (pa_cons (pv 2) pa_nil)) (pa_cons pe_int pa_nil))) (pps_cons pe_str (pe_tup (pa_cons (pe_lst (pa_cons (pv 3) pa_nil)) (pa_cons pe_int pa_nil))) (pps_cons pe_str (pe_tup (pa_cons (pe_lst (pa_cons (pv 4) pa_nil)) (pa_cons pe_int pa_nil))) (pps_cons pe_str (pe_tup (pa_cons (pe_lst (pa_cons (pe_tup (pa_cons (pe_un un_neg pe_int) (pa_cons pe_int pa_nil))) pa_nil)) (pa_cons pe_int pa_nil))) pps_nil)))) (by rfl) (by rfl) (by simp) (by decide))) (pss_cons (ps_expr (pe_bm PySem.F.plainAttrs_dict PySem.F.slot_dict_update PySem.F.type_dict_update mt_dupdate (pv 5) (pa_cons (pe_disp (pps_cons pe_str (pe_tup (pa_cons (pe_lst (pa_cons (pv 3) pa_nil)) (pa_cons pe_int pa_nil))) (pps_cons pe_str (pe_tup (pa_cons (pe_lst (pa_cons (pv 3) (pa_cons (pv 2) pa_nil))) (pa_cons pe_int pa_nil))) (pps_cons pe_str (pe_tup (pa_cons (pe_lst (pa_cons (pv 4) (pa_cons (pe_tup (pa_cons pe_int (pa_cons pe_int pa_nil))) pa_nil))) (pa_cons pe_int pa_nil))) pps_nil))) (by rfl) (by rfl) (by simp) (by decide)) pa_nil))) (pss_cons (ps_for PassesOwn.never rfl (pi_tup (pe_tup (pa_cons pe_str (pa_cons pe_str (pa_cons pe_str (pa_cons pe_str pa_nil)))))) (pg_name (i := 6) sc_L_heads.nd rfl (.inl rfl)) (pss_one (ps_dput (hu_of hr) (pv 5) (pv 6) (pe_tup (pa_cons (pe_lst pa_nil) (pa_cons pe_int pa_nil))) (by rfl)))) (pss_one (ps_ret (pe_ifExp (pt_cmpR (op_inG hr.units) (pv 0) (pv 5) (by rfl)) (pe_dget (hu_of hr) (pv 5) (pv 0) (fun _ _ => rfl)) pe_non))))))), ?_⟩
    have two_le : 2 ≤ sizeLine := by decide
    have one_le : 1 ≤ sizeLine := by decide
    refine ⟨_, rfl, two_le, fun t1 n1 => ⟨two_le, fun t2 n2 => ⟨_, rfl, _, _, rfl, rfl, two_le, fun t3 n3 => ?_⟩⟩⟩
    have s1 : Same H (upd (upd (upd H t1 (.tup [.int (-1000), .int 1000])) t2 (.tup [.int 0, .int 3])) t3 (.tup [.int 0, .int (many - 1)])) := ((same_new n1).trans (same_new n2)).trans (same_new n3)
    have f_t1 : (upd (upd (upd H t1 (.tup [.int (-1000), .int 1000])) t2 (.tup [.int 0, .int 3])) t3 (.tup [.int 0, .int (many - 1)])) t1 = some (.tup [.int (-1000), .int 1000]) := same_new n3 _ _ (same_new n2 _ _ upd_same)
    have f_t2 : (upd (upd (upd H t1 (.tup [.int (-1000), .int 1000])) t2 (.tup [.int 0, .int 3])) t3 (.tup [.int 0, .int (many - 1)])) t2 = some (.tup [.int 0, .int 3]) := same_new n3 _ _ upd_same
    have f_t3 : (upd (upd (upd H t1 (.tup [.int (-1000), .int 1000])) t2 (.tup [.int 0, .int 3])) t3 (.tup [.int 0, .int (many - 1)])) t3 = some (.tup [.int 0, .int (many - 1)]) := upd_same
    generalize upd (upd (upd H t1 (.tup [.int (-1000), .int 1000])) t2 (.tup [.int 0, .int 3])) t3 (.tup [.int 0, .int (many - 1)]) = H1 at s1 f_t1 f_t2 f_t3  ⊢
    skip
    refine ⟨_, _, _, rfl, fun pd nd => ?_⟩
    have s2 : Same H1 (upd H1 pd (.dK [])) := same_new nd
    have f_pd : (upd H1 pd (.dK [])) pd = some (.dK []) := upd_same
    have f_t1 := s2 _ _ f_t1
    have f_t2 := s2 _ _ f_t2
    have f_t3 := s2 _ _ f_t3
    generalize upd H1 pd (.dK []) = H2 at s2 f_pd f_t1 f_t2 f_t3 ⊢
    skip
    refine ⟨_, rfl, one_le, fun l1 m1 => ⟨two_le, fun u1 k1 => ?_⟩⟩
    have s3 : Same H2 (upd (upd H2 l1 (.lst [.ref t1])) u1 (.tup [.ref l1, .int 0])) := (same_new m1).trans (same_new k1)
    have f_l1 : (upd (upd H2 l1 (.lst [.ref t1])) u1 (.tup [.ref l1, .int 0])) l1 = some (.lst [.ref t1]) := same_new k1 _ _ upd_same
    have f_u1 : (upd (upd H2 l1 (.lst [.ref t1])) u1 (.tup [.ref l1, .int 0])) u1 = some (.tup [.ref l1, .int 0]) := upd_same
    have f_t1 := s3 _ _ f_t1
    have f_t2 := s3 _ _ f_t2
    have f_t3 := s3 _ _ f_t3
    have f_pd := s3 _ _ f_pd
    generalize upd (upd H2 l1 (.lst [.ref t1])) u1 (.tup [.ref l1, .int 0]) = H3 at s3 f_l1 f_u1 f_t1 f_t2 f_t3 f_pd ⊢
    skip
    refine ⟨_, rfl, one_le, fun l2 m2 => ⟨two_le, fun u2 k2 => ?_⟩⟩
    have s4 : Same H3 (upd (upd H3 l2 (.lst [.ref t2])) u2 (.tup [.ref l2, .int 0])) := (same_new m2).trans (same_new k2)
    have f_l2 : (upd (upd H3 l2 (.lst [.ref t2])) u2 (.tup [.ref l2, .int 0])) l2 = some (.lst [.ref t2]) := same_new k2 _ _ upd_same
    have f_u2 : (upd (upd H3 l2 (.lst [.ref t2])) u2 (.tup [.ref l2, .int 0])) u2 = some (.tup [.ref l2, .int 0]) := upd_same
    have f_t1 := s4 _ _ f_t1
    have f_t2 := s4 _ _ f_t2
    have f_t3 := s4 _ _ f_t3
    have f_pd := s4 _ _ f_pd
    have f_l1 := s4 _ _ f_l1
    have f_u1 := s4 _ _ f_u1
    generalize upd (upd H3 l2 (.lst [.ref t2])) u2 (.tup [.ref l2, .int 0]) = H4 at s4 f_l2 f_u2 f_t1 f_t2 f_t3 f_pd f_l1 f_u1 ⊢
    skip
    refine ⟨_, rfl, one_le, fun l3 m3 => ⟨two_le, fun u3 k3 => ?_⟩⟩
    have s5 : Same H4 (upd (upd H4 l3 (.lst [.ref t3])) u3 (.tup [.ref l3, .int 0])) := (same_new m3).trans (same_new k3)
    have f_l3 : (upd (upd H4 l3 (.lst [.ref t3])) u3 (.tup [.ref l3, .int 0])) l3 = some (.lst [.ref t3]) := same_new k3 _ _ upd_same
    have f_u3 : (upd (upd H4 l3 (.lst [.ref t3])) u3 (.tup [.ref l3, .int 0])) u3 = some (.tup [.ref l3, .int 0]) := upd_same
    have f_t1 := s5 _ _ f_t1
    have f_t2 := s5 _ _ f_t2
    have f_t3 := s5 _ _ f_t3
    have f_pd := s5 _ _ f_pd
    have f_l1 := s5 _ _ f_l1
    have f_u1 := s5 _ _ f_u1
    have f_l2 := s5 _ _ f_l2
    have f_u2 := s5 _ _ f_u2
    generalize upd (upd H4 l3 (.lst [.ref t3])) u3 (.tup [.ref l3, .int 0]) = H5 at s5 f_l3 f_u3 f_t1 f_t2 f_t3 f_pd f_l1 f_u1 f_l2 f_u2 ⊢
    skip
    refine ⟨_, rfl, two_le, fun t4 n4 => ⟨one_le, fun l4 m4 => ⟨two_le, fun u4 k4 => ?_⟩⟩⟩
    have s6 : Same H5 (upd (upd (upd H5 t4 (.tup [.int (-9), .int 9])) l4 (.lst [.ref t4])) u4 (.tup [.ref l4, .int 1])) := ((same_new n4).trans (same_new m4)).trans (same_new k4)
    have f_t4 : (upd (upd (upd H5 t4 (.tup [.int (-9), .int 9])) l4 (.lst [.ref t4])) u4 (.tup [.ref l4, .int 1])) t4 = some (.tup [.int (-9), .int 9]) := same_new k4 _ _ (same_new m4 _ _ upd_same)
    have f_l4 : (upd (upd (upd H5 t4 (.tup [.int (-9), .int 9])) l4 (.lst [.ref t4])) u4 (.tup [.ref l4, .int 1])) l4 = some (.lst [.ref t4]) := same_new k4 _ _ upd_same
    have f_u4 : (upd (upd (upd H5 t4 (.tup [.int (-9), .int 9])) l4 (.lst [.ref t4])) u4 (.tup [.ref l4, .int 1])) u4 = some (.tup [.ref l4, .int 1]) := upd_same
    have f_t1 := s6 _ _ f_t1
    have f_t2 := s6 _ _ f_t2
    have f_t3 := s6 _ _ f_t3
    have f_pd := s6 _ _ f_pd
    have f_l1 := s6 _ _ f_l1
    have f_u1 := s6 _ _ f_u1
    have f_l2 := s6 _ _ f_l2
    have f_u2 := s6 _ _ f_u2
    have f_l3 := s6 _ _ f_l3
    have f_u3 := s6 _ _ f_u3
    generalize upd (upd (upd H5 t4 (.tup [.int (-9), .int 9])) l4 (.lst [.ref t4])) u4 (.tup [.ref l4, .int 1]) = H6 at s6 f_t4 f_l4 f_u4 f_t1 f_t2 f_t3 f_pd f_l1 f_u1 f_l2 f_u2 f_l3 f_u3 ⊢
    skip
    refine ⟨f_pd, [(.inr "fig", .ref u1), (.inr "reg", .ref u2), (.inr "share", .ref u3), (.inr "times", .ref u4)], rfl, (by show 4 ≤ 15; decide), ?_⟩
    have f_t1 : (upd H6 pd (.dK (mergeK [] [(.inr "fig", .ref u1), (.inr "reg", .ref u2), (.inr "share", .ref u3), (.inr "times", .ref u4)]))) t1 = some (.tup [.int (-1000), .int 1000]) := (upd_ne (ne_of f_t1 f_pd (by intro z; cases z))).trans f_t1
    have f_t2 : (upd H6 pd (.dK (mergeK [] [(.inr "fig", .ref u1), (.inr "reg", .ref u2), (.inr "share", .ref u3), (.inr "times", .ref u4)]))) t2 = some (.tup [.int 0, .int 3]) := (upd_ne (ne_of f_t2 f_pd (by intro z; cases z))).trans f_t2
    have f_t3 : (upd H6 pd (.dK (mergeK [] [(.inr "fig", .ref u1), (.inr "reg", .ref u2), (.inr "share", .ref u3), (.inr "times", .ref u4)]))) t3 = some (.tup [.int 0, .int (many - 1)]) := (upd_ne (ne_of f_t3 f_pd (by intro z; cases z))).trans f_t3
    have f_l1 : (upd H6 pd (.dK (mergeK [] [(.inr "fig", .ref u1), (.inr "reg", .ref u2), (.inr "share", .ref u3), (.inr "times", .ref u4)]))) l1 = some (.lst [.ref t1]) := (upd_ne (ne_of f_l1 f_pd (by intro z; cases z))).trans f_l1
    have f_u1 : (upd H6 pd (.dK (mergeK [] [(.inr "fig", .ref u1), (.inr "reg", .ref u2), (.inr "share", .ref u3), (.inr "times", .ref u4)]))) u1 = some (.tup [.ref l1, .int 0]) := (upd_ne (ne_of f_u1 f_pd (by intro z; cases z))).trans f_u1
    have f_l2 : (upd H6 pd (.dK (mergeK [] [(.inr "fig", .ref u1), (.inr "reg", .ref u2), (.inr "share", .ref u3), (.inr "times", .ref u4)]))) l2 = some (.lst [.ref t2]) := (upd_ne (ne_of f_l2 f_pd (by intro z; cases z))).trans f_l2
    have f_u2 : (upd H6 pd (.dK (mergeK [] [(.inr "fig", .ref u1), (.inr "reg", .ref u2), (.inr "share", .ref u3), (.inr "times", .ref u4)]))) u2 = some (.tup [.ref l2, .int 0]) := (upd_ne (ne_of f_u2 f_pd (by intro z; cases z))).trans f_u2
    have f_l3 : (upd H6 pd (.dK (mergeK [] [(.inr "fig", .ref u1), (.inr "reg", .ref u2), (.inr "share", .ref u3), (.inr "times", .ref u4)]))) l3 = some (.lst [.ref t3]) := (upd_ne (ne_of f_l3 f_pd (by intro z; cases z))).trans f_l3
    have f_u3 : (upd H6 pd (.dK (mergeK [] [(.inr "fig", .ref u1), (.inr "reg", .ref u2), (.inr "share", .ref u3), (.inr "times", .ref u4)]))) u3 = some (.tup [.ref l3, .int 0]) := (upd_ne (ne_of f_u3 f_pd (by intro z; cases z))).trans f_u3
    have f_t4 : (upd H6 pd (.dK (mergeK [] [(.inr "fig", .ref u1), (.inr "reg", .ref u2), (.inr "share", .ref u3), (.inr "times", .ref u4)]))) t4 = some (.tup [.int (-9), .int 9]) := (upd_ne (ne_of f_t4 f_pd (by intro z; cases z))).trans f_t4
    have f_l4 : (upd H6 pd (.dK (mergeK [] [(.inr "fig", .ref u1), (.inr "reg", .ref u2), (.inr "share", .ref u3), (.inr "times", .ref u4)]))) l4 = some (.lst [.ref t4]) := (upd_ne (ne_of f_l4 f_pd (by intro z; cases z))).trans f_l4
    have f_u4 : (upd H6 pd (.dK (mergeK [] [(.inr "fig", .ref u1), (.inr "reg", .ref u2), (.inr "share", .ref u3), (.inr "times", .ref u4)]))) u4 = some (.tup [.ref l4, .int 1]) := (upd_ne (ne_of f_u4 f_pd (by intro z; cases z))).trans f_u4
    have sp7 : ∀ b o, b ≠ pd → H6 b = some o → (upd H6 pd (.dK (mergeK [] [(.inr "fig", .ref u1), (.inr "reg", .ref u2), (.inr "share", .ref u3), (.inr "times", .ref u4)]))) b = some o := fun b o nb e => (upd_ne nb).trans e
    have f_pd : (upd H6 pd (.dK (mergeK [] [(.inr "fig", .ref u1), (.inr "reg", .ref u2), (.inr "share", .ref u3), (.inr "times", .ref u4)]))) pd = some (.dK (mergeK [] [(.inr "fig", .ref u1), (.inr "reg", .ref u2), (.inr "share", .ref u3), (.inr "times", .ref u4)])) := upd_same
    generalize upd H6 pd (.dK (mergeK [] [(.inr "fig", .ref u1), (.inr "reg", .ref u2), (.inr "share", .ref u3), (.inr "times", .ref u4)])) = H7 at sp7 f_pd f_t1 f_t2 f_t3 f_l1 f_u1 f_l2 f_u2 f_l3 f_u3 f_t4 f_l4 f_u4 ⊢
    refine ⟨.ref pd, rfl, .inr (.inr (.inl ⟨rfl, .inl ⟨_, f_pd⟩⟩)), fun p2 np2 => ?_⟩
    have s8 : Same H7 (upd H7 p2 (.dK [])) := same_new np2
    have f_p2 : (upd H7 p2 (.dK [])) p2 = some (.dK []) := upd_same
    have f_t1 := s8 _ _ f_t1
    have f_t2 := s8 _ _ f_t2
    have f_t3 := s8 _ _ f_t3
    have f_pd := s8 _ _ f_pd
    have f_l1 := s8 _ _ f_l1
    have f_u1 := s8 _ _ f_u1
    have f_l2 := s8 _ _ f_l2
    have f_u2 := s8 _ _ f_u2
    have f_l3 := s8 _ _ f_l3
    have f_u3 := s8 _ _ f_u3
    have f_t4 := s8 _ _ f_t4
    have f_l4 := s8 _ _ f_l4
    have f_u4 := s8 _ _ f_u4
    generalize upd H7 p2 (.dK []) = H8 at s8 f_p2 f_t1 f_t2 f_t3 f_pd f_l1 f_u1 f_l2 f_u2 f_l3 f_u3 f_t4 f_l4 f_u4 ⊢
    skip
    refine ⟨_, rfl, one_le, fun l5 m5 => ⟨two_le, fun u5 k5 => ?_⟩⟩
    have s9 : Same H8 (upd (upd H8 l5 (.lst [.ref t2])) u5 (.tup [.ref l5, .int 1])) := (same_new m5).trans (same_new k5)
    have f_l5 : (upd (upd H8 l5 (.lst [.ref t2])) u5 (.tup [.ref l5, .int 1])) l5 = some (.lst [.ref t2]) := same_new k5 _ _ upd_same
    have f_u5 : (upd (upd H8 l5 (.lst [.ref t2])) u5 (.tup [.ref l5, .int 1])) u5 = some (.tup [.ref l5, .int 1]) := upd_same
    have f_t1 := s9 _ _ f_t1
    have f_t2 := s9 _ _ f_t2
    have f_t3 := s9 _ _ f_t3
    have f_pd := s9 _ _ f_pd
    have f_l1 := s9 _ _ f_l1
    have f_u1 := s9 _ _ f_u1
    have f_l2 := s9 _ _ f_l2
    have f_u2 := s9 _ _ f_u2
    have f_l3 := s9 _ _ f_l3
    have f_u3 := s9 _ _ f_u3
    have f_t4 := s9 _ _ f_t4
    have f_l4 := s9 _ _ f_l4
    have f_u4 := s9 _ _ f_u4
    have f_p2 := s9 _ _ f_p2
    generalize upd (upd H8 l5 (.lst [.ref t2])) u5 (.tup [.ref l5, .int 1]) = H9 at s9 f_l5 f_u5 f_t1 f_t2 f_t3 f_pd f_l1 f_u1 f_l2 f_u2 f_l3 f_u3 f_t4 f_l4 f_u4 f_p2 ⊢
    skip
    refine ⟨_, rfl, _, rfl, two_le, fun l6 m6 => ⟨two_le, fun u6 k6 => ?_⟩⟩
    have s10 : Same H9 (upd (upd H9 l6 (.lst [.ref t2, .ref t1])) u6 (.tup [.ref l6, .int 2])) := (same_new m6).trans (same_new k6)
    have f_l6 : (upd (upd H9 l6 (.lst [.ref t2, .ref t1])) u6 (.tup [.ref l6, .int 2])) l6 = some (.lst [.ref t2, .ref t1]) := same_new k6 _ _ upd_same
    have f_u6 : (upd (upd H9 l6 (.lst [.ref t2, .ref t1])) u6 (.tup [.ref l6, .int 2])) u6 = some (.tup [.ref l6, .int 2]) := upd_same
    have f_t1 := s10 _ _ f_t1
    have f_t2 := s10 _ _ f_t2
    have f_t3 := s10 _ _ f_t3
    have f_pd := s10 _ _ f_pd
    have f_l1 := s10 _ _ f_l1
    have f_u1 := s10 _ _ f_u1
    have f_l2 := s10 _ _ f_l2
    have f_u2 := s10 _ _ f_u2
    have f_l3 := s10 _ _ f_l3
    have f_u3 := s10 _ _ f_u3
    have f_t4 := s10 _ _ f_t4
    have f_l4 := s10 _ _ f_l4
    have f_u4 := s10 _ _ f_u4
    have f_p2 := s10 _ _ f_p2
    have f_l5 := s10 _ _ f_l5
    have f_u5 := s10 _ _ f_u5
    generalize upd (upd H9 l6 (.lst [.ref t2, .ref t1])) u6 (.tup [.ref l6, .int 2]) = H10 at s10 f_l6 f_u6 f_t1 f_t2 f_t3 f_pd f_l1 f_u1 f_l2 f_u2 f_l3 f_u3 f_t4 f_l4 f_u4 f_p2 f_l5 f_u5 ⊢
    skip
    refine ⟨_, rfl, two_le, fun t7 n7 => ⟨two_le, fun l7 m7 => ⟨two_le, fun u7 k7 => ?_⟩⟩⟩
    have s11 : Same H10 (upd (upd (upd H10 t7 (.tup [.int 1, .int 1000])) l7 (.lst [.ref t3, .ref t7])) u7 (.tup [.ref l7, .int 2])) := ((same_new n7).trans (same_new m7)).trans (same_new k7)
    have f_t7 : (upd (upd (upd H10 t7 (.tup [.int 1, .int 1000])) l7 (.lst [.ref t3, .ref t7])) u7 (.tup [.ref l7, .int 2])) t7 = some (.tup [.int 1, .int 1000]) := same_new k7 _ _ (same_new m7 _ _ upd_same)
    have f_l7 : (upd (upd (upd H10 t7 (.tup [.int 1, .int 1000])) l7 (.lst [.ref t3, .ref t7])) u7 (.tup [.ref l7, .int 2])) l7 = some (.lst [.ref t3, .ref t7]) := same_new k7 _ _ upd_same
    have f_u7 : (upd (upd (upd H10 t7 (.tup [.int 1, .int 1000])) l7 (.lst [.ref t3, .ref t7])) u7 (.tup [.ref l7, .int 2])) u7 = some (.tup [.ref l7, .int 2]) := upd_same
    have f_t1 := s11 _ _ f_t1
    have f_t2 := s11 _ _ f_t2
    have f_t3 := s11 _ _ f_t3
    have f_pd := s11 _ _ f_pd
    have f_l1 := s11 _ _ f_l1
    have f_u1 := s11 _ _ f_u1
    have f_l2 := s11 _ _ f_l2
    have f_u2 := s11 _ _ f_u2
    have f_l3 := s11 _ _ f_l3
    have f_u3 := s11 _ _ f_u3
    have f_t4 := s11 _ _ f_t4
    have f_l4 := s11 _ _ f_l4
    have f_u4 := s11 _ _ f_u4
    have f_p2 := s11 _ _ f_p2
    have f_l5 := s11 _ _ f_l5
    have f_u5 := s11 _ _ f_u5
    have f_l6 := s11 _ _ f_l6
    have f_u6 := s11 _ _ f_u6
    generalize upd (upd (upd H10 t7 (.tup [.int 1, .int 1000])) l7 (.lst [.ref t3, .ref t7])) u7 (.tup [.ref l7, .int 2]) = H11 at s11 f_t7 f_l7 f_u7 f_t1 f_t2 f_t3 f_pd f_l1 f_u1 f_l2 f_u2 f_l3 f_u3 f_t4 f_l4 f_u4 f_p2 f_l5 f_u5 f_l6 f_u6 ⊢
    skip
    refine ⟨f_p2, [(.inr "by", .ref u5), (.inr "when", .ref u6), (.inr "where", .ref u7)], rfl, (by show 3 ≤ 15; decide), ?_⟩
    have hpp : pd ≠ p2 := fun e => by rw [e] at f_pd; rw [f_p2] at f_pd; cases f_pd
    have f_t1 : (upd H11 p2 (.dK (mergeK [] [(.inr "by", .ref u5), (.inr "when", .ref u6), (.inr "where", .ref u7)]))) t1 = some (.tup [.int (-1000), .int 1000]) := (upd_ne (ne_of f_t1 f_p2 (by intro z; cases z))).trans f_t1
    have f_t2 : (upd H11 p2 (.dK (mergeK [] [(.inr "by", .ref u5), (.inr "when", .ref u6), (.inr "where", .ref u7)]))) t2 = some (.tup [.int 0, .int 3]) := (upd_ne (ne_of f_t2 f_p2 (by intro z; cases z))).trans f_t2
    have f_t3 : (upd H11 p2 (.dK (mergeK [] [(.inr "by", .ref u5), (.inr "when", .ref u6), (.inr "where", .ref u7)]))) t3 = some (.tup [.int 0, .int (many - 1)]) := (upd_ne (ne_of f_t3 f_p2 (by intro z; cases z))).trans f_t3
    have f_pd : (upd H11 p2 (.dK (mergeK [] [(.inr "by", .ref u5), (.inr "when", .ref u6), (.inr "where", .ref u7)]))) pd = some (.dK (mergeK [] [(.inr "fig", .ref u1), (.inr "reg", .ref u2), (.inr "share", .ref u3), (.inr "times", .ref u4)])) := (upd_ne hpp).trans f_pd
    have f_l1 : (upd H11 p2 (.dK (mergeK [] [(.inr "by", .ref u5), (.inr "when", .ref u6), (.inr "where", .ref u7)]))) l1 = some (.lst [.ref t1]) := (upd_ne (ne_of f_l1 f_p2 (by intro z; cases z))).trans f_l1
    have f_u1 : (upd H11 p2 (.dK (mergeK [] [(.inr "by", .ref u5), (.inr "when", .ref u6), (.inr "where", .ref u7)]))) u1 = some (.tup [.ref l1, .int 0]) := (upd_ne (ne_of f_u1 f_p2 (by intro z; cases z))).trans f_u1
    have f_l2 : (upd H11 p2 (.dK (mergeK [] [(.inr "by", .ref u5), (.inr "when", .ref u6), (.inr "where", .ref u7)]))) l2 = some (.lst [.ref t2]) := (upd_ne (ne_of f_l2 f_p2 (by intro z; cases z))).trans f_l2
    have f_u2 : (upd H11 p2 (.dK (mergeK [] [(.inr "by", .ref u5), (.inr "when", .ref u6), (.inr "where", .ref u7)]))) u2 = some (.tup [.ref l2, .int 0]) := (upd_ne (ne_of f_u2 f_p2 (by intro z; cases z))).trans f_u2
    have f_l3 : (upd H11 p2 (.dK (mergeK [] [(.inr "by", .ref u5), (.inr "when", .ref u6), (.inr "where", .ref u7)]))) l3 = some (.lst [.ref t3]) := (upd_ne (ne_of f_l3 f_p2 (by intro z; cases z))).trans f_l3
    have f_u3 : (upd H11 p2 (.dK (mergeK [] [(.inr "by", .ref u5), (.inr "when", .ref u6), (.inr "where", .ref u7)]))) u3 = some (.tup [.ref l3, .int 0]) := (upd_ne (ne_of f_u3 f_p2 (by intro z; cases z))).trans f_u3
    have f_t4 : (upd H11 p2 (.dK (mergeK [] [(.inr "by", .ref u5), (.inr "when", .ref u6), (.inr "where", .ref u7)]))) t4 = some (.tup [.int (-9), .int 9]) := (upd_ne (ne_of f_t4 f_p2 (by intro z; cases z))).trans f_t4
    have f_l4 : (upd H11 p2 (.dK (mergeK [] [(.inr "by", .ref u5), (.inr "when", .ref u6), (.inr "where", .ref u7)]))) l4 = some (.lst [.ref t4]) := (upd_ne (ne_of f_l4 f_p2 (by intro z; cases z))).trans f_l4
    have f_u4 : (upd H11 p2 (.dK (mergeK [] [(.inr "by", .ref u5), (.inr "when", .ref u6), (.inr "where", .ref u7)]))) u4 = some (.tup [.ref l4, .int 1]) := (upd_ne (ne_of f_u4 f_p2 (by intro z; cases z))).trans f_u4
    have f_l5 : (upd H11 p2 (.dK (mergeK [] [(.inr "by", .ref u5), (.inr "when", .ref u6), (.inr "where", .ref u7)]))) l5 = some (.lst [.ref t2]) := (upd_ne (ne_of f_l5 f_p2 (by intro z; cases z))).trans f_l5
    have f_u5 : (upd H11 p2 (.dK (mergeK [] [(.inr "by", .ref u5), (.inr "when", .ref u6), (.inr "where", .ref u7)]))) u5 = some (.tup [.ref l5, .int 1]) := (upd_ne (ne_of f_u5 f_p2 (by intro z; cases z))).trans f_u5
    have f_l6 : (upd H11 p2 (.dK (mergeK [] [(.inr "by", .ref u5), (.inr "when", .ref u6), (.inr "where", .ref u7)]))) l6 = some (.lst [.ref t2, .ref t1]) := (upd_ne (ne_of f_l6 f_p2 (by intro z; cases z))).trans f_l6
    have f_u6 : (upd H11 p2 (.dK (mergeK [] [(.inr "by", .ref u5), (.inr "when", .ref u6), (.inr "where", .ref u7)]))) u6 = some (.tup [.ref l6, .int 2]) := (upd_ne (ne_of f_u6 f_p2 (by intro z; cases z))).trans f_u6
    have f_t7 : (upd H11 p2 (.dK (mergeK [] [(.inr "by", .ref u5), (.inr "when", .ref u6), (.inr "where", .ref u7)]))) t7 = some (.tup [.int 1, .int 1000]) := (upd_ne (ne_of f_t7 f_p2 (by intro z; cases z))).trans f_t7
    have f_l7 : (upd H11 p2 (.dK (mergeK [] [(.inr "by", .ref u5), (.inr "when", .ref u6), (.inr "where", .ref u7)]))) l7 = some (.lst [.ref t3, .ref t7]) := (upd_ne (ne_of f_l7 f_p2 (by intro z; cases z))).trans f_l7
    have f_u7 : (upd H11 p2 (.dK (mergeK [] [(.inr "by", .ref u5), (.inr "when", .ref u6), (.inr "where", .ref u7)]))) u7 = some (.tup [.ref l7, .int 2]) := (upd_ne (ne_of f_u7 f_p2 (by intro z; cases z))).trans f_u7
    have s12 : ∀ b o, b ≠ p2 → H11 b = some o → (upd H11 p2 (.dK (mergeK [] [(.inr "by", .ref u5), (.inr "when", .ref u6), (.inr "where", .ref u7)]))) b = some o := fun b o nb e => (upd_ne nb).trans e
    have f_p2 : (upd H11 p2 (.dK (mergeK [] [(.inr "by", .ref u5), (.inr "when", .ref u6), (.inr "where", .ref u7)]))) p2 = some (.dK [(.inr "by", .ref u5), (.inr "when", .ref u6), (.inr "where", .ref u7)]) := by rw [upd_same]; rfl
    generalize upd H11 p2 (.dK (mergeK [] [(.inr "by", .ref u5), (.inr "when", .ref u6), (.inr "where", .ref u7)])) = H12 at s12 f_p2 f_t1 f_t2 f_t3 f_pd f_l1 f_u1 f_l2 f_u2 f_l3 f_u3 f_t4 f_l4 f_u4 f_l5 f_u5 f_l6 f_u6 f_t7 f_l7 f_u7 ⊢
    refine ⟨pd, p2, _, _, rfl, rfl, hpp, f_pd, f_p2, (by show 4 + 3 ≤ sizeLine; decide), ?_⟩
    have f_t1 : (upd H12 pd (.dK (mergeK (mergeK [] [(.inr "fig", .ref u1), (.inr "reg", .ref u2), (.inr "share", .ref u3), (.inr "times", .ref u4)]) [(.inr "by", .ref u5), (.inr "when", .ref u6), (.inr "where", .ref u7)]))) t1 = some (.tup [.int (-1000), .int 1000]) := (upd_ne (ne_of f_t1 f_pd (by intro z; cases z))).trans f_t1
    have f_t2 : (upd H12 pd (.dK (mergeK (mergeK [] [(.inr "fig", .ref u1), (.inr "reg", .ref u2), (.inr "share", .ref u3), (.inr "times", .ref u4)]) [(.inr "by", .ref u5), (.inr "when", .ref u6), (.inr "where", .ref u7)]))) t2 = some (.tup [.int 0, .int 3]) := (upd_ne (ne_of f_t2 f_pd (by intro z; cases z))).trans f_t2
    have f_t3 : (upd H12 pd (.dK (mergeK (mergeK [] [(.inr "fig", .ref u1), (.inr "reg", .ref u2), (.inr "share", .ref u3), (.inr "times", .ref u4)]) [(.inr "by", .ref u5), (.inr "when", .ref u6), (.inr "where", .ref u7)]))) t3 = some (.tup [.int 0, .int (many - 1)]) := (upd_ne (ne_of f_t3 f_pd (by intro z; cases z))).trans f_t3
    have f_l1 : (upd H12 pd (.dK (mergeK (mergeK [] [(.inr "fig", .ref u1), (.inr "reg", .ref u2), (.inr "share", .ref u3), (.inr "times", .ref u4)]) [(.inr "by", .ref u5), (.inr "when", .ref u6), (.inr "where", .ref u7)]))) l1 = some (.lst [.ref t1]) := (upd_ne (ne_of f_l1 f_pd (by intro z; cases z))).trans f_l1
    have f_u1 : (upd H12 pd (.dK (mergeK (mergeK [] [(.inr "fig", .ref u1), (.inr "reg", .ref u2), (.inr "share", .ref u3), (.inr "times", .ref u4)]) [(.inr "by", .ref u5), (.inr "when", .ref u6), (.inr "where", .ref u7)]))) u1 = some (.tup [.ref l1, .int 0]) := (upd_ne (ne_of f_u1 f_pd (by intro z; cases z))).trans f_u1
    have f_l2 : (upd H12 pd (.dK (mergeK (mergeK [] [(.inr "fig", .ref u1), (.inr "reg", .ref u2), (.inr "share", .ref u3), (.inr "times", .ref u4)]) [(.inr "by", .ref u5), (.inr "when", .ref u6), (.inr "where", .ref u7)]))) l2 = some (.lst [.ref t2]) := (upd_ne (ne_of f_l2 f_pd (by intro z; cases z))).trans f_l2
    have f_u2 : (upd H12 pd (.dK (mergeK (mergeK [] [(.inr "fig", .ref u1), (.inr "reg", .ref u2), (.inr "share", .ref u3), (.inr "times", .ref u4)]) [(.inr "by", .ref u5), (.inr "when", .ref u6), (.inr "where", .ref u7)]))) u2 = some (.tup [.ref l2, .int 0]) := (upd_ne (ne_of f_u2 f_pd (by intro z; cases z))).trans f_u2
    have f_l3 : (upd H12 pd (.dK (mergeK (mergeK [] [(.inr "fig", .ref u1), (.inr "reg", .ref u2), (.inr "share", .ref u3), (.inr "times", .ref u4)]) [(.inr "by", .ref u5), (.inr "when", .ref u6), (.inr "where", .ref u7)]))) l3 = some (.lst [.ref t3]) := (upd_ne (ne_of f_l3 f_pd (by intro z; cases z))).trans f_l3
    have f_u3 : (upd H12 pd (.dK (mergeK (mergeK [] [(.inr "fig", .ref u1), (.inr "reg", .ref u2), (.inr "share", .ref u3), (.inr "times", .ref u4)]) [(.inr "by", .ref u5), (.inr "when", .ref u6), (.inr "where", .ref u7)]))) u3 = some (.tup [.ref l3, .int 0]) := (upd_ne (ne_of f_u3 f_pd (by intro z; cases z))).trans f_u3
    have f_t4 : (upd H12 pd (.dK (mergeK (mergeK [] [(.inr "fig", .ref u1), (.inr "reg", .ref u2), (.inr "share", .ref u3), (.inr "times", .ref u4)]) [(.inr "by", .ref u5), (.inr "when", .ref u6), (.inr "where", .ref u7)]))) t4 = some (.tup [.int (-9), .int 9]) := (upd_ne (ne_of f_t4 f_pd (by intro z; cases z))).trans f_t4
    have f_l4 : (upd H12 pd (.dK (mergeK (mergeK [] [(.inr "fig", .ref u1), (.inr "reg", .ref u2), (.inr "share", .ref u3), (.inr "times", .ref u4)]) [(.inr "by", .ref u5), (.inr "when", .ref u6), (.inr "where", .ref u7)]))) l4 = some (.lst [.ref t4]) := (upd_ne (ne_of f_l4 f_pd (by intro z; cases z))).trans f_l4
    have f_u4 : (upd H12 pd (.dK (mergeK (mergeK [] [(.inr "fig", .ref u1), (.inr "reg", .ref u2), (.inr "share", .ref u3), (.inr "times", .ref u4)]) [(.inr "by", .ref u5), (.inr "when", .ref u6), (.inr "where", .ref u7)]))) u4 = some (.tup [.ref l4, .int 1]) := (upd_ne (ne_of f_u4 f_pd (by intro z; cases z))).trans f_u4
    have f_l5 : (upd H12 pd (.dK (mergeK (mergeK [] [(.inr "fig", .ref u1), (.inr "reg", .ref u2), (.inr "share", .ref u3), (.inr "times", .ref u4)]) [(.inr "by", .ref u5), (.inr "when", .ref u6), (.inr "where", .ref u7)]))) l5 = some (.lst [.ref t2]) := (upd_ne (ne_of f_l5 f_pd (by intro z; cases z))).trans f_l5
    have f_u5 : (upd H12 pd (.dK (mergeK (mergeK [] [(.inr "fig", .ref u1), (.inr "reg", .ref u2), (.inr "share", .ref u3), (.inr "times", .ref u4)]) [(.inr "by", .ref u5), (.inr "when", .ref u6), (.inr "where", .ref u7)]))) u5 = some (.tup [.ref l5, .int 1]) := (upd_ne (ne_of f_u5 f_pd (by intro z; cases z))).trans f_u5
    have f_l6 : (upd H12 pd (.dK (mergeK (mergeK [] [(.inr "fig", .ref u1), (.inr "reg", .ref u2), (.inr "share", .ref u3), (.inr "times", .ref u4)]) [(.inr "by", .ref u5), (.inr "when", .ref u6), (.inr "where", .ref u7)]))) l6 = some (.lst [.ref t2, .ref t1]) := (upd_ne (ne_of f_l6 f_pd (by intro z; cases z))).trans f_l6
    have f_u6 : (upd H12 pd (.dK (mergeK (mergeK [] [(.inr "fig", .ref u1), (.inr "reg", .ref u2), (.inr "share", .ref u3), (.inr "times", .ref u4)]) [(.inr "by", .ref u5), (.inr "when", .ref u6), (.inr "where", .ref u7)]))) u6 = some (.tup [.ref l6, .int 2]) := (upd_ne (ne_of f_u6 f_pd (by intro z; cases z))).trans f_u6
    have f_t7 : (upd H12 pd (.dK (mergeK (mergeK [] [(.inr "fig", .ref u1), (.inr "reg", .ref u2), (.inr "share", .ref u3), (.inr "times", .ref u4)]) [(.inr "by", .ref u5), (.inr "when", .ref u6), (.inr "where", .ref u7)]))) t7 = some (.tup [.int 1, .int 1000]) := (upd_ne (ne_of f_t7 f_pd (by intro z; cases z))).trans f_t7
    have f_l7 : (upd H12 pd (.dK (mergeK (mergeK [] [(.inr "fig", .ref u1), (.inr "reg", .ref u2), (.inr "share", .ref u3), (.inr "times", .ref u4)]) [(.inr "by", .ref u5), (.inr "when", .ref u6), (.inr "where", .ref u7)]))) l7 = some (.lst [.ref t3, .ref t7]) := (upd_ne (ne_of f_l7 f_pd (by intro z; cases z))).trans f_l7
    have f_u7 : (upd H12 pd (.dK (mergeK (mergeK [] [(.inr "fig", .ref u1), (.inr "reg", .ref u2), (.inr "share", .ref u3), (.inr "times", .ref u4)]) [(.inr "by", .ref u5), (.inr "when", .ref u6), (.inr "where", .ref u7)]))) u7 = some (.tup [.ref l7, .int 2]) := (upd_ne (ne_of f_u7 f_pd (by intro z; cases z))).trans f_u7
    have s13 : ∀ b o, b ≠ pd → H12 b = some o → (upd H12 pd (.dK (mergeK (mergeK [] [(.inr "fig", .ref u1), (.inr "reg", .ref u2), (.inr "share", .ref u3), (.inr "times", .ref u4)]) [(.inr "by", .ref u5), (.inr "when", .ref u6), (.inr "where", .ref u7)]))) b = some o := fun b o nb e => (upd_ne nb).trans e
    have f_pd : (upd H12 pd (.dK (mergeK (mergeK [] [(.inr "fig", .ref u1), (.inr "reg", .ref u2), (.inr "share", .ref u3), (.inr "times", .ref u4)]) [(.inr "by", .ref u5), (.inr "when", .ref u6), (.inr "where", .ref u7)]))) pd = some (.dK (headsK u1 u2 u3 u4 u5 u6 u7)) := by rw [upd_same]; rfl
    generalize upd H12 pd (.dK (mergeK (mergeK [] [(.inr "fig", .ref u1), (.inr "reg", .ref u2), (.inr "share", .ref u3), (.inr "times", .ref u4)]) [(.inr "by", .ref u5), (.inr "when", .ref u6), (.inr "where", .ref u7)])) = H13 at s13 f_pd f_t1 f_t2 f_t3 f_l1 f_u1 f_l2 f_u2 f_l3 f_u3 f_t4 f_l4 f_u4 f_l5 f_u5 f_l6 f_u6 f_t7 f_l7 f_u7 ⊢
    have sAll : Same H H13 := fun b o e => by
      have e1 := s1 b o e
      have b1 : b ≠ pd := ne_of_none e1 nd
      have e6 := s6 _ _ (s5 _ _ (s4 _ _ (s3 _ _ (s2 _ _ e1))))
      have e7 := sp7 b o b1 e6
      have b2 : b ≠ p2 := ne_of_none e7 np2
      have e11 := s11 _ _ (s10 _ _ (s9 _ _ (s8 _ _ e7)))
      have e12 := s12 b o b2 e11
      exact s13 b o b1 e12
    refine ⟨(by show 4 ≤ sizeLine; decide), fun tq ntq => ?_⟩
    have s14 : Same H13 (upd H13 tq (.tup [.str "sum", .str "less", .str "least", .str "most"])) := same_new ntq
    have f_tq : (upd H13 tq (.tup [.str "sum", .str "less", .str "least", .str "most"])) tq = some (.tup [.str "sum", .str "less", .str "least", .str "most"]) := upd_same
    have f_t1 := s14 _ _ f_t1
    have f_t2 := s14 _ _ f_t2
    have f_t3 := s14 _ _ f_t3
    have f_pd := s14 _ _ f_pd
    have f_l1 := s14 _ _ f_l1
    have f_u1 := s14 _ _ f_u1
    have f_l2 := s14 _ _ f_l2
    have f_u2 := s14 _ _ f_u2
    have f_l3 := s14 _ _ f_l3
    have f_u3 := s14 _ _ f_u3
    have f_t4 := s14 _ _ f_t4
    have f_l4 := s14 _ _ f_l4
    have f_u4 := s14 _ _ f_u4
    have f_l5 := s14 _ _ f_l5
    have f_u5 := s14 _ _ f_u5
    have f_l6 := s14 _ _ f_l6
    have f_u6 := s14 _ _ f_u6
    have f_t7 := s14 _ _ f_t7
    have f_l7 := s14 _ _ f_l7
    have f_u7 := s14 _ _ f_u7
    generalize upd H13 tq (.tup [.str "sum", .str "less", .str "least", .str "most"]) = H14 at s14 f_tq f_t1 f_t2 f_t3 f_pd f_l1 f_u1 f_l2 f_u2 f_l3 f_u3 f_t4 f_l4 f_u4 f_l5 f_u5 f_l6 f_u6 f_t7 f_l7 f_u7 ⊢
    skip
    have sH : Same H H14 := sAll.trans s14
    have npdH : ∀ {b : Addr} {o : HO}, H b = some o → b ≠ pd := fun e => ne_of_none (s1 _ _ e) nd
    clear sAll s1 s2 s3 s4 s5 s6 sp7 s8 s9 s10 s11 s12 s13 s14
    have ntp : tq ≠ pd := ne_of f_tq f_pd (by intro z; cases z)
    refine ⟨tq, rfl, ⟨_, SqT.of f_tq⟩, ?_⟩
    refine for_tup (K := K) (xs := pairs4.map V.str) (fun i σ H' => ∃ (us : List Addr) (y6 : Option V), σ = [some (.str x), some (.int many), some (.ref t1), some (.ref t2), some (.ref t3), some (.ref pd), y6] ∧ But pd H14 H' ∧ H' pd = some (.dK (headsK u1 u2 u3 u4 u5 u6 u7 ++ headsP us)) ∧ us.length = i ∧ ∀ u ∈ us, ∃ l, H' u = some (.tup [.ref l, .int 2]) ∧ H' l = some (.lst [])) ⟨[], none, rfl, But.refl _ _, f_pd, rfl, fun _ h => by cases h⟩ (fun i σ H' _ h => by obtain ⟨_, _, _, b, _⟩ := h; exact SqT.of (b _ _ ntp f_tq)) ?_ ?_
    · rintro i y σ Ha hy ⟨us, y6, rfl, ba, hpd, hul, hus⟩
      rw [List.getElem?_map] at hy
      obtain ⟨nm, hnm, rfl⟩ := Option.map_eq_some_iff.mp hy
      have hi4 : i < 4 := (List.getElem?_eq_some_iff.mp hnm).1
      refine ⟨(by show 0 ≤ sizeLine; decide), fun l nl => ⟨two_le, fun u nu => ?_⟩⟩
      have sa : Same Ha (upd (upd Ha l (.lst [])) u (.tup [.ref l, .int 2])) := (same_new nl).trans (same_new nu)
      have fu : (upd (upd Ha l (.lst [])) u (.tup [.ref l, .int 2])) u = some (.tup [.ref l, .int 2]) := upd_same
      have fl : (upd (upd Ha l (.lst [])) u (.tup [.ref l, .int 2])) l = some (.lst []) := same_new nu _ _ upd_same
      generalize upd (upd Ha l (.lst [])) u (.tup [.ref l, .int 2]) = Hb at sa fu fl ⊢
      have hpdb := sa _ _ hpd
      have el : putK (headsK u1 u2 u3 u4 u5 u6 u7 ++ headsP us) (.inr nm) (.ref u) = headsK u1 u2 u3 u4 u5 u6 u7 ++ headsP (us ++ [u]) := by
        match i, us, hul, hnm with
        | 0, [], _, h => cases h; rfl
        | 1, [a], _, h => cases h; rfl
        | 2, [a, b], _, h => cases h; rfl
        | 3, [a, b, c], _, h => cases h; rfl
      have hll : (headsK u1 u2 u3 u4 u5 u6 u7 ++ headsP us).length ≤ 11 := by
        rw [List.length_append]
        unfold headsP
        rw [List.length_zipWith]
        show 7 + min 4 us.length ≤ 11
        omega
      refine ⟨.ref pd, rfl, .str nm, rfl, pd, _, rfl, DPut.k (k := .inr nm) hpdb (Nat.lt_of_le_of_lt hll (by decide)), ?_⟩
      have keep : ∀ {b : Addr} {o : HO}, b ≠ pd → Hb b = some o → (upd Hb pd (.dK (putK (headsK u1 u2 u3 u4 u5 u6 u7 ++ headsP us) (.inr nm) (.ref u)))) b = some o := fun nb e => (upd_ne nb).trans e
      refine ⟨us ++ [u], _, rfl, fun b o nb e => keep nb (sa _ _ (ba _ _ nb e)), by rw [upd_same, el], by rw [List.length_append, hul]; rfl, fun v hv => ?_⟩
      rcases List.mem_append.mp hv with hv | hv
      · obtain ⟨l', e1, e2⟩ := hus v hv
        have e1 := sa _ _ e1
        have e2 := sa _ _ e2
        exact ⟨l', keep (ne_of e1 hpdb (by intro z; cases z)) e1, keep (ne_of e2 hpdb (by intro z; cases z)) e2⟩
      · rw [List.mem_singleton.mp hv]
        exact ⟨l, keep (ne_of fu hpdb (by intro z; cases z)) fu, keep (ne_of fl hpdb (by intro z; cases z)) fl⟩
    · rintro σ Ha ⟨us, y6, rfl, ba, hpd, hul, hus⟩
      have sa : Same H Ha := fun b o e => ba _ _ (npdH e) (sH _ _ e)
      have at' : ∀ {b : Addr} {o : HO}, H14 b = some o → (∀ kvs, o ≠ .dK kvs) → Ha b = some o := fun {b o} e no => ba _ _ (fun z => by rw [z, f_pd] at e; exact no _ (Option.some.inj e).symm) e
      refine ⟨.str x, rfl, .ref pd, rfl, pd, valV (headsK u1 u2 u3 u4 u5 u6 u7 ++ headsP us) (.inr x), rfl, DGet.k (k := .inr x) hpd, _, rfl, ?_⟩
      cases hx : weOf x with
      | none =>
        rw [heads_out hx]
        exact iteFF rfl (qn hx _ sa)
      | some y =>
        have ex := weOf_eq hx
        subst ex
        have key : ∃ t, valV (headsK u1 u2 u3 u4 u5 u6 u7 ++ headsP us) (.inr (wen y)) = some (.ref t) ∧ HdAt K Ha many y t := by
          have g : ∀ {b : Addr} {xs : List V}, H14 b = some (.tup xs) → SqT K Ha b xs := fun e => SqT.of (at' e (fun _ z => by cases z))
          have gl : ∀ {b : Addr} {xs : List V}, H14 b = some (.lst xs) → SqL K Ha b xs := fun e => SqL.of (at' e (fun _ z => by cases z))
          match us, hul, hus with
          | [a1, a2, a3, a4], _, hus =>
            cases y with
            | fig => exact ⟨u1, rfl, l1, [t1], g f_u1, gl f_l1, .cons (g f_t1) .nil⟩
            | reg => exact ⟨u2, rfl, l2, [t2], g f_u2, gl f_l2, .cons (g f_t2) .nil⟩
            | share => exact ⟨u3, rfl, l3, [t3], g f_u3, gl f_l3, .cons (g f_t3) .nil⟩
            | times => exact ⟨u4, rfl, l4, [t4], g f_u4, gl f_l4, .cons (g f_t4) .nil⟩
            | «by» => exact ⟨u5, rfl, l5, [t2], g f_u5, gl f_l5, .cons (g f_t2) .nil⟩
            | when => exact ⟨u6, rfl, l6, [t2, t1], g f_u6, gl f_l6, .cons (g f_t2) (.cons (g f_t1) .nil)⟩
            | whr => exact ⟨u7, rfl, l7, [t3, t7], g f_u7, gl f_l7, .cons (g f_t3) (.cons (g f_t7) .nil)⟩
            | two o =>
              have got : ∀ {a}, a ∈ [a1, a2, a3, a4] → HdAt K Ha many (.two o) a := fun h => by
                obtain ⟨l', e1, e2⟩ := hus _ h
                exact ⟨l', [], SqT.of e1, SqL.of e2, .nil⟩
              cases o with
              | sum => exact ⟨a1, rfl, got (by simp)⟩
              | less => exact ⟨a2, rfl, got (by simp)⟩
              | least => exact ⟨a3, rfl, got (by simp)⟩
              | most => exact ⟨a4, rfl, got (by simp)⟩
        obtain ⟨t, ev, ht⟩ := key
        rw [ev]
        exact iteTT rfl ⟨.ref pd, rfl, .str (wen y), rfl, pd, .ref t, rfl, by rw [← ev]; exact DGet.k (k := .inr (wen y)) hpd, qs y hx _ _ sa ht⟩
end
end NG

namespace NG
open PySem PySem.Spec PyProof.Rows L2
theorem paired_get2 {α β : Type} {F : α → β → Prop} : ∀ {l : List α} {m : List β} {i : Nat} {x : α}, Paired F l m → l[i]? = some x → ∃ y, m[i]? = some y ∧ F x y
  | [], _, _, _, .nil, h => by simp at h
  | a :: l, b :: m, 0, x, .cons h t, e => by
    have := Option.some.inj e
    subst this
    exact ⟨b, rfl, h⟩
  | a :: l, b :: m, i + 1, x, .cons h t, e => paired_get2 (i := i) t e
theorem paired_len {α β : Type} {F : α → β → Prop} : ∀ {l : List α} {m : List β}, Paired F l m → l.length = m.length
  | _, _, .nil => rfl
  | _, _, .cons _ t => by rw [List.length_cons, List.length_cons, paired_len t]
theorem hasD_wen {many : Int} {y : We} {ds : List PyData} : hasD many (.tuple (.str (wen y) :: ds)) = fitsD many (wsh y) ds := by
  unfold hasD
  simp only [weOf_wen]
theorem wsh_len2 (y : We) : (wsh y).length = (bk y).length + np y := by rw [wsh_bk, List.length_append, List.length_replicate]
section
variable {P : Program} {w : World} {K : PySem.W.Frag} {mg : Str → Option Value} {base : Heap}
theorem ok_count {f : Addr} {fd : FuncData} (F : Fun K "_law_count" "_law_count" s_L_count f fd) (gF : mg "_law_count" = some (.ref f)) (b : Binds K fd ["_law_lump", "_law_wide", "_law_deep"] []) (B : Bl mg) (c_L_whole : Cal P w K mg base 1 "_law_whole" (spWhole K)) (c_L_heads : Cal P w K mg base 1 "_law_heads" (spHeads K)) : ∀ n, Cal P w K mg base (n + 2) "_law_count" (spCnt19 K n)
  | 0 => cal_never F gF b fun vs H Q E => by rintro ⟨_, _, k, _, _, hk, _⟩; omega
  | n + 1 => by
    have c_L_count := ok_count F gF b B c_L_whole c_L_heads n
    refine ⟨f, fd, _, F.ok sc_L_count (fun vs H Q E h => ?_) (fun cdv A outer s H vs Q E hr h => ?_), gF, F.kp, b⟩
    · obtain ⟨_, _, _, _, rfl, _⟩ := h
      rfl
    · obtain ⟨v, many, k, d, rfl, hk, hk8, hd, q⟩ := h
      refine ⟨_, (pss_cons (ps_if (PW.pt (pw_or (pt_cmpR op_gt (pv 2) pe_int (nomark _)) (pw_or (pt_not (pt_val (pe_callB call_isi (by rfl) B.isinstance (by decide +kernel) (pa_cons (pv 0) (pa_cons (pe_bltn (v := .ty "tuple") (by rfl) B.tuple (by decide +kernel) rfl) pa_nil))))) (pw_or (pt_cmpR (op_eqE hr.units) (pv 0) (pe_tup pa_nil) (nomark _)) (pw_or1 (pt_not (pt_val (pe_callB call_isi (by rfl) B.isinstance (by decide +kernel) (pa_cons (pe_ix ix_tup (pv 0) pe_int (fun _ _ => rfl)) (pa_cons (pe_bltn (v := .ty "str") (by rfl) B.str (by decide +kernel) rfl) pa_nil)))))))))) (pss_one (ps_ret pe_int)) pss_nil) (pss_cons (ps_set (i := 3) sc_L_count.nd rfl (.inl rfl) (pe_c c_L_heads hr (by omega) (by rfl) (pa_cons (pe_ix ix_tup (pv 0) pe_int (fun _ _ => rfl)) (pa_cons (pv 1) pa_nil)))) (pss_cons (ps_if (PW.pt (pw_or (pt_cmpR op_isN (pv 3) pe_non (nomark _)) (pw_or1 (pt_cmpR op_ne (pe_callB call_len_seq (by rfl) B.len PySem.boot_len (pa_cons (pv 0) pa_nil)) (pe_op op_add (pe_op op_add pe_int (pe_callB call_len_seq (by rfl) B.len PySem.boot_len (pa_cons (pe_ix ix_tup (pv 3) pe_int (fun _ _ => rfl)) pa_nil))) (pe_ix ix_tup (pv 3) pe_int (fun _ _ => rfl))) (nomark _))))) (pss_one (ps_ret pe_int)) pss_nil) (pss_cons (ps_for PassesOwn.never rfl (pi_zipTL (by rfl) B.zip (pa_cons (pe_slice sl_tupA (pv 0) (po_some pe_int) po_none) (pa_cons (pe_ix ix_tup (pv 3) pe_int (fun _ _ => rfl)) pa_nil))) (pg_tup rfl (pgs_cons (pg_name (i := 4) sc_L_count.nd rfl (.inl rfl)) (pgs_cons (pg_tup rfl (pgs_cons (pg_name (i := 5) sc_L_count.nd rfl (.inl rfl)) (pgs_cons (pg_name (i := 6) sc_L_count.nd rfl (.inl rfl)) pgs_nil))) pgs_nil))) (pss_one (ps_if (pt_not (pt_val (pe_c c_L_whole hr (by omega) (by rfl) (pa_cons (pv 4) (pa_cons (pv 5) (pa_cons (pv 6) pa_nil)))))) (pss_one (ps_ret pe_int)) pss_nil))) (pss_one (ps_ret (pe_op op_add pe_int (pe_callB (cr_sum rfl) (by rfl) B.sum (by decide +kernel) (pa_cons (pe_lc (own := [("_law_part", 7)]) rfl sc_L_count.nd (pi_tup (pe_slice sl_tupA (pv 0) (po_some (pe_op op_add pe_int (pe_callB call_len_seq (by rfl) B.len PySem.boot_len (pa_cons (pe_ix ix_tup (pv 3) pe_int (fun _ _ => rfl)) pa_nil)))) po_none)) (blkOk_by (N := N_L_count) (sc := defScope s_L_count) (by decide +kernel)) (fun _ _ _ _ _ => pg_name (i := 7) sc_L_count.nd rfl (.inl rfl)) (fun _ _ _ _ _ => pts_nil) (fun _ _ _ _ _ => pe_c c_L_count hr (by omega) (by rfl) (pa_cons (pv 7) (pa_cons (pv 1) (pa_cons (pe_op op_add (pv 2) pe_int) pa_nil))))) pa_nil))))))))), ?_⟩
      cases k with
      | zero =>
        refine ⟨_, rfl, _, _, rfl, rfl, _, rfl, iteTT rfl (iteTT rfl ?_)⟩
        exact q _ 99 (Same.refl _) ⟨fun h => by exact absurd h (by unfold cntE; omega), fun _ => by omega⟩
      | succ k =>
        refine ⟨_, rfl, _, _, rfl, rfl, _, rfl, iteFF (decide_eq_false (by omega)) ?_⟩
        have hno : wdV d = .non → hasD many d = false := hasD_non
        cases hkt : kT d with
        | false =>
          refine ⟨v, rfl, v, .ty "tuple", _, _, false, rfl, .ty _, Dq.tyx hd, kit_ty (by rw [kit_tup, hkt]), _, rfl, iteTT rfl (iteTT rfl ?_)⟩
          exact q _ 99 (Same.refl _) (szOk_bad (hno (by cases d <;> first | rfl | cases hkt)))
        | true =>
          cases hd with
          | tup hp ha =>
            rename_i p xs0 ds0
            refine ⟨.ref p, rfl, .ref p, .ty "tuple", _, _, true, rfl, .ty _, tyx_tup hp, kit_ty (show kitB "tuple" "tuple" = some true by decide +kernel), true, rfl, iteFF rfl ?_⟩
            refine ⟨.ref p, rfl, (by show 0 ≤ sizeLine; decide), fun t0 nt0 => ⟨p, t0, xs0, rfl, rfl, same_sqt (same_new nt0) hp, SqT.of upd_same, _, rfl, ?_⟩⟩
            have s1 : Same H (upd H t0 (.tup [])) := same_new nt0
            generalize upd H t0 (.tup []) = H1 at s1 ⊢
            cases ha with
            | nil => exact iteTT rfl (iteTT rfl (q _ 99 s1 (szOk_bad rfl)))
            | cons hx hds =>
              rename_i y xs d0 ds
              refine iteFF rfl ?_
              have hp1 := same_sqt s1 hp
              refine ⟨.ref p, rfl, p, _, 0, _, rfl, rfl, hp1, at_of (j := 0) rfl rfl, y, .ty "str", _, _, _, rfl, .ty _, Dq.tyx (dq_same s1 hx), kit_ty (kit_str d0), _, rfl, ?_⟩
              cases hx with
              | str x =>
                refine iteFF rfl ?_
                refine ⟨.ref p, rfl, p, _, 0, _, rfl, rfl, hp1, at_of (j := 0) rfl rfl, .int many, rfl, x, many, rfl, fun hn H2 s2 => ?_, fun y hy H2 t s2 ht => ?_⟩
                · have hb : hasD many (.tuple (.str x :: ds)) = false := by
                    unfold hasD
                    simp only [hn]
                  exact ⟨_, rfl, rfl, _, rfl, iteTT rfl (iteTT rfl (q _ 99 (s1.trans s2) (szOk_bad hb)))⟩
                · have ex := weOf_eq hy
                  subst ex
                  have hp2 := same_sqt s2 hp1
                  obtain ⟨l, ps, hT, hL, hP⟩ := ht
                  have hlx := dqall_len hds
                  have hpl := paired_len hP
                  have s12 := s1.trans s2
                  refine ⟨_, rfl, rfl, _, rfl, iteFF rfl ?_⟩
                  refine ⟨.ref p, rfl, p, _, rfl, .inr hp2, .ref t, rfl, t, _, 0, _, rfl, rfl, hT, at_of (j := 0) rfl rfl, l, _, rfl, .inl hL, _, _, rfl, rfl, .ref t, rfl, t, _, 1, _, rfl, rfl, hT, at_of (j := 1) rfl rfl, _, _, rfl, rfl, rfl, _, rfl, ?_⟩
                  by_cases cl : ds.length = (bk y).length + np y
                  · refine iteFF (by rw [List.length_cons, hlx, cl, List.length_map, ← hpl]; simp; omega) ?_
                    refine ⟨.ref p, rfl, 1, rfl, ?_⟩
                    dsimp only [tNoPart]
                    refine slA hp2 fun H4 c4 s4 hc4 => ?_
                    rw [cutT1] at hc4
                    have s14 := s12.trans s4
                    have hT4 := same_sqt s4 hT
                    have hL4 := s4.seq hL
                    have hds4 := dqall_same s14 hds
                    have hfit : fitsD many (wsh y) ds = fitsD many (bk y) (ds.take (bk y).length) := by rw [wsh_bk, fitsD_app cl]
                    refine ⟨.ref t, rfl, t, _, 0, _, rfl, rfl, hT4, at_of (j := 0) rfl rfl, c4, l, xs, _, rfl, hc4, hL4, ?_⟩
                    refine for_it (D := { nx := _, rt := Q }) (walk_TLm (us := xs) (ws := ps.map V.ref) (n := (bk y).length) (by rw [List.length_map]; omega)) (fun i σ H' => ∃ y4 y5 y6 : Option V, σ = [some (.ref p), some (.int many), some (.int (9 - ((k + 1 : Nat) : Int))), some (.ref t), y4, y5, y6, none] ∧ Same H4 H' ∧ fitsD many ((bk y).take i) (ds.take i) = true) ⟨none, none, none, rfl, Same.refl _, rfl⟩ (fun i σ H' _ h => by obtain ⟨_, _, _, _, sm, _⟩ := h; exact ⟨same_sqt sm hc4, sm.seq hL4⟩) ?_ ?_
                    · rintro i x0 σ H5 H5' hi ⟨y4, y5, y6, rfl, s5, hf⟩ ⟨T, u, v, rfl, nT, rfl, hu, hv⟩
                      have hu : xs[i]? = some u := hu
                      have hv : (ps.map V.ref)[i]? = some v := hv
                      obtain ⟨kd, hkd⟩ : ∃ kd, (bk y)[i]? = some kd := ⟨_, List.getElem?_eq_getElem hi⟩
                      obtain ⟨pb, hpb, hpq⟩ := paired_get2 hP hkd
                      rw [List.getElem?_map, hpb] at hv
                      cases hv
                      obtain ⟨dd, hdd, hdp⟩ := dqall_get hds4 hu
                      have s6 := s5.trans (same_new (o := .tup [u, .ref pb]) nT)
                      have hdp6 := dq_same s6 hdp
                      refine ⟨T, _, rfl, SqT.of upd_same, rfl, _, _, rfl, _, _, rfl, ?_⟩
                      generalize upd H5 T (.tup [u, .ref pb]) = H6 at s6 hdp6 ⊢
                      have hpq6 := same_sqt (s4.trans s6) hpq
                      refine ⟨pb, _, rfl, hpq6, rfl, _, _, rfl, _, _, rfl, rfl, rfl, ?_⟩
                      refine ⟨u, rfl, _, rfl, _, rfl, u, _, _, dd, rfl, hdp6, _, rfl, ?_⟩
                      have hkp := bk_np (List.mem_of_getElem? hkd)
                      have hsn := fitsD_snoc (many := many) hkd hdd
                      rw [hf, Bool.true_and, fitD_bnL hkp] at hsn
                      cases c : inD (bnL many kd).1 (bnL many kd).2 dd with
                      | true =>
                        refine iteFF rfl ⟨_, _, _, rfl, s6, by rw [hsn, c]⟩
                      | false =>
                        refine iteTT rfl (q _ 99 (s14.trans s6) (szOk_bad ?_))
                        rw [hasD_wen, hfit]
                        cases hfull : fitsD many (bk y) (ds.take (bk y).length) with
                        | false => rfl
                        | true =>
                          have := fitsD_take (i + 1) hfull
                          rw [List.take_take, show min (i + 1) (bk y).length = i + 1 by omega, hsn, c] at this
                          cases this
                    · rintro σ H5 ⟨y4, y5, y6, rfl, s5, hf⟩
                      rw [List.take_length] at hf
                      have hT5 := same_sqt s5 hT4
                      have hL5 := s5.seq hL4
                      have hp5 := same_sqt (s4.trans s5) hp2
                      refine ⟨.ref p, rfl, .ref t, rfl, t, _, 0, _, rfl, rfl, hT5, at_of (j := 0) rfl rfl, l, _, rfl, .inl hL5, _, _, rfl, rfl, _, rfl, ?_⟩
                      dsimp only [tNoPart]
                      refine slA hp5 fun H6 c6 s6 hc6 => ?_
                      have ecut : cutV (.str (wen y) :: xs) (some (1 + (((ps.map V.ref).length : Nat) : Int))) none = xs.drop (bk y).length := by
                        rw [List.length_map, ← hpl, show (1 : Int) + (((bk y).length : Nat) : Int) = (((bk y).length + 1 : Nat) : Int) by omega, cut_from, List.drop_succ_cons]
                      rw [ecut] at hc6
                      have s16 := (s14.trans s5).trans s6
                      have hdr := dqall_drop (n := (bk y).length) (dqall_same s16 hds)
                      have hlr := dqall_len hdr
                      have hlen2 : (ds.drop (bk y).length).length = np y := by
                        rw [List.length_drop]
                        omega
                      have hpart : partsD (wsh y) ds = ds.drop (bk y).length := by
                        rw [wsh_bk]
                        exact partsD_app (fun k h => bk_np h) cl
                      have hn2 := np_le y
                      refine ⟨c6, rfl, ⟨_, hc6⟩, fun D nD => ?_⟩
                      refine lc_tup (xs := xs.drop (bk y).length) (fun i H' => Same H6 H' ∧ ∃ zs : List Int, H' D = some (.lst (zs.map V.int)) ∧ zs.length = i ∧ Paired SzOk (((ds.drop (bk y).length).take i).map (cntE many k)) zs) ⟨same_new nD, [], upd_same, rfl, .nil⟩ (fun i H' _ h => same_sqt h.1 hc6) ?_ ?_
                      · rintro i x1 H7 hx1 ⟨s7, zs, hD, hzl, hzp⟩
                        obtain ⟨dd, hdd, hdp⟩ := dqall_get hdr hx1
                        have hil := (List.getElem?_eq_some_iff.mp hdd).1
                        refine ⟨rfl, tYes_in ⟨x1, rfl, _, rfl, _, rfl, _, _, rfl, rfl, x1, many, k, dd, ?_, by omega, by omega, dq_same s7 hdp, fun H8 z s8 hz => ?_⟩⟩
                        · show [x1, V.int many, V.int (9 - ((k + 1 : Nat) : Int) + 1)] = [x1, V.int many, V.int (9 - (k : Int))]
                          rw [show 9 - ((k + 1 : Nat) : Int) + 1 = 9 - (k : Int) by omega]
                        · refine ⟨_, s8 _ _ hD, ?_, fun b' o eb => ?_, zs ++ [z], ?_, ?_, ?_⟩
                          · rw [List.length_map]
                            exact small1000 (by omega)
                          · rw [upd_ne (ne_of_none eb nD)]
                            exact s8 _ _ (s7 _ _ eb)
                          · rw [upd_same, List.map_append]
                            rfl
                          · rw [List.length_append, hzl]
                            rfl
                          · rw [List.take_add_one, hdd, List.map_append]
                            exact Paired.snoc hzp hz
                      · rintro H7 ⟨s7, zs, hD, hzl, hzp⟩
                        rw [hlr, List.take_length] at hzp
                        refine ⟨D, zs, rfl, SqL.of hD, _, _, rfl, rfl, ?_⟩
                        refine q _ _ (s16.trans s7) ?_
                        rw [cntE_eq, if_pos (by rw [hfit]; exact hf), hpart]
                        exact szOk_sum (by decide) hzp
                  · refine iteTT (by rw [List.length_cons, hlx, List.length_map, ← hpl]; simp; omega) ?_
                    refine q _ 99 s12 (szOk_bad ?_)
                    rw [hasD_wen]
                    exact fitsD_ne (by rw [wsh_len2]; exact cl)
              | _ => exact iteTT rfl (q _ 99 s1 (szOk_bad rfl))
          | _ => cases hkt
end
end NG

namespace NG
open PySem PySem.Spec PyProof.Rows L2
/-! ### deeds -/
def DdOk (o : Option Nat) (z : Int) : Prop := 0 ≤ z ∧ (∀ n, o = some n → z = n) ∧ (o = none → 21 ≤ z)
theorem sumB_none : ∀ {l : List (Option Nat)} {t : Nat}, none ∈ l → sumB t l = none
  | none :: _, _, _ => rfl
  | some i :: r, t, h => by
    have h : none ∈ r := by simpa using h
    show (if 20 < t + i then none else sumB (t + i) r) = none
    split
    · rfl
    · exact sumB_none h
theorem sumB_snoc : ∀ {l : List (Option Nat)} {t : Nat} {o : Option Nat}, sumB t (l ++ [o]) = (sumB t l).bind fun n => o.bind fun m => if 20 < n + m then none else some (n + m)
  | [], t, none => rfl
  | [], t, some m => rfl
  | none :: _, t, o => rfl
  | some i :: r, t, o => by
    show (if 20 < t + i then none else sumB (t + i) (r ++ [o])) = Option.bind (if 20 < t + i then none else sumB (t + i) r) _
    split
    · rfl
    · exact sumB_snoc
theorem sumB_le : ∀ {l : List (Option Nat)} {t n : Nat}, sumB t l = some n → t ≤ 20 → n ≤ 20
  | [], t, n, h, ht => by
    have : t = n := Option.some.inj h
    omega
  | none :: _, t, n, h, _ => by cases h
  | some i :: r, t, n, h, ht => by
    have h : (if 20 < t + i then none else sumB (t + i) r) = some n := h
    split at h
    · cases h
    · exact sumB_le h (by omega)
theorem ddOk_add : ∀ {os : List (Option Nat)} {zs : List Int} {t : Nat}, Paired DdOk os zs → DdOk (addB t os) ((t : Int) + zs.sum)
  | [], _, t, .nil => ⟨by rw [List.sum_nil]; omega, fun n h => by have : t = n := Option.some.inj h; rw [List.sum_nil]; omega, fun h => (by cases h)⟩
  | o :: os, z :: zs, t, .cons a b => by
    rw [List.sum_cons]
    have hn : 0 ≤ zs.sum := by
      have := (ddOk_add (t := 0) b).1
      omega
    obtain ⟨a0, a1, a2⟩ := a
    cases o with
    | none =>
      have := a2 rfl
      exact ⟨by omega, fun n h => (by cases h), fun _ => by omega⟩
    | some i =>
      have h1 := a1 i rfl
      have h2 := ddOk_add (t := t + i) b
      rw [show (t : Int) + (z + zs.sum) = ((t + i : Nat) : Int) + zs.sum by omega]
      exact h2
theorem ddOk_step {l : List (Option Nat)} {o : Option Nat} {z y : Int} (h1 : DdOk (sumB 0 l) z) (h2 : DdOk o y) : DdOk (sumB 0 (l ++ [o])) (z + y) := by
  rw [sumB_snoc]
  obtain ⟨a0, a1, a2⟩ := h1
  obtain ⟨b0, b1, b2⟩ := h2
  refine ⟨by omega, ?_⟩
  cases hs : sumB 0 l with
  | none =>
    have := a2 hs
    exact ⟨fun n h => (by cases h), fun _ => by omega⟩
  | some n =>
    have e1 := a1 n hs
    cases o with
    | none =>
      have := b2 rfl
      exact ⟨fun n h => (by cases h), fun _ => by omega⟩
    | some m =>
      have e2 := b1 m rfl
      show (∀ k, (if 20 < n + m then none else some (n + m)) = some k → z + y = k) ∧ ((if 20 < n + m then none else some (n + m)) = none → 21 ≤ z + y)
      by_cases c : 20 < n + m
      · rw [if_pos c]
        exact ⟨fun n h => (by cases h), fun _ => by omega⟩
      · rw [if_neg c]
        exact ⟨fun k h => by have := Option.some.inj h; omega, fun h => (by cases h)⟩
def bn2 (many : Int) : Wb → Int × Int
  | .op .copy => (0, 3)
  | .op .plus => (0, 3)
  | .op .told => (0, many - 1)
  | _ => (-1000, 1000)
theorem fitsD_wb {many : Int} {x : Wb} {e1 e2 : PyData} {r : List PyData} (h : (e1 :: e2 :: r).length = (wbsh x).length) : fitsD many (wbsh x) (e1 :: e2 :: r) = (inD 0 3 e1 && inD (bn2 many x).1 (bn2 many x).2 e2) := by
  cases x with
  | op o =>
    have hr : r = [] := by
      cases o <;> (simp only [wbsh, List.length_cons, List.length_nil] at h; exact List.eq_nil_of_length_eq_zero (by omega))
    subst hr
    cases o <;> (show (fitD many _ e1 && (fitD many _ e2 && true)) = _; rw [Bool.and_true]; rfl)
  | when =>
    simp only [wbsh, List.length_cons, List.length_nil] at h
    match r, h with
    | [a, b], _ =>
      show (fitD many .place e1 && (fitD many .figure e2 && (true && (true && true)))) = _
      rw [Bool.and_true, Bool.and_true, Bool.and_true]
      rfl
def isWb : Wb → Bool
  | .when => true
  | _ => false
theorem wbsh_len3 (x : Wb) : (wbsh x).length = if isWb x = true then 4 else 2 := by
  cases x with
  | op o => cases o <;> rfl
  | when => rfl
theorem wbn_when {x : Wb} : (wbn x = "when") ↔ isWb x = true := by
  cases x with
  | op o => cases o <;> exact ⟨fun h => absurd h (by decide), fun h => (by cases h)⟩
  | when => exact ⟨fun _ => rfl, fun _ => rfl⟩
def endsB (u1 u2 u3 u4 u5 u6 : Addr) : List (Key × V) := [(.inr "put", .ref u1), (.inr "add", .ref u2), (.inr "when", .ref u3), (.inr "copy", .ref u4), (.inr "plus", .ref u5), (.inr "told", .ref u6)]
theorem endsB_out {x : Str} {u1 u2 u3 u4 u5 u6 : Addr} (h : wbOf x = none) : valV (endsB u1 u2 u3 u4 u5 u6) (.inr x) = none := by
  unfold valV
  rw [List.find?_eq_none.mpr fun kv hm => ?_]
  · rfl
  · intro z
    have z := of_decide_eq_true z
    simp only [endsB, List.mem_cons, List.not_mem_nil, or_false] at hm
    have : ∀ y : Str, wbOf y ≠ none → (Sum.inr y : Key) ≠ .inr x := fun y hy z => hy (by rw [Sum.inr.inj z]; exact h)
    rcases hm with rfl | rfl | rfl | rfl | rfl | rfl <;> exact this _ (by decide) z
def spDdIn (K : PySem.W.Frag) (n : Nat) : Sp := fun vs H Q _ => ∃ (v : V) (many : Int) (k : Nat) (d : PyData), vs = [v, .int many, .int (5 - (k : Int))] ∧ k < n ∧ k ≤ 4 ∧ Dq K H v d ∧ ∀ H' z, Same H H' → DdOk (cntB many k d) z → Q (.int z) H'
def spLStake (K : PySem.W.Frag) : Sp := fun vs H Q _ => ∃ (v : V) (sc many : Nat) (d : PyData), vs = [v, .int (many : Int), .int (sc : Int)] ∧ sc < 5 ∧ Dq K H v d ∧ ∀ H', Same H H' → Q (.bl (stakeD many sc d)) H'
theorem inV35 (n : Nat) : inV (.int (n : Int)) [.int 3, .int 5] = decide (n = 3 ∨ n = 5) := by
  show ((eqV (.int 3) (.int (n : Int))) || ((eqV (.int 5) (.int (n : Int))) || false)) = _
  have e : ∀ m : Nat, eqV (.int (m : Int)) (.int (n : Int)) = decide (n = m) := fun m => by
    show decide ((m : Int) = (n : Int)) = decide (n = m)
    rw [decide_eq_decide]
    omega
  rw [show eqV (.int 3) (.int (n : Int)) = decide (n = 3) from e 3, show eqV (.int 5) (.int (n : Int)) = decide (n = 5) from e 5, Bool.or_false, Bool.decide_or]
theorem ddOk_99 : DdOk none 99 := ⟨by decide, fun n h => (by cases h), fun _ => by decide⟩
theorem cntB_bad {many : Int} {k : Nat} {ds : List PyData} {d : PyData} (hm : d ∈ ds) (h : deedD many (cntB many k) d = none) : cntB many (k + 1) (.tuple ds) = none := sumB_none (List.mem_map.mpr ⟨d, hm, h⟩)
theorem deedD_short {many : Int} {f : PyData → Option Nat} {x : Str} {es : List PyData} (h : es.length ≠ 2 ∧ es.length ≠ 4) : deedD many f (.tuple (.str x :: es)) = none := by
  unfold deedD
  cases hw : wbOf x with
  | none => simp only [hw]
  | some wb =>
    simp only [hw]
    rw [if_neg]
    intro z
    have := fitsD_len z
    rw [wbsh_len3] at this
    split at this <;> omega
theorem deedD_nfit {many : Int} {f : PyData → Option Nat} {x : Str} {es : List PyData} (h : ∀ wb, wbOf x = some wb → fitsD many (wbsh wb) es = false) : deedD many f (.tuple (.str x :: es)) = none := by
  unfold deedD
  cases hw : wbOf x with
  | none => simp only [hw]
  | some wb =>
    simp only [hw]
    rw [if_neg]
    rw [h wb hw]
    exact Bool.false_ne_true
section
variable {P : Program} {w : World} {K : PySem.W.Frag} {mg : Str → Option Value} {base : Heap}
theorem ok_deedsin {f : Addr} {fd : FuncData} (F : Fun K "_law_deeds_in" "_law_deeds_in" s_L_deeds_in f fd) (gF : mg "_law_deeds_in" = some (.ref f)) (b : Binds K fd ["_law_lump", "_law_wide", "_law_deep"] []) (B : Bl mg) (c_L_whole : Cal P w K mg base 1 "_law_whole" (spWhole K)) : ∀ n, Cal P w K mg base (n + 2) "_law_deeds_in" (spDdIn K n)
  | 0 => cal_never F gF b fun vs H Q E => by rintro ⟨_, _, k, _, _, hk, _⟩; omega
  | n + 1 => by
    have c_L_deeds_in := ok_deedsin F gF b B c_L_whole n
    refine ⟨f, fd, _, F.ok sc_L_deeds_in (fun vs H Q E h => ?_) (fun cdv A outer s H vs Q E hr h => ?_), gF, F.kp, b⟩
    · obtain ⟨_, _, _, _, rfl, _⟩ := h
      rfl
    · obtain ⟨v, many, k, d, rfl, hk, hk4, hd, q⟩ := h
      refine ⟨_, (pss_cons (ps_if (pt_not (pt_val (pe_callB call_isi (by rfl) B.isinstance (by decide +kernel) (pa_cons (pv 0) (pa_cons (pe_bltn (v := .ty "tuple") (by rfl) B.tuple (by decide +kernel) rfl) pa_nil))))) (pss_one (ps_ret pe_int)) pss_nil) (pss_cons (ps_set (i := 3) sc_L_deeds_in.nd rfl (.inl rfl) pe_int) (pss_cons (ps_for PassesOwn.never rfl (pi_tup (pv 0)) (pg_name (i := 4) sc_L_deeds_in.nd rfl (.inl rfl)) (pss_cons (ps_if (PW.pt (pw_or (pt_cmpR op_gt (pv 2) pe_int (nomark _)) (pw_or (pt_not (pt_val (pe_callB call_isi (by rfl) B.isinstance (by decide +kernel) (pa_cons (pv 4) (pa_cons (pe_bltn (v := .ty "tuple") (by rfl) B.tuple (by decide +kernel) rfl) pa_nil))))) (pw_or (pt_cmpR op_notIn_seq (pe_callB call_len_seq (by rfl) B.len PySem.boot_len (pa_cons (pv 4) pa_nil)) (pe_tup (pa_cons pe_int (pa_cons pe_int pa_nil))) (by rfl)) (pw_or1 (pt_not (pt_val (pe_callB call_isi (by rfl) B.isinstance (by decide +kernel) (pa_cons (pe_ix ix_tup (pv 4) pe_int (fun _ _ => rfl)) (pa_cons (pe_bltn (v := .ty "str") (by rfl) B.str (by decide +kernel) rfl) pa_nil)))))))))) (pss_one (ps_ret pe_int)) pss_nil) (pss_cons (ps_if (PW.pt (pw_or (pt_not (pt_val (pe_c c_L_whole hr (by omega) (by rfl) (pa_cons (pe_ix ix_tup (pv 4) pe_int (fun _ _ => rfl)) (pa_cons pe_int (pa_cons pe_int pa_nil)))))) (pw_or1 (pt_cmpR (op_neD hr.units) (pe_cmpR op_eq (pe_callB call_len_seq (by rfl) B.len PySem.boot_len (pa_cons (pv 4) pa_nil)) pe_int (nomark _)) (pe_cmpR op_eq (pe_ix ix_tup (pv 4) pe_int (fun _ _ => rfl)) pe_str (nomark _)) (nomark _))))) (pss_one (ps_ret pe_int)) pss_nil) (pss_cons (ps_set (i := 5) sc_L_deeds_in.nd rfl (.inl rfl) (pe_disp (pps_cons pe_str (pe_tup (pa_cons (pe_un un_neg pe_int) (pa_cons pe_int pa_nil))) (pps_cons pe_str (pe_tup (pa_cons (pe_un un_neg pe_int) (pa_cons pe_int pa_nil))) (pps_cons pe_str (pe_tup (pa_cons (pe_un un_neg pe_int) (pa_cons pe_int pa_nil))) (pps_cons pe_str (pe_tup (pa_cons pe_int (pa_cons pe_int pa_nil))) (pps_cons pe_str (pe_tup (pa_cons pe_int (pa_cons pe_int pa_nil))) pps_nil))))) (by rfl) (by rfl) (by simp) (by decide))) (pss_cons (ps_dput (hu_of hr) (pv 5) pe_str (pe_tup (pa_cons pe_int (pa_cons (pe_op op_sub (pv 1) pe_int) pa_nil))) (by rfl)) (pss_cons (ps_if (PW.pt (pw_or (pt_cmpR (op_ninG hr.units) (pe_ix ix_tup (pv 4) pe_int (fun _ _ => rfl)) (pv 5) (by rfl)) (pw_or1 (pt_not (pt_val (pe_c c_L_whole hr (by omega) (by rfl) (pa_cons (pe_ix ix_tup (pv 4) pe_int (fun _ _ => rfl)) (pa_cons (pe_ix ix_tup (pe_dget (hu_of hr) (pv 5) (pe_ix ix_tup (pv 4) pe_int (fun _ _ => rfl)) (fun _ _ => rfl)) pe_int (fun _ _ => rfl)) (pa_cons (pe_ix ix_tup (pe_dget (hu_of hr) (pv 5) (pe_ix ix_tup (pv 4) pe_int (fun _ _ => rfl)) (fun _ _ => rfl)) pe_int (fun _ _ => rfl)) pa_nil))))))))) (pss_one (ps_ret pe_int)) pss_nil) (pss_one (ps_set (i := 3) sc_L_deeds_in.nd rfl (.inl rfl) (pe_op op_add (pe_op op_add (pv 3) pe_int) (pe_callB (cr_sum rfl) (by rfl) B.sum (by decide +kernel) (pa_cons (pe_lc (own := [("_law_part", 6)]) rfl sc_L_deeds_in.nd (pi_tup (pe_slice sl_tupA (pv 4) (po_some pe_int) po_none)) (blkOk_by (N := N_L_deeds_in) (sc := defScope s_L_deeds_in) (by decide +kernel)) (fun _ _ _ _ _ => pg_name (i := 6) sc_L_deeds_in.nd rfl (.inl rfl)) (fun _ _ _ _ _ => pts_nil) (fun _ _ _ _ _ => pe_c c_L_deeds_in hr (by omega) (by rfl) (pa_cons (pv 6) (pa_cons (pv 1) (pa_cons (pe_op op_add (pv 2) pe_int) pa_nil))))) pa_nil))))))))))) (pss_one (ps_ret (pv 3)))))), ?_⟩
      have two_le : 2 ≤ sizeLine := by decide
      have lay : ∀ bb : Bool, SeqAt.shaped (.bool bb) = true := fun bb => rfl
      refine ⟨v, rfl, v, .ty "tuple", _, _, _, rfl, .ty _, Dq.tyx hd, kit_ty (kit_tup d), _, rfl, ?_⟩
      cases hd with
      | @tup p xs ds hp hds =>
        refine iteFF rfl ?_
        have hlx := dqall_len hds
        refine ⟨.ref p, rfl, p, rfl, ⟨_, hp⟩, ?_⟩
        refine for_tup (K := K) (xs := xs) (fun i σ H' => ∃ (z : Int) (y4 y5 : Option V), σ = [some (.ref p), some (.int many), some (.int (5 - (k : Int))), some (.int z), y4, y5, none] ∧ Same H H' ∧ (i = 0 ∨ ∃ k', k = k' + 1) ∧ DdOk (sumB 0 ((ds.map (deedD many (cntB many (k - 1)))).take i)) z) ⟨0, none, none, rfl, Same.refl _, .inl rfl, by decide, fun n h => by have : 0 = n := Option.some.inj h; omega, fun h => (by cases h)⟩ (fun i σ H' _ h => by obtain ⟨_, _, _, _, sm, _⟩ := h; exact same_sqt sm hp) ?_ ?_
        · rintro i y σ H1 hy ⟨z, y4, y5, rfl, s1, hi0, hz⟩
          obtain ⟨dd, hdd, hdp⟩ := dqall_get hds hy
          have hdm := List.mem_of_getElem? hdd
          cases k with
          | zero =>
            refine ⟨_, rfl, _, _, rfl, rfl, _, rfl, iteTT rfl (iteTT rfl (q _ 99 s1 ?_))⟩
            have : cntB many 0 (.tuple ds) = none := by
              cases ds with
              | nil => cases hdm
              | cons _ _ => rfl
            rw [this]
            exact ddOk_99
          | succ k =>
            have hz : DdOk (sumB 0 ((ds.map (deedD many (cntB many k))).take i)) z := hz
            have bad : ∀ H', Same H H' → deedD many (cntB many k) dd = none → Q (.int 99) H' := fun H' s' hb => q _ 99 s' (by rw [cntB_bad hdm hb]; exact ddOk_99)
            refine ⟨_, rfl, _, _, rfl, rfl, _, rfl, iteFF (decide_eq_false (by omega)) ?_⟩
            have hdp1 := dq_same s1 hdp
            refine ⟨y, rfl, y, .ty "tuple", _, _, _, rfl, .ty _, Dq.tyx hdp1, kit_ty (kit_tup dd), _, rfl, ?_⟩
            cases hdp1 with
            | @tup py ys es' hpy hys =>
              refine iteFF rfl ?_
              have hly := dqall_len hys
              refine ⟨.ref py, rfl, py, _, rfl, .inr hpy, two_le, fun t nt => ⟨t, _, rfl, .inr (SqT.of upd_same), rfl, rfl, _, rfl, ?_⟩⟩
              have s2 : Same H1 (upd H1 t (.tup [.int 3, .int 5])) := same_new nt
              generalize upd H1 t (.tup [.int 3, .int 5]) = H2 at s2 ⊢
              have s12 := s1.trans s2
              have elen : inV (.int (ys.length : Nat)) [.int 3, .int 5] = decide (es'.length = 3 ∨ es'.length = 5) := by
                rw [hly]
                exact inV35 _
              by_cases cl : es'.length = 3 ∨ es'.length = 5
              · refine iteFF (by show (!inV (.int (ys.length : Nat)) [.int 3, .int 5]) = false; rw [elen, decide_eq_true cl]; rfl) ?_
                cases hys with
                | nil => simp at cl
                | @cons y0 ys d0 es hy0 hes =>
                  have hpy2 := same_sqt s2 hpy
                  refine ⟨.ref py, rfl, py, _, 0, _, rfl, rfl, hpy2, at_of (j := 0) rfl rfl, y0, .ty "str", _, _, _, rfl, .ty _, Dq.tyx (dq_same s2 hy0), kit_ty (kit_str d0), _, rfl, ?_⟩
                  cases hy0 with
                  | str x =>
                    refine iteFF rfl ?_
                    have cl : es.length = 2 ∨ es.length = 4 := by
                      rw [List.length_cons] at cl
                      omega
                    have hle := dqall_len hes
                    obtain ⟨d1, d2, er, v1, v2, vr, rfl, rfl, h1, h2, hr⟩ : ∃ d1 d2 er v1 v2 vr, es = d1 :: d2 :: er ∧ ys = v1 :: v2 :: vr ∧ Dq K H1 v1 d1 ∧ Dq K H1 v2 d2 ∧ DqAll K H1 vr er := by
                      cases hes with
                      | nil => simp at cl
                      | cons h1 h =>
                        cases h with
                        | nil => simp at cl
                        | cons h2 hr => exact ⟨_, _, _, _, _, _, rfl, rfl, h1, h2, hr⟩
                    refine ⟨.ref py, rfl, py, _, 1, _, rfl, rfl, hpy2, at_of (j := 1) rfl rfl, v1, 0, 3, d1, rfl, dq_same s2 h1, _, rfl, ?_⟩
                    cases c1 : inD 0 3 d1 with
                    | false =>
                      refine iteTT rfl (iteTT rfl (bad _ s12 (deedD_nfit fun wb hw => ?_)))
                      by_cases e : (d1 :: d2 :: er).length = (wbsh wb).length
                      · rw [fitsD_wb e, c1]
                        rfl
                      · exact fitsD_ne e
                    | true =>
                      refine iteFF rfl ?_
                      have hpy2' := hpy2
                      refine ⟨.ref py, rfl, py, _, rfl, .inr hpy2, rfl, .ref py, rfl, py, _, 0, _, rfl, rfl, hpy2, at_of (j := 0) rfl rfl, rfl, _, _, .bl _, .bl _, rfl, rfl, ?_⟩
                      have ew : (!PyData.eqv (.bool (decide (V.int (((.str x :: v1 :: v2 :: vr : List V).length : Nat) : Int) = V.int 5))) (.bool (decide (V.str x = V.str "when")))) = !(decide (er.length = 2) == decide (x = "when")) := by
                        have e1 : decide (V.int (((.str x :: v1 :: v2 :: vr : List V).length : Nat) : Int) = V.int 5) = decide (er.length = 2) := by
                          have := dqall_len hr
                          rw [decide_eq_decide]
                          constructor
                          · intro h
                            have h := V.int.inj h
                            simp only [List.length_cons] at h
                            omega
                          · intro h
                            simp only [List.length_cons]
                            rw [show (vr.length + 1 + 1 + 1 : Nat) = 5 by omega]
                            rfl
                        have e2 : decide (V.str x = V.str "when") = decide (x = "when") := by
                          rw [decide_eq_decide]
                          exact ⟨V.str.inj, congrArg V.str⟩
                        rw [e1, e2]
                        cases decide (er.length = 2) <;> cases decide (x = "when") <;> rfl
                      refine ⟨_, rfl, ?_⟩
                      cases cw : (decide (er.length = 2) == decide (x = "when")) with
                      | false =>
                        refine iteTT (by rw [ew, cw]; rfl) (bad _ s12 (deedD_nfit fun wb hw => fitsD_ne ?_))
                        have ex := wbOf_eq hw
                        rw [wbsh_len3]
                        intro z
                        have e3 : (er.length = 2) ↔ x = "when" := by
                          rw [ex, wbn_when]
                          simp only [List.length_cons] at z
                          split at z
                          · rename_i h
                            exact ⟨fun _ => h, fun _ => by omega⟩
                          · rename_i h
                            exact ⟨fun h' => by omega, fun h' => absurd h' h⟩
                        have : (decide (er.length = 2) == decide (x = "when")) = true := by
                          rw [decide_eq_decide.mpr e3]
                          exact beq_self_eq_true _
                        rw [cw] at this
                        cases this
                      | true =>
                        refine iteFF (by rw [ew, cw]; rfl) ?_
                        have e3 : (er.length = 2) ↔ x = "when" := decide_eq_decide.mp (eq_of_beq cw)
                        -- the bounds
                        refine fun pd nd => ⟨_, rfl, two_le, fun u1 n1 => ⟨_, rfl, two_le, fun u2 n2 => ⟨_, rfl, two_le, fun u3 n3 => ⟨two_le, fun u4 n4 => ⟨two_le, fun u5 n5 => ?_⟩⟩⟩⟩⟩
                        have sA : Same H2 (upd (upd (upd (upd (upd (upd H2 pd (.dK [])) u1 (.tup [.int (-1000), .int 1000])) u2 (.tup [.int (-1000), .int 1000])) u3 (.tup [.int (-1000), .int 1000])) u4 (.tup [.int 0, .int 3])) u5 (.tup [.int 0, .int 3])) := (((((same_new nd).trans (same_new n1)).trans (same_new n2)).trans (same_new n3)).trans (same_new n4)).trans (same_new n5)
                        have fpd : (upd (upd (upd (upd (upd (upd H2 pd (.dK [])) u1 (.tup [.int (-1000), .int 1000])) u2 (.tup [.int (-1000), .int 1000])) u3 (.tup [.int (-1000), .int 1000])) u4 (.tup [.int 0, .int 3])) u5 (.tup [.int 0, .int 3])) pd = some (.dK []) := same_new n5 _ _ (same_new n4 _ _ (same_new n3 _ _ (same_new n2 _ _ (same_new n1 _ _ upd_same))))
                        have fu1 : (upd (upd (upd (upd (upd (upd H2 pd (.dK [])) u1 (.tup [.int (-1000), .int 1000])) u2 (.tup [.int (-1000), .int 1000])) u3 (.tup [.int (-1000), .int 1000])) u4 (.tup [.int 0, .int 3])) u5 (.tup [.int 0, .int 3])) u1 = some (.tup [.int (-1000), .int 1000]) := same_new n5 _ _ (same_new n4 _ _ (same_new n3 _ _ (same_new n2 _ _ upd_same)))
                        have fu2 : (upd (upd (upd (upd (upd (upd H2 pd (.dK [])) u1 (.tup [.int (-1000), .int 1000])) u2 (.tup [.int (-1000), .int 1000])) u3 (.tup [.int (-1000), .int 1000])) u4 (.tup [.int 0, .int 3])) u5 (.tup [.int 0, .int 3])) u2 = some (.tup [.int (-1000), .int 1000]) := same_new n5 _ _ (same_new n4 _ _ (same_new n3 _ _ upd_same))
                        have fu3 : (upd (upd (upd (upd (upd (upd H2 pd (.dK [])) u1 (.tup [.int (-1000), .int 1000])) u2 (.tup [.int (-1000), .int 1000])) u3 (.tup [.int (-1000), .int 1000])) u4 (.tup [.int 0, .int 3])) u5 (.tup [.int 0, .int 3])) u3 = some (.tup [.int (-1000), .int 1000]) := same_new n5 _ _ (same_new n4 _ _ upd_same)
                        have fu4 : (upd (upd (upd (upd (upd (upd H2 pd (.dK [])) u1 (.tup [.int (-1000), .int 1000])) u2 (.tup [.int (-1000), .int 1000])) u3 (.tup [.int (-1000), .int 1000])) u4 (.tup [.int 0, .int 3])) u5 (.tup [.int 0, .int 3])) u4 = some (.tup [.int 0, .int 3]) := same_new n5 _ _ upd_same
                        have fu5 : (upd (upd (upd (upd (upd (upd H2 pd (.dK [])) u1 (.tup [.int (-1000), .int 1000])) u2 (.tup [.int (-1000), .int 1000])) u3 (.tup [.int (-1000), .int 1000])) u4 (.tup [.int 0, .int 3])) u5 (.tup [.int 0, .int 3])) u5 = some (.tup [.int 0, .int 3]) := upd_same
                        refine ⟨fpd, [(.inr "put", .ref u1), (.inr "add", .ref u2), (.inr "when", .ref u3), (.inr "copy", .ref u4), (.inr "plus", .ref u5)], rfl, (by show 5 ≤ 15; decide), ?_⟩
                        generalize upd (upd (upd (upd (upd (upd H2 pd (.dK [])) u1 (.tup [.int (-1000), .int 1000])) u2 (.tup [.int (-1000), .int 1000])) u3 (.tup [.int (-1000), .int 1000])) u4 (.tup [.int 0, .int 3])) u5 (.tup [.int 0, .int 3]) = H3 at sA fpd fu1 fu2 fu3 fu4 fu5 ⊢
                        have kp : ∀ {Hx : Hp} {kvs : List (Key × V)} {c : Addr} {xs : List V} {o : HO}, Hx pd = some (.dK kvs) → Hx c = some (.tup xs) → (upd Hx pd o) c = some (.tup xs) := fun h1 h2 => (upd_ne (ne_of h2 h1 (by intro z; cases z))).trans h2
                        have gu1 := kp (o := .dK (mergeK [] [(.inr "put", .ref u1), (.inr "add", .ref u2), (.inr "when", .ref u3), (.inr "copy", .ref u4), (.inr "plus", .ref u5)])) fpd fu1
                        have gu2 := kp (o := .dK (mergeK [] [(.inr "put", .ref u1), (.inr "add", .ref u2), (.inr "when", .ref u3), (.inr "copy", .ref u4), (.inr "plus", .ref u5)])) fpd fu2
                        have gu3 := kp (o := .dK (mergeK [] [(.inr "put", .ref u1), (.inr "add", .ref u2), (.inr "when", .ref u3), (.inr "copy", .ref u4), (.inr "plus", .ref u5)])) fpd fu3
                        have gu4 := kp (o := .dK (mergeK [] [(.inr "put", .ref u1), (.inr "add", .ref u2), (.inr "when", .ref u3), (.inr "copy", .ref u4), (.inr "plus", .ref u5)])) fpd fu4
                        have gu5 := kp (o := .dK (mergeK [] [(.inr "put", .ref u1), (.inr "add", .ref u2), (.inr "when", .ref u3), (.inr "copy", .ref u4), (.inr "plus", .ref u5)])) fpd fu5
                        have gpd : (upd H3 pd (.dK (mergeK [] [(.inr "put", .ref u1), (.inr "add", .ref u2), (.inr "when", .ref u3), (.inr "copy", .ref u4), (.inr "plus", .ref u5)]))) pd = some (.dK [(.inr "put", .ref u1), (.inr "add", .ref u2), (.inr "when", .ref u3), (.inr "copy", .ref u4), (.inr "plus", .ref u5)]) := by rw [upd_same]; rfl
                        have sB : Same H2 (upd H3 pd (.dK (mergeK [] [(.inr "put", .ref u1), (.inr "add", .ref u2), (.inr "when", .ref u3), (.inr "copy", .ref u4), (.inr "plus", .ref u5)]))) := fun b' o e => by
                          rw [upd_ne (ne_of_none e nd)]
                          exact sA _ _ e
                        generalize upd H3 pd (.dK (mergeK [] [(.inr "put", .ref u1), (.inr "add", .ref u2), (.inr "when", .ref u3), (.inr "copy", .ref u4), (.inr "plus", .ref u5)])) = H4 at gu1 gu2 gu3 gu4 gu5 gpd sB ⊢
                        refine ⟨_, rfl, _, _, rfl, rfl, two_le, fun u6 n6 => ?_⟩
                        have sC : Same H4 (upd H4 u6 (.tup [.int 0, .int (many - 1)])) := same_new n6
                        have gu6 : (upd H4 u6 (.tup [.int 0, .int (many - 1)])) u6 = some (.tup [.int 0, .int (many - 1)]) := upd_same
                        have gpd5 := sC _ _ gpd
                        generalize upd H4 u6 (.tup [.int 0, .int (many - 1)]) = H5 at sC gu6 gpd5 ⊢
                        refine ⟨.ref pd, rfl, pd, _, rfl, DPut.k (k := .inr "told") gpd5 (by show 5 < sizeLine; decide), ?_⟩
                        have ku1 := kp (o := .dK (putK [(.inr "put", .ref u1), (.inr "add", .ref u2), (.inr "when", .ref u3), (.inr "copy", .ref u4), (.inr "plus", .ref u5)] (.inr "told") (.ref u6))) gpd5 (sC _ _ gu1)
                        have ku2 := kp (o := .dK (putK [(.inr "put", .ref u1), (.inr "add", .ref u2), (.inr "when", .ref u3), (.inr "copy", .ref u4), (.inr "plus", .ref u5)] (.inr "told") (.ref u6))) gpd5 (sC _ _ gu2)
                        have ku3 := kp (o := .dK (putK [(.inr "put", .ref u1), (.inr "add", .ref u2), (.inr "when", .ref u3), (.inr "copy", .ref u4), (.inr "plus", .ref u5)] (.inr "told") (.ref u6))) gpd5 (sC _ _ gu3)
                        have ku4 := kp (o := .dK (putK [(.inr "put", .ref u1), (.inr "add", .ref u2), (.inr "when", .ref u3), (.inr "copy", .ref u4), (.inr "plus", .ref u5)] (.inr "told") (.ref u6))) gpd5 (sC _ _ gu4)
                        have ku5 := kp (o := .dK (putK [(.inr "put", .ref u1), (.inr "add", .ref u2), (.inr "when", .ref u3), (.inr "copy", .ref u4), (.inr "plus", .ref u5)] (.inr "told") (.ref u6))) gpd5 (sC _ _ gu5)
                        have ku6 := kp (o := .dK (putK [(.inr "put", .ref u1), (.inr "add", .ref u2), (.inr "when", .ref u3), (.inr "copy", .ref u4), (.inr "plus", .ref u5)] (.inr "told") (.ref u6))) gpd5 gu6
                        have kpd : (upd H5 pd (.dK (putK [(.inr "put", .ref u1), (.inr "add", .ref u2), (.inr "when", .ref u3), (.inr "copy", .ref u4), (.inr "plus", .ref u5)] (.inr "told") (.ref u6)))) pd = some (.dK (endsB u1 u2 u3 u4 u5 u6)) := by rw [upd_same]; rfl
                        have sD : Same H2 (upd H5 pd (.dK (putK [(.inr "put", .ref u1), (.inr "add", .ref u2), (.inr "when", .ref u3), (.inr "copy", .ref u4), (.inr "plus", .ref u5)] (.inr "told") (.ref u6)))) := fun b' o e => by
                          rw [upd_ne (ne_of_none e nd)]
                          exact sC _ _ (sB _ _ e)
                        generalize upd H5 pd (.dK (putK [(.inr "put", .ref u1), (.inr "add", .ref u2), (.inr "when", .ref u3), (.inr "copy", .ref u4), (.inr "plus", .ref u5)] (.inr "told") (.ref u6))) = H6 at ku1 ku2 ku3 ku4 ku5 ku6 kpd sD ⊢
                        clear gu1 gu2 gu3 gu4 gu5 gu6 gpd gpd5 sA sB sC fpd fu1 fu2 fu3 fu4 fu5
                        have hpy6 := same_sqt sD hpy2
                        have s16 := s12.trans sD
                        refine ⟨.ref py, rfl, py, _, 0, _, rfl, rfl, hpy6, at_of (j := 0) rfl rfl, .ref pd, rfl, pd, valV (endsB u1 u2 u3 u4 u5 u6) (.inr x), rfl, DGet.k (k := .inr x) kpd, _, rfl, ?_⟩
                        cases hw : wbOf x with
                        | none =>
                          rw [endsB_out hw]
                          exact iteTT rfl (iteTT rfl (bad _ s16 (deedD_nfit fun wb h => by rw [hw] at h; cases h)))
                        | some wb =>
                          have ex := wbOf_eq hw
                          subst ex
                          have key : ∃ u, valV (endsB u1 u2 u3 u4 u5 u6) (.inr (wbn wb)) = some (.ref u) ∧ SqT K H6 u [.int (bn2 many wb).1, .int (bn2 many wb).2] := by
                            cases wb with
                            | when => exact ⟨u3, rfl, SqT.of ku3⟩
                            | op o =>
                              cases o with
                              | put => exact ⟨u1, rfl, SqT.of ku1⟩
                              | add => exact ⟨u2, rfl, SqT.of ku2⟩
                              | copy => exact ⟨u4, rfl, SqT.of ku4⟩
                              | plus => exact ⟨u5, rfl, SqT.of ku5⟩
                              | told => exact ⟨u6, rfl, SqT.of ku6⟩
                          obtain ⟨u, ev, hu⟩ := key
                          have hg : DGet H6 pd (.str (wbn wb)) (some (.ref u)) := by rw [← ev]; exact DGet.k (k := .inr (wbn wb)) kpd
                          rw [ev]
                          refine iteFF rfl ?_
                          refine ⟨.ref py, rfl, py, _, 2, _, rfl, rfl, hpy6, at_of (j := 2) rfl rfl, .ref pd, rfl, .ref py, rfl, py, _, 0, _, rfl, rfl, hpy6, at_of (j := 0) rfl rfl, pd, .ref u, rfl, hg, u, _, 0, _, rfl, rfl, hu, at_of (j := 0) rfl rfl, .ref pd, rfl, .ref py, rfl, py, _, 0, _, rfl, rfl, hpy6, at_of (j := 0) rfl rfl, pd, .ref u, rfl, hg, u, _, 1, _, rfl, rfl, hu, at_of (j := 1) rfl rfl, v2, _, _, d2, rfl, dq_same (s2.trans sD) h2, _, rfl, ?_⟩
                          have elw : (d1 :: d2 :: er).length = (wbsh wb).length := by
                            rw [wbsh_len3]
                            simp only [List.length_cons] at cl ⊢
                            by_cases c5 : isWb wb = true
                            · rw [if_pos c5]
                              have := e3.mpr (wbn_when.mpr c5)
                              omega
                            · rw [if_neg c5]
                              have : ¬ er.length = 2 := fun h => c5 (wbn_when.mp (e3.mp h))
                              omega
                          have hfw := fitsD_wb (many := many) elw
                          rw [c1, Bool.true_and] at hfw
                          cases c2 : inD (bn2 many wb).1 (bn2 many wb).2 d2 with
                          | false =>
                            refine iteTT rfl (bad _ s16 ?_)
                            rw [deedD_eq, if_neg (by rw [hfw, c2]; exact Bool.false_ne_true)]
                          | true =>
                            refine iteFF rfl ?_
                            rw [c2] at hfw
                            refine ⟨_, rfl, _, _, rfl, rfl, .ref py, rfl, 3, rfl, ?_⟩
                            dsimp only [tNoPart]
                            refine slA hpy6 fun H7 c7 s7 hc7 => ?_
                            rw [cutT3] at hc7
                            have hc7 : SqT K H7 c7 vr := hc7
                            have s17 := s16.trans s7
                            have hr7 := dqall_same ((s2.trans sD).trans s7) hr
                            have hlr := dqall_len hr
                            simp only [List.length_cons] at cl
                            refine ⟨c7, rfl, ⟨_, hc7⟩, fun D nD => ?_⟩
                            refine lc_tup (xs := vr) (fun i H' => Same H7 H' ∧ ∃ zs : List Int, H' D = some (.lst (zs.map V.int)) ∧ zs.length = i ∧ Paired DdOk ((er.take i).map (cntB many k)) zs) ⟨same_new nD, [], upd_same, rfl, .nil⟩ (fun i H' _ h => same_sqt h.1 hc7) ?_ ?_
                            · rintro j x1 H8 hx1 ⟨s8, zs, hD, hzl, hzp⟩
                              obtain ⟨de, hde, hdq⟩ := dqall_get hr7 hx1
                              have hil := (List.getElem?_eq_some_iff.mp hde).1
                              refine ⟨rfl, tYes_in ⟨x1, rfl, _, rfl, _, rfl, _, _, rfl, rfl, x1, many, k, de, ?_, by omega, by omega, dq_same s8 hdq, fun H9 z9 s9 hz9 => ?_⟩⟩
                              · show [x1, V.int many, V.int (5 - ((k + 1 : Nat) : Int) + 1)] = [x1, V.int many, V.int (5 - (k : Int))]
                                rw [show 5 - ((k + 1 : Nat) : Int) + 1 = 5 - (k : Int) by omega]
                              · refine ⟨_, s9 _ _ hD, ?_, fun b' o eb => ?_, zs ++ [z9], ?_, ?_, ?_⟩
                                · rw [List.length_map]
                                  exact small1000 (by omega)
                                · rw [upd_ne (ne_of_none eb nD)]
                                  exact s9 _ _ (s8 _ _ eb)
                                · rw [upd_same, List.map_append]
                                  rfl
                                · rw [List.length_append, hzl]
                                  rfl
                                · rw [List.take_add_one, hde, List.map_append]
                                  exact Paired.snoc hzp hz9
                            · rintro H8 ⟨s8, zs, hD, hzl, hzp⟩
                              rw [hlr, List.take_length] at hzp
                              refine ⟨D, zs, rfl, SqL.of hD, _, _, rfl, rfl, ?_⟩
                              refine ⟨z + 1 + zs.sum, _, _, rfl, s17.trans s8, .inr ⟨k, rfl⟩, ?_⟩
                              have h9 := ddOk_add (t := 1) hzp
                              have e9 : deedD many (cntB many k) (.tuple (.str (wbn wb) :: d1 :: d2 :: er)) = addB 1 (er.map (cntB many k)) := by
                                rw [deedD_eq, if_pos hfw]
                                rfl
                              rw [← e9] at h9
                              have h10 := ddOk_step hz h9
                              show DdOk (sumB 0 ((ds.map (deedD many (cntB many k))).take (i + 1))) _
                              rw [List.take_add_one, List.getElem?_map, hdd, show z + 1 + zs.sum = z + (((1 : Nat) : Int) + zs.sum) by omega]
                              exact h10
                  | _ => exact iteTT rfl (bad _ s12 rfl)
              · refine iteTT (by show (!inV (.int (ys.length : Nat)) [.int 3, .int 5]) = true; rw [elen, decide_eq_false cl]; rfl) (iteTT rfl (bad _ s12 ?_))
                cases es' with
                | nil => rfl
                | cons d0 es =>
                  by_cases hs : ∃ x, d0 = .str x
                  · obtain ⟨x, rfl⟩ := hs
                    exact deedD_short (by rw [List.length_cons] at cl; omega)
                  · cases d0 <;> first | rfl | exact absurd ⟨_, rfl⟩ hs
            | _ => exact iteTT rfl (iteTT rfl (bad _ s1 rfl))
        · rintro σ H1 ⟨z, y4, y5, rfl, s1, hi0, hz⟩
          refine ⟨_, rfl, q _ z s1 ?_⟩
          rw [List.take_of_length_le (by rw [List.length_map, hlx]; exact Nat.le_refl _)] at hz
          cases k with
          | zero =>
            cases ds with
            | nil => exact hz
            | cons _ _ =>
              rcases hi0 with h | ⟨_, h⟩
              · rw [hlx] at h
                cases h
              · cases h
          | succ k => exact hz
      | _ => exact iteTT rfl (q _ 99 (Same.refl _) (by cases k <;> exact ddOk_99))
end
end NG

namespace NG
open PySem PySem.Spec PyProof.Rows L2
def spLDb (K : PySem.W.Frag) : Sp := fun vs H Q _ => ∃ (v : V) (many : Nat) (d : PyData), vs = [v, .int (many : Int)] ∧ many ≤ 3 ∧ Dq K H v d ∧ dnOk d ∧ ∀ H', Same H H' → Q (.bl (dbQ many d)) H'
theorem pw2_shl (sc : Nat) (h : sc < 5) : (1 : Int) * 2 ^ ((sc : Int)).toNat = pw2 sc := by
  rw [Int.toNat_natCast, Int.one_mul]
  match sc, h with
  | 0, _ => rfl
  | 1, _ => rfl
  | 2, _ => rfl
  | 3, _ => rfl
  | 4, _ => rfl
theorem eqv3 (a b c m : Nat) : PyData.eqv (.list [.int (a : Int), .int (b : Int), .int (c : Int)]) (.list [.int 4, .int (m : Int), .int (m : Int)]) = (decide (a = 4) && (decide (b = m) && decide (c = m))) := by
  have e : ∀ x y : Nat, ((x : Int) == (y : Int)) = decide (x = y) := fun x y => by
    rw [Bool.eq_iff_iff, beq_iff_eq, decide_eq_true_eq]
    omega
  show (((a : Int) == ((4 : Nat) : Int)) && (((b : Int) == (m : Int)) && (((c : Int) == (m : Int)) && true))) = _
  rw [e, e, e, Bool.and_true]
theorem shaped3 (a b c : Int) : SeqAt.shaped (.list [.int a, .int b, .int c]) = true := rfl
theorem dbQ_five {many : Nat} {d0 d1 d2 d3 d4 : PyData} : dbQ many (.tuple [d0, d1, d2, d3, d4]) = (nameQ d0 && (inD 0 4 d1 && (regsQ d2 && (stakesQ many (intQ d1).toNat d3 && behindsQ many d4)))) := rfl
theorem not_tup {K : PySem.W.Frag} {H : Hp} {v : V} {d : PyData} (h : kT d = true) (x : Dq K H v d) : ∃ p xs ds, v = .ref p ∧ d = .tuple ds ∧ SqT K H p xs ∧ DqAll K H xs ds := by
  cases x with
  | tup a b => exact ⟨_, _, _, rfl, rfl, a, b⟩
  | _ => cases h
section
variable {P : Program} {w : World} {K : PySem.W.Frag} {mg : Str → Option Value} {base : Heap}
theorem ok_lstake {f : Addr} {fd : FuncData} (F : Fun K "_law_is_stake" "_law_is_stake" s_L_is_stake f fd) (gF : mg "_law_is_stake" = some (.ref f)) (b : Binds K fd ["_law_lump", "_law_wide", "_law_scale"] []) (B : Bl mg) (c_L_count : Cal P w K mg base 11 "_law_count" (spCnt19 K 9)) (c_L_span : Cal P w K mg base 9 "_law_span" (spSpan K 8)) : Cal P w K mg base 12 "_law_is_stake" (spLStake K) := by
  refine ⟨f, fd, _, F.ok sc_L_is_stake (fun vs H Q E h => ?_) (fun cdv A outer s H vs Q E hr h => ?_), gF, F.kp, b⟩
  · obtain ⟨_, _, _, _, rfl, _⟩ := h
    rfl
  · obtain ⟨v, sc, many, d, rfl, hsc, hd, q⟩ := h
    refine ⟨_, (pss_cons (ps_if (pt_cmpR op_gt (pe_c c_L_count hr (by omega) (by rfl) (pa_cons (pv 0) (pa_cons (pv 1) (pa_cons pe_int pa_nil)))) pe_int (nomark _)) (pss_one (ps_ret pe_bl)) pss_nil) (pss_cons (ps_asg (pe_c c_L_span hr (by omega) (by rfl) (pa_cons (pv 0) pa_nil)) (pg_tup rfl (pgs_cons (pg_name (i := 3) sc_L_is_stake.nd rfl (.inl rfl)) (pgs_cons (pg_name (i := 4) sc_L_is_stake.nd rfl (.inl rfl)) pgs_nil)))) (pss_cons (ps_set (i := 5) sc_L_is_stake.nd rfl (.inl rfl) (pe_op op_mul pe_int (pe_op op_shl pe_int (pv 2)))) (pss_one (ps_ret (pe_and (pe_cmpR op_le (pe_un un_neg (pv 5)) (pv 3) (nomark _)) (pe_one (pe_cmpR op_le (pv 4) (pv 5) (nomark _))))))))), ?_⟩
    refine ⟨v, rfl, .int (many : Int), rfl, v, many, 8, d, rfl, by decide, by decide, hd, fun H1 z s1 hz => ⟨_, _, rfl, rfl, _, rfl, ?_⟩⟩
    have q1 := q H1 s1
    by_cases c : 1 ≤ cntE many 8 d ∧ cntE many 8 d ≤ 40
    · have hE : isEx many d = true := by
        unfold isEx
        rw [decide_eq_true c.1, decide_eq_true c.2]
        rfl
      have := hz.1 (by omega)
      refine iteFF (decide_eq_false (by omega)) ?_
      obtain ⟨e1, e2, e3⟩ := exD_of (many := many) (d := d) (k := 8) (by omega)
      have hX : ExAt K H1 (exD 8 d) v := ExAt.ofQ (by rw [e1]; exact dq_same s1 hd)
      refine ⟨v, rfl, v, exD 8 d, many, rfl, hX, e2, by omega, fun H2 u s2 hu => ?_⟩
      obtain ⟨pu, rfl, hpu⟩ := hu
      refine ⟨pu, _, rfl, hpu, rfl, _, _, rfl, _, _, rfl, rfl, ?_⟩
      have hp2 := pw2_bnd sc
      have e2 := pw2_shl sc hsc
      refine ⟨_, rfl, _, _, rfl, rfl, ⟨by omega, by omega, by omega⟩, 500, pw2 sc, rfl, ?_, .inl ⟨by decide, by decide⟩, ?_⟩
      · show V.int (1 * 2 ^ ((sc : Int)).toNat) = _
        rw [e2]
      · refine ⟨_, rfl, _, rfl, _, rfl, _, _, rfl, rfl, _, rfl, ?_⟩
        have q2 := q H2 (s1.trans s2)
        unfold stakeD at q2
        rw [hE, Bool.true_and] at q2
        by_cases c1 : -(500 * pw2 sc) ≤ (spn (exD 8 d)).1
        · rw [decide_eq_true c1, Bool.true_and] at q2
          exact iteTT (decide_eq_true c1) ⟨_, rfl, _, rfl, _, _, rfl, rfl, q2⟩
        · rw [decide_eq_false c1, Bool.false_and] at q2
          exact iteFF (decide_eq_false c1) q2
    · have hE : isEx many d = false := by
        unfold isEx
        by_cases c1 : 1 ≤ cntE many 8 d
        · rw [decide_eq_false (show ¬ cntE many 8 d ≤ 40 from fun h => c ⟨c1, h⟩), Bool.and_false]
        · rw [decide_eq_false c1, Bool.false_and]
      unfold stakeD at q1
      rw [hE, Bool.false_and] at q1
      refine iteTT (decide_eq_true ?_) q1
      rcases Nat.eq_zero_or_pos (cntE many 8 d) with h0 | h0
      · have := hz.2 h0
        omega
      · have := hz.1 h0
        omega
theorem ok_ldb {f : Addr} {fd : FuncData} (F : Fun K "_law_is_doubter" "_law_is_doubter" s_L_is_doubter f fd) (gF : mg "_law_is_doubter" = some (.ref f)) (b : Binds K fd ["_law_lump", "_law_wide"] []) (B : Bl mg) (c_L_whole : Cal P w K mg base 1 "_law_whole" (spWhole K)) (c_L_is_stake : Cal P w K mg base 12 "_law_is_stake" (spLStake K)) (c_L_deeds_in : Cal P w K mg base 7 "_law_deeds_in" (spDdIn K 5)) : Cal P w K mg base 13 "_law_is_doubter" (spLDb K) := by
  refine ⟨f, fd, _, F.ok sc_L_is_doubter (fun vs H Q E h => ?_) (fun cdv A outer s H vs Q E hr h => ?_), gF, F.kp, b⟩
  · obtain ⟨_, _, _, rfl, _⟩ := h
    rfl
  · obtain ⟨v, many, d, rfl, hm3, hd, hnm, q⟩ := h
    refine ⟨_, (pss_cons (ps_if (PW.pt (pw_or (pt_not (pt_val (pe_callB call_isi (by rfl) B.isinstance (by decide +kernel) (pa_cons (pv 0) (pa_cons (pe_bltn (v := .ty "tuple") (by rfl) B.tuple (by decide +kernel) rfl) pa_nil))))) (pw_or (pt_cmpR op_ne (pe_callB call_len_seq (by rfl) B.len PySem.boot_len (pa_cons (pv 0) pa_nil)) pe_int (nomark _)) (pw_or1 (pt_not (pt_val (pe_callB call_isi (by rfl) B.isinstance (by decide +kernel) (pa_cons (pe_ix ix_tup (pv 0) pe_int (fun _ _ => rfl)) (pa_cons (pe_bltn (v := .ty "str") (by rfl) B.str (by decide +kernel) rfl) pa_nil))))))))) (pss_one (ps_ret pe_bl)) pss_nil) (pss_cons (ps_asg (pv 0) (pg_tup rfl (pgs_cons (pg_name (i := 2) sc_L_is_doubter.nd rfl (.inl rfl)) (pgs_cons (pg_name (i := 3) sc_L_is_doubter.nd rfl (.inr rfl)) (pgs_cons (pg_name (i := 4) sc_L_is_doubter.nd rfl (.inl rfl)) (pgs_cons (pg_name (i := 5) sc_L_is_doubter.nd rfl (.inl rfl)) (pgs_cons (pg_name (i := 6) sc_L_is_doubter.nd rfl (.inl rfl)) pgs_nil))))))) (pss_cons (ps_if (PW.pt (pw_or (pt_not (pt_chain op_le op_le pe_int (pe_callB call_len_str (by rfl) B.len PySem.boot_len (pa_cons (pv 2) pa_nil)) pe_int)) (pw_or1 (pt_not (pt_val (pe_callB (cr_all rfl) (by rfl) B.all (by decide +kernel) (pa_cons (pe_lc (own := [("_law_face", 7)]) rfl sc_L_is_doubter.nd (pi_str (pv 2)) (blkOk_by (N := N_L_is_doubter) (sc := defScope s_L_is_doubter) (by decide +kernel)) (fun _ _ _ _ _ => pg_name (i := 7) sc_L_is_doubter.nd rfl (.inl rfl)) (fun _ _ _ _ _ => pts_nil) (fun _ _ _ _ _ => pe_cmpR op_in_sign (pv 7) pe_str (by rfl))) pa_nil))))))) (pss_one (ps_ret pe_bl)) pss_nil) (pss_cons (ps_if (PW.pt (pw_or (pt_not (pt_val (pe_c c_L_whole hr (by omega) (by rfl) (pa_cons (pv 3) (pa_cons pe_int (pa_cons pe_int pa_nil)))))) (pw_or1 (pt_not (pt_val (pe_callB (cr_all rfl) (by rfl) B.all (by decide +kernel) (pa_cons (pe_lc (own := [("_law_part", 8)]) rfl sc_L_is_doubter.nd (pi_tup (pe_tup (pa_cons (pv 4) (pa_cons (pv 5) (pa_cons (pv 6) pa_nil))))) (blkOk_by (N := N_L_is_doubter) (sc := defScope s_L_is_doubter) (by decide +kernel)) (fun _ _ _ _ _ => pg_name (i := 8) sc_L_is_doubter.nd rfl (.inl rfl)) (fun _ _ _ _ _ => pts_nil) (fun _ _ _ _ _ => pe_callB (isiK K) (by rfl) B.isinstance (by decide +kernel) (pa_cons (pv 8) (pa_cons (pe_bltn (v := .ty "tuple") (by rfl) B.tuple (by decide +kernel) rfl) pa_nil)))) pa_nil))))))) (pss_one (ps_ret pe_bl)) pss_nil) (pss_cons (ps_if (pt_cmpR (op_neD hr.units) (pe_lst (pa_cons (pe_callB call_len_seq (by rfl) B.len PySem.boot_len (pa_cons (pv 4) pa_nil)) (pa_cons (pe_callB call_len_seq (by rfl) B.len PySem.boot_len (pa_cons (pv 5) pa_nil)) (pa_cons (pe_callB call_len_seq (by rfl) B.len PySem.boot_len (pa_cons (pv 6) pa_nil)) pa_nil)))) (pe_lst (pa_cons pe_int (pa_cons (pv 1) (pa_cons (pv 1) pa_nil)))) (nomark _)) (pss_one (ps_ret pe_bl)) pss_nil) (pss_cons (ps_if (pt_not (pt_val (pe_callB (cr_all rfl) (by rfl) B.all (by decide +kernel) (pa_cons (pe_lc (own := [("_law_number", 9)]) rfl sc_L_is_doubter.nd (pi_tup (pv 4)) (blkOk_by (N := N_L_is_doubter) (sc := defScope s_L_is_doubter) (by decide +kernel)) (fun _ _ _ _ _ => pg_name (i := 9) sc_L_is_doubter.nd rfl (.inl rfl)) (fun _ _ _ _ _ => pts_nil) (fun _ _ _ _ _ => pe_c c_L_whole hr (by omega) (by rfl) (pa_cons (pv 9) (pa_cons (pe_un un_neg pe_int) (pa_cons pe_int pa_nil))))) pa_nil)))) (pss_one (ps_ret pe_bl)) pss_nil) (pss_cons (ps_if (pt_not (pt_val (pe_callB (cr_all rfl) (by rfl) B.all (by decide +kernel) (pa_cons (pe_lc (own := [("_law_stake_here", 10)]) rfl sc_L_is_doubter.nd (pi_tup (pv 5)) (blkOk_by (N := N_L_is_doubter) (sc := defScope s_L_is_doubter) (by decide +kernel)) (fun _ _ _ _ _ => pg_name (i := 10) sc_L_is_doubter.nd rfl (.inl rfl)) (fun _ _ _ _ _ => pts_nil) (fun _ _ _ _ _ => pe_c c_L_is_stake hr (by omega) (by rfl) (pa_cons (pv 10) (pa_cons (pv 1) (pa_cons (pv 3) pa_nil))))) pa_nil)))) (pss_one (ps_ret pe_bl)) pss_nil) (pss_one (ps_ret (pe_callB (cr_all rfl) (by rfl) B.all (by decide +kernel) (pa_cons (pe_lc (own := [("_law_deeds_here", 11)]) rfl sc_L_is_doubter.nd (pi_tup (pv 6)) (blkOk_by (N := N_L_is_doubter) (sc := defScope s_L_is_doubter) (by decide +kernel)) (fun _ _ _ _ _ => pg_name (i := 11) sc_L_is_doubter.nd rfl (.inl rfl)) (fun _ _ _ _ _ => pts_nil) (fun _ _ _ _ _ => pe_cmpR op_lt (pe_c c_L_deeds_in hr (by omega) (by rfl) (pa_cons (pv 11) (pa_cons (pv 1) (pa_cons pe_int pa_nil)))) pe_int (nomark _))) pa_nil))))))))))), ?_⟩
    refine ⟨v, rfl, v, .ty "tuple", _, _, _, rfl, .ty _, Dq.tyx hd, kit_ty (kit_tup d), _, rfl, ?_⟩
    cases hd with
    | @tup p xs ds hp hds =>
      have hlx := dqall_len hds
      refine iteFF rfl ⟨.ref p, rfl, p, _, rfl, .inr hp, rfl, _, rfl, ?_⟩
      by_cases c : ds.length = 5
      · refine iteFF (by rw [hlx, c]; rfl) ?_
        obtain ⟨d0, d1, d2, d3, d4, v0, v1, v2, v3, v4, rfl, rfl, h0, h1, h2, h3, h4⟩ := dq_five hds c
        rw [dbQ_five] at q
        have hnm : strOk d0 := hnm
        refine ⟨.ref p, rfl, p, _, 0, _, rfl, rfl, hp, at_of (j := 0) rfl rfl, v0, .ty "str", _, _, _, rfl, .ty _, Dq.tyx h0, kit_ty (kit_str d0), _, rfl, ?_⟩
        cases h0 with
        | str z =>
          refine iteFF rfl ?_
          have hz : z.length ≤ 100000 := hnm
          refine ⟨.ref p, rfl, p, _, rfl, hp, rfl, _, _, rfl, _, _, rfl, _, _, rfl, _, _, rfl, _, _, rfl, rfl, ?_⟩
          have bad0 : nameD z = false → Q (.bl false) H := fun h => by
            have := q _ (Same.refl _)
            rw [show nameQ (.str z) = nameD z from rfl, h, Bool.false_and] at this
            exact this
          refine ⟨_, rfl, z, rfl, Nat.le_trans hz (by decide), _, _, rfl, rfl, _, rfl, ?_⟩
          by_cases c1 : 1 ≤ z.length
          · refine iteTT (decide_eq_true (by omega)) ⟨_, _, rfl, rfl, _, rfl, ?_⟩
            by_cases c2 : z.length ≤ 8
            · rw [decide_eq_true (show ((z.length : Nat) : Int) ≤ 8 by omega)]
              refine iteFF rfl ?_
              refine ⟨_, rfl, z, rfl, fun D nD => lc_it walk_str (fun i H' => Same H H' ∧ H' D = some (.lst (((z.cps.toList.map fun c => decide (c ∈ ("abcdefghijklmnopqrstuvwxyz" : Str).cps.toList)).take i).map V.bl))) ⟨same_new nD, upd_same⟩ (fun i H' _ h => trivial) ?_ ?_⟩
              · rintro i y H2 H3 hi ⟨sm, hD⟩ ⟨rfl, c, hc, rfl⟩
                refine ⟨rfl, tYes_in ⟨_, rfl, c, _, rfl, rfl, _, hD, ?_, fun b' o eb => ?_, ?_⟩⟩
                · rw [List.length_map, List.length_take, List.length_map]
                  exact small1000 (by have : z.cps.toList.length = z.length := Array.length_toList; omega)
                · rw [upd_ne (ne_of_none eb nD)]
                  exact sm _ _ eb
                · rw [upd_same, List.take_add_one, List.getElem?_map, Array.getElem?_toList, hc, List.map_append]
                  rfl
              · rintro H2 ⟨sm, hD⟩
                rw [List.take_of_length_le (by rw [List.length_map, Array.length_toList]; exact Nat.le_refl _)] at hD
                have enm : nameD z = ((z.cps.toList.map fun c => decide (c ∈ ("abcdefghijklmnopqrstuvwxyz" : Str).cps.toList)).all id) := by
                  unfold nameD
                  rw [decide_eq_true c1, decide_eq_true c2, Bool.true_and, Bool.true_and, List.all_map]
                  rfl
                refine ⟨D, _, rfl, SqL.of hD, _, rfl, ?_⟩
                rw [← enm]
                have q2 : ∀ H', Same H2 H' → Q (.bl (nameD z && (inD 0 4 d1 && (regsQ d2 && (stakesQ many (intQ d1).toNat d3 && behindsQ many d4))))) H' := fun H' s' => q H' (sm.trans s')
                cases en : nameD z with
                | false =>
                  refine iteTT rfl ?_
                  have := q2 H2 (Same.refl _)
                  rw [en, Bool.false_and] at this
                  exact this
                | true =>
                  refine iteFF rfl ?_
                  rw [en, Bool.true_and] at q2
                  have h1 := dq_same sm h1
                  have h2 := dq_same sm h2
                  have h3 := dq_same sm h3
                  have h4 := dq_same sm h4
                  clear q bad0 hD
                  refine ⟨v1, rfl, v1, 0, 4, d1, rfl, h1, _, rfl, ?_⟩
                  cases ci : inD 0 4 d1 with
                  | false =>
                    refine iteTT rfl (iteTT rfl ?_)
                    have := q2 H2 (Same.refl _)
                    rw [ci, Bool.false_and] at this
                    exact this
                  | true =>
                    rw [ci, Bool.true_and] at q2
                    obtain ⟨sc', e, h0', h4'⟩ := inD_int ci
                    subst e
                    cases h1
                    obtain ⟨sn, hsn⟩ : ∃ sn : Nat, sc' = (sn : Int) := ⟨sc'.toNat, by omega⟩
                    subst hsn
                    rw [show (intQ (.int (sn : Int))).toNat = sn from Int.toNat_natCast sn] at q2
                    refine iteFF rfl ⟨v2, rfl, v3, rfl, v4, rfl, (by show 3 ≤ sizeLine; decide), fun t nt => ?_⟩
                    have s3 : Same H2 (upd H2 t (.tup [v2, v3, v4])) := same_new nt
                    have et : (upd H2 t (.tup [v2, v3, v4])) t = some (.tup [v2, v3, v4]) := upd_same
                    generalize upd H2 t (.tup [v2, v3, v4]) = H3 at s3 et ⊢
                    refine ⟨t, rfl, ⟨_, SqT.of et⟩, fun D2 nD2 => ?_⟩
                    have hq3 : DqAll K H3 [v2, v3, v4] [d2, d3, d4] := .cons (dq_same s3 h2) (.cons (dq_same s3 h3) (.cons (dq_same s3 h4) .nil))
                    refine lc_tup (xs := [v2, v3, v4]) (fun i H' => Same H3 H' ∧ H' D2 = some (.lst ((([d2, d3, d4].map kT).take i).map V.bl))) ⟨same_new nD2, upd_same⟩ (fun i H' _ h => SqT.of (h.1 _ _ et)) ?_ ?_
                    · rintro i x1 H4 hx1 ⟨s4, hD2⟩
                      obtain ⟨dd, hdd, hdp⟩ := dqall_get hq3 hx1
                      have hi := (List.getElem?_eq_some_iff.mp hdd).1
                      simp only [List.length_cons, List.length_nil] at hi
                      refine ⟨rfl, tYes_in ⟨x1, rfl, x1, .ty "tuple", _, _, _, rfl, .ty _, Dq.tyx (dq_same s4 hdp), kit_ty (kit_tup dd), _, hD2, ?_, fun b' o eb => ?_, ?_⟩⟩
                      · rw [List.length_map, List.length_take]
                        exact small1000 (by omega)
                      · rw [upd_ne (ne_of_none eb nD2)]
                        exact s4 _ _ eb
                      · rw [upd_same, List.take_add_one, List.getElem?_map, hdd, List.map_append]
                        rfl
                    · rintro H4 ⟨s4, hD2⟩
                      refine ⟨D2, [kT d2, kT d3, kT d4], rfl, SqL.of hD2, _, rfl, ?_⟩
                      have s24 := s3.trans s4
                      cases ck : (kT d2 && (kT d3 && kT d4)) with
                      | false =>
                        refine iteTT (by show (!(kT d2 && (kT d3 && (kT d4 && true)))) = true; rw [Bool.and_true, ck]; rfl) ?_
                        have q3 := q2 H4 s24
                        have e : (regsQ d2 && (stakesQ many sn d3 && behindsQ many d4)) = false := by
                          cases k2 : kT d2 with
                          | false => rw [show regsQ d2 = false by cases d2 <;> first | rfl | cases k2]; rfl
                          | true =>
                            cases k3 : kT d3 with
                            | false => rw [show stakesQ many sn d3 = false from (by cases d3 <;> first | rfl | cases k3), Bool.false_and, Bool.and_false]
                            | true =>
                              cases k4 : kT d4 with
                              | false => rw [show behindsQ many d4 = false from (by cases d4 <;> first | rfl | cases k4), Bool.and_false, Bool.and_false]
                              | true => rw [k2, k3, k4] at ck; cases ck
                        rw [e] at q3
                        exact q3
                      | true =>
                        refine iteFF (by show (!(kT d2 && (kT d3 && (kT d4 && true)))) = false; rw [Bool.and_true, ck]; rfl) ?_
                        rw [Bool.and_eq_true, Bool.and_eq_true] at ck
                        obtain ⟨p2, x2, e2, rfl, rfl, hp2, ha2⟩ := not_tup ck.1 (dq_same s24 h2)
                        obtain ⟨p3, x3, e3, rfl, rfl, hp3, ha3⟩ := not_tup ck.2.1 (dq_same s24 h3)
                        obtain ⟨p4, x4, e4, rfl, rfl, hp4, ha4⟩ := not_tup ck.2.2 (dq_same s24 h4)
                        have l2 := dqall_len ha2
                        have l3 := dqall_len ha3
                        have l4 := dqall_len ha4
                        have q4 : ∀ H', Same H4 H' → Q (.bl (regsD e2 && ((decide (e3.length = many) && e3.all (stakeD many sn)) && (decide (e4.length = many) && e4.all fun d => (cntB many 4 d).isSome)))) H' := fun H' s' => q2 H' (s24.trans s')
                        clear q2
                        refine ⟨.ref p2, rfl, p2, _, rfl, .inr hp2, .ref p3, rfl, p3, _, rfl, .inr hp3, .ref p4, rfl, p4, _, rfl, .inr hp4, (by show 3 ≤ sizeLine; decide), fun l nl => ⟨_, rfl, _, rfl, (by show 3 ≤ sizeLine; decide), fun l' nl' => ?_⟩⟩
                        have el' : (upd (upd H4 l (.lst [.int (x2.length : Nat), .int (x3.length : Nat), .int (x4.length : Nat)])) l' (.lst [.int 4, .int (many : Int), .int (many : Int)])) l' = some (.lst [.int 4, .int (many : Int), .int (many : Int)]) := upd_same
                        have el : (upd (upd H4 l (.lst [.int (x2.length : Nat), .int (x3.length : Nat), .int (x4.length : Nat)])) l' (.lst [.int 4, .int (many : Int), .int (many : Int)])) l = some (.lst [.int (x2.length : Nat), .int (x3.length : Nat), .int (x4.length : Nat)]) := same_new nl' _ _ upd_same
                        have s5 : Same H4 (upd (upd H4 l (.lst [.int (x2.length : Nat), .int (x3.length : Nat), .int (x4.length : Nat)])) l' (.lst [.int 4, .int (many : Int), .int (many : Int)])) := (same_new nl).trans (same_new nl')
                        refine ⟨_, _, .lst (SqL.of el) (.cons (.int _) (.cons (.int _) (.cons (.int _) .nil))), .lst (SqL.of el') (.cons (.int _) (.cons (.int _) (.cons (.int _) .nil))), shaped3 _ _ _, shaped3 _ _ _, ?_⟩
                        rw [eqv3]
                        generalize upd (upd H4 l (.lst [.int (x2.length : Nat), .int (x3.length : Nat), .int (x4.length : Nat)])) l' (.lst [.int 4, .int (many : Int), .int (many : Int)]) = H5 at s5 ⊢
                        refine ⟨_, rfl, ?_⟩
                        have q5 : ∀ H', Same H5 H' → Q (.bl (regsD e2 && ((decide (e3.length = many) && e3.all (stakeD many sn)) && (decide (e4.length = many) && e4.all fun d => (cntB many 4 d).isSome)))) H' := fun H' s' => q4 H' (s5.trans s')
                        clear q4
                        by_cases cl : x2.length = 4 ∧ x3.length = many ∧ x4.length = many
                        · obtain ⟨cl2, cl3, cl4⟩ := cl
                          refine iteFF (by rw [decide_eq_true cl2, decide_eq_true cl3, decide_eq_true cl4]; rfl) ?_
                          unfold regsD at q5
                          rw [decide_eq_true (show e2.length = 4 by omega), decide_eq_true (show e3.length = many by omega), decide_eq_true (show e4.length = many by omega), Bool.true_and, Bool.true_and, Bool.true_and] at q5
                          have hp2 := same_sqt s5 hp2
                          have hp3 := same_sqt s5 hp3
                          have hp4 := same_sqt s5 hp4
                          have ha2 := dqall_same s5 ha2
                          have ha3 := dqall_same s5 ha3
                          have ha4 := dqall_same s5 ha4
                          refine ⟨.ref p2, rfl, p2, rfl, ⟨_, hp2⟩, fun D3 nD3 => ?_⟩
                          refine lc_tup (xs := x2) (fun i H' => Same H5 H' ∧ H' D3 = some (.lst (((e2.map (inD (-1000) 1000)).take i).map V.bl))) ⟨same_new nD3, upd_same⟩ (fun i H' _ h => same_sqt h.1 hp2) ?_ ?_
                          · rintro i y H6 hy ⟨s6, hD3⟩
                            have hi := (List.getElem?_eq_some_iff.mp hy).1
                            obtain ⟨dd, hdd, hdp⟩ := dqall_get ha2 hy
                            refine ⟨rfl, tYes_in ⟨y, rfl, _, rfl, y, -1000, 1000, dd, rfl, dq_same s6 hdp, _, hD3, ?_, fun b' o eb => ?_, ?_⟩⟩
                            · rw [List.length_map, List.length_take]
                              exact small1000 (by omega)
                            · rw [upd_ne (ne_of_none eb nD3)]
                              exact s6 _ _ eb
                            · rw [upd_same, List.take_add_one, List.getElem?_map, hdd, List.map_append]
                              rfl
                          · rintro H6 ⟨s6, hD3⟩
                            rw [List.take_of_length_le (by rw [List.length_map]; omega)] at hD3
                            refine ⟨D3, _, rfl, SqL.of hD3, _, rfl, ?_⟩
                            rw [List.all_map]
                            cases cr : e2.all (inD (-1000) 1000) with
                            | false =>
                              refine iteTT (by show (!(e2.all (inD (-1000) 1000))) = true; rw [cr]; rfl) ?_
                              have := q5 H6 s6
                              rw [cr, Bool.false_and] at this
                              exact this
                            | true =>
                              refine iteFF (by show (!(e2.all (inD (-1000) 1000))) = false; rw [cr]; rfl) ?_
                              rw [cr, Bool.true_and] at q5
                              have hp3 := same_sqt s6 hp3
                              have ha3 := dqall_same s6 ha3
                              refine ⟨.ref p3, rfl, p3, rfl, ⟨_, hp3⟩, fun D4 nD4 => ?_⟩
                              refine lc_tup (xs := x3) (fun i H' => Same H6 H' ∧ H' D4 = some (.lst (((e3.map (stakeD many sn)).take i).map V.bl))) ⟨same_new nD4, upd_same⟩ (fun i H' _ h => same_sqt h.1 hp3) ?_ ?_
                              · rintro i y H7 hy ⟨s7, hD4⟩
                                have hi := (List.getElem?_eq_some_iff.mp hy).1
                                obtain ⟨dd, hdd, hdp⟩ := dqall_get ha3 hy
                                refine ⟨rfl, tYes_in ⟨y, rfl, _, rfl, _, rfl, y, sn, many, dd, rfl, by omega, dq_same s7 hdp, fun H8 s8 => ⟨_, s8 _ _ hD4, ?_, fun b' o eb => ?_, ?_⟩⟩⟩
                                · rw [List.length_map, List.length_take]
                                  exact small1000 (by omega)
                                · rw [upd_ne (ne_of_none eb nD4)]
                                  exact s8 _ _ (s7 _ _ eb)
                                · rw [upd_same, List.take_add_one, List.getElem?_map, hdd, List.map_append]
                                  rfl
                              · rintro H7 ⟨s7, hD4⟩
                                rw [List.take_of_length_le (by rw [List.length_map]; omega)] at hD4
                                refine ⟨D4, _, rfl, SqL.of hD4, _, rfl, ?_⟩
                                rw [List.all_map]
                                have q7 : ∀ H', Same H7 H' → Q (.bl (e3.all (stakeD many sn) && e4.all fun d => (cntB many 4 d).isSome)) H' := fun H' s' => q5 H' ((s6.trans s7).trans s')
                                cases cs : e3.all (stakeD many sn) with
                                | false =>
                                  refine iteTT (by show (!(e3.all (stakeD many sn))) = true; rw [cs]; rfl) ?_
                                  have := q7 H7 (Same.refl _)
                                  rw [cs, Bool.false_and] at this
                                  exact this
                                | true =>
                                  refine iteFF (by show (!(e3.all (stakeD many sn))) = false; rw [cs]; rfl) ?_
                                  rw [cs, Bool.true_and] at q7
                                  have hp4 := same_sqt (s6.trans s7) hp4
                                  have ha4 := dqall_same (s6.trans s7) ha4
                                  refine ⟨.ref p4, rfl, p4, rfl, ⟨_, hp4⟩, fun D5 nD5 => ?_⟩
                                  refine lc_tup (xs := x4) (fun i H' => Same H7 H' ∧ H' D5 = some (.lst (((e4.map fun d => (cntB many 4 d).isSome).take i).map V.bl))) ⟨same_new nD5, upd_same⟩ (fun i H' _ h => same_sqt h.1 hp4) ?_ ?_
                                  · rintro i y H8 hy ⟨s8, hD5⟩
                                    have hi := (List.getElem?_eq_some_iff.mp hy).1
                                    obtain ⟨dd, hdd, hdp⟩ := dqall_get ha4 hy
                                    refine ⟨rfl, tYes_in ⟨y, rfl, _, rfl, y, (many : Int), 4, dd, rfl, by decide, by decide, dq_same s8 hdp, fun H9 z9 s9 hz9 => ⟨_, _, rfl, rfl, _, s9 _ _ hD5, ?_, fun b' o eb => ?_, ?_⟩⟩⟩
                                    · rw [List.length_map, List.length_take]
                                      exact small1000 (by omega)
                                    · rw [upd_ne (ne_of_none eb nD5)]
                                      exact s9 _ _ (s8 _ _ eb)
                                    · rw [upd_same, List.take_add_one, List.getElem?_map, hdd, List.map_append]
                                      have e9 : decide (z9 < 21) = (cntB many 4 dd).isSome := by
                                        obtain ⟨a0, a1, a2⟩ := hz9
                                        cases hc : cntB many 4 dd with
                                        | none =>
                                          have := a2 hc
                                          exact decide_eq_false (by omega)
                                        | some n =>
                                          have := a1 n hc
                                          have h20 : n ≤ 20 := by
                                            cases dd with
                                            | tuple ds => exact sumB_le (t := 0) hc (by decide)
                                            | _ => cases hc
                                          exact decide_eq_true (by omega)
                                      show some (HO.lst (_ ++ [V.bl (decide (z9 < 21))])) = _
                                      rw [e9]
                                      rfl
                                  · rintro H8 ⟨s8, hD5⟩
                                    rw [List.take_of_length_le (by rw [List.length_map]; omega)] at hD5
                                    refine ⟨D5, _, rfl, SqL.of hD5, ?_⟩
                                    rw [List.all_map]
                                    exact q7 H8 s8
                        · refine iteTT ?_ ?_
                          · have : ¬ (decide (x2.length = 4) && (decide (x3.length = many) && decide (x4.length = many))) = true := by
                              rw [Bool.and_eq_true, Bool.and_eq_true, decide_eq_true_eq, decide_eq_true_eq, decide_eq_true_eq]
                              exact cl
                            rw [Bool.not_eq_true] at this
                            show (!(decide (x2.length = 4) && (decide (x3.length = many) && decide (x4.length = many)))) = true
                            rw [this]
                            rfl
                          · have q6 := q5 H5 (Same.refl _)
                            have e : (regsD e2 && ((decide (e3.length = many) && e3.all (stakeD many sn)) && (decide (e4.length = many) && e4.all fun d => (cntB many 4 d).isSome))) = false := by
                              by_cases a2 : x2.length = 4
                              · by_cases a3 : x3.length = many
                                · have a4 : ¬ x4.length = many := fun h => cl ⟨a2, a3, h⟩
                                  rw [decide_eq_false (show ¬ e4.length = many by omega), Bool.false_and, Bool.and_false, Bool.and_false]
                                · rw [decide_eq_false (show ¬ e3.length = many by omega), Bool.false_and, Bool.false_and, Bool.and_false]
                              · unfold regsD
                                rw [decide_eq_false (show ¬ e2.length = 4 by omega), Bool.false_and, Bool.false_and]
                            rw [e] at q6
                            exact q6
            · rw [decide_eq_false (show ¬ ((z.length : Nat) : Int) ≤ 8 by omega)]
              refine iteTT rfl (iteTT rfl (bad0 ?_))
              unfold nameD
              rw [decide_eq_true c1, decide_eq_false c2]
              rfl
          · refine iteFF (decide_eq_false (by omega)) ⟨_, rfl, iteTT rfl (iteTT rfl (bad0 ?_))⟩
            unfold nameD
            rw [decide_eq_false c1]
            rfl
        | _ => exact iteTT rfl (q _ (Same.refl _))
      · refine iteTT (by rw [hlx]; simp; omega) (iteTT rfl ?_)
        have := q H (Same.refl _)
        have e : dbQ many (.tuple ds) = false := dbQl_len c
        rw [e] at this
        exact this
    | _ => exact iteTT rfl (iteTT rfl (q _ (Same.refl _)))
end
end NG


set_option maxHeartbeats 2000000
namespace NG
open PySem PySem.Spec PyProof.Rows L2
/-! ### a truth on either side of a difference -/
def rSB : R2 := fun x y H Q => ∃ i j, ((x = .int i ∧ (y = .int j ∨ ∃ b, y = .bl b ∧ j = b2 b)) ∨ (∃ b, x = .bl b ∧ i = b2 b ∧ y = .int j)) ∧ Q (.int (i - j)) H
theorem op_subIB2 {X : Cx} : OpR X (binaryOp .Sub) rSB := by
  intro pins s σ H x y v u Q I rx ry h
  obtain ⟨i, j, h, q⟩ := h
  rcases h with ⟨rfl, rfl | ⟨b, rfl, rfl⟩⟩ | ⟨b, rfl, rfl, rfl⟩
  · exact op_sub (X := X) pins s σ H _ _ v u Q I rx ry ⟨i, j, rfl, rfl, q⟩
  · obtain ⟨t, rfl⟩ := rx
    obtain rfl : u = Value.bool b := ry
    exact PySem.IntBool.sub_int_bool ⟨.int _, H, I.tok _, ⟨_, rfl⟩, q⟩
  · exact op_subIB (X := X) pins s σ H _ _ v u Q I rx ry ⟨b2 b, j, rfl, .inr ⟨b, rfl, rfl⟩, q⟩
/-! ### t != () -/
def rNeE (K : PySem.W.Frag) : R2 := fun x y H Q => ∃ a b xs, x = .ref a ∧ y = .ref b ∧ SqT K H a xs ∧ SqT K H b [] ∧ Q (.bl (!xs.isEmpty)) H
theorem op_neE {X : Cx} (hu : X.A.units + 64 < cLine) : OpR X (compareOp .NotEq) (rNeE X.K) := by
  intro pins s σ H x y v u Q I rx ry h
  obtain ⟨a, b, xs, rfl, rfl, ha, hb, q⟩ := h
  cases rx
  cases ry
  obtain ⟨its, r1, p1, _⟩ := I.tuple ha
  obtain ⟨its2, r2, p2, _⟩ := I.tuple hb
  cases r2
  refine PySem.SeqAt.RcNeAt.tuples (e := fun _ => true) p1 p2 (by omega) (fun j h1 h2 => absurd h2 (by simp)) X.prog X.w _ _ ⟨.bl (!xs.isEmpty), H, I, ?_, q⟩
  have l := r1.length
  show Value.bool _ = Value.bool _
  cases xs with
  | nil => cases r1; rfl
  | cons z zs =>
    cases r1 with
    | cons _ _ => rfl
/-! ### single letters joined -/
theorem join_ones : ∀ cs : List Nat, TL.joinL [] (cs.map fun c => [c]) = cs
  | [] => rfl
  | [c] => rfl
  | c :: d :: r => by
    show [c] ++ ([] ++ TL.joinL [] ((d :: r).map fun c => [c])) = _
    rw [join_ones (d :: r)]
    rfl
theorem join_letters (cs : List Nat) : Txt.join "" (cs.map fun c => (⟨#[c]⟩ : Str)) = ⟨cs.toArray⟩ := by
  have h := SX.join_S [] (cs.map fun c => [c])
  rw [join_ones, List.map_map] at h
  exact h
theorem nameD_of {cs : List Nat} (h1 : 1 ≤ cs.length) (h8 : cs.length ≤ 8) (hc : ∀ c ∈ cs, c ∈ ("abcdefghijklmnopqrstuvwxyz" : Str).cps.toList) : nameD ⟨cs.toArray⟩ = true := by
  unfold nameD
  have e : (⟨cs.toArray⟩ : Str).length = cs.length := List.size_toArray
  rw [e, decide_eq_true h1, decide_eq_true h8, Bool.true_and, Bool.true_and]
  show (cs.toArray.toList.all _) = true
  rw [List.all_eq_true]
  exact fun c h => decide_eq_true (hc c h)
theorem letters_small : ∀ c ∈ ("abcdefghijklmnopqrstuvwxyz" : Str).cps.toList, c < 16 ^ 8 := by decide
end NG

namespace NG
open PySem PySem.Spec PyProof.Rows L2
def spLName (K : PySem.W.Frag) : Sp := fun vs H Q _ => ∃ (a : Addr) (n : Nat), vs = [.ref a] ∧ HandAt H a n ∧ n ≤ 999998000 ∧ ∀ H' z, But a H H' → HandAt H' a (n + 12) → nameD z = true → (z.cps.toList.all fun c => decide (c < 16 ^ 8)) = true → z.cps.size ≤ 10 → Q (.str z) H'
def namesL : List Str := ["out", "one", "in", "house", "doubter", "stake", "behind", "when"]
section
variable {P : Program} {w : World} {K : PySem.W.Frag} {mg : Str → Option Value} {base : Heap}
theorem ok_lname {f : Addr} {fd : FuncData} (F : Fun K "_law_name" "_law_name" s_L_name f fd) (gF : mg "_law_name" = some (.ref f)) (b : Binds K fd ["_law_hand_here"] []) (B : Bl mg) (c_L_take : Cal P w K mg base 1 "_law_take" spTake) (c_L_of : Cal P w K mg base 2 "_law_of" (spOf K)) : Cal P w K mg base 3 "_law_name" (spLName K) := by
  refine ⟨f, fd, _, F.ok sc_L_name (fun vs H Q E h => ?_) (fun cdv A outer s H vs Q E hr h => ?_), gF, F.kp, b⟩
  · obtain ⟨_, _, rfl, _⟩ := h
    rfl
  · obtain ⟨a, n, rfl, hh, hn, q⟩ := h
    refine ⟨_, (pss_cons (ps_set (i := 1) sc_L_name.nd rfl (.inl rfl) (pe_lst (pa_cons pe_str (pa_cons pe_str (pa_cons pe_str (pa_cons pe_str (pa_cons pe_str (pa_cons pe_str (pa_cons pe_str (pa_cons pe_str pa_nil)))))))))) (pss_cons (ps_if (pt_cmpR op_eq (pe_c c_L_take hr (by omega) (by rfl) (pa_cons (pv 0) (pa_cons pe_int pa_nil))) pe_int (nomark _)) (pss_one (ps_ret (pe_c c_L_of hr (by omega) (by rfl) (pa_cons (pv 0) (pa_cons (pv 1) pa_nil))))) pss_nil) (pss_cons (ps_asg (pe_tup (pa_cons pe_str (pa_cons (pe_op op_add pe_int (pe_c c_L_take hr (by omega) (by rfl) (pa_cons (pv 0) (pa_cons pe_int pa_nil)))) pa_nil))) (pg_tup rfl (pgs_cons (pg_name (i := 2) sc_L_name.nd rfl (.inr rfl)) (pgs_cons (pg_name (i := 3) sc_L_name.nd rfl (.inl rfl)) pgs_nil)))) (pss_one (ps_ret (pe_bm PySem.F.plainAttrs_str PySem.F.slot_str_join PySem.F.type_str_join mt_join pe_str (pa_cons (pe_lc (own := [("_law_turn", 4)]) rfl sc_L_name.nd (pi_range1 rfl B.range (pa_cons (pv 3) pa_nil)) (blkOk_by (N := N_L_name) (sc := defScope s_L_name) (by decide +kernel)) (fun _ _ _ _ _ => pg_name (i := 4) sc_L_name.nd rfl (.inl rfl)) (fun _ _ _ _ _ => pts_nil) (fun _ _ _ _ _ => pe_ix ix_str (pv 2) (pe_c c_L_take hr (by omega) (by rfl) (pa_cons (pv 0) (pa_cons pe_int pa_nil))) (fun _ _ => rfl))) pa_nil))))))), ?_⟩
    refine ⟨(by show 8 ≤ sizeLine; decide), fun l nl => ?_⟩
    have s1 : Same H (upd H l (.lst (namesL.map V.str))) := same_new nl
    have el : (upd H l (.lst (namesL.map V.str))) l = some (.lst (namesL.map V.str)) := upd_same
    have hla : l ≠ a := hh.ne nl
    change upd H l (.lst [.str "out", .str "one", .str "in", .str "house", .str "doubter", .str "stake", .str "behind", .str "when"]) l = some (.lst (namesL.map V.str)) at el
    change Same H (upd H l (.lst [.str "out", .str "one", .str "in", .str "house", .str "doubter", .str "stake", .str "behind", .str "when"])) at s1
    generalize upd H l (.lst [.str "out", .str "one", .str "in", .str "house", .str "doubter", .str "stake", .str "behind", .str "when"]) = H1 at s1 el ⊢
    have hh1 := hh.same s1
    refine ⟨.ref a, rfl, a, 3, n, rfl, by decide, by decide, hh1, by omega, fun H2 r b2 hh2 r0 r1 => ⟨rfl, _, rfl, iteD (fun c => ?_) (fun c => ?_)⟩⟩
    · have el2 := b2 _ _ hla el
      refine ⟨.ref a, rfl, .ref l, rfl, a, l, _, _, rfl, Ne.symm hla, el2, by decide, by decide, hh2, by omega, fun H3 v b3 hh3 hv => ?_⟩
      obtain ⟨z, hz, rfl⟩ := List.mem_map.mp hv
      have key : nameD z = true ∧ (z.cps.toList.all fun c => decide (c < 16 ^ 8)) = true ∧ z.cps.size ≤ 10 := by
        simp only [namesL, List.mem_cons, List.not_mem_nil, or_false] at hz
        rcases hz with rfl | rfl | rfl | rfl | rfl | rfl | rfl | rfl <;> decide
      exact q _ z (((But.of s1).trans b2).trans b3) (hh3.le (by omega)) key.1 key.2.1 key.2.2
    · refine ⟨.ref a, rfl, a, 8, _, rfl, by decide, by decide, hh2, by omega, fun H3 r2 b3 hh3 r20 r21 => ⟨_, _, rfl, rfl, (by show 2 ≤ sizeLine; decide), fun t nt => ?_⟩⟩
      have s4 : Same H3 (upd H3 t (.tup [.str "abcdefghijklmnopqrstuvwxyz", .int (1 + r2)])) := same_new nt
      have et : (upd H3 t (.tup [.str "abcdefghijklmnopqrstuvwxyz", .int (1 + r2)])) t = some (.tup [.str "abcdefghijklmnopqrstuvwxyz", .int (1 + r2)]) := upd_same
      generalize upd H3 t (.tup [.str "abcdefghijklmnopqrstuvwxyz", .int (1 + r2)]) = H4 at s4 et ⊢
      refine ⟨t, _, rfl, SqT.of et, rfl, _, _, rfl, _, _, rfl, rfl, ?_⟩
      have hh4 := hh3.same s4
      have b04 := (((But.of (a := a) s1).trans b2).trans b3).trans (But.of s4)
      refine ⟨rfl, _, rfl, _, rfl, by omega, by omega, fun D nD => ?_⟩
      have hDa : D ≠ a := hh4.ne nD
      have nDH : H D = none := by
        cases e : H D with
        | none => rfl
        | some o => rw [b04 _ _ hDa e] at nD; cases nD
      refine lc_range (n := (1 + r2).toNat) (fun i H' => But a H H' ∧ HandAt H' a (n + 1 + 1 + i) ∧ ∃ cs : List Nat, H' D = some (.lst (cs.map fun c => V.str ⟨#[c]⟩)) ∧ cs.length = i ∧ ∀ c ∈ cs, c ∈ ("abcdefghijklmnopqrstuvwxyz" : Str).cps.toList) ⟨b04.trans (But.new nD), hh4.new nD, [], upd_same, rfl, fun _ h => by cases h⟩ ?_ ?_
      · rintro i H5 hi ⟨b5, hh5, cs, hD, hcl, hcs⟩
        refine ⟨rfl, tYes_in ⟨_, rfl, .ref a, rfl, a, 26, _, rfl, by decide, by decide, hh5, by omega, fun H6 r6 b6 hh6 r60 r61 => ?_⟩⟩
        obtain ⟨m, rfl⟩ : ∃ m : Nat, r6 = (m : Int) := ⟨r6.toNat, by omega⟩
        have hm : m < ("abcdefghijklmnopqrstuvwxyz" : Str).cps.toList.length := by
          show m < 26
          omega
        refine ⟨"abcdefghijklmnopqrstuvwxyz", (m : Int), ("abcdefghijklmnopqrstuvwxyz" : Str).cps.toList[m], rfl, rfl, by decide, atI_nat (List.getElem?_eq_getElem hm), ?_⟩
        refine ⟨_, b6 _ _ hDa hD, ?_, fun b' o nb eb => ?_, (hh6.put hDa).le (by omega), cs ++ [("abcdefghijklmnopqrstuvwxyz" : Str).cps.toList[m]], ?_, ?_, fun c hc => ?_⟩
        · rw [List.length_map]
          exact small1000 (by omega)
        · rw [upd_ne (fun z => by rw [z, nDH] at eb; cases eb)]
          exact b6 _ _ nb (b5 _ _ nb eb)
        · rw [upd_same, List.map_append]
          rfl
        · rw [List.length_append, hcl]
          rfl
        · rcases List.mem_append.mp hc with h | h
          · exact hcs _ h
          · rw [List.mem_singleton.mp h]
            exact List.getElem_mem hm
      · rintro H5 ⟨b5, hh5, cs, hD, hcl, hcs⟩
        have hD' : H5 D = some (.lst ((cs.map fun c => (⟨#[c]⟩ : Str)).map V.str)) := by
          rw [hD, List.map_map]
          rfl
        refine ⟨"", D, cs.map fun c => (⟨#[c]⟩ : Str), rfl, rfl, .inl (SqL.of hD'), ?_, ?_⟩
        · have : ∀ l : List Nat, ((l.map fun c => (⟨#[c]⟩ : Str)).map (·.length)).sum = l.length := by
            intro l
            induction l with
            | nil => rfl
            | cons c l ih => rw [List.map_cons, List.map_cons, List.sum_cons, ih, List.length_cons]; show 1 + l.length = _; omega
          rw [this]
          show cs.length + _ * 0 ≤ _
          omega
        · rw [join_letters]
          have hcl : cs.length = (1 + r2).toNat := hcl
          refine q H5 _ b5 (hh5.le (by omega)) (nameD_of (by omega) (by omega) hcs) ?_ ?_
          · show (cs.toArray.toList.all _) = true
            rw [List.all_eq_true]
            exact fun c h => decide_eq_true (letters_small c (hcs c h))
          · show cs.toArray.size ≤ 10
            rw [List.size_toArray]
            omega
end
end NG

set_option maxHeartbeats 2000000
namespace NG
open PySem PySem.Spec PyProof.Rows L2
/-! ### a heap without the hand and some lists that change -/
def hideL (S : List Addr) (H : Hp) : Hp := fun b => if b ∈ S then none else H b
theorem hideL_ne {S : List Addr} {b : Addr} {H : Hp} (h : b ∉ S) : hideL S H b = H b := if_neg h
theorem hideL_same {S : List Addr} {H : Hp} : Same (hideL S H) H := fun b o e => by
  unfold hideL at e
  split at e
  · cases e
  · exact e
theorem hideL_but {S : List Addr} {a : Addr} {H H' : Hp} (h : But a H H') : Same (hideL (a :: S) H) (hideL (a :: S) H') := fun b o e => by
  unfold hideL at e ⊢
  split at e
  · cases e
  · rename_i hn
    rw [if_neg hn]
    exact h b o (fun z => hn (z ▸ List.mem_cons_self)) e
theorem hideL_same2 {S : List Addr} {H H' : Hp} (h : Same H H') : Same (hideL S H) (hideL S H') := fun b o e => by
  unfold hideL at e ⊢
  split at e
  · cases e
  · rename_i hn
    rw [if_neg hn]
    exact h b o e
theorem hideL_put {S : List Addr} {l : Addr} {H : Hp} {o : HO} (h : l ∈ S) : Same (hideL S H) (hideL S (upd H l o)) := fun b o e => by
  unfold hideL at e ⊢
  split at e
  · cases e
  · rename_i hn
    rw [if_neg hn, upd_ne (show b ≠ l from fun z => hn (by rw [z]; exact h))]
    exact e
theorem hideL_at {S : List Addr} {p : Addr} {H : Hp} {o : HO} (h : p ∉ S) (q : H p = some o) : hideL S H p = some o := (hideL_ne h).trans q
structure Tr (a : Addr) (L : List Addr) (n : Nat) (H : Hp) : Prop where
  hand : HandAt H a n
  ls : ∀ x ∈ L, x ≠ a ∧ ∃ xs, H x = some (.lst xs)
theorem Tr.lst {a : Addr} {L : List Addr} {n : Nat} {H : Hp} (t : Tr a L n H) : ∀ x ∈ a :: L, ∃ xs, H x = some (.lst xs) := fun x hx => by
  rcases List.mem_cons.mp hx with rfl | hx
  · exact t.hand.some
  · exact (t.ls x hx).2
theorem Tr.ne {a p : Addr} {L : List Addr} {n : Nat} {H : Hp} (t : Tr a L n H) (h : H p = none) : p ∉ a :: L := fun hx => by
  obtain ⟨xs, e⟩ := t.lst p hx
  rw [h] at e
  cases e
theorem Tr.same {a : Addr} {L : List Addr} {n : Nat} {H H' : Hp} (t : Tr a L n H) (s : Same H H') : Tr a L n H' := ⟨t.hand.same s, fun x hx => by
  obtain ⟨h1, xs, e⟩ := t.ls x hx
  exact ⟨h1, xs, s _ _ e⟩⟩
theorem Tr.new {a p : Addr} {L : List Addr} {n : Nat} {H : Hp} {o : HO} (t : Tr a L n H) (h : H p = none) : Tr a L n (upd H p o) := t.same (same_new h)
theorem Tr.but {a : Addr} {L : List Addr} {n n' : Nat} {H H' : Hp} (t : Tr a L n H) (b : But a H H') (hh : HandAt H' a n') : Tr a L n' H' := ⟨hh, fun x hx => by
  obtain ⟨h1, xs, e⟩ := t.ls x hx
  exact ⟨h1, xs, b _ _ h1 e⟩⟩
theorem hideL_sqt {a p : Addr} {L : List Addr} {H : Hp} {K : PySem.W.Frag} {n : Nat} {xs : List V} (t : Tr a L n H) (q : SqT K H p xs) : SqT K (hideL (a :: L) H) p xs := by
  have nm : ∀ {o : HO}, H p = some o → (∀ l, o ≠ .lst l) → p ∉ a :: L := fun e hn hx => by
    obtain ⟨l, e2⟩ := t.lst p hx
    rw [e] at e2
    exact hn l (Option.some.inj e2)
  rcases q with (q | ⟨o, q⟩) | q
  · exact .inl (.inl ((hideL_ne (nm q (fun l z => by cases z))).trans q))
  · exact .inl (.inr ⟨o, (hideL_ne (nm q (fun l z => by cases z))).trans q⟩)
  · exact .inr q
end NG

namespace NG
open PySem PySem.Spec PyProof.Rows L2
def spOdd (K : PySem.W.Frag) : Sp := fun vs H Q _ => ∃ (a : Addr) (v : V) (d : PyData) (B W D n : Nat) (L : List Addr), vs = [.ref a, v] ∧ Dq K (hideL (a :: L) H) v d ∧ Tm B W D d ∧ 10000 ≤ B ∧ B < 10 ^ 39 ∧ d.weight ≤ 100000 ∧ Tr a L n H ∧ n ≤ 999998000 ∧
  ∀ H' v' d', But a H H' → HandAt H' a (n + 1) → Dq K (hideL (a :: L) H') v' d' → Tm (B + 1) (2 * W + 400) (D + 2) d' → Q v' H'
theorem len_weight : ∀ ds : List PyData, ds.length ≤ PyData.weightAll ds
  | [] => Nat.le_refl _
  | d :: ds => by
    have := len_weight ds
    show ds.length + 1 ≤ d.weight + 1 + PyData.weightAll ds
    omega
/-- a value that may be drawn -/
def GdV (K : PySem.W.Frag) (a : Addr) (L : List Addr) (B W D : Nat) (H : Hp) (v : V) : Prop := ∃ d, Dq K (hideL (a :: L) H) v d ∧ Tm B W D d
theorem GdV.same {K : PySem.W.Frag} {a : Addr} {L : List Addr} {B W D : Nat} {H H' : Hp} {v : V} (s : Same H H') (g : GdV K a L B W D H v) : GdV K a L B W D H' v := by
  obtain ⟨d, h1, h2⟩ := g
  exact ⟨d, dq_same (hideL_same2 s) h1, h2⟩
def GdL (K : PySem.W.Frag) (a : Addr) (L : List Addr) (B W D : Nat) (H : Hp) (l : Addr) (m : Nat) : Prop := l ≠ a ∧ ∃ xs, H l = some (.lst xs) ∧ 0 < xs.length ∧ xs.length ≤ m ∧ ∀ v ∈ xs, GdV K a L B W D H v
theorem GdL.same {K : PySem.W.Frag} {a : Addr} {L : List Addr} {B W D m : Nat} {H H' : Hp} {l : Addr} (s : Same H H') (g : GdL K a L B W D H l m) : GdL K a L B W D H' l m := by
  obtain ⟨na, xs, e, h1, h2, h3⟩ := g
  exact ⟨na, xs, s _ _ e, h1, h2, fun v hv => (h3 v hv).same s⟩
theorem GdL.mono {K : PySem.W.Frag} {a : Addr} {L : List Addr} {B W D m m' : Nat} {H : Hp} {l : Addr} (h : m ≤ m') (g : GdL K a L B W D H l m) : GdL K a L B W D H l m' := by
  obtain ⟨na, xs, e, h1, h2, h3⟩ := g
  exact ⟨na, xs, e, h1, by omega, h3⟩

theorem none_back {H H' : Hp} {p : Addr} (s : Same H H') (h : H' p = none) : H p = none := by
  cases e : H p with
  | none => rfl
  | some o => rw [s _ _ e] at h; cases h
theorem rCat1 {K : PySem.W.Frag} {a : Addr} {L : List Addr} {B W D m k : Nat} {H : Hp} {l l2 : Addr} {ys : List V} {Q : VK} (g : GdL K a L B W D H l m) (hl2 : H l2 = some (.lst ys)) (hy : ys.length ≤ k) (hz : m + k ≤ 1000) (ha : ∀ p, H p = none → p ≠ a)
    (gy : ∀ v ∈ ys, GdV K a L B W D H v) (q : ∀ H' lc, Same H H' → GdL K a L B W D H' lc (m + k) → Q (.ref lc) H') : rCat (.ref l) (.ref l2) H Q := by
  obtain ⟨na, xs, e, h0, hm, hg⟩ := g
  refine ⟨l, l2, xs, ys, rfl, rfl, e, hl2, Nat.le_trans (show xs.length + ys.length ≤ 1000 by omega) (by decide), fun lc nlc => ?_⟩
  refine q _ lc (same_new nlc) ⟨ha _ nlc, _, upd_same, by rw [List.length_append]; omega, by rw [List.length_append]; omega, fun v hv => ?_⟩
  rcases List.mem_append.mp hv with hv | hv
  · exact (hg v hv).same (same_new nlc)
  · exact (gy v hv).same (same_new nlc)
theorem rCat4 {K : PySem.W.Frag} {a : Addr} {L : List Addr} {B W D m k : Nat} {H : Hp} {l l2 : Addr} {ys : List V} {Q : VK} (g : GdL K a L B W D H l m) (hl2 : H l2 = some (.lst ys)) (hy : ys.length ≤ k) (hz : m + 4 * k ≤ 1000) (ha : ∀ p, H p = none → p ≠ a)
    (gy : ∀ v ∈ ys, GdV K a L B W D H v) (q : ∀ H' lc, Same H H' → GdL K a L B W D H' lc (m + 4 * k) → Q (.ref lc) H') : rRep (.ref l2) (.int 4) H fun z H' => rCat (.ref l) z H' Q := by
  refine ⟨l2, 4, ys, rfl, rfl, hl2, by decide, by decide, Nat.le_trans (show ys.length * 4 ≤ 1000 by omega) (by decide), fun p np => ?_⟩
  have s1 : Same H (upd H p (.lst (List.replicate (4 : Int).toNat ys).flatten)) := same_new np
  have ep : (upd H p (.lst (List.replicate (4 : Int).toNat ys).flatten)) p = some (.lst (List.replicate (4 : Int).toNat ys).flatten) := upd_same
  have hlen : ((List.replicate (4 : Int).toNat ys).flatten).length ≤ 4 * k := by
    show ((List.replicate 4 ys).flatten).length ≤ 4 * k
    show (ys ++ (ys ++ (ys ++ (ys ++ [])))).length ≤ 4 * k
    rw [List.length_append, List.length_append, List.length_append, List.append_nil]
    omega
  refine rCat1 (g.same s1) ep hlen hz (fun p' np' => ha _ (none_back s1 np')) (fun v hv => ?_) (fun H' lc s' g' => q H' lc (s1.trans s') g')
  obtain ⟨l', hl', hv⟩ := List.mem_flatten.mp hv
  rw [List.eq_of_mem_replicate hl'] at hv
  exact (gy v hv).same s1
section
variable {P : Program} {w : World} {K : PySem.W.Frag} {mg : Str → Option Value} {base : Heap}
theorem ok_odd {f : Addr} {fd : FuncData} (F : Fun K "_law_odd" "_law_odd" s_L_odd f fd) (gF : mg "_law_odd" = some (.ref f)) (b : Binds K fd ["_law_hand_here", "_law_lump"] []) (B : Bl mg) (c_L_of : Cal P w K mg base 2 "_law_of" (spOf K)) : Cal P w K mg base 3 "_law_odd" (spOdd K) := by
  refine ⟨f, fd, _, F.ok sc_L_odd (fun vs H Q E h => ?_) (fun cdv A outer s H vs Q E hr h => ?_), gF, F.kp, b⟩
  · obtain ⟨_, _, _, _, _, _, _, _, rfl, _⟩ := h
    rfl
  · obtain ⟨a, v, d, Bd, W, D, n, L, rfl, hd, ht, hB1, hB2, hw, tr, hn, q⟩ := h
    refine ⟨_, (pss_cons (ps_set (i := 2) sc_L_odd.nd rfl (.inl rfl) (pe_lst (pa_cons pe_non (pa_cons pe_bl (pa_cons pe_bl (pa_cons pe_str (pa_cons pe_str (pa_cons pe_str (pa_cons pe_str (pa_cons pe_str (pa_cons pe_str (pa_cons pe_str (pa_cons pe_str (pa_cons pe_str (pa_cons pe_str (pa_cons pe_str (pa_cons pe_str pa_nil))))))))))))))))) (pss_cons (ps_set (i := 2) sc_L_odd.nd rfl (.inl rfl) (pe_op op_cat (pv 2) (pe_lst (pa_cons pe_str (pa_cons pe_str (pa_cons pe_str (pa_cons pe_str (pa_cons (pe_tup pa_nil) (pa_cons (pe_lst pa_nil) (pa_cons pe_dnewK (pa_cons pe_int (pa_cons pe_int (pa_cons pe_int (pa_cons pe_int (pa_cons pe_int (pa_cons pe_int (pa_cons (pe_un un_neg pe_int) (pa_cons pe_int (pa_cons pe_int (pa_cons (pe_un un_neg pe_int) (pa_cons pe_int (pa_cons pe_int (pa_cons pe_int (pa_cons pe_int pa_nil)))))))))))))))))))))))) (pss_cons (ps_set (i := 2) sc_L_odd.nd rfl (.inl rfl) (pe_op op_cat (pv 2) (pe_lst (pa_cons (pe_un un_neg pe_int) (pa_cons (pe_un un_neg pe_int) (pa_cons pe_int (pa_cons (pe_tup (pa_cons pe_str (pa_cons pe_int pa_nil))) (pa_cons (pe_tup (pa_cons pe_str (pa_cons pe_int pa_nil))) (pa_cons (pe_tup (pa_cons pe_str (pa_cons pe_int (pa_cons pe_int pa_nil)))) (pa_cons (pe_tup (pa_cons (pe_tup (pa_cons pe_str (pa_cons pe_int (pa_cons pe_int pa_nil)))) pa_nil)) pa_nil)))))))))) (C8.pss_cut (ps_if (pt_val (pe_callB call_isi (by rfl) B.isinstance (by decide +kernel) (pa_cons (pv 1) (pa_cons (pe_bltn (v := .ty "int") (by rfl) B.int (by decide +kernel) rfl) pa_nil)))) (pss_one (ps_set (i := 2) sc_L_odd.nd rfl (.inl rfl) (pe_op op_cat (pv 2) (pe_op op_rep (pe_lst (pa_cons (pe_op op_addIB (pv 1) pe_int) (pa_cons (pe_op op_subIB2 (pv 1) pe_int) (pa_cons (pe_op op_subIB2 pe_int (pv 1)) (pa_cons (pe_cmpR (op_eqD hr.units) (pv 1) pe_int (nomark _)) (pa_cons (pe_callTy call_strIB (by rfl) B.str (by decide +kernel) (pa_cons (pv 1) pa_nil)) pa_nil)))))) pe_int)))) pss_nil) (C8.pss_cut (ps_if (pt_val (pe_callB call_isi (by rfl) B.isinstance (by decide +kernel) (pa_cons (pv 1) (pa_cons (pe_bltn (v := .ty "tuple") (by rfl) B.tuple (by decide +kernel) rfl) pa_nil)))) (pss_one (ps_set (i := 2) sc_L_odd.nd rfl (.inl rfl) (pe_op op_cat (pv 2) (pe_op op_rep (pe_lst (pa_cons (pe_callTy call_list_of (by rfl) B.list (by decide +kernel) (pa_cons (pv 1) pa_nil)) (pa_cons (pe_tup (pa_cons (pv 1) pa_nil)) (pa_cons (pe_op op_catA (pv 1) (pv 1)) (pa_cons (pe_tup (pa_cons pe_str (pa_cons pe_int (pa_cons (pv 1) pa_nil)))) (pa_cons (pe_tup (pa_cons pe_str (pa_cons (pv 1) (pa_cons (pe_tup (pa_cons pe_str (pa_cons pe_int pa_nil))) pa_nil)))) pa_nil)))))) pe_int)))) pss_nil) (pss_one (ps_ret (pe_c c_L_of hr (by omega) (by rfl) (pa_cons (pv 0) (pa_cons (pv 2) pa_nil)))))))))), ?_⟩
    have two_le : 2 ≤ sizeLine := by decide
    have one_le : 1 ≤ sizeLine := by decide
    have hh := tr.hand
    have gI : ∀ {z : Int} {Hc : Hp}, z.natAbs ≤ Bd + 1 → GdV K a L (Bd + 1) (2 * W + 400) (D + 2) Hc (.int z) := fun h => ⟨_, .int _, (Tm.int h (by omega)).mono (Nat.le_refl _) (by omega) (by omega)⟩
    have gS : ∀ {x : Str} {Hc : Hp}, (x.cps.toList.all fun c => decide (c < 16 ^ 8)) = true → x.cps.size ≤ 10 → GdV K a L (Bd + 1) (2 * W + 400) (D + 2) Hc (.str x) := fun h1 h2 => ⟨_, .str _, (Tm.str h1 h2).mono (Nat.le_refl _) (by omega) (by omega)⟩
    have gB : ∀ {x : Bool} {Hc : Hp}, GdV K a L (Bd + 1) (2 * W + 400) (D + 2) Hc (.bl x) := ⟨_, .bl _, (Tm.bl _).mono (Nat.le_refl _) (by omega) (by omega)⟩
    have newa : ∀ {Hc : Hp}, Same H Hc → ∀ p, Hc p = none → p ≠ a := fun s p np => (hh.same s).ne np
    have ht' : Tm (Bd + 1) W D d := ht.mono (by omega) (Nat.le_refl _) (Nat.le_refl _)
    have w1 : ∀ {x : Str} {D' : Nat}, (x.cps.toList.all fun c => decide (c < 16 ^ 8)) = true → x.cps.size ≤ 10 → Tm (Bd + 1) 10 D' (.str x) := fun h1 h2 => (Tm.str h1 h2).mono (Nat.le_refl _) (Nat.le_refl _) (Nat.zero_le _)
    have i1 : ∀ {z : Int} {D' : Nat}, z.natAbs ≤ Bd + 1 → Tm (Bd + 1) 140 D' (.int z) := fun h => (Tm.int h (by omega)).mono (Nat.le_refl _) (Nat.le_refl _) (Nat.zero_le _)
    refine ⟨(by show 15 ≤ sizeLine; decide), fun l1 nl1 => ?_⟩
    have s1 : Same H (upd H l1 (.lst [.non, .bl true, .bl false, .str "", .str "a", .str "ninesigns", .str "A", .str "fig", .str "reg", .str "share", .str "sum", .str "times", .str "by", .str "when", .str "where"])) := same_new nl1
    have g1 : GdL K a L (Bd + 1) (2 * W + 400) (D + 2) (upd H l1 (.lst [.non, .bl true, .bl false, .str "", .str "a", .str "ninesigns", .str "A", .str "fig", .str "reg", .str "share", .str "sum", .str "times", .str "by", .str "when", .str "where"])) l1 15 := by
      refine ⟨hh.ne nl1, _, upd_same, by show 0 < 15; decide, by show 15 ≤ 15; decide, fun v hv => ?_⟩
      simp only [List.mem_cons, List.not_mem_nil, or_false] at hv
      rcases hv with rfl | rfl | rfl | rfl | rfl | rfl | rfl | rfl | rfl | rfl | rfl | rfl | rfl | rfl | rfl
      · exact ⟨_, .non, Tm.non.mono (Nat.le_refl _) (by omega) (by omega)⟩
      · exact gB
      · exact gB
      · exact gS (by decide) (by decide)
      · exact gS (by decide) (by decide)
      · exact gS (by decide) (by decide)
      · exact gS (by decide) (by decide)
      · exact gS (by decide) (by decide)
      · exact gS (by decide) (by decide)
      · exact gS (by decide) (by decide)
      · exact gS (by decide) (by decide)
      · exact gS (by decide) (by decide)
      · exact gS (by decide) (by decide)
      · exact gS (by decide) (by decide)
      · exact gS (by decide) (by decide)
    generalize upd H l1 (.lst [.non, .bl true, .bl false, .str "", .str "a", .str "ninesigns", .str "A", .str "fig", .str "reg", .str "share", .str "sum", .str "times", .str "by", .str "when", .str "where"]) = H1 at s1 g1 ⊢
    refine ⟨.ref l1, rfl, (by show 0 ≤ sizeLine; decide), fun t0 nt0 => ⟨(by show 0 ≤ sizeLine; decide), fun e0 ne0 k0 nk0 => ⟨_, rfl, _, rfl, (by show 21 ≤ sizeLine; decide), fun l2 nl2 => ?_⟩⟩⟩
    have s2 : Same H1 (upd (upd (upd (upd H1 t0 (.tup [])) e0 (.lst [])) k0 (.dK [])) l2 (.lst [.str "put", .str "told", .str "copy", .str "least", .ref t0, .ref e0, .ref k0, .int 0, .int 1, .int 2, .int 3, .int 4, .int 5, .int (-1), .int 9, .int 10, .int (-9), .int 500, .int 501, .int 1000, .int 1001])) := (((same_new nt0).trans (same_new ne0)).trans (same_new nk0)).trans (same_new nl2)
    have f0 : (upd (upd (upd (upd H1 t0 (.tup [])) e0 (.lst [])) k0 (.dK [])) l2 (.lst [.str "put", .str "told", .str "copy", .str "least", .ref t0, .ref e0, .ref k0, .int 0, .int 1, .int 2, .int 3, .int 4, .int 5, .int (-1), .int 9, .int 10, .int (-9), .int 500, .int 501, .int 1000, .int 1001])) t0 = some (.tup []) := same_new nl2 _ _ (same_new nk0 _ _ (same_new ne0 _ _ upd_same))
    have f1 : (upd (upd (upd (upd H1 t0 (.tup [])) e0 (.lst [])) k0 (.dK [])) l2 (.lst [.str "put", .str "told", .str "copy", .str "least", .ref t0, .ref e0, .ref k0, .int 0, .int 1, .int 2, .int 3, .int 4, .int 5, .int (-1), .int 9, .int 10, .int (-9), .int 500, .int 501, .int 1000, .int 1001])) e0 = some (.lst []) := same_new nl2 _ _ (same_new nk0 _ _ upd_same)
    have f2 : (upd (upd (upd (upd H1 t0 (.tup [])) e0 (.lst [])) k0 (.dK [])) l2 (.lst [.str "put", .str "told", .str "copy", .str "least", .ref t0, .ref e0, .ref k0, .int 0, .int 1, .int 2, .int 3, .int 4, .int 5, .int (-1), .int 9, .int 10, .int (-9), .int 500, .int 501, .int 1000, .int 1001])) k0 = some (.dK []) := same_new nl2 _ _ upd_same
    have f3 : (upd (upd (upd (upd H1 t0 (.tup [])) e0 (.lst [])) k0 (.dK [])) l2 (.lst [.str "put", .str "told", .str "copy", .str "least", .ref t0, .ref e0, .ref k0, .int 0, .int 1, .int 2, .int 3, .int 4, .int 5, .int (-1), .int 9, .int 10, .int (-9), .int 500, .int 501, .int 1000, .int 1001])) l2 = some (.lst [.str "put", .str "told", .str "copy", .str "least", .ref t0, .ref e0, .ref k0, .int 0, .int 1, .int 2, .int 3, .int 4, .int 5, .int (-1), .int 9, .int 10, .int (-9), .int 500, .int 501, .int 1000, .int 1001]) := upd_same
    have hea : e0 ∉ a :: L := ((tr.same s1).new (o := .tup []) nt0).ne ne0
    have hka : k0 ∉ a :: L := (((tr.same s1).new (o := .tup []) nt0).new (o := .lst []) ne0).ne nk0
    show rCat (.ref l1) (.ref l2) (upd (upd (upd (upd H1 t0 (.tup [])) e0 (.lst [])) k0 (.dK [])) l2 (.lst [.str "put", .str "told", .str "copy", .str "least", .ref t0, .ref e0, .ref k0, .int 0, .int 1, .int 2, .int 3, .int 4, .int 5, .int (-1), .int 9, .int 10, .int (-9), .int 500, .int 501, .int 1000, .int 1001])) _
    generalize upd (upd (upd (upd H1 t0 (.tup [])) e0 (.lst [])) k0 (.dK [])) l2 (.lst [.str "put", .str "told", .str "copy", .str "least", .ref t0, .ref e0, .ref k0, .int 0, .int 1, .int 2, .int 3, .int 4, .int 5, .int (-1), .int 9, .int 10, .int (-9), .int 500, .int 501, .int 1000, .int 1001]) = H2 at s2 f0 f1 f2 f3 ⊢
    have s02 := s1.trans s2
    refine rCat1 (k := 21) (g1.same s2) f3 (by show 21 ≤ 21; decide) (by decide) (newa s02) (fun v hv => ?_) fun H3 l3 s3 g3 => ?_
    · simp only [List.mem_cons, List.not_mem_nil, or_false] at hv
      rcases hv with rfl | rfl | rfl | rfl | rfl | rfl | rfl | rfl | rfl | rfl | rfl | rfl | rfl | rfl | rfl | rfl | rfl | rfl | rfl | rfl | rfl
      · exact gS (by decide) (by decide)
      · exact gS (by decide) (by decide)
      · exact gS (by decide) (by decide)
      · exact gS (by decide) (by decide)
      · exact ⟨_, .tup (hideL_sqt (tr.same s02) (SqT.of f0)) .nil, (Tms.nil (W := 0) (D := 0)).tup.mono (Nat.le_refl _) (by omega) (by omega)⟩
      · exact ⟨_, .lst (SqL.of (hideL_at hea f1)) .nil, (Tms.nil (W := 0) (D := 0)).lst.mono (Nat.le_refl _) (by omega) (by omega)⟩
      · exact ⟨_, .dic (hideL_at hka f2), Tm.dic.mono (Nat.le_refl _) (by omega) (by omega)⟩
      · exact gI (by omega)
      · exact gI (by omega)
      · exact gI (by omega)
      · exact gI (by omega)
      · exact gI (by omega)
      · exact gI (by omega)
      · exact gI (by omega)
      · exact gI (by omega)
      · exact gI (by omega)
      · exact gI (by omega)
      · exact gI (by omega)
      · exact gI (by omega)
      · exact gI (by omega)
      · exact gI (by omega)
    have s03 := s02.trans s3
    clear f0 f1 f2 f3 s2 g1
    refine ⟨.ref l3, rfl, _, rfl, _, rfl, two_le, fun t1 n1 => ⟨two_le, fun t2 n2 => ⟨(by show 3 ≤ sizeLine; decide), fun t3 n3 => ⟨(by show 3 ≤ sizeLine; decide), fun t4 n4 => ⟨one_le, fun t5 n5 => ⟨(by show 7 ≤ sizeLine; decide), fun l4 n6 => ?_⟩⟩⟩⟩⟩⟩
    have s4 : Same H3 (upd (upd (upd (upd (upd (upd H3 t1 (.tup [.str "fig", .int 0])) t2 (.tup [.str "reg", .int 3])) t3 (.tup [.str "put", .int 0, .int 1])) t4 (.tup [.str "add", .int 1, .int 2])) t5 (.tup [.ref t4])) l4 (.lst [.int (-1000), .int (-1001), .int 8000, .ref t1, .ref t2, .ref t3, .ref t5])) := (((((same_new n1).trans (same_new n2)).trans (same_new n3)).trans (same_new n4)).trans (same_new n5)).trans (same_new n6)
    have k1 : (upd (upd (upd (upd (upd (upd H3 t1 (.tup [.str "fig", .int 0])) t2 (.tup [.str "reg", .int 3])) t3 (.tup [.str "put", .int 0, .int 1])) t4 (.tup [.str "add", .int 1, .int 2])) t5 (.tup [.ref t4])) l4 (.lst [.int (-1000), .int (-1001), .int 8000, .ref t1, .ref t2, .ref t3, .ref t5])) t1 = some (.tup [.str "fig", .int 0]) := same_new n6 _ _ (same_new n5 _ _ (same_new n4 _ _ (same_new n3 _ _ (same_new n2 _ _ upd_same))))
    have k2 : (upd (upd (upd (upd (upd (upd H3 t1 (.tup [.str "fig", .int 0])) t2 (.tup [.str "reg", .int 3])) t3 (.tup [.str "put", .int 0, .int 1])) t4 (.tup [.str "add", .int 1, .int 2])) t5 (.tup [.ref t4])) l4 (.lst [.int (-1000), .int (-1001), .int 8000, .ref t1, .ref t2, .ref t3, .ref t5])) t2 = some (.tup [.str "reg", .int 3]) := same_new n6 _ _ (same_new n5 _ _ (same_new n4 _ _ (same_new n3 _ _ upd_same)))
    have k3 : (upd (upd (upd (upd (upd (upd H3 t1 (.tup [.str "fig", .int 0])) t2 (.tup [.str "reg", .int 3])) t3 (.tup [.str "put", .int 0, .int 1])) t4 (.tup [.str "add", .int 1, .int 2])) t5 (.tup [.ref t4])) l4 (.lst [.int (-1000), .int (-1001), .int 8000, .ref t1, .ref t2, .ref t3, .ref t5])) t3 = some (.tup [.str "put", .int 0, .int 1]) := same_new n6 _ _ (same_new n5 _ _ (same_new n4 _ _ upd_same))
    have k4 : (upd (upd (upd (upd (upd (upd H3 t1 (.tup [.str "fig", .int 0])) t2 (.tup [.str "reg", .int 3])) t3 (.tup [.str "put", .int 0, .int 1])) t4 (.tup [.str "add", .int 1, .int 2])) t5 (.tup [.ref t4])) l4 (.lst [.int (-1000), .int (-1001), .int 8000, .ref t1, .ref t2, .ref t3, .ref t5])) t4 = some (.tup [.str "add", .int 1, .int 2]) := same_new n6 _ _ (same_new n5 _ _ upd_same)
    have k5 : (upd (upd (upd (upd (upd (upd H3 t1 (.tup [.str "fig", .int 0])) t2 (.tup [.str "reg", .int 3])) t3 (.tup [.str "put", .int 0, .int 1])) t4 (.tup [.str "add", .int 1, .int 2])) t5 (.tup [.ref t4])) l4 (.lst [.int (-1000), .int (-1001), .int 8000, .ref t1, .ref t2, .ref t3, .ref t5])) t5 = some (.tup [.ref t4]) := same_new n6 _ _ upd_same
    have k6 : (upd (upd (upd (upd (upd (upd H3 t1 (.tup [.str "fig", .int 0])) t2 (.tup [.str "reg", .int 3])) t3 (.tup [.str "put", .int 0, .int 1])) t4 (.tup [.str "add", .int 1, .int 2])) t5 (.tup [.ref t4])) l4 (.lst [.int (-1000), .int (-1001), .int 8000, .ref t1, .ref t2, .ref t3, .ref t5])) l4 = some (.lst [.int (-1000), .int (-1001), .int 8000, .ref t1, .ref t2, .ref t3, .ref t5]) := upd_same
    show rCat (.ref l3) (.ref l4) (upd (upd (upd (upd (upd (upd H3 t1 (.tup [.str "fig", .int 0])) t2 (.tup [.str "reg", .int 3])) t3 (.tup [.str "put", .int 0, .int 1])) t4 (.tup [.str "add", .int 1, .int 2])) t5 (.tup [.ref t4])) l4 (.lst [.int (-1000), .int (-1001), .int 8000, .ref t1, .ref t2, .ref t3, .ref t5])) _
    generalize upd (upd (upd (upd (upd (upd H3 t1 (.tup [.str "fig", .int 0])) t2 (.tup [.str "reg", .int 3])) t3 (.tup [.str "put", .int 0, .int 1])) t4 (.tup [.str "add", .int 1, .int 2])) t5 (.tup [.ref t4])) l4 (.lst [.int (-1000), .int (-1001), .int 8000, .ref t1, .ref t2, .ref t3, .ref t5]) = H4 at s4 k1 k2 k3 k4 k5 k6 ⊢
    have s04 := s03.trans s4
    have tr4 := tr.same s04
    refine rCat1 (k := 7) (g3.same s4) k6 (by show 7 ≤ 7; decide) (by decide) (newa s04) (fun v hv => ?_) fun H5 l5 s5 g5 => ?_
    · simp only [List.mem_cons, List.not_mem_nil, or_false] at hv
      rcases hv with rfl | rfl | rfl | rfl | rfl | rfl | rfl
      · exact gI (by omega)
      · exact gI (by omega)
      · exact gI (by omega)
      · exact ⟨_, .tup (hideL_sqt tr4 (SqT.of k1)) (.cons (.str _) (.cons (.int _) .nil)), (Tms.cons (w1 (D' := 0) (by decide) (by decide)) (Tms.cons (i1 (by omega)) (.nil (W := 0)))).tup.mono (Nat.le_refl _) (by omega) (by omega)⟩
      · exact ⟨_, .tup (hideL_sqt tr4 (SqT.of k2)) (.cons (.str _) (.cons (.int _) .nil)), (Tms.cons (w1 (D' := 0) (by decide) (by decide)) (Tms.cons (i1 (by omega)) (.nil (W := 0)))).tup.mono (Nat.le_refl _) (by omega) (by omega)⟩
      · exact ⟨_, .tup (hideL_sqt tr4 (SqT.of k3)) (.cons (.str _) (.cons (.int _) (.cons (.int _) .nil))), (Tms.cons (w1 (D' := 0) (by decide) (by decide)) (Tms.cons (i1 (by omega)) (Tms.cons (i1 (by omega)) (.nil (W := 0))))).tup.mono (Nat.le_refl _) (by omega) (by omega)⟩
      · exact ⟨_, .tup (hideL_sqt tr4 (SqT.of k5)) (.cons (.tup (hideL_sqt tr4 (SqT.of k4)) (.cons (.str _) (.cons (.int _) (.cons (.int _) .nil)))) .nil), (Tms.cons (Tms.cons (w1 (D' := 0) (by decide) (by decide)) (Tms.cons (i1 (by omega)) (Tms.cons (i1 (by omega)) (.nil (W := 0))))).tup (.nil (W := 0))).tup.mono (Nat.le_refl _) (by omega) (by omega)⟩
    have s05 := s04.trans s5
    clear k1 k2 k3 k4 k5 k6 s4 tr4 g3
    have g5 := g5.mono (m' := 50) (by decide)
    -- an int
    refine ⟨fun σ H' => ∃ l, σ = [some (.ref a), some v, some (.ref l)] ∧ Same H H' ∧ GdL K a L (Bd + 1) (2 * W + 400) (D + 2) H' l 100, ?_, ?_⟩
    · have hd5 : Dq K (hideL (a :: L) H5) v d := dq_same (hideL_same2 s05) hd
      have hdv := dq_same hideL_same hd5
      refine ⟨v, rfl, v, .ty "int", _, _, _, rfl, .ty _, Dq.tyx hdv, kit_ty (kit_int d), _, rfl, ?_⟩
      cases hd5 with
      | int i =>
        have hib : i.natAbs ≤ Bd := of_decide_eq_true (by have := ht.tm; unfold tame at this; exact this)
        have hlog : i.natAbs.log2 < 1920 := Nat.lt_trans (PySem.Flt.log2_lt_of (k := 139) (by decide) (Nat.lt_of_le_of_lt hib (Nat.lt_trans hB2 (by decide)))) (by decide)
        refine iteTT rfl ?_
        refine ⟨.ref l5, rfl, .int i, rfl, i, 1, rfl, .inl rfl, .int i, rfl, i, 1, .inl ⟨rfl, .inl rfl⟩, .int i, rfl, 0, i, .inl ⟨rfl, .inl rfl⟩, .int i, rfl, _, _, .int i, .int 1, rfl, rfl, .int i, rfl, .int i, (Str.ofString (toString i)), rfl, (if_pos hlog), (by show 5 ≤ sizeLine; decide), fun l6 n6 => ?_⟩
        have s6 : Same H5 (upd H5 l6 (.lst [.int (i + 1), .int (i - 1), .int (0 - i), .bl (PyData.eqv (.int i) (.int 1)), .str (Str.ofString (toString i))])) := same_new n6
        refine rCat4 (k := 5) (g5.same s6) upd_same (by show 5 ≤ 5; decide) (by decide) (newa (s05.trans s6)) (fun x hx => ?_) fun H7 l7 s7 g7 => ⟨l7, rfl, (s05.trans s6).trans s7, g7.mono (by decide)⟩
        simp only [List.mem_cons, List.not_mem_nil, or_false] at hx
        rcases hx with rfl | rfl | rfl | rfl | rfl
        · exact gI (by omega)
        · exact gI (by omega)
        · exact gI (by omega)
        · exact gB
        · exact ⟨_, .str _, (Tm.sint (by omega)).mono (Nat.le_refl _) (by omega) (by omega)⟩
      | bl bb =>
        have hib : (b2 bb).natAbs ≤ 1 := by cases bb <;> decide
        refine iteTT rfl ?_
        refine ⟨.ref l5, rfl, .bl bb, rfl, b2 bb, 1, rfl, .inr ⟨bb, rfl, rfl⟩, .bl bb, rfl, b2 bb, 1, .inr ⟨bb, rfl, rfl, rfl⟩, .bl bb, rfl, 0, b2 bb, .inl ⟨rfl, .inr ⟨bb, rfl, rfl⟩⟩, .bl bb, rfl, _, _, .bl bb, .int 1, rfl, rfl, .bl bb, rfl, .bl bb, (if bb = true then "True" else "False"), rfl, rfl, (by show 5 ≤ sizeLine; decide), fun l6 n6 => ?_⟩
        have s6 : Same H5 (upd H5 l6 (.lst [.int (b2 bb + 1), .int (b2 bb - 1), .int (0 - b2 bb), .bl (PyData.eqv (.bool bb) (.int 1)), .str (if bb = true then "True" else "False")])) := same_new n6
        refine rCat4 (k := 5) (g5.same s6) upd_same (by show 5 ≤ 5; decide) (by decide) (newa (s05.trans s6)) (fun x hx => ?_) fun H7 l7 s7 g7 => ⟨l7, rfl, (s05.trans s6).trans s7, g7.mono (by decide)⟩
        simp only [List.mem_cons, List.not_mem_nil, or_false] at hx
        rcases hx with rfl | rfl | rfl | rfl | rfl
        · exact gI (by omega)
        · exact gI (by omega)
        · exact gI (by omega)
        · exact gB
        · exact gS (by cases bb <;> decide) (by cases bb <;> decide)
      | _ => exact iteFF rfl ⟨l5, rfl, s05, g5.mono (by decide)⟩
    · rintro σ H6 ⟨l6, rfl, s06, g6⟩
      clear g5 s05 s5 s04 s03 s02 s3
      refine ⟨fun σ H' => ∃ l, σ = [some (.ref a), some v, some (.ref l)] ∧ Same H H' ∧ GdL K a L (Bd + 1) (2 * W + 400) (D + 2) H' l 200, ?_, ?_⟩
      · have hd6 : Dq K (hideL (a :: L) H6) v d := dq_same (hideL_same2 s06) hd
        have hdv := dq_same hideL_same hd6
        refine ⟨v, rfl, v, .ty "tuple", _, _, _, rfl, .ty _, Dq.tyx hdv, kit_ty (kit_tup d), _, rfl, ?_⟩
        cases hd6 with
        | @tup p xs ds h1 h2 =>
          have hp : SqT K H6 p xs := same_sqt hideL_same h1
          have hlen := dqall_len h2
          have hl4 : ds.length ≤ 100000 := Nat.le_trans (len_weight ds) hw
          refine iteTT rfl ?_
          refine ⟨.ref l6, rfl, .ref p, rfl, p, xs, rfl, .inr hp, fun q1 m1 => ⟨.ref p, rfl, one_le, fun q2 m2 => ?_⟩⟩
          have s7 : Same H6 (upd (upd H6 q1 (.lst xs)) q2 (.tup [.ref p])) := (same_new m1).trans (same_new m2)
          have f1 : (upd (upd H6 q1 (.lst xs)) q2 (.tup [.ref p])) q1 = some (.lst xs) := same_new m2 _ _ upd_same
          have f2 : (upd (upd H6 q1 (.lst xs)) q2 (.tup [.ref p])) q2 = some (.tup [.ref p]) := upd_same
          have hq1a := (tr.same s06).ne m1
          refine ⟨.ref p, rfl, .ref p, rfl, ?_⟩
          generalize upd (upd H6 q1 (.lst xs)) q2 (.tup [.ref p]) = H7 at s7 f1 f2 ⊢
          refine catA (same_sqt s7 hp) (same_sqt s7 hp) (Nat.le_trans (show _ ≤ 200000 by omega) (by decide)) fun H8 q3 s8 h3 => ?_
          refine ⟨.ref p, rfl, (by show 3 ≤ sizeLine; decide), fun q4 m4 => ⟨.ref p, rfl, two_le, fun q5 m5 => ⟨(by show 3 ≤ sizeLine; decide), fun q6 m6 => ⟨(by show 5 ≤ sizeLine; decide), fun l7 m7 => ?_⟩⟩⟩⟩
          have s9 : Same H8 (upd (upd (upd (upd H8 q4 (.tup [.str "times", .int 2, .ref p])) q5 (.tup [.str "fig", .int 1])) q6 (.tup [.str "sum", .ref p, .ref q5])) l7 (.lst [.ref q1, .ref q2, .ref q3, .ref q4, .ref q6])) := (((same_new m4).trans (same_new m5)).trans (same_new m6)).trans (same_new m7)
          have f4 : (upd (upd (upd (upd H8 q4 (.tup [.str "times", .int 2, .ref p])) q5 (.tup [.str "fig", .int 1])) q6 (.tup [.str "sum", .ref p, .ref q5])) l7 (.lst [.ref q1, .ref q2, .ref q3, .ref q4, .ref q6])) q4 = some (.tup [.str "times", .int 2, .ref p]) := same_new m7 _ _ (same_new m6 _ _ (same_new m5 _ _ upd_same))
          have f5 : (upd (upd (upd (upd H8 q4 (.tup [.str "times", .int 2, .ref p])) q5 (.tup [.str "fig", .int 1])) q6 (.tup [.str "sum", .ref p, .ref q5])) l7 (.lst [.ref q1, .ref q2, .ref q3, .ref q4, .ref q6])) q5 = some (.tup [.str "fig", .int 1]) := same_new m7 _ _ (same_new m6 _ _ upd_same)
          have f6 : (upd (upd (upd (upd H8 q4 (.tup [.str "times", .int 2, .ref p])) q5 (.tup [.str "fig", .int 1])) q6 (.tup [.str "sum", .ref p, .ref q5])) l7 (.lst [.ref q1, .ref q2, .ref q3, .ref q4, .ref q6])) q6 = some (.tup [.str "sum", .ref p, .ref q5]) := same_new m7 _ _ upd_same
          have f7 : (upd (upd (upd (upd H8 q4 (.tup [.str "times", .int 2, .ref p])) q5 (.tup [.str "fig", .int 1])) q6 (.tup [.str "sum", .ref p, .ref q5])) l7 (.lst [.ref q1, .ref q2, .ref q3, .ref q4, .ref q6])) l7 = some (.lst [.ref q1, .ref q2, .ref q3, .ref q4, .ref q6]) := upd_same
          skip
          generalize upd (upd (upd (upd H8 q4 (.tup [.str "times", .int 2, .ref p])) q5 (.tup [.str "fig", .int 1])) q6 (.tup [.str "sum", .ref p, .ref q5])) l7 (.lst [.ref q1, .ref q2, .ref q3, .ref q4, .ref q6]) = H9 at s9 f4 f5 f6 f7 ⊢
          have s69 := (s7.trans s8).trans s9
          have s09 := s06.trans s69
          have tr9 := tr.same s09
          have hdc : DqAll K (hideL (a :: L) H9) xs ds := dqall_same (hideL_same2 s69) h2
          have hpc : Dq K (hideL (a :: L) H9) (.ref p) (.tuple ds) := .tup (hideL_sqt tr9 (same_sqt s69 hp)) hdc
          obtain ⟨D0, rfl⟩ : ∃ D0, D = D0 + 1 := ⟨D - 1, by have h : PyData.depthAll ds + 1 ≤ D := ht.dp; omega⟩
          have hts := ht'.items
          refine rCat4 (k := 5) (g6.same s69) f7 (by show 5 ≤ 5; decide) (by decide) (newa s09) (fun x hx => ?_) fun H10 l8 s10 g10 => ⟨l8, rfl, s09.trans s10, g10.mono (by decide)⟩
          simp only [List.mem_cons, List.not_mem_nil, or_false] at hx
          rcases hx with rfl | rfl | rfl | rfl | rfl
          · exact ⟨_, .lst (SqL.of (hideL_at hq1a (s9 _ _ (s8 _ _ f1)))) hdc, hts.lst.mono (Nat.le_refl _) (by omega) (by omega)⟩
          · exact ⟨_, .tup (hideL_sqt tr9 (SqT.of (s9 _ _ (s8 _ _ f2)))) (.cons hpc .nil), (Tms.cons ht' (.nil (W := 0))).tup.mono (Nat.le_refl _) (by omega) (by omega)⟩
          · exact ⟨_, .tup (hideL_sqt tr9 (same_sqt s9 h3)) (dqall_app hdc hdc), (Tms.app hts hts).tup.mono (Nat.le_refl _) (by omega) (by omega)⟩
          · exact ⟨_, .tup (hideL_sqt tr9 (SqT.of f4)) (.cons (.str _) (.cons (.int _) (.cons hpc .nil))), (Tms.cons (w1 (x := "times") (D' := D0 + 1) (by decide) (by decide)) (Tms.cons (i1 (by omega)) (Tms.cons ht' (.nil (W := 0))))).tup.mono (Nat.le_refl _) (by omega) (by omega)⟩
          · exact ⟨_, .tup (hideL_sqt tr9 (SqT.of f6)) (.cons (.str _) (.cons hpc (.cons (.tup (hideL_sqt tr9 (SqT.of f5)) (.cons (.str _) (.cons (.int _) .nil))) .nil))), (Tms.cons (w1 (x := "sum") (D' := D0 + 1) (by decide) (by decide)) (Tms.cons ht' (Tms.cons ((Tms.cons (w1 (x := "fig") (D' := D0) (by decide) (by decide)) (Tms.cons (i1 (by omega)) (.nil (W := 0)))).tup) (.nil (W := 0))))).tup.mono (Nat.le_refl _) (by omega) (by omega)⟩
        | _ => exact iteFF rfl ⟨l6, rfl, s06, g6.mono (by decide)⟩
      · rintro σ H7 ⟨l7, rfl, s07, na, xs, el, h0, hm, hg⟩
        refine ⟨.ref a, rfl, .ref l7, rfl, a, l7, xs, n, rfl, Ne.symm na, el, h0, by omega, hh.same s07, by omega, fun H8 v8 b8 hh8 hv => ?_⟩
        obtain ⟨d8, g1, g2⟩ := hg v8 hv
        exact q H8 v8 d8 ((But.of s07).trans b8) hh8 (dq_same (hideL_but b8) g1) g2
end
end NG

namespace NG
open PySem PySem.Spec PyProof.Rows L2
def spBent (K : PySem.W.Frag) (m : Nat) : Sp := fun vs H Q _ => ∃ (a : Addr) (v : V) (d : PyData) (room B W D n : Nat) (L : List Addr), vs = [.ref a, v, .int (room : Int)] ∧ room < m ∧ Dq K (hideL (a :: L) H) v d ∧ Tm B W D d ∧ 10000 ≤ B ∧ B < 10 ^ 39 ∧ d.weight ≤ 100000 ∧ Tr a L n H ∧ n + 8 * m ≤ 999998000 ∧
  ∀ H' v' d', But a H H' → HandAt H' a (n + 8 * m) → Dq K (hideL (a :: L) H') v' d' → Tm (B + 1) (3 * W + 500) (D + 3) d' → Q v' H'
theorem weight_split : ∀ {ds : List PyData} {i : Nat} {d : PyData}, ds[i]? = some d → PyData.weightAll (ds.take i) + (d.weight + 1) + PyData.weightAll (ds.drop (i + 1)) = PyData.weightAll ds
  | [], i, d, h => by simp at h
  | e :: ds, 0, d, h => by
    have := Option.some.inj h
    subst this
    show 0 + (e.weight + 1) + PyData.weightAll ds = e.weight + 1 + PyData.weightAll ds
    omega
  | e :: ds, i + 1, d, h => by
    have ih := weight_split (ds := ds) (i := i) h
    show e.weight + 1 + PyData.weightAll (ds.take i) + (d.weight + 1) + PyData.weightAll (ds.drop (i + 1)) = e.weight + 1 + PyData.weightAll ds
    omega
theorem weight_at {ds : List PyData} {i : Nat} {d : PyData} (h : ds[i]? = some d) : d.weight ≤ PyData.weightAll ds := by
  have := weight_split h
  omega
section
variable {P : Program} {w : World} {K : PySem.W.Frag} {mg : Str → Option Value} {base : Heap}
theorem ok_bent {f : Addr} {fd : FuncData} (F : Fun K "_law_bent" "_law_bent" s_L_bent f fd) (gF : mg "_law_bent" = some (.ref f)) (b : Binds K fd ["_law_hand_here", "_law_lump", "_law_room"] []) (B : Bl mg) (c_L_take : Cal P w K mg base 1 "_law_take" spTake) (c_L_odd : Cal P w K mg base 3 "_law_odd" (spOdd K)) : ∀ m, Cal P w K mg base (m + 3) "_law_bent" (spBent K m)
  | 0 => cal_never F gF b fun vs H Q E => by rintro ⟨_, _, _, _, _, _, _, _, _, _, hk, _⟩; omega
  | m + 1 => by
    have c_L_bent := ok_bent F gF b B c_L_take c_L_odd m
    refine ⟨f, fd, _, F.ok sc_L_bent (fun vs H Q E h => ?_) (fun cdv A outer s H vs Q E hr h => ?_), gF, F.kp, b⟩
    · obtain ⟨_, _, _, _, _, _, _, _, _, rfl, _⟩ := h
      rfl
    · obtain ⟨a, v, d, room, Bd, W, D, n, L, rfl, hrm, hd, ht, hB1, hB2, hw, tr, hn, q⟩ := h
      have hh := tr.hand
      refine ⟨_, (C8.pss_cut (ps_if (PW.pt (pw_and (pt_val (pe_callB call_isi (by rfl) B.isinstance (by decide +kernel) (pa_cons (pv 1) (pa_cons (pe_bltn (v := .ty "tuple") (by rfl) B.tuple (by decide +kernel) rfl) pa_nil)))) (pw_and (pt_cmpR (op_neE hr.units) (pv 1) (pe_tup pa_nil) (nomark _)) (pw_and (pt_cmpR op_gt (pv 2) pe_int (nomark _)) (pw_and1 (pt_cmpR op_gt (pe_c c_L_take hr (by omega) (by rfl) (pa_cons (pv 0) (pa_cons pe_int pa_nil))) pe_int (nomark _))))))) (pss_cons (ps_set (i := 3) sc_L_bent.nd rfl (.inl rfl) (pe_c c_L_take hr (by omega) (by rfl) (pa_cons (pv 0) (pa_cons (pe_callB call_len_seq (by rfl) B.len PySem.boot_len (pa_cons (pv 1) pa_nil)) pa_nil)))) (pss_one (ps_ret (pe_op op_catA (pe_op op_catA (pe_slice sl_tupA (pv 1) po_none (po_some (pv 3))) (pe_tup (pa_cons (pe_c c_L_bent hr (by omega) (by rfl) (pa_cons (pv 0) (pa_cons (pe_ix ix_tup (pv 1) (pv 3) (fun _ _ => rfl)) (pa_cons (pe_op op_sub (pv 2) pe_int) pa_nil)))) pa_nil))) (pe_slice sl_tupA (pv 1) (po_some (pe_op op_add (pv 3) pe_int)) po_none))))) pss_nil) (pss_cons (ps_set (i := 4) sc_L_bent.nd rfl (.inl rfl) (pe_c c_L_take hr (by omega) (by rfl) (pa_cons (pv 0) (pa_cons pe_int pa_nil)))) (pss_cons (ps_if (PW.pt (pw_or (pt_not (pt_val (pe_callB call_isi (by rfl) B.isinstance (by decide +kernel) (pa_cons (pv 1) (pa_cons (pe_bltn (v := .ty "tuple") (by rfl) B.tuple (by decide +kernel) rfl) pa_nil))))) (pw_or1 (pt_cmpR op_gt (pv 4) pe_int (nomark _))))) (pss_one (ps_ret (pe_c c_L_odd hr (by omega) (by rfl) (pa_cons (pv 0) (pa_cons (pv 1) pa_nil))))) pss_nil) (pss_cons (ps_set (i := 3) sc_L_bent.nd rfl (.inl rfl) (pe_c c_L_take hr (by omega) (by rfl) (pa_cons (pv 0) (pa_cons (pe_op op_add (pe_callB call_len_seq (by rfl) B.len PySem.boot_len (pa_cons (pv 1) pa_nil)) pe_int) pa_nil)))) (pss_cons (ps_if (pt_cmpR op_eq (pv 4) pe_int (nomark _)) (pss_one (ps_ret (pe_op op_catA (pe_slice sl_tupA (pv 1) po_none (po_some (pv 3))) (pe_slice sl_tupA (pv 1) (po_some (pe_op op_add (pv 3) pe_int)) po_none)))) pss_nil) (pss_cons (ps_if (pt_cmpR op_eq (pv 4) pe_int (nomark _)) (pss_one (ps_ret (pe_op op_catA (pe_op op_catA (pe_slice sl_tupA (pv 1) po_none (po_some (pv 3))) (pe_slice sl_tupA (pv 1) (po_some (pv 3)) (po_some (pe_op op_add (pv 3) pe_int)))) (pe_slice sl_tupA (pv 1) (po_some (pv 3)) po_none)))) pss_nil) (pss_cons (ps_if (pt_cmpR op_eq (pv 4) pe_int (nomark _)) (pss_one (ps_ret (pe_revT (pv 1) (pe_un un_neg pe_int)))) pss_nil) (pss_cons (ps_if (pt_cmpR op_eq (pv 4) pe_int (nomark _)) (pss_one (ps_ret (pe_op op_catA (pe_op op_catA (pe_slice sl_tupA (pv 1) po_none (po_some (pv 3))) (pe_revT (pe_slice sl_tupA (pv 1) (po_some (pv 3)) (po_some (pe_op op_add (pv 3) pe_int))) (pe_un un_neg pe_int))) (pe_slice sl_tupA (pv 1) (po_some (pe_op op_add (pv 3) pe_int)) po_none)))) pss_nil) (pss_one (ps_ret (pe_op op_catA (pe_op op_catA (pe_slice sl_tupA (pv 1) po_none (po_some (pv 3))) (pe_tup (pa_cons (pe_c c_L_odd hr (by omega) (by rfl) (pa_cons (pv 0) (pa_cons (pv 1) pa_nil))) pa_nil))) (pe_slice sl_tupA (pv 1) (po_some (pv 3)) po_none)))))))))))), ?_⟩
      have hWW : d.weight ≤ W := ht.wt
      have one : ∀ {x : Nat}, x ≤ 1000000 → x ≤ sizeLine := fun h => Nat.le_trans h (by decide)
      have hdv : Dq K H v d := dq_same hideL_same hd
      -- the facts about a tuple
      refine ⟨fun σ H' => σ = [some (.ref a), some v, some (.int (room : Int)), none, none] ∧ But a H H' ∧ HandAt H' a (n + 1), ?_, ?_⟩
      · refine ⟨v, rfl, v, .ty "tuple", _, _, _, rfl, .ty _, Dq.tyx hdv, kit_ty (kit_tup d), _, rfl, ?_⟩
        cases hd with
        | @tup p xs ds h1 h2 =>
          have hp : SqT K H p xs := same_sqt hideL_same h1
          have hlen := dqall_len h2
          have hl4 : ds.length ≤ 100000 := Nat.le_trans (len_weight ds) hw
          refine iteTT rfl ⟨.ref p, rfl, (by show 0 ≤ sizeLine; decide), fun t0 nt0 => ⟨p, t0, xs, rfl, rfl, same_sqt (same_new nt0) hp, SqT.of upd_same, _, rfl, ?_⟩⟩
          have s1 : Same H (upd H t0 (.tup [])) := same_new nt0
          generalize upd H t0 (.tup []) = H1 at s1 ⊢
          have hh1 := hh.same s1
          cases hxe : xs.isEmpty with
          | true => exact iteFF rfl (iteFF rfl ⟨rfl, But.of s1, hh1.le (by omega)⟩)
          | false =>
            refine iteTT rfl ⟨_, rfl, _, _, rfl, rfl, _, rfl, iteD (fun cr => ?_) (fun cr => ?_)⟩
            · refine ⟨.ref a, rfl, a, 6, n, rfl, by decide, by decide, hh1, by omega, fun H2 r b2 hh2 r0 r1 => ⟨_, _, rfl, rfl, _, rfl, iteD (fun c => ?_) (fun c => ?_)⟩⟩
              · have bb2 := (But.of (a := a) s1).trans b2
                have hp2 : SqT K H2 p xs := bb2.sq hh hp
                have hpos : 0 < xs.length := by
                  cases xs with
                  | nil => cases hxe
                  | cons _ _ => exact Nat.succ_pos _
                obtain ⟨D0, rfl⟩ : ∃ D0, D = D0 + 1 := ⟨D - 1, by have h : PyData.depthAll ds + 1 ≤ D := ht.dp; omega⟩
                refine ⟨.ref a, rfl, .ref p, rfl, p, _, rfl, .inr hp2, a, _, _, rfl, by omega, by omega, hh2, by omega, fun H3 r1 b3 hh3 r10 r11 => ?_⟩
                obtain ⟨i, rfl⟩ : ∃ i : Nat, r1 = (i : Int) := ⟨r1.toNat, by omega⟩
                have hi : i < xs.length := by omega
                obtain ⟨dd, hdd⟩ : ∃ dd, ds[i]? = some dd := ⟨_, List.getElem?_eq_getElem (by omega)⟩
                have bb3 := bb2.trans b3
                have hp3 : SqT K H3 p xs := bb3.sq hh hp
                have hd3 : DqAll K (hideL (a :: L) H3) xs ds := dqall_same (hideL_but bb3) h2
                have tr3 := tr.but bb3 hh3
                obtain ⟨r', hr'⟩ : ∃ r' : Nat, (room : Int) - 1 = (r' : Int) := ⟨room - 1, by omega⟩
                refine ⟨.ref p, rfl, .int (i : Int), rfl, (i : Int), rfl, ?_⟩
                dsimp only [tNoPart]
                refine slA hp3 fun H4 t1 s4 h4 => ?_
                rw [cut_to] at h4
                have hvi : xs[i]? = some (xs[i]'hi) := List.getElem?_eq_getElem hi
                obtain ⟨x0, hx0⟩ : ∃ x0, xs[i]'hi = x0 := ⟨_, rfl⟩
                rw [hx0] at hvi
                obtain ⟨dd', hdd', hdx⟩ := dqall_get hd3 hvi
                rw [hdd] at hdd'
                cases hdd'
                have hdw : dd.weight ≤ 100000 := by
                  have h1 := weight_at hdd
                  have h2 : PyData.weightAll ds ≤ 100000 := hw
                  omega
                have hh4 := hh3.same s4
                refine ⟨.ref a, rfl, .ref p, rfl, .int (i : Int), rfl, p, _, (i : Int), _, rfl, rfl, same_sqt s4 hp3, at_of (j := i) rfl hvi, _, rfl, _, _, rfl, rfl, ?_⟩
                refine ⟨a, x0, dd, r', Bd, dd.weight, D0, _, L, (by show [V.ref a, x0, V.int ((room : Int) - 1)] = _; rw [hr']), by omega, dq_same (hideL_same2 s4) hdx, ?_, hB1, hB2, hdw, tr3.same s4, by omega, fun H6 v6 d6 b6 hh6 hd6 ht6 => ⟨(by show 1 ≤ sizeLine; decide), fun t6 n6 => ?_⟩⟩
                · obtain ⟨_, _, _, _, y, _, _⟩ := ht.items.at hdd
                  exact ⟨y.tm, Nat.le_refl _, y.dp⟩
                · have h4' : SqT K H6 t1 (xs.take i) := b6.sq hh4 h4
                  refine catA (same_sqt (same_new n6) h4') (SqT.of upd_same) (one (by rw [List.length_take]; show _ + 1 ≤ _; omega)) fun H7 t3 s7 h7 => ?_
                  have s67 := (same_new (o := .tup [v6]) n6).trans s7
                  have bb7 : But a H3 H7 := ((But.of s4).trans b6).trans (But.of s67)
                  have hp7 : SqT K H7 p xs := bb7.sq hh3 hp3
                  refine ⟨.ref p, rfl, .int (i : Int), rfl, _, _, rfl, rfl, ((i + 1 : Nat) : Int), rfl, ?_⟩
                  dsimp only [tNoPart]
                  refine slA hp7 fun H8 t4 s8 h8 => ?_
                  rw [cut_from] at h8
                  refine catA (same_sqt s8 h7) h8 (one (by rw [List.length_append, List.length_take, List.length_drop]; show _ + 1 + _ ≤ _; omega)) fun H9 t5 s9 h9 => ?_
                  have s69 := (s67.trans s8).trans s9
                  have bb9 : But a H3 H9 := ((But.of s4).trans b6).trans (But.of s69)
                  have hh9 := hh6.same s69
                  have h29 : DqAll K (hideL (a :: L) H9) xs ds := dqall_same (hideL_but bb9) hd3
                  have hd9 : Dq K (hideL (a :: L) H9) v6 d6 := dq_same (hideL_same2 s69) hd6
                  refine q H9 (.ref t5) (.tuple (ds.take i ++ [d6] ++ ds.drop (i + 1))) (bb3.trans bb9) (hh9.le (by omega)) (.tup (hideL_sqt (tr.but (bb3.trans bb9) hh9) h9) (dqall_app (dqall_drop h29) (dqall_app (.cons hd9 .nil) (dqall_take h29)))) ?_
                  have ht' : Tm (Bd + 1) W (D0 + 1) (.tuple ds) := ht.mono (by omega) (Nat.le_refl _) (Nat.le_refl _)
                  obtain ⟨W1, W2, W3, w1, w2, w3, w4⟩ := ht'.items.at hdd
                  have hW := weight_split hdd
                  have hWW : PyData.weightAll ds ≤ W := ht.wt
                  have hdds : Tms (Bd + 1) (PyData.weightAll (ds.take i)) D0 (ds.take i) := ⟨w1.tm, Nat.le_refl _, w1.dp⟩
                  have hdde : Tms (Bd + 1) (PyData.weightAll (ds.drop (i + 1))) D0 (ds.drop (i + 1)) := ⟨w3.tm, Nat.le_refl _, w3.dp⟩
                  exact (Tms.app (hdde.mono (D' := D0 + 3) (Nat.le_refl _) (Nat.le_refl _) (by omega)) (Tms.app (Tms.cons ht6 (.nil (W := 0))) (hdds.mono (D' := D0 + 3) (Nat.le_refl _) (Nat.le_refl _) (by omega)))).tup.mono (Nat.le_refl _) (by omega) (by omega)
              · exact ⟨rfl, (But.of s1).trans b2, hh2⟩
            · exact iteFF rfl ⟨rfl, But.of s1, hh1.le (by omega)⟩
        | _ => exact iteFF rfl (iteFF rfl ⟨rfl, But.refl _ _, hh.le (by omega)⟩)
      · rintro σ H1 ⟨rfl, b1, hh1⟩
        refine ⟨.ref a, rfl, a, 8, _, rfl, by decide, by decide, hh1, by omega, fun H2 wy b2 hh2 wy0 wy1 => ?_⟩
        have bb2 := b1.trans b2
        have hodd : ∀ (H' : Hp) (n' : Nat), But a H H' → HandAt H' a n' → n' ≤ n + 3 → spOdd K [.ref a, v] H' Q E0 := fun H' n' b' hh' hn' =>
          ⟨a, v, d, Bd, W, D, n', L, rfl, dq_same (hideL_but b') hd, ht, hB1, hB2, hw, tr.but b' hh', by omega, fun H2 v2 d2 b2 hh2 hd2 ht2 => q H2 v2 d2 (b'.trans b2) (hh2.le (by omega)) hd2 (ht2.mono (Nat.le_refl _) (by omega) (by omega))⟩
        have hd2 := dq_same (hideL_but bb2) hd
        have hdv2 := dq_same hideL_same hd2
        refine ⟨v, rfl, v, .ty "tuple", _, _, _, rfl, .ty _, Dq.tyx hdv2, kit_ty (kit_tup d), _, rfl, ?_⟩
        cases hd2 with
        | @tup p xs ds h1 h2 =>
          have hp : SqT K H2 p xs := same_sqt hideL_same h1
          have hlen := dqall_len h2
          have hl4 : ds.length ≤ 100000 := Nat.le_trans (len_weight ds) hw
          refine iteFF rfl ⟨_, rfl, _, _, rfl, rfl, _, rfl, iteD (fun c => ?_) (fun c => ?_)⟩
          · exact ⟨.ref a, rfl, .ref p, rfl, hodd _ _ bb2 hh2 (by omega)⟩
          · obtain ⟨D0, rfl⟩ : ∃ D0, D = D0 + 1 := ⟨D - 1, by have h : PyData.depthAll ds + 1 ≤ D := ht.dp; omega⟩
            refine ⟨.ref a, rfl, .ref p, rfl, p, _, rfl, .inr hp, _, _, rfl, rfl, a, _, _, rfl, by omega, by omega, hh2, by omega, fun H4 r1 b4 hh4 r10 r11 => ?_⟩
            obtain ⟨i, rfl⟩ : ∃ i : Nat, r1 = (i : Int) := ⟨r1.toNat, by omega⟩
            have hi : i ≤ xs.length := by omega
            have bb4 := bb2.trans b4
            have hp4 : SqT K H4 p xs := b4.sq hh2 hp
            have ht' : Tm (Bd + 1) W (D0 + 1) (.tuple ds) := ht.mono (by omega) (Nat.le_refl _) (Nat.le_refl _)
            have hts := ht'.items
            have h24 : DqAll K (hideL (a :: L) H4) xs ds := dqall_same (hideL_but b4) h2
            have fin : ∀ (H7 : Hp) (t : Addr) (ys : List V) (es : List PyData), Same H4 H7 → SqT K H7 t ys → DqAll K (hideL (a :: L) H4) ys es → Tms (Bd + 1) (3 * W + 500) (D0 + 3) es → Q (.ref t) H7 := fun H7 t ys es sm hty ha hes =>
              q H7 (.ref t) (.tuple es) (bb4.trans (But.of sm)) ((hh4.same sm).le (by omega)) (.tup (hideL_sqt ((tr.but bb4 hh4).same sm) hty) (dqall_same (hideL_same2 sm) ha)) hes.tup
            obtain ⟨V1, V2, v1, v2, v3⟩ := hts.split i
            obtain ⟨U1, U2, u1, u2, u3⟩ := hts.split (i + 1)
            obtain ⟨X1, X2, x1, x2, x3⟩ := hts.split (i + 2)
            refine ⟨.int wy, rfl, rfl, _, rfl, iteD (fun c0 => ?_) (fun c0 => ?_)⟩
            · refine ⟨.ref p, rfl, .int (i : Int), rfl, (i : Int), rfl, ?_⟩
              dsimp only [tNoPart]
              refine slA hp4 fun H5 t1 s5 h5 => ?_
              refine ⟨.ref p, rfl, .int (i : Int), rfl, _, _, rfl, rfl, ((i + 1 : Nat) : Int), rfl, ?_⟩
              dsimp only [tNoPart]
              refine slA (same_sqt s5 hp4) fun H6 t2 s6 h6 => ?_
              rw [cut_to] at h5
              rw [cut_from] at h6
              refine catA (same_sqt s6 h5) h6 (one (by rw [List.length_take, List.length_drop]; omega)) fun H7 t3 s7 h7 => ?_
              exact fin H7 t3 _ _ ((s5.trans s6).trans s7) h7 (dqall_app (dqall_drop h24) (dqall_take h24)) ((Tms.app u2 v1).mono (Nat.le_refl _) (by omega) (by omega))
            · refine ⟨.int wy, rfl, rfl, _, rfl, iteD (fun c1 => ?_) (fun c1 => ?_)⟩
              · refine ⟨.ref p, rfl, .int (i : Int), rfl, (i : Int), rfl, ?_⟩
                dsimp only [tNoPart]
                refine slA hp4 fun H5 t1 s5 h5 => ?_
                refine ⟨.ref p, rfl, .int (i : Int), rfl, (i : Int), rfl, .int (i : Int), rfl, _, _, rfl, rfl, ((i + 1 : Nat) : Int), rfl, ?_⟩
                refine slA (same_sqt s5 hp4) fun H6 t2 s6 h6 => ?_
                rw [cut_to] at h5
                rw [cut_mid] at h6
                refine catA (same_sqt s6 h5) h6 (one (by rw [List.length_take, List.length_take, List.length_drop]; omega)) fun H7 t3 s7 h7 => ?_
                have s57 := (s5.trans s6).trans s7
                refine ⟨.ref p, rfl, .int (i : Int), rfl, (i : Int), rfl, ?_⟩
                dsimp only [tNoPart]
                refine slA (same_sqt s57 hp4) fun H8 t4 s8 h8 => ?_
                rw [cut_from] at h8
                refine catA (same_sqt s8 h7) h8 (one (by rw [List.length_append, List.length_take, List.length_take, List.length_drop]; omega)) fun H9 t5 s9 h9 => ?_
                obtain ⟨V3, V4, v4, v5, v6⟩ := v2.split (i + 1 - i)
                exact fin H9 t5 _ _ ((s57.trans s8).trans s9) h9 (dqall_app (dqall_drop h24) (dqall_app (dqall_take (dqall_drop h24)) (dqall_take h24))) ((Tms.app v2 (Tms.app v4 v1)).mono (Nat.le_refl _) (by omega) (by omega))
              · refine ⟨.int wy, rfl, rfl, _, rfl, iteD (fun c2 => ?_) (fun c2 => ?_)⟩
                · refine ⟨.ref p, rfl, _, rfl, rfl, p, _, rfl, hp4, fun t6 n6 => ?_⟩
                  exact fin _ t6 _ _ (same_new n6) (SqT.of upd_same) (dqall_rev h24) ((Tms.rev (W := 0) hts).mono (Nat.le_refl _) (by omega) (by omega))
                · refine ⟨.int wy, rfl, rfl, _, rfl, iteD (fun c3 => ?_) (fun c3 => ?_)⟩
                  · refine ⟨.ref p, rfl, .int (i : Int), rfl, (i : Int), rfl, ?_⟩
                    dsimp only [tNoPart]
                    refine slA hp4 fun H5 t1 s5 h5 => ?_
                    refine ⟨.ref p, rfl, .int (i : Int), rfl, (i : Int), rfl, .int (i : Int), rfl, _, _, rfl, rfl, ((i + 2 : Nat) : Int), rfl, ?_⟩
                    refine slA (same_sqt s5 hp4) fun H6 t2 s6 h6 => ?_
                    rw [cut_to] at h5
                    rw [cut_mid] at h6
                    refine ⟨_, rfl, rfl, t2, _, rfl, h6, fun t6 n6 => ?_⟩
                    have s6' := s6.trans (same_new (o := .tup ((xs.drop i).take (i + 2 - i)).reverse) n6)
                    have h6' : SqT K (upd H6 t6 (.tup ((xs.drop i).take (i + 2 - i)).reverse)) t6 _ := SqT.of upd_same
                    refine catA (same_sqt s6' h5) h6' (one (by rw [List.length_reverse, List.length_take, List.length_take, List.length_drop]; omega)) fun H7 t3 s7 h7 => ?_
                    have s57 := (s5.trans s6').trans s7
                    refine ⟨.ref p, rfl, .int (i : Int), rfl, _, _, rfl, rfl, ((i + 2 : Nat) : Int), rfl, ?_⟩
                    dsimp only [tNoPart]
                    refine slA (same_sqt s57 hp4) fun H8 t4 s8 h8 => ?_
                    rw [cut_from] at h8
                    refine catA (same_sqt s8 h7) h8 (one (by rw [List.length_append, List.length_reverse, List.length_take, List.length_take, List.length_drop, List.length_drop]; omega)) fun H9 t5 s9 h9 => ?_
                    obtain ⟨V3, V4, v4, v5, v6⟩ := v2.split (i + 2 - i)
                    exact fin H9 t5 _ _ ((s57.trans s8).trans s9) h9 (dqall_app (dqall_drop h24) (dqall_app (dqall_rev (dqall_take (dqall_drop h24))) (dqall_take h24))) ((Tms.app x2 (Tms.app (Tms.rev (W := 0) v4) v1)).mono (Nat.le_refl _) (by omega) (by omega))
                  · refine ⟨.ref p, rfl, .int (i : Int), rfl, (i : Int), rfl, ?_⟩
                    dsimp only [tNoPart]
                    refine slA hp4 fun H5 t1 s5 h5 => ?_
                    rw [cut_to] at h5
                    have hh5 := hh4.same s5
                    refine ⟨.ref a, rfl, .ref p, rfl, a, .ref p, .tuple ds, Bd, W, D0 + 1, _, L, rfl, .tup (hideL_sqt ((tr.but bb4 hh4).same s5) (same_sqt s5 hp4)) (dqall_same (hideL_same2 s5) h24), ht, hB1, hB2, hw, (tr.but bb4 hh4).same s5, by omega, fun H6 v6 d6 b6 hh6 hd6 ht6 => ⟨(by show 1 ≤ sizeLine; decide), fun t6 n6 => ?_⟩⟩
                    have h5' : SqT K H6 t1 (xs.take i) := b6.sq hh5 h5
                    refine catA (same_sqt (same_new n6) h5') (SqT.of upd_same) (one (by rw [List.length_take]; show _ + 1 ≤ _; omega)) fun H7 t3 s7 h7 => ?_
                    have s67 := (same_new (o := .tup [v6]) n6).trans s7
                    have bb7 : But a H4 H7 := ((But.of s5).trans b6).trans (But.of s67)
                    have hp7 : SqT K H7 p xs := bb7.sq hh4 hp4
                    refine ⟨.ref p, rfl, .int (i : Int), rfl, (i : Int), rfl, ?_⟩
                    dsimp only [tNoPart]
                    refine slA hp7 fun H8 t4 s8 h8 => ?_
                    rw [cut_from] at h8
                    refine catA (same_sqt s8 h7) h8 (one (by rw [List.length_append, List.length_take, List.length_drop]; show _ + 1 + _ ≤ _; omega)) fun H9 t5 s9 h9 => ?_
                    have s69 := (s67.trans s8).trans s9
                    have bb9 : But a H4 H9 := ((But.of s5).trans b6).trans (But.of s69)
                    have hh9 := hh6.same s69
                    have h29 : DqAll K (hideL (a :: L) H9) xs ds := dqall_same (hideL_but bb9) h24
                    have hd9 : Dq K (hideL (a :: L) H9) v6 d6 := dq_same (hideL_same2 s69) hd6
                    refine q H9 (.ref t5) (.tuple (ds.take i ++ [d6] ++ ds.drop i)) (bb4.trans bb9) (hh9.le (by omega)) (.tup (hideL_sqt (tr.but (bb4.trans bb9) hh9) h9) (dqall_app (dqall_drop h29) (dqall_app (.cons hd9 .nil) (dqall_take h29)))) ?_
                    exact (Tms.app (v2.mono (D' := D0 + 3) (Nat.le_refl _) (Nat.le_refl _) (by omega)) (Tms.app (Tms.cons ht6 (.nil (W := 0))) (v1.mono (D' := D0 + 3) (Nat.le_refl _) (Nat.le_refl _) (by omega)))).tup.mono (Nat.le_refl _) (by omega) (by omega)
        | _ => exact iteTT rfl (iteTT rfl ⟨.ref a, rfl, _, rfl, hodd _ _ bb2 hh2 (by omega)⟩)
end
end NG

namespace NG
open PySem PySem.Spec PyProof.Rows L2
section
variable {P : Program} {w : World} {K : PySem.W.Frag} {mg : Str → Option Value} {base : Heap}
theorem ok_leaf {f : Addr} {fd : FuncData} (F : Fun K "_law_leaf" "_law_leaf" s_L_leaf f fd) (gF : mg "_law_leaf" = some (.ref f)) (b : Binds K fd ["_law_hand_here", "_law_wide"] []) (B : Bl mg) (c_L_take : Cal P w K mg base 1 "_law_take" spTake) (c_L_figure : Cal P w K mg base 3 "_law_figure" spFigure) : Cal P w K mg base 4 "_law_leaf" (spLeaf K) := by
  refine ⟨f, fd, _, F.ok sc_L_leaf (fun vs H Q E h => ?_) (fun cdv A outer s H vs Q E hr h => ?_), gF, F.kp, b⟩
  · obtain ⟨_, _, _, rfl, _⟩ := h
    rfl
  · obtain ⟨a, many, n, rfl, hm1, hm2, hh, hn, q⟩ := h
    refine ⟨_, (pss_cons (ps_set (i := 2) sc_L_leaf.nd rfl (.inl rfl) (pe_c c_L_take hr (by omega) (by rfl) (pa_cons (pv 0) (pa_cons pe_int pa_nil)))) (pss_cons (ps_if (pt_cmpR op_eq (pv 2) pe_int (nomark _)) (pss_one (ps_ret (pe_tup (pa_cons pe_str (pa_cons (pe_c c_L_take hr (by omega) (by rfl) (pa_cons (pv 0) (pa_cons pe_int pa_nil))) pa_nil))))) pss_nil) (pss_one (ps_ret (pe_ifExp (pt_cmpR op_eq (pv 2) pe_int (nomark _)) (pe_tup (pa_cons pe_str (pa_cons (pe_c c_L_figure hr (by omega) (by rfl) (pa_cons (pv 0) pa_nil)) pa_nil))) (pe_tup (pa_cons pe_str (pa_cons (pe_c c_L_take hr (by omega) (by rfl) (pa_cons (pv 0) (pa_cons (pv 1) pa_nil))) pa_nil)))))))), ?_⟩
    refine ⟨.ref a, rfl, a, 4, n, rfl, by decide, by decide, hh, by omega, fun H1 r b1 hh1 r0 r1 => ?_⟩
    refine ⟨.int r, rfl, rfl, _, rfl, iteD (fun c => ?_) (fun c => ?_)⟩
    · refine ⟨.ref a, rfl, a, 4, n + 1, rfl, by decide, by decide, hh1, by omega, fun H2 r2 b2 hh2 r20 r21 => ⟨(by show 2 ≤ sizeLine; decide), fun p np => ?_⟩⟩
      refine q _ _ (.reg r2.toNat) ((b1.trans b2).trans (But.new np)) ((hh2.new np).le (by omega)) ⟨p, rfl, ?_⟩ (by show r2.toNat < 4; omega) (Nat.le_refl _)
      rw [Int.toNat_of_nonneg r20]
      exact SqT.of upd_same
    · refine ⟨.int r, rfl, rfl, _, rfl, iteD (fun c => ?_) (fun c => ?_)⟩
      · refine ⟨.ref a, rfl, a, n + 1, rfl, hh1, by omega, fun H2 r2 b2 hh2 r20 r21 => ⟨(by show 2 ≤ sizeLine; decide), fun p np => ?_⟩⟩
        exact q _ _ (.fig r2) ((b1.trans b2).trans (But.new np)) ((hh2.new np).le (by omega)) ⟨p, rfl, SqT.of upd_same⟩ ⟨r20, r21⟩ (Nat.le_refl _)
      · refine ⟨.ref a, rfl, .int (many : Int), rfl, a, _, n + 1, rfl, by omega, by omega, hh1, by omega, fun H2 r2 b2 hh2 r20 r21 => ⟨(by show 2 ≤ sizeLine; decide), fun p np => ?_⟩⟩
        refine q _ _ (.share r2.toNat) ((b1.trans b2).trans (But.new np)) ((hh2.new np).le (by omega)) ⟨p, rfl, ?_⟩ (by show r2.toNat < many; omega) (Nat.le_refl _)
        rw [Int.toNat_of_nonneg r20]
        exact SqT.of upd_same
def isW (s : Str) : Prop := s = "sum" ∨ s = "less" ∨ s = "least" ∨ s = "most" ∨ s = "times" ∨ s = "by" ∨ s = "when" ∨ s = "leaf" ∨ s = "where"
theorem ok_expr {f : Addr} {fd : FuncData} (F : Fun K "_law_expression" "_law_expression" s_L_expression f fd) (gF : mg "_law_expression" = some (.ref f)) (b : Binds K fd ["_law_hand_here", "_law_wide", "_law_level", "_law_jumps"] []) (B : Bl mg) (c_L_take : Cal P w K mg base 1 "_law_take" spTake) (c_L_of : Cal P w K mg base 2 "_law_of" (spOf K)) (c_L_figure : Cal P w K mg base 3 "_law_figure" spFigure) (c_L_leaf : Cal P w K mg base 4 "_law_leaf" (spLeaf K)) : ∀ n, Cal P w K mg base (n + 4) "_law_expression" (spExprJ K n) := by
  intro n
  induction n with
  | zero =>
    refine cal_never F gF b fun vs H Q E h => ?_
    obtain ⟨_, _, l, _, _, _, _, hl, _⟩ := h
    omega
  | succ n c_L_expression =>
  refine ⟨f, fd, _, F.ok sc_L_expression (fun vs H Q E h => ?_) (fun cdv A outer s H vs Q E hr h => ?_), gF, F.kp, b⟩
  · obtain ⟨_, _, _, _, _, rfl, _⟩ := h
    rfl
  · obtain ⟨a, many, l, k, j, rfl, hj, hl, hm1, hm2, hh, hk, q⟩ := h
    refine ⟨_, (pss_cons (ps_set (i := 4) sc_L_expression.nd rfl (.inl rfl) (pe_lst (pa_cons pe_str (pa_cons pe_str (pa_cons pe_str (pa_cons pe_str (pa_cons pe_str (pa_cons pe_str (pa_cons pe_str (pa_cons pe_str (pa_cons pe_str (pa_cons pe_str pa_nil)))))))))))) (pss_cons (ps_set (i := 4) sc_L_expression.nd rfl (.inl rfl) (pe_op op_cat (pv 4) (pe_op op_rep (pe_lst (pa_cons pe_str (pa_cons pe_str pa_nil))) (pv 3)))) (pss_cons (ps_set (i := 5) sc_L_expression.nd rfl (.inl rfl) (pe_cut (pe_ifExp (pt_cmpR op_eq (pv 2) pe_int (nomark _)) pe_str (pe_c c_L_of hr (by omega) (by rfl) (pa_cons (pv 0) (pa_cons (pv 4) pa_nil)))))) (pss_cons (ps_if (pt_cmpR op_eq (pv 5) pe_str (nomark _)) (pss_one (ps_ret (pe_c c_L_leaf hr (by omega) (by rfl) (pa_cons (pv 0) (pa_cons (pv 1) pa_nil))))) pss_nil) (pss_cons (ps_set (i := 6) sc_L_expression.nd rfl (.inl rfl) (pe_c c_L_expression hr (by omega) (by rfl) (pa_cons (pv 0) (pa_cons (pv 1) (pa_cons (pe_op op_sub (pv 2) pe_int) (pa_cons (pv 3) pa_nil)))))) (pss_cons (ps_if (pt_cmpR op_eq (pv 5) pe_str (nomark _)) (pss_one (ps_ret (pe_tup (pa_cons (pv 5) (pa_cons (pe_op op_sub (pe_c c_L_take hr (by omega) (by rfl) (pa_cons (pv 0) (pa_cons pe_int pa_nil))) pe_int) (pa_cons (pv 6) pa_nil)))))) pss_nil) (pss_cons (ps_if (pt_cmpR op_eq (pv 5) pe_str (nomark _)) (pss_one (ps_ret (pe_tup (pa_cons (pv 5) (pa_cons (pe_c c_L_take hr (by omega) (by rfl) (pa_cons (pv 0) (pa_cons pe_int pa_nil))) (pa_cons (pv 6) pa_nil)))))) pss_nil) (pss_cons (ps_set (i := 7) sc_L_expression.nd rfl (.inl rfl) (pe_c c_L_expression hr (by omega) (by rfl) (pa_cons (pv 0) (pa_cons (pv 1) (pa_cons (pe_op op_sub (pv 2) pe_int) (pa_cons (pv 3) pa_nil)))))) (pss_cons (ps_if (pt_cmpR op_eq (pv 5) pe_str (nomark _)) (pss_one (ps_ret (pe_tup (pa_cons (pv 5) (pa_cons (pe_c c_L_take hr (by omega) (by rfl) (pa_cons (pv 0) (pa_cons pe_int pa_nil))) (pa_cons (pe_c c_L_figure hr (by omega) (by rfl) (pa_cons (pv 0) pa_nil)) (pa_cons (pv 6) (pa_cons (pv 7) pa_nil)))))))) pss_nil) (pss_cons (ps_if (pt_cmpR op_eq (pv 5) pe_str (nomark _)) (pss_cons (ps_set (i := 8) sc_L_expression.nd rfl (.inl rfl) (pe_c c_L_of hr (by omega) (by rfl) (pa_cons (pv 0) (pa_cons (pe_lst (pa_cons pe_int (pa_cons pe_int (pa_cons pe_int (pa_cons pe_int (pa_cons pe_int (pa_cons (pe_op op_add pe_int (pe_c c_L_take hr (by omega) (by rfl) (pa_cons (pv 0) (pa_cons pe_int pa_nil)))) pa_nil))))))) pa_nil)))) (pss_one (ps_ret (pe_tup (pa_cons (pv 5) (pa_cons (pe_c c_L_take hr (by omega) (by rfl) (pa_cons (pv 0) (pa_cons (pv 1) pa_nil))) (pa_cons (pv 8) (pa_cons (pv 6) (pa_cons (pv 7) pa_nil))))))))) pss_nil) (pss_one (ps_ret (pe_tup (pa_cons (pv 5) (pa_cons (pv 6) (pa_cons (pv 7) pa_nil)))))))))))))))), ?_⟩
    refine ⟨(by show 10 ≤ sizeLine; decide), fun p1 n1 => ?_⟩
    have hh1 := hh.new (o := .lst [.str "sum", .str "less", .str "least", .str "most", .str "least", .str "most", .str "times", .str "by", .str "when", .str "leaf"]) n1
    refine ⟨.ref p1, rfl, (by show 2 ≤ sizeLine; decide), fun p2 n2 => ?_⟩
    have e1 : (upd H p1 (.lst [.str "sum", .str "less", .str "least", .str "most", .str "least", .str "most", .str "times", .str "by", .str "when", .str "leaf"])) p1 = _ := upd_same
    have hh2 := hh1.new (o := .lst [.str "where", .str "where"]) n2
    refine ⟨.int (j : Int), rfl, p2, (j : Int), _, rfl, rfl, upd_same, by omega, by omega, Nat.le_of_lt (small1000 (by show 2 * ((j : Int)).toNat ≤ 1000; omega)), fun p3 n3 => ?_⟩
    have hws : ∀ v ∈ (List.replicate ((j : Int)).toNat [V.str "where", V.str "where"]).flatten, v = V.str "where" := by
      intro v hv
      obtain ⟨l, hl, hv⟩ := List.mem_flatten.mp hv
      rw [(List.mem_replicate.mp hl).2] at hv
      simp only [List.mem_cons, List.not_mem_nil, or_false] at hv
      rcases hv with h | h <;> exact h
    have hwl : ((List.replicate ((j : Int)).toNat [V.str "where", V.str "where"]).flatten).length ≤ 2 := by
      have : j = 0 ∨ j = 1 := by omega
      rcases this with rfl | rfl <;> decide
    generalize (List.replicate ((j : Int)).toNat [V.str "where", V.str "where"]).flatten = ws at n3 hws hwl ⊢
    have hh3 := hh2.new (o := .lst ws) n3
    have e2 : (upd (upd H p1 (.lst [.str "sum", .str "less", .str "least", .str "most", .str "least", .str "most", .str "times", .str "by", .str "when", .str "leaf"])) p2 (.lst [.str "where", .str "where"])) p1 = _ := (upd_ne (ne_of_none e1 n2)).trans e1
    refine ⟨p1, p3, _, _, rfl, rfl, (upd_ne (ne_of_none e2 n3)).trans e2, upd_same, Nat.le_of_lt (small1000 (by show 10 + ws.length ≤ 1000; omega)), fun p4 n4 => ?_⟩
    have hh4 := hh3.new (o := .lst ([.str "sum", .str "less", .str "least", .str "most", .str "least", .str "most", .str "times", .str "by", .str "when", .str "leaf"] ++ ws)) n4
    have b4 : But a H _ := (((But.new (a := a) n1).trans (But.new n2)).trans (But.new n3)).trans (But.new (o := .lst ([.str "sum", .str "less", .str "least", .str "most", .str "least", .str "most", .str "times", .str "by", .str "when", .str "leaf"] ++ ws)) n4)
    have ne4 := hh3.ne n4
    -- the word
    refine ⟨fun v H' => But a H H' ∧ HandAt H' a (k + 1) ∧ ∃ s : Str, v = .str s ∧ isW s ∧ (l = 0 → s = "leaf"), ?_, fun v H5 hv => ?_⟩
    · refine ⟨.int (l : Int), rfl, rfl, _, rfl, iteD (fun c => ?_) (fun c => ?_)⟩
      · exact ⟨b4, hh4.le (by omega), _, rfl, by unfold isW; simp, fun _ => rfl⟩
      · refine ⟨.ref a, rfl, .ref p4, rfl, a, p4, _, k, rfl, ne4.symm, upd_same, (by rw [List.length_append]; show 0 < 10 + ws.length; omega), (by rw [List.length_append]; show 10 + ws.length ≤ 1000; omega), hh4, by omega, fun H5 v b5 hh5 hv => ⟨b4.trans b5, hh5, ?_⟩⟩
        have hl0 : l ≠ 0 := fun z => c (by rw [z]; rfl)
        have key : ∃ s : Str, v = .str s ∧ isW s := by
          rcases List.mem_append.mp hv with hv | hv
          · simp only [List.mem_cons, List.not_mem_nil, or_false] at hv
            rcases hv with rfl | rfl | rfl | rfl | rfl | rfl | rfl | rfl | rfl | rfl
            all_goals exact ⟨_, rfl, by unfold isW; simp⟩
          · exact ⟨_, hws v hv, by unfold isW; simp⟩
        obtain ⟨s, rfl, hs⟩ := key
        exact ⟨s, rfl, hs, fun z => absurd z hl0⟩
    obtain ⟨b5, hh5, sw, rfl, hw, hl0⟩ := hv
    refine ⟨.str sw, rfl, rfl, _, rfl, iteD (fun c => ?_) (fun c => ?_)⟩
    · refine ⟨.ref a, rfl, .int (many : Int), rfl, a, many, k + 1, rfl, hm1, hm2, hh5, by have := cost_ge l; omega, fun H6 v e b6 hh6 he ho hd => ?_⟩
      exact q _ _ e (b5.trans b6) (hh6.le (by have := cost_ge l; omega)) he ho (by omega)
    · have hsl : sw ≠ "leaf" := fun z => c (by rw [z])
      obtain ⟨l', rfl⟩ : ∃ l', l = l' + 1 := by
        cases l with
        | zero => exact absurd (hl0 rfl) hsl
        | succ l' => exact ⟨l', rfl⟩
      have hcost : cost (l' + 1) = 2 * cost l' + 20 := rfl
      have elev : V.int (((l' + 1 : Nat) : Int) - 1) = V.int (l' : Int) := by
        congr 1
        omega
      refine ⟨.ref a, rfl, .int (many : Int), rfl, .int ((l' + 1 : Nat) : Int), rfl, _, 1, rfl, rfl, .int (j : Int), rfl, a, many, l', k + 1, j, (by show [V.ref a, V.int (many : Int), V.int (((l' + 1 : Nat) : Int) - 1), V.int (j : Int)] = _; rw [elev]), hj, by omega, hm1, hm2, hh5, by omega, fun H6 x e1 b6 hh6 he1 ho1 hd1 => ?_⟩
      have b06 := b5.trans b6
      -- times
      refine ⟨.str sw, rfl, rfl, _, rfl, iteD (fun c => ?_) (fun ct => ?_)⟩
      · have c : sw = "times" := V.str.inj c
        subst c
        refine ⟨_, rfl, .ref a, rfl, a, 19, _, rfl, by decide, by decide, hh6, by omega, fun H7 r b7 hh7 r0 r1 => ⟨_, 9, rfl, rfl, x, rfl, (by show 3 ≤ sizeLine; decide), fun p np => ?_⟩⟩
        exact q _ _ (.times (r - 9) e1) ((b06.trans b7).trans (But.new np)) ((hh7.new np).le (by omega)) ⟨p, x, rfl, SqT.of upd_same, (he1.but b7 hh6).new np⟩ ⟨⟨by omega, by omega⟩, ho1⟩ (by show e1.dep + 1 ≤ _; omega)
      -- by
      refine ⟨.str sw, rfl, rfl, _, rfl, iteD (fun c => ?_) (fun cb => ?_)⟩
      · have c : sw = "by" := V.str.inj c
        subst c
        refine ⟨_, rfl, .ref a, rfl, a, 4, _, rfl, by decide, by decide, hh6, by omega, fun H7 r b7 hh7 r0 r1 => ⟨x, rfl, (by show 3 ≤ sizeLine; decide), fun p np => ?_⟩⟩
        refine q _ _ (.by r.toNat e1) ((b06.trans b7).trans (But.new np)) ((hh7.new np).le (by omega)) ⟨p, x, rfl, ?_, (he1.but b7 hh6).new np⟩ ⟨by omega, ho1⟩ (by show e1.dep + 1 ≤ _; omega)
        rw [Int.toNat_of_nonneg r0]
        exact SqT.of upd_same
      -- the other part
      refine ⟨.ref a, rfl, .int (many : Int), rfl, .int ((l' + 1 : Nat) : Int), rfl, _, 1, rfl, rfl, .int (j : Int), rfl, a, many, l', k + 1 + cost l', j, (by show [V.ref a, V.int (many : Int), V.int (((l' + 1 : Nat) : Int) - 1), V.int (j : Int)] = _; rw [elev]), hj, by omega, hm1, hm2, hh6, by omega, fun H7 y e2 b7 hh7 he2 ho2 hd2 => ?_⟩
      have b07 := b06.trans b7
      have he1 := he1.but b7 hh6
      -- when
      refine ⟨.str sw, rfl, rfl, _, rfl, iteD (fun c => ?_) (fun cw => ?_)⟩
      · have c : sw = "when" := V.str.inj c
        subst c
        refine ⟨_, rfl, .ref a, rfl, a, 4, _, rfl, by decide, by decide, hh7, by omega, fun H8 r b8 hh8 r0 r1 => ⟨.ref a, rfl, a, _, rfl, hh8, by omega, fun H9 cc b9 hh9 c0 c1 => ⟨x, rfl, y, rfl, (by show 5 ≤ sizeLine; decide), fun p np => ?_⟩⟩⟩
        refine q _ _ (.when r.toNat cc e1 e2) (((b07.trans b8).trans b9).trans (But.new np)) ((hh9.new np).le (by omega)) ⟨p, x, y, rfl, ?_, ((he1.but b8 hh7).but b9 hh8).new np, ((he2.but b8 hh7).but b9 hh8).new np⟩ ⟨by omega, ⟨c0, c1⟩, ho1, ho2⟩ (by show max e1.dep e2.dep + 1 ≤ _; omega)
        rw [Int.toNat_of_nonneg r0]
        exact SqT.of upd_same
      -- where
      refine ⟨.str sw, rfl, rfl, _, rfl, iteD (fun c => ?_) (fun cr => ?_)⟩
      · have c : sw = "where" := V.str.inj c
        subst c
        refine ⟨.ref a, rfl, .ref a, rfl, a, 1000, _, rfl, by decide, by decide, hh7, by omega, fun H8 r b8 hh8 r0 r1 => ⟨1, _, rfl, rfl, (by show 6 ≤ sizeLine; decide), fun p5 n5 => ?_⟩⟩
        have hh9 := hh8.new (o := .lst [.int 1, .int 250, .int 333, .int 500, .int 1000, .int (1 + r)]) n5
        refine ⟨a, p5, _, _, rfl, (hh8.ne n5).symm, upd_same, (by show 0 < 6; decide), (by show 6 ≤ 1000; decide), hh9, by omega, fun H10 v b10 hh10 hv => ?_⟩
        have key : ∃ cc : Int, v = .int cc ∧ 1 ≤ cc ∧ cc ≤ 1000 := by
          have hv : v ∈ ([.int 1, .int 250, .int 333, .int 500, .int 1000, .int (1 + r)] : List V) := hv
          simp only [List.mem_cons, List.not_mem_nil, or_false] at hv
          rcases hv with rfl | rfl | rfl | rfl | rfl | rfl
          all_goals exact ⟨_, rfl, by omega, by omega⟩
        obtain ⟨cc, rfl, c0, c1⟩ := key
        refine ⟨_, rfl, .ref a, rfl, .int (many : Int), rfl, a, many, _, rfl, by omega, by omega, hh10, by omega, fun H11 j b11 hh11 j0 j1 => ⟨_, rfl, x, rfl, y, rfl, (by show 5 ≤ sizeLine; decide), fun p np => ?_⟩⟩
        refine q _ _ (.whr j.toNat cc e1 e2) (((((b07.trans b8).trans (But.new n5)).trans b10).trans b11).trans (But.new np)) ((hh11.new np).le (by omega)) ⟨p, x, y, rfl, ?_, ((((he1.but b8 hh7).new n5).but b10 hh9).but b11 hh10).new np, ((((he2.but b8 hh7).new n5).but b10 hh9).but b11 hh10).new np⟩ ⟨by omega, ⟨c0, c1⟩, ho1, ho2⟩ (by show max e1.dep e2.dep + 1 ≤ _; omega)
        rw [Int.toNat_of_nonneg j0]
        exact SqT.of upd_same
      -- the others
      refine ⟨_, rfl, x, rfl, y, rfl, (by show 3 ≤ sizeLine; decide), fun p np => ?_⟩
      have key : ∃ o : W4, sw = wn o := by
        rcases hw with rfl | rfl | rfl | rfl | rfl | rfl | rfl | rfl | rfl
        · exact ⟨.sum, rfl⟩
        · exact ⟨.less, rfl⟩
        · exact ⟨.least, rfl⟩
        · exact ⟨.most, rfl⟩
        · exact absurd rfl ct
        · exact absurd rfl cb
        · exact absurd rfl cw
        · exact absurd rfl hsl
        · exact absurd rfl cr
      obtain ⟨o, rfl⟩ := key
      exact q _ _ (.two o e1 e2) (b07.trans (But.new np)) ((hh7.new np).le (by omega)) ⟨p, x, y, rfl, SqT.of upd_same, he1.new np, he2.new np⟩ ⟨ho1, ho2⟩ (by show max e1.dep e2.dep + 1 ≤ _; omega)
end
end NG

namespace NG
open PySem PySem.Spec PyProof.Rows L2
section
variable {P : Program} {w : World} {K : PySem.W.Frag} {mg : Str → Option Value} {base : Heap}
theorem ok_regs {f : Addr} {fd : FuncData} (F : Fun K "_law_registers" "_law_registers" s_L_registers f fd) (gF : mg "_law_registers" = some (.ref f)) (b : Binds K fd ["_law_hand_here"] []) (B : Bl mg) (c_L_figure : Cal P w K mg base 3 "_law_figure" spFigure) : Cal P w K mg base 4 "_law_registers" (spRegs K) := by
  refine ⟨f, fd, _, F.ok sc_L_registers (fun vs H Q E h => ?_) (fun cdv A outer s H vs Q E hr h => ?_), gF, F.kp, b⟩
  · obtain ⟨_, _, rfl, _⟩ := h
    rfl
  · obtain ⟨a, n, rfl, hh, hn, q⟩ := h
    refine ⟨_, (pss_one (ps_ret (pe_tupleOf (by rfl) B.tuple (pe_lc (own := [("_law_turn", 1)]) rfl sc_L_registers.nd (pi_range1 rfl B.range (pa_cons pe_int pa_nil)) (blkOk_by (N := N_L_registers) (sc := defScope s_L_registers) (by decide +kernel)) (fun _ _ _ _ _ => pg_name (i := 1) sc_L_registers.nd rfl (.inl rfl)) (fun _ _ _ _ _ => pts_nil) (fun _ _ _ _ _ => pe_c c_L_figure hr (by omega) (by rfl) (pa_cons (pv 0) pa_nil)))))), ?_⟩
    refine ⟨4, rfl, by decide, by decide, fun D nD => lc_range (n := (4 : Int).toNat) (fun i H' => ∃ rs : List Int, But a H H' ∧ HandAt H' a (n + 3 * i) ∧ H' D = some (.lst (rs.map V.int)) ∧ rs.length = i ∧ ∀ x ∈ rs, -1000 ≤ x ∧ x ≤ 1000) ⟨[], But.new nD, hh.new nD, upd_same, rfl, fun x h => by cases h⟩ ?_ ?_⟩
    · rintro i H1 hi ⟨rs, b1, hh1, hD, hlen, hb⟩
      have hi4 : i < 4 := hi
      have hDa := hh.ne nD
      refine ⟨rfl, tYes_in ?_⟩
      refine ⟨.ref a, rfl, a, _, rfl, hh1, by omega, fun H2 c b2 hh2 c0 c1 => ⟨_, b2 _ _ hDa hD, ?_, ?_⟩⟩
      · rw [List.length_map]
        exact small1000 (by omega)
      · refine ⟨rs ++ [c], fun b' o nb e => ?_, (hh2.put hDa).le (by omega), ?_, ?_, ?_⟩
        · rw [upd_ne (ne_of_none e nD)]
          exact b2 _ _ nb (b1 _ _ nb e)
        · rw [upd_same, List.map_append]
          rfl
        · rw [List.length_append, hlen]
          rfl
        · intro x hx
          rcases List.mem_append.mp hx with hx | hx
          · exact hb x hx
          · rw [List.mem_singleton.mp hx]
            exact ⟨c0, c1⟩
    · rintro H1 ⟨rs, b1, hh1, hD, hlen, hb⟩
      refine .inl ⟨D, _, rfl, SqL.of hD, fun t nt => ?_⟩
      exact q _ _ rs (b1.trans (But.new nt)) (hh1.new nt) ⟨t, rfl, SqT.of upd_same, hlen, hb⟩
end
end NG

namespace NG
open PySem PySem.Spec PyProof.Rows L2
section
variable {P : Program} {w : World} {K : PySem.W.Frag} {mg : Str → Option Value} {base : Heap}
theorem ok_stake {f : Addr} {fd : FuncData} (F : Fun K "_law_stake" "_law_stake" s_L_stake f fd) (gF : mg "_law_stake" = some (.ref f)) (b : Binds K fd ["_law_hand_here", "_law_wide", "_law_level", "_law_jumps"] []) (B : Bl mg) (c_L_take : Cal P w K mg base 1 "_law_take" spTake) (c_L_of : Cal P w K mg base 2 "_law_of" (spOf K)) {m : Nat} (c_L_expression : Cal P w K mg base (m + 4) "_law_expression" (spExprJ K m)) : Cal P w K mg base (m + 5) "_law_stake" (spStake K m) := by
  refine ⟨f, fd, _, F.ok sc_L_stake (fun vs H Q E h => ?_) (fun cdv A outer s H vs Q E hr h => ?_), gF, F.kp, b⟩
  · obtain ⟨_, _, _, _, _, rfl, _⟩ := h
    rfl
  · obtain ⟨a, many, l, n, j, rfl, hj, hl, hm1, hm2, hh, hn, q⟩ := h
    refine ⟨_, (pss_cons (ps_set (i := 4) sc_L_stake.nd rfl (.inl rfl) (pe_c c_L_of hr (by omega) (by rfl) (pa_cons (pv 0) (pa_cons (pe_lst (pa_cons pe_int (pa_cons pe_int (pa_cons pe_int (pa_cons pe_int (pa_cons (pe_op op_add pe_int (pe_c c_L_take hr (by omega) (by rfl) (pa_cons (pv 0) (pa_cons pe_int pa_nil)))) pa_nil)))))) pa_nil)))) (pss_cons (ps_if (pt_cmpR op_eq (pe_c c_L_take hr (by omega) (by rfl) (pa_cons (pv 0) (pa_cons pe_int pa_nil))) pe_int (nomark _)) (pss_one (ps_ret (pe_tup (pa_cons pe_str (pa_cons (pe_c c_L_of hr (by omega) (by rfl) (pa_cons (pv 0) (pa_cons (pe_lst (pa_cons pe_int (pa_cons pe_int (pa_cons (pv 4) (pa_cons (pe_un un_neg (pv 4)) pa_nil))))) pa_nil))) pa_nil))))) pss_nil) (pss_cons (ps_set (i := 5) sc_L_stake.nd rfl (.inl rfl) (pe_tup (pa_cons pe_str (pa_cons (pe_tup (pa_cons pe_str (pa_cons (pe_un un_neg (pv 4)) pa_nil))) (pa_cons (pe_c c_L_expression hr (by omega) (by rfl) (pa_cons (pv 0) (pa_cons (pv 1) (pa_cons (pv 2) (pa_cons (pv 3) pa_nil))))) pa_nil))))) (pss_one (ps_ret (pe_tup (pa_cons pe_str (pa_cons (pe_tup (pa_cons pe_str (pa_cons (pv 4) pa_nil))) (pa_cons (pv 5) pa_nil))))))))), ?_⟩
    have two_le : 2 ≤ sizeLine := by decide
    have three_le : 3 ≤ sizeLine := by decide
    have hcl := cost_ge l
    refine ⟨.ref a, rfl, .ref a, rfl, a, 500, n, rfl, by decide, by decide, hh, by omega, fun H1 r b1 hh1 r0 r1 => ⟨1, r, rfl, rfl, (by show 5 ≤ sizeLine; decide), fun p1 n1 => ?_⟩⟩
    have ne1 := hh1.ne n1
    refine ⟨a, p1, _, n + 1, rfl, ne1.symm, upd_same, (by show 0 < 5; decide), (by show 5 ≤ 1000; decide), hh1.new n1, by omega, fun H2 v b2 hh2 hv => ?_⟩
    have key : ∃ c : Int, v = .int c ∧ 1 ≤ c ∧ c ≤ 500 := by
      have hv : v ∈ ([.int 500, .int 125, .int 50, .int 1, .int (1 + r)] : List V) := hv
      simp only [List.mem_cons, List.not_mem_nil, or_false] at hv
      rcases hv with rfl | rfl | rfl | rfl | rfl
      all_goals exact ⟨_, rfl, by omega, by omega⟩
    obtain ⟨c, rfl, c0, c1⟩ := key
    have b02 := (b1.trans (But.new n1)).trans b2
    refine ⟨.ref a, rfl, a, 4, _, rfl, by decide, by decide, hh2, by omega, fun H3 z b3 hh3 z0 z1 => ⟨rfl, _, rfl, iteD (fun cz => ?_) (fun cz => ?_)⟩⟩
    · refine ⟨.ref a, rfl, .int c, rfl, .int c, rfl, c, rfl, (by show 4 ≤ sizeLine; decide), fun p2 n2 => ?_⟩
      have ne2 := hh3.ne n2
      refine ⟨a, p2, _, _, rfl, ne2.symm, upd_same, (by show 0 < 4; decide), (by show 4 ≤ 1000; decide), hh3.new n2, by omega, fun H4 v b4 hh4 hv => ⟨two_le, fun p3 n3 => ?_⟩⟩
      have key : ∃ c : Int, v = .int c ∧ -500 ≤ c ∧ c ≤ 500 := by
        have hv : v ∈ ([.int 0, .int 0, .int c, .int (-c)] : List V) := hv
        simp only [List.mem_cons, List.not_mem_nil, or_false] at hv
        rcases hv with rfl | rfl | rfl | rfl
        all_goals exact ⟨_, rfl, by omega, by omega⟩
      obtain ⟨x, rfl, x0, x1⟩ := key
      exact q _ _ (.fig x) ((((b02.trans b3).trans (But.new n2)).trans b4).trans (But.new n3)) ((hh4.new n3).le (by omega)) ⟨p3, rfl, SqT.of upd_same⟩ ⟨by omega, by omega⟩ (by show 1 ≤ l + 3; omega) (.inl ⟨x, rfl, x0, x1⟩)
    · refine ⟨.int c, rfl, c, rfl, two_le, fun p4 n4 => ?_⟩
      have hh4 := hh3.new (o := .tup [.str "fig", .int (-c)]) n4
      have h4 : (upd H3 p4 (.tup [.str "fig", .int (-c)])) p4 = some (.tup [.str "fig", .int (-c)]) := upd_same
      have b4 := (b02.trans b3).trans (But.new (o := .tup [.str "fig", .int (-c)]) n4)
      generalize upd H3 p4 (.tup [.str "fig", .int (-c)]) = H4 at hh4 h4 b4
      refine ⟨.ref a, rfl, .int (many : Int), rfl, .int (l : Int), rfl, .int (j : Int), rfl, a, many, l, _, j, rfl, hj, hl, hm1, hm2, hh4, by omega, fun H5 v e b5 hh5 he ho hd => ⟨three_le, fun p5 n5 => ?_⟩⟩
      have h5 : ExAt K H5 (.fig (-c)) (.ref p4) := ⟨p4, rfl, b5.sq hh4 (SqT.of h4)⟩
      have hh6 := hh5.new (o := .tup [.str "most", .ref p4, v]) n5
      have hi6 : ExAt K (upd H5 p5 (.tup [.str "most", .ref p4, v])) (.two .most (.fig (-c)) e) (.ref p5) := ⟨p5, .ref p4, v, rfl, SqT.of upd_same, h5.new n5, he.new n5⟩
      have b6 := (b4.trans b5).trans (But.new (o := .tup [.str "most", .ref p4, v]) n5)
      generalize upd H5 p5 (.tup [.str "most", .ref p4, v]) = H6 at hh6 hi6 b6
      refine ⟨.int c, rfl, two_le, fun p7 n7 => ⟨.ref p5, rfl, three_le, fun p8 n8 => ?_⟩⟩
      have hh7 := hh6.new (o := .tup [.str "fig", .int c]) n7
      have h7 : ExAt K (upd H6 p7 (.tup [.str "fig", .int c])) (.fig c) (.ref p7) := ⟨p7, rfl, SqT.of upd_same⟩
      have hi7 := hi6.new (o := .tup [.str "fig", .int c]) n7
      refine q _ _ (.two .least (.fig c) (.two .most (.fig (-c)) e)) ((b6.trans (But.new n7)).trans (But.new n8)) ((hh7.new n8).le (by omega)) ⟨p8, .ref p7, .ref p5, rfl, SqT.of upd_same, h7.new n8, hi7.new n8⟩ ⟨⟨by omega, by omega⟩, ⟨by omega, by omega⟩, ho⟩ ?_ (.inr ⟨c, e, rfl, c0, c1, ho, hd⟩)
      show max 1 (max 1 e.dep + 1) + 1 ≤ l + 3
      omega
theorem ok_deeds {f : Addr} {fd : FuncData} (F : Fun K "_law_deeds" "_law_deeds" s_L_deeds f fd) (gF : mg "_law_deeds" = some (.ref f)) (b : Binds K fd ["_law_hand_here", "_law_wide", "_law_deep"] []) (B : Bl mg) (c_L_take : Cal P w K mg base 1 "_law_take" spTake) (c_L_of : Cal P w K mg base 2 "_law_of" (spOf K)) (c_L_figure : Cal P w K mg base 3 "_law_figure" spFigure) : ∀ n, Cal P w K mg base (n + 4) "_law_deeds" (spDeeds K n) := by
  intro n
  induction n with
  | zero =>
    refine cal_never F gF b fun vs H Q E h => ?_
    obtain ⟨_, _, l, _, _, hl, _⟩ := h
    omega
  | succ m c_L_deeds =>
  refine ⟨f, fd, _, F.ok sc_L_deeds (fun vs H Q E h => ?_) (fun cdv A outer s H vs Q E hr h => ?_), gF, F.kp, b⟩
  · obtain ⟨_, _, _, _, rfl, _⟩ := h
    rfl
  · obtain ⟨a, many, l, n, rfl, hl, hl3, hm1, hm2, hh, hn, q⟩ := h
    refine ⟨_, (pss_cons (ps_set (i := 3) sc_L_deeds.nd rfl (.inl rfl) (pe_lst pa_nil)) (pss_cons (ps_for PassesOwn.never rfl (pi_range1 rfl B.range (pa_cons (pe_c c_L_take hr (by omega) (by rfl) (pa_cons (pv 0) (pa_cons pe_int pa_nil))) pa_nil)) (pg_name (i := 4) sc_L_deeds.nd rfl (.inl rfl)) (pss_cons (ps_par (i := 5) (j := 6) rfl sc_L_deeds.nd rfl rfl (by decide) rfl rfl (pa_cons (pe_c c_L_take hr (by omega) (by rfl) (pa_cons (pv 0) (pa_cons pe_int pa_nil))) (pa_cons (pe_c c_L_of hr (by omega) (by rfl) (pa_cons (pv 0) (pa_cons (pe_lst (pa_cons pe_str (pa_cons pe_str (pa_cons pe_str (pa_cons pe_str (pa_cons pe_str (pa_cons pe_str pa_nil))))))) pa_nil))) pa_nil)) (by rfl)) (pss_one (ps_if (pt_cmpR op_in_seq (pv 6) (pe_tup (pa_cons pe_str (pa_cons pe_str pa_nil))) (by rfl)) (pss_one (ps_expr (pe_bm PySem.F.plainAttrs_list PySem.F.slot_list_append PySem.F.type_list_append mt_append (pv 3) (pa_cons (pe_tup (pa_cons (pv 6) (pa_cons (pv 5) (pa_cons (pe_c c_L_figure hr (by omega) (by rfl) (pa_cons (pv 0) pa_nil)) pa_nil)))) pa_nil)))) (pss_one (ps_if (pt_cmpR op_in_seq (pv 6) (pe_tup (pa_cons pe_str (pa_cons pe_str pa_nil))) (by rfl)) (pss_one (ps_expr (pe_bm PySem.F.plainAttrs_list PySem.F.slot_list_append PySem.F.type_list_append mt_append (pv 3) (pa_cons (pe_tup (pa_cons (pv 6) (pa_cons (pv 5) (pa_cons (pe_c c_L_take hr (by omega) (by rfl) (pa_cons (pv 0) (pa_cons pe_int pa_nil))) pa_nil)))) pa_nil)))) (pss_one (ps_expr (pe_bm PySem.F.plainAttrs_list PySem.F.slot_list_append PySem.F.type_list_append mt_append (pv 3) (pa_cons (pe_tup (pa_cons (pv 6) (pa_cons (pv 5) (pa_cons (pe_c c_L_take hr (by omega) (by rfl) (pa_cons (pv 0) (pa_cons (pv 1) pa_nil))) pa_nil)))) pa_nil)))))))))) (C8.pss_cut (ps_if (PW.pt (pw_and (pt_cmpR op_gt (pv 2) pe_int (nomark _)) (pw_and1 (pt_cmpR op_eq (pe_c c_L_take hr (by omega) (by rfl) (pa_cons (pv 0) (pa_cons pe_int pa_nil))) pe_int (nomark _))))) (pss_cons (ps_setLc (i := 7) (own := [("_law_turn", 4)]) rfl sc_L_deeds.nd rfl rfl (sw_true rfl rfl rfl (by decide +kernel)) (pi_range1 rfl B.range (pa_cons pe_int pa_nil)) (blkOk_by (N := N_L_deeds) (sc := defScope s_L_deeds) (by decide +kernel)) (fun _ _ _ _ _ => pg_name (i := 4) sc_L_deeds.nd rfl (.inl rfl)) (fun _ _ _ _ _ => pts_nil) (fun _ _ _ _ _ => pe_c c_L_deeds hr (by omega) (by rfl) (pa_cons (pv 0) (pa_cons (pv 1) (pa_cons (pe_op op_sub (pv 2) pe_int) pa_nil))))) (pss_one (ps_expr (pe_bm PySem.F.plainAttrs_list PySem.F.slot_list_append PySem.F.type_list_append mt_append (pv 3) (pa_cons (pe_tup (pa_cons pe_str (pa_cons (pe_c c_L_take hr (by omega) (by rfl) (pa_cons (pv 0) (pa_cons pe_int pa_nil))) (pa_cons (pe_c c_L_figure hr (by omega) (by rfl) (pa_cons (pv 0) pa_nil)) (pa_cons (pe_ix ix_list (pv 7) pe_int (fun _ _ => rfl)) (pa_cons (pe_ix ix_list (pv 7) pe_int (fun _ _ => rfl)) pa_nil)))))) pa_nil))))) pss_nil) (pss_one (ps_ret (pe_tupleOf (by rfl) B.tuple (pv 3))))))), ?_⟩
    have two_le : 2 ≤ sizeLine := by decide
    have three_le : 3 ≤ sizeLine := by decide
    have hBg := dB_ge l
    have hCg := dC_ge l
    have hCl : dC l ≤ 52 := by
      have : l = 0 ∨ l = 1 ∨ l = 2 ∨ l = 3 := by omega
      rcases this with rfl | rfl | rfl | rfl <;> decide
    refine ⟨(by show 0 ≤ sizeLine; decide), fun g ng => ?_⟩
    have hga := hh.ne ng
    refine ⟨.ref a, rfl, a, 4, n, rfl, by decide, by decide, hh.new ng, by omega, fun H0 t0 b0 hh0 t00 t01 => ⟨t0, rfl, by omega, by omega, ?_⟩⟩
    have hg0 := b0 _ _ hga (upd_same (o := .lst []))
    have bb0 : But a H H0 := (But.new ng).trans b0
    refine for_range (n := t0.toNat) (fun i σ H' => ∃ y4 y5 y6 us d, σ = [some (.ref a), some (.int (many : Int)), some (.int (l : Int)), some (.ref g), y4, y5, y6, none] ∧ But a H H' ∧ HandAt H' a (n + 1 + 5 * i) ∧ H' g = some (.lst us) ∧ DsAt K H' d us ∧ DsOk many d ∧ d.dep ≤ 1 ∧ d.cnt ≤ i) ⟨none, none, none, [], .nil, rfl, bb0, hh0, hg0, rfl, trivial, by decide, Nat.le_refl _⟩ ?_ ?_
    · rintro i σ H1 hi ⟨y4, y5, y6, us, d, rfl, b1, hh1, hg1, hd1, ho1, hdp, hdc⟩
      have hi3 : i < 3 := by omega
      have hul : us.length ≤ 3 := by
        have h1 := hd1.len
        have h2 := d.len_le
        omega
      refine ⟨.ref a, rfl, a, 4, _, rfl, by decide, by decide, hh1, by omega, fun H2 r b2 hh2 r0 r1 => ⟨.ref a, rfl, (by show 6 ≤ sizeLine; decide), fun p1 n1 => ?_⟩⟩
      have ne1 := hh2.ne n1
      refine ⟨a, p1, _, _, rfl, ne1.symm, upd_same, (by show 0 < 6; decide), (by show 6 ≤ 1000; decide), hh2.new n1, by omega, fun H3 v b3 hh3 hv => ⟨_, _, rfl, ?_⟩⟩
      have key : ∃ dw : D5, v = .str (dn dw) := by
        have hv : v ∈ ([.str "put", .str "add", .str "copy", .str "plus", .str "told", .str "add"] : List V) := hv
        simp only [List.mem_cons, List.not_mem_nil, or_false] at hv
        rcases hv with rfl | rfl | rfl | rfl | rfl | rfl
        · exact ⟨.put, rfl⟩
        · exact ⟨.add, rfl⟩
        · exact ⟨.copy, rfl⟩
        · exact ⟨.plus, rfl⟩
        · exact ⟨.told, rfl⟩
        · exact ⟨.add, rfl⟩
      obtain ⟨dw, rfl⟩ := key
      have b13 : But a H1 H3 := (b2.trans (But.new n1)).trans b3
      obtain ⟨r, rfl⟩ : ∃ r' : Nat, r = (r' : Int) := ⟨r.toNat, by omega⟩
      have fin : ∀ (x : Int) (Hx : Hp) (k : Nat), But a H1 Hx → HandAt Hx a k → k ≤ n + 1 + 5 * (i + 1) → xok many dw x → ∀ t, Hx t = none →
          ∃ xs, (upd Hx t (.tup [.str (dn dw), .int (r : Int), .int x])) g = some (.lst xs) ∧ xs.length < sizeLine ∧ ∃ y4 y5 y6 us d, ([some (.ref a), some (.int (many : Int)), some (.int (l : Int)), some (.ref g), some (.int (0 + (i : Int))), some (.int (r : Int)), some (.str (dn dw)), none] : L2.St) = [some (.ref a), some (.int (many : Int)), some (.int (l : Int)), some (.ref g), y4, y5, y6, none] ∧ But a H (upd (upd Hx t (.tup [.str (dn dw), .int (r : Int), .int x])) g (.lst (xs ++ [.ref t]))) ∧ HandAt (upd (upd Hx t (.tup [.str (dn dw), .int (r : Int), .int x])) g (.lst (xs ++ [.ref t]))) a (n + 1 + 5 * (i + 1)) ∧ (upd (upd Hx t (.tup [.str (dn dw), .int (r : Int), .int x])) g (.lst (xs ++ [.ref t]))) g = some (.lst us) ∧ DsAt K (upd (upd Hx t (.tup [.str (dn dw), .int (r : Int), .int x])) g (.lst (xs ++ [.ref t]))) d us ∧ DsOk many d ∧ d.dep ≤ 1 ∧ d.cnt ≤ i + 1 := by
        intro x Hx k bx hx hk ok t nt
        have hgx := bx _ _ hga hg1
        have smt := same_new (o := .tup [.str (dn dw), .int (r : Int), .int x]) nt
        have htt : (upd Hx t (.tup [.str (dn dw), .int (r : Int), .int x])) t = some (.tup [.str (dn dw), .int (r : Int), .int x]) := upd_same
        have hht := hx.new (o := .tup [.str (dn dw), .int (r : Int), .int x]) nt
        have hgt := smt _ _ hgx
        have hdt := (hd1.imp fun _ _ q => bx.sq hh1 q).same smt
        have bt := b1.trans (bx.trans (But.of smt))
        clear smt
        generalize upd Hx t (.tup [.str (dn dw), .int (r : Int), .int x]) = Ht at htt hht hgt hdt bt
        refine ⟨us, hgt, small1000 (by omega), _, _, _, us ++ [.ref t], d.app (.op dw r x .nil), rfl, fun b' o nb eb => ?_, (hht.put hga).le hk, upd_same, ?_, ho1.app ⟨by omega, ok, trivial⟩, ?_, ?_⟩
        · rw [upd_ne (ne_of_none eb ng)]
          exact bt _ _ nb eb
        · exact (DsAt.app (e := .op dw r x .nil) (ws := [.ref t]) hdt ⟨t, [], rfl, SqT.of htt, rfl⟩).imp fun _ _ q => put_sqt hgt q
        · rw [Ds.dep_app]
          show max d.dep (max 1 0) ≤ 1
          omega
        · rw [Ds.cnt_app]
          show d.cnt + (1 + 0) ≤ i + 1
          omega
      have tails : ∀ (x : Int) (Hx : Hp) (k : Nat), But a H1 Hx → HandAt Hx a k → k ≤ n + 1 + 5 * (i + 1) → xok many dw x → ∀ t, Hx t = none → _ := fin
      have hg3 := b13 _ _ hga hg1
      have go2 : ∀ (tq : Addr) (nq : H3 tq = none) (o : HO), But a H1 (upd H3 tq o) ∧ HandAt (upd H3 tq o) a (n + 1 + 5 * i + 1 + 1) ∧ (upd H3 tq o) g = some (.lst us) := fun tq nq o => ⟨b13.trans (But.new nq), hh3.new nq, (same_new nq) _ _ hg3⟩
      cases dw with
      | put =>
        refine ⟨_, rfl, two_le, fun t1 nt1 => ⟨t1, _, rfl, .inr (SqT.of upd_same), rfl, rfl, _, rfl, iteTT rfl ?_⟩⟩
        obtain ⟨bq, hq, gq⟩ := go2 t1 nt1 (.tup [.str "put", .str "add"])
        refine ⟨.ref g, rfl, .inl ⟨rfl, _, SqL.of gq⟩, _, rfl, .int (r : Int), rfl, .ref a, rfl, a, _, rfl, hq, by omega, fun H5 x b5 hh5 x0 x1 => ⟨three_le, fun t nt => ?_⟩⟩
        obtain ⟨xs, e1, e2, e3⟩ := fin x H5 _ (bq.trans b5) hh5 (by omega) ⟨x0, x1⟩ t nt
        exact ⟨g, xs, _, rfl, rfl, e1, e2, e3⟩
      | add =>
        refine ⟨_, rfl, two_le, fun t1 nt1 => ⟨t1, _, rfl, .inr (SqT.of upd_same), rfl, rfl, _, rfl, iteTT rfl ?_⟩⟩
        obtain ⟨bq, hq, gq⟩ := go2 t1 nt1 (.tup [.str "put", .str "add"])
        refine ⟨.ref g, rfl, .inl ⟨rfl, _, SqL.of gq⟩, _, rfl, .int (r : Int), rfl, .ref a, rfl, a, _, rfl, hq, by omega, fun H5 x b5 hh5 x0 x1 => ⟨three_le, fun t nt => ?_⟩⟩
        obtain ⟨xs, e1, e2, e3⟩ := fin x H5 _ (bq.trans b5) hh5 (by omega) ⟨x0, x1⟩ t nt
        exact ⟨g, xs, _, rfl, rfl, e1, e2, e3⟩
      | copy =>
        refine ⟨_, rfl, two_le, fun t1 nt1 => ⟨t1, _, rfl, .inr (SqT.of upd_same), rfl, rfl, _, rfl, iteFF rfl ?_⟩⟩
        obtain ⟨bq, hq, gq⟩ := go2 t1 nt1 (.tup [.str "put", .str "add"])
        refine ⟨_, rfl, two_le, fun t2 nt2 => ⟨t2, _, rfl, .inr (SqT.of upd_same), rfl, rfl, _, rfl, iteTT rfl ?_⟩⟩
        have gq2 := (same_new (o := .tup [.str "copy", .str "plus"]) nt2) _ _ gq
        refine ⟨.ref g, rfl, .inl ⟨rfl, _, SqL.of gq2⟩, _, rfl, .int (r : Int), rfl, .ref a, rfl, a, 4, _, rfl, by decide, by decide, hq.new nt2, by omega, fun H5 x b5 hh5 x0 x1 => ⟨three_le, fun t nt => ?_⟩⟩
        obtain ⟨xs, e1, e2, e3⟩ := fin x H5 _ ((bq.trans (But.new nt2)).trans b5) hh5 (by omega) ⟨x0, x1⟩ t nt
        exact ⟨g, xs, _, rfl, rfl, e1, e2, e3⟩
      | plus =>
        refine ⟨_, rfl, two_le, fun t1 nt1 => ⟨t1, _, rfl, .inr (SqT.of upd_same), rfl, rfl, _, rfl, iteFF rfl ?_⟩⟩
        obtain ⟨bq, hq, gq⟩ := go2 t1 nt1 (.tup [.str "put", .str "add"])
        refine ⟨_, rfl, two_le, fun t2 nt2 => ⟨t2, _, rfl, .inr (SqT.of upd_same), rfl, rfl, _, rfl, iteTT rfl ?_⟩⟩
        have gq2 := (same_new (o := .tup [.str "copy", .str "plus"]) nt2) _ _ gq
        refine ⟨.ref g, rfl, .inl ⟨rfl, _, SqL.of gq2⟩, _, rfl, .int (r : Int), rfl, .ref a, rfl, a, 4, _, rfl, by decide, by decide, hq.new nt2, by omega, fun H5 x b5 hh5 x0 x1 => ⟨three_le, fun t nt => ?_⟩⟩
        obtain ⟨xs, e1, e2, e3⟩ := fin x H5 _ ((bq.trans (But.new nt2)).trans b5) hh5 (by omega) ⟨x0, x1⟩ t nt
        exact ⟨g, xs, _, rfl, rfl, e1, e2, e3⟩
      | told =>
        refine ⟨_, rfl, two_le, fun t1 nt1 => ⟨t1, _, rfl, .inr (SqT.of upd_same), rfl, rfl, _, rfl, iteFF rfl ?_⟩⟩
        obtain ⟨bq, hq, gq⟩ := go2 t1 nt1 (.tup [.str "put", .str "add"])
        refine ⟨_, rfl, two_le, fun t2 nt2 => ⟨t2, _, rfl, .inr (SqT.of upd_same), rfl, rfl, _, rfl, iteFF rfl ?_⟩⟩
        have gq2 := (same_new (o := .tup [.str "copy", .str "plus"]) nt2) _ _ gq
        refine ⟨.ref g, rfl, .inl ⟨rfl, _, SqL.of gq2⟩, _, rfl, .int (r : Int), rfl, .ref a, rfl, .int (many : Int), rfl, a, many, _, rfl, by omega, by omega, hq.new nt2, by omega, fun H5 x b5 hh5 x0 x1 => ⟨three_le, fun t nt => ?_⟩⟩
        obtain ⟨xs, e1, e2, e3⟩ := fin x H5 _ ((bq.trans (But.new nt2)).trans b5) hh5 (by omega) ⟨x0, x1⟩ t nt
        exact ⟨g, xs, _, rfl, rfl, e1, e2, e3⟩
    · rintro σ H1 ⟨y4, y5, y6, us, d, rfl, b1, hh1, hg1, hd1, ho1, hdp, hdc⟩
      have hh1 : HandAt H1 a (n + 16) := hh1.le (by omega)
      have hdc : d.cnt ≤ 3 := by omega
      have hul : us.length ≤ 3 := by
        have h1 := hd1.len
        have h2 := d.len_le
        omega
      refine ⟨fun σ H' => ∃ y4 y5 y6 y7 us d, σ = [some (.ref a), some (.int (many : Int)), some (.int (l : Int)), some (.ref g), y4, y5, y6, y7] ∧ But a H H' ∧ HandAt H' a (n + dB l) ∧ H' g = some (.lst us) ∧ DsAt K H' d us ∧ DsOk many d ∧ d.dep ≤ l + 1 ∧ d.cnt ≤ dC l, ?_, ?_⟩
      · refine ⟨.int (l : Int), rfl, _, _, rfl, rfl, _, rfl, iteD (fun c => ?_) (fun c => ?_)⟩
        · obtain ⟨l', rfl⟩ : ∃ l', l = l' + 1 := ⟨l - 1, by omega⟩
          have eB : dB (l' + 1) = 2 * dB l' + 30 := rfl
          have eC : dC (l' + 1) = 2 * dC l' + 4 := rfl
          refine ⟨.ref a, rfl, a, 3, _, rfl, by decide, by decide, hh1, by omega, fun H2 z b2 hh2 z0 z1 => ⟨rfl, _, rfl, iteD (fun cz => ?_) (fun cz => ?_)⟩⟩
          · have hg2 := b2 _ _ hga hg1
            refine ⟨2, rfl, by decide, by decide, fun D nD => lc_range (n := (2 : Int).toNat) (fun j H' => ∃ ws ds, But a H2 H' ∧ HandAt H' a (n + 17 + dB l' * j) ∧ H' D = some (.lst ws) ∧ BhAt K H' ws ds ∧ ds.length = j ∧ ∀ d ∈ ds, DsOk many d ∧ d.dep ≤ l' + 1 ∧ d.cnt ≤ dC l') ⟨[], [], But.new nD, hh2.new nD, upd_same, trivial, rfl, fun x h => by cases h⟩ ?_ ?_⟩
            · rintro j H5 hj ⟨ws, ds, b5, hh5, hD, hbh, hel, hes⟩
              have hj : j < 2 := hj
              have hDa : D ≠ a := hh2.ne nD
              have elev : V.int (((l' + 1 : Nat) : Int) - 1) = V.int (l' : Int) := by
                congr 1
                omega
              have hjb : dB l' * j + dB l' ≤ 2 * dB l' := by
                have : j = 0 ∨ j = 1 := by omega
                rcases this with rfl | rfl <;> omega
              refine ⟨rfl, tYes_in ?_⟩
              refine ⟨.ref a, rfl, .int (many : Int), rfl, .int ((l' + 1 : Nat) : Int), rfl, _, 1, rfl, rfl, a, many, l', _, (by show [V.ref a, V.int (many : Int), V.int (((l' + 1 : Nat) : Int) - 1)] = _; rw [elev]), by omega, by omega, hm1, hm2, hh5, by omega, fun H6 p xs d b6 hh6 hp hd ho hdp hdc => ?_⟩
              have hD6 := b6 _ _ hDa hD
              have hwl := hbh.len
              refine ⟨ws, hD6, small1000 (by omega), ws ++ [.ref p], ds ++ [d], fun b' o nb eb => ?_, (hh6.le (by rw [Nat.mul_add]; omega)).put hDa, upd_same, BhAt.snoc (put_sqt hD6 hp) (hd.imp fun _ _ q => put_sqt hD6 q) ((hbh.imp fun _ _ q => b6.sq hh5 q).imp fun _ _ q => put_sqt hD6 q), by rw [List.length_append, hel]; rfl, fun e' he' => ?_⟩
              · rw [upd_ne (ne_of_none eb nD)]
                exact b6 _ _ nb (b5 _ _ nb eb)
              · rcases List.mem_append.mp he' with h | h
                · exact hes _ h
                · rw [List.mem_singleton.mp h]
                  exact ⟨ho, hdp, hdc⟩
            · rintro H5 ⟨ws, ds, b5, hh5, hD, hbh, hel, hes⟩
              have hel : ds.length = 2 := hel
              match ds, hel, hbh, hes with
              | [d1, d2], _, hbh, hes =>
              obtain ⟨w1, w2, rfl⟩ : ∃ w1 w2, ws = [w1, w2] := by
                have := hbh.len
                match ws, this with
                | [w1, w2], _ => exact ⟨w1, w2, rfl⟩
              obtain ⟨⟨p1, x1, rfl, q1, e1⟩, ⟨p2, x2, rfl, q2, e2⟩, _⟩ := hbh
              obtain ⟨k1, k2, k3⟩ := hes d1 (by simp)
              obtain ⟨m1, m2, m3⟩ := hes d2 (by simp)
              have hDa : D ≠ a := hh2.ne nD
              have hg5 := b5 _ _ hga hg2
              have hh5 : HandAt H5 a (n + 17 + dB l' * 2) := hh5
              refine ⟨.ref g, rfl, .inl ⟨rfl, _, SqL.of hg5⟩, .ref a, rfl, a, 4, _, rfl, by decide, by decide, hh5, by omega, fun H6 r b6 hh6 r0 r1 => ⟨.ref a, rfl, a, _, rfl, hh6, by omega, fun H7 x b7 hh7 x0 x1' => ?_⟩⟩
              have b57 := b6.trans b7
              have hD7 := b57 _ _ hDa hD
              refine ⟨.ref D, rfl, D, _, 0, _, rfl, rfl, SqL.of hD7, rfl, .ref D, rfl, D, _, 1, _, rfl, rfl, SqL.of hD7, rfl, (by show 5 ≤ sizeLine; decide), fun t nt => ?_⟩
              obtain ⟨r, rfl⟩ : ∃ r' : Nat, r = (r' : Int) := ⟨r.toNat, by omega⟩
              have smt := same_new (o := .tup [.str "when", .int (r : Int), .int x, .ref p1, .ref p2]) nt
              have htt : (upd H7 t (.tup [.str "when", .int (r : Int), .int x, .ref p1, .ref p2])) t = some (.tup [.str "when", .int (r : Int), .int x, .ref p1, .ref p2]) := upd_same
              have hht := hh7.new (o := .tup [.str "when", .int (r : Int), .int x, .ref p1, .ref p2]) nt
              have sq : ∀ p xs, SqT K H5 p xs → SqT K (upd H7 t (.tup [.str "when", .int (r : Int), .int x, .ref p1, .ref p2])) p xs := fun _ _ h => same_sqt smt (b7.sq hh6 (b6.sq hh5 h))
              have sq1 : ∀ p xs, SqT K H1 p xs → SqT K (upd H7 t (.tup [.str "when", .int (r : Int), .int x, .ref p1, .ref p2])) p xs := fun _ _ h => sq _ _ (b5.sq hh2 (b2.sq hh1 h))
              have hgt := smt _ _ (b57 _ _ hga hg5)
              have bt := ((b1.trans b2).trans (b5.trans b57)).trans (But.of smt)
              have new : DsAt K (upd H7 t (.tup [.str "when", .int (r : Int), .int x, .ref p1, .ref p2])) (.when r x d1 d2 .nil) [.ref t] := ⟨t, p1, p2, x1, x2, [], rfl, SqT.of htt, sq _ _ q1, e1.imp sq, sq _ _ q2, e2.imp sq, rfl⟩
              have hdt := DsAt.app (hd1.imp sq1) new
              clear new sq sq1 smt htt
              generalize upd H7 t (.tup [.str "when", .int (r : Int), .int x, .ref p1, .ref p2]) = Ht at hht hgt bt hdt
              refine ⟨g, us, _, rfl, rfl, hgt, small1000 (by omega), _, _, _, _, us ++ [.ref t], d.app (.when r x d1 d2 .nil), rfl, fun b' o nb eb => ?_, (hht.put hga).le (by omega), upd_same, hdt.imp fun _ _ q => put_sqt hgt q, ho1.app ⟨by omega, ⟨x0, x1'⟩, k1, m1, trivial⟩, ?_, ?_⟩
              · rw [upd_ne (ne_of_none eb ng)]
                exact bt _ _ nb eb
              · rw [Ds.dep_app]
                show max d.dep (max (max d1.dep d2.dep + 1) 0) ≤ l' + 1 + 1
                omega
              · rw [Ds.cnt_app]
                show d.cnt + (1 + (d1.cnt + d2.cnt) + 0) ≤ _
                omega
          · exact ⟨_, _, _, _, us, d, rfl, b1.trans b2, hh2.le (by omega), b2 _ _ hga hg1, hd1.imp fun _ _ q => b2.sq hh1 q, ho1, by omega, by omega⟩
        · exact ⟨_, _, _, _, us, d, rfl, b1, hh1.le (by omega), hg1, hd1, ho1, by omega, by omega⟩
      · rintro σ H2 ⟨y4, y5, y6, y7, us, d, rfl, b2, hh2, hg2, hd2, ho2, hdp2, hdc2⟩
        refine ⟨.ref g, rfl, .inl ⟨g, us, rfl, SqL.of hg2, fun t nt => ?_⟩⟩
        exact q _ t us d (b2.trans (But.new nt)) (hh2.new nt) (SqT.of upd_same) (hd2.same (same_new nt)) ho2 hdp2 hdc2
theorem ok_doubter {f : Addr} {fd : FuncData} (F : Fun K "_law_doubter" "_law_doubter" s_L_doubter f fd) (gF : mg "_law_doubter" = some (.ref f)) (b : Binds K fd ["_law_hand_here", "_law_wide", "_law_level", "_law_jumps"] []) (B : Bl mg) (c_L_take : Cal P w K mg base 1 "_law_take" spTake) (c_L_of : Cal P w K mg base 2 "_law_of" (spOf K)) (c_L_registers : Cal P w K mg base 4 "_law_registers" (spRegs K)) {m : Nat} (c_L_stake : Cal P w K mg base (m + 5) "_law_stake" (spStake K m)) (c_L_deeds : Cal P w K mg base 6 "_law_deeds" (spDeeds K 2)) : Cal P w K mg base (m + 7) "_law_doubter" (spDoubter K m) := by
  refine ⟨f, fd, _, F.ok sc_L_doubter (fun vs H Q E h => ?_) (fun cdv A outer s H vs Q E hr h => ?_), gF, F.kp, b⟩
  · obtain ⟨_, _, _, _, _, rfl, _⟩ := h
    rfl
  · obtain ⟨a, many, l, n, j, rfl, hj, hl, hl5, hm1, hm2, hh, hn, q⟩ := h
    refine ⟨_, (pss_cons (ps_par (i := 4) (j := 5) rfl sc_L_doubter.nd rfl rfl (by decide) rfl rfl (pa_cons (pe_c c_L_of hr (by omega) (by rfl) (pa_cons (pv 0) (pa_cons (pe_lst (pa_cons pe_str (pa_cons pe_str (pa_cons pe_str (pa_cons pe_str pa_nil))))) pa_nil))) (pa_cons (pe_c c_L_take hr (by omega) (by rfl) (pa_cons (pv 0) (pa_cons pe_int pa_nil))) pa_nil)) (by rfl)) (pss_cons (ps_set (i := 6) sc_L_doubter.nd rfl (.inl rfl) (pe_tupleOf (by rfl) B.tuple (pe_lc (own := [("_law_face", 7)]) rfl sc_L_doubter.nd (pi_range1 rfl B.range (pa_cons (pv 1) pa_nil)) (blkOk_by (N := N_L_doubter) (sc := defScope s_L_doubter) (by decide +kernel)) (fun _ _ _ _ _ => pg_name (i := 7) sc_L_doubter.nd rfl (.inl rfl)) (fun _ _ _ _ _ => pts_nil) (fun _ _ _ _ _ => pe_c c_L_stake hr (by omega) (by rfl) (pa_cons (pv 0) (pa_cons (pv 1) (pa_cons (pv 2) (pa_cons (pv 3) pa_nil)))))))) (pss_cons (ps_set (i := 8) sc_L_doubter.nd rfl (.inl rfl) (pe_tupleOf (by rfl) B.tuple (pe_lc (own := [("_law_face", 7)]) rfl sc_L_doubter.nd (pi_range1 rfl B.range (pa_cons (pv 1) pa_nil)) (blkOk_by (N := N_L_doubter) (sc := defScope s_L_doubter) (by decide +kernel)) (fun _ _ _ _ _ => pg_name (i := 7) sc_L_doubter.nd rfl (.inl rfl)) (fun _ _ _ _ _ => pts_nil) (fun _ _ _ _ _ => pe_c c_L_deeds hr (by omega) (by rfl) (pa_cons (pv 0) (pa_cons (pv 1) (pa_cons pe_int pa_nil))))))) (pss_one (ps_ret (pe_tup (pa_cons (pv 4) (pa_cons (pv 5) (pa_cons (pe_c c_L_registers hr (by omega) (by rfl) (pa_cons (pv 0) pa_nil)) (pa_cons (pv 6) (pa_cons (pv 8) pa_nil))))))))))), ?_⟩
    have hcl : cost l ≤ 900 := by
      have : l = 0 ∨ l = 1 ∨ l = 2 ∨ l = 3 ∨ l = 4 ∨ l = 5 := by omega
      rcases this with rfl | rfl | rfl | rfl | rfl | rfl <;> decide
    refine ⟨.ref a, rfl, (by show 4 ≤ sizeLine; decide), fun p1 n1 => ?_⟩
    have ne1 := hh.ne n1
    refine ⟨a, p1, _, n, rfl, ne1.symm, upd_same, (by show 0 < 4; decide), (by show 4 ≤ 1000; decide), hh.new n1, by omega, fun H1 nv b1 hh1 hv => ?_⟩
    have key : ∃ x : Str, nv = .str x ∧ (x = "a" ∨ x = "doubter" ∨ x = "sceptics" ∨ x = "zz") := by
      have hv : nv ∈ ([.str "a", .str "doubter", .str "sceptics", .str "zz"] : List V) := hv
      simp only [List.mem_cons, List.not_mem_nil, or_false] at hv
      rcases hv with rfl | rfl | rfl | rfl
      all_goals exact ⟨_, rfl, by simp⟩
    obtain ⟨nm, rfl, hnm⟩ := key
    refine ⟨.ref a, rfl, a, 5, _, rfl, by decide, by decide, hh1, by omega, fun H2 sc b2 hh2 s0 s1 => ⟨_, _, rfl, ?_⟩⟩
    obtain ⟨sc, rfl⟩ : ∃ r' : Nat, sc = (r' : Int) := ⟨sc.toNat, by omega⟩
    have b02 : But a H H2 := ((But.new n1).trans b1).trans b2
    refine ⟨.int (many : Int), rfl, _, rfl, by omega, by omega, fun D nD => lc_range (n := ((many : Int)).toNat) (fun i H' => ∃ us es, But a H2 H' ∧ HandAt H' a (n + 2 + (cost l + 3) * i) ∧ H' D = some (.lst us) ∧ RowsAt K H' us es ∧ es.length = i ∧ ∀ e ∈ es, (ExOk many e ∧ e.dep ≤ l + 3) ∧ StOk many l e) ⟨[], [], But.new nD, hh2.new nD, upd_same, trivial, rfl, fun x h => by cases h⟩ ?_ ?_⟩
    · rintro i H5 hi ⟨us, es, b5, hh5, hD, hrow, hel, hes⟩
      have hi : i < 3 := by omega
      have hDa : D ≠ a := hh2.ne nD
      have hib : (cost l + 3) * i ≤ 903 * 2 := Nat.mul_le_mul (by omega) (by omega)
      refine ⟨rfl, tYes_in ?_⟩
      refine ⟨.ref a, rfl, .int (many : Int), rfl, .int (l : Int), rfl, .int (j : Int), rfl, a, many, l, _, j, rfl, hj, hl, hm1, by omega, hh5, by omega, fun H6 v e b6 hh6 he ho hd hst => ?_⟩
      have hD6 := b6 _ _ hDa hD
      have hwl := hrow.len
      refine ⟨us, hD6, small1000 (by omega), us ++ [v], es ++ [e], fun b' o nb eb => ?_, (hh6.le (by rw [Nat.mul_add]; omega)).put hDa, upd_same, RowsAt.snoc (he.imp fun _ _ q => put_sqt hD6 q) ((hrow.imp fun _ _ q => b6.sq hh5 q).imp fun _ _ q => put_sqt hD6 q), by rw [List.length_append, hel]; rfl, fun e' he' => ?_⟩
      · rw [upd_ne (ne_of_none eb nD)]
        exact b6 _ _ nb (b5 _ _ nb eb)
      · rcases List.mem_append.mp he' with h | h
        · exact hes _ h
        · rw [List.mem_singleton.mp h]
          exact ⟨⟨ho, hd⟩, hst⟩
    · rintro H5 ⟨us, es, b5, hh5, hD, hrow, hel, hes⟩
      have hel : es.length = many := by omega
      have hib : (cost l + 3) * ((many : Int)).toNat ≤ (cost l + 3) * 3 := Nat.mul_le_mul_left _ (by omega)
      have hh5 : HandAt H5 a (n + 11 + 3 * cost l) := hh5.le (by omega)
      refine .inl ⟨D, us, rfl, SqL.of hD, fun T nT => ?_⟩
      have smT := same_new (o := .tup us) nT
      have hT : (upd H5 T (.tup us)) T = some (.tup us) := upd_same
      have hhT := hh5.new (o := .tup us) nT
      have hrT := hrow.same smT
      have bT := (b02.trans b5).trans (But.of smT)
      clear smT
      generalize upd H5 T (.tup us) = H6 at hT hhT hrT bT
      refine ⟨.int (many : Int), rfl, _, rfl, by omega, by omega, fun D2 nD2 => lc_range (n := ((many : Int)).toNat) (fun i H' => ∃ ws ds, But a H6 H' ∧ HandAt H' a (n + 11 + 3 * cost l + 70 * i) ∧ H' D2 = some (.lst ws) ∧ BhAt K H' ws ds ∧ ds.length = i ∧ ∀ d ∈ ds, DsOk many d ∧ d.dep ≤ 2 ∧ d.cnt ≤ 10) ⟨[], [], But.new nD2, hhT.new nD2, upd_same, trivial, rfl, fun x h => by cases h⟩ ?_ ?_⟩
      · rintro i H7 hi ⟨ws, ds, b7, hh7, hD7, hbh, hdl, hds⟩
        have hi : i < 3 := by omega
        have hDa : D2 ≠ a := hhT.ne nD2
        refine ⟨rfl, tYes_in ?_⟩
        refine ⟨.ref a, rfl, .int (many : Int), rfl, a, many, 1, _, rfl, by decide, by decide, hm1, by omega, hh7, (by show _ + 70 ≤ _; omega), fun H8 p xs d b8 hh8 hp hd ho hdp hdc => ?_⟩
        have hD8 := b8 _ _ hDa hD7
        have hwl := hbh.len
        refine ⟨ws, hD8, small1000 (by omega), ws ++ [.ref p], ds ++ [d], fun b' o nb eb => ?_, (hh8.le (by show _ + 70 ≤ _; omega)).put hDa, upd_same, BhAt.snoc (put_sqt hD8 hp) (hd.imp fun _ _ q => put_sqt hD8 q) ((hbh.imp fun _ _ q => b8.sq hh7 q).imp fun _ _ q => put_sqt hD8 q), by rw [List.length_append, hdl]; rfl, fun e' he' => ?_⟩
        · rw [upd_ne (ne_of_none eb nD2)]
          exact b8 _ _ nb (b7 _ _ nb eb)
        · rcases List.mem_append.mp he' with h | h
          · exact hds _ h
          · rw [List.mem_singleton.mp h]
            exact ⟨ho, hdp, hdc⟩
      · rintro H7 ⟨ws, ds, b7, hh7, hD7, hbh, hdl, hds⟩
        have hdl : ds.length = many := by omega
        have hh7 : HandAt H7 a (n + 221 + 3 * cost l) := hh7.le (by omega)
        refine .inl ⟨D2, ws, rfl, SqL.of hD7, fun T2 nT2 => ?_⟩
        have smT2 := same_new (o := .tup ws) nT2
        have hT2 : (upd H7 T2 (.tup ws)) T2 = some (.tup ws) := upd_same
        have hhT2 := hh7.new (o := .tup ws) nT2
        have hbT2 := hbh.same smT2
        have bT2 := b7.trans (But.of smT2)
        clear smT2
        generalize upd H7 T2 (.tup ws) = H8 at hT2 hhT2 hbT2 bT2
        refine ⟨_, rfl, _, rfl, .ref a, rfl, a, _, rfl, hhT2, by omega, fun H9 v rs b9 hh9 hR => ⟨.ref T, rfl, .ref T2, rfl, (by show 5 ≤ sizeLine; decide), fun t nt => ?_⟩⟩
        have s10 := same_new (o := .tup [.str nm, .int (sc : Int), v, .ref T, .ref T2]) nt
        have sq69 : ∀ p xs, SqT K H6 p xs → SqT K (upd H9 t (.tup [.str nm, .int (sc : Int), v, .ref T, .ref T2])) p xs := fun _ _ h => same_sqt s10 (b9.sq hhT2 (bT2.sq hhT h))
        have sq89 : ∀ p xs, SqT K H8 p xs → SqT K (upd H9 t (.tup [.str nm, .int (sc : Int), v, .ref T, .ref T2])) p xs := fun _ _ h => same_sqt s10 (b9.sq hhT2 h)
        refine q _ _ ⟨nm, sc, rs, es, ds⟩ (((bT.trans bT2).trans b9).trans (But.of s10)) ((hh9.new nt).le (by omega)) ⟨t, v, T, T2, us, ws, rfl, SqT.of upd_same, hR.same s10, sq69 _ _ (SqT.of hT), hrT.imp sq69, sq89 _ _ (SqT.of hT2), hbT2.imp sq89⟩ ⟨hnm, by show sc < 5; omega, hR.ok, hel, fun e he => (hes e he).1, hdl, hds⟩ fun e he => (hes e he).2
end
end NG

namespace NG
open PySem PySem.Spec PyProof.Rows L2
def spLaw (K : PySem.W.Frag) : Sp := fun vs H Q _ => ∃ (a : Addr) (ns : List Int), vs = [.ref a] ∧ SqL K H a (ns.map V.int) ∧ ns.length ≤ 63 ∧ ∀ H', Q (.bl true) H'
theorem tame_ex {many : Nat} (hm : many ≤ 3) : ∀ {e : Ex}, ExOk many e → tame 10000 (toD e) = true
  | .fig c, h => by
    have h : -1000 ≤ c ∧ c ≤ 1000 := h
    simp only [toD, tame, tameAll, Bool.and_true]
    exact (by decide : ∀ b : Bool, b = true → (true && b) = true) _ (decide_eq_true (by omega))
  | .reg i, h => by
    have h : i < 4 := h
    simp only [toD, tame, tameAll, Bool.and_true]
    exact (by decide : ∀ b : Bool, b = true → (true && b) = true) _ (decide_eq_true (by omega))
  | .share i, h => by
    have h : i < many := h
    simp only [toD, tame, tameAll, Bool.and_true]
    exact (by decide : ∀ b : Bool, b = true → (true && b) = true) _ (decide_eq_true (by omega))
  | .two o x y, h => by
    have hx := tame_ex hm (e := x) h.1
    have hy := tame_ex hm (e := y) h.2
    simp only [toD, tame, tameAll, hx, hy, Bool.and_true]
    cases o <;> decide
  | .times f x, h => by
    have h1 : -9 ≤ f ∧ f ≤ 9 := h.1
    have hx := tame_ex hm (e := x) h.2
    simp only [toD, tame, tameAll, hx, Bool.and_true]
    exact (by decide : ∀ b : Bool, b = true → (true && b) = true) _ (decide_eq_true (by omega))
  | .by i x, h => by
    have h1 : i < 4 := h.1
    have hx := tame_ex hm (e := x) h.2
    simp only [toD, tame, tameAll, hx, Bool.and_true]
    exact (by decide : ∀ b : Bool, b = true → (true && b) = true) _ (decide_eq_true (by omega))
  | .when i c x y, h => by
    have h1 : i < 4 := h.1
    have h2 : -1000 ≤ c ∧ c ≤ 1000 := h.2.1
    have hx := tame_ex hm (e := x) h.2.2.1
    have hy := tame_ex hm (e := y) h.2.2.2
    simp only [toD, tame, tameAll, hx, hy, Bool.and_true]
    exact (by decide : ∀ b c : Bool, b = true → c = true → (true && (b && c)) = true) _ _ (decide_eq_true (by omega)) (decide_eq_true (by omega))
  | .whr j c x y, h => by
    have h1 : j < many := h.1
    have h2 : 1 ≤ c ∧ c ≤ 1000 := h.2.1
    have hx := tame_ex hm (e := x) h.2.2.1
    have hy := tame_ex hm (e := y) h.2.2.2
    simp only [toD, tame, tameAll, hx, hy, Bool.and_true]
    exact (by decide : ∀ b c : Bool, b = true → c = true → (true && (b && c)) = true) _ _ (decide_eq_true (by omega)) (decide_eq_true (by omega))
theorem tame_ds {many : Nat} (hm : many ≤ 3) : ∀ {d : Ds}, DsOk many d → tameAll 10000 (dsD d) = true
  | .nil, _ => rfl
  | .op w i x r, ⟨o1, o2, o3⟩ => by
    have hr := tame_ds hm (d := r) o3
    have hx := xok_small (many := many) (by omega) o2
    simp only [dsD, tame, tameAll, hr, Bool.and_true]
    have e1 : decide ((i : Int).natAbs ≤ 10000) = true := decide_eq_true (by omega)
    have e2 : decide (x.natAbs ≤ 10000) = true := decide_eq_true (by omega)
    rw [e1, e2]
    cases w <;> decide
  | .when i c a b r, ⟨o1, o2, o3, o4, o5⟩ => by
    have ha := tame_ds hm (d := a) o3
    have hb := tame_ds hm (d := b) o4
    have hr := tame_ds hm (d := r) o5
    simp only [dsD, tame, tameAll, ha, hb, hr, Bool.and_true]
    exact (by decide : ∀ b c : Bool, b = true → c = true → (true && (b && c)) = true) _ _ (decide_eq_true (by omega)) (decide_eq_true (by omega))
theorem tame_map {α : Type} {f : α → PyData} {B : Nat} : ∀ {l : List α}, (∀ x ∈ l, tame B (f x) = true) → tameAll B (l.map f) = true
  | [], _ => rfl
  | x :: r, h => by
    show (tame B (f x) && tameAll B (r.map f)) = true
    rw [h x List.mem_cons_self, tame_map fun y hy => h y (List.mem_cons_of_mem _ hy)]
    rfl
def rnm (D : Dbt) (z : Str) : Dbt := ⟨z, D.scale, D.begins, D.stakes, D.behinds⟩
theorem tm_db {many : Nat} {D : Dbt} {z : Str} {l : Nat} (hm : many ≤ 3) (hl : l ≤ 2) (o : DbOk many (l + 3) 2 10 D) (hz : (z.cps.toList.all fun c => decide (c < 16 ^ 8)) = true) (hz2 : z.cps.size ≤ 10) : Tm 10000 7600 20 (dbD (rnm D z)) := by
  have h0 : Shw (.str z) 10 0 := .str hz hz2
  have h1 : Shw (.int (D.scale : Int)) 15 0 := .small (by have := o.sc; omega)
  have h2 := (shw_smalls o.rg.2).tup
  have h3 := (shw_list (f := toD) (w := wgt 5) (k := 5) fun e he => (shw_ex (many := many) (by omega) (o.st e he).1).mono (wgt_mono (Nat.le_trans (o.st e he).2 (by omega))) (Nat.le_trans (o.st e he).2 (by omega))).tup
  have h4 := (shw_list (f := fun d => PyData.tuple (dsD d)) (w := 60 * 10) (k := 2 * 2 + 1) fun d hd => ((shw_ds (many := many) (by omega) (o.bh d hd).1).tup).mono (Nat.mul_le_mul_left _ (o.bh d hd).2.2) (by have := (o.bh d hd).2.1; omega)).tup
  have h5 := ShwAll.tup (.cons h0 (.cons h1 (.cons h2 (.cons h3 (.cons h4 (ShwAll.nil (k := 0)) (k := 18) (by omega) (by omega)) (by omega) (Nat.le_refl 18)) (by omega) (Nat.le_refl 18)) (by omega) (Nat.le_refl 18)) (by omega) (Nat.le_refl 18))
  have w5 : wgt 5 = 1860 := rfl
  refine ⟨?_, Nat.le_trans h5.wt ?_, Nat.le_trans h5.dp (by decide)⟩
  · have t2 : tameAll 10000 (D.begins.map PyData.int) = true := tame_map fun x hx => by
      have := o.rg.2 x hx
      unfold tame
      exact decide_eq_true (by omega)
    have t3 : tameAll 10000 (D.stakes.map toD) = true := tame_map fun e he => tame_ex hm (o.st e he).1
    have t4 : tameAll 10000 (D.behinds.map fun d => PyData.tuple (dsD d)) = true := tame_map fun d hd => by
      unfold tame
      exact tame_ds hm (o.bh d hd).1
    have t1 : decide ((D.scale : Int).natAbs ≤ 10000) = true := decide_eq_true (by have := o.sc; omega)
    show tame 10000 (.tuple [.str z, .int (D.scale : Int), .tuple (D.begins.map PyData.int), .tuple (D.stakes.map toD), .tuple (D.behinds.map fun d => .tuple (dsD d))]) = true
    simp only [tame, tameAll, t1, t2, t3, t4, hz, Bool.and_true]
  · rw [o.sl, o.bl, o.rg.1, w5]
    have a1 : (1860 + 1) * many ≤ (1860 + 1) * 3 := Nat.mul_le_mul_left _ hm
    have a2 : (60 * 10 + 1) * many ≤ (60 * 10 + 1) * 3 := Nat.mul_le_mul_left _ hm
    omega
theorem ex_size : ∀ e : Ex, e.size + 1 ≤ 2 ^ e.dep
  | .fig _ => Nat.le_refl 2
  | .reg _ => Nat.le_refl 2
  | .share _ => Nat.le_refl 2
  | .two _ a b => two_size (ex_size a) (ex_size b)
  | .times _ a => one_size (ex_size a)
  | .by _ a => one_size (ex_size a)
  | .when _ _ a b => two_size (ex_size a) (ex_size b)
  | .whr _ _ a b => two_size (ex_size a) (ex_size b)
where
  one_size {n k : Nat} (h : n + 1 ≤ 2 ^ k) : 1 + n + 1 ≤ 2 ^ (k + 1) := by
    rw [Nat.pow_succ]
    omega
  two_size {n m k j : Nat} (h : n + 1 ≤ 2 ^ k) (g : m + 1 ≤ 2 ^ j) : 1 + n + m + 1 ≤ 2 ^ (max k j + 1) := by
    have h1 : 2 ^ k ≤ 2 ^ max k j := Nat.pow_le_pow_right (by decide) (Nat.le_max_left ..)
    have h2 : 2 ^ j ≤ 2 ^ max k j := Nat.pow_le_pow_right (by decide) (Nat.le_max_right ..)
    rw [Nat.pow_succ]
    omega
theorem fit_of {many l : Nat} {D : Dbt} {z : Str} (hl : l ≤ 2) (hz : nameD z = true) (h : DbOk many (l + 3) 2 10 D) (s : ∀ e ∈ D.stakes, StOk many l e) : DbFit many (rnm D z) := by
  refine ⟨hz, h.sc, h.rg, h.sl, fun e he => ?_, h.bl, fun d hd => ?_⟩
  · obtain ⟨ok, hd⟩ := h.st e he
    have hz := ex_size e
    have hz2 : 2 ^ e.dep ≤ 2 ^ 5 := Nat.pow_le_pow_right (by decide) (by omega)
    have hz3 : e.size ≤ 40 := by
      have : (2 : Nat) ^ 5 = 32 := rfl
      omega
    have hp := pw2_bnd D.scale
    refine ⟨ok, by omega, hz3, ?_⟩
    show -(500 * pw2 D.scale) ≤ (spn e).1 ∧ (spn e).2 ≤ 500 * pw2 D.scale
    rcases s e he with ⟨c, rfl, c1, c2⟩ | ⟨c, e', rfl, c1, c2, _, _⟩
    · constructor
      · show -(500 * pw2 D.scale) ≤ c
        omega
      · show c ≤ 500 * pw2 D.scale
        omega
    · constructor
      · show -(500 * pw2 D.scale) ≤ mn c (mx (-c) (spn e').1)
        unfold mn mx
        split <;> split <;> omega
      · show mn c (mx (-c) (spn e').2) ≤ 500 * pw2 D.scale
        unfold mn mx
        split <;> split <;> omega
  · obtain ⟨a1, a2, a3⟩ := h.bh d hd
    exact ⟨a1, by omega, by omega⟩
theorem dbQ_true {many : Nat} {D : Dbt} (f : DbFit many D) : dbQ many (dbD D) = true := by
  have h := dbtD_true f
  unfold dbtD at h
  have e : dbQ many (dbD D) = (nameD D.name && (inD 0 4 (.int (D.scale : Int)) && (regsD (D.begins.map PyData.int) && ((decide ((D.stakes.map toD).length = many) && (D.stakes.map toD).all (stakeD many (D.scale : Int).toNat)) && (decide ((D.behinds.map fun d => PyData.tuple (dsD d)).length = many) && (D.behinds.map fun d => PyData.tuple (dsD d)).all fun d => (cntB many 4 d).isSome))))) := rfl
  rw [e]
  by_cases c : (nameD D.name && (decide (0 ≤ (D.scale : Int)) && decide ((D.scale : Int) ≤ 4)) && regsD (D.begins.map PyData.int)) = true
  · rw [if_pos c] at h
    rw [Bool.and_eq_true, Bool.and_eq_true] at c
    rw [h, c.1.1, c.2, show inD 0 4 (.int (D.scale : Int)) = (decide (0 ≤ (D.scale : Int)) && decide ((D.scale : Int) ≤ 4)) from rfl, c.1.2]
    rfl
  · rw [if_neg c] at h
    cases h
theorem dn_of {B W D : Nat} {d : PyData} (h : Tm B W D d) (hW : W ≤ 100000) : dnOk d := by
  cases d with
  | tuple ds =>
    cases ds with
    | nil => trivial
    | cons x r =>
      cases x with
      | str z =>
        have h1 : z.cps.size + 1 + PyData.weightAll r ≤ W := h.wt
        show z.cps.size ≤ 100000
        omega
      | _ => trivial
  | _ => trivial
theorem none_of2 {a p : Addr} {H H' : Hp} (b : But a H H') (hp : p ≠ a) (h : H' p = none) : H p = none := by
  cases e : H p with
  | none => rfl
  | some o => rw [b _ _ hp e] at h; cases h
def Body (K : PySem.W.Frag) (H : Hp) (D : Dbt) (vb : V) (ps pb : Addr) : Prop := ∃ us ws, RegsAt K H D.begins vb ∧ SqT K H ps us ∧ RowsAt K H us D.stakes ∧ SqT K H pb ws ∧ BhAt K H ws D.behinds
theorem Body.imp {K : PySem.W.Frag} {H H' : Hp} {D : Dbt} {vb : V} {ps pb : Addr} (x : Body K H D vb ps pb) (h : ∀ p xs, SqT K H p xs → SqT K H' p xs) : Body K H' D vb ps pb := by
  obtain ⟨us, ws, r, q1, r1, q2, r2⟩ := x
  exact ⟨us, ws, r.imp h, h _ _ q1, r1.imp h, h _ _ q2, r2.imp h⟩
theorem Body.same {K : PySem.W.Frag} {H H' : Hp} {D : Dbt} {vb : V} {ps pb : Addr} (x : Body K H D vb ps pb) (s : Same H H') : Body K H' D vb ps pb := x.imp fun _ _ q => same_sqt s q
def itD (D : Dbt) (z : Str) : List PyData := [.str z, .int (D.scale : Int), .tuple (D.begins.map PyData.int), .tuple (D.stakes.map toD), .tuple (D.behinds.map fun d => .tuple (dsD d))]
def itV (D : Dbt) (z : Str) (vb : V) (ps pb : Addr) : List V := [.str z, .int (D.scale : Int), vb, .ref ps, .ref pb]
theorem Body.dps {K : PySem.W.Frag} {H : Hp} {D : Dbt} {vb : V} {ps pb : Addr} (x : Body K H D vb ps pb) (z : Str) : DqAll K H (itV D z vb ps pb) (itD D z) := by
  obtain ⟨us, ws, ⟨pr, e2, r, _⟩, q1, r1, q2, r2⟩ := x
  subst e2
  exact dqall_of (.cons (.str _) (.cons (.int _) (.cons (.tup r (dp_ints _)) (.cons (.tup q1 r1.dps) (.cons (.tup q2 r2.dps) .nil)))))
theorem Body.dq {K : PySem.W.Frag} {H : Hp} {D : Dbt} {vb : V} {ps pb q : Addr} {z : Str} (x : Body K H D vb ps pb) (h : SqT K H q (itV D z vb ps pb)) : Dq K H (.ref q) (dbD (rnm D z)) := .tup h (x.dps z)
section
variable {P : Program} {w : World} {K : PySem.W.Frag} {mg : Str → Option Value} {base : Heap}
theorem ok_law {f : Addr} {fd : FuncData} (F : Fun K "law" "law" s_law f fd) (B : Bl mg) {lw : Nat} (h1 : 20 ≤ lw) (c_L_hand : Cal P w K mg base 1 "_law_hand" (spHand K)) (c_L_take : Cal P w K mg base 1 "_law_take" spTake) (c_L_name : Cal P w K mg base 3 "_law_name" (spLName K)) (c_L_doubter : Cal P w K mg base lw "_law_doubter" (spDoubter K 3)) (c_L_bent : Cal P w K mg base 13 "_law_bent" (spBent K 10)) (c_is_doubter : Cal P w K mg base 19 "is_doubter" (spIsDb K)) (k_is_doubter : CalK P w K mg base 19 "is_doubter" ["many", "thing"] (spIsDb K)) (c_L_is_doubter : Cal P w K mg base 13 "_law_is_doubter" (spLDb K)) : FnG P w K mg base (lw + 1) f fd ["_law_script"] (spLaw K) := by
  refine fnG F sc_law (fun vs H Q E h => ?_) (fun cdv A outer s H vs Q hg hr h => ?_)
  · obtain ⟨_, _, rfl, _⟩ := h
    rfl
  · obtain ⟨sc, ns, rfl, hS, hl, q⟩ := h
    refine ⟨_, (pss_cons (ps_for PassesOwn.never rfl (pi_range1 rfl B.range (pa_cons (pe_callB (call_max2 rfl) (by rfl) B.max (by decide +kernel) (pa_cons pe_int (pa_cons (pe_callB (call_min2 rfl) (by rfl) B.min (by decide +kernel) (pa_cons pe_int (pa_cons (pe_callB call_len_seq (by rfl) B.len PySem.boot_len (pa_cons (pv 0) pa_nil)) pa_nil))) pa_nil))) pa_nil)) (pg_name (i := 1) sc_law.nd rfl (.inl rfl)) (pss_cons (ps_set (i := 2) sc_law.nd rfl (.inl rfl) (pe_c c_L_hand hr (by omega) (by rfl) (pa_cons (pv 0) (pa_cons (pv 1) pa_nil)))) (pss_cons (ps_set (i := 3) sc_law.nd rfl (.inl rfl) (pe_op op_add pe_int (pe_c c_L_take hr (by omega) (by rfl) (pa_cons (pv 2) (pa_cons pe_int pa_nil))))) (pss_cons (ps_set (i := 4) sc_law.nd rfl (.inl rfl) (pe_op op_catA (pe_tup (pa_cons (pe_c c_L_name hr (by omega) (by rfl) (pa_cons (pv 2) pa_nil)) pa_nil)) (pe_slice sl_tupA (pe_c c_L_doubter hr (by omega) (by rfl) (pa_cons (pv 2) (pa_cons (pv 3) (pa_cons (pe_op op_add pe_int (pe_c c_L_take hr (by omega) (by rfl) (pa_cons (pv 2) (pa_cons pe_int pa_nil)))) (pa_cons pe_int pa_nil))))) (po_some pe_int) po_none))) (pss_cons (ps_set (i := 5) sc_law.nd rfl (.inl rfl) (pe_op op_catA (pe_tup (pa_cons (pe_c c_L_name hr (by omega) (by rfl) (pa_cons (pv 2) pa_nil)) pa_nil)) (pe_slice sl_tupA (pv 4) (po_some pe_int) po_none))) (pss_cons (ps_set (i := 6) sc_law.nd rfl (.inl rfl) (pe_lst (pa_cons (pv 4) (pa_cons (pv 5) (pa_cons (pe_callTy call_list_of (by rfl) B.list (by decide +kernel) (pa_cons (pv 4) pa_nil)) (pa_cons (pe_slice sl_tupA (pv 4) po_none (po_some pe_int)) (pa_cons (pe_op op_catA (pv 4) (pe_tup (pa_cons pe_int pa_nil))) (pa_cons pe_non (pa_cons (pe_tup pa_nil) (pa_cons pe_int (pa_cons pe_bl (pa_cons pe_str (pa_cons pe_dnewK (pa_cons (pe_ix ix_tup (pv 4) pe_int (fun _ _ => rfl)) (pa_cons (pe_tup (pa_cons (pv 4) pa_nil)) pa_nil))))))))))))))) (pss_cons (ps_for PassesOwn.never rfl (pi_range1 rfl B.range (pa_cons pe_int pa_nil)) (pg_name (i := 7) sc_law.nd rfl (.inl rfl)) (pss_cons (ps_set (i := 8) sc_law.nd rfl (.inl rfl) (pe_c c_L_bent hr (by omega) (by rfl) (pa_cons (pv 2) (pa_cons (pv 4) (pa_cons pe_int pa_nil))))) (pss_one (ps_expr (pe_bm PySem.F.plainAttrs_list PySem.F.slot_list_append PySem.F.type_list_append mt_append (pv 6) (pa_cons (pe_cut (pe_ifExp (pt_cmpR op_eq (pe_c c_L_take hr (by omega) (by rfl) (pa_cons (pv 2) (pa_cons pe_int pa_nil))) pe_int (nomark _)) (pe_c c_L_bent hr (by omega) (by rfl) (pa_cons (pv 2) (pa_cons (pv 8) (pa_cons pe_int pa_nil)))) (pv 8))) pa_nil)))))) (pss_cons (ps_if (pt_cmpR op_isnot_bl (pe_c c_is_doubter hr (by omega) (by rfl) (pa_cons (pv 4) (pa_cons (pv 3) pa_nil))) pe_bl (nomark _)) (pss_one (ps_ret pe_bl)) pss_nil) (pss_one (ps_for PassesOwn.never rfl (pi_list (pv 6)) (pg_name (i := 9) sc_law.nd rfl (.inl rfl)) (pss_cons (ps_set (i := 10) sc_law.nd rfl (.inl rfl) (pe_callB (cr_reprQ hg hr.units) (by rfl) B.repr (by decide +kernel) (pa_cons (pv 9) pa_nil))) (pss_cons (ps_for PassesOwn.never rfl (pi_tup (pe_tup (pa_cons (pv 3) (pa_cons (pe_op op_sub pe_int (pv 3)) pa_nil)))) (pg_name (i := 11) sc_law.nd rfl (.inl rfl)) (pss_cons (ps_set (i := 12) sc_law.nd rfl (.inl rfl) (pe_c c_L_is_doubter hr (by omega) (by rfl) (pa_cons (pv 9) (pa_cons (pv 11) pa_nil)))) (pss_cons (ps_set (i := 13) sc_law.nd rfl (.inl rfl) (pe_lst (pa_cons (pe_c c_is_doubter hr (by omega) (by rfl) (pa_cons (pv 9) (pa_cons (pv 11) pa_nil))) (pa_cons (pe_kw k_is_doubter hg hr (by omega) (by rfl) (pk_cons (pv 11) (pk_cons (pv 9) pk_nil))) pa_nil)))) (pss_one (ps_if (pt_cmpR op_ne (pe_callB (cr_reprQ hg hr.units) (by rfl) B.repr (by decide +kernel) (pa_cons (pv 13) pa_nil)) (pe_callB (cr_reprQ hg hr.units) (by rfl) B.repr (by decide +kernel) (pa_cons (pe_lst (pa_cons (pv 12) (pa_cons (pv 12) pa_nil))) pa_nil)) (nomark _)) (pss_one (ps_ret pe_bl)) pss_nil))))) (pss_one (ps_if (pt_cmpR op_ne (pe_callB (cr_reprQ hg hr.units) (by rfl) B.repr (by decide +kernel) (pa_cons (pv 9) pa_nil)) (pv 10) (nomark _)) (pss_one (ps_ret pe_bl)) pss_nil)))))))))))))) (pss_one (ps_ret pe_bl))), ?_⟩
    have hmn : ∀ z : Int, 0 ≤ z → 0 ≤ (if (if z < 2 then z else 2) > 1 then (if z < 2 then z else 2) else 1) ∧ (if (if z < 2 then z else 2) > 1 then (if z < 2 then z else 2) else 1) ≤ 2 := fun z hz => by
      split <;> split <;> omega
    have h3 := hmn (((ns.map V.int).length : Nat) : Int) (by omega)
    refine ⟨.ref sc, rfl, sc, _, rfl, .inl hS, _, _, rfl, _, _, rfl, _, rfl, by omega, by omega, ?_⟩
    refine for_range (fun i σ H' => ∃ y1 y2 y3 y4 y5 y6 y7 y8 y9 y10 y11 y12 y13, σ = [some (.ref sc), y1, y2, y3, y4, y5, y6, y7, y8, y9, y10, y11, y12, y13] ∧ Same H H') ⟨none, none, none, none, none, none, none, none, none, none, none, none, none, rfl, Same.refl _⟩ ?_ ?_
    · rintro i σ H1 hi ⟨y1, y2, y3, y4, y5, y6, y7, y8, y9, y10, y11, y12, y13, rfl, sm1⟩
      have hi2 : i < 2 := by omega
      refine ⟨.ref sc, rfl, .int (0 + (i : Int)), rfl, sc, _, ns, rfl, by omega, by omega, sm1.seq hS, fun a g sd np g0 sd0 => ?_⟩
      have hh1 : HandAt (upd H1 a (.lst [.int g, .int sd, .int 0])) a 0 := ⟨g, sd, 0, upd_same, g0, sd0, by decide, by decide⟩
      have b1 : But a H1 (upd H1 a (.lst [.int g, .int sd, .int 0])) := But.put
      generalize upd H1 a (.lst [.int g, .int sd, .int 0]) = H2 at hh1 b1 ⊢
      refine ⟨.ref a, rfl, a, 2, _, rfl, by decide, by decide, hh1, by decide, fun H3 r b3 hh3 r0 r1 => ⟨_, _, rfl, rfl, ?_⟩⟩
      obtain ⟨many, hm⟩ : ∃ m : Nat, 2 + r = (m : Int) := ⟨(2 + r).toNat, by omega⟩
      have hm3 : many ≤ 3 := by omega
      have hm2 : 2 ≤ many := by omega
      refine ⟨.ref a, rfl, a, _, rfl, hh3, by omega, fun H4 z1 b4 hh4 hz1 hz1c hz1s => ⟨(by show 1 ≤ sizeLine; decide), fun t1 n1 => ?_⟩⟩
      have hh4n := hh4.new (o := .tup [.str z1]) n1
      have bt1 : But a H1 (upd H4 t1 (.tup [.str z1])) := ((b1.trans b3).trans b4).trans (But.new n1)
      have et1 : (upd H4 t1 (.tup [.str z1])) t1 = some (.tup [.str z1]) := upd_same
      generalize upd H4 t1 (.tup [.str z1]) = H5 at hh4n bt1 et1 ⊢
      refine ⟨.ref a, rfl, _, rfl, .ref a, rfl, a, 2, _, rfl, by decide, by decide, hh4n, by omega, fun H6 r2 b6 hh6 r20 r21 => ⟨_, _, rfl, rfl, ?_⟩⟩
      obtain ⟨lv, hv⟩ : ∃ m : Nat, 1 + r2 = (m : Int) := ⟨(1 + r2).toNat, by omega⟩
      have hlv : lv ≤ 2 := by omega
      have hcl : cost lv ≤ 200 := by
        match lv, hlv with
        | 0, _ => decide
        | 1, _ => decide
        | 2, _ => decide
      refine ⟨a, many, lv, _, 1, (by show [V.ref a, V.int (2 + r), V.int (1 + r2), V.int 1] = _; rw [hm, hv]; rfl), by decide, by omega, by omega, by omega, by omega, hh6, by omega, fun H7 v D b7 hh7 dv ok so => ?_⟩
      have hh7 : HandAt H7 a 1000 := hh7.le (by omega)
      have bt7 := (bt1.trans b6).trans b7
      have et7 : SqT K H7 t1 [.str z1] := b7.sq hh6 (b6.sq hh4n (SqT.of et1))
      clear b1 b3 b4 b6 b7 hh1 hh3 hh4 hh6 hh4n bt1 et1
      obtain ⟨p, vb, ps, pb, us, ws, rfl, hp, hR, hps, hus, hpb, hws⟩ := dv
      have bd7 : Body K H7 D vb ps pb := ⟨us, ws, hR, hps, hus, hpb, hws⟩
      refine ⟨1, rfl, ?_⟩
      dsimp only [tNoPart]
      refine slA hp fun H8 t2 s8 h8 => ?_
      rw [cutT1] at h8
      refine catA (same_sqt s8 et7) h8 (by show 1 + 4 ≤ sizeLine; decide) fun H9 pg s9 hpg => ?_
      have hpg : SqT K H9 pg (itV D z1 vb ps pb) := hpg
      have s79 := s8.trans s9
      have bt9 := bt7.trans (But.of s79)
      have hh9 := hh7.same s79
      have bd9 := bd7.same s79
      clear bt7 hh7 et7 hp s8 h8 s9 s79 hR hps hus hpb hws bd7
      refine ⟨.ref a, rfl, a, _, rfl, hh9, by omega, fun H10 z2 b10 hh10 hz2 hz2c hz2s => ⟨(by show 1 ≤ sizeLine; decide), fun t3 n3 => ?_⟩⟩
      have bd10 : Body K H10 D vb ps pb := bd9.imp fun _ _ q => b10.sq hh9 q
      have hpg10 := b10.sq hh9 hpg
      refine ⟨.ref pg, rfl, 1, rfl, ?_⟩
      dsimp only [tNoPart]
      refine slA (same_sqt (same_new n3) hpg10) fun H11 t4 s11 h11 => ?_
      unfold itV at h11
      rw [cutT1] at h11
      refine catA (same_sqt s11 (SqT.of upd_same)) h11 (by show 1 + 4 ≤ sizeLine; decide) fun H12 po s12 hpo => ?_
      have hpo : SqT K H12 po (itV D z2 vb ps pb) := hpo
      have s1012 := ((same_new (o := .tup [.str z2]) n3).trans s11).trans s12
      have bd12 := bd10.same s1012
      have hh12 : HandAt H12 a 2000 := (hh10.same s1012).le (by omega)
      have bt12 := (bt9.trans b10).trans (But.of s1012)
      have hpg := same_sqt s1012 hpg10
      clear bd9 bd10 hpg10 h11 s11 s12 s1012 bt9 hh9 hh10 b10
      have tmg : Tm 10000 7600 20 (dbD (rnm D z1)) := tm_db hm3 hlv ok hz1c hz1s
      have tmo : Tm 10000 7600 20 (dbD (rnm D z2)) := tm_db hm3 hlv ok hz2c hz2s
      have fit1 : dbQ many (dbD (rnm D z1)) = true := dbQ_true (fit_of hlv hz1 ok so)
      clear ok so
      -- the things
      refine ⟨.ref pg, rfl, .ref po, rfl, .ref pg, rfl, pg, _, rfl, .inr hpg, fun q1 m1 => ⟨.ref pg, rfl, 4, rfl, ?_⟩⟩
      dsimp only [tNoPart]
      have c1 : (upd H12 q1 (.lst (itV D z1 vb ps pb))) q1 = some (.lst (itV D z1 vb ps pb)) := upd_same
      have s12a : Same H12 (upd H12 q1 (.lst (itV D z1 vb ps pb))) := same_new m1
      have q1a : q1 ≠ a := hh12.ne m1
      generalize upd H12 q1 (.lst (itV D z1 vb ps pb)) = H12a at c1 s12a ⊢
      refine slA (same_sqt s12a hpg) fun H13 q2 s13 c2 => ?_
      rw [show (4 : Int) = ((4 : Nat) : Int) from rfl, cut_to] at c2
      refine ⟨.ref pg, rfl, (by show 1 ≤ sizeLine; decide), fun q3 m3 => ?_⟩
      have c3 : (upd H13 q3 (.tup [.int 0])) q3 = some (.tup [.int 0]) := upd_same
      have s13a : Same H13 (upd H13 q3 (.tup [.int 0])) := same_new m3
      generalize upd H13 q3 (.tup [.int 0]) = H13a at c3 s13a ⊢
      refine catA (same_sqt ((s12a.trans s13).trans s13a) hpg) (SqT.of c3) (by show 5 + 1 ≤ sizeLine; decide) fun H14 q4 s14 c4 => ?_
      have s1214 := ((s12a.trans s13).trans s13a).trans s14
      have hpg14 := same_sqt s1214 hpg
      refine ⟨(by show 0 ≤ sizeLine; decide), fun q5 m5 k0 nk0 => ⟨.ref pg, rfl, pg, itV D z1 vb ps pb, 0, _, rfl, rfl, ?_, at_of (j := 0) rfl rfl, .ref pg, rfl, (by show 1 ≤ sizeLine; decide), fun q6 m6 => ⟨(by show 13 ≤ sizeLine; decide), fun l nl => ?_⟩⟩⟩
      · exact same_sqt ((same_new m5).trans (same_new nk0)) hpg14
      have s15 : Same H14 (upd (upd (upd H14 q5 (.tup [])) k0 (.dK [])) q6 (.tup [.ref pg])) := ((same_new m5).trans (same_new nk0)).trans (same_new m6)
      have c5 : (upd (upd (upd H14 q5 (.tup [])) k0 (.dK [])) q6 (.tup [.ref pg])) q5 = some (.tup []) := same_new m6 _ _ (same_new nk0 _ _ upd_same)
      have ck : (upd (upd (upd H14 q5 (.tup [])) k0 (.dK [])) q6 (.tup [.ref pg])) k0 = some (.dK []) := same_new m6 _ _ upd_same
      have c6 : (upd (upd (upd H14 q5 (.tup [])) k0 (.dK [])) q6 (.tup [.ref pg])) q6 = some (.tup [.ref pg]) := upd_same
      have k0a : k0 ≠ a := ((hh12.same s1214).new (o := .tup []) m5).ne nk0
      generalize upd (upd (upd H14 q5 (.tup [])) k0 (.dK [])) q6 (.tup [.ref pg]) = H15 at s15 c5 ck c6 nl ⊢
      have s1215 := s1214.trans s15
      have hh15 := hh12.same s1215
      have al : l ≠ a := hh15.ne nl
      have b15 : But a H1 H15 := bt12.trans (But.of s1215)
      have hnl : H1 l = none := none_of2 b15 al nl
      have c1 := ((s13.trans s13a).trans s14).trans s15 _ _ c1
      have q1l : q1 ≠ l := ne_of_none c1 nl
      have k0l : k0 ≠ l := ne_of_none ck nl
      have c2 := same_sqt ((s13a.trans s14).trans s15) c2
      have c4 := same_sqt s15 c4
      have hpg := same_sqt s1215 hpg
      have hpo := same_sqt s1215 hpo
      have bd15 := bd12.same s1215
      clear s12a s13 s13a s14 s1214 hpg14 s15 s1215 bd12 hh12 bt12 c3 m1 m3 m5 m6 nk0
      have cl : (upd H15 l (.lst [.ref pg, .ref po, .ref q1, .ref q2, .ref q4, .non, .ref q5, .int 0, .bl true, .str "a", .ref k0, .str z1, .ref q6])) l = some (.lst [.ref pg, .ref po, .ref q1, .ref q2, .ref q4, .non, .ref q5, .int 0, .bl true, .str "a", .ref k0, .str z1, .ref q6]) := upd_same
      have s16 : Same H15 (upd H15 l (.lst [.ref pg, .ref po, .ref q1, .ref q2, .ref q4, .non, .ref q5, .int 0, .bl true, .str "a", .ref k0, .str z1, .ref q6])) := same_new nl
      generalize upd H15 l (.lst [.ref pg, .ref po, .ref q1, .ref q2, .ref q4, .non, .ref q5, .int 0, .bl true, .str "a", .ref k0, .str z1, .ref q6]) = H16 at cl s16 ⊢
      have b16 := b15.trans (But.of s16)
      have tr16 : Tr a [l] 2000 H16 := ⟨hh15.same s16, fun x hx => by
        rw [List.mem_singleton.mp hx]
        exact ⟨al, _, cl⟩⟩
      have notin : ∀ {p : Addr}, p ≠ a → p ≠ l → p ∉ [a, l] := fun h1 h2 hp => by
        rcases List.mem_cons.mp hp with z | z
        · exact h1 z
        · exact h2 (List.mem_singleton.mp z)
      have hs : ∀ {q : Addr} {xs : List V}, SqT K H15 q xs → SqT K (hideL [a, l] H16) q xs := fun h => hideL_sqt tr16 (same_sqt s16 h)
      have bdh : Body K (hideL [a, l] H16) D vb ps pb := bd15.imp fun _ _ q => hs q
      have hit := bdh.dps z1
      have hgd : Dq K (hideL [a, l] H16) (.ref pg) (dbD (rnm D z1)) := bdh.dq (hs hpg)
      have hds : DqAll K (hideL [a, l] H16) [.ref pg, .ref po, .ref q1, .ref q2, .ref q4, .non, .ref q5, .int 0, .bl true, .str "a", .ref k0, .str z1, .ref q6] [dbD (rnm D z1), dbD (rnm D z2), .list (itD D z1), .tuple ((itD D z1).take 4), .tuple (itD D z1 ++ [.int 0]), .none, .tuple [], .int 0, .bool true, .str "a", .dict [], .str z1, .tuple [dbD (rnm D z1)]] :=
        .cons hgd (.cons (bdh.dq (hs hpo)) (.cons (.lst (SqL.of (hideL_at (notin q1a q1l) (s16 _ _ c1))) hit) (.cons (.tup (hs c2) (dqall_take hit)) (.cons (.tup (hs c4) (dqall_app (.cons (.int 0) .nil) hit)) (.cons .non (.cons (.tup (hs (SqT.of c5)) .nil) (.cons (.int _) (.cons (.bl _) (.cons (.str _) (.cons (.dic (hideL_at (notin k0a k0l) (s16 _ _ ck))) (.cons (.str _) (.cons (.tup (hs (SqT.of c6)) (.cons hgd .nil)) .nil))))))))))))
      have tmi : Tms 10000 7600 19 (itD D z1) := tmg.items
      have hts : ∀ d ∈ ([dbD (rnm D z1), dbD (rnm D z2), .list (itD D z1), .tuple ((itD D z1).take 4), .tuple (itD D z1 ++ [.int 0]), .none, .tuple [], .int 0, .bool true, .str "a", .dict [], .str z1, .tuple [dbD (rnm D z1)]] : List PyData), Tm 10002 70400 30 d := by
        have up : ∀ {B W D : Nat} {d : PyData}, Tm B W D d → B ≤ 10002 → W ≤ 70400 → D ≤ 30 → Tm 10002 70400 30 d := fun h h1 h2 h3 => h.mono h1 h2 h3
        intro d hd
        simp only [List.mem_cons, List.not_mem_nil, or_false] at hd
        rcases hd with rfl | rfl | rfl | rfl | rfl | rfl | rfl | rfl | rfl | rfl | rfl | rfl | rfl
        · exact up tmg (by decide) (by decide) (by decide)
        · exact up tmo (by decide) (by decide) (by decide)
        · exact up tmi.lst (by decide) (by decide) (by decide)
        · obtain ⟨W1, W2, w1, w2, w3⟩ := tmi.split 4
          exact up w1.tup (by decide) (by omega) (by decide)
        · exact up (Tms.app (Tms.cons ((Tm.int (B := 10000) (i := 0) (by decide) (by decide)).mono (D' := 19) (Nat.le_refl _) (Nat.le_refl _) (Nat.zero_le _)) (.nil (W := 0))) tmi).tup (by decide) (by decide) (by decide)
        · exact up (Tm.non (B := 0)) (by decide) (by decide) (by decide)
        · exact up (Tms.nil (B := 0) (W := 0) (D := 0)).tup (by decide) (by decide) (by decide)
        · exact up (Tm.int (B := 10000) (i := 0) (by decide) (by decide)) (by decide) (by decide) (by decide)
        · exact up (Tm.bl (B := 0) true) (by decide) (by decide) (by decide)
        · exact up (Tm.str (B := 0) (x := "a") (by decide) (by decide)) (by decide) (by decide) (by decide)
        · exact up (Tm.dic (B := 0)) (by decide) (by decide) (by decide)
        · exact up (Tm.str (B := 0) (x := z1) hz1c hz1s) (by decide) (by decide) (by decide)
        · exact up (Tms.cons tmg (.nil (W := 0))).tup (by decide) (by decide) (by decide)
      have hpg16 := same_sqt s16 hpg
      have bd16 := bd15.same s16
      clear hs bdh hit hgd tmi tmo notin c1 c2 c4 c5 ck c6 hpg hpo bd15 hh15 b15 s16 nl q1a q1l k0a k0l
      generalize ([.ref pg, .ref po, .ref q1, .ref q2, .ref q4, .non, .ref q5, .int 0, .bl true, .str "a", .ref k0, .str z1, .ref q6] : List V) = vs0 at cl hds ⊢
      obtain ⟨ds0, hds, hts, hl0⟩ : ∃ ds, DqAll K (hideL [a, l] H16) vs0 ds ∧ (∀ d ∈ ds, Tm 10002 70400 30 d) ∧ ds.length = 13 := ⟨_, hds, hts, rfl⟩
      refine ⟨_, rfl, by decide, by decide, ?_⟩
      refine for_range (n := 20) (fun j σ H' => ∃ z7 z8 vs ds, σ = [some (.ref sc), some (.int (0 + (i : Int))), some (.ref a), some (.int (2 + r)), some (.ref pg), some (.ref po), some (.ref l), z7, z8, y9, y10, y11, y12, y13] ∧ But a H1 H' ∧ Tr a [l] (2000 + 200 * j) H' ∧ H' l = some (.lst vs) ∧ DqAll K (hideL [a, l] H') vs ds ∧ (∀ d ∈ ds, Tm 10002 70400 30 d) ∧ ds.length = 13 + j ∧ SqT K H' pg (itV D z1 vb ps pb) ∧ Body K H' D vb ps pb) ⟨_, _, vs0, ds0, rfl, b16, tr16, cl, hds, hts, hl0, hpg16, bd16⟩ ?_ ?_
      · rintro j σ H8 hj ⟨z7, z8, vs, ds, rfl, b8, t8, cl8, hd8, ht8, hl8, hg8, bd8⟩
        have hj20 : j < 20 := hj
        have hdg : Dq K (hideL [a, l] H8) (.ref pg) (dbD (rnm D z1)) := (bd8.imp fun _ _ q => hideL_sqt t8 q).dq (hideL_sqt t8 hg8)
        refine ⟨.ref a, rfl, .ref pg, rfl, a, .ref pg, dbD (rnm D z1), 9, 10000, 7600, 20, 2000 + 200 * j, [l], rfl, by decide, hdg, tmg, by decide, by decide, Nat.le_trans tmg.wt (by decide), t8, by omega, fun H9 u1 d1 b9 hh9 hd9 ht9 => ?_⟩
        have t9 := t8.but b9 hh9
        have cl9 := b9 _ _ al cl8
        have hs9 := dqall_same (hideL_but b9) hd8
        have hg9 : SqT K H9 pg (itV D z1 vb ps pb) := b9.sq t8.hand hg8
        have bd9 : Body K H9 D vb ps pb := bd8.imp fun _ _ q => b9.sq t8.hand q
        refine ⟨.ref l, rfl, .inl ⟨rfl, _, SqL.of cl9⟩, fun v2 H' => ∃ d2, But a H9 H' ∧ HandAt H' a (2200 + 200 * j) ∧ Dq K (hideL [a, l] H') v2 d2 ∧ Tm 10002 70400 30 d2, ?_, ?_⟩
        · refine ⟨.ref a, rfl, a, 3, _, rfl, by decide, by decide, hh9, by omega, fun H10 r b10 hh10 r0 r1 => ?_⟩
          have gD9 : Dq K (hideL [a, l] H10) u1 d1 := dq_same (hideL_but b10) hd9
          by_cases c : r = 0
          · subst c
            refine ⟨rfl, _, rfl, iteTT rfl ?_⟩
            refine ⟨.ref a, rfl, u1, rfl, a, u1, d1, 9, 10001, 23300, 23, _, [l], rfl, by decide, gD9, ht9, by decide, by decide, Nat.le_trans ht9.wt (by decide), t9.but b10 hh10, by omega, fun H11 u2 d2 b11 hh11 hd11 ht11 => ?_⟩
            exact ⟨d2, b10.trans b11, hh11.le (by omega), hd11, ht11.mono (by decide) (by decide) (by decide)⟩
          · refine ⟨rfl, _, rfl, iteFF (decide_eq_false fun e => c (V.int.inj e)) ?_⟩
            exact ⟨u1, rfl, d1, b10, hh10.le (by omega), gD9, ht9.mono (by decide) (by decide) (by decide)⟩
        · rintro v2 H10 ⟨d2, b10, hh10, hd10, ht10⟩
          have t10 := t9.but b10 hh10
          have cl10 := b10 _ _ al cl9
          have hs10 := dqall_same (hideL_but b10) hs9
          have hg10 : SqT K H10 pg (itV D z1 vb ps pb) := b10.sq t9.hand hg9
          have bd10 : Body K H10 D vb ps pb := bd9.imp fun _ _ q => b10.sq t9.hand q
          refine ⟨l, vs, v2, rfl, rfl, cl10, small1000 (by rw [dqall_len hs10]; omega), ?_⟩
          refine ⟨_, _, _, ds ++ [d2], rfl, fun b o nb eb => ?_, ⟨(t10.hand.put al).le (by omega), fun x hx => ?_⟩, upd_same, dqall_app (.cons (dq_same (hideL_put (List.mem_cons_of_mem _ List.mem_cons_self)) hd10) .nil) (dqall_same (hideL_put (List.mem_cons_of_mem _ List.mem_cons_self)) hs10), fun d hd => ?_, by rw [List.length_append, hl8]; rfl, put_sqt cl10 hg10, bd10.imp fun _ _ q => put_sqt cl10 q⟩
          · rw [upd_ne (ne_of_none eb hnl)]
            exact b10 _ _ nb (b9 _ _ nb (b8 _ _ nb eb))
          · rw [List.mem_singleton.mp hx]
            exact ⟨al, _, upd_same⟩
          · rcases List.mem_append.mp hd with hd | hd
            · exact ht8 d hd
            · rw [List.mem_singleton.mp hd]
              exact ht10
      · rintro σ H8 ⟨z7, z8, vs, ds, rfl, b8, t8, cl8, hd8, ht8, hl8, hg8, bd8⟩
        have hd8 := dqall_same hideL_same hd8
        have hdg : Dq K H8 (.ref pg) (dbD (rnm D z1)) := bd8.dq hg8
        refine ⟨.ref pg, rfl, .int (2 + r), rfl, .ref pg, many, dbD (rnm D z1), (by show [V.ref pg, V.int (2 + r)] = _; rw [hm]), hm3, hdg, dn_of tmg (by decide), fun H9 s9 => ?_⟩
        rw [fit1]
        have cl9 := s9 _ _ cl8
        have hd9 := dqall_same s9 hd8
        refine ⟨true, true, rfl, rfl, _, rfl, iteFF rfl ⟨.ref l, rfl, l, rfl, ⟨_, SqL.of cl9⟩, ?_⟩⟩
        refine for_list (K := K) (xs := vs) (fun m σ H' => ∃ y9 y10 y11 y12 y13, σ = [some (.ref sc), some (.int (0 + (i : Int))), some (.ref a), some (.int (2 + r)), some (.ref pg), some (.ref po), some (.ref l), z7, z8, y9, y10, y11, y12, y13] ∧ Same H9 H') ⟨_, _, _, _, _, rfl, Same.refl _⟩ (fun m σ H' _ h => by obtain ⟨_, _, _, _, _, _, s⟩ := h; exact SqL.of (s _ _ cl9)) ?_ ?_
        · rintro m x σ Hm hx ⟨x9, x10, x11, x12, x13, rfl, sm⟩
          obtain ⟨dd, hdd, hdp⟩ := dqall_get hd9 hx
          have htd := ht8 dd (List.mem_of_getElem? hdd)
          have hsd := htd.shh (by decide)
          have hdn := dn_of htd (by decide)
          have hdm := dq_same sm hdp
          refine ⟨x, rfl, x, dd, rfl, hdm, hsd.sh, Nat.le_trans hsd.dp (by decide), hsd.fits (by decide), ?_⟩
          refine ⟨.int (2 + r), rfl, .int (2 + r), rfl, _, _, rfl, rfl, (by show 2 ≤ sizeLine; decide), fun tt nt => ?_⟩
          have htt : (upd Hm tt (.tup [.int (2 + r), .int (5 - (2 + r))])) tt = some (.tup [.int (2 + r), .int (5 - (2 + r))]) := upd_same
          have s1 : Same Hm (upd Hm tt (.tup [.int (2 + r), .int (5 - (2 + r))])) := same_new nt
          generalize upd Hm tt (.tup [.int (2 + r), .int (5 - (2 + r))]) = Ha at htt s1 ⊢
          have hda := dq_same s1 hdm
          refine ⟨tt, rfl, ⟨_, SqT.of htt⟩, ?_⟩
          refine for_tup (K := K) (xs := [.int (2 + r), .int (5 - (2 + r))]) (fun m' σ H' => ∃ y11 y12 y13, σ = [some (.ref sc), some (.int (0 + (i : Int))), some (.ref a), some (.int (2 + r)), some (.ref pg), some (.ref po), some (.ref l), z7, z8, some x, some (.str dd.shown), y11, y12, y13] ∧ Same Ha H') ⟨_, _, _, rfl, Same.refl _⟩ (fun m' σ H' _ h => by obtain ⟨_, _, _, _, s⟩ := h; exact SqT.of (s _ _ htt)) ?_ ?_
          · rintro m' y σ Hb hy ⟨y11, y12, y13, rfl, s2⟩
            obtain ⟨mn, hmn, rfl⟩ : ∃ mn : Nat, mn ≤ 3 ∧ y = .int (mn : Int) := by
              have := List.mem_of_getElem? hy
              simp only [List.mem_cons, List.not_mem_nil, or_false] at this
              rcases this with rfl | rfl
              · exact ⟨many, hm3, by rw [hm]⟩
              · exact ⟨5 - many, by omega, by rw [hm, show ((5 - many : Nat) : Int) = 5 - (many : Int) by omega]⟩
            have hdb := dq_same s2 hda
            refine ⟨x, rfl, .int (mn : Int), rfl, x, mn, dd, rfl, hmn, hdb, hdn, fun Hc s3 => ?_⟩
            refine ⟨x, rfl, .int (mn : Int), rfl, x, mn, dd, rfl, hmn, dq_same s3 hdb, hdn, fun Hd s4 => ?_⟩
            refine ⟨.int (mn : Int), rfl, x, rfl, rfl, x, mn, dd, rfl, hmn, dq_same (s3.trans s4) hdb, hdn, fun He s5 => ⟨(by show 2 ≤ sizeLine; decide), fun l1 nl1 => ?_⟩⟩
            have s6 : Same He (upd He l1 (.lst [.bl (dbQ mn dd), .bl (dbQ mn dd)])) := same_new nl1
            have e6 : (upd He l1 (.lst [.bl (dbQ mn dd), .bl (dbQ mn dd)])) l1 = some (.lst [.bl (dbQ mn dd), .bl (dbQ mn dd)]) := upd_same
            generalize upd He l1 (.lst [.bl (dbQ mn dd), .bl (dbQ mn dd)]) = Hf at s6 e6 ⊢
            have sz : (PyData.shown (.list [.bool (dbQ mn dd), .bool (dbQ mn dd)])).length ≤ sizeLine := (ShhAll.lst (ShhAll.cons (Shh.bl (dbQ mn dd)) (ShhAll.cons (Shh.bl (dbQ mn dd)) (ShhAll.nil (k := 0)) (Nat.le_refl _) (Nat.le_refl _)) (Nat.le_refl _) (Nat.le_refl _))).fits (by decide)
            refine ⟨.ref l1, rfl, .ref l1, _, rfl, .lst (SqL.of e6) (.cons (.bl _) (.cons (.bl _) .nil)), rfl, (by show 1 ≤ 60; decide), sz, ?_⟩
            refine ⟨_, rfl, _, rfl, (by show 2 ≤ sizeLine; decide), fun l3 nl3 => ?_⟩
            refine ⟨.ref l3, _, rfl, .lst (SqL.of upd_same) (.cons (.bl _) (.cons (.bl _) .nil)), rfl, (by show 1 ≤ 60; decide), sz, ?_⟩
            refine ⟨rfl, _, rfl, iteFF (by simp) ?_⟩
            exact ⟨_, _, _, rfl, ((((s2.trans s3).trans s4).trans s5).trans s6).trans (same_new nl3)⟩
          · rintro σ Hb ⟨y11, y12, y13, rfl, s2⟩
            refine ⟨x, rfl, x, dd, rfl, dq_same s2 hda, hsd.sh, Nat.le_trans hsd.dp (by decide), hsd.fits (by decide), .str dd.shown, rfl, rfl, _, rfl, iteFF (by simp) ?_⟩
            exact ⟨_, _, _, _, _, rfl, (sm.trans s1).trans s2⟩
        · rintro σ Hm ⟨x9, x10, x11, x12, x13, rfl, sm⟩
          exact ⟨_, _, _, _, _, _, _, _, _, _, _, _, _, rfl, sm1.trans (((b8.same np).trans s9).trans sm)⟩
    · rintro σ H1 ⟨y1, y2, y3, y4, y5, y6, y7, y8, y9, y10, y11, y12, y13, rfl, sm1⟩
      exact q _
end
end NG

namespace NG
open PySem PySem.Spec PyProof.Rows L2
theorem all_mk {l : PySem.W.OpenLaw} {w : World} {K : PySem.W.Frag} {h : Heap} {mg : Str → Option Value} {fa f_is_number f_is_within f_fits f_first_word f_fits_shape f_has_shape f_is_registers f_parts f_count_parts f_is_expression f_join_spans f_span f_is_name f_power f_count_deed f_count_deeds f_is_stake f_are_stakes f_are_behinds f_is_doubter f_L_hand f_L_take f_L_of f_L_figure f_L_registers f_L_leaf f_L_expression f_L_stake f_L_deeds f_L_doubter f_L_whole f_L_heads f_L_count f_L_span f_L_deeds_in f_L_is_stake f_L_is_doubter f_L_name f_L_odd f_L_bent f_law : Addr} (X : K.In h) (G : h.Ns mainGlobals mg) (hfa : mg "law" = some (.ref fa))
    {od_is_number an_is_number od_is_within an_is_within od_fits an_fits od_first_word an_first_word od_fits_shape an_fits_shape od_has_shape an_has_shape od_is_registers an_is_registers od_parts an_parts od_count_parts an_count_parts od_is_expression an_is_expression od_join_spans an_join_spans od_span an_span od_is_name an_is_name od_power an_power od_count_deed an_count_deed od_count_deeds an_count_deeds od_is_stake an_is_stake od_are_stakes an_are_stakes od_are_behinds an_are_behinds od_is_doubter an_is_doubter od_L_hand an_L_hand od_L_take an_L_take od_L_of an_L_of od_L_figure an_L_figure od_L_registers an_L_registers od_L_leaf an_L_leaf od_L_expression an_L_expression od_L_stake an_L_stake od_L_deeds an_L_deeds od_L_doubter an_L_doubter od_L_whole an_L_whole od_L_heads an_L_heads od_L_count an_L_count od_L_span an_L_span od_L_deeds_in an_L_deeds_in od_L_is_stake an_L_is_stake od_L_is_doubter an_L_is_doubter od_L_name an_L_name od_L_odd an_L_odd od_L_bent an_L_bent od_law an_law : Option Addr} {sl_is_number sl_is_within sl_fits sl_first_word sl_fits_shape sl_has_shape sl_is_registers sl_parts sl_count_parts sl_is_expression sl_join_spans sl_span sl_is_name sl_power sl_count_deed sl_count_deeds sl_is_stake sl_are_stakes sl_are_behinds sl_is_doubter sl_L_hand sl_L_take sl_L_of sl_L_figure sl_L_registers sl_L_leaf sl_L_expression sl_L_stake sl_L_deeds sl_L_doubter sl_L_whole sl_L_heads sl_L_count sl_L_span sl_L_deeds_in sl_L_is_stake sl_L_is_doubter sl_L_name sl_L_odd sl_L_bent sl_law : Array (Option Value)} {oc_is_number kV_is_number dc_is_number pm_is_number cd_is_number ct_is_number oc_is_within kV_is_within dc_is_within pm_is_within cd_is_within ct_is_within oc_fits kV_fits dc_fits pm_fits cd_fits ct_fits oc_first_word kV_first_word dc_first_word pm_first_word cd_first_word ct_first_word oc_fits_shape kV_fits_shape dc_fits_shape pm_fits_shape cd_fits_shape ct_fits_shape oc_has_shape kV_has_shape dc_has_shape pm_has_shape cd_has_shape ct_has_shape oc_is_registers kV_is_registers dc_is_registers pm_is_registers cd_is_registers ct_is_registers oc_parts kV_parts dc_parts pm_parts cd_parts ct_parts oc_count_parts kV_count_parts dc_count_parts pm_count_parts cd_count_parts ct_count_parts oc_is_expression kV_is_expression dc_is_expression pm_is_expression cd_is_expression ct_is_expression oc_join_spans kV_join_spans dc_join_spans pm_join_spans cd_join_spans ct_join_spans oc_span kV_span dc_span pm_span cd_span ct_span oc_is_name kV_is_name dc_is_name pm_is_name cd_is_name ct_is_name oc_power kV_power dc_power pm_power cd_power ct_power oc_count_deed kV_count_deed dc_count_deed pm_count_deed cd_count_deed ct_count_deed oc_count_deeds kV_count_deeds dc_count_deeds pm_count_deeds cd_count_deeds ct_count_deeds oc_is_stake kV_is_stake dc_is_stake pm_is_stake cd_is_stake ct_is_stake oc_are_stakes kV_are_stakes dc_are_stakes pm_are_stakes cd_are_stakes ct_are_stakes oc_are_behinds kV_are_behinds dc_are_behinds pm_are_behinds cd_are_behinds ct_are_behinds oc_is_doubter kV_is_doubter dc_is_doubter pm_is_doubter cd_is_doubter ct_is_doubter oc_L_hand kV_L_hand dc_L_hand pm_L_hand cd_L_hand ct_L_hand oc_L_take kV_L_take dc_L_take pm_L_take cd_L_take ct_L_take oc_L_of kV_L_of dc_L_of pm_L_of cd_L_of ct_L_of oc_L_figure kV_L_figure dc_L_figure pm_L_figure cd_L_figure ct_L_figure oc_L_registers kV_L_registers dc_L_registers pm_L_registers cd_L_registers ct_L_registers oc_L_leaf kV_L_leaf dc_L_leaf pm_L_leaf cd_L_leaf ct_L_leaf oc_L_expression kV_L_expression dc_L_expression pm_L_expression cd_L_expression ct_L_expression oc_L_stake kV_L_stake dc_L_stake pm_L_stake cd_L_stake ct_L_stake oc_L_deeds kV_L_deeds dc_L_deeds pm_L_deeds cd_L_deeds ct_L_deeds oc_L_doubter kV_L_doubter dc_L_doubter pm_L_doubter cd_L_doubter ct_L_doubter oc_L_whole kV_L_whole dc_L_whole pm_L_whole cd_L_whole ct_L_whole oc_L_heads kV_L_heads dc_L_heads pm_L_heads cd_L_heads ct_L_heads oc_L_count kV_L_count dc_L_count pm_L_count cd_L_count ct_L_count oc_L_span kV_L_span dc_L_span pm_L_span cd_L_span ct_L_span oc_L_deeds_in kV_L_deeds_in dc_L_deeds_in pm_L_deeds_in cd_L_deeds_in ct_L_deeds_in oc_L_is_stake kV_L_is_stake dc_L_is_stake pm_L_is_stake cd_L_is_stake ct_L_is_stake oc_L_is_doubter kV_L_is_doubter dc_L_is_doubter pm_L_is_doubter cd_L_is_doubter ct_L_is_doubter oc_L_name kV_L_name dc_L_name pm_L_name cd_L_name ct_L_name oc_L_odd kV_L_odd dc_L_odd pm_L_odd cd_L_odd ct_L_odd oc_L_bent kV_L_bent dc_L_bent pm_L_bent cd_L_bent ct_L_bent oc_law kV_law dc_law pm_law cd_law ct_law : Value}
    (a_is_number : PySem.W.nsIn K mainGlobals "is_number" = some (some (.ref f_is_number))) (l_is_number : K.lookup f_is_number = some ⟨oc_is_number, od_is_number, .func (PySem.W.fnOf "is_number" "is_number" (defArgs s_is_number) (defBody s_is_number) (defScope s_is_number) .none kV_is_number dc_is_number pm_is_number an_is_number cd_is_number ct_is_number), sl_is_number⟩) (c_is_number : PySem.W.codeIn K cd_is_number "is_number" = true) (k_is_number : PySem.W.keepIn K (.ref f_is_number) = true)
    (a_is_within : PySem.W.nsIn K mainGlobals "is_within" = some (some (.ref f_is_within))) (l_is_within : K.lookup f_is_within = some ⟨oc_is_within, od_is_within, .func (PySem.W.fnOf "is_within" "is_within" (defArgs s_is_within) (defBody s_is_within) (defScope s_is_within) .none kV_is_within dc_is_within pm_is_within an_is_within cd_is_within ct_is_within), sl_is_within⟩) (c_is_within : PySem.W.codeIn K cd_is_within "is_within" = true) (k_is_within : PySem.W.keepIn K (.ref f_is_within) = true)
    (a_fits : PySem.W.nsIn K mainGlobals "fits" = some (some (.ref f_fits))) (l_fits : K.lookup f_fits = some ⟨oc_fits, od_fits, .func (PySem.W.fnOf "fits" "fits" (defArgs s_fits) (defBody s_fits) (defScope s_fits) .none kV_fits dc_fits pm_fits an_fits cd_fits ct_fits), sl_fits⟩) (c_fits : PySem.W.codeIn K cd_fits "fits" = true) (k_fits : PySem.W.keepIn K (.ref f_fits) = true)
    (a_first_word : PySem.W.nsIn K mainGlobals "first_word" = some (some (.ref f_first_word))) (l_first_word : K.lookup f_first_word = some ⟨oc_first_word, od_first_word, .func (PySem.W.fnOf "first_word" "first_word" (defArgs s_first_word) (defBody s_first_word) (defScope s_first_word) .none kV_first_word dc_first_word pm_first_word an_first_word cd_first_word ct_first_word), sl_first_word⟩) (c_first_word : PySem.W.codeIn K cd_first_word "first_word" = true) (k_first_word : PySem.W.keepIn K (.ref f_first_word) = true)
    (a_fits_shape : PySem.W.nsIn K mainGlobals "fits_shape" = some (some (.ref f_fits_shape))) (l_fits_shape : K.lookup f_fits_shape = some ⟨oc_fits_shape, od_fits_shape, .func (PySem.W.fnOf "fits_shape" "fits_shape" (defArgs s_fits_shape) (defBody s_fits_shape) (defScope s_fits_shape) .none kV_fits_shape dc_fits_shape pm_fits_shape an_fits_shape cd_fits_shape ct_fits_shape), sl_fits_shape⟩) (c_fits_shape : PySem.W.codeIn K cd_fits_shape "fits_shape" = true) (k_fits_shape : PySem.W.keepIn K (.ref f_fits_shape) = true)
    (a_has_shape : PySem.W.nsIn K mainGlobals "has_shape" = some (some (.ref f_has_shape))) (l_has_shape : K.lookup f_has_shape = some ⟨oc_has_shape, od_has_shape, .func (PySem.W.fnOf "has_shape" "has_shape" (defArgs s_has_shape) (defBody s_has_shape) (defScope s_has_shape) .none kV_has_shape dc_has_shape pm_has_shape an_has_shape cd_has_shape ct_has_shape), sl_has_shape⟩) (c_has_shape : PySem.W.codeIn K cd_has_shape "has_shape" = true) (k_has_shape : PySem.W.keepIn K (.ref f_has_shape) = true)
    (a_is_registers : PySem.W.nsIn K mainGlobals "is_registers" = some (some (.ref f_is_registers))) (l_is_registers : K.lookup f_is_registers = some ⟨oc_is_registers, od_is_registers, .func (PySem.W.fnOf "is_registers" "is_registers" (defArgs s_is_registers) (defBody s_is_registers) (defScope s_is_registers) .none kV_is_registers dc_is_registers pm_is_registers an_is_registers cd_is_registers ct_is_registers), sl_is_registers⟩) (c_is_registers : PySem.W.codeIn K cd_is_registers "is_registers" = true) (k_is_registers : PySem.W.keepIn K (.ref f_is_registers) = true)
    (a_parts : PySem.W.nsIn K mainGlobals "parts" = some (some (.ref f_parts))) (l_parts : K.lookup f_parts = some ⟨oc_parts, od_parts, .func (PySem.W.fnOf "parts" "parts" (defArgs s_parts) (defBody s_parts) (defScope s_parts) .none kV_parts dc_parts pm_parts an_parts cd_parts ct_parts), sl_parts⟩) (c_parts : PySem.W.codeIn K cd_parts "parts" = true) (k_parts : PySem.W.keepIn K (.ref f_parts) = true)
    (a_count_parts : PySem.W.nsIn K mainGlobals "count_parts" = some (some (.ref f_count_parts))) (l_count_parts : K.lookup f_count_parts = some ⟨oc_count_parts, od_count_parts, .func (PySem.W.fnOf "count_parts" "count_parts" (defArgs s_count_parts) (defBody s_count_parts) (defScope s_count_parts) .none kV_count_parts dc_count_parts pm_count_parts an_count_parts cd_count_parts ct_count_parts), sl_count_parts⟩) (c_count_parts : PySem.W.codeIn K cd_count_parts "count_parts" = true) (k_count_parts : PySem.W.keepIn K (.ref f_count_parts) = true)
    (a_is_expression : PySem.W.nsIn K mainGlobals "is_expression" = some (some (.ref f_is_expression))) (l_is_expression : K.lookup f_is_expression = some ⟨oc_is_expression, od_is_expression, .func (PySem.W.fnOf "is_expression" "is_expression" (defArgs s_is_expression) (defBody s_is_expression) (defScope s_is_expression) .none kV_is_expression dc_is_expression pm_is_expression an_is_expression cd_is_expression ct_is_expression), sl_is_expression⟩) (c_is_expression : PySem.W.codeIn K cd_is_expression "is_expression" = true) (k_is_expression : PySem.W.keepIn K (.ref f_is_expression) = true)
    (a_join_spans : PySem.W.nsIn K mainGlobals "join_spans" = some (some (.ref f_join_spans))) (l_join_spans : K.lookup f_join_spans = some ⟨oc_join_spans, od_join_spans, .func (PySem.W.fnOf "join_spans" "join_spans" (defArgs s_join_spans) (defBody s_join_spans) (defScope s_join_spans) .none kV_join_spans dc_join_spans pm_join_spans an_join_spans cd_join_spans ct_join_spans), sl_join_spans⟩) (c_join_spans : PySem.W.codeIn K cd_join_spans "join_spans" = true) (k_join_spans : PySem.W.keepIn K (.ref f_join_spans) = true)
    (a_span : PySem.W.nsIn K mainGlobals "span" = some (some (.ref f_span))) (l_span : K.lookup f_span = some ⟨oc_span, od_span, .func (PySem.W.fnOf "span" "span" (defArgs s_span) (defBody s_span) (defScope s_span) .none kV_span dc_span pm_span an_span cd_span ct_span), sl_span⟩) (c_span : PySem.W.codeIn K cd_span "span" = true) (k_span : PySem.W.keepIn K (.ref f_span) = true)
    (a_is_name : PySem.W.nsIn K mainGlobals "is_name" = some (some (.ref f_is_name))) (l_is_name : K.lookup f_is_name = some ⟨oc_is_name, od_is_name, .func (PySem.W.fnOf "is_name" "is_name" (defArgs s_is_name) (defBody s_is_name) (defScope s_is_name) .none kV_is_name dc_is_name pm_is_name an_is_name cd_is_name ct_is_name), sl_is_name⟩) (c_is_name : PySem.W.codeIn K cd_is_name "is_name" = true) (k_is_name : PySem.W.keepIn K (.ref f_is_name) = true)
    (a_power : PySem.W.nsIn K mainGlobals "power" = some (some (.ref f_power))) (l_power : K.lookup f_power = some ⟨oc_power, od_power, .func (PySem.W.fnOf "power" "power" (defArgs s_power) (defBody s_power) (defScope s_power) .none kV_power dc_power pm_power an_power cd_power ct_power), sl_power⟩) (c_power : PySem.W.codeIn K cd_power "power" = true) (k_power : PySem.W.keepIn K (.ref f_power) = true)
    (a_count_deed : PySem.W.nsIn K mainGlobals "count_deed" = some (some (.ref f_count_deed))) (l_count_deed : K.lookup f_count_deed = some ⟨oc_count_deed, od_count_deed, .func (PySem.W.fnOf "count_deed" "count_deed" (defArgs s_count_deed) (defBody s_count_deed) (defScope s_count_deed) .none kV_count_deed dc_count_deed pm_count_deed an_count_deed cd_count_deed ct_count_deed), sl_count_deed⟩) (c_count_deed : PySem.W.codeIn K cd_count_deed "count_deed" = true) (k_count_deed : PySem.W.keepIn K (.ref f_count_deed) = true)
    (a_count_deeds : PySem.W.nsIn K mainGlobals "count_deeds" = some (some (.ref f_count_deeds))) (l_count_deeds : K.lookup f_count_deeds = some ⟨oc_count_deeds, od_count_deeds, .func (PySem.W.fnOf "count_deeds" "count_deeds" (defArgs s_count_deeds) (defBody s_count_deeds) (defScope s_count_deeds) .none kV_count_deeds dc_count_deeds pm_count_deeds an_count_deeds cd_count_deeds ct_count_deeds), sl_count_deeds⟩) (c_count_deeds : PySem.W.codeIn K cd_count_deeds "count_deeds" = true) (k_count_deeds : PySem.W.keepIn K (.ref f_count_deeds) = true)
    (a_is_stake : PySem.W.nsIn K mainGlobals "is_stake" = some (some (.ref f_is_stake))) (l_is_stake : K.lookup f_is_stake = some ⟨oc_is_stake, od_is_stake, .func (PySem.W.fnOf "is_stake" "is_stake" (defArgs s_is_stake) (defBody s_is_stake) (defScope s_is_stake) .none kV_is_stake dc_is_stake pm_is_stake an_is_stake cd_is_stake ct_is_stake), sl_is_stake⟩) (c_is_stake : PySem.W.codeIn K cd_is_stake "is_stake" = true) (k_is_stake : PySem.W.keepIn K (.ref f_is_stake) = true)
    (a_are_stakes : PySem.W.nsIn K mainGlobals "are_stakes" = some (some (.ref f_are_stakes))) (l_are_stakes : K.lookup f_are_stakes = some ⟨oc_are_stakes, od_are_stakes, .func (PySem.W.fnOf "are_stakes" "are_stakes" (defArgs s_are_stakes) (defBody s_are_stakes) (defScope s_are_stakes) .none kV_are_stakes dc_are_stakes pm_are_stakes an_are_stakes cd_are_stakes ct_are_stakes), sl_are_stakes⟩) (c_are_stakes : PySem.W.codeIn K cd_are_stakes "are_stakes" = true) (k_are_stakes : PySem.W.keepIn K (.ref f_are_stakes) = true)
    (a_are_behinds : PySem.W.nsIn K mainGlobals "are_behinds" = some (some (.ref f_are_behinds))) (l_are_behinds : K.lookup f_are_behinds = some ⟨oc_are_behinds, od_are_behinds, .func (PySem.W.fnOf "are_behinds" "are_behinds" (defArgs s_are_behinds) (defBody s_are_behinds) (defScope s_are_behinds) .none kV_are_behinds dc_are_behinds pm_are_behinds an_are_behinds cd_are_behinds ct_are_behinds), sl_are_behinds⟩) (c_are_behinds : PySem.W.codeIn K cd_are_behinds "are_behinds" = true) (k_are_behinds : PySem.W.keepIn K (.ref f_are_behinds) = true)
    (a_is_doubter : PySem.W.nsIn K mainGlobals "is_doubter" = some (some (.ref f_is_doubter))) (l_is_doubter : K.lookup f_is_doubter = some ⟨oc_is_doubter, od_is_doubter, .func (PySem.W.fnOf "is_doubter" "is_doubter" (defArgs s_is_doubter) (defBody s_is_doubter) (defScope s_is_doubter) .none kV_is_doubter dc_is_doubter pm_is_doubter an_is_doubter cd_is_doubter ct_is_doubter), sl_is_doubter⟩) (c_is_doubter : PySem.W.codeIn K cd_is_doubter "is_doubter" = true) (k_is_doubter : PySem.W.keepIn K (.ref f_is_doubter) = true)
    (a_L_hand : PySem.W.nsIn K mainGlobals "_law_hand" = some (some (.ref f_L_hand))) (l_L_hand : K.lookup f_L_hand = some ⟨oc_L_hand, od_L_hand, .func (PySem.W.fnOf "_law_hand" "_law_hand" (defArgs s_L_hand) (defBody s_L_hand) (defScope s_L_hand) .none kV_L_hand dc_L_hand pm_L_hand an_L_hand cd_L_hand ct_L_hand), sl_L_hand⟩) (c_L_hand : PySem.W.codeIn K cd_L_hand "_law_hand" = true) (k_L_hand : PySem.W.keepIn K (.ref f_L_hand) = true)
    (a_L_take : PySem.W.nsIn K mainGlobals "_law_take" = some (some (.ref f_L_take))) (l_L_take : K.lookup f_L_take = some ⟨oc_L_take, od_L_take, .func (PySem.W.fnOf "_law_take" "_law_take" (defArgs s_L_take) (defBody s_L_take) (defScope s_L_take) .none kV_L_take dc_L_take pm_L_take an_L_take cd_L_take ct_L_take), sl_L_take⟩) (c_L_take : PySem.W.codeIn K cd_L_take "_law_take" = true) (k_L_take : PySem.W.keepIn K (.ref f_L_take) = true)
    (a_L_of : PySem.W.nsIn K mainGlobals "_law_of" = some (some (.ref f_L_of))) (l_L_of : K.lookup f_L_of = some ⟨oc_L_of, od_L_of, .func (PySem.W.fnOf "_law_of" "_law_of" (defArgs s_L_of) (defBody s_L_of) (defScope s_L_of) .none kV_L_of dc_L_of pm_L_of an_L_of cd_L_of ct_L_of), sl_L_of⟩) (c_L_of : PySem.W.codeIn K cd_L_of "_law_of" = true) (k_L_of : PySem.W.keepIn K (.ref f_L_of) = true)
    (a_L_figure : PySem.W.nsIn K mainGlobals "_law_figure" = some (some (.ref f_L_figure))) (l_L_figure : K.lookup f_L_figure = some ⟨oc_L_figure, od_L_figure, .func (PySem.W.fnOf "_law_figure" "_law_figure" (defArgs s_L_figure) (defBody s_L_figure) (defScope s_L_figure) .none kV_L_figure dc_L_figure pm_L_figure an_L_figure cd_L_figure ct_L_figure), sl_L_figure⟩) (c_L_figure : PySem.W.codeIn K cd_L_figure "_law_figure" = true) (k_L_figure : PySem.W.keepIn K (.ref f_L_figure) = true)
    (a_L_registers : PySem.W.nsIn K mainGlobals "_law_registers" = some (some (.ref f_L_registers))) (l_L_registers : K.lookup f_L_registers = some ⟨oc_L_registers, od_L_registers, .func (PySem.W.fnOf "_law_registers" "_law_registers" (defArgs s_L_registers) (defBody s_L_registers) (defScope s_L_registers) .none kV_L_registers dc_L_registers pm_L_registers an_L_registers cd_L_registers ct_L_registers), sl_L_registers⟩) (c_L_registers : PySem.W.codeIn K cd_L_registers "_law_registers" = true) (k_L_registers : PySem.W.keepIn K (.ref f_L_registers) = true)
    (a_L_leaf : PySem.W.nsIn K mainGlobals "_law_leaf" = some (some (.ref f_L_leaf))) (l_L_leaf : K.lookup f_L_leaf = some ⟨oc_L_leaf, od_L_leaf, .func (PySem.W.fnOf "_law_leaf" "_law_leaf" (defArgs s_L_leaf) (defBody s_L_leaf) (defScope s_L_leaf) .none kV_L_leaf dc_L_leaf pm_L_leaf an_L_leaf cd_L_leaf ct_L_leaf), sl_L_leaf⟩) (c_L_leaf : PySem.W.codeIn K cd_L_leaf "_law_leaf" = true) (k_L_leaf : PySem.W.keepIn K (.ref f_L_leaf) = true)
    (a_L_expression : PySem.W.nsIn K mainGlobals "_law_expression" = some (some (.ref f_L_expression))) (l_L_expression : K.lookup f_L_expression = some ⟨oc_L_expression, od_L_expression, .func (PySem.W.fnOf "_law_expression" "_law_expression" (defArgs s_L_expression) (defBody s_L_expression) (defScope s_L_expression) .none kV_L_expression dc_L_expression pm_L_expression an_L_expression cd_L_expression ct_L_expression), sl_L_expression⟩) (c_L_expression : PySem.W.codeIn K cd_L_expression "_law_expression" = true) (k_L_expression : PySem.W.keepIn K (.ref f_L_expression) = true)
    (a_L_stake : PySem.W.nsIn K mainGlobals "_law_stake" = some (some (.ref f_L_stake))) (l_L_stake : K.lookup f_L_stake = some ⟨oc_L_stake, od_L_stake, .func (PySem.W.fnOf "_law_stake" "_law_stake" (defArgs s_L_stake) (defBody s_L_stake) (defScope s_L_stake) .none kV_L_stake dc_L_stake pm_L_stake an_L_stake cd_L_stake ct_L_stake), sl_L_stake⟩) (c_L_stake : PySem.W.codeIn K cd_L_stake "_law_stake" = true) (k_L_stake : PySem.W.keepIn K (.ref f_L_stake) = true)
    (a_L_deeds : PySem.W.nsIn K mainGlobals "_law_deeds" = some (some (.ref f_L_deeds))) (l_L_deeds : K.lookup f_L_deeds = some ⟨oc_L_deeds, od_L_deeds, .func (PySem.W.fnOf "_law_deeds" "_law_deeds" (defArgs s_L_deeds) (defBody s_L_deeds) (defScope s_L_deeds) .none kV_L_deeds dc_L_deeds pm_L_deeds an_L_deeds cd_L_deeds ct_L_deeds), sl_L_deeds⟩) (c_L_deeds : PySem.W.codeIn K cd_L_deeds "_law_deeds" = true) (k_L_deeds : PySem.W.keepIn K (.ref f_L_deeds) = true)
    (a_L_doubter : PySem.W.nsIn K mainGlobals "_law_doubter" = some (some (.ref f_L_doubter))) (l_L_doubter : K.lookup f_L_doubter = some ⟨oc_L_doubter, od_L_doubter, .func (PySem.W.fnOf "_law_doubter" "_law_doubter" (defArgs s_L_doubter) (defBody s_L_doubter) (defScope s_L_doubter) .none kV_L_doubter dc_L_doubter pm_L_doubter an_L_doubter cd_L_doubter ct_L_doubter), sl_L_doubter⟩) (c_L_doubter : PySem.W.codeIn K cd_L_doubter "_law_doubter" = true) (k_L_doubter : PySem.W.keepIn K (.ref f_L_doubter) = true)
    (a_L_whole : PySem.W.nsIn K mainGlobals "_law_whole" = some (some (.ref f_L_whole))) (l_L_whole : K.lookup f_L_whole = some ⟨oc_L_whole, od_L_whole, .func (PySem.W.fnOf "_law_whole" "_law_whole" (defArgs s_L_whole) (defBody s_L_whole) (defScope s_L_whole) .none kV_L_whole dc_L_whole pm_L_whole an_L_whole cd_L_whole ct_L_whole), sl_L_whole⟩) (c_L_whole : PySem.W.codeIn K cd_L_whole "_law_whole" = true) (k_L_whole : PySem.W.keepIn K (.ref f_L_whole) = true)
    (a_L_heads : PySem.W.nsIn K mainGlobals "_law_heads" = some (some (.ref f_L_heads))) (l_L_heads : K.lookup f_L_heads = some ⟨oc_L_heads, od_L_heads, .func (PySem.W.fnOf "_law_heads" "_law_heads" (defArgs s_L_heads) (defBody s_L_heads) (defScope s_L_heads) .none kV_L_heads dc_L_heads pm_L_heads an_L_heads cd_L_heads ct_L_heads), sl_L_heads⟩) (c_L_heads : PySem.W.codeIn K cd_L_heads "_law_heads" = true) (k_L_heads : PySem.W.keepIn K (.ref f_L_heads) = true)
    (a_L_count : PySem.W.nsIn K mainGlobals "_law_count" = some (some (.ref f_L_count))) (l_L_count : K.lookup f_L_count = some ⟨oc_L_count, od_L_count, .func (PySem.W.fnOf "_law_count" "_law_count" (defArgs s_L_count) (defBody s_L_count) (defScope s_L_count) .none kV_L_count dc_L_count pm_L_count an_L_count cd_L_count ct_L_count), sl_L_count⟩) (c_L_count : PySem.W.codeIn K cd_L_count "_law_count" = true) (k_L_count : PySem.W.keepIn K (.ref f_L_count) = true)
    (a_L_span : PySem.W.nsIn K mainGlobals "_law_span" = some (some (.ref f_L_span))) (l_L_span : K.lookup f_L_span = some ⟨oc_L_span, od_L_span, .func (PySem.W.fnOf "_law_span" "_law_span" (defArgs s_L_span) (defBody s_L_span) (defScope s_L_span) .none kV_L_span dc_L_span pm_L_span an_L_span cd_L_span ct_L_span), sl_L_span⟩) (c_L_span : PySem.W.codeIn K cd_L_span "_law_span" = true) (k_L_span : PySem.W.keepIn K (.ref f_L_span) = true)
    (a_L_deeds_in : PySem.W.nsIn K mainGlobals "_law_deeds_in" = some (some (.ref f_L_deeds_in))) (l_L_deeds_in : K.lookup f_L_deeds_in = some ⟨oc_L_deeds_in, od_L_deeds_in, .func (PySem.W.fnOf "_law_deeds_in" "_law_deeds_in" (defArgs s_L_deeds_in) (defBody s_L_deeds_in) (defScope s_L_deeds_in) .none kV_L_deeds_in dc_L_deeds_in pm_L_deeds_in an_L_deeds_in cd_L_deeds_in ct_L_deeds_in), sl_L_deeds_in⟩) (c_L_deeds_in : PySem.W.codeIn K cd_L_deeds_in "_law_deeds_in" = true) (k_L_deeds_in : PySem.W.keepIn K (.ref f_L_deeds_in) = true)
    (a_L_is_stake : PySem.W.nsIn K mainGlobals "_law_is_stake" = some (some (.ref f_L_is_stake))) (l_L_is_stake : K.lookup f_L_is_stake = some ⟨oc_L_is_stake, od_L_is_stake, .func (PySem.W.fnOf "_law_is_stake" "_law_is_stake" (defArgs s_L_is_stake) (defBody s_L_is_stake) (defScope s_L_is_stake) .none kV_L_is_stake dc_L_is_stake pm_L_is_stake an_L_is_stake cd_L_is_stake ct_L_is_stake), sl_L_is_stake⟩) (c_L_is_stake : PySem.W.codeIn K cd_L_is_stake "_law_is_stake" = true) (k_L_is_stake : PySem.W.keepIn K (.ref f_L_is_stake) = true)
    (a_L_is_doubter : PySem.W.nsIn K mainGlobals "_law_is_doubter" = some (some (.ref f_L_is_doubter))) (l_L_is_doubter : K.lookup f_L_is_doubter = some ⟨oc_L_is_doubter, od_L_is_doubter, .func (PySem.W.fnOf "_law_is_doubter" "_law_is_doubter" (defArgs s_L_is_doubter) (defBody s_L_is_doubter) (defScope s_L_is_doubter) .none kV_L_is_doubter dc_L_is_doubter pm_L_is_doubter an_L_is_doubter cd_L_is_doubter ct_L_is_doubter), sl_L_is_doubter⟩) (c_L_is_doubter : PySem.W.codeIn K cd_L_is_doubter "_law_is_doubter" = true) (k_L_is_doubter : PySem.W.keepIn K (.ref f_L_is_doubter) = true)
    (a_L_name : PySem.W.nsIn K mainGlobals "_law_name" = some (some (.ref f_L_name))) (l_L_name : K.lookup f_L_name = some ⟨oc_L_name, od_L_name, .func (PySem.W.fnOf "_law_name" "_law_name" (defArgs s_L_name) (defBody s_L_name) (defScope s_L_name) .none kV_L_name dc_L_name pm_L_name an_L_name cd_L_name ct_L_name), sl_L_name⟩) (c_L_name : PySem.W.codeIn K cd_L_name "_law_name" = true) (k_L_name : PySem.W.keepIn K (.ref f_L_name) = true)
    (a_L_odd : PySem.W.nsIn K mainGlobals "_law_odd" = some (some (.ref f_L_odd))) (l_L_odd : K.lookup f_L_odd = some ⟨oc_L_odd, od_L_odd, .func (PySem.W.fnOf "_law_odd" "_law_odd" (defArgs s_L_odd) (defBody s_L_odd) (defScope s_L_odd) .none kV_L_odd dc_L_odd pm_L_odd an_L_odd cd_L_odd ct_L_odd), sl_L_odd⟩) (c_L_odd : PySem.W.codeIn K cd_L_odd "_law_odd" = true) (k_L_odd : PySem.W.keepIn K (.ref f_L_odd) = true)
    (a_L_bent : PySem.W.nsIn K mainGlobals "_law_bent" = some (some (.ref f_L_bent))) (l_L_bent : K.lookup f_L_bent = some ⟨oc_L_bent, od_L_bent, .func (PySem.W.fnOf "_law_bent" "_law_bent" (defArgs s_L_bent) (defBody s_L_bent) (defScope s_L_bent) .none kV_L_bent dc_L_bent pm_L_bent an_L_bent cd_L_bent ct_L_bent), sl_L_bent⟩) (c_L_bent : PySem.W.codeIn K cd_L_bent "_law_bent" = true) (k_L_bent : PySem.W.keepIn K (.ref f_L_bent) = true)
    (a_law : PySem.W.nsIn K mainGlobals "law" = some (some (.ref f_law))) (l_law : K.lookup f_law = some ⟨oc_law, od_law, .func (PySem.W.fnOf "law" "law" (defArgs s_law) (defBody s_law) (defScope s_law) .none kV_law dc_law pm_law an_law cd_law ct_law), sl_law⟩) (c_law : PySem.W.codeIn K cd_law "law" = true) (k_law : PySem.W.keepIn K (.ref f_law) = true)
    {d_S : Addr} {es_S : Array DictEntry} {n_S : Nat} (a_S : PySem.W.nsIn K mainGlobals "SHAPES" = some (some (.ref d_S))) (l_S : K.lookup d_S = some ⟨.type "dict", none, .dict es_S n_S, #[]⟩) (k_S : PySem.W.KeysLit w.params es_S.toList)
    (w_S : (d_S == sysModules) = false)
    (x_S : ktx es_S.toList = [some ("fig" : Str), some ("reg" : Str), some ("share" : Str), some ("sum" : Str), some ("less" : Str), some ("times" : Str), some ("by" : Str), some ("least" : Str), some ("most" : Str), some ("when" : Str), some ("where" : Str)])
    {q_fig : Addr} {tod_fig : Option Addr} {its_fig : Array Value} {tm_fig : Nat} {tsl_fig : Array (Option Value)} (n_fig : PySem.W.nsIn K d_S "fig" = some (some (.ref q_fig))) (t_fig : K.lookup q_fig = some ⟨.type "tuple", tod_fig, .seq its_fig tm_fig, tsl_fig⟩) (v_fig : Vals [.str "figure"] its_fig.toList)
    {q_reg : Addr} {tod_reg : Option Addr} {its_reg : Array Value} {tm_reg : Nat} {tsl_reg : Array (Option Value)} (n_reg : PySem.W.nsIn K d_S "reg" = some (some (.ref q_reg))) (t_reg : K.lookup q_reg = some ⟨.type "tuple", tod_reg, .seq its_reg tm_reg, tsl_reg⟩) (v_reg : Vals [.str "place"] its_reg.toList)
    {q_share : Addr} {tod_share : Option Addr} {its_share : Array Value} {tm_share : Nat} {tsl_share : Array (Option Value)} (n_share : PySem.W.nsIn K d_S "share" = some (some (.ref q_share))) (t_share : K.lookup q_share = some ⟨.type "tuple", tod_share, .seq its_share tm_share, tsl_share⟩) (v_share : Vals [.str "sign"] its_share.toList)
    {q_sum : Addr} {tod_sum : Option Addr} {its_sum : Array Value} {tm_sum : Nat} {tsl_sum : Array (Option Value)} (n_sum : PySem.W.nsIn K d_S "sum" = some (some (.ref q_sum))) (t_sum : K.lookup q_sum = some ⟨.type "tuple", tod_sum, .seq its_sum tm_sum, tsl_sum⟩) (v_sum : Vals [.str "part", .str "part"] its_sum.toList)
    {q_less : Addr} {tod_less : Option Addr} {its_less : Array Value} {tm_less : Nat} {tsl_less : Array (Option Value)} (n_less : PySem.W.nsIn K d_S "less" = some (some (.ref q_less))) (t_less : K.lookup q_less = some ⟨.type "tuple", tod_less, .seq its_less tm_less, tsl_less⟩) (v_less : Vals [.str "part", .str "part"] its_less.toList)
    {q_times : Addr} {tod_times : Option Addr} {its_times : Array Value} {tm_times : Nat} {tsl_times : Array (Option Value)} (n_times : PySem.W.nsIn K d_S "times" = some (some (.ref q_times))) (t_times : K.lookup q_times = some ⟨.type "tuple", tod_times, .seq its_times tm_times, tsl_times⟩) (v_times : Vals [.str "factor", .str "part"] its_times.toList)
    {q_by : Addr} {tod_by : Option Addr} {its_by : Array Value} {tm_by : Nat} {tsl_by : Array (Option Value)} (n_by : PySem.W.nsIn K d_S "by" = some (some (.ref q_by))) (t_by : K.lookup q_by = some ⟨.type "tuple", tod_by, .seq its_by tm_by, tsl_by⟩) (v_by : Vals [.str "place", .str "part"] its_by.toList)
    {q_least : Addr} {tod_least : Option Addr} {its_least : Array Value} {tm_least : Nat} {tsl_least : Array (Option Value)} (n_least : PySem.W.nsIn K d_S "least" = some (some (.ref q_least))) (t_least : K.lookup q_least = some ⟨.type "tuple", tod_least, .seq its_least tm_least, tsl_least⟩) (v_least : Vals [.str "part", .str "part"] its_least.toList)
    {q_most : Addr} {tod_most : Option Addr} {its_most : Array Value} {tm_most : Nat} {tsl_most : Array (Option Value)} (n_most : PySem.W.nsIn K d_S "most" = some (some (.ref q_most))) (t_most : K.lookup q_most = some ⟨.type "tuple", tod_most, .seq its_most tm_most, tsl_most⟩) (v_most : Vals [.str "part", .str "part"] its_most.toList)
    {q_when : Addr} {tod_when : Option Addr} {its_when : Array Value} {tm_when : Nat} {tsl_when : Array (Option Value)} (n_when : PySem.W.nsIn K d_S "when" = some (some (.ref q_when))) (t_when : K.lookup q_when = some ⟨.type "tuple", tod_when, .seq its_when tm_when, tsl_when⟩) (v_when : Vals [.str "place", .str "figure", .str "part", .str "part"] its_when.toList)
    {q_where : Addr} {tod_where : Option Addr} {its_where : Array Value} {tm_where : Nat} {tsl_where : Array (Option Value)} (n_where : PySem.W.nsIn K d_S "where" = some (some (.ref q_where))) (t_where : K.lookup q_where = some ⟨.type "tuple", tod_where, .seq its_where tm_where, tsl_where⟩) (v_where : Vals [.str "sign", .str "line", .str "part", .str "part"] its_where.toList)
    {d_DEEDS : Addr} {es_DEEDS : Array DictEntry} {n_DEEDS : Nat} (a_DEEDS : PySem.W.nsIn K mainGlobals "DEEDS" = some (some (.ref d_DEEDS))) (l_DEEDS : K.lookup d_DEEDS = some ⟨.type "dict", none, .dict es_DEEDS n_DEEDS, #[]⟩) (k_DEEDS : PySem.W.KeysLit w.params es_DEEDS.toList) (w_DEEDS : (d_DEEDS == sysModules) = false)
    (x_DEEDS : ktx es_DEEDS.toList = [some ("put" : Str), some ("add" : Str), some ("copy" : Str), some ("plus" : Str), some ("told" : Str), some ("when" : Str)])
    {q_DEEDS_put : Addr} {tod_DEEDS_put : Option Addr} {its_DEEDS_put : Array Value} {tm_DEEDS_put : Nat} {tsl_DEEDS_put : Array (Option Value)} (n_DEEDS_put : PySem.W.nsIn K d_DEEDS "put" = some (some (.ref q_DEEDS_put))) (t_DEEDS_put : K.lookup q_DEEDS_put = some ⟨.type "tuple", tod_DEEDS_put, .seq its_DEEDS_put tm_DEEDS_put, tsl_DEEDS_put⟩) (v_DEEDS_put : Vals [.str "place", .str "figure"] its_DEEDS_put.toList)
    {q_DEEDS_add : Addr} {tod_DEEDS_add : Option Addr} {its_DEEDS_add : Array Value} {tm_DEEDS_add : Nat} {tsl_DEEDS_add : Array (Option Value)} (n_DEEDS_add : PySem.W.nsIn K d_DEEDS "add" = some (some (.ref q_DEEDS_add))) (t_DEEDS_add : K.lookup q_DEEDS_add = some ⟨.type "tuple", tod_DEEDS_add, .seq its_DEEDS_add tm_DEEDS_add, tsl_DEEDS_add⟩) (v_DEEDS_add : Vals [.str "place", .str "figure"] its_DEEDS_add.toList)
    {q_DEEDS_copy : Addr} {tod_DEEDS_copy : Option Addr} {its_DEEDS_copy : Array Value} {tm_DEEDS_copy : Nat} {tsl_DEEDS_copy : Array (Option Value)} (n_DEEDS_copy : PySem.W.nsIn K d_DEEDS "copy" = some (some (.ref q_DEEDS_copy))) (t_DEEDS_copy : K.lookup q_DEEDS_copy = some ⟨.type "tuple", tod_DEEDS_copy, .seq its_DEEDS_copy tm_DEEDS_copy, tsl_DEEDS_copy⟩) (v_DEEDS_copy : Vals [.str "place", .str "place"] its_DEEDS_copy.toList)
    {q_DEEDS_plus : Addr} {tod_DEEDS_plus : Option Addr} {its_DEEDS_plus : Array Value} {tm_DEEDS_plus : Nat} {tsl_DEEDS_plus : Array (Option Value)} (n_DEEDS_plus : PySem.W.nsIn K d_DEEDS "plus" = some (some (.ref q_DEEDS_plus))) (t_DEEDS_plus : K.lookup q_DEEDS_plus = some ⟨.type "tuple", tod_DEEDS_plus, .seq its_DEEDS_plus tm_DEEDS_plus, tsl_DEEDS_plus⟩) (v_DEEDS_plus : Vals [.str "place", .str "place"] its_DEEDS_plus.toList)
    {q_DEEDS_told : Addr} {tod_DEEDS_told : Option Addr} {its_DEEDS_told : Array Value} {tm_DEEDS_told : Nat} {tsl_DEEDS_told : Array (Option Value)} (n_DEEDS_told : PySem.W.nsIn K d_DEEDS "told" = some (some (.ref q_DEEDS_told))) (t_DEEDS_told : K.lookup q_DEEDS_told = some ⟨.type "tuple", tod_DEEDS_told, .seq its_DEEDS_told tm_DEEDS_told, tsl_DEEDS_told⟩) (v_DEEDS_told : Vals [.str "place", .str "sign"] its_DEEDS_told.toList)
    {q_DEEDS_when : Addr} {tod_DEEDS_when : Option Addr} {its_DEEDS_when : Array Value} {tm_DEEDS_when : Nat} {tsl_DEEDS_when : Array (Option Value)} (n_DEEDS_when : PySem.W.nsIn K d_DEEDS "when" = some (some (.ref q_DEEDS_when))) (t_DEEDS_when : K.lookup q_DEEDS_when = some ⟨.type "tuple", tod_DEEDS_when, .seq its_DEEDS_when tm_DEEDS_when, tsl_DEEDS_when⟩) (v_DEEDS_when : Vals [.str "place", .str "figure", .str "part", .str "part"] its_DEEDS_when.toList)
    {d_BOUNDS : Addr} {es_BOUNDS : Array DictEntry} {n_BOUNDS : Nat} (a_BOUNDS : PySem.W.nsIn K mainGlobals "BOUNDS" = some (some (.ref d_BOUNDS))) (l_BOUNDS : K.lookup d_BOUNDS = some ⟨.type "dict", none, .dict es_BOUNDS n_BOUNDS, #[]⟩) (k_BOUNDS : PySem.W.KeysLit w.params es_BOUNDS.toList) (w_BOUNDS : (d_BOUNDS == sysModules) = false)
    {q_BOUNDS_figure : Addr} {tod_BOUNDS_figure : Option Addr} {its_BOUNDS_figure : Array Value} {tm_BOUNDS_figure : Nat} {tsl_BOUNDS_figure : Array (Option Value)} (n_BOUNDS_figure : PySem.W.nsIn K d_BOUNDS "figure" = some (some (.ref q_BOUNDS_figure))) (t_BOUNDS_figure : K.lookup q_BOUNDS_figure = some ⟨.type "tuple", tod_BOUNDS_figure, .seq its_BOUNDS_figure tm_BOUNDS_figure, tsl_BOUNDS_figure⟩) (v_BOUNDS_figure : Vals [.int (-1000), .int (1000)] its_BOUNDS_figure.toList)
    {q_BOUNDS_place : Addr} {tod_BOUNDS_place : Option Addr} {its_BOUNDS_place : Array Value} {tm_BOUNDS_place : Nat} {tsl_BOUNDS_place : Array (Option Value)} (n_BOUNDS_place : PySem.W.nsIn K d_BOUNDS "place" = some (some (.ref q_BOUNDS_place))) (t_BOUNDS_place : K.lookup q_BOUNDS_place = some ⟨.type "tuple", tod_BOUNDS_place, .seq its_BOUNDS_place tm_BOUNDS_place, tsl_BOUNDS_place⟩) (v_BOUNDS_place : Vals [.int (0), .int (3)] its_BOUNDS_place.toList)
    {q_BOUNDS_factor : Addr} {tod_BOUNDS_factor : Option Addr} {its_BOUNDS_factor : Array Value} {tm_BOUNDS_factor : Nat} {tsl_BOUNDS_factor : Array (Option Value)} (n_BOUNDS_factor : PySem.W.nsIn K d_BOUNDS "factor" = some (some (.ref q_BOUNDS_factor))) (t_BOUNDS_factor : K.lookup q_BOUNDS_factor = some ⟨.type "tuple", tod_BOUNDS_factor, .seq its_BOUNDS_factor tm_BOUNDS_factor, tsl_BOUNDS_factor⟩) (v_BOUNDS_factor : Vals [.int (-9), .int (9)] its_BOUNDS_factor.toList)
    {q_BOUNDS_line : Addr} {tod_BOUNDS_line : Option Addr} {its_BOUNDS_line : Array Value} {tm_BOUNDS_line : Nat} {tsl_BOUNDS_line : Array (Option Value)} (n_BOUNDS_line : PySem.W.nsIn K d_BOUNDS "line" = some (some (.ref q_BOUNDS_line))) (t_BOUNDS_line : K.lookup q_BOUNDS_line = some ⟨.type "tuple", tod_BOUNDS_line, .seq its_BOUNDS_line tm_BOUNDS_line, tsl_BOUNDS_line⟩) (v_BOUNDS_line : Vals [.int (1), .int (1000)] its_BOUNDS_line.toList)
    {t_GREATEST_SCALE : Tok} (i_GREATEST_SCALE : PySem.W.nsIn K mainGlobals "GREATEST_SCALE" = some (some (.int (4) t_GREATEST_SCALE)))
    {t_MOST_PARTS : Tok} (i_MOST_PARTS : PySem.W.nsIn K mainGlobals "MOST_PARTS" = some (some (.int (40) t_MOST_PARTS)))
    {t_MOST_DEEP_expressions : Tok} (i_MOST_DEEP_expressions : PySem.W.nsIn K mainGlobals "MOST_DEEP_expressions" = some (some (.int (8) t_MOST_DEEP_expressions)))
    {t_MOST_DEEP_doubters : Tok} (i_MOST_DEEP_doubters : PySem.W.nsIn K mainGlobals "MOST_DEEP_doubters" = some (some (.int (4) t_MOST_DEEP_doubters)))
    {t_HOW_MANY_REGISTERS : Tok} (i_HOW_MANY_REGISTERS : PySem.W.nsIn K mainGlobals "HOW_MANY_REGISTERS" = some (some (.int (4) t_HOW_MANY_REGISTERS)))
    {t_LONGEST_NAME : Tok} (i_LONGEST_NAME : PySem.W.nsIn K mainGlobals "LONGEST_NAME" = some (some (.int (8) t_LONGEST_NAME)))
    {t_MOST_DEEDS : Tok} (i_MOST_DEEDS : PySem.W.nsIn K mainGlobals "MOST_DEEDS" = some (some (.int (20) t_MOST_DEEDS)))
    {t_WIDEST : Tok} (i_WIDEST : PySem.W.nsIn K mainGlobals "WIDEST" = some (some (.int (500) t_WIDEST)))
    {t_LETTERS : Tok} (i_LETTERS : PySem.W.nsIn K mainGlobals "LETTERS" = some (some (.str "abcdefghijklmnopqrstuvwxyz" t_LETTERS)))
    (z_len : PySem.W.nsIn K mainGlobals "len" = some none)
    (z_sum : PySem.W.nsIn K mainGlobals "sum" = some none)
    (z_max : PySem.W.nsIn K mainGlobals "max" = some none)
    (z_min : PySem.W.nsIn K mainGlobals "min" = some none)
    (z_abs : PySem.W.nsIn K mainGlobals "abs" = some none)
    (z_int : PySem.W.nsIn K mainGlobals "int" = some none)
    (z_tuple : PySem.W.nsIn K mainGlobals "tuple" = some none)
    (z_range : PySem.W.nsIn K mainGlobals "range" = some none)
    (z_sorted : PySem.W.nsIn K mainGlobals "sorted" = some none)
    (z_zip : PySem.W.nsIn K mainGlobals "zip" = some none)
    (z_isinstance : PySem.W.nsIn K mainGlobals "isinstance" = some none)
    (z_list : PySem.W.nsIn K mainGlobals "list" = some none)
    (z_all : PySem.W.nsIn K mainGlobals "all" = some none)
    (z_repr : PySem.W.nsIn K mainGlobals "repr" = some none)
    (z_str : PySem.W.nsIn K mainGlobals "str" = some none)
    (z_enumerate : PySem.W.nsIn K mainGlobals "enumerate" = some none)
    (z_bool : PySem.W.nsIn K mainGlobals "bool" = some none)
    : ∃ fd : FuncData, (∀ (s : Shared) (v : Value), BindsTo s fd ⟨[v], []⟩ [("_law_script", v)]) ∧ ∀ base : Heap, K.In base → base.Ns mainGlobals mg → FnG l.prog w K mg base 21 fa fd ["_law_script"] (spLaw K) := by
  have e := hfa.symm.trans (PySem.W.mg_of X G a_law)
  cases e
  have F_is_number := fun_mk (st := s_is_number) l_is_number c_is_number k_is_number
  have g_is_number := PySem.W.mg_of X G a_is_number
  have b_is_number := F_is_number.binds (ps := ["thing"]) fun _ _ _ _ _ _ us hl => match us, hl with | [_], _ => rfl
  have F_is_within := fun_mk (st := s_is_within) l_is_within c_is_within k_is_within
  have g_is_within := PySem.W.mg_of X G a_is_within
  have b_is_within := F_is_within.binds (ps := ["thing", "low", "high"]) fun _ _ _ _ _ _ us hl => match us, hl with | [_, _, _], _ => rfl
  have F_fits := fun_mk (st := s_fits) l_fits c_fits k_fits
  have g_fits := PySem.W.mg_of X G a_fits
  have b_fits := F_fits.binds (ps := ["kind", "thing", "many"]) fun _ _ _ _ _ _ us hl => match us, hl with | [_, _, _], _ => rfl
  have F_first_word := fun_mk (st := s_first_word) l_first_word c_first_word k_first_word
  have g_first_word := PySem.W.mg_of X G a_first_word
  have b_first_word := F_first_word.binds (ps := ["thing"]) fun _ _ _ _ _ _ us hl => match us, hl with | [_], _ => rfl
  have F_fits_shape := fun_mk (st := s_fits_shape) l_fits_shape c_fits_shape k_fits_shape
  have g_fits_shape := PySem.W.mg_of X G a_fits_shape
  have b_fits_shape := F_fits_shape.binds (ps := ["thing", "shape", "many"]) fun _ _ _ _ _ _ us hl => match us, hl with | [_, _, _], _ => rfl
  have F_has_shape := fun_mk (st := s_has_shape) l_has_shape c_has_shape k_has_shape
  have g_has_shape := PySem.W.mg_of X G a_has_shape
  have b_has_shape := F_has_shape.binds (ps := ["thing", "many"]) fun _ _ _ _ _ _ us hl => match us, hl with | [_, _], _ => rfl
  have F_is_registers := fun_mk (st := s_is_registers) l_is_registers c_is_registers k_is_registers
  have g_is_registers := PySem.W.mg_of X G a_is_registers
  have b_is_registers := F_is_registers.binds (ps := ["thing"]) fun _ _ _ _ _ _ us hl => match us, hl with | [_], _ => rfl
  have F_parts := fun_mk (st := s_parts) l_parts c_parts k_parts
  have g_parts := PySem.W.mg_of X G a_parts
  have b_parts := F_parts.binds (ps := ["expression"]) fun _ _ _ _ _ _ us hl => match us, hl with | [_], _ => rfl
  have F_count_parts := fun_mk (st := s_count_parts) l_count_parts c_count_parts k_count_parts
  have g_count_parts := PySem.W.mg_of X G a_count_parts
  have b_count_parts := F_count_parts.binds (ps := ["thing", "many", "deep"]) fun _ _ _ _ _ _ us hl => match us, hl with | [_, _, _], _ => rfl
  have F_is_expression := fun_mk (st := s_is_expression) l_is_expression c_is_expression k_is_expression
  have g_is_expression := PySem.W.mg_of X G a_is_expression
  have b_is_expression := F_is_expression.binds (ps := ["thing", "many"]) fun _ _ _ _ _ _ us hl => match us, hl with | [_, _], _ => rfl
  have F_join_spans := fun_mk (st := s_join_spans) l_join_spans c_join_spans k_join_spans
  have g_join_spans := PySem.W.mg_of X G a_join_spans
  have b_join_spans := F_join_spans.binds (ps := ["word", "first", "second"]) fun _ _ _ _ _ _ us hl => match us, hl with | [_, _, _], _ => rfl
  have F_span := fun_mk (st := s_span) l_span c_span k_span
  have g_span := PySem.W.mg_of X G a_span
  have b_span := F_span.binds (ps := ["expression"]) fun _ _ _ _ _ _ us hl => match us, hl with | [_], _ => rfl
  have F_is_name := fun_mk (st := s_is_name) l_is_name c_is_name k_is_name
  have g_is_name := PySem.W.mg_of X G a_is_name
  have b_is_name := F_is_name.binds (ps := ["thing"]) fun _ _ _ _ _ _ us hl => match us, hl with | [_], _ => rfl
  have F_power := fun_mk (st := s_power) l_power c_power k_power
  have g_power := PySem.W.mg_of X G a_power
  have b_power := F_power.binds (ps := ["scale"]) fun _ _ _ _ _ _ us hl => match us, hl with | [_], _ => rfl
  have F_count_deed := fun_mk (st := s_count_deed) l_count_deed c_count_deed k_count_deed
  have g_count_deed := PySem.W.mg_of X G a_count_deed
  have b_count_deed := F_count_deed.binds (ps := ["thing", "many", "deep"]) fun _ _ _ _ _ _ us hl => match us, hl with | [_, _, _], _ => rfl
  have F_count_deeds := fun_mk (st := s_count_deeds) l_count_deeds c_count_deeds k_count_deeds
  have g_count_deeds := PySem.W.mg_of X G a_count_deeds
  have b_count_deeds := F_count_deeds.binds (ps := ["thing", "many", "deep"]) fun _ _ _ _ _ _ us hl => match us, hl with | [_, _, _], _ => rfl
  have F_is_stake := fun_mk (st := s_is_stake) l_is_stake c_is_stake k_is_stake
  have g_is_stake := PySem.W.mg_of X G a_is_stake
  have b_is_stake := F_is_stake.binds (ps := ["thing", "scale", "many"]) fun _ _ _ _ _ _ us hl => match us, hl with | [_, _, _], _ => rfl
  have F_are_stakes := fun_mk (st := s_are_stakes) l_are_stakes c_are_stakes k_are_stakes
  have g_are_stakes := PySem.W.mg_of X G a_are_stakes
  have b_are_stakes := F_are_stakes.binds (ps := ["thing", "scale", "many"]) fun _ _ _ _ _ _ us hl => match us, hl with | [_, _, _], _ => rfl
  have F_are_behinds := fun_mk (st := s_are_behinds) l_are_behinds c_are_behinds k_are_behinds
  have g_are_behinds := PySem.W.mg_of X G a_are_behinds
  have b_are_behinds := F_are_behinds.binds (ps := ["thing", "many"]) fun _ _ _ _ _ _ us hl => match us, hl with | [_, _], _ => rfl
  have F_is_doubter := fun_mk (st := s_is_doubter) l_is_doubter c_is_doubter k_is_doubter
  have g_is_doubter := PySem.W.mg_of X G a_is_doubter
  have b_is_doubter := F_is_doubter.binds (ps := ["thing", "many"]) fun _ _ _ _ _ _ us hl => match us, hl with | [_, _], _ => rfl
  have F_L_hand := fun_mk (st := s_L_hand) l_L_hand c_L_hand k_L_hand
  have g_L_hand := PySem.W.mg_of X G a_L_hand
  have b_L_hand := F_L_hand.binds (ps := ["_law_script", "_law_k"]) fun _ _ _ _ _ _ us hl => match us, hl with | [_, _], _ => rfl
  have F_L_take := fun_mk (st := s_L_take) l_L_take c_L_take k_L_take
  have g_L_take := PySem.W.mg_of X G a_L_take
  have b_L_take := F_L_take.binds (ps := ["_law_hand_here", "_law_wide"]) fun _ _ _ _ _ _ us hl => match us, hl with | [_, _], _ => rfl
  have F_L_of := fun_mk (st := s_L_of) l_L_of c_L_of k_L_of
  have g_L_of := PySem.W.mg_of X G a_L_of
  have b_L_of := F_L_of.binds (ps := ["_law_hand_here", "_law_some"]) fun _ _ _ _ _ _ us hl => match us, hl with | [_, _], _ => rfl
  have F_L_figure := fun_mk (st := s_L_figure) l_L_figure c_L_figure k_L_figure
  have g_L_figure := PySem.W.mg_of X G a_L_figure
  have b_L_figure := F_L_figure.binds (ps := ["_law_hand_here"]) fun _ _ _ _ _ _ us hl => match us, hl with | [_], _ => rfl
  have F_L_registers := fun_mk (st := s_L_registers) l_L_registers c_L_registers k_L_registers
  have g_L_registers := PySem.W.mg_of X G a_L_registers
  have b_L_registers := F_L_registers.binds (ps := ["_law_hand_here"]) fun _ _ _ _ _ _ us hl => match us, hl with | [_], _ => rfl
  have F_L_leaf := fun_mk (st := s_L_leaf) l_L_leaf c_L_leaf k_L_leaf
  have g_L_leaf := PySem.W.mg_of X G a_L_leaf
  have b_L_leaf := F_L_leaf.binds (ps := ["_law_hand_here", "_law_wide"]) fun _ _ _ _ _ _ us hl => match us, hl with | [_, _], _ => rfl
  have F_L_expression := fun_mk (st := s_L_expression) l_L_expression c_L_expression k_L_expression
  have g_L_expression := PySem.W.mg_of X G a_L_expression
  have b_L_expression := F_L_expression.binds (ps := ["_law_hand_here", "_law_wide", "_law_level", "_law_jumps"]) fun _ _ _ _ _ _ us hl => match us, hl with | [_, _, _, _], _ => rfl
  have F_L_stake := fun_mk (st := s_L_stake) l_L_stake c_L_stake k_L_stake
  have g_L_stake := PySem.W.mg_of X G a_L_stake
  have b_L_stake := F_L_stake.binds (ps := ["_law_hand_here", "_law_wide", "_law_level", "_law_jumps"]) fun _ _ _ _ _ _ us hl => match us, hl with | [_, _, _, _], _ => rfl
  have F_L_deeds := fun_mk (st := s_L_deeds) l_L_deeds c_L_deeds k_L_deeds
  have g_L_deeds := PySem.W.mg_of X G a_L_deeds
  have b_L_deeds := F_L_deeds.binds (ps := ["_law_hand_here", "_law_wide", "_law_deep"]) fun _ _ _ _ _ _ us hl => match us, hl with | [_, _, _], _ => rfl
  have F_L_doubter := fun_mk (st := s_L_doubter) l_L_doubter c_L_doubter k_L_doubter
  have g_L_doubter := PySem.W.mg_of X G a_L_doubter
  have b_L_doubter := F_L_doubter.binds (ps := ["_law_hand_here", "_law_wide", "_law_level", "_law_jumps"]) fun _ _ _ _ _ _ us hl => match us, hl with | [_, _, _, _], _ => rfl
  have F_L_whole := fun_mk (st := s_L_whole) l_L_whole c_L_whole k_L_whole
  have g_L_whole := PySem.W.mg_of X G a_L_whole
  have b_L_whole := F_L_whole.binds (ps := ["_law_lump", "_law_low", "_law_high"]) fun _ _ _ _ _ _ us hl => match us, hl with | [_, _, _], _ => rfl
  have F_L_heads := fun_mk (st := s_L_heads) l_L_heads c_L_heads k_L_heads
  have g_L_heads := PySem.W.mg_of X G a_L_heads
  have b_L_heads := F_L_heads.binds (ps := ["_law_word", "_law_wide"]) fun _ _ _ _ _ _ us hl => match us, hl with | [_, _], _ => rfl
  have F_L_count := fun_mk (st := s_L_count) l_L_count c_L_count k_L_count
  have g_L_count := PySem.W.mg_of X G a_L_count
  have b_L_count := F_L_count.binds (ps := ["_law_lump", "_law_wide", "_law_deep"]) fun _ _ _ _ _ _ us hl => match us, hl with | [_, _, _], _ => rfl
  have F_L_span := fun_mk (st := s_L_span) l_L_span c_L_span k_L_span
  have g_L_span := PySem.W.mg_of X G a_L_span
  have b_L_span := F_L_span.binds (ps := ["_law_phrase"]) fun _ _ _ _ _ _ us hl => match us, hl with | [_], _ => rfl
  have F_L_deeds_in := fun_mk (st := s_L_deeds_in) l_L_deeds_in c_L_deeds_in k_L_deeds_in
  have g_L_deeds_in := PySem.W.mg_of X G a_L_deeds_in
  have b_L_deeds_in := F_L_deeds_in.binds (ps := ["_law_lump", "_law_wide", "_law_deep"]) fun _ _ _ _ _ _ us hl => match us, hl with | [_, _, _], _ => rfl
  have F_L_is_stake := fun_mk (st := s_L_is_stake) l_L_is_stake c_L_is_stake k_L_is_stake
  have g_L_is_stake := PySem.W.mg_of X G a_L_is_stake
  have b_L_is_stake := F_L_is_stake.binds (ps := ["_law_lump", "_law_wide", "_law_scale"]) fun _ _ _ _ _ _ us hl => match us, hl with | [_, _, _], _ => rfl
  have F_L_is_doubter := fun_mk (st := s_L_is_doubter) l_L_is_doubter c_L_is_doubter k_L_is_doubter
  have g_L_is_doubter := PySem.W.mg_of X G a_L_is_doubter
  have b_L_is_doubter := F_L_is_doubter.binds (ps := ["_law_lump", "_law_wide"]) fun _ _ _ _ _ _ us hl => match us, hl with | [_, _], _ => rfl
  have F_L_name := fun_mk (st := s_L_name) l_L_name c_L_name k_L_name
  have g_L_name := PySem.W.mg_of X G a_L_name
  have b_L_name := F_L_name.binds (ps := ["_law_hand_here"]) fun _ _ _ _ _ _ us hl => match us, hl with | [_], _ => rfl
  have F_L_odd := fun_mk (st := s_L_odd) l_L_odd c_L_odd k_L_odd
  have g_L_odd := PySem.W.mg_of X G a_L_odd
  have b_L_odd := F_L_odd.binds (ps := ["_law_hand_here", "_law_lump"]) fun _ _ _ _ _ _ us hl => match us, hl with | [_, _], _ => rfl
  have F_L_bent := fun_mk (st := s_L_bent) l_L_bent c_L_bent k_L_bent
  have g_L_bent := PySem.W.mg_of X G a_L_bent
  have b_L_bent := F_L_bent.binds (ps := ["_law_hand_here", "_law_lump", "_law_room"]) fun _ _ _ _ _ _ us hl => match us, hl with | [_, _, _], _ => rfl
  have F_law := fun_mk (st := s_law) l_law c_law k_law
  have g_law := PySem.W.mg_of X G a_law
  have B : Bl mg := ⟨PySem.W.mg_none_of X G z_len, PySem.W.mg_none_of X G z_sum, PySem.W.mg_none_of X G z_max, PySem.W.mg_none_of X G z_min, PySem.W.mg_none_of X G z_abs, PySem.W.mg_none_of X G z_int, PySem.W.mg_none_of X G z_tuple, PySem.W.mg_none_of X G z_range, PySem.W.mg_none_of X G z_sorted, PySem.W.mg_none_of X G z_zip, PySem.W.mg_none_of X G z_isinstance, PySem.W.mg_none_of X G z_list, PySem.W.mg_none_of X G z_all, PySem.W.mg_none_of X G z_repr, PySem.W.mg_none_of X G z_str, PySem.W.mg_none_of X G z_enumerate⟩
  have n_bool := PySem.W.mg_none_of X G z_bool
  have mg_GREATEST_SCALE := PySem.W.mg_of X G i_GREATEST_SCALE
  have mg_MOST_PARTS := PySem.W.mg_of X G i_MOST_PARTS
  have mg_MOST_DEEP_expressions := PySem.W.mg_of X G i_MOST_DEEP_expressions
  have mg_MOST_DEEP_doubters := PySem.W.mg_of X G i_MOST_DEEP_doubters
  have mg_HOW_MANY_REGISTERS := PySem.W.mg_of X G i_HOW_MANY_REGISTERS
  have mg_LONGEST_NAME := PySem.W.mg_of X G i_LONGEST_NAME
  have mg_MOST_DEEDS := PySem.W.mg_of X G i_MOST_DEEDS
  have mg_WIDEST := PySem.W.mg_of X G i_WIDEST
  have mg_LETTERS := PySem.W.mg_of X G i_LETTERS
  have mg_DEEDS := PySem.W.mg_of X G a_DEEDS
  have hB : TabB K w d_DEEDS := by
    have mk : ∀ (x : Str) (q : Addr) (od : Option Addr) (its : Array Value) (m : Nat) (sl : Array (Option Value)) (ks : List Kd), ks.length ≤ 4 → PySem.W.nsIn K d_DEEDS x = some (some (.ref q)) → K.lookup q = some ⟨.type "tuple", od, .seq its m, sl⟩ → Vals (ks.map fun k => V.str (kdn k)) its.toList → ∃ q, KDct K w d_DEEDS x (.ref q) ∧ ∀ H, SqT K H q (ks.map fun k => V.str (kdn k)) := fun x q od its m sl ks hk h1 h2 h3 => ⟨q, ⟨es_DEEDS, n_DEEDS, _, l_DEEDS, k_DEEDS, h1, rfl⟩, fun H => .inr ⟨_, its, m, h2, rfl, rfl, by
      have h := h3.length
      have e2 : its.toList.length = its.size := Array.length_toList
      have e3 : (ks.map fun k => V.str (kdn k)).length = ks.length := List.length_map _
      exact Nat.le_of_lt (small1000 (by omega)), h3⟩⟩
    refine ⟨w_DEEDS, fun e => ?_⟩
    cases e with
    | when => exact mk _ _ _ _ _ _ [.place, .figure, .part, .part] (by decide) n_DEEDS_when t_DEEDS_when v_DEEDS_when
    | op o =>
      cases o with
      | put => exact mk _ _ _ _ _ _ [.place, .figure] (by decide) n_DEEDS_put t_DEEDS_put v_DEEDS_put
      | add => exact mk _ _ _ _ _ _ [.place, .figure] (by decide) n_DEEDS_add t_DEEDS_add v_DEEDS_add
      | copy => exact mk _ _ _ _ _ _ [.place, .place] (by decide) n_DEEDS_copy t_DEEDS_copy v_DEEDS_copy
      | plus => exact mk _ _ _ _ _ _ [.place, .place] (by decide) n_DEEDS_plus t_DEEDS_plus v_DEEDS_plus
      | told => exact mk _ _ _ _ _ _ [.place, .sign] (by decide) n_DEEDS_told t_DEEDS_told v_DEEDS_told
  have hBK : KdAt K w d_DEEDS := ⟨es_DEEDS, n_DEEDS, l_DEEDS, k_DEEDS, w_DEEDS⟩
  have hBO : Only6 K d_DEEDS := only6_of l_DEEDS k_DEEDS x_DEEDS
  have mg_BOUNDS := PySem.W.mg_of X G a_BOUNDS
  have hN : TabN K w d_BOUNDS := by
    have mk : ∀ (x : Str) (q : Addr) (od : Option Addr) (its : Array Value) (m : Nat) (sl : Array (Option Value)) (lo hi : Int), PySem.W.nsIn K d_BOUNDS x = some (some (.ref q)) → K.lookup q = some ⟨.type "tuple", od, .seq its m, sl⟩ → Vals [.int lo, .int hi] its.toList → ∃ q, KDct K w d_BOUNDS x (.ref q) ∧ ∀ H, SqT K H q [.int lo, .int hi] := fun x q od its m sl lo hi h1 h2 h3 => ⟨q, ⟨es_BOUNDS, n_BOUNDS, _, l_BOUNDS, k_BOUNDS, h1, rfl⟩, fun H => .inr ⟨_, its, m, h2, rfl, rfl, by
      have h := h3.length
      have e2 : its.toList.length = its.size := Array.length_toList
      simp only [List.length_cons, List.length_nil] at h
      exact Nat.le_of_lt (small1000 (by omega)), h3⟩⟩
    intro k h1 h2
    cases k with
    | part => exact absurd rfl h1
    | sign => exact absurd rfl h2
    | figure => exact mk _ _ _ _ _ _ _ _ n_BOUNDS_figure t_BOUNDS_figure v_BOUNDS_figure
    | place => exact mk _ _ _ _ _ _ _ _ n_BOUNDS_place t_BOUNDS_place v_BOUNDS_place
    | factor => exact mk _ _ _ _ _ _ _ _ n_BOUNDS_factor t_BOUNDS_factor v_BOUNDS_factor
    | line => exact mk _ _ _ _ _ _ _ _ n_BOUNDS_line t_BOUNDS_line v_BOUNDS_line
  have mg_SHAPES := PySem.W.mg_of X G a_S
  have hSh : Shapes K w d_S := by
    have mk : ∀ (x : Str) (q : Addr) (od : Option Addr) (its : Array Value) (m : Nat) (sl : Array (Option Value)) (ks : List Str), ks.length ≤ 4 → PySem.W.nsIn K d_S x = some (some (.ref q)) → K.lookup q = some ⟨.type "tuple", od, .seq its m, sl⟩ → Vals (ks.map V.str) its.toList → ∃ q, KDct K w d_S x (.ref q) ∧ ∀ H, SqT K H q (ks.map V.str) := fun x q od its m sl ks hk h1 h2 h3 => ⟨q, ⟨es_S, n_S, _, l_S, k_S, h1, rfl⟩, fun H => .inr ⟨_, its, m, h2, rfl, rfl, by
      have h := h3.length
      have e2 : its.toList.length = its.size := Array.length_toList
      have e3 : (ks.map V.str).length = ks.length := List.length_map _
      exact Nat.le_of_lt (small1000 (by omega)), h3⟩⟩
    intro e
    cases e with
    | fig _ => exact mk _ _ _ _ _ _ ["figure"] (by decide) n_fig t_fig v_fig
    | reg _ => exact mk _ _ _ _ _ _ ["place"] (by decide) n_reg t_reg v_reg
    | share _ => exact mk _ _ _ _ _ _ ["sign"] (by decide) n_share t_share v_share
    | times _ _ => exact mk _ _ _ _ _ _ ["factor", "part"] (by decide) n_times t_times v_times
    | «by» _ _ => exact mk _ _ _ _ _ _ ["place", "part"] (by decide) n_by t_by v_by
    | when _ _ _ _ => exact mk _ _ _ _ _ _ ["place", "figure", "part", "part"] (by decide) n_when t_when v_when
    | whr _ _ _ _ => exact mk _ _ _ _ _ _ ["sign", "line", "part", "part"] (by decide) n_where t_where v_where
    | two o _ _ =>
      cases o with
      | sum => exact mk _ _ _ _ _ _ ["part", "part"] (by decide) n_sum t_sum v_sum
      | less => exact mk _ _ _ _ _ _ ["part", "part"] (by decide) n_less t_less v_less
      | least => exact mk _ _ _ _ _ _ ["part", "part"] (by decide) n_least t_least v_least
      | most => exact mk _ _ _ _ _ _ ["part", "part"] (by decide) n_most t_most v_most
  have hE : TabE K w d_S := TabE.of hSh w_S
  have hK : KdAt K w d_S := ⟨es_S, n_S, l_S, k_S, w_S⟩
  have hO : Only11 K d_S := only11_of l_S k_S x_S
  refine ⟨PySem.W.fnOf "law" "law" (defArgs s_law) (defBody s_law) (defScope s_law) .none kV_law dc_law pm_law an_law cd_law ct_law, fun s v => .of_eq rfl, fun base _ _ => ?_⟩
  have c_hand := ok_hand (P := l.prog) (w := w) (base := base) F_L_hand g_L_hand b_L_hand B
  have c_take := ok_take (P := l.prog) (w := w) (base := base) F_L_take g_L_take b_L_take
  have c_of := ok_of F_L_of g_L_of b_L_of B c_take
  have c_figure := ok_figure F_L_figure g_L_figure b_L_figure B c_take c_of
  have c_regs := ok_regs F_L_registers g_L_registers b_L_registers B c_figure
  have c_leaf := ok_leaf F_L_leaf g_L_leaf b_L_leaf B c_take c_figure
  have c_expr := ok_expr F_L_expression g_L_expression b_L_expression B c_take c_of c_figure c_leaf 3
  have c_Lstake := ok_stake F_L_stake g_L_stake b_L_stake B c_take c_of (m := 3) c_expr
  have c_Ldeeds := ok_deeds F_L_deeds g_L_deeds b_L_deeds B c_take c_of c_figure 2
  have c_Ldoubter := ok_doubter F_L_doubter g_L_doubter b_L_doubter B c_take c_of c_regs (m := 3) c_Lstake c_Ldeeds
  have c_isnum := ok_isnum (P := l.prog) (w := w) (base := base) F_is_number g_is_number b_is_number B n_bool
  have c_within := ok_iswithin F_is_within g_is_within b_is_within c_isnum
  have c_fits := ok_fits F_fits g_fits b_fits mg_BOUNDS hN c_within
  have c_first := ok_firstword (P := l.prog) (w := w) (base := base) F_first_word g_first_word b_first_word B
  have c_fitssh := ok_fitsshape F_fits_shape g_fits_shape b_fits_shape B c_fits
  have c_hassh := ok_hasshape F_has_shape g_has_shape b_has_shape mg_SHAPES hE hK hO c_first c_fitssh
  have c_isregs := ok_isregs F_is_registers g_is_registers b_is_registers B mg_BOUNDS hN mg_HOW_MANY_REGISTERS c_within
  have c_parts := ok_parts (P := l.prog) (w := w) (base := base) F_parts g_parts b_parts B mg_SHAPES hSh
  have c_partsD := ok_partsD (P := l.prog) (w := w) (base := base) F_parts g_parts b_parts B mg_SHAPES hE
  have c_cntE := ok_cntE F_count_parts g_count_parts b_count_parts c_hassh c_partsD 9
  have f_isex' := fn_isex F_is_expression mg_MOST_DEEP_expressions mg_MOST_PARTS c_cntE
  have c_isex : (Cal l.prog w K mg base 16 "is_expression" (spIsEx K)) := ⟨_, _, _, f_isex', g_is_expression, F_is_expression.kp, b_is_expression⟩
  have c_isname := ok_isname (P := l.prog) (w := w) (base := base) F_is_name g_is_name b_is_name B mg_LONGEST_NAME mg_LETTERS
  have c_deeds := ok_deeds' F_count_deeds g_count_deeds b_count_deeds B F_count_deed g_count_deed b_count_deed mg_DEEDS hB hBK hBO mg_MOST_DEEDS c_first c_fitssh 5
  have c_pow := ok_pow2 (P := l.prog) (w := w) (base := base) F_power g_power b_power B
  have c_joinS := ok_joinS (P := l.prog) (w := w) (base := base) F_join_spans g_join_spans b_join_spans B
  have c_span := ok_span F_span g_span b_span B c_parts c_joinS 8
  have c_isstake := ok_isstake F_is_stake g_is_stake b_is_stake mg_WIDEST c_pow c_isex (n := 8) (by decide) (by decide) c_span
  have c_arest := ok_arestakes F_are_stakes g_are_stakes b_are_stakes B c_isstake
  have c_arebh := ok_arebehinds F_are_behinds g_are_behinds b_are_behinds B mg_MOST_DEEP_doubters c_deeds
  have f_isdb' := fn_isdb F_is_doubter B mg_GREATEST_SCALE c_isname c_within c_isregs c_arest c_arebh
  have c_isdb : (Cal l.prog w K mg base 19 "is_doubter" (spIsDb K)) := ⟨_, _, _, f_isdb', g_is_doubter, F_is_doubter.kp, b_is_doubter⟩
  have k_isdb : (CalK l.prog w K mg base 19 "is_doubter" ["many", "thing"] (spIsDb K)) := ⟨_, _, FnG.of f_isdb', g_is_doubter, F_is_doubter.kp, fun s ws hl => match ws, hl with | [_, _], _ => .of_eq rfl⟩
  have c_whole := ok_whole (P := l.prog) (w := w) (base := base) F_L_whole g_L_whole b_L_whole B n_bool
  have c_heads := ok_heads (P := l.prog) (w := w) (base := base) F_L_heads g_L_heads b_L_heads B
  have c_count := ok_count F_L_count g_L_count b_L_count B c_whole c_heads 9
  have c_lspan := ok_Lspan (P := l.prog) (w := w) (base := base) F_L_span g_L_span b_L_span B 8
  have c_ddin := ok_deedsin F_L_deeds_in g_L_deeds_in b_L_deeds_in B c_whole 5
  have c_lstake := ok_lstake F_L_is_stake g_L_is_stake b_L_is_stake B c_count c_lspan
  have c_ldb := ok_ldb F_L_is_doubter g_L_is_doubter b_L_is_doubter B c_whole c_lstake c_ddin
  have c_lname := ok_lname F_L_name g_L_name b_L_name B c_take c_of
  have c_odd := ok_odd F_L_odd g_L_odd b_L_odd B c_of
  have c_bent := ok_bent F_L_bent g_L_bent b_L_bent B c_take c_odd 10
  exact ok_law F_law B (lw := 20) (by decide) c_hand c_take c_lname (c_Ldoubter.mono (by decide)) c_bent c_isdb k_isdb c_ldb
end NG

open PySem PySem.W PyProof.Rows
set_option maxHeartbeats 0 in
theorem PySem.Challenge.cw_nonegrowsrich_k19_doubters_of_anything_holds : PySem.Challenge.rw_nonegrowsrich_k19_doubters_of_anything.Holds := by
  w_on; o_law; k_head; (case hw => w_witness2)
  k_fill
  refine NG.walkG (l := PySem.Challenge.rw_nonegrowsrich_k19_doubters_of_anything) (n := 63) (k := 21) (x := "_law_script") (sp := fun w => NG.spLaw _) rfl (by decide) rfl ⟨rfl, by decide, by decide⟩ (fun w h Y => PySem.W.kIn_of Y) ?F (fun _ _ a ns hl _ hS => ⟨a, ns, rfl, hS, hl, fun _ => rfl⟩) 
  case F =>
    intro w mg fa h KX G hmg
    refine' NG.all_mk KX G hmg ?a_is_number ?l_is_number ?c_is_number ?k_is_number ?a_is_within ?l_is_within ?c_is_within ?k_is_within ?a_fits ?l_fits ?c_fits ?k_fits ?a_first_word ?l_first_word ?c_first_word ?k_first_word ?a_fits_shape ?l_fits_shape ?c_fits_shape ?k_fits_shape ?a_has_shape ?l_has_shape ?c_has_shape ?k_has_shape ?a_is_registers ?l_is_registers ?c_is_registers ?k_is_registers ?a_parts ?l_parts ?c_parts ?k_parts ?a_count_parts ?l_count_parts ?c_count_parts ?k_count_parts ?a_is_expression ?l_is_expression ?c_is_expression ?k_is_expression ?a_join_spans ?l_join_spans ?c_join_spans ?k_join_spans ?a_span ?l_span ?c_span ?k_span ?a_is_name ?l_is_name ?c_is_name ?k_is_name ?a_power ?l_power ?c_power ?k_power ?a_count_deed ?l_count_deed ?c_count_deed ?k_count_deed ?a_count_deeds ?l_count_deeds ?c_count_deeds ?k_count_deeds ?a_is_stake ?l_is_stake ?c_is_stake ?k_is_stake ?a_are_stakes ?l_are_stakes ?c_are_stakes ?k_are_stakes ?a_are_behinds ?l_are_behinds ?c_are_behinds ?k_are_behinds ?a_is_doubter ?l_is_doubter ?c_is_doubter ?k_is_doubter ?a_L_hand ?l_L_hand ?c_L_hand ?k_L_hand ?a_L_take ?l_L_take ?c_L_take ?k_L_take ?a_L_of ?l_L_of ?c_L_of ?k_L_of ?a_L_figure ?l_L_figure ?c_L_figure ?k_L_figure ?a_L_registers ?l_L_registers ?c_L_registers ?k_L_registers ?a_L_leaf ?l_L_leaf ?c_L_leaf ?k_L_leaf ?a_L_expression ?l_L_expression ?c_L_expression ?k_L_expression ?a_L_stake ?l_L_stake ?c_L_stake ?k_L_stake ?a_L_deeds ?l_L_deeds ?c_L_deeds ?k_L_deeds ?a_L_doubter ?l_L_doubter ?c_L_doubter ?k_L_doubter ?a_L_whole ?l_L_whole ?c_L_whole ?k_L_whole ?a_L_heads ?l_L_heads ?c_L_heads ?k_L_heads ?a_L_count ?l_L_count ?c_L_count ?k_L_count ?a_L_span ?l_L_span ?c_L_span ?k_L_span ?a_L_deeds_in ?l_L_deeds_in ?c_L_deeds_in ?k_L_deeds_in ?a_L_is_stake ?l_L_is_stake ?c_L_is_stake ?k_L_is_stake ?a_L_is_doubter ?l_L_is_doubter ?c_L_is_doubter ?k_L_is_doubter ?a_L_name ?l_L_name ?c_L_name ?k_L_name ?a_L_odd ?l_L_odd ?c_L_odd ?k_L_odd ?a_L_bent ?l_L_bent ?c_L_bent ?k_L_bent ?a_law ?l_law ?c_law ?k_law ?a_S ?l_S ?k_S ?w_S ?x_S ?n_fig ?t_fig ?v_fig ?n_reg ?t_reg ?v_reg ?n_share ?t_share ?v_share ?n_sum ?t_sum ?v_sum ?n_less ?t_less ?v_less ?n_times ?t_times ?v_times ?n_by ?t_by ?v_by ?n_least ?t_least ?v_least ?n_most ?t_most ?v_most ?n_when ?t_when ?v_when ?n_where ?t_where ?v_where ?a_DEEDS ?l_DEEDS ?k_DEEDS ?w_DEEDS ?x_DEEDS ?n_DEEDS_put ?t_DEEDS_put ?v_DEEDS_put ?n_DEEDS_add ?t_DEEDS_add ?v_DEEDS_add ?n_DEEDS_copy ?t_DEEDS_copy ?v_DEEDS_copy ?n_DEEDS_plus ?t_DEEDS_plus ?v_DEEDS_plus ?n_DEEDS_told ?t_DEEDS_told ?v_DEEDS_told ?n_DEEDS_when ?t_DEEDS_when ?v_DEEDS_when ?a_BOUNDS ?l_BOUNDS ?k_BOUNDS ?w_BOUNDS ?n_BOUNDS_figure ?t_BOUNDS_figure ?v_BOUNDS_figure ?n_BOUNDS_place ?t_BOUNDS_place ?v_BOUNDS_place ?n_BOUNDS_factor ?t_BOUNDS_factor ?v_BOUNDS_factor ?n_BOUNDS_line ?t_BOUNDS_line ?v_BOUNDS_line ?i_GREATEST_SCALE ?i_MOST_PARTS ?i_MOST_DEEP_expressions ?i_MOST_DEEP_doubters ?i_HOW_MANY_REGISTERS ?i_LONGEST_NAME ?i_MOST_DEEDS ?i_WIDEST ?i_LETTERS ?z_len ?z_sum ?z_max ?z_min ?z_abs ?z_int ?z_tuple ?z_range ?z_sorted ?z_zip ?z_isinstance ?z_list ?z_all ?z_repr ?z_str ?z_enumerate ?z_bool
    (case a_is_number => k_is); (case l_is_number => k_is); (case c_is_number => k_is); (case k_is_number => k_is); (case a_is_within => k_is); (case l_is_within => k_is); (case c_is_within => k_is); (case k_is_within => k_is); (case a_fits => k_is); (case l_fits => k_is); (case c_fits => k_is); (case k_fits => k_is); (case a_first_word => k_is); (case l_first_word => k_is); (case c_first_word => k_is); (case k_first_word => k_is); (case a_fits_shape => k_is); (case l_fits_shape => k_is); (case c_fits_shape => k_is); (case k_fits_shape => k_is); (case a_has_shape => k_is); (case l_has_shape => k_is); (case c_has_shape => k_is); (case k_has_shape => k_is); (case a_is_registers => k_is); (case l_is_registers => k_is); (case c_is_registers => k_is); (case k_is_registers => k_is); (case a_parts => k_is); (case l_parts => k_is); (case c_parts => k_is); (case k_parts => k_is); (case a_count_parts => k_is); (case l_count_parts => k_is); (case c_count_parts => k_is); (case k_count_parts => k_is); (case a_is_expression => k_is); (case l_is_expression => k_is); (case c_is_expression => k_is); (case k_is_expression => k_is); (case a_join_spans => k_is); (case l_join_spans => k_is); (case c_join_spans => k_is); (case k_join_spans => k_is); (case a_span => k_is); (case l_span => k_is); (case c_span => k_is); (case k_span => k_is); (case a_is_name => k_is); (case l_is_name => k_is); (case c_is_name => k_is); (case k_is_name => k_is); (case a_power => k_is); (case l_power => k_is); (case c_power => k_is); (case k_power => k_is); (case a_count_deed => k_is); (case l_count_deed => k_is); (case c_count_deed => k_is); (case k_count_deed => k_is); (case a_count_deeds => k_is); (case l_count_deeds => k_is); (case c_count_deeds => k_is); (case k_count_deeds => k_is); (case a_is_stake => k_is); (case l_is_stake => k_is); (case c_is_stake => k_is); (case k_is_stake => k_is); (case a_are_stakes => k_is); (case l_are_stakes => k_is); (case c_are_stakes => k_is); (case k_are_stakes => k_is); (case a_are_behinds => k_is); (case l_are_behinds => k_is); (case c_are_behinds => k_is); (case k_are_behinds => k_is); (case a_is_doubter => k_is); (case l_is_doubter => k_is); (case c_is_doubter => k_is); (case k_is_doubter => k_is); (case a_L_hand => k_is); (case l_L_hand => k_is); (case c_L_hand => k_is); (case k_L_hand => k_is); (case a_L_take => k_is); (case l_L_take => k_is); (case c_L_take => k_is); (case k_L_take => k_is); (case a_L_of => k_is); (case l_L_of => k_is); (case c_L_of => k_is); (case k_L_of => k_is); (case a_L_figure => k_is); (case l_L_figure => k_is); (case c_L_figure => k_is); (case k_L_figure => k_is); (case a_L_registers => k_is); (case l_L_registers => k_is); (case c_L_registers => k_is); (case k_L_registers => k_is); (case a_L_leaf => k_is); (case l_L_leaf => k_is); (case c_L_leaf => k_is); (case k_L_leaf => k_is); (case a_L_expression => k_is); (case l_L_expression => k_is); (case c_L_expression => k_is); (case k_L_expression => k_is); (case a_L_stake => k_is); (case l_L_stake => k_is); (case c_L_stake => k_is); (case k_L_stake => k_is); (case a_L_deeds => k_is); (case l_L_deeds => k_is); (case c_L_deeds => k_is); (case k_L_deeds => k_is); (case a_L_doubter => k_is); (case l_L_doubter => k_is); (case c_L_doubter => k_is); (case k_L_doubter => k_is); (case a_L_whole => k_is); (case l_L_whole => k_is); (case c_L_whole => k_is); (case k_L_whole => k_is); (case a_L_heads => k_is); (case l_L_heads => k_is); (case c_L_heads => k_is); (case k_L_heads => k_is); (case a_L_count => k_is); (case l_L_count => k_is); (case c_L_count => k_is); (case k_L_count => k_is); (case a_L_span => k_is); (case l_L_span => k_is); (case c_L_span => k_is); (case k_L_span => k_is); (case a_L_deeds_in => k_is); (case l_L_deeds_in => k_is); (case c_L_deeds_in => k_is); (case k_L_deeds_in => k_is); (case a_L_is_stake => k_is); (case l_L_is_stake => k_is); (case c_L_is_stake => k_is); (case k_L_is_stake => k_is); (case a_L_is_doubter => k_is); (case l_L_is_doubter => k_is); (case c_L_is_doubter => k_is); (case k_L_is_doubter => k_is); (case a_L_name => k_is); (case l_L_name => k_is); (case c_L_name => k_is); (case k_L_name => k_is); (case a_L_odd => k_is); (case l_L_odd => k_is); (case c_L_odd => k_is); (case k_L_odd => k_is); (case a_L_bent => k_is); (case l_L_bent => k_is); (case c_L_bent => k_is); (case k_L_bent => k_is); (case a_law => k_is); (case l_law => k_is); (case c_law => k_is); (case k_law => k_is); (case a_S => k_is); (case l_S => k_is); (case n_fig => k_is); (case t_fig => k_is); (case n_reg => k_is); (case t_reg => k_is); (case n_share => k_is); (case t_share => k_is); (case n_sum => k_is); (case t_sum => k_is); (case n_less => k_is); (case t_less => k_is); (case n_times => k_is); (case t_times => k_is); (case n_by => k_is); (case t_by => k_is); (case n_least => k_is); (case t_least => k_is); (case n_most => k_is); (case t_most => k_is); (case n_when => k_is); (case t_when => k_is); (case n_where => k_is); (case t_where => k_is); (case a_DEEDS => k_is); (case l_DEEDS => k_is); (case n_DEEDS_put => k_is); (case t_DEEDS_put => k_is); (case n_DEEDS_add => k_is); (case t_DEEDS_add => k_is); (case n_DEEDS_copy => k_is); (case t_DEEDS_copy => k_is); (case n_DEEDS_plus => k_is); (case t_DEEDS_plus => k_is); (case n_DEEDS_told => k_is); (case t_DEEDS_told => k_is); (case n_DEEDS_when => k_is); (case t_DEEDS_when => k_is); (case a_BOUNDS => k_is); (case l_BOUNDS => k_is); (case n_BOUNDS_figure => k_is); (case t_BOUNDS_figure => k_is); (case n_BOUNDS_place => k_is); (case t_BOUNDS_place => k_is); (case n_BOUNDS_factor => k_is); (case t_BOUNDS_factor => k_is); (case n_BOUNDS_line => k_is); (case t_BOUNDS_line => k_is); (case i_GREATEST_SCALE => k_is); (case i_MOST_PARTS => k_is); (case i_MOST_DEEP_expressions => k_is); (case i_MOST_DEEP_doubters => k_is); (case i_HOW_MANY_REGISTERS => k_is); (case i_LONGEST_NAME => k_is); (case i_MOST_DEEDS => k_is); (case i_WIDEST => k_is); (case i_LETTERS => k_is); (case z_len => k_is); (case z_sum => k_is); (case z_max => k_is); (case z_min => k_is); (case z_abs => k_is); (case z_int => k_is); (case z_tuple => k_is); (case z_range => k_is); (case z_sorted => k_is); (case z_zip => k_is); (case z_isinstance => k_is); (case z_list => k_is); (case z_all => k_is); (case z_repr => k_is); (case z_str => k_is); (case z_enumerate => k_is); (case z_bool => k_is)
    (case k_S => repeat (first | exact trivial | refine ⟨⟨_, _, rfl, rfl⟩, ?_⟩))
    (case w_S => first | rfl | decide)
    (case x_S => first | rfl | decide +kernel)
    (case v_fig => exact .cons ⟨_, rfl⟩ (.nil))
    (case v_reg => exact .cons ⟨_, rfl⟩ (.nil))
    (case v_share => exact .cons ⟨_, rfl⟩ (.nil))
    (case v_sum => exact .cons ⟨_, rfl⟩ (.cons ⟨_, rfl⟩ (.nil)))
    (case v_less => exact .cons ⟨_, rfl⟩ (.cons ⟨_, rfl⟩ (.nil)))
    (case v_times => exact .cons ⟨_, rfl⟩ (.cons ⟨_, rfl⟩ (.nil)))
    (case v_by => exact .cons ⟨_, rfl⟩ (.cons ⟨_, rfl⟩ (.nil)))
    (case v_least => exact .cons ⟨_, rfl⟩ (.cons ⟨_, rfl⟩ (.nil)))
    (case v_most => exact .cons ⟨_, rfl⟩ (.cons ⟨_, rfl⟩ (.nil)))
    (case v_when => exact .cons ⟨_, rfl⟩ (.cons ⟨_, rfl⟩ (.cons ⟨_, rfl⟩ (.cons ⟨_, rfl⟩ (.nil)))))
    (case v_where => exact .cons ⟨_, rfl⟩ (.cons ⟨_, rfl⟩ (.cons ⟨_, rfl⟩ (.cons ⟨_, rfl⟩ (.nil)))))
    (case k_DEEDS => repeat (first | exact trivial | refine ⟨⟨_, _, rfl, rfl⟩, ?_⟩))
    (case w_DEEDS => first | rfl | decide)
    (case x_DEEDS => first | rfl | decide +kernel)
    (case v_DEEDS_put => exact .cons ⟨_, rfl⟩ (.cons ⟨_, rfl⟩ (.nil)))
    (case v_DEEDS_add => exact .cons ⟨_, rfl⟩ (.cons ⟨_, rfl⟩ (.nil)))
    (case v_DEEDS_copy => exact .cons ⟨_, rfl⟩ (.cons ⟨_, rfl⟩ (.nil)))
    (case v_DEEDS_plus => exact .cons ⟨_, rfl⟩ (.cons ⟨_, rfl⟩ (.nil)))
    (case v_DEEDS_told => exact .cons ⟨_, rfl⟩ (.cons ⟨_, rfl⟩ (.nil)))
    (case v_DEEDS_when => exact .cons ⟨_, rfl⟩ (.cons ⟨_, rfl⟩ (.cons ⟨_, rfl⟩ (.cons ⟨_, rfl⟩ (.nil)))))
    (case k_BOUNDS => repeat (first | exact trivial | refine ⟨⟨_, _, rfl, rfl⟩, ?_⟩))
    (case w_BOUNDS => first | rfl | decide)
    (case v_BOUNDS_figure => exact .cons ⟨_, rfl⟩ (.cons ⟨_, rfl⟩ (.nil)))
    (case v_BOUNDS_place => exact .cons ⟨_, rfl⟩ (.cons ⟨_, rfl⟩ (.nil)))
    (case v_BOUNDS_factor => exact .cons ⟨_, rfl⟩ (.cons ⟨_, rfl⟩ (.nil)))
    (case v_BOUNDS_line => exact .cons ⟨_, rfl⟩ (.cons ⟨_, rfl⟩ (.nil)))

