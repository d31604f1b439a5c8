import PyProof.Rows.All
import Wide.All
import OpenK.AllK
import Wide.FinOn
import HandS.Base
import HandS.Call
import HandS.List
import HandS.Comp
import HandS.Ends
import HandS.Dict
import HandS.Iter
import HandS.Text
import HandS.Words
import HandS.WordsList
import HandS.WordsDict
import HandS.Conv
import HandS.Codes
import HandS.Wide
import HandS.Style
import KE.KTupSum
import HandS.Walk
import HandS.More
import HandS.Zip
import HandS.IsInst
import HandS.NoneIn
import PyProof.ReprRoads
import PyProof.ReprLen
import KE.KRevSl
import HandS.DeepEq
import HandS.TupAny
import HandS.TupMul
import KE.GoesMore
import KE.GoesEnum
import HandS.Sort
import PyProof.FactsAll.tuple_2
import HandS.RaiseMore
import HandS.TupLe
import KE.DataMinMax
import HandS.WideBits
import HandS.Flt
import HandS.Defaults
import KE.KEqNest
import PyProof.Rows.IntBool
import HandS.DictTup
import HandS.TupLen
import KE.KDictPairs
import KE.KDictCopyH
import HandS.SortKw
import PySem.Challenge.RW_nonegrowsrich_k27_houses_of_anything
set_option Elab.async false
set_option linter.all false
set_option maxRecDepth 100000
set_option maxHeartbeats 4000000
namespace NG
open PySem PySem.Spec PyProof.Rows L2

/-! ### sum of a tuple -/
theorem cr_sumT {X : Cx} (hc : X.calm = true) : CallR X (.builtin "sum") (fun vs H Q => ∃ (a : Addr) (ns : List Int), vs = [V.ref a] ∧ SqT X.K H a (ns.map V.int) ∧ Q (.int ns.sum) H) := by
  intro pins s σ H vs us Q I r h
  obtain ⟨a, ns, rfl, hs, q⟩ := h
  obtain ⟨its, rv, hl, _⟩ := I.tuple hs
  rw [Vals.ref1 r]
  have hi := rv.ints
  obtain ⟨xs, e⟩ := hi.allInts.items
  have hn : numsOf (intItems xs).toList = ns := by rw [← e]; exact hi.numsOf
  rw [nums_intItems] at hn
  rw [e] at hl
  refine PySem.W.ktm_sumG (I.ok.hd hc) hl fun h' tk t' hk => ?_
  rw [preSum_eq, List.take_of_length_le (by simp), hn]
  exact ⟨.int _, H, I.kept hk, ⟨_, rfl⟩, q⟩

/-! ### rules whose reading names the written part, for a comprehension's block -/
theorem ixl {X : Cx} (K : PySem.W.Frag) (h : X.K = K := by rfl) : IxR X (rIxL K) := by
  subst h
  exact ix_list
theorem ixt {X : Cx} (K : PySem.W.Frag) (h : X.K = K := by rfl) : IxR X (rIxT K) := by
  subst h
  exact ix_tup
theorem lenK {X : Cx} (K : PySem.W.Frag) (h : X.K = K := by rfl) : CallR X (.builtin "len") (fun xs H Q => ∃ p ys, xs = [.ref p] ∧ (SqL K H p ys ∨ SqT K H p ys) ∧ Q (.int ys.length) H) := by
  subst h
  exact call_len_seq
theorem sumT {X : Cx} (K : PySem.W.Frag) (hc : X.calm = true) (h : X.K = K := by rfl) : CallR X (.builtin "sum") (fun vs H Q => ∃ (a : Addr) (ns : List Int), vs = [V.ref a] ∧ SqT K H a (ns.map V.int) ∧ Q (.int ns.sum) H) := by
  subst h
  exact cr_sumT hc
theorem sumL {X : Cx} (K : PySem.W.Frag) (hc : X.calm = true) (h : X.K = K := by rfl) : CallR X (.builtin "sum") (rSum K) := by
  subst h
  exact cr_sum hc

/-! ### short words -/
theorem iteFF {c : Bool} {A B : Prop} (hc : c = false) (h : B) : if c = true then A else B := by
  subst hc
  exact iteF h
theorem iteTT {c : Bool} {A B : Prop} (hc : c = true) (h : A) : if c = true then A else B := by
  subst hc
  exact iteT h
theorem iteD {p : Prop} [Decidable p] {A B : Prop} (h1 : p → A) (h2 : ¬ p → B) : if decide p = true then A else B := by
  by_cases h : p
  · rw [decide_eq_true h]
    exact iteT (h1 h)
  · rw [decide_eq_false h]
    exact iteF (h2 h)
theorem at_mem {xs : List V} {i : Int} (h0 : 0 ≤ i) (h1 : i < xs.length) : ∃ v, atI xs i = some v ∧ v ∈ xs := by
  have hj : i.toNat < xs.length := by omega
  refine ⟨xs[i.toNat], ?_, List.getElem_mem hj⟩
  exact at_of (j := i.toNat) (by omega) (List.getElem?_eq_getElem hj)
theorem at_int {ns : List Int} {i : Int} (h0 : 0 ≤ i) (h1 : i < ns.length) : atI (ns.map V.int) i = some (.int (ns.getD i.toNat 0)) := by
  have hj : i.toNat < ns.length := by omega
  refine at_of (j := i.toNat) (by omega) ?_
  rw [List.getElem?_map, List.getElem?_eq_getElem hj, List.getD_eq_getElem?_getD, List.getElem?_eq_getElem hj]
  rfl

/-- an expression, with a word behind it -/
def tCutE (t : TE) : TE := fun σ H Q => ∃ M : VK, t σ H M ∧ ∀ v H', M v H' → Q v H'
theorem pe_cut {X : Cx} {e : Expr} {t : TE} (h : PE X e t) : PE X e (tCutE t) :=
  ⟨fun pins s σ H Q I ⟨M, hm, hq⟩ => thn (h.run pins s σ H M I hm) fun u s1 ⟨x, H1, I1, r, q⟩ => ⟨x, H1, I1, r, hq _ _ q⟩⟩

/-! ### heaps: all but one object is as it was -/
def But (a : Addr) (H H' : Hp) : Prop := ∀ b o, b ≠ a → H b = some o → H' b = some o
theorem But.refl (a : Addr) (H : Hp) : But a H H := fun _ _ _ h => h
theorem But.trans {a : Addr} {H H1 H2 : Hp} (x : But a H H1) (y : But a H1 H2) : But a H H2 := fun b o n h => y b o n (x b o n h)
theorem But.of {a : Addr} {H H' : Hp} (x : Same H H') : But a H H' := fun b o _ h => x b o h
theorem But.new {a p : Addr} {H : Hp} {o : HO} (h : H p = none) : But a H (upd H p o) := fun b u _ e => by
  rw [upd_ne (ne_of_none e h)]
  exact e
theorem But.put {a : Addr} {H : Hp} {o : HO} : But a H (upd H a o) := fun b u n e => by
  rw [upd_ne n]
  exact e
theorem But.same {a : Addr} {H H' : Hp} (x : But a H H') (h : H a = none) : Same H H' := fun b o e => x b o (ne_of_none e h) e
theorem same_new {p : Addr} {H : Hp} {o : HO} (h : H p = none) : Same H (upd H p o) := fun b u e => by
  rw [upd_ne (ne_of_none e h)]
  exact e
theorem But.free {a b : Addr} {H H' : Hp} {o : HO} (x : But a H H') (h : H a = some o) (n : H' b = none) (n2 : H' a ≠ none) : H b = none := by
  cases q : H b with
  | none => rfl
  | some u =>
    by_cases e : b = a
    · subst e
      exact absurd n n2
    · rw [x b u e q] at n
      cases n
theorem But.sqt {a p : Addr} {H H' : Hp} {K : PySem.W.Frag} {l xs : List V} (x : But a H H') (h : H a = some (.lst l)) (q : SqT K H p xs) : SqT K H' p xs := by
  rcases q with (q | ⟨o, q⟩) | q
  · exact .inl (.inl (x _ _ (ne_of q h (by intro z; cases z)) q))
  · exact .inl (.inr ⟨o, x _ _ (ne_of q h (by intro z; cases z)) q⟩)
  · exact .inr q
theorem same_sqt {p : Addr} {H H' : Hp} {K : PySem.W.Frag} {xs : List V} (x : Same H H') (q : SqT K H p xs) : SqT K H' p xs := by
  rcases q with (q | ⟨o, q⟩) | q
  · exact .inl (.inl (x _ _ q))
  · exact .inl (.inr ⟨o, x _ _ q⟩)
  · exact .inr q

/-! ### the hand -/
def HandAt (H : Hp) (a : Addr) (n : Nat) : Prop := ∃ g s m : Int, H a = some (.lst [.int g, .int s, .int m]) ∧ 0 ≤ g ∧ 0 ≤ s ∧ 0 ≤ m ∧ m ≤ n
theorem HandAt.le {H : Hp} {a : Addr} {n k : Nat} (h : HandAt H a n) (l : n ≤ k) : HandAt H a k := by
  obtain ⟨g, s, m, e, h1, h2, h3, h4⟩ := h
  exact ⟨g, s, m, e, h1, h2, h3, by omega⟩
theorem HandAt.new {H : Hp} {a p : Addr} {n : Nat} {o : HO} (h : HandAt H a n) (hp : H p = none) : HandAt (upd H p o) a n := by
  obtain ⟨g, s, m, e, h1, h2, h3, h4⟩ := h
  exact ⟨g, s, m, by rw [upd_ne (ne_of_none e hp)]; exact e, h1, h2, h3, h4⟩
theorem HandAt.put {H : Hp} {a p : Addr} {n : Nat} {o : HO} (h : HandAt H a n) (hp : p ≠ a) : HandAt (upd H p o) a n := by
  obtain ⟨g, s, m, e, h1, h2, h3, h4⟩ := h
  exact ⟨g, s, m, by rw [upd_ne (Ne.symm hp)]; exact e, h1, h2, h3, h4⟩
theorem HandAt.ne {H : Hp} {a p : Addr} {n : Nat} (h : HandAt H a n) (hp : H p = none) : p ≠ a := by
  obtain ⟨g, s, m, e, _⟩ := h
  exact (ne_of_none e hp).symm
theorem HandAt.some {H : Hp} {a : Addr} {n : Nat} (h : HandAt H a n) : ∃ l, H a = some (.lst l) := by
  obtain ⟨g, s, m, e, _⟩ := h
  exact ⟨_, e⟩
theorem But.sq {a p : Addr} {H H' : Hp} {K : PySem.W.Frag} {n : Nat} {xs : List V} (x : But a H H') (h : HandAt H a n) (q : SqT K H p xs) : SqT K H' p xs := by
  obtain ⟨l, e⟩ := h.some
  exact x.sqt e q

structure Bl (mg : Str → Option Value) : Prop where
  len : mg "len" = none
  sum : mg "sum" = none
  max : mg "max" = none
  min : mg "min" = none
  abs : mg "abs" = none
  int : mg "int" = none
  tuple : mg "tuple" = none
  range : mg "range" = none
  sorted : mg "sorted" = none
  zip : mg "zip" = none
  isinstance : mg "isinstance" = none
  list : mg "list" = none
  all : mg "all" = none
  repr : mg "repr" = none
  str : mg "str" = none
  enumerate : mg "enumerate" = none

/-! ### a def that may be called by its name -/
structure Cal (P : Program) (w : World) (K : PySem.W.Frag) (mg : Str → Option Value) (base : Heap) (k : Nat) (x : Str) (sp : Sp) : Prop where
  ex : ∃ (f : Addr) (fd : FuncData) (ps : List Str), FnOk P w K mg base CX0 k f fd ps sp ∧ mg x = some (.ref f) ∧ PySem.W.keepIn K (.ref f) = true ∧ Binds K fd ps []
section
variable {X : Cx} {k j : Nat} {x : Str} {sp : Sp} {p pos : Pos} {e : Expr} {es : List Expr} {t : TA}
theorem pe_c (c : Cal X.prog X.w X.K X.mg X.base k x sp) (hr : Room j X.A) (hk : k ≤ j) (hg : Gl X x) (ha : PA X (e :: es) t)
    (hdb : (x == ("__debug__" : Str)) = false := by decide) (he : starEach (e :: es) X.env = (false, eval e X.env) :: starEach es X.env := by rfl) (hpl : (backTo pos (starEach es X.env)).any (·.1) = false := by rfl) :
    PE X (.Call (.Name x p) (e :: es) [] pos) (tCall sp [] E0 t) := by
  obtain ⟨f, fd, ps, F, hm, kp, b⟩ := c.ex
  exact pe_call F (hr.mono hk) hg hm kp b .nil pass0 ha hdb he hpl
end
theorem Cal.mono {P : Program} {w : World} {K : PySem.W.Frag} {mg : Str → Option Value} {base : Heap} {j k : Nat} {x : Str} {sp : Sp} (c : Cal P w K mg base j x sp) (h : j ≤ k) : Cal P w K mg base k x sp := by
  obtain ⟨f, fd, ps, F, r⟩ := c.ex
  exact ⟨f, fd, ps, F.mono h, r⟩

/-! ### promises of the draws -/
def spTake : Sp := fun vs H Q _ => ∃ (a : Addr) (many : Int) (n : Nat), vs = [.ref a, .int many] ∧ 0 < many ∧ many < 2 ^ 62 ∧ HandAt H a n ∧ n ≤ 1000000000 ∧
  ∀ H' r, But a H H' → HandAt H' a (n + 1) → 0 ≤ r → r < many → Q (.int r) H'
def spHand (K : PySem.W.Frag) : Sp := fun vs H Q _ => ∃ (a : Addr) (k : Int) (ns : List Int), vs = [.ref a, .int k] ∧ 0 ≤ k ∧ k < 1000 ∧ SqL K H a (ns.map V.int) ∧
  ∀ p g s, H p = none → 0 ≤ g → 0 ≤ s → Q (.ref p) (upd H p (.lst [.int g, .int s, .int 0]))
/-- an item of a list that is given -/
def spOf (K : PySem.W.Frag) : Sp := fun vs H Q _ => ∃ (a b : Addr) (xs : List V) (n : Nat), vs = [.ref a, .ref b] ∧ a ≠ b ∧ H b = some (.lst xs) ∧ 0 < xs.length ∧ xs.length ≤ 1000 ∧ HandAt H a n ∧ n ≤ 1000000000 ∧
  ∀ H' v, But a H H' → HandAt H' a (n + 1) → v ∈ xs → Q v H'
def spFigure : Sp := fun vs H Q _ => ∃ (a : Addr) (n : Nat), vs = [.ref a] ∧ HandAt H a n ∧ n ≤ 999999990 ∧
  ∀ H' c, But a H H' → HandAt H' a (n + 3) → -1000 ≤ c → c ≤ 1000 → Q (.int c) H'
end NG

namespace NG
open PySem PySem.Spec PyProof.Rows L2

/-! ### expressions -/
inductive W4 where
  | sum | less | least | most
  deriving DecidableEq
def wn : W4 → Str
  | .sum => "sum"
  | .less => "less"
  | .least => "least"
  | .most => "most"
inductive Ex where
  | fig (c : Int) | reg (i : Nat) | share (j : Nat)
  | two (w : W4) (a b : Ex)
  | times (f : Int) (a : Ex) | by (i : Nat) (a : Ex)
  | when (i : Nat) (c : Int) (a b : Ex) | whr (j : Nat) (c : Int) (a b : Ex)
def ExAt (K : PySem.W.Frag) (H : Hp) : Ex → V → Prop
  | .fig c, v => ∃ p, v = .ref p ∧ SqT K H p [.str "fig", .int c]
  | .reg i, v => ∃ p, v = .ref p ∧ SqT K H p [.str "reg", .int (i : Int)]
  | .share j, v => ∃ p, v = .ref p ∧ SqT K H p [.str "share", .int (j : Int)]
  | .two w a b, v => ∃ p x y, v = .ref p ∧ SqT K H p [.str (wn w), x, y] ∧ ExAt K H a x ∧ ExAt K H b y
  | .times f a, v => ∃ p x, v = .ref p ∧ SqT K H p [.str "times", .int f, x] ∧ ExAt K H a x
  | .by i a, v => ∃ p x, v = .ref p ∧ SqT K H p [.str "by", .int (i : Int), x] ∧ ExAt K H a x
  | .when i c a b, v => ∃ p x y, v = .ref p ∧ SqT K H p [.str "when", .int (i : Int), .int c, x, y] ∧ ExAt K H a x ∧ ExAt K H b y
  | .whr j c a b, v => ∃ p x y, v = .ref p ∧ SqT K H p [.str "where", .int (j : Int), .int c, x, y] ∧ ExAt K H a x ∧ ExAt K H b y
theorem ExAt.imp {K : PySem.W.Frag} {H H' : Hp} (h : ∀ p xs, SqT K H p xs → SqT K H' p xs) : ∀ {e : Ex} {v : V}, ExAt K H e v → ExAt K H' e v
  | .fig _, _, ⟨p, e, q⟩ => ⟨p, e, h _ _ q⟩
  | .reg _, _, ⟨p, e, q⟩ => ⟨p, e, h _ _ q⟩
  | .share _, _, ⟨p, e, q⟩ => ⟨p, e, h _ _ q⟩
  | .two _ _ _, _, ⟨p, x, y, e, q, a, b⟩ => ⟨p, x, y, e, h _ _ q, ExAt.imp h a, ExAt.imp h b⟩
  | .times _ _, _, ⟨p, x, e, q, a⟩ => ⟨p, x, e, h _ _ q, ExAt.imp h a⟩
  | .by _ _, _, ⟨p, x, e, q, a⟩ => ⟨p, x, e, h _ _ q, ExAt.imp h a⟩
  | .when _ _ _ _, _, ⟨p, x, y, e, q, a, b⟩ => ⟨p, x, y, e, h _ _ q, ExAt.imp h a, ExAt.imp h b⟩
  | .whr _ _ _ _, _, ⟨p, x, y, e, q, a, b⟩ => ⟨p, x, y, e, h _ _ q, ExAt.imp h a, ExAt.imp h b⟩
theorem ExAt.but {K : PySem.W.Frag} {H H' : Hp} {a : Addr} {n : Nat} {e : Ex} {v : V} (x : ExAt K H e v) (b : But a H H') (h : HandAt H a n) : ExAt K H' e v := x.imp fun _ _ q => b.sq h q
theorem ExAt.same {K : PySem.W.Frag} {H H' : Hp} {e : Ex} {v : V} (x : ExAt K H e v) (b : Same H H') : ExAt K H' e v := x.imp fun _ _ q => same_sqt b q
theorem ExAt.new {K : PySem.W.Frag} {H : Hp} {p : Addr} {o : HO} {e : Ex} {v : V} (x : ExAt K H e v) (n : H p = none) : ExAt K (upd H p o) e v := x.same (same_new n)
def ExOk (many : Nat) : Ex → Prop
  | .fig c => -1000 ≤ c ∧ c ≤ 1000
  | .reg i => i < 4
  | .share j => j < many
  | .two _ a b => ExOk many a ∧ ExOk many b
  | .times f a => (-9 ≤ f ∧ f ≤ 9) ∧ ExOk many a
  | .by i a => i < 4 ∧ ExOk many a
  | .when i c a b => i < 4 ∧ (-1000 ≤ c ∧ c ≤ 1000) ∧ ExOk many a ∧ ExOk many b
  | .whr j c a b => j < many ∧ (1 ≤ c ∧ c ≤ 1000) ∧ ExOk many a ∧ ExOk many b
def Ex.dep : Ex → Nat
  | .fig _ => 1
  | .reg _ => 1
  | .share _ => 1
  | .two _ a b => max a.dep b.dep + 1
  | .times _ a => a.dep + 1
  | .by _ a => a.dep + 1
  | .when _ _ a b => max a.dep b.dep + 1
  | .whr _ _ a b => max a.dep b.dep + 1
def jw : W4 → Int → Int → Int
  | .sum, x, y => x + y
  | .less, x, y => x - y
  | .least, x, y => if y < x then y else x
  | .most, x, y => if y > x then y else x
def wo (rs ss : List Int) : Ex → Int
  | .fig c => c * ss.sum
  | .reg i => rs.getD i 0 * ss.sum
  | .share j => 1000 * ss.getD j 0
  | .two w a b => jw w (wo rs ss a) (wo rs ss b)
  | .times f a => f * wo rs ss a
  | .by i a => rs.getD i 0 * wo rs ss a
  | .when i c a b => if rs.getD i 0 < c then wo rs ss a else wo rs ss b
  | .whr j c a b => if 1000 * ss.getD j 0 < c * ss.sum then wo rs ss a else wo rs ss b
theorem at_nth {ns : List Int} {i : Nat} (h : i < ns.length) : atI (ns.map V.int) (i : Int) = some (.int (ns.getD i 0)) := at_int (by omega) (by omega)

def RegsAt (K : PySem.W.Frag) (H : Hp) (rs : List Int) (v : V) : Prop := ∃ p, v = .ref p ∧ SqT K H p (rs.map V.int) ∧ rs.length = 4 ∧ ∀ x ∈ rs, -1000 ≤ x ∧ x ≤ 1000
def ShAt (K : PySem.W.Frag) (H : Hp) (many : Nat) (ss : List Int) (v : V) : Prop := ∃ p, v = .ref p ∧ SqT K H p (ss.map V.int) ∧ ss.length = many ∧ (∀ x ∈ ss, 0 ≤ x ∧ x < 2 ^ 50) ∧ 0 < ss.sum ∧ ss.sum < 2 ^ 60
theorem RegsAt.imp {K : PySem.W.Frag} {H H' : Hp} {rs : List Int} {v : V} (r : RegsAt K H rs v) (h : ∀ p xs, SqT K H p xs → SqT K H' p xs) : RegsAt K H' rs v := by
  obtain ⟨p, e, q, l⟩ := r
  exact ⟨p, e, h _ _ q, l⟩
theorem ShAt.imp {K : PySem.W.Frag} {H H' : Hp} {many : Nat} {rs : List Int} {v : V} (r : ShAt K H many rs v) (h : ∀ p xs, SqT K H p xs → SqT K H' p xs) : ShAt K H' many rs v := by
  obtain ⟨p, e, q, l⟩ := r
  exact ⟨p, e, h _ _ q, l⟩
theorem getD_mem {ns : List Int} {i : Nat} (h : i < ns.length) : ns.getD i 0 ∈ ns := by
  rw [List.getD_eq_getElem?_getD, List.getElem?_eq_getElem h]
  exact List.getElem_mem h

/-! ### promises -/
def spWorth (K : PySem.W.Frag) (n : Nat) : Sp := fun vs H Q _ => ∃ (v r s : V) (e : Ex) (many : Nat) (rs ss : List Int), vs = [v, r, s] ∧ ExAt K H e v ∧ ExOk many e ∧ e.dep ≤ n ∧ RegsAt K H rs r ∧ ShAt K H many ss s ∧ Q (.int (wo rs ss e)) H
def spJoinW : Sp := fun vs H Q _ => ∃ (w : W4) (x y : Int), vs = [.str (wn w), .int x, .int y] ∧ Q (.int (jw w x y)) H
def spLed (K : PySem.W.Frag) : Sp := fun vs H Q _ => ∃ (p : Addr) (r x y : V) (i : Nat) (c : Int) (rs : List Int), vs = [.ref p, r] ∧ SqT K H p [.str "when", .int (i : Int), .int c, x, y] ∧ i < 4 ∧ RegsAt K H rs r ∧ Q (if rs.getD i 0 < c then x else y) H
def spSide (K : PySem.W.Frag) : Sp := fun vs H Q _ => ∃ (p : Addr) (s x y : V) (many j : Nat) (c : Int) (ss : List Int), vs = [.ref p, s] ∧ SqT K H p [.str "where", .int (j : Int), .int c, x, y] ∧ j < many ∧ (1 ≤ c ∧ c ≤ 1000) ∧ ShAt K H many ss s ∧ Q (if 1000 * ss.getD j 0 < c * ss.sum then x else y) H
def spMills (K : PySem.W.Frag) : Sp := fun vs H Q _ => ∃ (s : V) (many j : Nat) (ss : List Int), vs = [s, .int (j : Int)] ∧ ShAt K H many ss s ∧ j < many ∧ Q (.int (1000 * ss.getD j 0 / ss.sum)) H
def cost : Nat → Nat
  | 0 => 6
  | n + 1 => 2 * cost n + 20
theorem cost_ge (l : Nat) : 6 ≤ cost l := by
  cases l with
  | zero => exact Nat.le_refl _
  | succ l =>
    unfold cost
    omega
def spLeaf (K : PySem.W.Frag) : Sp := fun vs H Q _ => ∃ (a : Addr) (many n : Nat), vs = [.ref a, .int (many : Int)] ∧ 1 ≤ many ∧ many ≤ 1000 ∧ HandAt H a n ∧ n ≤ 999999000 ∧
  ∀ H' v e, But a H H' → HandAt H' a (n + 5) → ExAt K H' e v → ExOk many e → e.dep ≤ 1 → Q v H'
def spExpr (K : PySem.W.Frag) (m : Nat) : Sp := fun vs H Q _ => ∃ (a : Addr) (many l n : Nat), vs = [.ref a, .int (many : Int), .int (l : Int), .int 1] ∧ l < m ∧ 1 ≤ many ∧ many ≤ 1000 ∧ HandAt H a n ∧ n + cost l ≤ 999999000 ∧
  ∀ H' v e, But a H H' → HandAt H' a (n + cost l) → ExAt K H' e v → ExOk many e → e.dep ≤ l + 1 → Q v H'
theorem cal_never {P : Program} {w : World} {K : PySem.W.Frag} {mg : Str → Option Value} {base : Heap} {k : Nat} {x qual : Str} {st : Stmt} {f : Addr} {fd : FuncData} {ps : List Str} {sp : Sp} (F : Fun K x qual st f fd) (gF : mg x = some (.ref f)) (b : Binds K fd ps []) (h : ∀ vs H Q E, ¬ sp vs H Q E) : Cal P w K mg base k x sp :=
  ⟨f, fd, ps, ⟨fun vs H Q E q => absurd q (h _ _ _ _), fun A outer s H args us vs Q E _ _ _ _ q => absurd q (h _ _ _ _)⟩, gF, F.kp, b⟩
theorem fn_never {P : Program} {w : World} {K : PySem.W.Frag} {mg : Str → Option Value} {base : Heap} {k : Nat} {f : Addr} {fd : FuncData} {ps : List Str} {sp : Sp} (h : ∀ vs H Q E, ¬ sp vs H Q E) : FnOk P w K mg base CX0 k f fd ps sp :=
  ⟨fun vs H Q E q => absurd q (h _ _ _ _), fun A outer s H args us vs Q E _ _ _ _ q => absurd q (h _ _ _ _)⟩
end NG

namespace NG
open PySem PySem.Spec PyProof.Rows L2

/-! ### the greatest that divides all -/
def gf (g : Nat) (x : Int) : Nat := Nat.gcd g x.toNat
def gl (ns : List Int) : Nat := ns.foldl gf 0
theorem gl_step {ns : List Int} {i : Nat} {x : Int} (h : ns[i]? = some x) : gl (ns.take (i + 1)) = Nat.gcd (gl (ns.take i)) x.toNat := by
  unfold gl
  rw [List.take_add_one, h, List.foldl_append]
  rfl
theorem gf_dvd : ∀ (ns : List Int) (g : Nat), ns.foldl gf g ∣ g ∧ ∀ x ∈ ns, ns.foldl gf g ∣ x.toNat
  | [], g => ⟨Nat.dvd_refl _, fun x h => by cases h⟩
  | y :: ns, g => by
    obtain ⟨h1, h2⟩ := gf_dvd ns (gf g y)
    refine ⟨Nat.dvd_trans h1 (Nat.gcd_dvd_left _ _), fun x hx => ?_⟩
    rcases List.mem_cons.mp hx with rfl | hx
    · exact Nat.dvd_trans h1 (Nat.gcd_dvd_right _ _)
    · exact h2 x hx
theorem gl_dvd {ns : List Int} {x : Int} (h : x ∈ ns) : gl ns ∣ x.toNat := (gf_dvd ns 0).2 x h
theorem gl_pos {ns : List Int} {x : Int} (h : x ∈ ns) (p : 0 < x) : 0 < gl ns := Nat.pos_of_dvd_of_pos (gl_dvd h) (by omega)
theorem sum_nonneg : ∀ {ms : List Int}, (∀ x ∈ ms, 0 ≤ x) → 0 ≤ ms.sum
  | [], _ => by simp
  | y :: ms, h => by
    have := sum_nonneg (ms := ms) fun x hx => h x (List.mem_cons_of_mem _ hx)
    have := h y List.mem_cons_self
    rw [List.sum_cons]
    omega
theorem sum_pos : ∀ {ms : List Int} {x : Int}, (∀ x ∈ ms, 0 ≤ x) → x ∈ ms → 0 < x → 0 < ms.sum
  | y :: ms, x, h, hx, p => by
    have h1 := sum_nonneg (ms := ms) fun x hx => h x (List.mem_cons_of_mem _ hx)
    have h2 := h y List.mem_cons_self
    rw [List.sum_cons]
    rcases List.mem_cons.mp hx with rfl | hx
    · omega
    · have := sum_pos (ms := ms) (fun x hx => h x (List.mem_cons_of_mem _ hx)) hx p
      omega
theorem sum_le {B : Int} : ∀ {ms : List Int}, (∀ x ∈ ms, x ≤ B) → ms.sum ≤ ms.length * B
  | [], _ => by simp
  | y :: ms, h => by
    have h1 := sum_le (ms := ms) fun x hx => h x (List.mem_cons_of_mem _ hx)
    have h2 := h y List.mem_cons_self
    rw [List.sum_cons, List.length_cons, Int.natCast_succ, Int.add_mul]
    omega
theorem div_le_self' {x : Int} {g : Nat} (h : 0 ≤ x) : x / (g : Int) ≤ x := Int.ediv_le_self _ h
/-- what lowest makes -/
def low (ns : List Int) : List Int := ns.map fun x => x / (gl ns : Int)
theorem low_sh {ns : List Int} (hb : ∀ x ∈ ns, 0 ≤ x ∧ x < 2 ^ 50) (hl : ns.length ≤ 1000) {y : Int} (hy : y ∈ ns) (py : 0 < y) :
    (∀ x ∈ low ns, 0 ≤ x ∧ x < 2 ^ 50) ∧ 0 < (low ns).sum ∧ (low ns).sum < 2 ^ 60 := by
  have hg := gl_pos hy py
  have h1 : ∀ x ∈ low ns, 0 ≤ x ∧ x < 2 ^ 50 := fun x hx => by
    obtain ⟨z, hz, rfl⟩ := List.mem_map.mp hx
    have h2 := hb z hz
    exact ⟨Int.ediv_nonneg h2.1 (by omega), Int.lt_of_le_of_lt (div_le_self' h2.1) h2.2⟩
  refine ⟨h1, ?_, ?_⟩
  · refine sum_pos (x := y / (gl ns : Int)) (fun x hx => (h1 x hx).1) (List.mem_map.mpr ⟨y, hy, rfl⟩) ?_
    have hd : (gl ns : Nat) ≤ y.toNat := Nat.le_of_dvd (by omega) (gl_dvd hy)
    exact Int.ediv_pos_of_pos_of_dvd py (by omega) (by
      have : ((gl ns : Nat) : Int) ∣ ((y.toNat : Nat) : Int) := Int.natCast_dvd_natCast.mpr (gl_dvd hy)
      rwa [Int.toNat_of_nonneg (by omega)] at this)
  · have h3 := sum_le (B := 2 ^ 50) (ms := low ns) fun x hx => Int.le_of_lt (h1 x hx).2
    have h4 : (low ns).length ≤ 1000 := by
      unfold low
      rw [List.length_map]
      exact hl
    have h5 : ((low ns).length : Int) * 2 ^ 50 ≤ 1000 * 2 ^ 50 := Int.mul_le_mul_of_nonneg_right (by omega) (by decide)
    have h6 : (1000 : Int) * 2 ^ 50 < 2 ^ 60 := by decide
    omega
theorem gcd_turn {u v : Nat} : Nat.gcd v (u % v) = Nat.gcd u v := by
  rw [Nat.gcd_comm v, ← Nat.gcd_rec, Nat.gcd_comm]
theorem ixN_of {n : Nat} {r : Int} (h0 : 0 ≤ r) (h1 : r < n) : ixN n r = some r.toNat := by
  unfold ixN
  rw [if_pos h0, if_pos h1]

theorem tYes_in {σ : L2.St} {H : Hp} {A B : Hp → Prop} (h : A H) : tYes σ H (fun b H3 => if b = true then A H3 else B H3) := by
  show if true = true then A H else B H
  exact iteT h

/-! ### promises -/
def spLow (K : PySem.W.Frag) : Sp := fun vs H Q _ => ∃ (p : Addr) (ns : List Int) (y : Int), vs = [.ref p] ∧ H p = some (.lst (ns.map V.int)) ∧ (∀ x ∈ ns, 0 ≤ x ∧ x < 2 ^ 50) ∧ ns.length ≤ 1000 ∧ y ∈ ns ∧ 0 < y ∧
  ∀ H' v ms, Same H H' → ShAt K H' ns.length ms v → Q v H'
def spShares (K : PySem.W.Frag) : Sp := fun vs H Q _ => ∃ (a : Addr) (many n : Nat), vs = [.ref a, .int (many : Int)] ∧ 1 ≤ many ∧ many ≤ 3 ∧ HandAt H a n ∧ n ≤ 999998000 ∧
  ∀ H' v ms, But a H H' → HandAt H' a (n + 20) → ShAt K H' many ms v → Q v H'
def spRegs (K : PySem.W.Frag) : Sp := fun vs H Q _ => ∃ (a : Addr) (n : Nat), vs = [.ref a] ∧ HandAt H a n ∧ n ≤ 999998000 ∧
  ∀ H' v rs, But a H H' → HandAt H' a (n + 12) → RegsAt K H' rs v → Q v H'
def spAsked (K : PySem.W.Frag) : Sp := fun vs H Q _ => ∃ (a : Addr) (many n : Nat), vs = [.ref a, .int (many : Int)] ∧ 2 ≤ many ∧ many ≤ 3 ∧ HandAt H a n ∧ n ≤ 999997000 ∧
  ∀ H' v ms, But a H H' → HandAt H' a (n + 25) → ShAt K H' many ms v → Q v H'
end NG

namespace NG
open PySem PySem.Spec PyProof.Rows L2
/-! ### rows of expressions -/
def RowsAt (K : PySem.W.Frag) (H : Hp) : List V → List Ex → Prop
  | [], [] => True
  | v :: vs, e :: es => ExAt K H e v ∧ RowsAt K H vs es
  | _, _ => False
theorem RowsAt.imp {K : PySem.W.Frag} {H H' : Hp} (h : ∀ p xs, SqT K H p xs → SqT K H' p xs) : ∀ {vs : List V} {es : List Ex}, RowsAt K H vs es → RowsAt K H' vs es
  | [], [], _ => trivial
  | _ :: _, _ :: _, ⟨x, r⟩ => ⟨x.imp h, RowsAt.imp h r⟩
theorem RowsAt.same {K : PySem.W.Frag} {H H' : Hp} {vs : List V} {es : List Ex} (r : RowsAt K H vs es) (s : Same H H') : RowsAt K H' vs es := r.imp fun _ _ q => same_sqt s q
theorem RowsAt.len {K : PySem.W.Frag} {H : Hp} : ∀ {vs : List V} {es : List Ex}, RowsAt K H vs es → vs.length = es.length
  | [], [], _ => rfl
  | _ :: _, _ :: _, ⟨_, r⟩ => by rw [List.length_cons, List.length_cons, r.len]
theorem RowsAt.snoc {K : PySem.W.Frag} {H : Hp} {v : V} {e : Ex} (x : ExAt K H e v) : ∀ {vs : List V} {es : List Ex}, RowsAt K H vs es → RowsAt K H (vs ++ [v]) (es ++ [e])
  | [], [], _ => ⟨x, trivial⟩
  | _ :: _, _ :: _, ⟨y, r⟩ => ⟨y, RowsAt.snoc x r⟩
theorem RowsAt.get {K : PySem.W.Frag} {H : Hp} : ∀ {vs : List V} {es : List Ex} {k : Nat} {e : Ex}, RowsAt K H vs es → es[k]? = some e → ∃ v, vs[k]? = some v ∧ ExAt K H e v
  | [], [], _, _, _, h => by simp at h
  | v :: vs, e' :: es, 0, e, ⟨x, r⟩, h => by
    have : e' = e := Option.some.inj h
    subst this
    exact ⟨v, rfl, x⟩
  | v :: vs, e' :: es, k + 1, e, ⟨x, r⟩, h => RowsAt.get (k := k) r h
def pairUp : List Ex → List Ex
  | a :: b :: r => .two .sum a b :: pairUp r
  | _ => []
theorem pairUp_get : ∀ {es : List Ex} {k : Nat} {a b : Ex}, es[2 * k]? = some a → es[2 * k + 1]? = some b → (pairUp es)[k]? = some (.two .sum a b)
  | [], k, _, _, h, _ => by simp at h
  | [_], k, _, _, _, h => by
    have := (List.getElem?_eq_some_iff.mp h).1
    rw [List.length_singleton] at this
    omega
  | x :: y :: r, 0, a, b, h, h2 => by
    have e1 : x = a := Option.some.inj h
    have e2 : y = b := Option.some.inj h2
    rw [← e1, ← e2]
    rfl
  | x :: y :: r, k + 1, a, b, h, h2 => by
    have h : r[2 * k]? = some a := h
    have h2 : r[2 * k + 1]? = some b := h2
    exact pairUp_get (es := r) (k := k) h h2
theorem pairUp_sum (rs ss : List Int) : ∀ {es : List Ex} {k : Nat}, es.length = 2 * k → ((pairUp es).map (wo rs ss)).sum = (es.map (wo rs ss)).sum ∧ (pairUp es).length = k
  | [], k, h => by
    rw [List.length_nil] at h
    exact ⟨rfl, by show 0 = k; omega⟩
  | [_], k, h => by
    rw [List.length_singleton] at h
    omega
  | x :: y :: r, k, h => by
    rw [List.length_cons, List.length_cons] at h
    obtain ⟨h1, h2⟩ := pairUp_sum rs ss (es := r) (k := k - 1) (by omega)
    refine ⟨?_, ?_⟩
    · show (wo rs ss (.two .sum x y) :: (pairUp r).map (wo rs ss)).sum = (wo rs ss x :: wo rs ss y :: r.map (wo rs ss)).sum
      rw [List.sum_cons, List.sum_cons, List.sum_cons, h1]
      show wo rs ss x + wo rs ss y + _ = _
      omega
    · show (pairUp r).length + 1 = k
      omega
theorem pairUp_ok {many d : Nat} : ∀ {es : List Ex}, (∀ e ∈ es, ExOk many e ∧ e.dep ≤ d) → ∀ e ∈ pairUp es, ExOk many e ∧ e.dep ≤ d + 1
  | [], _, e, h => by cases h
  | [_], _, e, h => by cases h
  | x :: y :: r, h, e, he => by
    have hx := h x List.mem_cons_self
    have hy := h y (List.mem_cons_of_mem _ List.mem_cons_self)
    rcases List.mem_cons.mp he with rfl | he
    · refine ⟨⟨hx.1, hy.1⟩, ?_⟩
      show max x.dep y.dep + 1 ≤ d + 1
      omega
    · exact pairUp_ok (es := r) (fun e he => h e (List.mem_cons_of_mem _ (List.mem_cons_of_mem _ he))) e he
def whn (j : Nat) (z : Int) : Ex := .whr j z (.fig 0) (.fig 1)
theorem count_sum (rs ss : List Int) (j : Nat) (h0 : 0 < ss.sum) : ∀ fs : List Int, ((fs.map (whn j)).map (wo rs ss)).sum = ((fs.filter fun z => decide (z ≤ 1000 * ss.getD j 0 / ss.sum)).length : Int) * ss.sum
  | [] => by simp
  | z :: fs => by
    have ih := count_sum rs ss j h0 fs
    have hm : 1000 * ss.getD j 0 / ss.sum < z ↔ 1000 * ss.getD j 0 < z * ss.sum := Int.ediv_lt_iff_lt_mul h0
    show (wo rs ss (whn j z) :: (fs.map (whn j)).map (wo rs ss)).sum = _
    rw [List.sum_cons, ih]
    show (if 1000 * ss.getD j 0 < z * ss.sum then 0 * ss.sum else 1 * ss.sum) + _ = _
    by_cases c : z ≤ 1000 * ss.getD j 0 / ss.sum
    · rw [List.filter_cons_of_pos (by rw [decide_eq_true c]), if_neg (fun q => by have := hm.mpr q; omega), List.length_cons, Int.natCast_succ, Int.add_mul]
      omega
    · rw [List.filter_cons_of_neg (by rw [decide_eq_false c]; exact Bool.false_ne_true), if_pos (hm.mp (by omega))]
      omega
def spCount (K : PySem.W.Frag) : Sp := fun vs H Q _ => ∃ (a : Addr) (many n : Nat) (s : V) (ss : List Int), vs = [.ref a, .int (many : Int), s] ∧ 2 ≤ many ∧ many ≤ 3 ∧ HandAt H a n ∧ n ≤ 999990000 ∧ ShAt K H many ss s ∧
  ∀ H', But a H H' → HandAt H' a (n + 10) → Q (.bl true) H'
end NG

namespace NG
open PySem PySem.Spec PyProof.Rows L2

/-! ### more rules -/
theorem pgtK {X : Cx} (K : PySem.W.Frag) {es : List Expr} {k : Nat} {t : TGs} {n : Nat} {pos : Pos} (hc : X.calm = true) (h : PGs X es t)
    (hn : (assignEach es X.env).length = n := by rfl) (hst : (assignEach es X.env).findIdx? (·.1) = none := by rfl) (hK : X.K = K := by rfl) : PG X (.Tuple es k pos) (gTup K n t) := by
  subst hK
  exact pg_tup hc h hn hst
theorem inK {X : Cx} (K : PySem.W.Frag) (h : X.K = K := by rfl) : OpR X (compareOp .In) (rIn K false) := by
  subst h
  exact op_in_seq
theorem isiK {X : Cx} (K : PySem.W.Frag) (h : X.K = K := by rfl) : CallR X (.builtin "isinstance") (rIsi K) := by
  subst h
  exact call_isi
theorem walk_zipT {K : PySem.W.Frag} {a b : Addr} {xs ys : List V} {n : Nat} (hx : xs.length = n) (hy : ys.length = n) : Walk (RZ.ItzT K a b) n (fun H => SqT K H a xs ∧ SqT K H b ys) (YPair (fun i => xs[i]?) (fun i => ys[i]?)) := by
  refine ⟨fun i H hi q => ?_, fun H q => ⟨xs, ys, q.1, q.2, .inl (by omega)⟩, fun i H v H' hi q y => ?_⟩
  · exact ⟨xs, ys, xs[i]'(by omega), ys[i]'(by omega), q.1, q.2, List.getElem?_eq_getElem _, List.getElem?_eq_getElem _⟩
  · obtain ⟨T, x, z, h1, h2, h3, h4, h5⟩ := y
    exact ⟨T, x, z, h1, h2, h3, h4 xs q.1, h5 ys q.2⟩
def tChain3 (r r' r'' : R2) (ta tb tc td : TE) : TT := fun σ H Q => ta σ H fun x H1 => tb σ H1 fun y H2 => r x y H2 fun z H3 => ∃ k, z = .bl k ∧
  (if k = true then tc σ H3 fun u H4 => r' y u H4 fun z' H5 => ∃ k', z' = .bl k' ∧ (if k' = true then td σ H5 fun v H6 => r'' u v H6 fun z'' H7 => ∃ k'', z'' = .bl k'' ∧ Q k'' H7 else Q false H5) else Q false H3)
theorem pt_chain3 {X : Cx} {a b c d : Expr} {ta tb tc td : TE} {pos : Pos} {o1 o2 o3 : CmpOp} {r1 r2 r3 : R2} (h1 : OpR X (compareOp o1) r1) (h2 : OpR X (compareOp o2) r2) (h3 : OpR X (compareOp o3) r3) (ha : PE X a ta) (hb : PE X b tb) (hc : PE X c tc) (hd : PE X d td)
    (hm : lastMarks [o1, o2, o3] [b, c, d] = false := by with_unfolding_all rfl) : PT X (.Compare a [o1, o2, o3] [b, c, d] pos) (tChain3 r1 r2 r3 ta tb tc td) := by
  refine ⟨fun pins s σ H Q I h => isTrue_chain (thn (ha.run pins s σ H _ I h) fun v1 s1 ⟨x, H1, I1, e1, q1⟩ => test_link (thn (hb.run pins s1 σ H1 _ I1 q1) fun v2 s2 ⟨y, H2, I2, e2, q2⟩ => thn (h1 pins s2 σ H2 x y v1 v2 _ I2 e1 e2 q2) fun v3 s3 ⟨z, H3, I3, e3, k, ek, q3⟩ => ?_)) hm⟩
  subst ek
  cases e3
  refine wpAny_truthy_bool ?_
  cases k with
  | false => exact ite_ff ⟨H3, I3, q3⟩
  | true =>
    refine ite_tt (test_link (thn (hc.run pins s3 σ H3 _ I3 q3) fun v4 s4 ⟨u, H4, I4, e4, q4⟩ => thn (h2 pins s4 σ H4 y u v2 v4 _ I4 e2 e4 q4) fun v5 s5 ⟨z', H5, I5, e5, k', ek', q5⟩ => ?_))
    subst ek'
    cases e5
    refine wpAny_truthy_bool ?_
    cases k' with
    | false => exact ite_ff ⟨H5, I5, q5⟩
    | true =>
      refine ite_tt (test_last (thn (hd.run pins s5 σ H5 _ I5 q5) fun v6 s6 ⟨v, H6, I6, e6, q6⟩ => thn (h3 pins s6 σ H6 u v v4 v6 _ I6 e4 e6 q6) fun v7 s7 ⟨z'', H7, I7, e7, k'', ek'', q7⟩ => ?_))
      subst ek''
      cases e7
      exact wpAny_truthy_bool ⟨H7, I7, q7⟩

/-! ### the shapes of words -/
def shapeOf : Ex → List Str
  | .fig _ => ["figure"]
  | .reg _ => ["place"]
  | .share _ => ["sign"]
  | .two _ _ _ => ["part", "part"]
  | .times _ _ => ["factor", "part"]
  | .by _ _ => ["place", "part"]
  | .when _ _ _ _ => ["place", "figure", "part", "part"]
  | .whr _ _ _ _ => ["sign", "line", "part", "part"]
def wordOf : Ex → Str
  | .fig _ => "fig"
  | .reg _ => "reg"
  | .share _ => "share"
  | .two w _ _ => wn w
  | .times _ _ => "times"
  | .by _ _ => "by"
  | .when _ _ _ _ => "when"
  | .whr _ _ _ _ => "where"
def Shapes (K : PySem.W.Frag) (w : World) (d : Addr) : Prop := ∀ e : Ex, ∃ q, KDct K w d (wordOf e) (.ref q) ∧ ∀ H, SqT K H q ((shapeOf e).map V.str)
def Ex.kids : Ex → List Ex
  | .fig _ => []
  | .reg _ => []
  | .share _ => []
  | .two _ a b => [a, b]
  | .times _ a => [a]
  | .by _ a => [a]
  | .when _ _ a b => [a, b]
  | .whr _ _ a b => [a, b]
/-- the items whose kind is a part -/
def pk : List Str → List V → List V
  | k :: ks, v :: vs => if V.str k = V.str "part" then v :: pk ks vs else pk ks vs
  | _, _ => []
theorem pk_snoc : ∀ {ks : List Str} {vs : List V} {i : Nat} {k : Str} {v : V}, ks[i]? = some k → vs[i]? = some v → pk (ks.take (i + 1)) (vs.take (i + 1)) = pk (ks.take i) (vs.take i) ++ (if V.str k = V.str "part" then [v] else [])
  | [], _, i, _, _, h, _ => by simp at h
  | _ :: _, [], i, _, _, _, h => by simp at h
  | k0 :: ks, v0 :: vs, 0, k, v, h, h2 => by
    have e1 : k0 = k := Option.some.inj h
    have e2 : v0 = v := Option.some.inj h2
    subst e1 e2
    show (if V.str k0 = V.str "part" then v0 :: pk (ks.take 0) (vs.take 0) else pk (ks.take 0) (vs.take 0)) = _
    split <;> rfl
  | k0 :: ks, v0 :: vs, i + 1, k, v, h, h2 => by
    have ih := pk_snoc (ks := ks) (vs := vs) (i := i) h h2
    show (if V.str k0 = V.str "part" then v0 :: pk (ks.take (i + 1)) (vs.take (i + 1)) else pk (ks.take (i + 1)) (vs.take (i + 1))) = (if V.str k0 = V.str "part" then v0 :: pk (ks.take i) (vs.take i) else pk (ks.take i) (vs.take i)) ++ _
    rw [ih]
    split <;> rfl
/-- how an expression lies: its word, then what belongs there -/
theorem ExAt.lies {K : PySem.W.Frag} {H : Hp} : ∀ {e : Ex} {v : V}, ExAt K H e v → ∃ (p : Addr) (xs : List V), v = .ref p ∧ SqT K H p (.str (wordOf e) :: xs) ∧ xs.length = (shapeOf e).length ∧ xs.length ≤ 4 ∧ 0 < xs.length ∧ RowsAt K H (pk (shapeOf e) xs) e.kids
  | .fig _, _, ⟨p, e, q⟩ => ⟨p, _, e, q, rfl, by simp, by simp, trivial⟩
  | .reg _, _, ⟨p, e, q⟩ => ⟨p, _, e, q, rfl, by simp, by simp, trivial⟩
  | .share _, _, ⟨p, e, q⟩ => ⟨p, _, e, q, rfl, by simp, by simp, trivial⟩
  | .two _ _ _, _, ⟨p, x, y, e, q, a, b⟩ => ⟨p, _, e, q, rfl, by simp, by simp, a, b, trivial⟩
  | .times _ _, _, ⟨p, x, e, q, a⟩ => ⟨p, _, e, q, rfl, by simp, by simp, a, trivial⟩
  | .by _ _, _, ⟨p, x, e, q, a⟩ => ⟨p, _, e, q, rfl, by simp, by simp, a, trivial⟩
  | .when _ _ _ _, _, ⟨p, x, y, e, q, a, b⟩ => ⟨p, _, e, q, rfl, by simp, by simp, a, b, trivial⟩
  | .whr _ _ _ _, _, ⟨p, x, y, e, q, a, b⟩ => ⟨p, _, e, q, rfl, by simp, by simp, a, b, trivial⟩
theorem pk_len : ∀ (ks : List Str) (vs : List V), (pk ks vs).length ≤ vs.length
  | [], vs => by
    unfold pk
    exact Nat.zero_le _
  | _ :: _, [] => Nat.le_refl _
  | k :: ks, v :: vs => by
    have := pk_len ks vs
    unfold pk
    split
    · rw [List.length_cons, List.length_cons]
      omega
    · rw [List.length_cons]
      omega

/-! ### spans -/
def mn (x y : Int) : Int := if y < x then y else x
def mx (x y : Int) : Int := if y > x then y else x
theorem mn_le (x y : Int) : mn x y ≤ x ∧ mn x y ≤ y := by unfold mn; split <;> omega
theorem le_mx (x y : Int) : x ≤ mx x y ∧ y ≤ mx x y := by unfold mx; split <;> omega
theorem mn_or (x y : Int) : mn x y = x ∨ mn x y = y := by unfold mn; split <;> simp
theorem mx_or (x y : Int) : mx x y = x ∨ mx x y = y := by unfold mx; split <;> simp
def ab (x : Int) : Int := if x < 0 then -x else x
def js : W4 → Int × Int → Int × Int → Int × Int
  | .sum, x, y => (x.1 + y.1, x.2 + y.2)
  | .less, x, y => (x.1 - y.2, x.2 - y.1)
  | .least, x, y => (mn x.1 y.1, mn x.2 y.2)
  | .most, x, y => (mx x.1 y.1, mx x.2 y.2)
def spn : Ex → Int × Int
  | .fig c => (c, c)
  | .reg _ => (-1000, 1000)
  | .share _ => (0, 1000)
  | .two w a b => js w (spn a) (spn b)
  | .times f a => (mn (f * (spn a).1) (f * (spn a).2), mx (f * (spn a).1) (f * (spn a).2))
  | .by _ a => (-1000 * mx (ab (spn a).1) (ab (spn a).2), 1000 * mx (ab (spn a).1) (ab (spn a).2))
  | .when _ _ a b => (mn (spn a).1 (spn b).1, mx (spn a).2 (spn b).2)
  | .whr _ _ a b => (mn (spn a).1 (spn b).1, mx (spn a).2 (spn b).2)
def SpAt (K : PySem.W.Frag) (H : Hp) (s : Int × Int) (v : V) : Prop := ∃ p, v = .ref p ∧ SqT K H p [.int s.1, .int s.2]
def SpsAt (K : PySem.W.Frag) (H : Hp) : List V → List (Int × Int) → Prop
  | [], [] => True
  | v :: vs, s :: ss => SpAt K H s v ∧ SpsAt K H vs ss
  | _, _ => False
theorem SpsAt.imp {K : PySem.W.Frag} {H H' : Hp} (h : ∀ p xs, SqT K H p xs → SqT K H' p xs) : ∀ {vs : List V} {ss : List (Int × Int)}, SpsAt K H vs ss → SpsAt K H' vs ss
  | [], [], _ => trivial
  | _ :: _, _ :: _, ⟨⟨p, e, q⟩, r⟩ => ⟨⟨p, e, h _ _ q⟩, SpsAt.imp h r⟩
theorem SpsAt.snoc {K : PySem.W.Frag} {H : Hp} {v : V} {s : Int × Int} (x : SpAt K H s v) : ∀ {vs : List V} {ss : List (Int × Int)}, SpsAt K H vs ss → SpsAt K H (vs ++ [v]) (ss ++ [s])
  | [], [], _ => ⟨x, trivial⟩
  | _ :: _, _ :: _, ⟨y, r⟩ => ⟨y, SpsAt.snoc x r⟩
theorem SpsAt.len {K : PySem.W.Frag} {H : Hp} : ∀ {vs : List V} {ss : List (Int × Int)}, SpsAt K H vs ss → vs.length = ss.length
  | [], [], _ => rfl
  | _ :: _, _ :: _, ⟨_, r⟩ => by rw [List.length_cons, List.length_cons, r.len]

theorem int_at {ns : List Int} {i : Nat} {v : V} (h : (ns.map V.int)[i]? = some v) : ∃ z : Int, v = .int z ∧ ns[i]? = some z := by
  rw [List.getElem?_map] at h
  cases e : ns[i]? with
  | none => rw [e] at h; cases h
  | some z => rw [e] at h; exact ⟨z, (Option.some.inj h).symm, rfl⟩
theorem SpsAt.one {K : PySem.W.Frag} {H : Hp} {us : List V} {s : Int × Int} (h : SpsAt K H us [s]) : ∃ p, us = [.ref p] ∧ SqT K H p [.int s.1, .int s.2] := by
  cases us with
  | nil => exact h.elim
  | cons u r =>
    cases r with
    | nil =>
      obtain ⟨⟨p, e, q⟩, _⟩ := h
      exact ⟨p, by rw [e], q⟩
    | cons _ _ => exact h.2.elim
theorem SpsAt.pair {K : PySem.W.Frag} {H : Hp} {us : List V} {s t : Int × Int} (h : SpsAt K H us [s, t]) : ∃ p q, us = [.ref p, .ref q] ∧ SqT K H p [.int s.1, .int s.2] ∧ SqT K H q [.int t.1, .int t.2] := by
  cases us with
  | nil => exact h.elim
  | cons u r =>
    obtain ⟨⟨p, e, q⟩, h2⟩ := h
    obtain ⟨p2, e2, q2⟩ := SpsAt.one h2
    exact ⟨p, p2, by rw [e, e2], q, q2⟩
theorem put_sqt {K : PySem.W.Frag} {H : Hp} {D p : Addr} {us us' xs : List V} (h : H D = some (.lst us)) (q : SqT K H p xs) : SqT K (upd H D (.lst us')) p xs := by
  rcases q with (q | ⟨o, q⟩) | q
  · exact .inl (.inl (by rw [upd_ne (ne_of q h (by intro z; cases z))]; exact q))
  · exact .inl (.inr ⟨o, by rw [upd_ne (ne_of q h (by intro z; cases z))]; exact q⟩)
  · exact .inr q
theorem RowsAt.get' {K : PySem.W.Frag} {H : Hp} : ∀ {vs : List V} {es : List Ex} {k : Nat} {v : V}, RowsAt K H vs es → vs[k]? = some v → ∃ e, es[k]? = some e ∧ ExAt K H e v
  | [], [], _, _, _, h => by simp at h
  | v' :: vs, e :: es, 0, v, ⟨x, r⟩, h => by
    have : v' = v := Option.some.inj h
    subst this
    exact ⟨e, rfl, x⟩
  | v' :: vs, e :: es, k + 1, v, ⟨x, r⟩, h => RowsAt.get' (k := k) r h
theorem mn_of {m a b : Int} (h : m ∈ [a, b]) (hl : ∀ y ∈ [a, b], m ≤ y) : m = mn a b := by
  have h1 := hl a (by simp)
  have h2 := hl b (by simp)
  simp only [List.mem_cons, List.not_mem_nil, or_false] at h
  unfold mn
  split <;> omega
theorem mx_of {m a b : Int} (h : m ∈ [a, b]) (hl : ∀ y ∈ [a, b], y ≤ m) : m = mx a b := by
  have h1 := hl a (by simp)
  have h2 := hl b (by simp)
  simp only [List.mem_cons, List.not_mem_nil, or_false] at h
  unfold mx
  split <;> omega

/-! ### promises -/
def spParts (K : PySem.W.Frag) : Sp := fun vs H Q _ => ∃ (v : V) (e : Ex), vs = [v] ∧ ExAt K H e v ∧ ∀ H' p xs, Same H H' → H p = none → H' p = some (.lst xs) → RowsAt K H' xs e.kids → Q (.ref p) H'
def spJoinS (K : PySem.W.Frag) : Sp := fun vs H Q _ => ∃ (e : Ex) (x y : V) (s t : Int × Int), vs = [.str (wordOf e), x, y] ∧ SpAt K H s x ∧ SpAt K H t y ∧
  ((∃ w a b, e = .two w a b ∧ ∀ H' v, Same H H' → SpAt K H' (js w s t) v → Q v H') ∨ ((∃ i c a b, e = .when i c a b) ∨ (∃ i c a b, e = .whr i c a b)) ∧ ∀ H' v, Same H H' → SpAt K H' (mn s.1 t.1, mx s.2 t.2) v → Q v H')
def spSpan (K : PySem.W.Frag) (n : Nat) : Sp := fun vs H Q _ => ∃ (v : V) (e : Ex) (many : Nat), vs = [v] ∧ ExAt K H e v ∧ ExOk many e ∧ e.dep ≤ n ∧ ∀ H' u, Same H H' → SpAt K H' (spn e) u → Q u H'
theorem kids_dep : ∀ (e : Ex) (k : Ex), k ∈ e.kids → k.dep + 1 ≤ e.dep
  | .fig _, k, h => by cases h
  | .reg _, k, h => by cases h
  | .share _, k, h => by cases h
  | .two w0 a b, k, h => by
    simp only [Ex.kids, List.mem_cons, List.not_mem_nil, or_false] at h
    have e : Ex.dep (.two w0 a b) = max a.dep b.dep + 1 := rfl
    rw [e]
    rcases h with rfl | rfl <;> omega
  | .times _ a, k, h => by
    simp only [Ex.kids, List.mem_cons, List.not_mem_nil, or_false] at h
    subst h
    exact Nat.le_refl _
  | .by _ a, k, h => by
    simp only [Ex.kids, List.mem_cons, List.not_mem_nil, or_false] at h
    subst h
    exact Nat.le_refl _
  | .when i0 c0 a b, k, h => by
    simp only [Ex.kids, List.mem_cons, List.not_mem_nil, or_false] at h
    have e : Ex.dep (.when i0 c0 a b) = max a.dep b.dep + 1 := rfl
    rw [e]
    rcases h with rfl | rfl <;> omega
  | .whr i0 c0 a b, k, h => by
    simp only [Ex.kids, List.mem_cons, List.not_mem_nil, or_false] at h
    have e : Ex.dep (.whr i0 c0 a b) = max a.dep b.dep + 1 := rfl
    rw [e]
    rcases h with rfl | rfl <;> omega
theorem kids_ok {many : Nat} : ∀ (e : Ex) (k : Ex), ExOk many e → k ∈ e.kids → ExOk many k
  | .fig _, k, _, h => by cases h
  | .reg _, k, _, h => by cases h
  | .share _, k, _, h => by cases h
  | .two _ a b, k, o, h => by
    simp only [Ex.kids, List.mem_cons, List.not_mem_nil, or_false] at h
    rcases h with rfl | rfl
    · exact o.1
    · exact o.2
  | .times _ a, k, o, h => by
    simp only [Ex.kids, List.mem_cons, List.not_mem_nil, or_false] at h
    subst h
    exact o.2
  | .by _ a, k, o, h => by
    simp only [Ex.kids, List.mem_cons, List.not_mem_nil, or_false] at h
    subst h
    exact o.2
  | .when _ _ a b, k, o, h => by
    simp only [Ex.kids, List.mem_cons, List.not_mem_nil, or_false] at h
    rcases h with rfl | rfl
    · exact o.2.2.1
    · exact o.2.2.2
  | .whr _ _ a b, k, o, h => by
    simp only [Ex.kids, List.mem_cons, List.not_mem_nil, or_false] at h
    rcases h with rfl | rfl
    · exact o.2.2.1
    · exact o.2.2.2
end NG

namespace NG
open PySem PySem.Spec PyProof.Rows L2
/-! ### what stands around an expression -/
inductive Cx1 where
  | l (w : W4) (x : Ex) | r (w : W4) (x : Ex) | times (f : Int) | by (i : Nat)
  | whenL (i : Nat) (c : Int) (x : Ex) | whenR (i : Nat) (c : Int) (x : Ex) | whrL (j : Nat) (c : Int) (x : Ex) | whrR (j : Nat) (c : Int) (x : Ex)
def Cx1.put : Cx1 → Ex → Ex
  | .l w x, e => .two w e x
  | .r w x, e => .two w x e
  | .times f, e => .times f e
  | .by i, e => .by i e
  | .whenL i c x, e => .when i c e x
  | .whenR i c x, e => .when i c x e
  | .whrL j c x, e => .whr j c e x
  | .whrR j c x, e => .whr j c x e
def Cx1.lay (u : V) : Cx1 → List V × List V
  | .l w _ => ([.str (wn w)], [u])
  | .r w _ => ([.str (wn w), u], [])
  | .times f => ([.str "times", .int f], [])
  | .by i => ([.str "by", .int (i : Int)], [])
  | .whenL i c _ => ([.str "when", .int (i : Int), .int c], [u])
  | .whenR i c _ => ([.str "when", .int (i : Int), .int c, u], [])
  | .whrL j c _ => ([.str "where", .int (j : Int), .int c], [u])
  | .whrR j c _ => ([.str "where", .int (j : Int), .int c, u], [])
def Cx1.leaf (K : PySem.W.Frag) (H : Hp) (u : V) : Cx1 → Prop
  | .l _ x => ExAt K H x u
  | .r _ x => ExAt K H x u
  | .times _ => True
  | .by _ => True
  | .whenL _ _ x => ExAt K H x u
  | .whenR _ _ x => ExAt K H x u
  | .whrL _ _ x => ExAt K H x u
  | .whrR _ _ x => ExAt K H x u
def Cx1.ok (many : Nat) : Cx1 → Prop
  | .l _ x => ExOk many x ∧ x.dep ≤ 1
  | .r _ x => ExOk many x ∧ x.dep ≤ 1
  | .times f => -9 ≤ f ∧ f ≤ 9
  | .by i => i < 4
  | .whenL i c x => i < 4 ∧ (-1000 ≤ c ∧ c ≤ 1000) ∧ ExOk many x ∧ x.dep ≤ 1
  | .whenR i c x => i < 4 ∧ (-1000 ≤ c ∧ c ≤ 1000) ∧ ExOk many x ∧ x.dep ≤ 1
  | .whrL j c x => j < many ∧ (1 ≤ c ∧ c ≤ 1000) ∧ ExOk many x ∧ x.dep ≤ 1
  | .whrR j c x => j < many ∧ (1 ≤ c ∧ c ≤ 1000) ∧ ExOk many x ∧ x.dep ≤ 1
def CtxAt (K : PySem.W.Frag) (H : Hp) (c : Cx1) (v : V) : Prop := ∃ (p pa pr : Addr) (u : V), v = .ref p ∧ SqT K H p [.ref pa, .ref pr] ∧ SqT K H pa (c.lay u).1 ∧ SqT K H pr (c.lay u).2 ∧ c.leaf K H u
theorem CtxAt.imp {K : PySem.W.Frag} {H H' : Hp} {c : Cx1} {v : V} (x : CtxAt K H c v) (h : ∀ p xs, SqT K H p xs → SqT K H' p xs) : CtxAt K H' c v := by
  obtain ⟨p, pa, pr, u, e, q1, q2, q3, lf⟩ := x
  refine ⟨p, pa, pr, u, e, h _ _ q1, h _ _ q2, h _ _ q3, ?_⟩
  cases c with
  | l w x => exact ExAt.imp h lf
  | r w x => exact ExAt.imp h lf
  | times f => trivial
  | «by» i => trivial
  | whenL i c x => exact ExAt.imp h lf
  | whenR i c x => exact ExAt.imp h lf
  | whrL i c x => exact ExAt.imp h lf
  | whrR i c x => exact ExAt.imp h lf
def CtxsAt (K : PySem.W.Frag) (H : Hp) : List V → List Cx1 → Prop
  | [], [] => True
  | v :: vs, c :: cs => CtxAt K H c v ∧ CtxsAt K H vs cs
  | _, _ => False
theorem CtxsAt.imp {K : PySem.W.Frag} {H H' : Hp} (h : ∀ p xs, SqT K H p xs → SqT K H' p xs) : ∀ {vs : List V} {cs : List Cx1}, CtxsAt K H vs cs → CtxsAt K H' vs cs
  | [], [], _ => trivial
  | _ :: _, _ :: _, ⟨x, r⟩ => ⟨x.imp h, CtxsAt.imp h r⟩
theorem CtxsAt.len {K : PySem.W.Frag} {H : Hp} : ∀ {vs : List V} {cs : List Cx1}, CtxsAt K H vs cs → vs.length = cs.length
  | [], [], _ => rfl
  | _ :: _, _ :: _, ⟨_, r⟩ => by rw [List.length_cons, List.length_cons, r.len]
theorem CtxsAt.snoc {K : PySem.W.Frag} {H : Hp} {v : V} {c : Cx1} (x : CtxAt K H c v) : ∀ {vs : List V} {cs : List Cx1}, CtxsAt K H vs cs → CtxsAt K H (vs ++ [v]) (cs ++ [c])
  | [], [], _ => ⟨x, trivial⟩
  | _ :: _, _ :: _, ⟨y, r⟩ => ⟨y, CtxsAt.snoc x r⟩
theorem CtxsAt.get' {K : PySem.W.Frag} {H : Hp} : ∀ {vs : List V} {cs : List Cx1} {k : Nat} {v : V}, CtxsAt K H vs cs → vs[k]? = some v → ∃ c, cs[k]? = some c ∧ CtxAt K H c v
  | [], [], _, _, _, h => by simp at h
  | v' :: vs, e :: es, 0, v, ⟨x, r⟩, h => by
    have : v' = v := Option.some.inj h
    subst this
    exact ⟨e, rfl, x⟩
  | v' :: vs, e :: es, k + 1, v, ⟨x, r⟩, h => CtxsAt.get' (k := k) r h
theorem put_at {K : PySem.W.Frag} {H : Hp} {c : Cx1} {u v : V} {e : Ex} {p : Addr} (hp : SqT K H p ((c.lay u).1 ++ [v] ++ (c.lay u).2)) (lf : c.leaf K H u) (he : ExAt K H e v) : ExAt K H (c.put e) (.ref p) := by
  cases c with
  | l w x => exact ⟨p, v, u, rfl, hp, he, lf⟩
  | r w x => exact ⟨p, u, v, rfl, hp, lf, he⟩
  | times f => exact ⟨p, v, rfl, hp, he⟩
  | «by» i => exact ⟨p, v, rfl, hp, he⟩
  | whenL i c x => exact ⟨p, v, u, rfl, hp, he, lf⟩
  | whenR i c x => exact ⟨p, u, v, rfl, hp, lf, he⟩
  | whrL i c x => exact ⟨p, v, u, rfl, hp, he, lf⟩
  | whrR i c x => exact ⟨p, u, v, rfl, hp, lf, he⟩
theorem put_ok {many : Nat} {c : Cx1} {e : Ex} (o : c.ok many) (oe : ExOk many e) : ExOk many (c.put e) := by
  cases c with
  | l w x => exact ⟨oe, o.1⟩
  | r w x => exact ⟨o.1, oe⟩
  | times f => exact ⟨o, oe⟩
  | «by» i => exact ⟨o, oe⟩
  | whenL i c x => exact ⟨o.1, o.2.1, oe, o.2.2.1⟩
  | whenR i c x => exact ⟨o.1, o.2.1, o.2.2.1, oe⟩
  | whrL i c x => exact ⟨o.1, o.2.1, oe, o.2.2.1⟩
  | whrR i c x => exact ⟨o.1, o.2.1, o.2.2.1, oe⟩
theorem dep_pos (e : Ex) : 1 ≤ e.dep := by cases e <;> (unfold Ex.dep; omega)
theorem put_dep {many : Nat} {c : Cx1} {e : Ex} (o : c.ok many) : (c.put e).dep ≤ e.dep + 1 := by
  have he := dep_pos e
  cases c with
  | l w x => show max e.dep x.dep + 1 ≤ _; have := o.2; omega
  | r w x => show max x.dep e.dep + 1 ≤ _; have := o.2; omega
  | times f => exact Nat.le_refl _
  | «by» i => exact Nat.le_refl _
  | whenL i c x => show max e.dep x.dep + 1 ≤ _; have := o.2.2.2; omega
  | whenR i c x => show max x.dep e.dep + 1 ≤ _; have := o.2.2.2; omega
  | whrL i c x => show max e.dep x.dep + 1 ≤ _; have := o.2.2.2; omega
  | whrR i c x => show max x.dep e.dep + 1 ≤ _; have := o.2.2.2; omega
def putAll (cs : List Cx1) (e : Ex) : Ex := cs.foldl (fun e c => c.put e) e
theorem putAll_ok {many : Nat} : ∀ {cs : List Cx1} {e : Ex}, (∀ c ∈ cs, c.ok many) → ExOk many e → ExOk many (putAll cs e)
  | [], _, _, h => h
  | c :: cs, e, o, h => putAll_ok (cs := cs) (e := c.put e) (fun c' h' => o c' (List.mem_cons_of_mem _ h')) (put_ok (o c List.mem_cons_self) h)
theorem putAll_dep {many : Nat} : ∀ {cs : List Cx1} {e : Ex}, (∀ c ∈ cs, c.ok many) → (putAll cs e).dep ≤ e.dep + cs.length
  | [], _, _ => Nat.le_refl _
  | c :: cs, e, o => by
    have h1 := putAll_dep (cs := cs) (e := c.put e) (fun c' h' => o c' (List.mem_cons_of_mem _ h'))
    have h2 := put_dep (e := e) (o c List.mem_cons_self)
    show (putAll cs (c.put e)).dep ≤ _
    rw [List.length_cons]
    omega
def fac1 (rs : List Int) (F : Int) : Cx1 → Int
  | .times f => F * f
  | .by i => F * rs.getD i 0
  | .r .less _ => 0 - F
  | _ => F
def fac (rs : List Int) (cs : List Cx1) : Int := cs.foldl (fac1 rs) 1

/-! ### a greater part put in -/
def Btw (d m : Int) : Prop := (0 ≤ d ∧ d ≤ m) ∨ (m ≤ d ∧ d ≤ 0)
theorem btw_mul {f d m : Int} (h : Btw d m) : Btw (f * d) (f * m) := by
  rcases Int.le_total 0 f with hf | hf
  · rcases h with ⟨h1, h2⟩ | ⟨h1, h2⟩
    · exact .inl ⟨Int.mul_nonneg hf h1, Int.mul_le_mul_of_nonneg_left h2 hf⟩
    · exact .inr ⟨Int.mul_le_mul_of_nonneg_left h1 hf, Int.mul_nonpos_of_nonneg_of_nonpos hf h2⟩
  · rcases h with ⟨h1, h2⟩ | ⟨h1, h2⟩
    · exact .inr ⟨Int.mul_le_mul_of_nonpos_left hf h2, Int.mul_nonpos_of_nonpos_of_nonneg hf h1⟩
    · exact .inl ⟨Int.mul_nonneg_of_nonpos_of_nonpos hf h2, Int.mul_le_mul_of_nonpos_left hf h1⟩
theorem btw_zero {m : Int} : Btw 0 m := by
  unfold Btw
  omega
theorem btw_jw {d m x y z : Int} (w : W4) (h : Btw d m) (e : d = y - x) (hw : w ≠ .less) : Btw (jw w y z - jw w x z) m := by
  unfold Btw at *
  cases w with
  | sum => simp only [jw]; omega
  | less => exact absurd rfl hw
  | least => simp only [jw]; split <;> split <;> omega
  | most => simp only [jw]; split <;> split <;> omega
theorem btw_jw' {d m x y z : Int} (w : W4) (h : Btw d m) (e : d = y - x) (hw : w ≠ .less) : Btw (jw w z y - jw w z x) m := by
  unfold Btw at *
  cases w with
  | sum => simp only [jw]; omega
  | less => exact absurd rfl hw
  | least => simp only [jw]; split <;> split <;> omega
  | most => simp only [jw]; split <;> split <;> omega
theorem btw_step {rs ss : List Int} {c : Cx1} {e1 e2 : Ex} {F P : Int} (h : Btw (wo rs ss e2 - wo rs ss e1) (F * P)) : Btw (wo rs ss (c.put e2) - wo rs ss (c.put e1)) (fac1 rs F c * P) := by
  cases c with
  | l w x =>
    cases w with
    | less =>
      show Btw ((wo rs ss e2 - wo rs ss x) - (wo rs ss e1 - wo rs ss x)) (F * P)
      rw [show (wo rs ss e2 - wo rs ss x) - (wo rs ss e1 - wo rs ss x) = wo rs ss e2 - wo rs ss e1 by omega]
      exact h
    | sum => exact btw_jw .sum h rfl (by simp)
    | least => exact btw_jw .least h rfl (by simp)
    | most => exact btw_jw .most h rfl (by simp)
  | r w x =>
    cases w with
    | less =>
      show Btw ((wo rs ss x - wo rs ss e2) - (wo rs ss x - wo rs ss e1)) ((0 - F) * P)
      rw [Int.sub_mul, Int.zero_mul]
      unfold Btw at *
      omega
    | sum => exact btw_jw' .sum h rfl (by simp)
    | least => exact btw_jw' .least h rfl (by simp)
    | most => exact btw_jw' .most h rfl (by simp)
  | times f =>
    show Btw (f * wo rs ss e2 - f * wo rs ss e1) (F * f * P)
    rw [← Int.mul_sub, Int.mul_comm F f, Int.mul_assoc]
    exact btw_mul h
  | «by» i =>
    show Btw (rs.getD i 0 * wo rs ss e2 - rs.getD i 0 * wo rs ss e1) (F * rs.getD i 0 * P)
    rw [← Int.mul_sub, Int.mul_comm F, Int.mul_assoc]
    exact btw_mul h
  | whenL i c x =>
    show Btw ((if rs.getD i 0 < c then wo rs ss e2 else wo rs ss x) - (if rs.getD i 0 < c then wo rs ss e1 else wo rs ss x)) (F * P)
    split
    · exact h
    · rw [Int.sub_self]
      exact btw_zero
  | whenR i c x =>
    show Btw ((if rs.getD i 0 < c then wo rs ss x else wo rs ss e2) - (if rs.getD i 0 < c then wo rs ss x else wo rs ss e1)) (F * P)
    split
    · rw [Int.sub_self]
      exact btw_zero
    · exact h
  | whrL j c x =>
    show Btw ((if 1000 * ss.getD j 0 < c * ss.sum then wo rs ss e2 else wo rs ss x) - (if 1000 * ss.getD j 0 < c * ss.sum then wo rs ss e1 else wo rs ss x)) (F * P)
    split
    · exact h
    · rw [Int.sub_self]
      exact btw_zero
  | whrR j c x =>
    show Btw ((if 1000 * ss.getD j 0 < c * ss.sum then wo rs ss x else wo rs ss e2) - (if 1000 * ss.getD j 0 < c * ss.sum then wo rs ss x else wo rs ss e1)) (F * P)
    split
    · rw [Int.sub_self]
      exact btw_zero
    · exact h
theorem btw_all {rs ss : List Int} {P : Int} : ∀ {cs : List Cx1} {e1 e2 : Ex} {F : Int}, Btw (wo rs ss e2 - wo rs ss e1) (F * P) → Btw (wo rs ss (putAll cs e2) - wo rs ss (putAll cs e1)) (cs.foldl (fac1 rs) F * P)
  | [], _, _, _, h => h
  | c :: cs, e1, e2, F, h => btw_all (cs := cs) (e1 := c.put e1) (e2 := c.put e2) (F := fac1 rs F c) (btw_step h)
theorem moved {rs ss : List Int} {cs : List Cx1} {e : Ex} {p : Int} (h : 0 ≤ p * ss.sum) : Btw (wo rs ss (putAll cs (.two .sum e (.fig p))) - wo rs ss (putAll cs e)) (fac rs cs * p * ss.sum) := by
  rw [Int.mul_assoc]
  refine btw_all (F := 1) ?_
  show Btw (wo rs ss e + p * ss.sum - wo rs ss e) (1 * (p * ss.sum))
  rw [Int.one_mul]
  unfold Btw
  omega

/-! ### worths lie in their spans -/
theorem le_sum : ∀ {ss : List Int} {j : Nat}, (∀ x ∈ ss, 0 ≤ x) → j < ss.length → ss.getD j 0 ≤ ss.sum
  | [], _, _, h => by simp at h
  | x :: ss, 0, h, _ => by
    have := sum_nonneg (ms := ss) fun y hy => h y (List.mem_cons_of_mem _ hy)
    show x ≤ (x :: ss).sum
    rw [List.sum_cons]
    omega
  | x :: ss, j + 1, h, hj => by
    have h1 := le_sum (ss := ss) (j := j) (fun y hy => h y (List.mem_cons_of_mem _ hy)) (by simpa using hj)
    have h2 := h x List.mem_cons_self
    show ss.getD j 0 ≤ (x :: ss).sum
    rw [List.sum_cons]
    omega
theorem spn_le : ∀ e : Ex, (spn e).1 ≤ (spn e).2
  | .fig _ => Int.le_refl _
  | .reg _ => by
    show (-1000 : Int) ≤ 1000
    decide
  | .share _ => by
    show (0 : Int) ≤ 1000
    decide
  | .two w a b => by
    have ha := spn_le a
    have hb := spn_le b
    show (js w (spn a) (spn b)).1 ≤ (js w (spn a) (spn b)).2
    cases w with
    | sum => show _ + _ ≤ _ + _; omega
    | less => show _ - _ ≤ _ - _; omega
    | least => show mn _ _ ≤ mn _ _; unfold mn; split <;> split <;> omega
    | most => show mx _ _ ≤ mx _ _; unfold mx; split <;> split <;> omega
  | .times f a => by
    show mn _ _ ≤ mx _ _
    unfold mn mx
    split <;> split <;> omega
  | .by _ a => by
    have h1 : 0 ≤ ab (spn a).1 := by unfold ab; split <;> omega
    have h2 := le_mx (ab (spn a).1) (ab (spn a).2)
    show -1000 * _ ≤ 1000 * _
    omega
  | .when _ _ a b => by
    have ha := spn_le a
    have h1 := mn_le (spn a).1 (spn b).1
    have h2 := le_mx (spn a).2 (spn b).2
    show mn _ _ ≤ mx _ _
    omega
  | .whr _ _ a b => by
    have ha := spn_le a
    have h1 := mn_le (spn a).1 (spn b).1
    have h2 := le_mx (spn a).2 (spn b).2
    show mn _ _ ≤ mx _ _
    omega
theorem mulr_le {a b n : Int} (h : a ≤ b) (hn : 0 ≤ n) : a * n ≤ b * n := Int.mul_le_mul_of_nonneg_right h hn
theorem in_span {many : Nat} {rs ss : List Int} (hr : rs.length = 4) (hrb : ∀ x ∈ rs, -1000 ≤ x ∧ x ≤ 1000) (hs : ss.length = many) (hsb : ∀ x ∈ ss, 0 ≤ x) : ∀ e : Ex, ExOk many e → (spn e).1 * ss.sum ≤ wo rs ss e ∧ wo rs ss e ≤ (spn e).2 * ss.sum
  | .fig c, _ => ⟨Int.le_refl _, Int.le_refl _⟩
  | .reg i, o => by
    have hn := sum_nonneg hsb
    have h := hrb _ (getD_mem (ns := rs) (i := i) (by rw [hr]; exact o))
    exact ⟨mulr_le h.1 hn, mulr_le h.2 hn⟩
  | .share j, o => by
    have o : j < many := o
    have h1 := le_sum (j := j) hsb (by omega)
    have h2 := hsb _ (getD_mem (ns := ss) (i := j) (by omega))
    show 0 * ss.sum ≤ 1000 * ss.getD j 0 ∧ 1000 * ss.getD j 0 ≤ 1000 * ss.sum
    omega
  | .two w a b, o => by
    have ha := in_span hr hrb hs hsb a o.1
    have hb := in_span hr hrb hs hsb b o.2
    have hn := sum_nonneg hsb
    show (js w (spn a) (spn b)).1 * ss.sum ≤ jw w (wo rs ss a) (wo rs ss b) ∧ jw w (wo rs ss a) (wo rs ss b) ≤ (js w (spn a) (spn b)).2 * ss.sum
    cases w with
    | sum =>
      show ((spn a).1 + (spn b).1) * ss.sum ≤ wo rs ss a + wo rs ss b ∧ wo rs ss a + wo rs ss b ≤ ((spn a).2 + (spn b).2) * ss.sum
      rw [Int.add_mul, Int.add_mul]
      omega
    | less =>
      show ((spn a).1 - (spn b).2) * ss.sum ≤ wo rs ss a - wo rs ss b ∧ wo rs ss a - wo rs ss b ≤ ((spn a).2 - (spn b).1) * ss.sum
      rw [Int.sub_mul, Int.sub_mul]
      omega
    | least =>
      have h1 := mn_le (spn a).1 (spn b).1
      have h3 := mulr_le h1.1 hn
      have h4 := mulr_le h1.2 hn
      have h5 := mn_or (spn a).2 (spn b).2
      show mn (spn a).1 (spn b).1 * ss.sum ≤ (if wo rs ss b < wo rs ss a then wo rs ss b else wo rs ss a) ∧ (if wo rs ss b < wo rs ss a then wo rs ss b else wo rs ss a) ≤ mn (spn a).2 (spn b).2 * ss.sum
      rcases h5 with h5 | h5 <;> rw [h5] <;> split <;> omega
    | most =>
      have h1 := le_mx (spn a).2 (spn b).2
      have h3 := mulr_le h1.1 hn
      have h4 := mulr_le h1.2 hn
      have h5 := mx_or (spn a).1 (spn b).1
      show mx (spn a).1 (spn b).1 * ss.sum ≤ (if wo rs ss b > wo rs ss a then wo rs ss b else wo rs ss a) ∧ (if wo rs ss b > wo rs ss a then wo rs ss b else wo rs ss a) ≤ mx (spn a).2 (spn b).2 * ss.sum
      rcases h5 with h5 | h5 <;> rw [h5] <;> split <;> omega
  | .times f a, o => by
    have ha := in_span hr hrb hs hsb a o.2
    have hn := sum_nonneg hsb
    have m1 := mn_le (f * (spn a).1) (f * (spn a).2)
    have m2 := le_mx (f * (spn a).1) (f * (spn a).2)
    have n1 := mulr_le m1.1 hn
    have n2 := mulr_le m1.2 hn
    have n3 := mulr_le m2.1 hn
    have n4 := mulr_le m2.2 hn
    rw [Int.mul_assoc] at n1 n2 n3 n4
    show mn _ _ * ss.sum ≤ f * wo rs ss a ∧ f * wo rs ss a ≤ mx _ _ * ss.sum
    rcases Int.le_total 0 f with hf | hf
    · have p1 := Int.mul_le_mul_of_nonneg_left ha.1 hf
      have p2 := Int.mul_le_mul_of_nonneg_left ha.2 hf
      omega
    · have p1 := Int.mul_le_mul_of_nonpos_left hf ha.1
      have p2 := Int.mul_le_mul_of_nonpos_left hf ha.2
      omega
  | .by i a, o => by
    have ha := in_span hr hrb hs hsb a o.2
    have hn := sum_nonneg hsb
    have hg := hrb _ (getD_mem (ns := rs) (i := i) (by rw [hr]; exact o.1))
    generalize ht : mx (ab (spn a).1) (ab (spn a).2) = t
    have t1 : -t ≤ (spn a).1 ∧ (spn a).2 ≤ t := by
      have h2 := le_mx (ab (spn a).1) (ab (spn a).2)
      rw [ht] at h2
      have h3 : -(spn a).1 ≤ ab (spn a).1 := by unfold ab; split <;> omega
      have h4 : (spn a).2 ≤ ab (spn a).2 := by unfold ab; split <;> omega
      omega
    have w1 : -(t * ss.sum) ≤ wo rs ss a := by
      have := mulr_le t1.1 hn
      rw [Int.neg_mul] at this
      omega
    have w2 : wo rs ss a ≤ t * ss.sum := by
      have := mulr_le t1.2 hn
      omega
    show (-1000 * mx (ab (spn a).1) (ab (spn a).2)) * ss.sum ≤ rs.getD i 0 * wo rs ss a ∧ rs.getD i 0 * wo rs ss a ≤ (1000 * mx (ab (spn a).1) (ab (spn a).2)) * ss.sum
    rw [ht, Int.mul_assoc, Int.mul_assoc]
    generalize rs.getD i 0 = g at *
    generalize t * ss.sum = T at *
    generalize wo rs ss a = x at *
    have hT : 0 ≤ T := by omega
    rcases Int.le_total 0 g with hgn | hgn
    · have p1 := Int.mul_le_mul_of_nonneg_left w1 hgn
      have p2 := Int.mul_le_mul_of_nonneg_left w2 hgn
      have p3 := Int.mul_le_mul_of_nonneg_right hg.2 hT
      rw [Int.mul_neg] at p1
      omega
    · have p1 := Int.mul_le_mul_of_nonpos_left hgn w1
      have p2 := Int.mul_le_mul_of_nonpos_left hgn w2
      have p3 := Int.mul_le_mul_of_nonneg_right hg.1 hT
      rw [Int.mul_neg] at p1
      omega
  | .when i c a b, o => by
    have ha := in_span hr hrb hs hsb a o.2.2.1
    have hb := in_span hr hrb hs hsb b o.2.2.2
    have hn := sum_nonneg hsb
    have m1 := mn_le (spn a).1 (spn b).1
    have m2 := le_mx (spn a).2 (spn b).2
    have n1 := mulr_le m1.1 hn
    have n2 := mulr_le m1.2 hn
    have n3 := mulr_le m2.1 hn
    have n4 := mulr_le m2.2 hn
    show mn _ _ * ss.sum ≤ (if rs.getD i 0 < c then wo rs ss a else wo rs ss b) ∧ (if rs.getD i 0 < c then wo rs ss a else wo rs ss b) ≤ mx _ _ * ss.sum
    split <;> omega
  | .whr j c a b, o => by
    have ha := in_span hr hrb hs hsb a o.2.2.1
    have hb := in_span hr hrb hs hsb b o.2.2.2
    have hn := sum_nonneg hsb
    have m1 := mn_le (spn a).1 (spn b).1
    have m2 := le_mx (spn a).2 (spn b).2
    have n1 := mulr_le m1.1 hn
    have n2 := mulr_le m1.2 hn
    have n3 := mulr_le m2.1 hn
    have n4 := mulr_le m2.2 hn
    show mn _ _ * ss.sum ≤ (if 1000 * ss.getD j 0 < c * ss.sum then wo rs ss a else wo rs ss b) ∧ (if 1000 * ss.getD j 0 < c * ss.sum then wo rs ss a else wo rs ss b) ≤ mx _ _ * ss.sum
    split <;> omega

/-! ### promises -/
def spAround (K : PySem.W.Frag) : Sp := fun vs H Q _ => ∃ (a : Addr) (many n : Nat), vs = [.ref a, .int (many : Int)] ∧ 2 ≤ many ∧ many ≤ 3 ∧ HandAt H a n ∧ n ≤ 999998000 ∧
  ∀ H' p xs cs, But a H H' → HandAt H' a (n + 90) → p ≠ a → H' p = some (.lst xs) → CtxsAt K H' xs cs → (∀ c ∈ cs, c.ok many) → cs.length ≤ 4 → Q (.ref p) H'
def spPut (K : PySem.W.Frag) : Sp := fun vs H Q _ => ∃ (p : Addr) (v : V) (xs : List V) (cs : List Cx1) (e : Ex), vs = [.ref p, v] ∧ H p = some (.lst xs) ∧ CtxsAt K H xs cs ∧ ExAt K H e v ∧ ∀ H' u, Same H H' → ExAt K H' (putAll cs e) u → Q u H'
def spFac (K : PySem.W.Frag) (many : Nat) : Sp := fun vs H Q _ => ∃ (p : Addr) (r : V) (xs : List V) (cs : List Cx1) (rs : List Int), vs = [.ref p, r] ∧ H p = some (.lst xs) ∧ CtxsAt K H xs cs ∧ (∀ c ∈ cs, c.ok many) ∧ RegsAt K H rs r ∧ Q (.int (fac rs cs)) H
end NG

namespace NG
open PySem PySem.Spec PyProof.Rows L2

/-! ### promises that are kept while no repr is under way -/
structure FnG (P : Program) (w : World) (K : PySem.W.Frag) (mg : Str → Option Value) (base : Heap) (k : Nat) (f : Addr) (fd : FuncData) (ps : List Str) (sp : Sp) : Prop where
  len : ∀ vs H Q E, sp vs H Q E → vs.length = ps.length
  run : ∀ (A : Around) (outer : List Env) (s : Shared) (H : Hp) (args : Args) (us : List Value) (vs : List V) (Q : VK), A.guards = some [] → Room k A → Env0 P w K mg base A outer s H → BindsTo s fd args (ps.zip us) → Vals vs us → sp vs H Q E0 →
    codeAny (model P w) A (.call (.ref f) args) (CR CX0 outer P w H s Q E0) s
theorem FnG.of {P : Program} {w : World} {K : PySem.W.Frag} {mg : Str → Option Value} {base : Heap} {k : Nat} {f : Addr} {fd : FuncData} {ps : List Str} {sp : Sp} (F : FnOk P w K mg base CX0 k f fd ps sp) : FnG P w K mg base k f fd ps sp :=
  ⟨F.len, fun A outer s H args us vs Q _ hr he hb hv hs => F.run A outer s H args us vs Q E0 hr he hb hv hs⟩
theorem fnG {P : Program} {w : World} {K : PySem.W.Frag} {mg : Str → Option Value} {base : Heap} {x qual : Str} {st : Stmt} {f : Addr} {fd : FuncData} {N ps : List Str} {k : Nat} {sp : Sp} (F : Fun K x qual st f fd) (S : FnScope N ps (defScope st)) (len : ∀ vs H Q E, sp vs H Q E → vs.length = ps.length)
    (walk : ∀ (cdv : Value) (A : Around) (outer : List Env) (s : Shared) (H : Hp) (vs : List V) (Q : VK), A.guards = some [] → Room k (A.deeper (envOfC qual (defScope st) s.heap.objs.size f cdv)) → sp vs H Q E0 →
      ∃ t, PSs (cxOf CX0 P w K mg base N qual (defScope st) f cdv A outer s H E0).nox (defBody st) t ∧ t { nx := fun _ H' => Q .non H', rt := Q } (start N vs) H) : FnG P w K mg base (k + 1) f fd ps sp := by
  obtain ⟨oc, od, kV, doc, pm, an, cdv, ct, osl, rfl, lk, hcd⟩ := F.ex
  refine ⟨len, fun A outer s H args us vs Q hg hr e0 bd rv hs => ?_⟩
  have inK : K.In s.heap := e0.mod.kin.keeps fun b o e => (e0.bs b o e).1
  have nolim : s.heap.NoLimit := e0.mod.nolimit.keeps fun b o e => (e0.bs b o e).1
  refine codeAny_call_function hr.depth (inK _ _ lk) rfl S.co S.gen rfl (PySem.W.codeRec_of inK hcd) (bd _ _ _ _ ?_)
  refine wpAny_newFunctionEnv_cells S.kind (fun y hy => ?_) fun env he s1 ic => ?_
  · obtain ⟨n, v⟩ := y
    rcases S.par n (List.of_mem_zip hy).1 with z | z
    · exact .inl z
    · exact .inr ⟨z, PySem.W.cellsFrom_some _ _ _ (.inl z)⟩
  subst he
  refine ⟨nolim.keeps ic.toInCall.keep, codeAny_func ?_⟩
  obtain ⟨t, ht, hq⟩ := walk cdv A outer s H vs Q hg (hr.deeper _) hs
  have I := inv_start (CX := CX0) (E := E0) S hr.hd e0 (len _ _ _ _ hs) rv ic
  refine wpAny_mono (ht.nox.run [] s1 (start N vs) H _ I hq) (fun fl s' hf => ?_) fun e s' hf => hf
  match fl, hf with
  | .ret u, ⟨v, σ', H', J, r, q⟩ => exact ⟨v, H', J.os, J.bare, J.base, J.hok, r, q⟩
  | .next, ⟨σ', H', J, q⟩ => exact ⟨.non, H', J.os, J.bare, J.base, J.hok, rfl, q⟩
  | .brk, ⟨_, _, _, q⟩ => exact q.elim
  | .cont, ⟨_, _, _, q⟩ => exact q.elim

structure CalG (P : Program) (w : World) (K : PySem.W.Frag) (mg : Str → Option Value) (base : Heap) (k : Nat) (x : Str) (sp : Sp) : Prop where
  ex : ∃ (f : Addr) (fd : FuncData) (ps : List Str), FnG P w K mg base k f fd ps sp ∧ mg x = some (.ref f) ∧ PySem.W.keepIn K (.ref f) = true ∧ Binds K fd ps []
theorem Cal.g {P : Program} {w : World} {K : PySem.W.Frag} {mg : Str → Option Value} {base : Heap} {k : Nat} {x : Str} {sp : Sp} (c : Cal P w K mg base k x sp) : CalG P w K mg base k x sp := by
  obtain ⟨f, fd, ps, F, r⟩ := c.ex
  exact ⟨f, fd, ps, .of F, r⟩
section
variable {X : Cx} {k j : Nat} {x : Str} {sp : Sp} {p pos : Pos} {e : Expr} {es : List Expr} {t : TA}
theorem pe_g (c : CalG X.prog X.w X.K X.mg X.base k x sp) (hgd : X.A.guards = some []) (hr : Room j X.A) (hk : k ≤ j) (hg : Gl X x) (ha : PA X (e :: es) t)
    (hdb : (x == ("__debug__" : Str)) = false := by decide) (he : starEach (e :: es) X.env = (false, eval e X.env) :: starEach es X.env := by rfl) (hpl : (backTo pos (starEach es X.env)).any (·.1) = false := by rfl) :
    PE X (.Call (.Name x p) (e :: es) [] pos) (tCall sp [] E0 t) := by
  obtain ⟨f, fd, ps, F, hm, kp, b⟩ := c.ex
  refine ⟨fun pins s σ H Q I h => wpAny_Call_Name_kw (ld_glob I hg hm ?_ hdb)⟩
  refine PySem.W.callWith_K (h₀ := X.base) I.ok.mod.kin kp (thn (ha.run pos pins s σ H _ I h) fun us s1 ⟨vs, H1, I1, r, q⟩ => ⟨I1.kIn, ?_⟩) he hpl
  have q : sp (vs ++ []) H1 Q E0 := q
  rw [List.append_nil] at q
  have hl : (us ++ []).length = ps.length := by
    rw [List.append_nil, ← r.length]
    exact F.len _ _ _ _ q
  have bd := b s1 us I1.kIn hl
  rw [List.append_nil] at bd
  refine wpAny_call (codeAny_mono (F.run X.A X.stack s1 H1 ⟨us, []⟩ us vs Q hgd (hr.mono hk) I1.env0 bd r q) fun res s' hq => ?_)
  match res, hq with
  | .ok (.ret u), hq => exact I1.after hq
  | .ok .next, hq => exact False.elim hq
  | .ok .brk, hq => exact False.elim hq
  | .ok .cont, hq => exact False.elim hq
  | .error e, hq => exact False.elim hq
end

/-! ### the law's call -/
theorem lawG {P : Program} {w : World} {K : PySem.W.Frag} {mg mb : Str → Option Value} {k : Nat} {fa a : Addr} {fd : FuncData} {x : Str} {sp : Sp} {st : Shared} {vs : List Value} {ns : List Int}
    (inK : K.In st.heap) (gl : st.heap.Ns mainGlobals mg) (bl : st.heap.Ns builtinsNs mb) (blt : ∀ y : Str, y ≠ "__name__" → mb y = bootBuiltins y) (lim : st.heap.NoLimit) (gens : st.gens = #[])
    (at0 : st.heap.get? a = some { cls := .type "list", data := .seq vs.toArray }) (hint : IntsAre vs ns) (short : ns.length ≤ sizeLine) (room : Room k callerA)
    (F : ∀ base : Heap, K.In base → base.Ns mainGlobals mg → FnG P w K mg base k fa fd [x] sp) (bind : ∀ (s : Shared) (u : Value), BindsTo s fd ⟨[u], []⟩ [(x, u)])
    (prom : ∀ H : Hp, Only H → SqL K H a (ns.map V.int) → sp [.ref a] H (fun v _ => v = .bl true) E0) :
    codeAny (model P w) callerA (.call (.ref fa) ⟨[.ref a], []⟩) (fun r s' => r = .ok (.ret (.bool true)) ∧ OldK st.heap s'.heap ∧ s'.os = st.os ∧ AllBare s'.gens) st := by
  have rel := vals_ints hint
  have go : ∀ H : Hp, Only H → SqL K H a (ns.map V.int) → HOk P w H st.heap → (∀ b, H b ≠ none → b = a ∧ K.lookup b = none) →
      codeAny (model P w) callerA (.call (.ref fa) ⟨[.ref a], []⟩) (fun r s' => r = .ok (.ret (.bool true)) ∧ OldK st.heap s'.heap ∧ s'.os = st.os ∧ AllBare s'.gens) st := by
    intro H on sq ok sole
    have dicts : ∀ {b : Addr} {o : Obj} {es : Array DictEntry} {ep : Nat}, st.heap.get? b = some o → o.data = .dict es ep → H b = none := by
      intro b o es ep e d
      by_cases z : H b = none
      · exact z
      · obtain ⟨rfl, _⟩ := sole b z
        rw [at0] at e
        cases e
        cases d
    have names : ∀ {b : Addr} {m : Str → Option Value}, st.heap.Ns b m → (hidT st.heap H).Ns b m := by
      rintro b m ⟨o, es, ep, e, d, r⟩
      exact ⟨o, es, ep, hidT_get e (dicts e d), d, r⟩
    have kin : K.In (hidT st.heap H) := by
      intro b o e
      refine hidT_get (inK b o e) ?_
      by_cases z : H b = none
      · exact z
      · rw [(sole b z).2] at e
        cases e
    have md : Mod K mg (hidT st.heap H) := by
      obtain ⟨mc, l1, l2⟩ := lim
      exact ⟨kin, names gl, ⟨mb, names bl, blt⟩, ⟨mc, names l1, l2⟩⟩
    have env : Env0 P w K mg (hidT st.heap H) callerA [] st H :=
      ⟨rfl, md, fun b o e => of_hidT e, Nat.le_of_eq (hidT_size _ _), trivial, fun b z => absurd (show b ∈ ([] : List Addr) from z) (by simp), ok, .of_eq gens⟩
    refine codeAny_mono ((F _ kin (names gl)).run callerA [] st H ⟨[.ref a], []⟩ [.ref a] [.ref a] _ rfl room env (bind st (.ref a)) (.cons rfl .nil) (prom H on sq)) fun res s' hq => ?_
    match res, hq with
    | .ok .next, hq => exact False.elim hq
    | .ok .brk, hq => exact False.elim hq
    | .ok .cont, hq => exact False.elim hq
    | .error e, hq => exact False.elim hq
    | .ok (.ret u), ⟨v, H', os, bare, un, ok', r, q⟩ =>
      have q : v = .bl true := q
      subst q
      have r : u = Value.bool true := r
      subst r
      refine ⟨rfl, OldK.of_keep fun b o e => ?_, os, bare⟩
      by_cases z : H b = none
      · exact un.keep b o e z (fun y => absurd (show b ∈ ([] : List Addr) from y) (by simp)) (by simp)
      · rcases on b with y | ⟨ob, xs, y⟩
        · exact absurd y z
        · obtain ⟨p1, _⟩ := ok b _ y
          obtain ⟨p2, _⟩ := ok' b _ (un.frzs b ob _ y)
          rw [e] at p1
          cases p1
          exact p2
  by_cases hk : K.lookup a = none
  · refine go (upd (fun _ => none) a (.frz { cls := .type "list", data := .seq vs.toArray } (.lst (ns.map V.int)))) (fun b => ?_) (.inl (.inr ⟨_, upd_same⟩)) (fun b u z => ?_) (fun b z => ?_)
    · by_cases hb : b = a
      · subst hb
        exact .inr ⟨_, _, upd_same⟩
      · exact .inl (upd_ne hb)
    · by_cases hb : b = a
      · subst hb
        rw [upd_same] at z
        cases z
        exact ⟨at0, by rw [List.length_map]; exact short, vs, _, rel, at0⟩
      · rw [upd_ne hb] at z
        cases z
    · by_cases hb : b = a
      · subst hb
        exact ⟨rfl, hk⟩
      · exact absurd (upd_ne hb) z
  · obtain ⟨o, ho⟩ := Option.ne_none_iff_exists'.mp hk
    have e := inK a o ho
    rw [at0] at e
    cases e
    refine go (fun _ => none) (fun _ => .inl rfl) (.inr ⟨_, vs.toArray, _, ho, rfl, rfl, rfl, ?_, by simpa using rel⟩) (fun b u z => by cases z) (fun b z => absurd rfl z)
    rw [List.size_toArray, hint.length]
    exact short
theorem walkG {l : PySem.W.OpenLaw} {n k : Nat} {q : Program} {loose : List Str} {XP : (Str → Option Value) → Heap → Prop} {YP : World → Heap → Prop} {d : DefRec} {K : Params → PySem.W.Frag} {sp : World → Sp} {x : Str}
    (hn : l.most = some n) (hn2 : n ≤ sizeLine) (hdf : d.params.defaults = []) (hr : Room k callerA) (hY : ∀ (w : World) (h : Heap), YP w h → (K w.params).In h)
    (F : ∀ (w : World) (mg : Str → Option Value) (fa : Addr) (h : Heap), (K w.params).In h → h.Ns mainGlobals mg → mg d.name = some (.ref fa) →
      ∃ fd : FuncData, (∀ (s : Shared) (u : Value), BindsTo s fd ⟨[u], []⟩ [(x, u)]) ∧ ∀ base : Heap, (K w.params).In base → base.Ns mainGlobals mg → FnG l.prog w (K w.params) mg base k fa fd [x] (sp w))
    (hsp : ∀ (w : World) (H : Hp) (a : Addr) (ns : List Int), ns.length ≤ n → Only H → SqL (K w.params) H a (ns.map V.int) → sp w [.ref a] H (fun v _ => v = .bl true) E0) :
    PySem.W.WalkO q loose XP YP l.row.toRowW d [] (fun f vs => PySem.call f vs) := by
  refine Att.attach_call hn hdf fun w s0 s1 mg mb fa o pm cd doc a vs ns G Y _ _ _ hmg hobj hints hlen hg => ?_
  have inK := hY w _ Y
  obtain ⟨fd, hb, hF⟩ := F w mg fa _ inK G.T.g hmg
  exact lawG inK G.T.g G.T.b G.T.builtins G.T.nolimit hg hobj hints (Nat.le_trans hlen hn2) hr hF hb fun H on sq => hsp w H a ns hlen on sq

/-! ### repr -/
mutual
theorem Dp_nodict {K : PySem.W.Frag} {H : Hp} : ∀ {d : PyData} {v : V}, Dp K H v d → d.hasDict = false
  | .none, _, _ => by simp only [PyData.hasDict]
  | .bool _, _, _ => by simp only [PyData.hasDict]
  | .int _, _, _ => by simp only [PyData.hasDict]
  | .str _, _, _ => by simp only [PyData.hasDict]
  | .list ds, _, h => by
    cases h with
    | lst _ h => simp only [PyData.hasDict, DpAll_nodict h]
  | .tuple ds, _, h => by
    cases h with
    | tup _ h => simp only [PyData.hasDict, DpAll_nodict h]
  | .dict _, _, h => by cases h
theorem DpAll_nodict {K : PySem.W.Frag} {H : Hp} : ∀ {ds : List PyData} {vs : List V}, DpAll K H vs ds → PyData.hasDictAll ds = false
  | [], _, _ => by simp only [PyData.hasDictAll]
  | d :: ds, _, h => by
    cases h with
    | cons h1 h2 => simp only [PyData.hasDictAll, Dp_nodict h1, DpAll_nodict h2, Bool.or_self]
end
def rRepr (K : PySem.W.Frag) : List V → Hp → VK → Prop := fun vs H Q => ∃ (p : Addr) (d : PyData), vs = [.ref p] ∧ Dp K H (.ref p) d ∧ d.showable = true ∧ d.depth ≤ 60 ∧ d.shown.length ≤ sizeLine ∧ Q (.str d.shown) H
theorem cr_repr {X : Cx} (hg : X.A.guards = some []) (hu : X.A.units + 64 < cLine) : CallR X (.builtin "repr") (rRepr X.K) := by
  intro pins s σ H vs us Q I r h
  obtain ⟨p, d, rfl, hd, hs, hz, hl, q⟩ := h
  rw [Vals.ref1 r]
  obtain ⟨as, rd⟩ := Dp.reads I d (.ref p) (.ref p) hd rfl
  exact repr_of_reads' rd hs (PyData.noDict_hsm (Dp_nodict hd)) hg (by omega) (fun _ _ e => e) (fun h' u tk hk => ⟨.str _, H, I.kept hk, ⟨_, rfl⟩, q⟩) hl
end NG

namespace NG
open PySem PySem.Spec PyProof.Rows L2

/-! ### xs[::-1] -/
theorem pe_revL {X : Cx} {e st : Expr} {te ts : TE} {pos p2 : Pos} (he : PE X e te) (hs : PE X st ts) : PE X (.Subscript e (.Slice none none (some st) p2) pos)
    (fun σ H Q => te σ H fun x H1 => ts σ H1 fun y H2 => y = .int (-1) ∧ ∃ a xs, x = .ref a ∧ SqL X.K H2 a xs ∧ ∀ p, H2 p = none → Q (.ref p) (upd H2 p (.lst xs.reverse))) := by
  refine ⟨fun pins s σ H Q I h => ?_⟩
  refine Subscript_ (thn (he.run pins s σ H _ I h) fun v s1 ⟨x, H1, I1, r1, q1⟩ => ?_)
  refine wpAny_Slice ?_
  rw [evalPart_none]
  refine wpAny_pure (wpAny_pure ?_)
  rw [evalPart_some]
  refine thn (hs.run pins s1 σ H1 _ I1 q1) fun vk s2 ⟨y, H2, I2, r2, q2⟩ => ?_
  obtain ⟨rfl, a, xs, rfl, hx, q⟩ := q2
  obtain ⟨t, rfl⟩ := r2
  cases r1
  obtain ⟨its, rv, ht, hz⟩ := I2.list hx
  have I3 : Inv X pins σ H2 { s2 with heap := s2.heap.push { cls := .type "slice", data := .fields #[.none, .none, .int (-1) t] } } := I2.kept (t' := s2.toks) fun b ob q => Heap.get?_push_of_some _ q
  obtain ⟨its', rv', ht', _⟩ := I3.list hx
  have hl := rv'.length
  refine tail_any (ops := [.ref a, .ref s2.heap.objs.size]) ht'.isList.typeIs slot_list_getitem.lookup ?_ (by with_unfolding_all rfl)
  refine wpAny_getItem_list_slice ht'.isList (Heap.IsSliceOf.new ..) .none .none (.int (-1) t) (by decide) ?_ (by rw [List.size_toArray]; omega)
  rw [PySem.W.krv_pick]
  refine ⟨.ref _, _, I3.laid (t' := s2.toks) (o := .lst xs.reverse) (fun b ob q => Heap.get?_push_of_some _ q) (Nat.le_refl _) ?_, rfl, q _ (I3.hok.fresh (Nat.le_refl _))⟩
  refine ⟨by rw [List.length_reverse]; exact hz, its'.reverse, 0, ?_, Heap.get?_push_size _ rfl⟩
  have rev : ∀ {xs : List V} {us : List Value}, Vals xs us → Vals xs.reverse us.reverse := by
    intro xs us r
    induction r with
    | nil => exact .nil
    | cons h t ih =>
      rw [List.reverse_cons, List.reverse_cons]
      exact ih.append (.cons h .nil)
  exact rev rv'

/-! ### calls by keywords alone, handed in from the last parameter to the first -/
theorem Vals.rev {xs : List V} {us : List Value} (r : Vals xs us) : Vals xs.reverse us.reverse := by
  induction r with
  | nil => exact .nil
  | cons h t ih =>
    rw [List.reverse_cons, List.reverse_cons]
    exact ih.append (.cons h .nil)
structure CalK (P : Program) (w : World) (K : PySem.W.Frag) (mg : Str → Option Value) (base : Heap) (k : Nat) (x : Str) (ks : List Str) (sp : Sp) : Prop where
  ex : ∃ (f : Addr) (fd : FuncData), FnG P w K mg base k f fd ks.reverse sp ∧ mg x = some (.ref f) ∧ PySem.W.keepIn K (.ref f) = true ∧ ∀ (s : Shared) (ws : List Value), ws.length = ks.length → BindsTo s fd ⟨[], ks.zip ws⟩ (ks.reverse.zip ws.reverse)
section
variable {X : Cx} {k j : Nat} {x : Str} {ks : List Str} {sp : Sp} {p pos : Pos} {kws : List Keyword} {tk : TA}
theorem pe_kw (c : CalK X.prog X.w X.K X.mg X.base k x ks sp) (hgd : X.A.guards = some []) (hr : Room j X.A) (hk : k ≤ j) (hg : Gl X x) (hkw : PK X kws tk) (hall : (backToKw pos (keywordEach kws X.env)).all (·.1.isSome) = true := by rfl) (hks : (backToKw pos (keywordEach kws X.env)).filterMap (·.1) = ks := by rfl)
    (hdb : (x == ("__debug__" : Str)) = false := by decide) (hpl : ((backTo pos (starEach [] X.env)).any (·.1) || (backToKw pos (keywordEach kws X.env)).any (·.1.isNone)) = false := by rfl) :
    PE X (.Call (.Name x p) [] kws pos) (fun σ H Q => tk σ H fun zs H2 => zs.length = ks.length ∧ sp zs.reverse H2 Q E0) := by
  obtain ⟨f, fd, F, hm, kp, b⟩ := c.ex
  refine ⟨fun pins s σ H Q I h => wpAny_Call_Name_kw (ld_glob I hg hm ?_ hdb)⟩
  refine PySem.W.callWith_KW0 (h₀ := X.base) I.ok.mod.kin kp hall (thn (hkw.run pos pins s σ H _ I h) fun ws s2 ⟨zs, H2, I2, rz, hl, q⟩ => ⟨I2.kIn, ?_⟩) hpl
  rw [hks]
  refine wpAny_call (codeAny_mono (F.run X.A X.stack s2 H2 ⟨[], ks.zip ws⟩ ws.reverse zs.reverse Q hgd (hr.mono hk) I2.env0 (b s2 ws (by rw [← rz.length]; exact hl)) (Vals.rev rz) q) fun res s' hq => ?_)
  match res, hq with
  | .ok (.ret u), hq => exact I2.after hq
  | .ok .next, hq => exact False.elim hq
  | .ok .brk, hq => exact False.elim hq
  | .ok .cont, hq => exact False.elim hq
  | .error e, hq => exact False.elim hq
end

/-! ### an expression as its items -/
inductive Itm where
  | s (x : Str) | i (c : Int) | k (e : Ex)
def ItAt (K : PySem.W.Frag) (H : Hp) : Itm → V → Prop
  | .s x, v => v = .str x
  | .i c, v => v = .int c
  | .k e, v => ExAt K H e v
def ItsAt (K : PySem.W.Frag) (H : Hp) : List V → List Itm → Prop
  | [], [] => True
  | v :: vs, t :: ts => ItAt K H t v ∧ ItsAt K H vs ts
  | _, _ => False
def Ex.items : Ex → List Itm
  | .fig c => [.s "fig", .i c]
  | .reg i => [.s "reg", .i (i : Int)]
  | .share j => [.s "share", .i (j : Int)]
  | .two w a b => [.s (wn w), .k a, .k b]
  | .times f a => [.s "times", .i f, .k a]
  | .by i a => [.s "by", .i (i : Int), .k a]
  | .when i c a b => [.s "when", .i (i : Int), .i c, .k a, .k b]
  | .whr j c a b => [.s "where", .i (j : Int), .i c, .k a, .k b]
def kidsI : List Itm → List Ex
  | [] => []
  | .k e :: r => e :: kidsI r
  | .s _ :: r => kidsI r
  | .i _ :: r => kidsI r
theorem kidsI_items (e : Ex) : kidsI e.items = e.kids := by cases e <;> rfl
theorem kidsI_append : ∀ (l r : List Itm), kidsI (l ++ r) = kidsI l ++ kidsI r
  | [], r => rfl
  | .k e :: l, r => by
    show e :: kidsI (l ++ r) = e :: (kidsI l ++ kidsI r)
    rw [kidsI_append l r]
  | .s _ :: l, r => kidsI_append l r
  | .i _ :: l, r => kidsI_append l r
theorem ExAt.its {K : PySem.W.Frag} {H : Hp} : ∀ {e : Ex} {v : V}, ExAt K H e v → ∃ p xs, v = .ref p ∧ SqT K H p xs ∧ ItsAt K H xs e.items
  | .fig _, _, ⟨p, e, q⟩ => ⟨p, _, e, q, rfl, rfl, trivial⟩
  | .reg _, _, ⟨p, e, q⟩ => ⟨p, _, e, q, rfl, rfl, trivial⟩
  | .share _, _, ⟨p, e, q⟩ => ⟨p, _, e, q, rfl, rfl, trivial⟩
  | .two _ _ _, _, ⟨p, x, y, e, q, a, b⟩ => ⟨p, _, e, q, rfl, a, b, trivial⟩
  | .times _ _, _, ⟨p, x, e, q, a⟩ => ⟨p, _, e, q, rfl, rfl, a, trivial⟩
  | .by _ _, _, ⟨p, x, e, q, a⟩ => ⟨p, _, e, q, rfl, rfl, a, trivial⟩
  | .when _ _ _ _, _, ⟨p, x, y, e, q, a, b⟩ => ⟨p, _, e, q, rfl, rfl, rfl, a, b, trivial⟩
  | .whr _ _ _ _, _, ⟨p, x, y, e, q, a, b⟩ => ⟨p, _, e, q, rfl, rfl, rfl, a, b, trivial⟩
theorem ItsAt.get {K : PySem.W.Frag} {H : Hp} : ∀ {vs : List V} {ts : List Itm} {k : Nat} {v : V}, ItsAt K H vs ts → vs[k]? = some v → ∃ t, ts[k]? = some t ∧ ItAt K H t v
  | [], [], _, _, _, h => by simp at h
  | v' :: vs, t :: ts, 0, v, ⟨x, r⟩, h => by
    have : v' = v := Option.some.inj h
    subst this
    exact ⟨t, rfl, x⟩
  | v' :: vs, t :: ts, k + 1, v, ⟨x, r⟩, h => ItsAt.get (k := k) r h
theorem ItsAt.len {K : PySem.W.Frag} {H : Hp} : ∀ {vs : List V} {ts : List Itm}, ItsAt K H vs ts → vs.length = ts.length
  | [], [], _ => rfl
  | _ :: _, _ :: _, ⟨_, r⟩ => by rw [List.length_cons, List.length_cons, r.len]
theorem tyx_tup {K : PySem.W.Frag} {H : Hp} {p : Addr} {xs : List V} (h : SqT K H p xs) : TyX K H (.ref p) (.type "tuple") := by
  rcases h with (h | ⟨o, h⟩) | ⟨o, its, n, h1, h2, _⟩
  · exact .base (.tup h)
  · exact .fTuple h
  · exact .kTuple h1 h2
def Itm.isK : Itm → Bool
  | .k _ => true
  | _ => false
theorem isi_item {K : PySem.W.Frag} {H : Hp} {t : Itm} {v : V} (h : ItAt K H t v) : ∃ ty, TyX K H v ty ∧ PySem.W.kitOne K ty (.type "tuple") = some t.isK := by
  cases t with
  | s x =>
    have h : v = .str x := h
    subst h
    exact ⟨_, .base (.str x), kit_ty (show kitB "str" "tuple" = some false by decide +kernel)⟩
  | i c =>
    have h : v = .int c := h
    subst h
    exact ⟨_, .base (.int c), kit_ty (show kitB "int" "tuple" = some false by decide +kernel)⟩
  | k e =>
    obtain ⟨p, xs, rfl, hp, _⟩ := ExAt.its h
    exact ⟨_, tyx_tup hp, kit_ty (show kitB "tuple" "tuple" = some true by decide +kernel)⟩

/-! ### as data, for repr -/
def toI : Itm → (Ex → PyData) → PyData
  | .s x, _ => .str x
  | .i c, _ => .int c
  | .k e, f => f e
def toD : Ex → PyData
  | .fig c => .tuple [.str "fig", .int c]
  | .reg i => .tuple [.str "reg", .int (i : Int)]
  | .share j => .tuple [.str "share", .int (j : Int)]
  | .two w a b => .tuple [.str (wn w), toD a, toD b]
  | .times f a => .tuple [.str "times", .int f, toD a]
  | .by i a => .tuple [.str "by", .int (i : Int), toD a]
  | .when i c a b => .tuple [.str "when", .int (i : Int), .int c, toD a, toD b]
  | .whr j c a b => .tuple [.str "where", .int (j : Int), .int c, toD a, toD b]
theorem ExAt.dp {K : PySem.W.Frag} {H : Hp} : ∀ {e : Ex} {v : V}, ExAt K H e v → Dp K H v (toD e)
  | .fig _, _, ⟨p, e, q⟩ => by subst e; exact .tup q (.cons (.str _) (.cons (.int _) .nil))
  | .reg _, _, ⟨p, e, q⟩ => by subst e; exact .tup q (.cons (.str _) (.cons (.int _) .nil))
  | .share _, _, ⟨p, e, q⟩ => by subst e; exact .tup q (.cons (.str _) (.cons (.int _) .nil))
  | .two _ _ _, _, ⟨p, x, y, e, q, a, b⟩ => by subst e; exact .tup q (.cons (.str _) (.cons a.dp (.cons b.dp .nil)))
  | .times _ _, _, ⟨p, x, e, q, a⟩ => by subst e; exact .tup q (.cons (.str _) (.cons (.int _) (.cons a.dp .nil)))
  | .by _ _, _, ⟨p, x, e, q, a⟩ => by subst e; exact .tup q (.cons (.str _) (.cons (.int _) (.cons a.dp .nil)))
  | .when _ _ _ _, _, ⟨p, x, y, e, q, a, b⟩ => by subst e; exact .tup q (.cons (.str _) (.cons (.int _) (.cons (.int _) (.cons a.dp (.cons b.dp .nil)))))
  | .whr _ _ _ _, _, ⟨p, x, y, e, q, a, b⟩ => by subst e; exact .tup q (.cons (.str _) (.cons (.int _) (.cons (.int _) (.cons a.dp (.cons b.dp .nil)))))
/-- short enough to be shown: every number below 2 ^ 600, every sign small -/
structure Shw (d : PyData) (w k : Nat) : Prop where
  sh : d.showable = true
  lf : d.leavesShort 700 = true
  wt : d.weight ≤ w
  dp : d.depth ≤ k
theorem log_of {i : Int} (h : i.natAbs < 2 ^ 600) : i.natAbs.log2 < 600 := PySem.Flt.log2_lt_of (by decide) h
theorem Shw.int {i : Int} (h : i.natAbs < 2 ^ 600) : Shw (.int i) 601 0 := by
  have hl := log_of h
  refine ⟨?_, ?_, ?_, Nat.le_refl _⟩
  · show decide (i.natAbs.log2 < 1920) = true
    exact decide_eq_true (by omega)
  · show decide ((PyData.shown (.int i)).length ≤ 700) = true
    refine decide_eq_true ?_
    have e := int_text_length_le (k := 600) (by decide) hl
    show (Str.ofString (toString i)).length ≤ 700
    rw [PySem.ofString_length]
    omega
  · show (if i == 0 then 0 else i.natAbs.log2 + 1) ≤ 601
    split <;> omega
theorem Shw.small {i : Int} (h : i.natAbs < 2 ^ 15) : Shw (.int i) 15 0 := by
  have hl : i.natAbs.log2 < 15 := PySem.Flt.log2_lt_of (by decide) h
  have h6 := Shw.int (i := i) (Nat.lt_of_lt_of_le h (Nat.pow_le_pow_right (by decide) (by decide)))
  refine ⟨h6.sh, h6.lf, ?_, Nat.le_refl _⟩
  show (if i == 0 then 0 else i.natAbs.log2 + 1) ≤ 15
  split <;> omega
theorem Shw.str {x : Str} (h : (x.cps.toList.all fun c => decide (c < 16 ^ 8)) = true) (hl : x.cps.size ≤ 10) : Shw (.str x) 10 0 := ⟨rfl, h, hl, Nat.le_refl _⟩
structure ShwAll (ds : List PyData) (w k : Nat) : Prop where
  sh : PyData.showableAll ds = true
  lf : PyData.leavesShortAll 700 ds = true
  wt : PyData.weightAll ds ≤ w
  dp : PyData.depthAll ds ≤ k
theorem ShwAll.nil {k : Nat} : ShwAll [] 0 k := ⟨rfl, rfl, Nat.le_refl _, Nat.zero_le _⟩
theorem ShwAll.cons {d : PyData} {ds : List PyData} {w1 w2 k1 k2 k : Nat} (h1 : Shw d w1 k1) (h2 : ShwAll ds w2 k2) (hk1 : k1 ≤ k) (hk2 : k2 ≤ k) : ShwAll (d :: ds) (w1 + 1 + w2) k := by
  refine ⟨?_, ?_, ?_, ?_⟩
  · show (d.showable && PyData.showableAll ds) = true
    rw [h1.sh, h2.sh]
    rfl
  · show (d.leavesShort 700 && PyData.leavesShortAll 700 ds) = true
    rw [h1.lf, h2.lf]
    rfl
  · show d.weight + 1 + PyData.weightAll ds ≤ _
    have := h1.wt
    have := h2.wt
    omega
  · show max d.depth (PyData.depthAll ds) ≤ k
    have := h1.dp
    have := h2.dp
    omega
theorem ShwAll.tup {ds : List PyData} {w k : Nat} (h : ShwAll ds w k) : Shw (.tuple ds) w (k + 1) := ⟨h.sh, h.lf, h.wt, by show PyData.depthAll ds + 1 ≤ k + 1; have := h.dp; omega⟩
theorem ShwAll.lst {ds : List PyData} {w k : Nat} (h : ShwAll ds w k) : Shw (.list ds) w (k + 1) := ⟨h.sh, h.lf, h.wt, by show PyData.depthAll ds + 1 ≤ k + 1; have := h.dp; omega⟩
theorem Shw.mono {d : PyData} {w w' k k' : Nat} (h : Shw d w k) (hw : w ≤ w') (hk : k ≤ k') : Shw d w' k' := ⟨h.sh, h.lf, Nat.le_trans h.wt hw, Nat.le_trans h.dp hk⟩
theorem Shw.fits {d : PyData} {w k : Nat} (h : Shw d w k) (hw : w ≤ 20000) : d.shown.length ≤ sizeLine := by
  have := PyData.shown_le 700 (by decide) d h.lf
  have := h.wt
  have e : sizeLine = 16777216 := by decide
  omega
def wgt : Nat → Nat
  | 0 => 0
  | n + 1 => 2 * wgt n + 60
theorem wgt_mono : ∀ {m n : Nat}, m ≤ n → wgt m ≤ wgt n
  | 0, _, _ => Nat.zero_le _
  | m + 1, 0, h => absurd h (by omega)
  | m + 1, n + 1, h => by
    have := wgt_mono (m := m) (n := n) (by omega)
    show 2 * wgt m + 60 ≤ 2 * wgt n + 60
    omega
theorem shw_ex {many : Nat} (hm : many ≤ 1000) : ∀ {e : Ex}, ExOk many e → Shw (toD e) (wgt e.dep) e.dep
  | .fig c, o => (ShwAll.tup (.cons (.str (by decide) (by decide)) (.cons (.small (by have := o.1; have := o.2; omega)) .nil (Nat.le_refl 0) (Nat.le_refl 0)) (Nat.le_refl 0) (Nat.le_refl 0))).mono (show _ ≤ wgt 1 by decide) (show 0 + 1 ≤ 1 by decide)
  | .reg i, o => by
    have o : i < 4 := o
    exact (ShwAll.tup (.cons (.str (by decide) (by decide)) (.cons (.small (by omega)) .nil (Nat.le_refl 0) (Nat.le_refl 0)) (Nat.le_refl 0) (Nat.le_refl 0))).mono (show _ ≤ wgt 1 by decide) (show 0 + 1 ≤ 1 by decide)
  | .share j, o => by
    have o : j < many := o
    exact (ShwAll.tup (.cons (.str (by decide) (by decide)) (.cons (.small (by omega)) .nil (Nat.le_refl 0) (Nat.le_refl 0)) (Nat.le_refl 0) (Nat.le_refl 0))).mono (show _ ≤ wgt 1 by decide) (show 0 + 1 ≤ 1 by decide)
  | .two w a b, o => by
    have ha := shw_ex hm (e := a) o.1
    have hb := shw_ex hm (e := b) o.2
    have hw : Shw (.str (wn w)) 10 0 := by cases w <;> exact .str (by decide) (by decide)
    have h1 := wgt_mono (Nat.le_max_left a.dep b.dep)
    have h2 := wgt_mono (Nat.le_max_right a.dep b.dep)
    refine (ShwAll.tup (.cons hw (.cons ha (.cons hb .nil (Nat.le_refl _) (Nat.zero_le _)) (Nat.le_max_left a.dep b.dep) (Nat.le_max_right a.dep b.dep)) (Nat.zero_le _) (Nat.le_refl _))).mono ?_ (Nat.le_refl _)
    show 10 + 1 + (wgt a.dep + 1 + (wgt b.dep + 1 + 0)) ≤ 2 * wgt (max a.dep b.dep) + 60
    omega
  | .times f a, o => by
    have ha := shw_ex hm (e := a) o.2
    refine (ShwAll.tup (.cons (.str (by decide) (by decide)) (.cons (.small (by have := o.1; omega)) (.cons ha .nil (Nat.le_refl _) (Nat.zero_le _)) (Nat.zero_le _) (Nat.le_refl _)) (Nat.zero_le _) (Nat.le_refl _))).mono ?_ (Nat.le_refl _)
    show 10 + 1 + (15 + 1 + (wgt a.dep + 1 + 0)) ≤ 2 * wgt a.dep + 60
    omega
  | .by i a, o => by
    have ha := shw_ex hm (e := a) o.2
    refine (ShwAll.tup (.cons (.str (by decide) (by decide)) (.cons (.small (by have := o.1; omega)) (.cons ha .nil (Nat.le_refl _) (Nat.zero_le _)) (Nat.zero_le _) (Nat.le_refl _)) (Nat.zero_le _) (Nat.le_refl _))).mono ?_ (Nat.le_refl _)
    show 10 + 1 + (15 + 1 + (wgt a.dep + 1 + 0)) ≤ 2 * wgt a.dep + 60
    omega
  | .when i c a b, o => by
    have ha := shw_ex hm (e := a) o.2.2.1
    have hb := shw_ex hm (e := b) o.2.2.2
    have h1 := wgt_mono (Nat.le_max_left a.dep b.dep)
    have h2 := wgt_mono (Nat.le_max_right a.dep b.dep)
    refine (ShwAll.tup (.cons (.str (by decide) (by decide)) (.cons (.small (by have := o.1; omega)) (.cons (.small (by have := o.2.1; omega)) (.cons ha (.cons hb .nil (Nat.le_refl _) (Nat.zero_le _)) (Nat.le_max_left a.dep b.dep) (Nat.le_max_right a.dep b.dep)) (Nat.zero_le _) (Nat.le_refl _)) (Nat.zero_le _) (Nat.le_refl _)) (Nat.zero_le _) (Nat.le_refl _))).mono ?_ (Nat.le_refl _)
    show 10 + 1 + (15 + 1 + (15 + 1 + (wgt a.dep + 1 + (wgt b.dep + 1 + 0)))) ≤ 2 * wgt (max a.dep b.dep) + 60
    omega
  | .whr i c a b, o => by
    have ha := shw_ex hm (e := a) o.2.2.1
    have hb := shw_ex hm (e := b) o.2.2.2
    have h1 := wgt_mono (Nat.le_max_left a.dep b.dep)
    have h2 := wgt_mono (Nat.le_max_right a.dep b.dep)
    refine (ShwAll.tup (.cons (.str (by decide) (by decide)) (.cons (.small (by have := o.1; omega)) (.cons (.small (by have := o.2.1; omega)) (.cons ha (.cons hb .nil (Nat.le_refl _) (Nat.zero_le _)) (Nat.le_max_left a.dep b.dep) (Nat.le_max_right a.dep b.dep)) (Nat.zero_le _) (Nat.le_refl _)) (Nat.zero_le _) (Nat.le_refl _)) (Nat.zero_le _) (Nat.le_refl _))).mono ?_ (Nat.le_refl _)
    show 10 + 1 + (15 + 1 + (15 + 1 + (wgt a.dep + 1 + (wgt b.dep + 1 + 0)))) ≤ 2 * wgt (max a.dep b.dep) + 60
    omega
/-- numbers of spans and worths stay below 2 ^ 600 -/
theorem spn_bnd : ∀ {many : Nat} {e : Ex}, ExOk many e → (spn e).1.natAbs ≤ 1000 * 2000 ^ e.dep ∧ (spn e).2.natAbs ≤ 1000 * 2000 ^ e.dep := by
  intro many e
  have up : ∀ {m n : Nat}, m ≤ n → 1000 * 2000 ^ m ≤ 1000 * 2000 ^ n := fun h => Nat.mul_le_mul_left _ (Nat.pow_le_pow_right (by decide) h)
  have nx : ∀ n : Nat, 1000 * 2000 ^ (n + 1) = 2000 * (1000 * 2000 ^ n) := fun n => by rw [Nat.pow_succ]; omega
  induction e with
  | fig c =>
    intro o
    have := o.1
    have := o.2
    show c.natAbs ≤ 1000 * 2000 ^ 1 ∧ c.natAbs ≤ 1000 * 2000 ^ 1
    omega
  | reg i =>
    intro o
    show (-1000 : Int).natAbs ≤ 1000 * 2000 ^ 1 ∧ (1000 : Int).natAbs ≤ 1000 * 2000 ^ 1
    decide
  | share j =>
    intro o
    show (0 : Int).natAbs ≤ 1000 * 2000 ^ 1 ∧ (1000 : Int).natAbs ≤ 1000 * 2000 ^ 1
    decide
  | two w a b iha ihb =>
    intro o
    have ha := iha o.1
    have hb := ihb o.2
    have h1 := up (Nat.le_max_left a.dep b.dep)
    have h2 := up (Nat.le_max_right a.dep b.dep)
    show (js w (spn a) (spn b)).1.natAbs ≤ 1000 * 2000 ^ (max a.dep b.dep + 1) ∧ (js w (spn a) (spn b)).2.natAbs ≤ 1000 * 2000 ^ (max a.dep b.dep + 1)
    rw [nx]
    cases w with
    | sum => simp only [js]; omega
    | less => simp only [js]; omega
    | least => simp only [js, mn]; split <;> split <;> omega
    | most => simp only [js, mx]; split <;> split <;> omega
  | times f a ih =>
    intro o
    have ha := ih o.2
    have hf : f.natAbs ≤ 9 := by have := o.1; omega
    have m1 : (f * (spn a).1).natAbs ≤ 9 * (1000 * 2000 ^ a.dep) := by rw [Int.natAbs_mul]; exact Nat.mul_le_mul hf ha.1
    have m2 : (f * (spn a).2).natAbs ≤ 9 * (1000 * 2000 ^ a.dep) := by rw [Int.natAbs_mul]; exact Nat.mul_le_mul hf ha.2
    show (mn _ _).natAbs ≤ 1000 * 2000 ^ (a.dep + 1) ∧ (mx _ _).natAbs ≤ 1000 * 2000 ^ (a.dep + 1)
    rw [nx]
    unfold mn mx
    split <;> split <;> omega
  | «by» i a ih =>
    intro o
    have ha := ih o.2
    have m1 : (mx (ab (spn a).1) (ab (spn a).2)).natAbs ≤ 1000 * 2000 ^ a.dep := by
      unfold mx ab
      repeat' split
      all_goals omega
    show (-1000 * mx _ _).natAbs ≤ 1000 * 2000 ^ (a.dep + 1) ∧ (1000 * mx _ _).natAbs ≤ 1000 * 2000 ^ (a.dep + 1)
    rw [nx]
    omega
  | when i c a b iha ihb =>
    intro o
    have ha := iha o.2.2.1
    have hb := ihb o.2.2.2
    have h1 := up (Nat.le_max_left a.dep b.dep)
    have h2 := up (Nat.le_max_right a.dep b.dep)
    show (mn _ _).natAbs ≤ 1000 * 2000 ^ (max a.dep b.dep + 1) ∧ (mx _ _).natAbs ≤ 1000 * 2000 ^ (max a.dep b.dep + 1)
    rw [nx]
    unfold mn mx
    split <;> split <;> omega
  | whr i c a b iha ihb =>
    intro o
    have ha := iha o.2.2.1
    have hb := ihb o.2.2.2
    have h1 := up (Nat.le_max_left a.dep b.dep)
    have h2 := up (Nat.le_max_right a.dep b.dep)
    show (mn _ _).natAbs ≤ 1000 * 2000 ^ (max a.dep b.dep + 1) ∧ (mx _ _).natAbs ≤ 1000 * 2000 ^ (max a.dep b.dep + 1)
    rw [nx]
    unfold mn mx
    split <;> split <;> omega
theorem bnd_600 {d : Nat} {x : Int} (hd : d ≤ 10) (h : x.natAbs ≤ 1000 * 2000 ^ d) : x.natAbs < 2 ^ 300 := by
  have h1 : 1000 * 2000 ^ d ≤ 1000 * 2000 ^ 10 := Nat.mul_le_mul_left _ (Nat.pow_le_pow_right (by decide) hd)
  have h2 : (1000 * 2000 ^ 10 : Nat) < 2 ^ 300 := by decide
  omega
end NG

namespace NG
open PySem PySem.Spec PyProof.Rows L2

/-! ### leaves and borders -/
def lvs : Ex → Int
  | .fig _ => 1
  | .reg _ => 1
  | .share _ => 1
  | .two .sum a b => lvs a * lvs b
  | .two .less a b => lvs a * lvs b
  | .two .least a b => lvs a + lvs b
  | .two .most a b => lvs a + lvs b
  | .times _ a => lvs a
  | .by _ a => lvs a
  | .when _ _ a b => mx (lvs a) (lvs b)
  | .whr _ _ a b => lvs a + lvs b
def bds : Ex → Int
  | .fig _ => 0
  | .reg _ => 0
  | .share _ => 0
  | .two .sum a b => bds a + bds b
  | .two .less a b => bds a + bds b
  | .two .least a b => bds a + bds b + lvs a * lvs b
  | .two .most a b => bds a + bds b + lvs a * lvs b
  | .times _ a => bds a
  | .by _ a => bds a
  | .when _ _ a b => mx (bds a) (bds b)
  | .whr _ _ a b => bds a + bds b + 1
def bnd : Nat → Nat
  | 0 => 1
  | n + 1 => bnd n * bnd n + 2 * bnd n
theorem bnd_pos : ∀ n, 1 ≤ bnd n
  | 0 => Nat.le_refl _
  | n + 1 => by
    have := bnd_pos n
    show 1 ≤ bnd n * bnd n + 2 * bnd n
    omega
theorem bnd_up : ∀ {m n : Nat}, m ≤ n → bnd m ≤ bnd n := by
  intro m n h
  induction h with
  | refl => exact Nat.le_refl _
  | step _ ih =>
    refine Nat.le_trans ih ?_
    show _ ≤ bnd _ * bnd _ + 2 * bnd _
    omega
theorem lb_bnd : ∀ e : Ex, (lvs e).natAbs ≤ bnd e.dep ∧ (bds e).natAbs ≤ bnd e.dep := by
  intro e
  have pm : ∀ {x y : Int} {B : Nat}, x.natAbs ≤ B → y.natAbs ≤ B → (x * y).natAbs ≤ B * B := fun hx hy => by rw [Int.natAbs_mul]; exact Nat.mul_le_mul hx hy
  induction e with
  | fig c => exact ⟨by show 1 ≤ bnd 1; exact bnd_pos 1, Nat.zero_le _⟩
  | reg c => exact ⟨by show 1 ≤ bnd 1; exact bnd_pos 1, Nat.zero_le _⟩
  | share c => exact ⟨by show 1 ≤ bnd 1; exact bnd_pos 1, Nat.zero_le _⟩
  | two w a b iha ihb =>
    have h1 := bnd_up (Nat.le_max_left a.dep b.dep)
    have h2 := bnd_up (Nat.le_max_right a.dep b.dep)
    have hm := pm (Nat.le_trans iha.1 h1) (Nat.le_trans ihb.1 h2)
    show (lvs (.two w a b)).natAbs ≤ bnd (max a.dep b.dep) * bnd (max a.dep b.dep) + 2 * bnd (max a.dep b.dep) ∧ (bds (.two w a b)).natAbs ≤ bnd (max a.dep b.dep) * bnd (max a.dep b.dep) + 2 * bnd (max a.dep b.dep)
    cases w <;> simp only [lvs, bds] <;> omega
  | times f a ih =>
    show (lvs a).natAbs ≤ bnd a.dep * bnd a.dep + 2 * bnd a.dep ∧ (bds a).natAbs ≤ bnd a.dep * bnd a.dep + 2 * bnd a.dep
    omega
  | «by» i a ih =>
    show (lvs a).natAbs ≤ bnd a.dep * bnd a.dep + 2 * bnd a.dep ∧ (bds a).natAbs ≤ bnd a.dep * bnd a.dep + 2 * bnd a.dep
    omega
  | when i c a b iha ihb =>
    have h1 := bnd_up (Nat.le_max_left a.dep b.dep)
    have h2 := bnd_up (Nat.le_max_right a.dep b.dep)
    show (mx (lvs a) (lvs b)).natAbs ≤ bnd (max a.dep b.dep) * bnd (max a.dep b.dep) + 2 * bnd (max a.dep b.dep) ∧ (mx (bds a) (bds b)).natAbs ≤ bnd (max a.dep b.dep) * bnd (max a.dep b.dep) + 2 * bnd (max a.dep b.dep)
    unfold mx
    split <;> split <;> omega
  | whr i c a b iha ihb =>
    have h1 := bnd_up (Nat.le_max_left a.dep b.dep)
    have h2 := bnd_up (Nat.le_max_right a.dep b.dep)
    have h3 := bnd_pos (max a.dep b.dep)
    have h4 : bnd (max a.dep b.dep) ≤ bnd (max a.dep b.dep) * bnd (max a.dep b.dep) := Nat.le_mul_of_pos_left _ h3
    show (lvs a + lvs b).natAbs ≤ bnd (max a.dep b.dep) * bnd (max a.dep b.dep) + 2 * bnd (max a.dep b.dep) ∧ (bds a + bds b + 1).natAbs ≤ bnd (max a.dep b.dep) * bnd (max a.dep b.dep) + 2 * bnd (max a.dep b.dep)
    omega
theorem lvs_mul {e : Ex} {y : Int} (h : e.dep ≤ 5) : CMul (lvs e) y := by
  have h1 := (lb_bnd e).1
  have h2 := bnd_up h
  have h3 : bnd 5 < 2 ^ 64 := by decide
  exact .inl ⟨by omega, by omega⟩
theorem lb_600 {e : Ex} (h : e.dep ≤ 6) : (lvs e).natAbs < 2 ^ 600 ∧ (bds e).natAbs < 2 ^ 600 := by
  have h1 := lb_bnd e
  have h2 := bnd_up h
  have h3 : bnd 6 < 2 ^ 600 := by decide
  omega
def spCnt (K : PySem.W.Frag) (f : Ex → Int) (n : Nat) : Sp := fun vs H Q _ => ∃ (v : V) (e : Ex) (many : Nat), vs = [v] ∧ ExAt K H e v ∧ ExOk many e ∧ e.dep ≤ n ∧ e.dep ≤ 6 ∧ ∀ H', Same H H' → Q (.int (f e)) H'
def spLB (K : PySem.W.Frag) (n : Nat) : Sp := fun vs H Q _ => ∃ (v : V) (e : Ex) (many : Nat), vs = [v] ∧ ExAt K H e v ∧ ExOk many e ∧ e.dep ≤ n ∧ e.dep ≤ 6 ∧ ∀ H' u, Same H H' → SpAt K H' (lvs e, bds e) u → Q u H'

/-! ### the law's own reading -/
def Ex.rest : Ex → List Itm
  | .fig c => [.i c]
  | .reg i => [.i (i : Int)]
  | .share j => [.i (j : Int)]
  | .two _ a b => [.k a, .k b]
  | .times f a => [.i f, .k a]
  | .by i a => [.i (i : Int), .k a]
  | .when i c a b => [.i (i : Int), .i c, .k a, .k b]
  | .whr j c a b => [.i (j : Int), .i c, .k a, .k b]
theorem kidsI_rest (e : Ex) : kidsI e.rest = e.kids := by cases e <;> rfl
theorem rest_len (e : Ex) : e.rest.length ≤ 4 := by cases e <;> simp [Ex.rest]
theorem ItsAt.imp {K : PySem.W.Frag} {H H' : Hp} (sm : Same H H') : ∀ {vs : List V} {ts : List Itm}, ItsAt K H vs ts → ItsAt K H' vs ts
  | [], [], _ => trivial
  | _ :: _, .s _ :: _, ⟨x, r⟩ => ⟨x, r.imp sm⟩
  | _ :: _, .i _ :: _, ⟨x, r⟩ => ⟨x, r.imp sm⟩
  | _ :: _, .k e :: _, ⟨x, r⟩ => ⟨ExAt.same (e := e) x sm, r.imp sm⟩
theorem ExAt.rst {K : PySem.W.Frag} {H : Hp} : ∀ {e : Ex} {v : V}, ExAt K H e v → ∃ p xs, v = .ref p ∧ SqT K H p (.str (wordOf e) :: xs) ∧ 0 < xs.length ∧ ItsAt K H xs e.rest
  | .fig _, _, ⟨p, e, q⟩ => ⟨p, _, e, q, by simp, rfl, trivial⟩
  | .reg _, _, ⟨p, e, q⟩ => ⟨p, _, e, q, by simp, rfl, trivial⟩
  | .share _, _, ⟨p, e, q⟩ => ⟨p, _, e, q, by simp, rfl, trivial⟩
  | .two _ _ _, _, ⟨p, x, y, e, q, a, b⟩ => ⟨p, _, e, q, by simp, a, b, trivial⟩
  | .times _ _, _, ⟨p, x, e, q, a⟩ => ⟨p, _, e, q, by simp, rfl, a, trivial⟩
  | .by _ _, _, ⟨p, x, e, q, a⟩ => ⟨p, _, e, q, by simp, rfl, a, trivial⟩
  | .when _ _ _ _, _, ⟨p, x, y, e, q, a, b⟩ => ⟨p, _, e, q, by simp, rfl, rfl, a, b, trivial⟩
  | .whr _ _ _ _, _, ⟨p, x, y, e, q, a, b⟩ => ⟨p, _, e, q, by simp, rfl, rfl, a, b, trivial⟩
theorem cut1 {x : V} {xs : List V} : cutV (x :: xs) (some 1) none = xs := by
  unfold cutV
  rw [show HT.sIx (x :: xs).length 0 (some 1) = min 1 (x :: xs).length from HT.sIx_nat _ 0 1, HT.sIx_none, List.length_cons, show min 1 (xs.length + 1) = 1 by omega]
  show List.take (xs.length + 1 - 1) xs = xs
  rw [Nat.add_sub_cancel, List.take_length]
theorem cut1w {x : V} {xs : List V} (h : 0 < xs.length) : ¬ (HT.sIx (x :: xs).length 0 (some 1) = 0 ∧ HT.sIx (x :: xs).length (x :: xs).length none = (x :: xs).length) := by
  rw [show HT.sIx (x :: xs).length 0 (some 1) = min 1 (x :: xs).length from HT.sIx_nat _ 0 1, List.length_cons]
  omega
theorem kidsI_snoc {ts : List Itm} {i : Nat} {t : Itm} (h : ts[i]? = some t) : kidsI (ts.take (i + 1)) = kidsI (ts.take i) ++ kidsI [t] := by
  rw [List.take_add_one, h, kidsI_append]
  rfl
theorem mem_kidsI {e : Ex} : ∀ {ts : List Itm}, Itm.k e ∈ ts → e ∈ kidsI ts
  | .k e' :: r, h => by
    rcases List.mem_cons.mp h with h | h
    · cases h
      exact List.mem_cons_self
    · exact List.mem_cons_of_mem _ (mem_kidsI h)
  | .s _ :: r, h => by
    rcases List.mem_cons.mp h with h | h
    · cases h
    · exact mem_kidsI (ts := r) h
  | .i _ :: r, h => by
    rcases List.mem_cons.mp h with h | h
    · cases h
    · exact mem_kidsI (ts := r) h
theorem sort2 {ns : List Int} {a b : Int} (hp : ns.Perm [a, b]) (hs : ns.Pairwise (· ≤ ·)) : ns = [mn a b, mx a b] := by
  have hl := hp.length_eq
  match ns, hl with
  | [x, y], _ =>
    have hxy : x ≤ y := by simpa using hs
    have h1 : x = a ∨ x = b := by simpa using hp.mem_iff (a := x)
    have h2 : y = a ∨ y = b := by simpa using hp.mem_iff (a := y)
    have h3 : a = x ∨ a = y := by simpa using (hp.mem_iff (a := a)).mpr (by simp)
    have h4 : b = x ∨ b = y := by simpa using (hp.mem_iff (a := b)).mpr (by simp)
    have e1 : x = mn a b := by unfold mn; split <;> omega
    have e2 : y = mx a b := by unfold mx; split <;> omega
    rw [e1, e2]
theorem far_eq {lo hi : Int} (h : lo ≤ hi) : (if (0 - lo) > hi then (0 - lo) else hi) = mx (ab lo) (ab hi) := by
  unfold mx ab
  repeat' split
  all_goals omega
end NG

namespace NG
open PySem PySem.Spec PyProof.Rows L2
/-! ### rows of expressions as data -/
theorem lay_ex : ∀ e : Ex, (toD e).canLay0 = true
  | .fig _ => by
    show (PyData.canLay0 (.str "fig") && (true && true)) = true
    decide +kernel
  | .reg _ => by
    show (PyData.canLay0 (.str "reg") && (true && true)) = true
    decide +kernel
  | .share _ => by
    show (PyData.canLay0 (.str "share") && (true && true)) = true
    decide +kernel
  | .two w a b => by
    have ha := lay_ex a
    have hb := lay_ex b
    show (PyData.canLay0 (.str (wn w)) && (PyData.canLay0 (toD a) && (PyData.canLay0 (toD b) && true))) = true
    rw [ha, hb]
    cases w <;> decide +kernel
  | .times _ a => by
    have ha := lay_ex a
    show (PyData.canLay0 (.str "times") && (true && (PyData.canLay0 (toD a) && true))) = true
    rw [ha]
    decide +kernel
  | .by _ a => by
    have ha := lay_ex a
    show (PyData.canLay0 (.str "by") && (true && (PyData.canLay0 (toD a) && true))) = true
    rw [ha]
    decide +kernel
  | .when _ _ a b => by
    have ha := lay_ex a
    have hb := lay_ex b
    show (PyData.canLay0 (.str "when") && (true && (true && (PyData.canLay0 (toD a) && (PyData.canLay0 (toD b) && true))))) = true
    rw [ha, hb]
    decide +kernel
  | .whr _ _ a b => by
    have ha := lay_ex a
    have hb := lay_ex b
    show (PyData.canLay0 (.str "where") && (true && (true && (PyData.canLay0 (toD a) && (PyData.canLay0 (toD b) && true))))) = true
    rw [ha, hb]
    decide +kernel
theorem depth_ex : ∀ e : Ex, (toD e).depth ≤ e.dep
  | .fig _ => Nat.le_refl _
  | .reg _ => Nat.le_refl _
  | .share _ => Nat.le_refl _
  | .two w a b => by
    have ha := depth_ex a
    have hb := depth_ex b
    show max 0 (max (toD a).depth (max (toD b).depth 0)) + 1 ≤ max a.dep b.dep + 1
    omega
  | .times _ a => by
    have ha := depth_ex a
    show max 0 (max 0 (max (toD a).depth 0)) + 1 ≤ a.dep + 1
    omega
  | .by _ a => by
    have ha := depth_ex a
    show max 0 (max 0 (max (toD a).depth 0)) + 1 ≤ a.dep + 1
    omega
  | .when _ _ a b => by
    have ha := depth_ex a
    have hb := depth_ex b
    show max 0 (max 0 (max 0 (max (toD a).depth (max (toD b).depth 0)))) + 1 ≤ max a.dep b.dep + 1
    omega
  | .whr _ _ a b => by
    have ha := depth_ex a
    have hb := depth_ex b
    show max 0 (max 0 (max 0 (max (toD a).depth (max (toD b).depth 0)))) + 1 ≤ max a.dep b.dep + 1
    omega
theorem shaped_rows {es : List Ex} (h : ∀ e ∈ es, e.dep ≤ 40) : SeqAt.shaped (.list (es.map toD)) = true := by
  have h1 : PyData.canLayAll0 (es.map toD) = true := by
    clear h
    induction es with
    | nil => rfl
    | cons e r ih =>
      show ((toD e).canLay0 && PyData.canLayAll0 (r.map toD)) = true
      rw [lay_ex e, ih]
      rfl
  have h2 : PyData.depthAll (es.map toD) ≤ 40 := by
    clear h1
    induction es with
    | nil => exact Nat.zero_le _
    | cons e r ih =>
      have a := depth_ex e
      have b := h e (by simp)
      have c := ih fun x hx => h x (List.mem_cons_of_mem _ hx)
      show max (toD e).depth (PyData.depthAll (r.map toD)) ≤ 40
      omega
  show (PyData.canLayAll0 (es.map toD) && decide (PyData.depthAll (es.map toD) + 1 ≤ 64)) = true
  rw [h1, decide_eq_true (by omega)]
  rfl
theorem RowsAt.dps {K : PySem.W.Frag} {H : Hp} : ∀ {vs : List V} {es : List Ex}, RowsAt K H vs es → DpAll K H vs (es.map toD)
  | [], [], _ => .nil
  | _ :: _, _ :: _, ⟨x, r⟩ => .cons x.dp r.dps
theorem RowsAt.append {K : PySem.W.Frag} {H : Hp} : ∀ {vs ws : List V} {es fs : List Ex}, RowsAt K H vs es → RowsAt K H ws fs → RowsAt K H (vs ++ ws) (es ++ fs)
  | [], _, [], _, _, r => r
  | _ :: _, _, _ :: _, _, ⟨x, q⟩, r => ⟨x, q.append r⟩
theorem RowsAt.mem {K : PySem.W.Frag} {H : Hp} : ∀ {vs : List V} {es : List Ex} {v : V}, RowsAt K H vs es → v ∈ vs → ∃ e ∈ es, ExAt K H e v
  | v' :: vs, e :: es, v, ⟨x, r⟩, h => by
    rcases List.mem_cons.mp h with h | h
    · subst h
      exact ⟨e, by simp, x⟩
    · obtain ⟨e', h1, h2⟩ := r.mem h
      exact ⟨e', List.mem_cons_of_mem _ h1, h2⟩
/-! ### slices of lists -/
theorem cut_take {xs : List V} {j : Nat} : cutV xs none (some (j : Int)) = xs.take j := by
  unfold cutV
  rw [HT.sIx_none, HT.sIx_nat, List.drop_zero, Nat.sub_zero]
  by_cases h : j ≤ xs.length
  · rw [Nat.min_eq_left h]
  · rw [Nat.min_eq_right (by omega), List.take_length, List.take_of_length_le (by omega)]
theorem cut_drop {xs : List V} {j : Nat} : cutV xs (some (j : Int)) none = xs.drop j := by
  unfold cutV
  rw [HT.sIx_none, HT.sIx_nat]
  by_cases h : j ≤ xs.length
  · rw [Nat.min_eq_left h, List.take_of_length_le (by rw [List.length_drop]; exact Nat.le_refl _)]
  · rw [Nat.min_eq_right (by omega), Nat.sub_self, List.take_zero, List.drop_of_length_le (by omega)]
/-! ### words within -/
def spWords (K : PySem.W.Frag) (n : Nat) : Sp := fun vs H Q _ => ∃ (v : V) (x : Str) (e : Ex) (many : Nat), vs = [v, .str x] ∧ ExAt K H e v ∧ ExOk many e ∧ e.dep ≤ n ∧ e.dep ≤ 6 ∧
  ∀ H' l us es, Same H H' → H l = none → H' l = some (.lst us) → RowsAt K H' us es → es.length ≤ 3 ^ n → (∀ e' ∈ es, ExOk many e' ∧ wordOf e' = x ∧ e'.dep ≤ e.dep) → Q (.ref l) H'
def spBorder (K : PySem.W.Frag) : Sp := fun vs H Q _ => ∃ (a : Addr) (v : V) (e : Ex) (many n : Nat), vs = [.ref a, v, .int (many : Int)] ∧ ExAt K H e v ∧ ExOk many e ∧ e.dep ≤ 5 ∧ 2 ≤ many ∧ many ≤ 3 ∧ HandAt H a n ∧ n ≤ 999997000 ∧
  ∀ H' u ms, But a H H' → HandAt H' a (n + 20) → ShAt K H' many ms u → Q u H'
def spNear (K : PySem.W.Frag) : Sp := fun vs H Q _ => ∃ (a : Addr) (v : V) (e : Ex) (many n : Nat), vs = [.ref a, v] ∧ ExAt K H e v ∧ ExOk many e ∧ e.dep ≤ 5 ∧ HandAt H a n ∧ n ≤ 999997000 ∧
  ∀ H' u rs, But a H H' → HandAt H' a (n + 15) → RegsAt K H' rs u → Q u H'
theorem is_whr {e : Ex} (h : wordOf e = "where") : ∃ j c a b, e = .whr j c a b := by
  cases e with
  | whr j c a b => exact ⟨j, c, a, b, rfl⟩
  | two w a b => cases w <;> exact absurd h (of_decide_eq_false rfl)
  | fig _ => exact absurd h (of_decide_eq_false rfl)
  | reg _ => exact absurd h (of_decide_eq_false rfl)
  | share _ => exact absurd h (of_decide_eq_false rfl)
  | times _ _ => exact absurd h (of_decide_eq_false rfl)
  | «by» _ _ => exact absurd h (of_decide_eq_false rfl)
  | when _ _ _ _ => exact absurd h (of_decide_eq_false rfl)
theorem is_when {e : Ex} (h : wordOf e = "when") : ∃ j c a b, e = .when j c a b := by
  cases e with
  | when j c a b => exact ⟨j, c, a, b, rfl⟩
  | two w a b => cases w <;> exact absurd h (of_decide_eq_false rfl)
  | fig _ => exact absurd h (of_decide_eq_false rfl)
  | reg _ => exact absurd h (of_decide_eq_false rfl)
  | share _ => exact absurd h (of_decide_eq_false rfl)
  | times _ _ => exact absurd h (of_decide_eq_false rfl)
  | «by» _ _ => exact absurd h (of_decide_eq_false rfl)
  | whr _ _ _ _ => exact absurd h (of_decide_eq_false rfl)
end NG

namespace NG
open PySem PySem.Spec PyProof.Rows L2
/-! ### tuples put together and cut, whatever they hold -/
theorem catA {K : PySem.W.Frag} {H : Hp} {a b : Addr} {xs ys : List V} {Q : VK} (ha : SqT K H a xs) (hb : SqT K H b ys) (hl : xs.length + ys.length ≤ sizeLine) (q : ∀ H' p, Same H H' → SqT K H' p (xs ++ ys) → Q (.ref p) H') : rCatA K (.ref a) (.ref b) H Q := by
  refine ⟨a, b, xs, ys, rfl, rfl, ha, hb, hl, fun h => ?_, fun _ h => ?_, fun _ _ p np => ?_⟩
  · subst h
    exact q H b (Same.refl _) hb
  · subst h
    exact q H a (Same.refl _) (by rw [List.append_nil]; exact ha)
  · exact q _ p (same_new np) (SqT.of upd_same)
theorem cutV_whole {xs : List V} {lo hi : Option Int} (h : HT.sIx xs.length 0 lo = 0 ∧ HT.sIx xs.length xs.length hi = xs.length) : cutV xs lo hi = xs := by
  unfold cutV
  rw [h.1, h.2, List.drop_zero, Nat.sub_zero, List.take_length]
theorem slA {K : PySem.W.Frag} {H : Hp} {a : Addr} {xs : List V} {lo hi : Option Int} {Q : VK} (ha : SqT K H a xs) (q : ∀ H' p, Same H H' → SqT K H' p (cutV xs lo hi) → Q (.ref p) H') : rSlA K (.ref a) lo hi H Q := by
  refine ⟨a, xs, rfl, ha, fun h => ?_, fun _ p np => ?_⟩
  · exact q H a (Same.refl _) (by rw [cutV_whole h]; exact ha)
  · exact q _ p (same_new np) (SqT.of upd_same)
theorem HandAt.same {H H' : Hp} {a : Addr} {n : Nat} (h : HandAt H a n) (s : Same H H') : HandAt H' a n := by
  obtain ⟨g, sd, m, e, z⟩ := h
  exact ⟨g, sd, m, s _ _ e, z⟩

/-! ### deeds -/
inductive D5 where
  | put | add | copy | plus | told
  deriving DecidableEq
def dn : D5 → Str
  | .put => "put"
  | .add => "add"
  | .copy => "copy"
  | .plus => "plus"
  | .told => "told"
inductive Ds where
  | nil
  | op (w : D5) (i : Nat) (x : Int) (r : Ds)
  | when (i : Nat) (c : Int) (a b r : Ds)
def DsAt (K : PySem.W.Frag) (H : Hp) : Ds → List V → Prop
  | .nil, vs => vs = []
  | .op w i x r, vs => ∃ p us, vs = .ref p :: us ∧ SqT K H p [.str (dn w), .int (i : Int), .int x] ∧ DsAt K H r us
  | .when i c a b r, vs => ∃ p pa pb xa xb us, vs = .ref p :: us ∧ SqT K H p [.str "when", .int (i : Int), .int c, .ref pa, .ref pb] ∧ SqT K H pa xa ∧ DsAt K H a xa ∧ SqT K H pb xb ∧ DsAt K H b xb ∧ DsAt K H r us
theorem DsAt.imp {K : PySem.W.Frag} {H H' : Hp} (h : ∀ p xs, SqT K H p xs → SqT K H' p xs) : ∀ {d : Ds} {vs : List V}, DsAt K H d vs → DsAt K H' d vs
  | .nil, _, e => e
  | .op _ _ _ _, _, ⟨p, us, e, q, r⟩ => ⟨p, us, e, h _ _ q, DsAt.imp h r⟩
  | .when _ _ _ _ _, _, ⟨p, pa, pb, xa, xb, us, e, q, qa, a, qb, b, r⟩ => ⟨p, pa, pb, xa, xb, us, e, h _ _ q, h _ _ qa, DsAt.imp h a, h _ _ qb, DsAt.imp h b, DsAt.imp h r⟩
theorem DsAt.same {K : PySem.W.Frag} {H H' : Hp} {d : Ds} {vs : List V} (x : DsAt K H d vs) (s : Same H H') : DsAt K H' d vs := x.imp fun _ _ q => same_sqt s q
def Ds.app : Ds → Ds → Ds
  | .nil, e => e
  | .op w i x r, e => .op w i x (r.app e)
  | .when i c a b r, e => .when i c a b (r.app e)
theorem DsAt.app {K : PySem.W.Frag} {H : Hp} : ∀ {d e : Ds} {vs ws : List V}, DsAt K H d vs → DsAt K H e ws → DsAt K H (d.app e) (vs ++ ws)
  | .nil, _, _, _, e, y => by
    subst e
    exact y
  | .op _ _ _ _, _, _, _, ⟨p, us, e, q, r⟩, y => by
    subst e
    exact ⟨p, _, rfl, q, DsAt.app r y⟩
  | .when _ _ _ _ _, _, _, _, ⟨p, pa, pb, xa, xb, us, e, q, qa, a, qb, b, r⟩, y => by
    subst e
    exact ⟨p, pa, pb, xa, xb, _, rfl, q, qa, a, qb, b, DsAt.app r y⟩
def Ds.cnt : Ds → Nat
  | .nil => 0
  | .op _ _ _ r => 1 + r.cnt
  | .when _ _ a b r => 1 + (a.cnt + b.cnt) + r.cnt
def Ds.len : Ds → Nat
  | .nil => 0
  | .op _ _ _ r => r.len + 1
  | .when _ _ _ _ r => r.len + 1
def Ds.dep : Ds → Nat
  | .nil => 0
  | .op _ _ _ r => max 1 r.dep
  | .when _ _ a b r => max (max a.dep b.dep + 1) r.dep
theorem Ds.len_le : ∀ d : Ds, d.len ≤ d.cnt
  | .nil => Nat.le_refl _
  | .op _ _ _ r => by have := r.len_le; show r.len + 1 ≤ 1 + r.cnt; omega
  | .when _ _ a b r => by have := r.len_le; show r.len + 1 ≤ 1 + (a.cnt + b.cnt) + r.cnt; omega
theorem DsAt.len {K : PySem.W.Frag} {H : Hp} : ∀ {d : Ds} {vs : List V}, DsAt K H d vs → vs.length = d.len
  | .nil, _, e => by subst e; rfl
  | .op _ _ _ _, _, ⟨p, us, e, q, r⟩ => by subst e; rw [List.length_cons, r.len]; rfl
  | .when _ _ _ _ _, _, ⟨p, pa, pb, xa, xb, us, e, q, qa, a, qb, b, r⟩ => by subst e; rw [List.length_cons, r.len]; rfl
theorem Ds.cnt_app : ∀ d e : Ds, (d.app e).cnt = d.cnt + e.cnt
  | .nil, e => by show e.cnt = 0 + e.cnt; omega
  | .op _ _ _ r, e => by show 1 + (r.app e).cnt = 1 + r.cnt + e.cnt; rw [Ds.cnt_app r e]; omega
  | .when _ _ a b r, e => by show 1 + (a.cnt + b.cnt) + (r.app e).cnt = 1 + (a.cnt + b.cnt) + r.cnt + e.cnt; rw [Ds.cnt_app r e]; omega
theorem Ds.dep_app : ∀ d e : Ds, (d.app e).dep = max d.dep e.dep
  | .nil, e => by show e.dep = max 0 e.dep; omega
  | .op _ _ _ r, e => by show max 1 (r.app e).dep = max (max 1 r.dep) e.dep; rw [Ds.dep_app r e]; omega
  | .when _ _ a b r, e => by show max (max a.dep b.dep + 1) (r.app e).dep = max (max (max a.dep b.dep + 1) r.dep) e.dep; rw [Ds.dep_app r e]; omega
def xok (many : Nat) : D5 → Int → Prop
  | .put, x => -1000 ≤ x ∧ x ≤ 1000
  | .add, x => -1000 ≤ x ∧ x ≤ 1000
  | .copy, x => 0 ≤ x ∧ x < 4
  | .plus, x => 0 ≤ x ∧ x < 4
  | .told, x => 0 ≤ x ∧ x < many
theorem xok_small {many : Nat} (hm : many ≤ 1000) : ∀ {w : D5} {x : Int}, xok many w x → -1000 ≤ x ∧ x ≤ 1000
  | .put, _, h => h
  | .add, _, h => h
  | .copy, _, h => by have := h.1; have := h.2; constructor <;> omega
  | .plus, _, h => by have := h.1; have := h.2; constructor <;> omega
  | .told, _, h => by have := h.1; have := h.2; constructor <;> omega
def DsOk (many : Nat) : Ds → Prop
  | .nil => True
  | .op w i x r => i < 4 ∧ xok many w x ∧ DsOk many r
  | .when i c a b r => i < 4 ∧ (-1000 ≤ c ∧ c ≤ 1000) ∧ DsOk many a ∧ DsOk many b ∧ DsOk many r
theorem DsOk.app {many : Nat} : ∀ {d e : Ds}, DsOk many d → DsOk many e → DsOk many (d.app e)
  | .nil, _, _, y => y
  | .op _ _ _ _, _, ⟨h1, h2, h3⟩, y => ⟨h1, h2, DsOk.app h3 y⟩
  | .when _ _ _ _ _, _, ⟨h1, h2, h3, h4, h5⟩, y => ⟨h1, h2, h3, h4, DsOk.app h5 y⟩
def cl (n : Int) : Int := mx (-1000) (mn 1000 n)
theorem cl_in (n : Int) : -1000 ≤ cl n ∧ cl n ≤ 1000 := by
  unfold cl mx mn
  repeat' split
  all_goals omega
def hb (ss : List Int) : D5 → Nat → Int → List Int → Int
  | .put, _, x, _ => x
  | .add, i, x, rs => rs.getD i 0 + x
  | .copy, _, x, rs => rs.getD x.toNat 0
  | .plus, i, x, rs => rs.getD i 0 + rs.getD x.toNat 0
  | .told, _, x, _ => 1000 * ss.getD x.toNat 0 / ss.sum
def ap (ss : List Int) : Ds → List Int → List Int
  | .nil, rs => rs
  | .op w i x r, rs => ap ss r (rs.set i (cl (hb ss w i x rs)))
  | .when i c a b r, rs => ap ss r (if rs.getD i 0 < c then ap ss a rs else ap ss b rs)
def RegOk (rs : List Int) : Prop := rs.length = 4 ∧ ∀ x ∈ rs, -1000 ≤ x ∧ x ≤ 1000
theorem RegOk.set {rs : List Int} (h : RegOk rs) (i : Nat) (n : Int) : RegOk (rs.set i (cl n)) := by
  refine ⟨by rw [List.length_set]; exact h.1, fun x hx => ?_⟩
  rcases List.mem_or_eq_of_mem_set hx with hx | rfl
  · exact h.2 x hx
  · exact cl_in n
theorem RegOk.ap {ss : List Int} : ∀ {d : Ds} {rs : List Int}, RegOk rs → RegOk (ap ss d rs)
  | .nil, _, h => h
  | .op w i x r, rs, h => RegOk.ap (d := r) (h.set i _)
  | .when i c a b r, rs, h => by
    show RegOk (NG.ap ss r (if rs.getD i 0 < c then NG.ap ss a rs else NG.ap ss b rs))
    refine RegOk.ap (d := r) ?_
    split
    · exact RegOk.ap (d := a) h
    · exact RegOk.ap (d := b) h
theorem RegsAt.ok {K : PySem.W.Frag} {H : Hp} {rs : List Int} {v : V} (h : RegsAt K H rs v) : RegOk rs := by
  obtain ⟨p, _, _, l, b⟩ := h
  exact ⟨l, b⟩
theorem RegsAt.same {K : PySem.W.Frag} {H H' : Hp} {rs : List Int} {v : V} (h : RegsAt K H rs v) (s : Same H H') : RegsAt K H' rs v := h.imp fun _ _ q => same_sqt s q
theorem ShAt.same {K : PySem.W.Frag} {H H' : Hp} {many : Nat} {rs : List Int} {v : V} (h : ShAt K H many rs v) (s : Same H H') : ShAt K H' many rs v := h.imp fun _ _ q => same_sqt s q
/-! ### rows of deeds, doubters -/
def BhAt (K : PySem.W.Frag) (H : Hp) : List V → List Ds → Prop
  | [], [] => True
  | v :: vs, d :: ds => (∃ p xs, v = .ref p ∧ SqT K H p xs ∧ DsAt K H d xs) ∧ BhAt K H vs ds
  | _, _ => False
theorem BhAt.imp {K : PySem.W.Frag} {H H' : Hp} (h : ∀ p xs, SqT K H p xs → SqT K H' p xs) : ∀ {vs : List V} {es : List Ds}, BhAt K H vs es → BhAt K H' vs es
  | [], [], _ => trivial
  | _ :: _, _ :: _, ⟨⟨p, xs, e, q, x⟩, r⟩ => ⟨⟨p, xs, e, h _ _ q, x.imp h⟩, BhAt.imp h r⟩
theorem BhAt.same {K : PySem.W.Frag} {H H' : Hp} {vs : List V} {es : List Ds} (r : BhAt K H vs es) (s : Same H H') : BhAt K H' vs es := r.imp fun _ _ q => same_sqt s q
theorem BhAt.len {K : PySem.W.Frag} {H : Hp} : ∀ {vs : List V} {es : List Ds}, BhAt K H vs es → vs.length = es.length
  | [], [], _ => rfl
  | _ :: _, _ :: _, ⟨_, r⟩ => by rw [List.length_cons, List.length_cons, r.len]
theorem BhAt.snoc {K : PySem.W.Frag} {H : Hp} {p : Addr} {xs : List V} {d : Ds} (q : SqT K H p xs) (x : DsAt K H d xs) : ∀ {vs : List V} {es : List Ds}, BhAt K H vs es → BhAt K H (vs ++ [.ref p]) (es ++ [d])
  | [], [], _ => ⟨⟨p, xs, rfl, q, x⟩, trivial⟩
  | _ :: _, _ :: _, ⟨y, r⟩ => ⟨y, BhAt.snoc q x r⟩
theorem BhAt.get {K : PySem.W.Frag} {H : Hp} : ∀ {vs : List V} {es : List Ds} {k : Nat} {d : Ds}, BhAt K H vs es → es[k]? = some d → ∃ p xs, vs[k]? = some (.ref p) ∧ SqT K H p xs ∧ DsAt K H d xs
  | [], [], _, _, _, h => by simp at h
  | v :: vs, e' :: es, 0, e, ⟨⟨p, xs, e1, q, x⟩, r⟩, h => by
    have : e' = e := Option.some.inj h
    subst this
    exact ⟨p, xs, by rw [e1]; rfl, q, x⟩
  | v :: vs, e' :: es, k + 1, e, ⟨x, r⟩, h => BhAt.get (k := k) r h
structure Dbt where
  name : Str
  scale : Nat
  begins : List Int
  stakes : List Ex
  behinds : List Ds
def DbAt (K : PySem.W.Frag) (H : Hp) (D : Dbt) (v : V) : Prop := ∃ (p : Addr) (vb : V) (ps pb : Addr) (us ws : List V), v = .ref p ∧ SqT K H p [.str D.name, .int (D.scale : Int), vb, .ref ps, .ref pb] ∧ RegsAt K H D.begins vb ∧ SqT K H ps us ∧ RowsAt K H us D.stakes ∧ SqT K H pb ws ∧ BhAt K H ws D.behinds
theorem DbAt.imp {K : PySem.W.Frag} {H H' : Hp} {D : Dbt} {v : V} (x : DbAt K H D v) (h : ∀ p xs, SqT K H p xs → SqT K H' p xs) : DbAt K H' D v := by
  obtain ⟨p, vb, ps, pb, us, ws, e, q, r, q1, r1, q2, r2⟩ := x
  exact ⟨p, vb, ps, pb, us, ws, e, h _ _ q, r.imp h, h _ _ q1, r1.imp h, h _ _ q2, r2.imp h⟩
theorem DbAt.same {K : PySem.W.Frag} {H H' : Hp} {D : Dbt} {v : V} (x : DbAt K H D v) (s : Same H H') : DbAt K H' D v := x.imp fun _ _ q => same_sqt s q
/-- names, scale, registers, stakes of a depth, deeds of a depth and a number -/
structure DbOk (many dE dD cD : Nat) (D : Dbt) : Prop where
  nm : D.name = "a" ∨ D.name = "doubter" ∨ D.name = "sceptics" ∨ D.name = "zz"
  sc : D.scale < 5
  rg : RegOk D.begins
  sl : D.stakes.length = many
  st : ∀ e ∈ D.stakes, ExOk many e ∧ e.dep ≤ dE
  bl : D.behinds.length = many
  bh : ∀ d ∈ D.behinds, DsOk many d ∧ d.dep ≤ dD ∧ d.cnt ≤ cD
/-! ### as data -/
def dsD : Ds → List PyData
  | .nil => []
  | .op w i x r => .tuple [.str (dn w), .int (i : Int), .int x] :: dsD r
  | .when i c a b r => .tuple [.str "when", .int (i : Int), .int c, .tuple (dsD a), .tuple (dsD b)] :: dsD r
theorem DsAt.dps {K : PySem.W.Frag} {H : Hp} : ∀ {d : Ds} {vs : List V}, DsAt K H d vs → DpAll K H vs (dsD d)
  | .nil, _, e => by subst e; exact .nil
  | .op _ _ _ _, _, ⟨p, us, e, q, r⟩ => by subst e; exact .cons (.tup q (.cons (.str _) (.cons (.int _) (.cons (.int _) .nil)))) r.dps
  | .when _ _ _ _ _, _, ⟨p, pa, pb, xa, xb, us, e, q, qa, a, qb, b, r⟩ => by subst e; exact .cons (.tup q (.cons (.str _) (.cons (.int _) (.cons (.int _) (.cons (.tup qa a.dps) (.cons (.tup qb b.dps) .nil)))))) r.dps
theorem BhAt.dps {K : PySem.W.Frag} {H : Hp} : ∀ {vs : List V} {es : List Ds}, BhAt K H vs es → DpAll K H vs (es.map fun d => .tuple (dsD d))
  | [], [], _ => .nil
  | _ :: _, _ :: _, ⟨⟨p, xs, e, q, x⟩, r⟩ => by subst e; exact .cons (.tup q x.dps) r.dps
def dbD (D : Dbt) : PyData := .tuple [.str D.name, .int (D.scale : Int), .tuple (D.begins.map PyData.int), .tuple (D.stakes.map toD), .tuple (D.behinds.map fun d => .tuple (dsD d))]
theorem dp_ints {K : PySem.W.Frag} {H : Hp} : ∀ ns : List Int, DpAll K H (ns.map V.int) (ns.map PyData.int)
  | [] => .nil
  | n :: r => .cons (.int n) (dp_ints r)
theorem DbAt.dp {K : PySem.W.Frag} {H : Hp} {D : Dbt} {v : V} (x : DbAt K H D v) : Dp K H v (dbD D) := by
  obtain ⟨p, vb, ps, pb, us, ws, e, q, ⟨pr, e2, r, _⟩, q1, r1, q2, r2⟩ := x
  subst e e2
  exact .tup q (.cons (.str _) (.cons (.int _) (.cons (.tup r (dp_ints _)) (.cons (.tup q1 r1.dps) (.cons (.tup q2 r2.dps) .nil)))))
theorem shw_smalls : ∀ {ns : List Int}, (∀ x ∈ ns, -1000 ≤ x ∧ x ≤ 1000) → ShwAll (ns.map PyData.int) (16 * ns.length) 0
  | [], _ => ShwAll.nil
  | n :: r, h => by
    have h0 := h n (by simp)
    have h1 := Shw.small (i := n) (by omega)
    have h2 := shw_smalls (ns := r) fun x hx => h x (List.mem_cons_of_mem _ hx)
    have h3 := ShwAll.cons h1 h2 (Nat.le_refl 0) (Nat.le_refl 0)
    refine ⟨h3.sh, h3.lf, Nat.le_trans h3.wt ?_, h3.dp⟩
    rw [List.length_cons]
    omega
theorem shw_ds {many : Nat} (hm : many ≤ 1000) : ∀ {d : Ds}, DsOk many d → ShwAll (dsD d) (60 * d.cnt) (2 * d.dep)
  | .nil, _ => ShwAll.nil
  | .op w i x r, ⟨o1, o2, o3⟩ => by
    have hr := shw_ds hm (d := r) o3
    have hx := xok_small hm o2
    have hw : Shw (.str (dn w)) 10 0 := by cases w <;> exact .str (by decide) (by decide)
    have h1 := ShwAll.tup (.cons hw (.cons (.small (i := (i : Int)) (by omega)) (.cons (.small (i := x) (by omega)) .nil (Nat.le_refl 0) (Nat.le_refl 0)) (Nat.le_refl 0) (Nat.le_refl 0)) (Nat.le_refl 0) (Nat.le_refl 0))
    have h2 := ShwAll.cons h1 hr (k := 2 * max 1 r.dep) (by omega) (by omega)
    refine ⟨h2.sh, h2.lf, Nat.le_trans h2.wt ?_, h2.dp⟩
    show 10 + 1 + (15 + 1 + (15 + 1 + 0)) + 1 + 60 * r.cnt ≤ 60 * (1 + r.cnt)
    omega
  | .when i c a b r, ⟨o1, o2, o3, o4, o5⟩ => by
    have ha := (shw_ds hm (d := a) o3).tup
    have hb := (shw_ds hm (d := b) o4).tup
    have hr := shw_ds hm (d := r) o5
    have h1 := ShwAll.tup (.cons (.str (x := "when") (by decide) (by decide)) (.cons (.small (i := (i : Int)) (by omega)) (.cons (.small (i := c) (by omega)) (.cons ha (.cons hb .nil (k := 2 * max a.dep b.dep + 1) (by omega) (Nat.zero_le _)) (by omega) (Nat.le_refl _)) (Nat.zero_le _) (Nat.le_refl _)) (Nat.zero_le _) (Nat.le_refl _)) (Nat.zero_le _) (Nat.le_refl _))
    have h2 := ShwAll.cons h1 hr (k := 2 * max (max a.dep b.dep + 1) r.dep) (by omega) (by omega)
    refine ⟨h2.sh, h2.lf, Nat.le_trans h2.wt ?_, h2.dp⟩
    show 10 + 1 + (15 + 1 + (15 + 1 + (60 * a.cnt + 1 + (60 * b.cnt + 1 + 0)))) + 1 + 60 * r.cnt ≤ 60 * (1 + (a.cnt + b.cnt) + r.cnt)
    omega
theorem shw_list {α : Type} {f : α → PyData} {w k : Nat} : ∀ {xs : List α}, (∀ x ∈ xs, Shw (f x) w k) → ShwAll (xs.map f) ((w + 1) * xs.length) k
  | [], _ => ShwAll.nil
  | n :: r, h => by
    have h1 := h n (by simp)
    have h2 := shw_list (xs := r) fun x hx => h x (List.mem_cons_of_mem _ hx)
    have h3 := ShwAll.cons h1 h2 (Nat.le_refl k) (Nat.le_refl k)
    refine ⟨h3.sh, h3.lf, Nat.le_trans h3.wt ?_, h3.dp⟩
    rw [List.length_cons, Nat.mul_add]
    omega
/-- a doubter's weight -/
theorem shw_db {many dE dD cD : Nat} {D : Dbt} (hm : many ≤ 3) (hE : dE ≤ 8) (hD : dD ≤ 8) (o : DbOk many dE dD cD D) : Shw (dbD D) (120 + 3 * wgt dE + 180 * cD) 20 := by
  have h0 : Shw (.str D.name) 10 0 := by rcases o.nm with e | e | e | e <;> rw [e] <;> exact .str (by decide) (by decide)
  have h1 : Shw (.int (D.scale : Int)) 15 0 := .small (by have := o.sc; omega)
  have h2 := (shw_smalls o.rg.2).tup
  have h3 := (shw_list (f := toD) (w := wgt dE) (k := dE) fun e he => (shw_ex (many := many) (by omega) (o.st e he).1).mono (wgt_mono (o.st e he).2) (o.st e he).2).tup
  have h4 := (shw_list (f := fun d => PyData.tuple (dsD d)) (w := 60 * cD) (k := 2 * dD + 1) fun d hd => ((shw_ds (many := many) (by omega) (o.bh d hd).1).tup).mono (Nat.mul_le_mul_left _ (o.bh d hd).2.2) (by have := (o.bh d hd).2.1; omega)).tup
  have h5 := ShwAll.tup (.cons h0 (.cons h1 (.cons h2 (.cons h3 (.cons h4 (ShwAll.nil (k := 0)) (k := 18) (by omega) (by omega)) (by omega) (Nat.le_refl 18)) (by omega) (Nat.le_refl 18)) (by omega) (Nat.le_refl 18)) (by omega) (Nat.le_refl 18))
  refine h5.mono ?_ (by decide)
  rw [o.sl, o.bl, o.rg.1]
  have a1 : (wgt dE + 1) * many ≤ (wgt dE + 1) * 3 := Nat.mul_le_mul_left _ hm
  have a2 : (60 * cD + 1) * many ≤ (60 * cD + 1) * 3 := Nat.mul_le_mul_left _ hm
  omega
/-! ### promises -/
def spExprJ (K : PySem.W.Frag) (m : Nat) : Sp := fun vs H Q _ => ∃ (a : Addr) (many l n j : Nat), vs = [.ref a, .int (many : Int), .int (l : Int), .int (j : Int)] ∧ j ≤ 1 ∧ l < m ∧ 1 ≤ many ∧ many ≤ 1000 ∧ HandAt H a n ∧ n + cost l ≤ 999999000 ∧
  ∀ H' v e, But a H H' → HandAt H' a (n + cost l) → ExAt K H' e v → ExOk many e → e.dep ≤ l + 1 → Q v H'
/-- a stake: cut to its far -/
def spStake (K : PySem.W.Frag) (m : Nat) : Sp := fun vs H Q _ => ∃ (a : Addr) (many l n j : Nat), vs = [.ref a, .int (many : Int), .int (l : Int), .int (j : Int)] ∧ j ≤ 1 ∧ l < m ∧ 1 ≤ many ∧ many ≤ 1000 ∧ HandAt H a n ∧ n + cost l ≤ 999998000 ∧
  ∀ H' v e, But a H H' → HandAt H' a (n + cost l + 3) → ExAt K H' e v → ExOk many e → e.dep ≤ l + 3 → (∃ c : Int, e = .fig c ∧ -500 ≤ c ∧ c ≤ 500) ∨ (∃ (c : Int) (e' : Ex), e = .two .least (.fig c) (.two .most (.fig (-c)) e') ∧ 1 ≤ c ∧ c ≤ 500 ∧ ExOk many e' ∧ e'.dep ≤ l + 1) → Q v H'
def dB : Nat → Nat
  | 0 => 20
  | n + 1 => 2 * dB n + 30
def dC : Nat → Nat
  | 0 => 3
  | n + 1 => 2 * dC n + 4
theorem dC_ge (n : Nat) : 3 ≤ dC n := by
  cases n with
  | zero => exact Nat.le_refl _
  | succ n => show 3 ≤ 2 * dC n + 4; omega
theorem dB_ge (n : Nat) : 20 ≤ dB n := by
  cases n with
  | zero => exact Nat.le_refl _
  | succ n => show 20 ≤ 2 * dB n + 30; omega
def spDeeds (K : PySem.W.Frag) (m : Nat) : Sp := fun vs H Q _ => ∃ (a : Addr) (many l n : Nat), vs = [.ref a, .int (many : Int), .int (l : Int)] ∧ l < m ∧ l ≤ 3 ∧ 1 ≤ many ∧ many ≤ 1000 ∧ HandAt H a n ∧ n + dB l ≤ 999998000 ∧
  ∀ H' p xs d, But a H H' → HandAt H' a (n + dB l) → SqT K H' p xs → DsAt K H' d xs → DsOk many d → d.dep ≤ l + 1 → d.cnt ≤ dC l → Q (.ref p) H'
def StOk (many l : Nat) (e : Ex) : Prop := (∃ c : Int, e = .fig c ∧ -500 ≤ c ∧ c ≤ 500) ∨ (∃ (c : Int) (e' : Ex), e = .two .least (.fig c) (.two .most (.fig (-c)) e') ∧ 1 ≤ c ∧ c ≤ 500 ∧ ExOk many e' ∧ e'.dep ≤ l + 1)
def spDoubter (K : PySem.W.Frag) (m : Nat) : Sp := fun vs H Q _ => ∃ (a : Addr) (many l n j : Nat), vs = [.ref a, .int (many : Int), .int (l : Int), .int (j : Int)] ∧ j ≤ 1 ∧ l < m ∧ l ≤ 5 ∧ 1 ≤ many ∧ many ≤ 3 ∧ HandAt H a n ∧ n ≤ 999990000 ∧
  ∀ H' v D, But a H H' → HandAt H' a (n + 3 * cost l + 300) → DbAt K H' D v → DbOk many (l + 3) 2 10 D → (∀ e ∈ D.stakes, StOk many l e) → Q v H'
end NG

namespace NG
open PySem PySem.Spec PyProof.Rows L2
/-! ### zip of a list with a tuple -/
def ItLT (K : PySem.W.Frag) (a b : Addr) : It :=
  ⟨fun i H => ∃ (us ws : List V) (u v : V), SqL K H a us ∧ SqT K H b ws ∧ us[i]? = some u ∧ ws[i]? = some v,
   fun i H r H' => ∃ (T : Addr) (u v : V), r = .ref T ∧ H T = none ∧ H' = upd H T (.tup [u, v]) ∧ (∀ us, SqL K H a us → us[i]? = some u) ∧ ∀ ws, SqT K H b ws → ws[i]? = some v,
   fun i H => ∃ us ws : List V, SqL K H a us ∧ SqT K H b ws ∧ us.length = i ∧ ws.length = i⟩
theorem turn_LT {P : Program} {w : World} {K : PySem.W.Frag} {es : List Expr} {k : Nat} {ps : Pos} {a b z TI TO i1 i2 : Addr} (S : ZipSep2 z TI TO i1 i2 [i1, a] [i2, b]) (na : a ≠ i1) (nb : b ≠ i2) :
    Turn P w K (.Tuple es k ps) (ItLT K a b) [z, TI, TO, i1, i2] z (fun i h => IsZip h z TI TO .none ∧ IsTupOf2 h TI (.ref i1) (.ref i2) ∧ (∃ c d, IsTupOf2 h TO c d) ∧ h.IsListIter i1 a i ∧ h.IsTupleIter i2 b i) := by
  have five : ∀ {c : Addr}, c ∈ [z, TI, TO, i1, i2] → c = z ∨ c = TI ∨ c = TO ∨ c = i1 ∨ c = i2 := fun h => by simpa using h
  have lives : ∀ (i : Nat) (h : Heap), (IsZip h z TI TO .none ∧ IsTupOf2 h TI (.ref i1) (.ref i2) ∧ (∃ c d, IsTupOf2 h TO c d) ∧ h.IsListIter i1 a i ∧ h.IsTupleIter i2 b i) → ∀ c ∈ [z, TI, TO, i1, i2], ∃ o, h.get? c = some o ∧ ∀ v, o.data ≠ .cell v := fun i h st c hc => by
    obtain ⟨s1, s2, ⟨x, y, s3⟩, ⟨o4, s4, _, d4⟩, ⟨o5, s5, _, d5⟩⟩ := st
    rcases five hc with rfl | rfl | rfl | rfl | rfl
    · exact ⟨_, s1, fun v q => nomatch q⟩
    · exact ⟨_, s2, fun v q => nomatch q⟩
    · exact ⟨_, s3, fun v q => nomatch q⟩
    · exact ⟨o4, s4, fun v q => by rw [d4] at q; exact nomatch q⟩
    · exact ⟨o5, s5, fun v q => by rw [d5] at q; exact nomatch q⟩
  refine ⟨List.mem_cons_self, lives, fun i h h' st kp => ?_, fun X eP ew eK hc i pins s σ H E I hf st hg => ?_, fun X eP ew eK hc i pins s σ H E I hf st hg => ?_, fun A i s Q E st q => wpAny_pyIter_zip st.1 q⟩
  · obtain ⟨s1, s2, ⟨x, y, s3⟩, s4, s5⟩ := st
    exact ⟨kp _ (by simp) _ s1, kp _ (by simp) _ s2, ⟨x, y, kp _ (by simp) _ s3⟩, s4.at fun o q => kp _ (by simp) o q, s5.at fun o q => kp _ (by simp) o q⟩
  · cases eP
    cases ew
    cases eK
    have lv := lives i _ st
    obtain ⟨s1, s2, s3, s4, s5⟩ := st
    obtain ⟨us, ws, u, v, qa, qb, hu, hv⟩ := hg
    obtain ⟨la, ra, pa, _⟩ := I.list qa
    obtain ⟨lb, rb, pb, _⟩ := I.tuple qb
    obtain ⟨u', eu, ru⟩ := ra.get hu
    obtain ⟨v', ev', rv⟩ := rb.get hv
    have W := WalksT.zipD2 (A := X.A) S (Draws.list (prog := X.prog) (w := X.w) (A := X.A.in1) (I.ok.hd hc) i1 a na la.toArray) (Draws.tuple (A := X.A.in1) (I.ok.hd hc) i2 b nb lb.toArray)
    have il : i < la.length := (List.getElem?_eq_some_iff.mp eu).1
    have ir : i < lb.length := (List.getElem?_eq_some_iff.mp ev').1
    refine W.item i s _ E (by rw [List.size_toArray, List.size_toArray]; omega) ⟨s1, s2, s3, ⟨s4, pa.isList⟩, ⟨s5, pb⟩⟩ fun T vals h1 tk pv hT tT mid k1 => ⟨_, rfl, ?_⟩
    have apT := W.apart i T h1 mid
    refine W.go es k ps i T _ _ _ mid fun h2 st2 k2 => ?_
    obtain ⟨x1, x2, e1, e2, rfl⟩ := pv
    have f1 : x1 = u' := by
      have := e1.symm.trans (show la.toArray[i]? = some u' by simpa using eu)
      exact Option.some.inj this
    have f2 : x2 = v' := by
      have := e2.symm.trans (show lb.toArray[i]? = some v' by simpa using ev')
      exact Option.some.inj this
    subst f1 f2
    obtain ⟨z1, z2, z3, ⟨z4, _⟩, ⟨z5, _⟩⟩ := st2
    have tT2 : h2.IsTuple T #[x1, x2] := tT.at fun o e => k2 T o apT e
    have in5 : ∀ c, c ∉ [z, TI, TO, i1, i2] → c ∉ [z, TO, i1, i2] := fun c h m => h (by
      rcases (by simpa using m : c = z ∨ c = TO ∨ c = i1 ∨ c = i2) with rfl | rfl | rfl | rfl <;> simp)
    have J := I.turnedNew (h' := h2) (t' := tk) (ch := [z, TI, TO, i1, i2]) (T := T) (ob := .tup [u, v]) (fun c o hb' q => k2 c o (in5 c hb') (k1 c o (in5 c hb') q)) hf hT ⟨(by show 2 ≤ sizeLine; decide), [x1, x2], .cons ru (.cons rv .nil), tT2⟩
    refine ⟨.ref T, _, J, rfl, ⟨T, u, v, rfl, I.hok.fresh hT, rfl, fun l hl => ?_, fun l hl => ?_⟩, ⟨z1, z2, z3, z4, z5⟩, fun c hcm => ?_⟩
    · rw [I.list_inj hl qa]
      exact hu
    · rw [I.tuple_inj hl qb]
      exact hv
    · obtain ⟨o, ho, _⟩ := lv c hcm
      have lt := Heap.lt_size ho
      rw [upd_ne (Nat.ne_of_lt (Nat.lt_of_lt_of_le lt hT))]
      exact (hf c hcm).1
  · cases eP
    cases ew
    cases eK
    obtain ⟨s1, s2, s3, s4, s5⟩ := st
    obtain ⟨us, ws, qa, qb, e1, e2⟩ := hg
    obtain ⟨la, ra, pa, _⟩ := I.list qa
    obtain ⟨lb, rb, pb, _⟩ := I.tuple qb
    have W := WalksT.zipD2 (A := X.A) S (Draws.list (prog := X.prog) (w := X.w) (A := X.A.in1) (I.ok.hd hc) i1 a na la.toArray) (Draws.tuple (A := X.A.in1) (I.ok.hd hc) i2 b nb lb.toArray)
    have l1 := ra.length
    have l2 := rb.length
    have en : min la.toArray.size lb.toArray.size = i := by
      rw [List.size_toArray, List.size_toArray]
      omega
    rw [en] at W
    refine W.done s _ E ⟨s1, s2, s3, ⟨s4, pa.isList⟩, ⟨s5, pb⟩⟩ fun h1 tk k1 => ⟨rfl, ?_⟩
    exact I.turnedL (t' := tk) (ch := [z, TI, TO, i1, i2]) (fun c o hb' q => k1 c o (fun m => hb' (by rcases (by simpa using m : c = z ∨ c = TO ∨ c = i1 ∨ c = i2) with rfl | rfl | rfl | rfl <;> simp)) q) hf
def iZipLT (K : PySem.W.Frag) (ta : TA) : TI := fun σ H R => ta σ H fun vs H1 => ∃ a b us ws, vs = [.ref a, .ref b] ∧ SqL K H1 a us ∧ SqT K H1 b ws ∧ R (ItLT K a b) H1
theorem pi_zipLT {X : Cx} {e e2 : Expr} {ta : TA} {p pos tpos : Pos} {elts : List Expr} {kk : Nat} (hg : Gl X "zip") (hm : X.mg "zip" = none) (ha : PA X [e, e2] ta)
    (hs : starEach [e, e2] X.env = (false, eval e X.env) :: starEach [e2] X.env := by rfl) (hpl : (backTo pos (starEach [e2] X.env)).any (·.1) = false := by rfl) : PI X (.Tuple elts kk tpos) (.Call (.Name "zip" p) [e, e2] [] pos) (iZipLT X.K ta) := by
  refine ⟨fun pins s σ H R I h => Call_ (ld_blt I hg hm PyProof.Rows.boot_zip (PyProof.Rows.callWith_type1 (thn (ha.run pos pins s σ H _ I h) fun us s1 ⟨vs, H1, I1, r1, q1⟩ => ?_) hs hpl))⟩
  obtain ⟨a, b, ul, wl, rfl, qa, qb, q⟩ := q1
  obtain ⟨v1, v2, rfl, t1, t2⟩ := vals2 r1
  cases t1
  cases t2
  obtain ⟨la, ra, pa, _⟩ := I1.list qa
  obtain ⟨lb, rb, pb, _⟩ := I1.tuple qb
  obtain ⟨ob, hob, _⟩ := id pb
  have lt1 : a < s1.heap.objs.size := pa.lt
  have lt2 : b < s1.heap.objs.size := Heap.lt_size hob
  refine zip_begins2 (begins_list a la.toArray) (begins_tuple b lb.toArray) pa.isList pb fun h' hz hTI hTO g1 g2 hsz hk => wpAny_pyIter_zip hz ?_
  have J : Inv X pins σ H1 { s1 with heap := h' } := I1.kept (t' := s1.toks) hk
  have S := zip_sep2 (N := s1.heap.objs.size) (fp1 := [a]) (fp2 := [b]) (fun c hc => by rw [List.mem_singleton.mp hc]; exact lt1) (fun c hc => by rw [List.mem_singleton.mp hc]; exact lt2)
  refine ⟨_, _, _, _, H1, rfl, J, turn_LT S (Nat.ne_of_lt lt1) (Nat.ne_of_lt (Nat.lt_succ_of_lt lt2)), ⟨hz, hTI, ⟨_, _, hTO⟩, ⟨_, g1, rfl, rfl⟩, ⟨_, g2, rfl, rfl⟩⟩, fun c hcm => ?_, q⟩
  have le : s1.heap.objs.size ≤ c := by
    rcases (by simpa using hcm : c = s1.heap.objs.size + 4 ∨ c = s1.heap.objs.size + 2 ∨ c = s1.heap.objs.size + 3 ∨ c = s1.heap.objs.size ∨ c = s1.heap.objs.size + 1) with e | e | e | e | e <;> (rw [e]; first | exact Nat.le_refl _ | exact Nat.le_add_right _ _)
  exact I1.fpOk le (I1.hok.fresh le)
theorem walk_LT {K : PySem.W.Frag} {a b : Addr} {us ws : List V} {n : Nat} (hx : us.length = n) (hy : ws.length = n) : Walk (ItLT K a b) n (fun H => SqL K H a us ∧ SqT K H b ws) (YPair (fun i => us[i]?) (fun i => ws[i]?)) := by
  refine ⟨fun i H hi q => ⟨us, ws, us[i]'(by omega), ws[i]'(by omega), q.1, q.2, List.getElem?_eq_getElem _, List.getElem?_eq_getElem _⟩, fun H q => ⟨us, ws, q.1, q.2, hx, hy⟩, fun i H v H' hi q y => ?_⟩
  obtain ⟨T, x, z, h1, h2, h3, h4, h5⟩ := y
  exact ⟨T, x, z, h1, h2, h3, h4 us q.1, h5 ws q.2⟩
end NG

namespace NG
open PySem PySem.Spec PyProof.Rows L2
/-! ### enumerate of a tuple -/
set_option maxHeartbeats 1000000 in
theorem enum_new1 {v : Value} {ob : Obj} {Hv : Heap → Prop} (B : Begins v ob Hv) :
    Meets (Builtin.«enumerate.__new__» ⟨[.type "enumerate", v], []⟩) (fun _ R st => Hv st.heap ∧ R (.ok (.ret (.ref (st.heap.push ob).objs.size))) { st with heap := (st.heap.push ob).push { cls := .type "enumerate", data := .fields #[.none, .bool false, .ref st.heap.objs.size, rawInt 0, .none, .none] } }) := by
  refine .of_wp fun pr wl A R st h => ?_
  obtain ⟨hp, g, d, tk, os⟩ := st
  obtain ⟨hv, hR⟩ := h
  have se := sub_enumerate
  have qi : ∀ {A' : Around} {E : Value → Shared → Prop} {Q : Value → Shared → Prop}, Q (.ref hp.objs.size) ⟨hp.push ob, g, d, tk, os⟩ → wpAny (model pr wl) A' (pyIter v) Q E ⟨hp, g, d, tk, os⟩ := fun q => B.iter pr wl _ _ ⟨hp, g, d, tk, os⟩ _ hv q
  wp_walk using qi
  refine wpAny_stack_any fun sk => wpAny_pure ?_
  split
  · rename_i c _ _ _ _ _
    cases (c == Value.type "enumerate")
    all_goals
      wp_walk using qi
      exact ⟨_, rfl, hR⟩
  · wp_walk using qi
    exact ⟨_, rfl, hR⟩
theorem enum_call1 {pr : Program} {wl : World} {A : Around} {E : Value → Shared → Prop} {st : Shared} {v : Value} {ob : Obj} {Hv : Heap → Prop} {Q : Value → Shared → Prop} (B : Begins v ob Hv) (hv : Hv st.heap)
    (hQ : ∀ h', IsEnum h' (st.heap.objs.size + 1) st.heap.objs.size 0 .none → h'.get? st.heap.objs.size = some ob → (∀ b o, st.heap.get? b = some o → h'.get? b = some o) → Q (.ref (st.heap.objs.size + 1)) { st with heap := h' }) : wpAny (model pr wl) A (call (.type "enumerate") [v]) Q E st := by
  refine callType_new F.called_enumerate (by decide) (F.typeCall_enumerate_1 _) (F.newCall_enumerate_1 _) (fun x => F.args_object_init_2 x _) F.entry_enumerate_new (enum_new1 B) ⟨hv, ?_⟩
  have sz : (st.heap.push ob).objs.size = st.heap.objs.size + 1 := Heap.size_push ..
  show _ ∧ _
  rw [sz]
  have ie : IsEnum ((st.heap.push ob).push { cls := .type "enumerate", data := .fields #[.none, .bool false, .ref st.heap.objs.size, rawInt 0, .none, .none] }) (st.heap.objs.size + 1) st.heap.objs.size 0 .none := by
    have t := Heap.get?_push_size (st.heap.push ob) (o := { cls := .type "enumerate", data := .fields #[.none, .bool false, .ref st.heap.objs.size, rawInt 0, .none, .none] }) rfl
    rw [sz] at t
    exact t
  exact ⟨⟨_, ie, rfl⟩, hQ _ ie (Heap.get?_push_of_some _ (Heap.get?_push_size _ B.free)) fun b o x => Heap.get?_push_of_some _ (Heap.get?_push_of_some _ x)⟩
def ItEn (K : PySem.W.Frag) (a : Addr) : It :=
  ⟨fun i H => ∃ (ws : List V) (v : V), SqT K H a ws ∧ ws[i]? = some v,
   fun i H r H' => ∃ (T : Addr) (v : V), r = .ref T ∧ H T = none ∧ H' = upd H T (.tup [.int (i : Nat), v]) ∧ ∀ ws, SqT K H a ws → ws[i]? = some v,
   fun i H => ∃ ws : List V, SqT K H a ws ∧ ws.length = i⟩
theorem turn_En {P : Program} {w : World} {K : PySem.W.Frag} {es : List Expr} {k : Nat} {ps : Pos} {a e it : Addr} (ne : e ≠ it) (nea : e ≠ a) (na : a ≠ it) :
    Turn P w K (.Tuple es k ps) (ItEn K a) [e, it] e (fun i h => (∃ old, IsEnum h e it ((i : Nat) : Int) old) ∧ h.IsTupleIter it a i) := by
  have two : ∀ {c : Addr}, c ∈ [e, it] → c = e ∨ c = it := fun h => by simpa using h
  have lives : ∀ (i : Nat) (h : Heap), ((∃ old, IsEnum h e it ((i : Nat) : Int) old) ∧ h.IsTupleIter it a i) → ∀ c ∈ [e, it], ∃ o, h.get? c = some o ∧ ∀ v, o.data ≠ .cell v := fun i h st c hc => by
    obtain ⟨⟨old, s1⟩, ⟨o5, s5, _, d5⟩⟩ := st
    rcases two hc with rfl | rfl
    · exact ⟨_, s1, fun v q => nomatch q⟩
    · exact ⟨o5, s5, fun v q => by rw [d5] at q; exact nomatch q⟩
  have hef : e ∉ [it, a] := fun m => by
    rcases (by simpa using m : e = it ∨ e = a) with q | q
    · exact ne q
    · exact nea q
  refine ⟨List.mem_cons_self, lives, fun i h h' st kp => ?_, fun X eP ew eK hc i pins s σ H E I hf st hg => ?_, fun X eP ew eK hc i pins s σ H E I hf st hg => ?_, fun A i s Q E st q => let ⟨⟨_, z⟩, _⟩ := st; wpAny_pyIter_enum z q⟩
  · obtain ⟨⟨old, s1⟩, s5⟩ := st
    exact ⟨⟨old, kp _ (by simp) _ s1⟩, s5.at fun o q => kp _ (by simp) o q⟩
  · cases eP
    cases ew
    cases eK
    have lv := lives i _ st
    obtain ⟨s1, s5⟩ := st
    obtain ⟨ws, v, qb, hv⟩ := hg
    obtain ⟨lb, rb, pb, _⟩ := I.tuple qb
    obtain ⟨v', ev', rv⟩ := rb.get hv
    have W := WalksT.enumerateD (A := X.A) (Draws.tuple (prog := X.prog) (w := X.w) (A := X.A.in1) (I.ok.hd hc) it a na lb.toArray) e ne hef List.mem_cons_self
    have ir : i < lb.length := (List.getElem?_eq_some_iff.mp ev').1
    refine W.item i s _ E (by rw [List.size_toArray]; omega) ⟨s1, s5, pb⟩ fun T vals h1 tk pv hT tT mid k1 => ⟨_, rfl, ?_⟩
    have apT := W.apart i T h1 mid
    refine W.go es k ps i T _ _ _ mid fun h2 st2 k2 => ?_
    obtain ⟨t2, x2, e2, rfl⟩ := pv
    have f2 : x2 = v' := by
      have := e2.symm.trans (show lb.toArray[i]? = some v' by simpa using ev')
      exact Option.some.inj this
    subst f2
    obtain ⟨z1, z5, _⟩ := st2
    have tT2 : h2.IsTuple T #[.int i t2, x2] := tT.at fun o e => k2 T o apT e
    have J := I.turnedNew (h' := h2) (t' := tk) (ch := [e, it]) (T := T) (ob := .tup [.int (i : Nat), v]) (fun c o hb' q => k2 c o hb' (k1 c o hb' q)) hf hT ⟨(by show 2 ≤ sizeLine; decide), [.int i t2, x2], .cons ⟨_, rfl⟩ (.cons rv .nil), tT2⟩
    refine ⟨.ref T, _, J, rfl, ⟨T, v, rfl, I.hok.fresh hT, rfl, fun l hl => ?_⟩, ⟨z1, z5⟩, fun c hcm => ?_⟩
    · rw [I.tuple_inj hl qb]
      exact hv
    · obtain ⟨o, ho, _⟩ := lv c hcm
      have lt := Heap.lt_size ho
      rw [upd_ne (Nat.ne_of_lt (Nat.lt_of_lt_of_le lt hT))]
      exact (hf c hcm).1
  · cases eP
    cases ew
    cases eK
    obtain ⟨s1, s5⟩ := st
    obtain ⟨ws, qb, e2⟩ := hg
    obtain ⟨lb, rb, pb, _⟩ := I.tuple qb
    have W := WalksT.enumerateD (A := X.A) (Draws.tuple (prog := X.prog) (w := X.w) (A := X.A.in1) (I.ok.hd hc) it a na lb.toArray) e ne hef List.mem_cons_self
    have l2 := rb.length
    have en : lb.toArray.size = i := by
      rw [List.size_toArray]
      omega
    rw [en] at W
    refine W.done s _ E ⟨s1, s5, pb⟩ fun h1 tk k1 => ⟨rfl, ?_⟩
    exact I.turnedL (t' := tk) (ch := [e, it]) (fun c o hb' q => k1 c o hb' q) hf
def iEnT (K : PySem.W.Frag) (ta : TA) : TI := fun σ H R => ta σ H fun vs H1 => ∃ a ws, vs = [.ref a] ∧ SqT K H1 a ws ∧ R (ItEn K a) H1
theorem pi_enumT {X : Cx} {x : Expr} {ta : TA} {p pos tpos : Pos} {elts : List Expr} {kk : Nat} (hg : Gl X "enumerate") (hm : X.mg "enumerate" = none) (ha : PA X [x] ta)
    (hs : starEach [x] X.env = [(false, eval x X.env)] := by rfl) : PI X (.Tuple elts kk tpos) (.Call (.Name "enumerate" p) [x] [] pos) (iEnT X.K ta) := by
  refine ⟨fun pins s σ H R I h => Call_ (ld_blt I hg hm boot_enumerate (PyProof.Rows.callWith_type1 (thn (ha.run pos pins s σ H _ I h) fun us s1 ⟨vs, H1, I1, r1, q1⟩ => ?_) hs rfl))⟩
  obtain ⟨a, wl, rfl, qb, q⟩ := q1
  rw [Vals.ref1 r1]
  obtain ⟨lb, rb, pb, _⟩ := I1.tuple qb
  obtain ⟨ob, hob, _⟩ := id pb
  have lt2 : a < s1.heap.objs.size := Heap.lt_size hob
  refine enum_call1 (begins_tuple a lb.toArray) pb fun h' he g2 hk => wpAny_pyIter_enum he ?_
  have J : Inv X pins σ H1 { s1 with heap := h' } := I1.kept (t' := s1.toks) hk
  refine ⟨_, _, _, _, H1, rfl, J, turn_En (a := a) (e := s1.heap.objs.size + 1) (it := s1.heap.objs.size) (Nat.succ_ne_self _) (Nat.ne_of_gt (Nat.lt_succ_of_lt lt2)) (Nat.ne_of_lt lt2), ⟨⟨.none, he⟩, ⟨_, g2, rfl, rfl⟩⟩, fun c hcm => ?_, q⟩
  have le : s1.heap.objs.size ≤ c := by
    rcases (by simpa using hcm : c = s1.heap.objs.size + 1 ∨ c = s1.heap.objs.size) with e | e <;> (rw [e]; first | exact Nat.le_refl _ | exact Nat.le_add_right _ _)
  exact I1.fpOk le (I1.hok.fresh le)
theorem walk_En {K : PySem.W.Frag} {a : Addr} {ws : List V} {n : Nat} (hy : ws.length = n) : Walk (ItEn K a) n (fun H => SqT K H a ws) (YPair (fun i => some (.int (i : Nat))) (fun i => ws[i]?)) := by
  refine ⟨fun i H hi q => ⟨ws, ws[i]'(by omega), q, List.getElem?_eq_getElem _⟩, fun H q => ⟨ws, q, hy⟩, fun i H v H' hi q y => ?_⟩
  obtain ⟨T, z, h1, h2, h3, h4⟩ := y
  exact ⟨T, .int (i : Nat), z, h1, h2, h3, rfl, h4 ws q⟩
end NG

namespace NG
open PySem PySem.Spec PyProof.Rows L2
/-! ### the same with a truth for jumps -/
def spExprB (K : PySem.W.Frag) (m : Nat) : Sp := fun vs H Q _ => ∃ (a : Addr) (many l n : Nat) (j : Bool), vs = [.ref a, .int (many : Int), .int (l : Int), .bl j] ∧ True ∧ l < m ∧ 1 ≤ many ∧ many ≤ 1000 ∧ HandAt H a n ∧ n + cost l ≤ 999999000 ∧
  ∀ H' v e, But a H H' → HandAt H' a (n + cost l) → ExAt K H' e v → ExOk many e → e.dep ≤ l + 1 → Q v H'
/-- a stake: cut to its far -/
def spStakeB (K : PySem.W.Frag) (m : Nat) : Sp := fun vs H Q _ => ∃ (a : Addr) (many l n : Nat) (j : Bool), vs = [.ref a, .int (many : Int), .int (l : Int), .bl j] ∧ True ∧ l < m ∧ 1 ≤ many ∧ many ≤ 1000 ∧ HandAt H a n ∧ n + cost l ≤ 999998000 ∧
  ∀ H' v e, But a H H' → HandAt H' a (n + cost l + 3) → ExAt K H' e v → ExOk many e → e.dep ≤ l + 3 → (∃ c : Int, e = .fig c ∧ -500 ≤ c ∧ c ≤ 500) ∨ (∃ (c : Int) (e' : Ex), e = .two .least (.fig c) (.two .most (.fig (-c)) e') ∧ 1 ≤ c ∧ c ≤ 500 ∧ ExOk many e' ∧ e'.dep ≤ l + 1) → Q v H'
def spDoubterB (K : PySem.W.Frag) (m : Nat) : Sp := fun vs H Q _ => ∃ (a : Addr) (many l n : Nat) (j : Bool), vs = [.ref a, .int (many : Int), .int (l : Int), .bl j] ∧ True ∧ l < m ∧ l ≤ 5 ∧ 1 ≤ many ∧ many ≤ 3 ∧ HandAt H a n ∧ n ≤ 999990000 ∧
  ∀ H' v D, But a H H' → HandAt H' a (n + 3 * cost l + 300) → DbAt K H' D v → DbOk many (l + 3) 2 10 D → (∀ e ∈ D.stakes, StOk many l e) → Q v H'
end NG

namespace NG
open PySem PySem.Spec PyProof.Rows L2
/-! ### a tuple so many times, any number of times -/
theorem mul_itself (l : Addr) (its : Array Value) (n : Nat) (dd : Option Addr) (sl : Array (Option Value)) (x : Int) (u : Tok) (c0 : (decide (x < -(2 ^ 63)) || decide (x ≥ 2 ^ 63)) = false) (c1 : (its.isEmpty || x == 1) = true) :
    Meets (Builtin.«tuple.__mul__» ⟨[.ref l, .int x u], []⟩) (fun _ R st => st.heap.get? l = some { cls := .type "tuple", dict := dd, data := .seq its n, slots := sl } ∧ R (.ok (.ret (Value.ref l))) st) := by
  refine .of_wp fun pr wl A R st h => ?_
  obtain ⟨hp, g, d, tk, os⟩ := st
  obtain ⟨hl, hR⟩ := h
  have f1 := AutoSeq1.idx_int
  wp_walk using wpAny_loadPart' hl
  repeat (first
    | (refine wpAny_ite_false (decide_eq_false (by rw [c0]; exact Bool.false_ne_true)) ?_; wp_walk using wpAny_loadPart' hl)
    | (refine wpAny_ite_true (decide_eq_true c1) ?_; wp_walk using wpAny_loadPart' hl))
  exact ⟨_, rfl, hR⟩
theorem mul_none (l : Addr) (its : Array Value) (n : Nat) (dd : Option Addr) (sl : Array (Option Value)) (x : Int) (u : Tok) (c0 : (decide (x < -(2 ^ 63)) || decide (x ≥ 2 ^ 63)) = false) (c1 : (its.isEmpty || x == 1) = false) (c2 : (decide (x ≤ 0) || its.isEmpty) = true) :
    Meets (Builtin.«tuple.__mul__» ⟨[.ref l, .int x u], []⟩) (fun _ R st => st.heap.get? l = some { cls := .type "tuple", dict := dd, data := .seq its n, slots := sl } ∧ R (.ok (.ret (Value.ref st.heap.objs.size))) { st with heap := st.heap.push { cls := Value.type "tuple", data := Data.seq #[] } }) := by
  refine .of_wp fun pr wl A R st h => ?_
  obtain ⟨hp, g, d, tk, os⟩ := st
  obtain ⟨hl, hR⟩ := h
  have f1 := AutoSeq1.idx_int
  wp_walk using wpAny_loadPart' hl
  repeat (first
    | (refine wpAny_ite_false (decide_eq_false (by rw [c0]; exact Bool.false_ne_true)) ?_; wp_walk using wpAny_loadPart' hl)
    | (refine wpAny_ite_false (decide_eq_false (by rw [c1]; exact Bool.false_ne_true)) ?_; wp_walk using wpAny_loadPart' hl)
    | (refine wpAny_ite_true (decide_eq_true c2) ?_; wp_walk using wpAny_loadPart' hl))
  exact ⟨_, rfl, hR⟩
def rRepA (K : PySem.W.Frag) : R2 := fun x y H Q => ∃ l k xs, x = .ref l ∧ y = .int k ∧ SqT K H l xs ∧ -1000 ≤ k ∧ k ≤ 1000 ∧ xs.length ≤ 1000 ∧ ∀ H' p, Same H H' → SqT K H' p (List.replicate k.toNat xs).flatten → Q (.ref p) H'
theorem op_repA {X : Cx} : OpR X (binaryOp .Mult) (rRepA X.K) := by
  intro pins s σ H x y v u Q I rx ry h
  obtain ⟨l, k, xs, rfl, rfl, hT, h0, h2, hz, q⟩ := h
  by_cases hbig : xs ≠ [] ∧ 2 ≤ k
  · exact op_repT pins s σ H _ _ v u Q I rx ry ⟨l, k, xs, rfl, rfl, hT, hbig.1, hbig.2, h2, hz, fun p np => q _ p (same_new np) (SqT.of upd_same)⟩
  · have rx0 := rx
    cases rx
    obtain ⟨t, rfl⟩ := ry
    obtain ⟨its, r, ⟨⟨cls, dd, data, sl⟩, ho, hc, n, hd⟩, hs⟩ := I.tuple hT
    simp only at hc hd
    subst hc hd
    have hle : its.length = xs.length := r.length.symm
    have c0 : (decide (k < -(2 ^ 63)) || decide (k ≥ 2 ^ 63)) = false := by
      rw [decide_eq_false (by omega), decide_eq_false (by omega)]
      rfl
    by_cases hone : xs = [] ∨ k = 1
    · have c1 : (its.toArray.isEmpty || k == 1) = true := by
        rcases hone with e | e
        · rw [e] at hle
          have : its = [] := List.eq_nil_of_length_eq_zero hle
          rw [this]
          rfl
        · rw [e]
          simp
      have e1 : (List.replicate k.toNat xs).flatten = xs := by
        rcases hone with e | e
        · rw [e]
          simp
        · rw [e]
          simp
      refine wpAny_binaryOp_repeat_ref (T := "tuple") (U := "int") (by decide) ⟨_, ho, rfl⟩ (fun s' => typeIs_int s' k t) noFill_tuple_mul F.fills_int_mul F.slot_int_rmul repeat_tuple F.slot_int_index.lookup
        (call_meets F.slot_int_rmul (typeIs_int s k t) F.entry_int_rmul (F.args_int_rmul_2 _ _) (int_rmul_tuple k t l its.toArray n dd sl) ⟨ho, rfl, ⟨_, ho, rfl⟩, call_meets F.slot_tuple_mul ⟨_, ho, rfl⟩ F.entry_tuple_mul (F.args_tuple_mul_2 _ _) (mul_itself l its.toArray n dd sl k t c0 c1) ⟨ho, ?_⟩⟩)
      exact ⟨.ref l, H, I, rfl, q H l (Same.refl _) (by rw [e1]; exact hT)⟩
    · have hk0 : k ≤ 0 := by
        have h1 : ¬ xs = [] := fun z => hone (.inl z)
        have h2 : ¬ k = 1 := fun z => hone (.inr z)
        have h3 : ¬ 2 ≤ k := fun z => hbig ⟨h1, z⟩
        omega
      have hn : its ≠ [] := fun e => hone (.inl (by
        rw [e] at hle
        exact List.eq_nil_of_length_eq_zero hle.symm))
      have hi : its.toArray.isEmpty = false := by
        cases its with
        | nil => exact absurd rfl hn
        | cons a b => rfl
      have c1 : (its.toArray.isEmpty || k == 1) = false := by
        rw [hi, Bool.false_or]
        exact beq_eq_false_iff_ne.mpr (by omega)
      have c2 : (decide (k ≤ 0) || its.toArray.isEmpty) = true := by
        rw [decide_eq_true hk0]
        rfl
      have e0 : (List.replicate k.toNat xs).flatten = [] := by
        rw [show k.toNat = 0 by omega]
        rfl
      refine wpAny_binaryOp_repeat_ref (T := "tuple") (U := "int") (by decide) ⟨_, ho, rfl⟩ (fun s' => typeIs_int s' k t) noFill_tuple_mul F.fills_int_mul F.slot_int_rmul repeat_tuple F.slot_int_index.lookup
        (call_meets F.slot_int_rmul (typeIs_int s k t) F.entry_int_rmul (F.args_int_rmul_2 _ _) (int_rmul_tuple k t l its.toArray n dd sl) ⟨ho, rfl, ⟨_, ho, rfl⟩, call_meets F.slot_tuple_mul ⟨_, ho, rfl⟩ F.entry_tuple_mul (F.args_tuple_mul_2 _ _) (mul_none l its.toArray n dd sl k t c0 c1 c2) ⟨ho, ?_⟩⟩)
      have np : H s.heap.objs.size = none := I.hok.fresh (Nat.le_refl _)
      refine ⟨.ref s.heap.objs.size, _, I.laid (t' := s.toks) (o := .tup []) (fun b ob q => Heap.get?_push_of_some _ q) (Nat.le_refl _) ?_, rfl, q _ _ (same_new np) (by rw [e0]; exact SqT.of upd_same)⟩
      exact ⟨Nat.zero_le _, [], .nil, IsTup.new _ _⟩
end NG

namespace NG
open PySem PySem.Spec PyProof.Rows L2
/-! ### what is shown, of small numbers -/
structure Shh (d : PyData) (w k : Nat) : Prop where
  sh : d.showable = true
  lf : d.leavesShort 70 = true
  wt : d.weight ≤ w
  dp : d.depth ≤ k
structure ShhAll (ds : List PyData) (w k : Nat) : Prop where
  sh : PyData.showableAll ds = true
  lf : PyData.leavesShortAll 70 ds = true
  wt : PyData.weightAll ds ≤ w
  dp : PyData.depthAll ds ≤ k
theorem Shw.hh {d : PyData} {w k : Nat} (h : Shw d w k) (l : d.leavesShort 70 = true) : Shh d w k := ⟨h.sh, l, h.wt, h.dp⟩
theorem int60 {i : Int} (h : i.natAbs < 2 ^ 60) : PyData.leavesShort 70 (.int i) = true := by
  have hl : i.natAbs.log2 < 60 := PySem.Flt.log2_lt_of (by decide) h
  show decide ((PyData.shown (.int i)).length ≤ 70) = true
  refine decide_eq_true ?_
  have e := int_text_length_le (k := 60) (by decide) hl
  show (Str.ofString (toString i)).length ≤ 70
  rw [PySem.ofString_length]
  omega
theorem Shh.int {i : Int} (h : i.natAbs < 2 ^ 60) : Shh (.int i) 60 0 := by
  have hl : i.natAbs.log2 < 60 := PySem.Flt.log2_lt_of (by decide) h
  have h6 := Shw.int (i := i) (Nat.lt_of_lt_of_le h (Nat.pow_le_pow_right (by decide) (by decide)))
  refine ⟨h6.sh, int60 h, ?_, Nat.le_refl _⟩
  show (if i == 0 then 0 else i.natAbs.log2 + 1) ≤ 60
  split <;> omega
theorem Shh.str {x : Str} (h : (x.cps.toList.all fun c => decide (c < 16 ^ 8)) = true) (hl : x.cps.size ≤ 10) : Shh (.str x) 10 0 := ⟨rfl, h, hl, Nat.le_refl _⟩
theorem ShhAll.nil {k : Nat} : ShhAll [] 0 k := ⟨rfl, rfl, Nat.le_refl _, Nat.zero_le _⟩
theorem ShhAll.cons {d : PyData} {ds : List PyData} {w1 w2 k1 k2 k : Nat} (h1 : Shh d w1 k1) (h2 : ShhAll ds w2 k2) (hk1 : k1 ≤ k) (hk2 : k2 ≤ k) : ShhAll (d :: ds) (w1 + 1 + w2) k := by
  refine ⟨?_, ?_, ?_, ?_⟩
  · show (d.showable && PyData.showableAll ds) = true
    rw [h1.sh, h2.sh]
    rfl
  · show (d.leavesShort 70 && PyData.leavesShortAll 70 ds) = true
    rw [h1.lf, h2.lf]
    rfl
  · show d.weight + 1 + PyData.weightAll ds ≤ _
    have a := h1.wt
    have b := h2.wt
    omega
  · show max d.depth (PyData.depthAll ds) ≤ k
    have a := h1.dp
    have b := h2.dp
    omega
theorem ShhAll.tup {ds : List PyData} {w k : Nat} (h : ShhAll ds w k) : Shh (.tuple ds) w (k + 1) := ⟨h.sh, h.lf, h.wt, by show PyData.depthAll ds + 1 ≤ k + 1; have := h.dp; omega⟩
theorem ShhAll.lst {ds : List PyData} {w k : Nat} (h : ShhAll ds w k) : Shh (.list ds) w (k + 1) := ⟨h.sh, h.lf, h.wt, by show PyData.depthAll ds + 1 ≤ k + 1; have := h.dp; omega⟩
theorem Shh.mono {d : PyData} {w w' k k' : Nat} (h : Shh d w k) (hw : w ≤ w') (hk : k ≤ k') : Shh d w' k' := ⟨h.sh, h.lf, Nat.le_trans h.wt hw, Nat.le_trans h.dp hk⟩
theorem ShhAll.mono {d : List PyData} {w w' k k' : Nat} (h : ShhAll d w k) (hw : w ≤ w') (hk : k ≤ k') : ShhAll d w' k' := ⟨h.sh, h.lf, Nat.le_trans h.wt hw, Nat.le_trans h.dp hk⟩
theorem Shh.fits {d : PyData} {w k : Nat} (h : Shh d w k) (hw : w ≤ 230000) : d.shown.length ≤ sizeLine := by
  have := PyData.shown_le 70 (by decide) d h.lf
  have := h.wt
  have e : sizeLine = 16777216 := by decide
  omega
theorem ShhAll.app {es : List PyData} {w2 k : Nat} : ∀ {ds : List PyData} {w1 : Nat}, ShhAll ds w1 k → ShhAll es w2 k → ShhAll (ds ++ es) (w1 + w2) k
  | [], w1, _, h2 => h2.mono (by omega) (Nat.le_refl _)
  | d :: ds, w1, h1, h2 => by
    have s1 : (d.showable && PyData.showableAll ds) = true := h1.sh
    have s2 : (d.leavesShort 70 && PyData.leavesShortAll 70 ds) = true := h1.lf
    have s3 : d.weight + 1 + PyData.weightAll ds ≤ w1 := h1.wt
    have s4 : max d.depth (PyData.depthAll ds) ≤ k := h1.dp
    have s1 := Bool.and_eq_true_iff.mp s1
    have s2 := Bool.and_eq_true_iff.mp s2
    have hd : Shh d d.weight k := ⟨s1.1, s2.1, Nat.le_refl _, by omega⟩
    have hr : ShhAll ds (PyData.weightAll ds) k := ⟨s1.2, s2.2, Nat.le_refl _, by omega⟩
    exact (ShhAll.cons hd (ShhAll.app hr h2) (Nat.le_refl _) (Nat.le_refl _)).mono (by omega) (Nat.le_refl _)
theorem lf_and {d : PyData} {ds : List PyData} (h : d.leavesShort 70 = true) (t : PyData.leavesShortAll 70 ds = true) : PyData.leavesShortAll 70 (d :: ds) = true := by
  show (d.leavesShort 70 && PyData.leavesShortAll 70 ds) = true
  rw [h, t]
  rfl
theorem lf_ex {many : Nat} (hm : many ≤ 1000) : ∀ {e : Ex}, ExOk many e → (toD e).leavesShort 70 = true
  | .fig c, o => lf_and (d := .str "fig") (by decide) (lf_and (int60 (by have := o.1; have := o.2; omega)) rfl)
  | .reg i, o => lf_and (d := .str "reg") (by decide) (lf_and (int60 (by have o : i < 4 := o; omega)) rfl)
  | .share j, o => lf_and (d := .str "share") (by decide) (lf_and (int60 (by have o : j < many := o; omega)) rfl)
  | .two w a b, o => lf_and (d := .str (wn w)) (by cases w <;> decide) (lf_and (lf_ex hm o.1) (lf_and (lf_ex hm o.2) rfl))
  | .times f a, o => lf_and (d := .str "times") (by decide) (lf_and (int60 (by have := o.1.1; have := o.1.2; omega)) (lf_and (lf_ex hm o.2) rfl))
  | .by i a, o => lf_and (d := .str "by") (by decide) (lf_and (int60 (by have := o.1; omega)) (lf_and (lf_ex hm o.2) rfl))
  | .when i c a b, o => lf_and (d := .str "when") (by decide) (lf_and (int60 (by have := o.1; omega)) (lf_and (int60 (by have := o.2.1.1; have := o.2.1.2; omega)) (lf_and (lf_ex hm o.2.2.1) (lf_and (lf_ex hm o.2.2.2) rfl))))
  | .whr j c a b, o => lf_and (d := .str "where") (by decide) (lf_and (int60 (by have := o.1; omega)) (lf_and (int60 (by have := o.2.1.1; have := o.2.1.2; omega)) (lf_and (lf_ex hm o.2.2.1) (lf_and (lf_ex hm o.2.2.2) rfl))))
theorem lf_ds {many : Nat} (hm : many ≤ 1000) : ∀ {d : Ds}, DsOk many d → PyData.leavesShortAll 70 (dsD d) = true
  | .nil, _ => rfl
  | .op w i x r, o => lf_and (d := .tuple [.str (dn w), .int (i : Int), .int x]) (lf_and (d := .str (dn w)) (by cases w <;> decide) (lf_and (int60 (by have := o.1; omega)) (lf_and (int60 (by have := xok_small hm o.2.1; omega)) rfl))) (lf_ds hm o.2.2)
  | .when i c a b r, o => lf_and (d := .tuple [.str "when", .int (i : Int), .int c, .tuple (dsD a), .tuple (dsD b)]) (lf_and (d := .str "when") (by decide) (lf_and (int60 (by have := o.1; omega)) (lf_and (int60 (by have := o.2.1.1; have := o.2.1.2; omega)) (lf_and (d := .tuple (dsD a)) (lf_ds hm o.2.2.1) (lf_and (d := .tuple (dsD b)) (lf_ds hm o.2.2.2.1) rfl))))) (lf_ds hm o.2.2.2.2)
theorem lf_list {α : Type} {f : α → PyData} : ∀ {xs : List α}, (∀ x ∈ xs, (f x).leavesShort 70 = true) → PyData.leavesShortAll 70 (xs.map f) = true
  | [], _ => rfl
  | x :: r, h => lf_and (h x (by simp)) (lf_list fun y hy => h y (List.mem_cons_of_mem _ hy))
theorem lf_db {many dE dD cD : Nat} {D : Dbt} (hm : many ≤ 1000) (o : DbOk many dE dD cD D) : (dbD D).leavesShort 70 = true := by
  refine lf_and (d := .str D.name) (by rcases o.nm with e | e | e | e <;> rw [e] <;> decide) (lf_and (int60 (by have := o.sc; omega)) (lf_and (d := .tuple (D.begins.map PyData.int)) (lf_list fun x hx => int60 (by have := o.rg.2 x hx; omega)) (lf_and (d := .tuple (D.stakes.map toD)) (lf_list fun e he => lf_ex hm (o.st e he).1) (lf_and (d := .tuple (D.behinds.map fun d => .tuple (dsD d))) (lf_list fun d hd => ?_) rfl))))
  exact lf_ds hm (o.bh d hd).1
end NG

namespace NG
open PySem PySem.Spec PyProof.Rows L2
/-! ### ones, members -/
structure One where
  dbt : Dbt
  regs : List Int
  weight : Int
  motes : Int
  owed : Int
  days : Int
  got : Int
def OneAt (K : PySem.W.Frag) (H : Hp) (o : One) (v : V) : Prop := ∃ (p : Addr) (dv rv : V), v = .ref p ∧ SqT K H p [.str "one", dv, rv, .int o.weight, .int o.motes, .int o.owed, .int o.days, .int o.got] ∧ DbAt K H o.dbt dv ∧ RegsAt K H o.regs rv
theorem OneAt.imp {K : PySem.W.Frag} {H H' : Hp} {o : One} {v : V} (x : OneAt K H o v) (h : ∀ p xs, SqT K H p xs → SqT K H' p xs) : OneAt K H' o v := by
  obtain ⟨p, dv, rv, e, q, d, r⟩ := x
  exact ⟨p, dv, rv, e, h _ _ q, d.imp h, r.imp h⟩
def oneD (o : One) : PyData := .tuple [.str "one", dbD o.dbt, .tuple (o.regs.map PyData.int), .int o.weight, .int o.motes, .int o.owed, .int o.days, .int o.got]
theorem OneAt.dp {K : PySem.W.Frag} {H : Hp} {o : One} {v : V} (x : OneAt K H o v) : Dp K H v (oneD o) := by
  obtain ⟨p, dv, rv, e, q, d, ⟨pr, e2, r, _⟩⟩ := x
  subst e e2
  exact .tup q (.cons (.str _) (.cons d.dp (.cons (.tup r (dp_ints _)) (.cons (.int _) (.cons (.int _) (.cons (.int _) (.cons (.int _) (.cons (.int _) .nil))))))))
structure OneOk (many dE dD cD : Nat) (o : One) : Prop where
  db : DbOk many dE dD cD o.dbt
  rg : RegOk o.regs
  w1 : 1 ≤ o.weight ∧ o.weight ≤ 1000000000000
  m1 : 0 ≤ o.motes ∧ o.motes ≤ 3000000000000
  o1 : 0 ≤ o.owed ∧ o.owed ≤ 99
  d1 : 0 ≤ o.days ∧ o.days ≤ 40
  g1 : -5000000000 ≤ o.got ∧ o.got ≤ 5000000000
theorem shh_one {many dE dD cD : Nat} {o : One} (hm : many ≤ 3) (hE : dE ≤ 8) (hD : dD ≤ 8) (h : OneOk many dE dD cD o) : Shh (oneD o) (600 + 3 * wgt dE + 180 * cD) 22 := by
  have h1 : Shh (.str "one") 10 0 := .str (by decide) (by decide)
  have h2 := (shw_db hm hE hD h.db).hh (lf_db (by omega) h.db)
  have h3 : Shh (.tuple (o.regs.map PyData.int)) (16 * o.regs.length) 1 := ((shw_smalls h.rg.2).tup).hh (lf_list fun x hx => int60 (by have := h.rg.2 x hx; omega))
  have i1 : Shh (.int o.weight) 60 0 := .int (by have := h.w1; omega)
  have i2 : Shh (.int o.motes) 60 0 := .int (by have := h.m1; omega)
  have i3 : Shh (.int o.owed) 60 0 := .int (by have := h.o1; omega)
  have i4 : Shh (.int o.days) 60 0 := .int (by have := h.d1; omega)
  have i5 : Shh (.int o.got) 60 0 := .int (by have := h.g1; omega)
  have hl := h.rg.1
  rw [hl] at h3
  have z : ShhAll [PyData.str "one", dbD o.dbt, .tuple (o.regs.map PyData.int), .int o.weight, .int o.motes, .int o.owed, .int o.days, .int o.got] _ 21 := .cons h1 (.cons h2 (.cons h3 (.cons i1 (.cons i2 (.cons i3 (.cons i4 (.cons i5 (ShhAll.nil (k := 0)) (k := 21) (by omega) (by omega)) (by omega) (Nat.le_refl _)) (by omega) (Nat.le_refl _)) (by omega) (Nat.le_refl _)) (by omega) (Nat.le_refl _)) (by omega) (Nat.le_refl _)) (by omega) (Nat.le_refl _)) (by omega) (Nat.le_refl _)
  exact z.tup.mono (by omega) (by omega)
inductive Ms where
  | nil
  | one (o : One) (r : Ms)
  | house (nm : Str) (m r : Ms)
inductive Mk where
  | one (o : One)
  | house (nm : Str) (m : Ms)
def MsAt (K : PySem.W.Frag) (H : Hp) : Ms → List V → Prop
  | .nil, vs => vs = []
  | .one o r, vs => ∃ v us, vs = v :: us ∧ OneAt K H o v ∧ MsAt K H r us
  | .house nm m r, vs => ∃ p pm xs us, vs = .ref p :: us ∧ SqT K H p [.str "house", .str nm, .ref pm] ∧ SqT K H pm xs ∧ MsAt K H m xs ∧ MsAt K H r us
theorem MsAt.imp {K : PySem.W.Frag} {H H' : Hp} (h : ∀ p xs, SqT K H p xs → SqT K H' p xs) : ∀ {m : Ms} {vs : List V}, MsAt K H m vs → MsAt K H' m vs
  | .nil, _, e => e
  | .one _ _, _, ⟨v, us, e, q, r⟩ => ⟨v, us, e, q.imp h, MsAt.imp h r⟩
  | .house _ _ _, _, ⟨p, pm, xs, us, e, q, qm, m, r⟩ => ⟨p, pm, xs, us, e, h _ _ q, h _ _ qm, MsAt.imp h m, MsAt.imp h r⟩
theorem MsAt.same {K : PySem.W.Frag} {H H' : Hp} {m : Ms} {vs : List V} (x : MsAt K H m vs) (s : Same H H') : MsAt K H' m vs := x.imp fun _ _ q => same_sqt s q
def MkAt (K : PySem.W.Frag) (H : Hp) : Mk → V → Prop
  | .one o, v => OneAt K H o v
  | .house nm m, v => ∃ p pm xs, v = .ref p ∧ SqT K H p [.str "house", .str nm, .ref pm] ∧ SqT K H pm xs ∧ MsAt K H m xs
theorem MkAt.imp {K : PySem.W.Frag} {H H' : Hp} (h : ∀ p xs, SqT K H p xs → SqT K H' p xs) : ∀ {m : Mk} {v : V}, MkAt K H m v → MkAt K H' m v
  | .one _, _, x => OneAt.imp x h
  | .house _ _, _, ⟨p, pm, xs, e, q, qm, m⟩ => ⟨p, pm, xs, e, h _ _ q, h _ _ qm, m.imp h⟩
def msD : Ms → List PyData
  | .nil => []
  | .one o r => oneD o :: msD r
  | .house nm m r => .tuple [.str "house", .str nm, .tuple (msD m)] :: msD r
def mkD : Mk → PyData
  | .one o => oneD o
  | .house nm m => .tuple [.str "house", .str nm, .tuple (msD m)]
theorem MsAt.dps {K : PySem.W.Frag} {H : Hp} : ∀ {m : Ms} {vs : List V}, MsAt K H m vs → DpAll K H vs (msD m)
  | .nil, _, e => by subst e; exact .nil
  | .one _ _, _, ⟨v, us, e, q, r⟩ => by subst e; exact .cons q.dp r.dps
  | .house _ _ _, _, ⟨p, pm, xs, us, e, q, qm, m, r⟩ => by subst e; exact .cons (.tup q (.cons (.str _) (.cons (.str _) (.cons (.tup qm m.dps) .nil)))) r.dps
theorem MkAt.dp {K : PySem.W.Frag} {H : Hp} : ∀ {m : Mk} {v : V}, MkAt K H m v → Dp K H v (mkD m)
  | .one _, _, x => OneAt.dp x
  | .house _ _, _, ⟨p, pm, xs, e, q, qm, m⟩ => by subst e; exact .tup q (.cons (.str _) (.cons (.str _) (.cons (.tup qm m.dps) .nil)))
theorem MkAt.ref {K : PySem.W.Frag} {H : Hp} : ∀ {m : Mk} {v : V}, MkAt K H m v → ∃ p, v = .ref p
  | .one _, _, ⟨p, _, _, e, _⟩ => ⟨p, e⟩
  | .house _ _, _, ⟨p, _, _, e, _⟩ => ⟨p, e⟩
def mkW : Mk → Str
  | .one _ => "one"
  | .house _ _ => "house"
/-- the word ahead -/
theorem MkAt.wd {K : PySem.W.Frag} {H : Hp} : ∀ {m : Mk} {v : V}, MkAt K H m v → ∃ p xs, v = .ref p ∧ SqT K H p (.str (mkW m) :: xs)
  | .one _, _, ⟨p, _, _, e, q, _⟩ => ⟨p, _, e, q⟩
  | .house _ _, _, ⟨p, _, _, e, q, _⟩ => ⟨p, _, e, q⟩
def Ms.cnt : Ms → Nat
  | .nil => 0
  | .one _ r => 1 + r.cnt
  | .house _ m r => 1 + m.cnt + r.cnt
def Ms.len : Ms → Nat
  | .nil => 0
  | .one _ r => r.len + 1
  | .house _ _ r => r.len + 1
def Ms.dep : Ms → Nat
  | .nil => 0
  | .one _ r => r.dep
  | .house _ m r => max (m.dep + 1) r.dep
theorem Ms.len_le : ∀ m : Ms, m.len ≤ m.cnt
  | .nil => Nat.le_refl _
  | .one _ r => by have := r.len_le; show r.len + 1 ≤ 1 + r.cnt; omega
  | .house _ m r => by have := r.len_le; show r.len + 1 ≤ 1 + m.cnt + r.cnt; omega
theorem MsAt.len {K : PySem.W.Frag} {H : Hp} : ∀ {m : Ms} {vs : List V}, MsAt K H m vs → vs.length = m.len
  | .nil, _, e => by subst e; rfl
  | .one _ _, _, ⟨v, us, e, q, r⟩ => by subst e; rw [List.length_cons, r.len]; rfl
  | .house _ _ _, _, ⟨p, pm, xs, us, e, q, qm, m, r⟩ => by subst e; rw [List.length_cons, r.len]; rfl
def Ms.app : Ms → Ms → Ms
  | .nil, e => e
  | .one o r, e => .one o (r.app e)
  | .house nm m r, e => .house nm m (r.app e)
theorem MsAt.app {K : PySem.W.Frag} {H : Hp} : ∀ {d e : Ms} {vs ws : List V}, MsAt K H d vs → MsAt K H e ws → MsAt K H (d.app e) (vs ++ ws)
  | .nil, _, _, _, e, y => by subst e; exact y
  | .one _ _, _, _, _, ⟨v, us, e, q, r⟩, y => by subst e; exact ⟨v, _, rfl, q, MsAt.app r y⟩
  | .house _ _ _, _, _, _, ⟨p, pm, xs, us, e, q, qm, m, r⟩, y => by subst e; exact ⟨p, pm, xs, _, rfl, q, qm, m, MsAt.app r y⟩
theorem Ms.cnt_app : ∀ d e : Ms, (d.app e).cnt = d.cnt + e.cnt
  | .nil, e => by show e.cnt = 0 + e.cnt; omega
  | .one _ r, e => by show 1 + (r.app e).cnt = 1 + r.cnt + e.cnt; rw [Ms.cnt_app r e]; omega
  | .house _ m r, e => by show 1 + m.cnt + (r.app e).cnt = 1 + m.cnt + r.cnt + e.cnt; rw [Ms.cnt_app r e]; omega
theorem Ms.dep_app : ∀ d e : Ms, (d.app e).dep = max d.dep e.dep
  | .nil, e => by show e.dep = max 0 e.dep; omega
  | .one _ r, e => Ms.dep_app r e
  | .house _ m r, e => by show max (m.dep + 1) (r.app e).dep = max (max (m.dep + 1) r.dep) e.dep; rw [Ms.dep_app r e]; omega
/-- each one in it -/
def Ms.all (P : One → Prop) : Ms → Prop
  | .nil => True
  | .one o r => P o ∧ r.all P
  | .house _ m r => m.all P ∧ r.all P
theorem Ms.all_app {P : One → Prop} : ∀ {d e : Ms}, d.all P → e.all P → (d.app e).all P
  | .nil, _, _, y => y
  | .one _ _, _, ⟨a, b⟩, y => ⟨a, Ms.all_app b y⟩
  | .house _ _ _, _, ⟨a, b⟩, y => ⟨a, Ms.all_app b y⟩
def nmOk (nm : Str) : Prop := (nm.cps.toList.all fun c => decide (c < 16 ^ 8)) = true ∧ nm.cps.size ≤ 10
def Ms.nms : Ms → Prop
  | .nil => True
  | .one _ r => r.nms
  | .house nm m r => nmOk nm ∧ m.nms ∧ r.nms
theorem Ms.nms_app : ∀ {d e : Ms}, d.nms → e.nms → (d.app e).nms
  | .nil, _, _, y => y
  | .one _ r, _, a, y => Ms.nms_app (d := r) a y
  | .house _ _ _, _, ⟨n, a, b⟩, y => ⟨n, a, Ms.nms_app b y⟩
def Ms.tl : Ms → Ms
  | .nil => .nil
  | .one _ r => r
  | .house _ _ r => r
def Ms.hd : Ms → Option Mk
  | .nil => none
  | .one o _ => some (.one o)
  | .house nm m _ => some (.house nm m)
def Ms.drop : Nat → Ms → Ms
  | 0, d => d
  | n + 1, d => (d.drop n).tl
theorem MsAt.tl {K : PySem.W.Frag} {H : Hp} : ∀ {d : Ms} {vs : List V}, MsAt K H d vs → MsAt K H d.tl (vs.drop 1)
  | .nil, _, e => by subst e; rfl
  | .one _ _, _, ⟨v, us, e, q, r⟩ => by subst e; exact r
  | .house _ _ _, _, ⟨p, pm, xs, us, e, q, qm, m, r⟩ => by subst e; exact r
theorem MsAt.drop {K : PySem.W.Frag} {H : Hp} {d : Ms} {vs : List V} (h : MsAt K H d vs) : ∀ n, MsAt K H (d.drop n) (vs.drop n)
  | 0 => h
  | n + 1 => by
    have := (MsAt.drop h n).tl
    rw [List.drop_drop] at this
    exact this
theorem MsAt.head {K : PySem.W.Frag} {H : Hp} : ∀ {d : Ms} {v : V} {us : List V}, MsAt K H d (v :: us) → ∃ k, d.hd = some k ∧ MkAt K H k v
  | .one o _, _, _, ⟨v, us, e, q, r⟩ => by cases e; exact ⟨.one o, rfl, q⟩
  | .house nm m _, _, _, ⟨p, pm, xs, us, e, q, qm, mm, r⟩ => by cases e; exact ⟨.house nm m, rfl, p, pm, xs, rfl, q, qm, mm⟩
theorem MsAt.nth {K : PySem.W.Frag} {H : Hp} {d : Ms} {vs : List V} {i : Nat} {v : V} (h : MsAt K H d vs) (hi : vs[i]? = some v) : ∃ k, (d.drop i).hd = some k ∧ MkAt K H k v := by
  have hil := (List.getElem?_eq_some_iff.mp hi).1
  have hd := h.drop i
  rw [List.drop_eq_getElem_cons hil, (List.getElem?_eq_some_iff.mp hi).2] at hd
  exact hd.head
theorem Ms.dep_tl : ∀ d : Ms, d.tl.dep ≤ d.dep
  | .nil => Nat.le_refl _
  | .one _ r => Nat.le_refl _
  | .house _ m r => by show r.dep ≤ max (m.dep + 1) r.dep; omega
theorem Ms.dep_drop (d : Ms) : ∀ n, (d.drop n).dep ≤ d.dep
  | 0 => Nat.le_refl _
  | n + 1 => Nat.le_trans (Ms.dep_tl _) (Ms.dep_drop d n)
theorem Ms.cnt_tl : ∀ d : Ms, d.tl.cnt ≤ d.cnt
  | .nil => Nat.le_refl _
  | .one _ r => by show r.cnt ≤ 1 + r.cnt; omega
  | .house _ m r => by show r.cnt ≤ 1 + m.cnt + r.cnt; omega
theorem Ms.cnt_drop (d : Ms) : ∀ n, (d.drop n).cnt ≤ d.cnt
  | 0 => Nat.le_refl _
  | n + 1 => Nat.le_trans (Ms.cnt_tl _) (Ms.cnt_drop d n)
/-- a house ahead lies deeper, is smaller -/
theorem Ms.hd_house {d : Ms} {nm : Str} {m : Ms} (h : d.hd = some (.house nm m)) : m.dep + 1 ≤ d.dep ∧ m.cnt + 1 ≤ d.cnt := by
  cases d with
  | nil => cases h
  | one o r => cases h
  | house n2 m2 r =>
    cases h
    exact ⟨by show m.dep + 1 ≤ max (m.dep + 1) r.dep; omega, by show m.cnt + 1 ≤ 1 + m.cnt + r.cnt; omega⟩
/-! ### all that stand, with their paths -/
def stdI : Ms → List Int → Int → List (List Int × Mk)
  | .nil, _, _ => []
  | .one o r, path, i => (path ++ [i], .one o) :: stdI r path (i + 1)
  | .house nm m r, path, i => (path ++ [i], .house nm m) :: (stdI m (path ++ [i]) 0 ++ stdI r path (i + 1))
def stdH : Option Mk → List Int → Int → List (List Int × Mk)
  | none, _, _ => []
  | some (.one o), path, i => [(path ++ [i], .one o)]
  | some (.house nm m), path, i => (path ++ [i], .house nm m) :: stdI m (path ++ [i]) 0
theorem stdI_step : ∀ (d : Ms) (path : List Int) (i : Int), stdI d path i = stdH d.hd path i ++ stdI d.tl path (i + 1)
  | .nil, _, _ => rfl
  | .one _ _, _, _ => rfl
  | .house _ _ _, _, _ => rfl
theorem stdI_len : ∀ (d : Ms) (path : List Int) (i : Int), (stdI d path i).length = d.cnt
  | .nil, _, _ => rfl
  | .one _ r, path, i => by show (stdI r path (i + 1)).length + 1 = 1 + r.cnt; rw [stdI_len r]; omega
  | .house _ m r, path, i => by show (stdI m (path ++ [i]) 0 ++ stdI r path (i + 1)).length + 1 = 1 + m.cnt + r.cnt; rw [List.length_append, stdI_len m, stdI_len r]; omega
def PrAt (K : PySem.W.Frag) (H : Hp) (x : List Int × Mk) (u : V) : Prop := ∃ (t h : Addr) (v : V), u = .ref t ∧ SqT K H t [.ref h, v] ∧ SqT K H h (x.1.map V.int) ∧ MkAt K H x.2 v
theorem PrAt.imp {K : PySem.W.Frag} {H H' : Hp} (h : ∀ p xs, SqT K H p xs → SqT K H' p xs) {x : List Int × Mk} {u : V} (y : PrAt K H x u) : PrAt K H' x u := by
  obtain ⟨t, q, v, e, a, b, c⟩ := y
  exact ⟨t, q, v, e, h _ _ a, h _ _ b, c.imp h⟩
def PrsAt (K : PySem.W.Frag) (H : Hp) : List V → List (List Int × Mk) → Prop
  | [], [] => True
  | u :: us, x :: xs => PrAt K H x u ∧ PrsAt K H us xs
  | _, _ => False
theorem PrsAt.imp {K : PySem.W.Frag} {H H' : Hp} (h : ∀ p xs, SqT K H p xs → SqT K H' p xs) : ∀ {us : List V} {xs : List (List Int × Mk)}, PrsAt K H us xs → PrsAt K H' us xs
  | [], [], _ => trivial
  | _ :: _, _ :: _, ⟨x, r⟩ => ⟨x.imp h, PrsAt.imp h r⟩
theorem PrsAt.app {K : PySem.W.Frag} {H : Hp} : ∀ {us ws : List V} {xs ys : List (List Int × Mk)}, PrsAt K H us xs → PrsAt K H ws ys → PrsAt K H (us ++ ws) (xs ++ ys)
  | [], _, [], _, _, y => y
  | _ :: _, _, _ :: _, _, ⟨x, r⟩, y => ⟨x, PrsAt.app r y⟩
theorem PrsAt.len {K : PySem.W.Frag} {H : Hp} : ∀ {us : List V} {xs : List (List Int × Mk)}, PrsAt K H us xs → us.length = xs.length
  | [], [], _ => rfl
  | _ :: _, _ :: _, ⟨_, r⟩ => by rw [List.length_cons, List.length_cons, r.len]
theorem PrsAt.get {K : PySem.W.Frag} {H : Hp} : ∀ {us : List V} {xs : List (List Int × Mk)} {i : Nat} {u : V}, PrsAt K H us xs → us[i]? = some u → ∃ x, xs[i]? = some x ∧ PrAt K H x u
  | [], [], _, _, _, h => by simp at h
  | v :: us, x :: xs, 0, u, ⟨y, r⟩, h => by
    have : v = u := Option.some.inj h
    subst this
    exact ⟨x, rfl, y⟩
  | v :: us, x :: xs, i + 1, u, ⟨y, r⟩, h => PrsAt.get (i := i) r h
def prD (x : List Int × Mk) : PyData := .tuple [.tuple (x.1.map PyData.int), mkD x.2]
theorem PrAt.dp {K : PySem.W.Frag} {H : Hp} {x : List Int × Mk} {u : V} (y : PrAt K H x u) : Dp K H u (prD x) := by
  obtain ⟨t, q, v, e, a, b, c⟩ := y
  subst e
  exact .tup a (.cons (.tup b (dp_ints _)) (.cons c.dp .nil))
theorem PrsAt.dps {K : PySem.W.Frag} {H : Hp} : ∀ {us : List V} {xs : List (List Int × Mk)}, PrsAt K H us xs → DpAll K H us (xs.map prD)
  | [], [], _ => .nil
  | _ :: _, _ :: _, ⟨x, r⟩ => .cons x.dp r.dps
def isOne (x : List Int × Mk) : Bool := match x.2 with
  | .one _ => true
  | .house _ _ => false
def toOne (x : List Int × Mk) : Option One := match x.2 with
  | .one o => some o
  | .house _ _ => none
def onesI (m : Ms) : List (List Int × Mk) := (stdI m [] 0).filter isOne
def aoI : Ms → List One
  | .nil => []
  | .one o r => o :: aoI r
  | .house _ m r => aoI m ++ aoI r
theorem ao_std : ∀ (d : Ms) (path : List Int) (i : Int), ((stdI d path i).filter isOne).filterMap toOne = aoI d
  | .nil, _, _ => rfl
  | .one o r, path, i => by
    show (((path ++ [i], Mk.one o) :: stdI r path (i + 1)).filter isOne).filterMap toOne = o :: aoI r
    rw [List.filter_cons_of_pos (by rfl), List.filterMap_cons_some (b := o) (by rfl), ao_std r]
  | .house nm m r, path, i => by
    show (((path ++ [i], Mk.house nm m) :: (stdI m (path ++ [i]) 0 ++ stdI r path (i + 1))).filter isOne).filterMap toOne = aoI m ++ aoI r
    rw [List.filter_cons_of_neg (by intro h; cases h), List.filter_append, List.filterMap_append, ao_std m, ao_std r]
theorem ones_map : ∀ {xs : List (List Int × Mk)}, (∀ x ∈ xs, isOne x = true) → (xs.filterMap toOne).length = xs.length
  | [], _ => rfl
  | (p, .one o) :: r, h => by
    rw [List.filterMap_cons_some (b := o) (by rfl), List.length_cons, List.length_cons, ones_map fun x hx => h x (List.mem_cons_of_mem _ hx)]
  | (p, .house nm m) :: r, h => by
    have := h (p, .house nm m) (by simp)
    cases this
theorem ones_len (m : Ms) : (onesI m).length = (aoI m).length := by
  have h := ones_map (xs := onesI m) fun x hx => (List.mem_filter.mp hx).2
  rw [← h]
  unfold onesI
  rw [ao_std]
def motesI (m : Ms) : Int := ((aoI m).map (·.motes)).sum
theorem ao_len : ∀ d : Ms, (aoI d).length ≤ d.cnt
  | .nil => Nat.le_refl _
  | .one _ r => by have := ao_len r; show (aoI r).length + 1 ≤ 1 + r.cnt; omega
  | .house _ m r => by have := ao_len m; have := ao_len r; show (aoI m ++ aoI r).length ≤ 1 + m.cnt + r.cnt; rw [List.length_append]; omega
theorem ao_all {P : One → Prop} : ∀ {d : Ms}, d.all P → ∀ o ∈ aoI d, P o
  | .nil, _, o, h => by cases h
  | .one _ r, ⟨a, b⟩, o, h => by
    rcases List.mem_cons.mp h with rfl | h
    · exact a
    · exact ao_all b o h
  | .house _ m r, ⟨a, b⟩, o, h => by
    rcases List.mem_append.mp h with h | h
    · exact ao_all a o h
    · exact ao_all b o h
theorem ao_app : ∀ d e : Ms, aoI (d.app e) = aoI d ++ aoI e
  | .nil, e => rfl
  | .one o r, e => by show o :: aoI (r.app e) = o :: (aoI r ++ aoI e); rw [ao_app r e]
  | .house _ m r, e => by show aoI m ++ aoI (r.app e) = aoI m ++ aoI r ++ aoI e; rw [ao_app r e, List.append_assoc]
/-! ### promises -/
def spStands (K : PySem.W.Frag) (n : Nat) : Sp := fun vs H Q _ => ∃ (p q : Addr) (xs : List V) (m : Ms) (path : List Int), vs = [.ref p, .ref q] ∧ SqT K H p xs ∧ MsAt K H m xs ∧ m.dep < n ∧ m.cnt ≤ 300 ∧ SqT K H q (path.map V.int) ∧ path.length + m.dep ≤ 100 ∧
  ∀ H' l us, Same H H' → H l = none → H' l = some (.lst us) → PrsAt K H' us (stdI m path 0) → Q (.ref l) H'
def spOnes (K : PySem.W.Frag) (n : Nat) : Sp := fun vs H Q _ => ∃ (p pm : Addr) (xs : List V) (many : Int) (m : Ms), vs = [.ref p] ∧ SqT K H p [.int many, .ref pm] ∧ SqT K H pm xs ∧ MsAt K H m xs ∧ m.dep < n ∧ m.cnt ≤ 300 ∧ m.dep ≤ 50 ∧
  ∀ H' t us, Same H H' → SqT K H' t us → PrsAt K H' us (onesI m) → Q (.ref t) H'
def spMotes (K : PySem.W.Frag) (n : Nat) : Sp := fun vs H Q _ => ∃ (p pm : Addr) (xs : List V) (many : Int) (m : Ms), vs = [.ref p] ∧ SqT K H p [.int many, .ref pm] ∧ SqT K H pm xs ∧ MsAt K H m xs ∧ m.dep < n ∧ m.cnt ≤ 300 ∧ m.dep ≤ 50 ∧
  ∀ H', Same H H' → Q (.int (motesI m)) H'
end NG

namespace NG
open PySem PySem.Spec PyProof.Rows L2
theorem reprK {X : Cx} (K : PySem.W.Frag) (hg : X.A.guards = some []) (hu : X.A.units + 64 < cLine) (h : X.K = K := by rfl) : CallR X (.builtin "repr") (rRepr K) := by
  subst h
  exact cr_repr hg hu
/-! ### what is shown of members -/
theorem shh_list {α : Type} {f : α → PyData} {w k : Nat} : ∀ {xs : List α}, (∀ x ∈ xs, Shh (f x) w k) → ShhAll (xs.map f) ((w + 1) * xs.length) k
  | [], _ => ShhAll.nil
  | n :: r, h => by
    have h1 := h n (by simp)
    have h2 := shh_list (xs := r) fun x hx => h x (List.mem_cons_of_mem _ hx)
    refine (ShhAll.cons h1 h2 (Nat.le_refl k) (Nat.le_refl k)).mono ?_ (Nat.le_refl k)
    rw [List.length_cons, Nat.mul_add]
    omega
theorem shh_ms {many dE dD cD : Nat} (hm : many ≤ 3) (hE : dE ≤ 8) (hD : dD ≤ 8) : ∀ {m : Ms}, m.all (OneOk many dE dD cD) → m.nms → ShhAll (msD m) ((700 + 3 * wgt dE + 180 * cD) * m.cnt) (22 + 2 * m.dep)
  | .nil, _, _ => ShhAll.nil
  | .one o r, a, n => by
    have h1 := shh_one hm hE hD a.1
    have h2 := shh_ms hm hE hD (m := r) a.2 n
    refine (ShhAll.cons h1 h2 (k := 22 + 2 * r.dep) (by omega) (Nat.le_refl _)).mono ?_ (Nat.le_refl _)
    show _ ≤ (700 + 3 * wgt dE + 180 * cD) * (1 + r.cnt)
    rw [Nat.mul_add, Nat.mul_one]
    omega
  | .house nm m r, a, n => by
    have h1 := (shh_ms hm hE hD (m := m) a.1 n.2.1).tup
    have h2 := shh_ms hm hE hD (m := r) a.2 n.2.2
    have s1 : Shh (.str "house") 10 0 := .str (by decide) (by decide)
    have s2 : Shh (.str nm) 10 0 := .str n.1.1 n.1.2
    have h3 := (ShhAll.cons s1 (.cons s2 (.cons h1 (ShhAll.nil (k := 0)) (k := 23 + 2 * m.dep) (by omega) (by omega)) (by omega) (Nat.le_refl _)) (by omega) (Nat.le_refl _)).tup
    refine (ShhAll.cons h3 h2 (k := 22 + 2 * max (m.dep + 1) r.dep) (by omega) (by omega)).mono ?_ (Nat.le_refl _)
    show _ ≤ (700 + 3 * wgt dE + 180 * cD) * (1 + m.cnt + r.cnt)
    rw [Nat.mul_add, Nat.mul_add, Nat.mul_one]
    omega
theorem std_path : ∀ (d : Ms) (path : List Int) (i : Int), 0 ≤ i → i + (d.cnt : Int) ≤ 300 → ∀ x ∈ stdI d path i, x.1.length ≤ path.length + d.dep + 1 ∧ ∀ e ∈ x.1, e ∈ path ∨ (0 ≤ e ∧ e ≤ 300)
  | .nil, _, _, _, _, x, h => by cases h
  | .one o r, path, i, i0, i1, x, h => by
    have i1 : i + ((1 + r.cnt : Nat) : Int) ≤ 300 := i1
    have h : x ∈ (path ++ [i], Mk.one o) :: stdI r path (i + 1) := h
    rcases List.mem_cons.mp h with rfl | h
    · refine ⟨by rw [List.length_append]; show path.length + 1 ≤ _; omega, fun e he => ?_⟩
      rcases List.mem_append.mp he with he | he
      · exact .inl he
      · rw [List.mem_singleton.mp he]
        exact .inr ⟨i0, by omega⟩
    · exact std_path r path (i + 1) (by omega) (by omega) x h
  | .house nm m r, path, i, i0, i1, x, h => by
    have i1 : i + ((1 + m.cnt + r.cnt : Nat) : Int) ≤ 300 := i1
    have h : x ∈ (path ++ [i], Mk.house nm m) :: (stdI m (path ++ [i]) 0 ++ stdI r path (i + 1)) := h
    show x.1.length ≤ path.length + max (m.dep + 1) r.dep + 1 ∧ _
    rcases List.mem_cons.mp h with rfl | h
    · refine ⟨by rw [List.length_append]; show path.length + 1 ≤ _; omega, fun e he => ?_⟩
      rcases List.mem_append.mp he with he | he
      · exact .inl he
      · rw [List.mem_singleton.mp he]
        exact .inr ⟨i0, by omega⟩
    · rcases List.mem_append.mp h with h | h
      · obtain ⟨h1, h2⟩ := std_path m (path ++ [i]) 0 (by decide) (by omega) x h
        refine ⟨by rw [List.length_append] at h1; have h1 : x.1.length ≤ path.length + 1 + m.dep + 1 := h1; omega, fun e he => ?_⟩
        rcases h2 e he with he | he
        · rcases List.mem_append.mp he with he | he
          · exact .inl he
          · rw [List.mem_singleton.mp he]
            exact .inr ⟨i0, by omega⟩
        · exact .inr he
      · obtain ⟨h1, h2⟩ := std_path r path (i + 1) (by omega) (by omega) x h
        exact ⟨by omega, h2⟩
theorem std_all {P : One → Prop} : ∀ (d : Ms) (path : List Int) (i : Int), d.all P → ∀ x ∈ stdI d path i, ∀ o, x.2 = .one o → P o
  | .nil, _, _, _, x, h, _, _ => by cases h
  | .one o r, path, i, a, x, h, o2, e => by
    have h : x ∈ (path ++ [i], Mk.one o) :: stdI r path (i + 1) := h
    rcases List.mem_cons.mp h with rfl | h
    · cases e
      exact a.1
    · exact std_all r path (i + 1) a.2 x h o2 e
  | .house nm m r, path, i, a, x, h, o2, e => by
    have h : x ∈ (path ++ [i], Mk.house nm m) :: (stdI m (path ++ [i]) 0 ++ stdI r path (i + 1)) := h
    rcases List.mem_cons.mp h with rfl | h
    · cases e
    · rcases List.mem_append.mp h with h | h
      · exact std_all m (path ++ [i]) 0 a.1 x h o2 e
      · exact std_all r path (i + 1) a.2 x h o2 e
theorem std_house : ∀ (d : Ms) (path : List Int) (i : Int), ∀ x ∈ stdI d path i, ∀ nm m2, x.2 = .house nm m2 → m2.dep + 1 ≤ d.dep ∧ m2.cnt + 1 ≤ d.cnt
  | .nil, _, _, x, h, _, _, _ => by cases h
  | .one o r, path, i, x, h, nm, m2, e => by
    have h : x ∈ (path ++ [i], Mk.one o) :: stdI r path (i + 1) := h
    rcases List.mem_cons.mp h with rfl | h
    · cases e
    · obtain ⟨h1, h2⟩ := std_house r path (i + 1) x h nm m2 e
      exact ⟨h1, by show m2.cnt + 1 ≤ 1 + r.cnt; omega⟩
  | .house nm m r, path, i, x, h, nm2, m2, e => by
    have h : x ∈ (path ++ [i], Mk.house nm m) :: (stdI m (path ++ [i]) 0 ++ stdI r path (i + 1)) := h
    show m2.dep + 1 ≤ max (m.dep + 1) r.dep ∧ m2.cnt + 1 ≤ 1 + m.cnt + r.cnt
    rcases List.mem_cons.mp h with rfl | h
    · cases e
      exact ⟨by omega, by omega⟩
    · rcases List.mem_append.mp h with h | h
      · obtain ⟨h1, h2⟩ := std_house m (path ++ [i]) 0 x h nm2 m2 e
        exact ⟨by omega, by omega⟩
      · obtain ⟨h1, h2⟩ := std_house r path (i + 1) x h nm2 m2 e
        exact ⟨by omega, by omega⟩
/-- a pair of a path and a one, as shown -/
theorem shh_pr {many dE dD cD : Nat} {m : Ms} (hm : many ≤ 3) (hE : dE ≤ 8) (hD : dD ≤ 8) (a : m.all (OneOk many dE dD cD)) (hc : m.cnt ≤ 300) (hd : m.dep ≤ 20) : ∀ x ∈ onesI m, ∃ o, x.2 = .one o ∧ OneOk many dE dD cD o ∧ Shh (prD x) (1000 + 3 * wgt dE + 180 * cD) 23 := fun x hx => by
  obtain ⟨h1, h2⟩ := List.mem_filter.mp hx
  obtain ⟨p1, p2⟩ := std_path m [] 0 (by decide) (by omega) x h1
  obtain ⟨pth, k⟩ := x
  cases k with
  | house nm m2 => cases h2
  | one o =>
    have ho := std_all m [] 0 a _ h1 o rfl
    refine ⟨o, rfl, ho, ?_⟩
    have hb : ∀ e ∈ pth, -1000 ≤ e ∧ e ≤ 1000 := fun e he => by
      rcases p2 e he with z | z
      · cases z
      · omega
    have s1 : Shh (.tuple (pth.map PyData.int)) (16 * pth.length) 1 := ((shw_smalls hb).tup).hh (lf_list fun e he => int60 (by have := hb e he; omega))
    have s2 := shh_one hm hE hD ho
    have pl : pth.length ≤ 21 := by
      have p1 : pth.length ≤ 0 + m.dep + 1 := p1
      omega
    exact ((ShhAll.cons s1 (.cons s2 (ShhAll.nil (k := 0)) (k := 22) (by omega) (by omega)) (by omega) (Nat.le_refl _)).tup).mono (by omega) (by omega)
theorem shh_ones {many dE dD cD : Nat} {m : Ms} (hm : many ≤ 3) (hE : dE ≤ 8) (hD : dD ≤ 8) (a : m.all (OneOk many dE dD cD)) (hc : m.cnt ≤ 300) (hd : m.dep ≤ 20) : Shh (.tuple ((onesI m).map prD)) ((1001 + 3 * wgt dE + 180 * cD) * m.cnt) 24 := by
  have h := shh_list (f := prD) (xs := onesI m) (w := 1000 + 3 * wgt dE + 180 * cD) (k := 23) fun x hx => by
    obtain ⟨o, _, _, h⟩ := shh_pr hm hE hD a hc hd x hx
    exact h
  refine h.tup.mono (Nat.mul_le_mul (by omega) ?_) (by decide)
  rw [ones_len]
  exact ao_len m
theorem motes_bnd {many dE dD cD : Nat} {m : Ms} (a : m.all (OneOk many dE dD cD)) (hc : m.cnt ≤ 300) : (motesI m).natAbs.log2 < 1920 := by
  have h0 : ∀ x ∈ (aoI m).map One.motes, 0 ≤ x ∧ x ≤ 3000000000000 := fun x hx => by
    obtain ⟨o, ho, rfl⟩ := List.mem_map.mp hx
    exact (ao_all a o ho).m1
  have h1 := sum_nonneg (ms := (aoI m).map One.motes) fun x hx => (h0 x hx).1
  have h2 := sum_le (B := 3000000000000) (ms := (aoI m).map One.motes) fun x hx => (h0 x hx).2
  rw [List.length_map] at h2
  have h3 := ao_len m
  have h4 : ((aoI m).length : Int) * 3000000000000 ≤ 300 * 3000000000000 := Int.mul_le_mul_of_nonneg_right (by omega) (by decide)
  have h5 : (motesI m).natAbs < 2 ^ 60 := by
    show (((aoI m).map One.motes).sum).natAbs < 2 ^ 60
    omega
  have := PySem.Flt.log2_lt_of (k := 60) (by decide) h5
  omega
theorem w3 : wgt 3 = 420 := rfl
theorem shh_house {many : Nat} {m : Ms} (hm : many ≤ 3) (a : m.all (OneOk many 3 2 10)) (n : m.nms) (hc : m.cnt ≤ 40) (hd : m.dep ≤ 6) : Shh (.tuple [.int (many : Int), .tuple (msD m)]) 200000 60 := by
  have h1 := (shh_ms hm (by decide) (by decide) a n).tup
  rw [w3] at h1
  have h2 : Shh (.int (many : Int)) 60 0 := .int (by omega)
  have h3 := (ShhAll.cons h2 (.cons h1 (ShhAll.nil (k := 0)) (k := 35) (by omega) (by omega)) (by omega) (Nat.le_refl _)).tup
  exact h3.mono (by omega) (by omega)
theorem shh_ones' {many : Nat} {m : Ms} (hm : many ≤ 3) (a : m.all (OneOk many 3 2 10)) (hc : m.cnt ≤ 40) (hd : m.dep ≤ 6) : Shh (.tuple ((onesI m).map prD)) 200000 60 := by
  have h := shh_ones hm (by decide) (by decide) a (by omega) (by omega)
  rw [w3] at h
  exact h.mono (by omega) (by omega)
theorem shh_one' {many : Nat} {o : One} (hm : many ≤ 3) (a : OneOk many 3 2 10 o) : Shh (oneD o) 200000 60 := by
  have h := shh_one hm (by decide) (by decide) a
  rw [w3] at h
  exact h.mono (by omega) (by omega)
def ofOnes : List One → Ms
  | [] => .nil
  | o :: r => .one o (ofOnes r)
theorem ofOnes_cnt : ∀ os, (ofOnes os).cnt = os.length
  | [] => rfl
  | o :: r => by show 1 + (ofOnes r).cnt = r.length + 1; rw [ofOnes_cnt r]; omega
theorem ofOnes_dep : ∀ os, (ofOnes os).dep = 0
  | [] => rfl
  | o :: r => ofOnes_dep r
theorem ofOnes_nms : ∀ os, (ofOnes os).nms
  | [] => trivial
  | o :: r => ofOnes_nms r
theorem ofOnes_all {P : One → Prop} : ∀ {os : List One}, (∀ o ∈ os, P o) → (ofOnes os).all P
  | [], _ => trivial
  | o :: r, h => ⟨h o (by simp), ofOnes_all fun x hx => h x (List.mem_cons_of_mem _ hx)⟩
end NG

namespace NG
open PySem PySem.Spec PyProof.Rows L2
/-! ### xs[i] read ahead of xs[i] += .. -/
theorem get_neg {X : Cx} : PGet X (fun o i H Q => ∃ (p : Addr) (xs : List V) (k : Int) (z : V), o = .ref p ∧ i = .int k ∧ k < 0 ∧ SqL X.K H p xs ∧ atI xs k = some z ∧ Q z H) := by
  intro pins s σ H o i ov iv Q I ro ri h
  obtain ⟨p, xs, k, z, rfl, rfl, hk, hq, he, q⟩ := h
  cases ro
  obtain ⟨t, rfl⟩ := ri
  obtain ⟨its, r, pl, hz⟩ := I.list hq
  obtain ⟨j, h1, h2, h3, h4, h5⟩ := atI_get he
  obtain ⟨w, ew, rw'⟩ := r.get h2
  have hl := r.length
  have hn := line63
  have hj : (k + (its.toArray.size : Int)).toNat = j := by
    rw [seqIndex_neg (by omega) h4] at h1
    rw [List.size_toArray, ← hl]
    exact Option.some.inj h1
  exact wpAny_getItem_list_neg pl.isList hk (by rw [List.size_toArray]; omega) (by omega) (by rw [hj]; simpa using ew) ⟨z, H, I, rw', q⟩
theorem slAK {X : Cx} (K : PySem.W.Frag) (h : X.K = K := by rfl) : SlR X (rSlA K) := by
  subst h
  exact sl_tupA
theorem catAK {X : Cx} (K : PySem.W.Frag) (h : X.K = K := by rfl) : OpR X (binaryOp .Add) (rCatA K) := by
  subst h
  exact op_catA
theorem pilK {X : Cx} (K : PySem.W.Frag) {tg l : Expr} {tl : TE} (hl : PE X l tl) (h : X.K = K := by rfl) : PI X tg l (iList K tl) := by
  subst h
  exact pi_list hl
theorem pitK {X : Cx} (K : PySem.W.Frag) {tg l : Expr} {tl : TE} (hl : PE X l tl) (h : X.K = K := by rfl) : PI X tg l (iTup K tl) := by
  subst h
  exact pi_tup hl
end NG

namespace NG
open PySem PySem.Spec PyProof.Rows L2
/-! ### zip of a tuple with a list -/
def ItTL (K : PySem.W.Frag) (a b : Addr) : It :=
  ⟨fun i H => ∃ (us ws : List V) (u v : V), SqT K H a us ∧ SqL K H b ws ∧ us[i]? = some u ∧ ws[i]? = some v,
   fun i H r H' => ∃ (T : Addr) (u v : V), r = .ref T ∧ H T = none ∧ H' = upd H T (.tup [u, v]) ∧ (∀ us, SqT K H a us → us[i]? = some u) ∧ ∀ ws, SqL K H b ws → ws[i]? = some v,
   fun i H => ∃ us ws : List V, SqT K H a us ∧ SqL K H b ws ∧ min us.length ws.length = i⟩
theorem turn_TL {P : Program} {w : World} {K : PySem.W.Frag} {es : List Expr} {k : Nat} {ps : Pos} {a b z TI TO i1 i2 : Addr} (S : ZipSep2 z TI TO i1 i2 [i1, a] [i2, b]) (na : a ≠ i1) (nb : b ≠ i2) :
    Turn P w K (.Tuple es k ps) (ItTL K a b) [z, TI, TO, i1, i2] z (fun i h => IsZip h z TI TO .none ∧ IsTupOf2 h TI (.ref i1) (.ref i2) ∧ (∃ c d, IsTupOf2 h TO c d) ∧ h.IsTupleIter i1 a i ∧ h.IsListIter i2 b i) := by
  have five : ∀ {c : Addr}, c ∈ [z, TI, TO, i1, i2] → c = z ∨ c = TI ∨ c = TO ∨ c = i1 ∨ c = i2 := fun h => by simpa using h
  have lives : ∀ (i : Nat) (h : Heap), (IsZip h z TI TO .none ∧ IsTupOf2 h TI (.ref i1) (.ref i2) ∧ (∃ c d, IsTupOf2 h TO c d) ∧ h.IsTupleIter i1 a i ∧ h.IsListIter i2 b i) → ∀ c ∈ [z, TI, TO, i1, i2], ∃ o, h.get? c = some o ∧ ∀ v, o.data ≠ .cell v := fun i h st c hc => by
    obtain ⟨s1, s2, ⟨x, y, s3⟩, ⟨o4, s4, _, d4⟩, ⟨o5, s5, _, d5⟩⟩ := st
    rcases five hc with rfl | rfl | rfl | rfl | rfl
    · exact ⟨_, s1, fun v q => nomatch q⟩
    · exact ⟨_, s2, fun v q => nomatch q⟩
    · exact ⟨_, s3, fun v q => nomatch q⟩
    · exact ⟨o4, s4, fun v q => by rw [d4] at q; exact nomatch q⟩
    · exact ⟨o5, s5, fun v q => by rw [d5] at q; exact nomatch q⟩
  refine ⟨List.mem_cons_self, lives, fun i h h' st kp => ?_, fun X eP ew eK hc i pins s σ H E I hf st hg => ?_, fun X eP ew eK hc i pins s σ H E I hf st hg => ?_, fun A i s Q E st q => wpAny_pyIter_zip st.1 q⟩
  · obtain ⟨s1, s2, ⟨x, y, s3⟩, s4, s5⟩ := st
    exact ⟨kp _ (by simp) _ s1, kp _ (by simp) _ s2, ⟨x, y, kp _ (by simp) _ s3⟩, s4.at fun o q => kp _ (by simp) o q, s5.at fun o q => kp _ (by simp) o q⟩
  · cases eP
    cases ew
    cases eK
    have lv := lives i _ st
    obtain ⟨s1, s2, s3, s4, s5⟩ := st
    obtain ⟨us, ws, u, v, qa, qb, hu, hv⟩ := hg
    obtain ⟨la, ra, pa, _⟩ := I.tuple qa
    obtain ⟨lb, rb, pb, _⟩ := I.list qb
    obtain ⟨u', eu, ru⟩ := ra.get hu
    obtain ⟨v', ev', rv⟩ := rb.get hv
    have W := WalksT.zipD2 (A := X.A) S (Draws.tuple (A := X.A.in1) (I.ok.hd hc) i1 a na la.toArray) (Draws.list (prog := X.prog) (w := X.w) (A := X.A.in1) (I.ok.hd hc) i2 b nb lb.toArray)
    have il : i < la.length := (List.getElem?_eq_some_iff.mp eu).1
    have ir : i < lb.length := (List.getElem?_eq_some_iff.mp ev').1
    refine W.item i s _ E (by rw [List.size_toArray, List.size_toArray]; omega) ⟨s1, s2, s3, ⟨s4, pa⟩, ⟨s5, pb.isList⟩⟩ fun T vals h1 tk pv hT tT mid k1 => ⟨_, rfl, ?_⟩
    have apT := W.apart i T h1 mid
    refine W.go es k ps i T _ _ _ mid fun h2 st2 k2 => ?_
    obtain ⟨x1, x2, e1, e2, rfl⟩ := pv
    have f1 : x1 = u' := by
      have := e1.symm.trans (show la.toArray[i]? = some u' by simpa using eu)
      exact Option.some.inj this
    have f2 : x2 = v' := by
      have := e2.symm.trans (show lb.toArray[i]? = some v' by simpa using ev')
      exact Option.some.inj this
    subst f1 f2
    obtain ⟨z1, z2, z3, ⟨z4, _⟩, ⟨z5, _⟩⟩ := st2
    have tT2 : h2.IsTuple T #[x1, x2] := tT.at fun o e => k2 T o apT e
    have in5 : ∀ c, c ∉ [z, TI, TO, i1, i2] → c ∉ [z, TO, i1, i2] := fun c h m => h (by
      rcases (by simpa using m : c = z ∨ c = TO ∨ c = i1 ∨ c = i2) with rfl | rfl | rfl | rfl <;> simp)
    have J := I.turnedNew (h' := h2) (t' := tk) (ch := [z, TI, TO, i1, i2]) (T := T) (ob := .tup [u, v]) (fun c o hb' q => k2 c o (in5 c hb') (k1 c o (in5 c hb') q)) hf hT ⟨(by show 2 ≤ sizeLine; decide), [x1, x2], .cons ru (.cons rv .nil), tT2⟩
    refine ⟨.ref T, _, J, rfl, ⟨T, u, v, rfl, I.hok.fresh hT, rfl, fun l hl => ?_, fun l hl => ?_⟩, ⟨z1, z2, z3, z4, z5⟩, fun c hcm => ?_⟩
    · rw [I.tuple_inj hl qa]
      exact hu
    · rw [I.list_inj hl qb]
      exact hv
    · obtain ⟨o, ho, _⟩ := lv c hcm
      have lt := Heap.lt_size ho
      rw [upd_ne (Nat.ne_of_lt (Nat.lt_of_lt_of_le lt hT))]
      exact (hf c hcm).1
  · cases eP
    cases ew
    cases eK
    obtain ⟨s1, s2, s3, s4, s5⟩ := st
    obtain ⟨us, ws, qa, qb, e1⟩ := hg
    obtain ⟨la, ra, pa, _⟩ := I.tuple qa
    obtain ⟨lb, rb, pb, _⟩ := I.list qb
    have W := WalksT.zipD2 (A := X.A) S (Draws.tuple (A := X.A.in1) (I.ok.hd hc) i1 a na la.toArray) (Draws.list (prog := X.prog) (w := X.w) (A := X.A.in1) (I.ok.hd hc) i2 b nb lb.toArray)
    have l1 := ra.length
    have l2 := rb.length
    have en : min la.toArray.size lb.toArray.size = i := by
      rw [List.size_toArray, List.size_toArray]
      omega
    rw [en] at W
    refine W.done s _ E ⟨s1, s2, s3, ⟨s4, pa⟩, ⟨s5, pb.isList⟩⟩ fun h1 tk k1 => ⟨rfl, ?_⟩
    exact I.turnedL (t' := tk) (ch := [z, TI, TO, i1, i2]) (fun c o hb' q => k1 c o (fun m => hb' (by rcases (by simpa using m : c = z ∨ c = TO ∨ c = i1 ∨ c = i2) with rfl | rfl | rfl | rfl <;> simp)) q) hf
def iZipTL (K : PySem.W.Frag) (ta : TA) : TI := fun σ H R => ta σ H fun vs H1 => ∃ a b us ws, vs = [.ref a, .ref b] ∧ SqT K H1 a us ∧ SqL K H1 b ws ∧ R (ItTL K a b) H1
theorem pi_zipTL {X : Cx} {e e2 : Expr} {ta : TA} {p pos tpos : Pos} {elts : List Expr} {kk : Nat} (hg : Gl X "zip") (hm : X.mg "zip" = none) (ha : PA X [e, e2] ta)
    (hs : starEach [e, e2] X.env = (false, eval e X.env) :: starEach [e2] X.env := by rfl) (hpl : (backTo pos (starEach [e2] X.env)).any (·.1) = false := by rfl) : PI X (.Tuple elts kk tpos) (.Call (.Name "zip" p) [e, e2] [] pos) (iZipTL X.K ta) := by
  refine ⟨fun pins s σ H R I h => Call_ (ld_blt I hg hm PyProof.Rows.boot_zip (PyProof.Rows.callWith_type1 (thn (ha.run pos pins s σ H _ I h) fun us s1 ⟨vs, H1, I1, r1, q1⟩ => ?_) hs hpl))⟩
  obtain ⟨a, b, ul, wl, rfl, qa, qb, q⟩ := q1
  obtain ⟨v1, v2, rfl, t1, t2⟩ := vals2 r1
  cases t1
  cases t2
  obtain ⟨la, ra, pa, _⟩ := I1.tuple qa
  obtain ⟨lb, rb, pb, _⟩ := I1.list qb
  obtain ⟨ob, hob, _⟩ := id pa
  have lt1 : a < s1.heap.objs.size := Heap.lt_size hob
  have lt2 : b < s1.heap.objs.size := pb.lt
  refine zip_begins2 (begins_tuple a la.toArray) (begins_list b lb.toArray) pa pb.isList fun h' hz hTI hTO g1 g2 hsz hk => wpAny_pyIter_zip hz ?_
  have J : Inv X pins σ H1 { s1 with heap := h' } := I1.kept (t' := s1.toks) hk
  have S := zip_sep2 (N := s1.heap.objs.size) (fp1 := [a]) (fp2 := [b]) (fun c hc => by rw [List.mem_singleton.mp hc]; exact lt1) (fun c hc => by rw [List.mem_singleton.mp hc]; exact lt2)
  refine ⟨_, _, _, _, H1, rfl, J, turn_TL S (Nat.ne_of_lt lt1) (Nat.ne_of_lt (Nat.lt_succ_of_lt lt2)), ⟨hz, hTI, ⟨_, _, hTO⟩, ⟨_, g1, rfl, rfl⟩, ⟨_, g2, rfl, rfl⟩⟩, fun c hcm => ?_, q⟩
  have le : s1.heap.objs.size ≤ c := by
    rcases (by simpa using hcm : c = s1.heap.objs.size + 4 ∨ c = s1.heap.objs.size + 2 ∨ c = s1.heap.objs.size + 3 ∨ c = s1.heap.objs.size ∨ c = s1.heap.objs.size + 1) with e | e | e | e | e <;> (rw [e]; first | exact Nat.le_refl _ | exact Nat.le_add_right _ _)
  exact I1.fpOk le (I1.hok.fresh le)
theorem walk_TLm {K : PySem.W.Frag} {a b : Addr} {us ws : List V} {n : Nat} (hn : min us.length ws.length = n) : Walk (ItTL K a b) n (fun H => SqT K H a us ∧ SqL K H b ws) (YPair (fun i => us[i]?) (fun i => ws[i]?)) := by
  refine ⟨fun i H hi q => ⟨us, ws, us[i]'(by omega), ws[i]'(by omega), q.1, q.2, List.getElem?_eq_getElem _, List.getElem?_eq_getElem _⟩, fun H q => ⟨us, ws, q.1, q.2, hn⟩, fun i H v H' hi q y => ?_⟩
  obtain ⟨T, x, z, h1, h2, h3, h4, h5⟩ := y
  exact ⟨T, x, z, h1, h2, h3, h4 us q.1, h5 ws q.2⟩
theorem walk_TL {K : PySem.W.Frag} {a b : Addr} {us ws : List V} {n : Nat} (hx : us.length = n) (hy : ws.length = n) : Walk (ItTL K a b) n (fun H => SqT K H a us ∧ SqL K H b ws) (YPair (fun i => us[i]?) (fun i => ws[i]?)) := walk_TLm (by omega)
theorem tupK {X : Cx} (K : PySem.W.Frag) {a : Expr} {ta : TE} {p pos : Pos} (hg : Gl X "tuple") (hm : X.mg "tuple" = none) (ha : PE X a ta) (na : starEach [a] X.env = (false, eval a X.env) :: starEach [] X.env := by rfl) (h : X.K = K := by rfl) :
    PE X (.Call (.Name "tuple" p) [a] [] pos) (tThen ta (kTup K)) := by
  subst h
  exact pe_tupleOf hg hm ha na
/-! ### max of a tuple of ints -/
def rMaxT (K : PySem.W.Frag) : List V → Hp → VK → Prop := fun vs H Q => ∃ (a : Addr) (n : Int) (ns : List Int), vs = [V.ref a] ∧ SqT K H a ((n :: ns).map V.int) ∧ Q (.int (ns.foldl max n)) H
theorem depth_ints : ∀ ns : List Int, PyData.depthAll (ns.map PyData.int) = 0
  | [] => rfl
  | n :: r => by
    rw [List.map_cons]
    show max (PyData.depth (.int n)) (PyData.depthAll (r.map PyData.int)) = 0
    rw [depth_ints r]
    rfl
theorem cr_maxT {X : Cx} (hc : X.calm = true) (hu : X.A.units + 64 < cLine) : CallR X (.builtin "max") (rMaxT X.K) := by
  intro pins s σ H vs us Q I r h
  obtain ⟨a, n, ns, rfl, hs, q⟩ := h
  obtain ⟨its, rv, p, _⟩ := I.tuple hs
  rw [Vals.ref1 r]
  obtain ⟨as, hr⟩ := Dp.readsAll I ((n :: ns).map PyData.int) _ its (dp_ints (n :: ns)) rv
  rw [List.map_cons] at hr
  have al : PySem.W.AlikeAll (PyData.int n :: ns.map PyData.int) := ⟨fun x hx y hy => by
    rw [← List.map_cons (f := PyData.int)] at hx hy
    obtain ⟨i, _, rfl⟩ := List.mem_map.mp hx
    obtain ⟨j, _, rfl⟩ := List.mem_map.mp hy
    rfl, fun x hx => by
    rw [← List.map_cons (f := PyData.int)] at hx
    obtain ⟨i, _, rfl⟩ := List.mem_map.mp hx
    exact fun e => nomatch e⟩
  refine PySem.W.max_tuple_data (I.ok.hd hc) p (by simpa using hr) al (by rw [← List.map_cons (f := PyData.int), depth_ints]; omega) fun i v h' tk bs _ rd hk => ?_
  rw [PySem.W.maxD_ints] at rd
  cases rd
  exact ⟨.int _, H, I.kept hk, ⟨_, rfl⟩, q⟩
theorem foldl_max_spec : ∀ (ns : List Int) (n : Int), (n ≤ ns.foldl max n ∧ ∀ x ∈ ns, x ≤ ns.foldl max n) ∧ (ns.foldl max n = n ∨ ns.foldl max n ∈ ns)
  | [], n => ⟨⟨Int.le_refl _, fun _ h => absurd h (by simp)⟩, .inl rfl⟩
  | k :: r, n => by
    rw [List.foldl_cons]
    obtain ⟨⟨h1, h2⟩, h3⟩ := foldl_max_spec r (max n k)
    have e1 : n ≤ max n k := Int.le_max_left ..
    have e2 : k ≤ max n k := Int.le_max_right ..
    refine ⟨⟨Int.le_trans e1 h1, fun x hx => ?_⟩, ?_⟩
    · rcases List.mem_cons.mp hx with rfl | hx
      · exact Int.le_trans e2 h1
      · exact h2 x hx
    · rcases h3 with h3 | h3
      · rw [h3]
        by_cases c : n ≤ k
        · rw [Int.max_eq_right c]
          exact .inr (by simp)
        · rw [Int.max_eq_left (by omega)]
          exact .inl rfl
      · exact .inr (List.mem_cons_of_mem _ h3)
/-! ### gains -/
def dotI (ss ps : List Int) : Int := (List.zipWith (· * ·) ss ps).sum
def gainI (ss ps : List Int) (p : Int) : Int := ss.sum * p - dotI ss ps
def rightI (ss ps : List Int) (g : Int) : Bool := (List.zipWith (fun s p => (s == 0 || p == g)) ss ps).all id
theorem dot_lin (c d : Int) : ∀ ss ps : List Int, ss.length = ps.length → dotI ss (ps.map fun p => c * p - d) = c * dotI ss ps - d * ss.sum
  | [], [], _ => by simp [dotI]
  | s :: ss, p :: ps, h => by
    have ih := dot_lin c d ss ps (by simpa using h)
    unfold dotI at ih ⊢
    rw [List.map_cons, List.zipWith_cons_cons, List.zipWith_cons_cons, List.sum_cons, List.sum_cons, List.sum_cons, ih, Int.mul_add, Int.mul_add]
    have e1 : s * (c * p - d) = c * (s * p) - d * s := by rw [Int.mul_sub, Int.mul_left_comm, Int.mul_comm s d]
    omega
theorem gains_nought (ss ps : List Int) (h : ss.length = ps.length) : dotI ss (ps.map (gainI ss ps)) = 0 := by
  show dotI ss (ps.map fun p => ss.sum * p - dotI ss ps) = 0
  rw [dot_lin _ _ _ _ h, Int.mul_comm]
  omega
theorem dot_gap (g : Int) : ∀ ss ps : List Int, ss.length = ps.length → (∀ s ∈ ss, 0 ≤ s) → (∀ p ∈ ps, p ≤ g) → dotI ss ps ≤ ss.sum * g ∧ (dotI ss ps = ss.sum * g ↔ rightI ss ps g = true)
  | [], [], _, _, _ => by simp [dotI, rightI]
  | s :: ss, p :: ps, h, hs, hp => by
    obtain ⟨i1, i2⟩ := dot_gap g ss ps (by simpa using h) (fun x hx => hs x (List.mem_cons_of_mem _ hx)) (fun x hx => hp x (List.mem_cons_of_mem _ hx))
    have s0 := hs s (by simp)
    have p0 := hp p (by simp)
    have e : (List.zipWith (fun x1 x2 => x1 * x2) (s :: ss) (p :: ps)).sum = s * p + dotI ss ps := by
      rw [List.zipWith_cons_cons, List.sum_cons]
      rfl
    have er : rightI (s :: ss) (p :: ps) g = ((s == 0 || p == g) && rightI ss ps g) := rfl
    have m : s * p ≤ s * g := Int.mul_le_mul_of_nonneg_left p0 s0
    have es : (s :: ss).sum * g = s * g + ss.sum * g := by rw [List.sum_cons, Int.add_mul]
    have ed : dotI (s :: ss) (p :: ps) = s * p + dotI ss ps := e
    rw [es, ed, er]
    refine ⟨by omega, ?_⟩
    have eq : s * p = s * g ↔ (s == 0 || p == g) = true := by
      rw [Bool.or_eq_true, beq_iff_eq, beq_iff_eq]
      constructor
      · intro q
        by_cases z : s = 0
        · exact .inl z
        · exact .inr (Int.eq_of_mul_eq_mul_left z q)
      · rintro (rfl | rfl)
        · rw [Int.zero_mul, Int.zero_mul]
        · rfl
    rw [Bool.and_eq_true, ← i2, ← eq]
    omega
/-- who is right: just where the greatest gain is at most 0 -/
theorem right_iff {ss ps : List Int} {g m : Int} (h : ss.length = ps.length) (hs : ∀ s ∈ ss, 0 ≤ s) (h0 : 0 < ss.sum) (hg : g ∈ ps) (hp : ∀ p ∈ ps, p ≤ g) (hm : m ∈ ps.map (gainI ss ps)) (hx : ∀ y ∈ ps.map (gainI ss ps), y ≤ m) : rightI ss ps g = decide (m ≤ 0) := by
  obtain ⟨g1, g2⟩ := dot_gap g ss ps h hs hp
  obtain ⟨p, hpm, rfl⟩ := List.mem_map.mp hm
  have k1 := hx (gainI ss ps g) (List.mem_map_of_mem hg)
  have k2 : ss.sum * p ≤ ss.sum * g := Int.mul_le_mul_of_nonneg_left (hp p hpm) (Int.le_of_lt h0)
  unfold gainI at k1 ⊢
  rw [Bool.eq_iff_iff, ← g2, decide_eq_true_iff]
  constructor
  · intro e
    omega
  · intro e
    omega
end NG

namespace NG
open PySem PySem.Spec PyProof.Rows L2
/-! ### rough numbers -/
def bl (n : Nat) : Nat := if n = 0 then 0 else n.log2 + 1
theorem bl_eq (n : Nat) : Builtin.Int.intBits (n : Int) = bl n := by
  unfold Builtin.Int.intBits bl
  rw [Int.natAbs_natCast]
  by_cases h : n = 0
  · subst h
    rfl
  · rw [if_neg h, if_neg (by simpa using h)]
theorem lt_bl (n : Nat) : n < 2 ^ bl n := by
  unfold bl
  by_cases h : n = 0
  · subst h
    decide
  · rw [if_neg h]
    exact Nat.lt_log2_self
theorem bl_le {n k : Nat} (h : n < 2 ^ k) : bl n ≤ k := by
  unfold bl
  by_cases h0 : n = 0
  · rw [if_pos h0]
    exact Nat.zero_le _
  · rw [if_neg h0]
    exact (Nat.log2_lt h0).mpr h
theorem pow_bl {n : Nat} (h : n ≠ 0) : 2 ^ (bl n - 1) ≤ n ∧ 1 ≤ bl n := by
  unfold bl
  rw [if_neg h]
  exact ⟨Nat.log2_self_le h, by omega⟩
def cd (h s : Nat) : Nat := (h + 2 ^ s - 1) / 2 ^ s
theorem cd_cast (h s : Nat) : -(-(h : Int) / 2 ^ s) = ((cd h s : Nat) : Int) := by
  have hp : 0 < 2 ^ s := Nat.pow_pos (by decide)
  have e : (2 : Int) ^ s = ((2 ^ s : Nat) : Int) := by push_cast; rfl
  rw [e]
  unfold cd
  generalize 2 ^ s = p at hp
  have d1 := Nat.div_add_mod (h + p - 1) p
  have d2 := Nat.mod_lt (h + p - 1) hp
  generalize (h + p - 1) / p = q at *
  generalize (h + p - 1) % p = r at *
  have key : -(h : Int) / (p : Int) = -(q : Int) := by
    have a1 : -(q : Int) ≤ -(h : Int) / (p : Int) := by
      rw [Int.le_ediv_iff_mul_le (by omega)]
      have : (h : Int) ≤ (q : Int) * (p : Int) := by
        have z : h ≤ p * q := by omega
        have z2 : ((p * q : Nat) : Int) = (q : Int) * (p : Int) := by push_cast; exact Int.mul_comm _ _
        omega
      rw [Int.neg_mul]
      omega
    have a2 : -(h : Int) / (p : Int) < -(q : Int) + 1 := by
      rw [Int.ediv_lt_iff_lt_mul (by omega), Int.add_mul, Int.neg_mul, Int.one_mul]
      have z2 : ((p * q : Nat) : Int) = (q : Int) * (p : Int) := by push_cast; exact Int.mul_comm _ _
      omega
    omega
  rw [key]
  omega
abbrev Rg := Nat × Nat × Nat
structure Rgh (L bits x : Nat) (r : Rg) : Prop where
  lo : r.1 * 2 ^ r.2.2 ≤ x
  hi : x ≤ r.2.1 * 2 ^ r.2.2
  le : r.1 ≤ r.2.1
  sz : r.2.1 ≤ 2 ^ bits
  ex : L ≤ bits → r = (x, x, 0)
def trimR (lo hi sh bits : Nat) : Rg := (lo / 2 ^ (bl hi - bits), cd hi (bl hi - bits), sh + (bl hi - bits))
theorem trim_ok {L bits x lo hi sh : Nat} (h1 : lo * 2 ^ sh ≤ x) (h2 : x ≤ hi * 2 ^ sh) (h3 : lo ≤ hi) (hx : x < 2 ^ L) (ex : L ≤ bits → lo = x ∧ hi = x ∧ sh = 0) : Rgh L bits x (trimR lo hi sh bits) := by
  unfold trimR
  have hb := lt_bl hi
  generalize hs : bl hi - bits = s
  have hp : 0 < 2 ^ s := Nat.pow_pos (by decide)
  have d1 := Nat.div_add_mod (hi + 2 ^ s - 1) (2 ^ s)
  have d2 := Nat.mod_lt (hi + 2 ^ s - 1) hp
  have hc : hi ≤ cd hi s * 2 ^ s := by
    unfold cd
    rw [Nat.mul_comm]
    omega
  refine ⟨?_, ?_, ?_, ?_, ?_⟩
  · show lo / 2 ^ s * 2 ^ (sh + s) ≤ x
    rw [Nat.add_comm, Nat.pow_add, ← Nat.mul_assoc]
    exact Nat.le_trans (Nat.mul_le_mul_right _ (Nat.div_mul_le_self lo (2 ^ s))) h1
  · show x ≤ cd hi s * 2 ^ (sh + s)
    rw [Nat.add_comm, Nat.pow_add, ← Nat.mul_assoc]
    exact Nat.le_trans h2 (Nat.mul_le_mul_right _ hc)
  · show lo / 2 ^ s ≤ cd hi s
    exact Nat.div_le_div_right (by omega)
  · show cd hi s ≤ 2 ^ bits
    have : hi < 2 ^ bits * 2 ^ s := by
      rw [← Nat.pow_add]
      exact Nat.lt_of_lt_of_le hb (Nat.pow_le_pow_right (by decide) (by omega))
    unfold cd
    rw [← Nat.lt_succ_iff, Nat.div_lt_iff_lt_mul hp, Nat.succ_mul]
    omega
  · intro hL
    obtain ⟨rfl, rfl, rfl⟩ := ex hL
    have := bl_le hx
    have e0 : s = 0 := by omega
    subst e0
    unfold cd
    simp
def timesR (a b : Rg) (bits : Nat) : Rg := trimR (a.1 * b.1) (a.2.1 * b.2.1) (a.2.2 + b.2.2) bits
theorem times_ok {L bits x y : Nat} {a b : Rg} (ha : Rgh L bits x a) (hb : Rgh L bits y b) (h : x * y < 2 ^ L) : Rgh L bits (x * y) (timesR a b bits) := by
  refine trim_ok ?_ ?_ (Nat.mul_le_mul ha.le hb.le) h ?_
  · rw [Nat.pow_add, show a.1 * b.1 * (2 ^ a.2.2 * 2 ^ b.2.2) = (a.1 * 2 ^ a.2.2) * (b.1 * 2 ^ b.2.2) by grind]
    exact Nat.mul_le_mul ha.lo hb.lo
  · rw [Nat.pow_add, show a.2.1 * b.2.1 * (2 ^ a.2.2 * 2 ^ b.2.2) = (a.2.1 * 2 ^ a.2.2) * (b.2.1 * 2 ^ b.2.2) by grind]
    exact Nat.mul_le_mul ha.hi hb.hi
  · intro hL
    rw [ha.ex hL, hb.ex hL]
    exact ⟨rfl, rfl, rfl⟩
theorem one_ok {L bits : Nat} : Rgh L bits 1 (1, 1, 0) := ⟨by decide, by decide, by decide, Nat.pow_pos (by decide), fun _ => rfl⟩
theorem plain_ok {L bits x : Nat} (h : x < 2 ^ L) : Rgh L bits x (trimR x x 0 bits) := trim_ok (by simp) (by simp) (Nat.le_refl _) h fun _ => ⟨rfl, rfl, rfl⟩
/-- n * 2 ^ s > m * 2 ^ t -/
def abv (n s m t : Nat) : Bool := decide (m * 2 ^ t < n * 2 ^ s)
theorem abv_zero {n s m t : Nat} (h : n = 0 ∨ m = 0) : abv n s m t = decide (m < n) := by
  unfold abv
  have hs : 0 < 2 ^ s := Nat.pow_pos (by decide)
  rcases h with rfl | rfl
  · rw [decide_eq_false (by omega), decide_eq_false (by omega)]
  · by_cases hn : n = 0
    · subst hn
      rw [decide_eq_false (by omega), decide_eq_false (by omega)]
    · have : 0 < n * 2 ^ s := Nat.mul_pos (by omega) hs
      rw [decide_eq_true (by omega), decide_eq_true (by omega)]
theorem abv_size {n s m t : Nat} (hn : n ≠ 0) (hm : m ≠ 0) (h : bl n + s ≠ bl m + t) : abv n s m t = decide (bl m + t < bl n + s) := by
  have key : ∀ {n s m t : Nat}, n ≠ 0 → bl m + t < bl n + s → m * 2 ^ t < n * 2 ^ s := fun {n s m t} hn h => by
    have h1 := lt_bl m
    obtain ⟨h2, h3⟩ := pow_bl hn
    have a1 : m * 2 ^ t < 2 ^ (bl m + t) := by
      rw [Nat.pow_add]
      exact (Nat.mul_lt_mul_right (Nat.pow_pos (by decide))).mpr h1
    have a2 : 2 ^ (bl n - 1 + s) ≤ n * 2 ^ s := by
      rw [Nat.pow_add]
      exact Nat.mul_le_mul_right _ h2
    have a3 : (2 : Nat) ^ (bl m + t) ≤ 2 ^ (bl n - 1 + s) := Nat.pow_le_pow_right (by decide) (by omega)
    omega
  unfold abv
  by_cases c : bl m + t < bl n + s
  · rw [decide_eq_true (key hn c), decide_eq_true c]
  · have := key (n := m) (s := t) (m := n) (t := s) hm (by omega)
    rw [decide_eq_false (by omega), decide_eq_false c]
theorem abv_shift {n s m t : Nat} : abv n s m t = decide (m * 2 ^ (t - min s t) < n * 2 ^ (s - min s t)) := by
  unfold abv
  have e : ∀ a k l : Nat, l ≤ k → a * 2 ^ k = a * 2 ^ (k - l) * 2 ^ l := fun a k l h => by
    rw [Nat.mul_assoc, ← Nat.pow_add, Nat.sub_add_cancel h]
  rw [e m t (min s t) (Nat.min_le_right _ _), e n s (min s t) (Nat.min_le_left _ _)]
  have hp : 0 < 2 ^ min s t := Nat.pow_pos (by decide)
  rw [decide_eq_decide]
  exact Nat.mul_lt_mul_right hp
def cmpR (a b : Rg) : Int := if abv a.1 a.2.2 b.2.1 b.2.2 = true then 1 else if abv a.2.1 a.2.2 b.1 b.2.2 = true then 0 else -1
theorem cmp_ok {L bits x y : Nat} {a b : Rg} (ha : Rgh L bits x a) (hb : Rgh L bits y b) : (cmpR a b = 1 ∧ y < x) ∨ (cmpR a b = -1 ∧ x ≤ y) ∨ (cmpR a b = 0 ∧ bits < L) := by
  unfold cmpR
  by_cases c : abv a.1 a.2.2 b.2.1 b.2.2 = true
  · rw [if_pos c]
    unfold abv at c
    have c := of_decide_eq_true c
    have := ha.lo
    have := hb.hi
    exact .inl ⟨rfl, by omega⟩
  · rw [if_neg c]
    by_cases d : abv a.2.1 a.2.2 b.1 b.2.2 = true
    · rw [if_pos d]
      refine .inr (.inr ⟨rfl, ?_⟩)
      by_cases hL : L ≤ bits
      · rw [ha.ex hL, hb.ex hL] at c d
        exact absurd d c
      · omega
    · rw [if_neg d]
      unfold abv at d
      have d : ¬ (b.1 * 2 ^ b.2.2 < a.2.1 * 2 ^ a.2.2) := fun z => d (decide_eq_true z)
      have := ha.hi
      have := hb.lo
      exact .inr (.inl ⟨rfl, by omega⟩)

/-! ### the greatest off -/
def tkN (far days w j : Nat) : Nat := (500 + far) ^ j * (500 - far) ^ (2 * days - j) * (w * w)
def gvN (days held : Nat) : Nat := 500 ^ (2 * days) * (held * held)
def bornN (far days w held j : Nat) : Bool := decide (tkN far days w j ≤ gvN days held)
theorem tk_up {far days w j : Nat} (h : j < 2 * days) : tkN far days w j ≤ tkN far days w (j + 1) := by
  unfold tkN
  refine Nat.mul_le_mul_right _ ?_
  rw [show 2 * days - j = 2 * days - (j + 1) + 1 by omega, Nat.pow_succ, Nat.pow_succ]
  rw [show (500 + far) ^ j * ((500 - far) ^ (2 * days - (j + 1)) * (500 - far)) = (500 + far) ^ j * (500 - far) * (500 - far) ^ (2 * days - (j + 1)) by grind]
  exact Nat.mul_le_mul_right _ (Nat.mul_le_mul_left _ (by omega))
theorem tk_mono {far days w i : Nat} : ∀ {k : Nat}, i + k ≤ 2 * days → tkN far days w i ≤ tkN far days w (i + k)
  | 0, _ => Nat.le_refl _
  | k + 1, h => Nat.le_trans (tk_mono (k := k) (by omega)) (tk_up (by omega))
theorem born_down {far days w held i j : Nat} (hij : i ≤ j) (hj : j ≤ 2 * days) (h : bornN far days w held j = true) : bornN far days w held i = true := by
  unfold bornN at *
  have h := of_decide_eq_true h
  have := tk_mono (far := far) (days := days) (w := w) (i := i) (k := j - i) (by omega)
  rw [show i + (j - i) = j by omega] at this
  exact decide_eq_true (by omega)
def lastJ (P : Nat → Bool) : Nat → Option Nat
  | 0 => none
  | n + 1 => if P n = true then some n else lastJ P n
theorem lastJ_none {P : Nat → Bool} : ∀ {n : Nat}, (∀ j, j < n → P j = false) → lastJ P n = none
  | 0, _ => rfl
  | n + 1, h => by
    unfold lastJ
    rw [if_neg (by rw [h n (by omega)]; exact Bool.false_ne_true)]
    exact lastJ_none fun j hj => h j (by omega)
theorem lastJ_some {P : Nat → Bool} {l : Nat} (hl : P l = true) : ∀ {n : Nat}, l < n → (∀ j, l < j → j < n → P j = false) → lastJ P n = some l
  | 0, h, _ => by omega
  | n + 1, h, hj => by
    unfold lastJ
    by_cases e : l = n
    · subst e
      rw [if_pos hl]
    · rw [if_neg (by rw [hj n (by omega) (by omega)]; exact Bool.false_ne_true)]
      exact lastJ_some hl (by omega) fun j h1 h2 => hj j h1 (by omega)
def moI (far days w held : Nat) : Option Nat := lastJ (bornN far days w held) (2 * days + 1)
def moV (days : Nat) : Option Nat → V
  | none => .non
  | some j => .int ((j : Int) - (days : Int))
theorem mo_none {far days w held : Nat} (h : bornN far days w held 0 = false) : moI far days w held = none := lastJ_none fun j hj => by
  by_cases c : bornN far days w held j = true
  · rw [born_down (Nat.zero_le j) (by omega) c] at h
    cases h
  · simpa using c
theorem mo_some {far days w held l : Nat} (hl : l ≤ 2 * days) (h : bornN far days w held l = true) (hn : l = 2 * days ∨ bornN far days w held (l + 1) = false) : moI far days w held = some l := by
  refine lastJ_some h (by omega) fun j h1 h2 => ?_
  rcases hn with e | e
  · omega
  · by_cases c : bornN far days w held j = true
    · rw [born_down (i := l + 1) (by omega) (by omega) c] at e
      cases e
    · simpa using c
/-! ### sizes -/
theorem pow_size {b e k : Nat} (hb : b < 2 ^ k) : b ^ e ≤ 2 ^ (k * e) := by
  rw [Nat.pow_mul]
  exact Nat.pow_le_pow_left (Nat.le_of_lt hb) e
def LL : Nat := 25000
theorem pw_size {b e : Nat} (hb : b < 1024) (he : e ≤ 2000) : b ^ e ≤ 2 ^ 20000 := by
  have h := pow_size (b := b) (e := e) (k := 10) hb
  exact Nat.le_trans h (Nat.pow_le_pow_right (by decide) (by omega))
theorem size_lt {a b : Nat} (h : a < b) : (2 : Nat) ^ a < 2 ^ b := Nat.pow_lt_pow_right (by decide) h
theorem pw_LL {b e : Nat} (hb : b < 1024) (he : e ≤ 2000) : b ^ e < 2 ^ LL := Nat.lt_of_le_of_lt (pw_size hb he) (size_lt (by decide))

/-! ### on the heap -/
def RgAt (K : PySem.W.Frag) (H : Hp) (r : Rg) (v : V) : Prop := ∃ p, v = .ref p ∧ SqT K H p [.int (r.1 : Int), .int (r.2.1 : Int), .int (r.2.2 : Int)]
theorem RgAt.same {K : PySem.W.Frag} {H H' : Hp} {x : Rg} {v : V} (r : RgAt K H x v) (s : Same H H') : RgAt K H' x v := by
  obtain ⟨p, e, q⟩ := r
  exact ⟨p, e, same_sqt s q⟩
def spTrim (K : PySem.W.Frag) : Sp := fun vs H Q _ => ∃ lo hi sh bits : Nat, vs = [.int (lo : Int), .int (hi : Int), .int (sh : Int), .int (bits : Int)] ∧ ∀ H' v, Same H H' → RgAt K H' (trimR lo hi sh bits) v → Q v H'
def spTimes (K : PySem.W.Frag) : Sp := fun vs H Q _ => ∃ (u v : V) (a b : Rg) (bits : Nat), vs = [u, v, .int (bits : Int)] ∧ RgAt K H a u ∧ RgAt K H b v ∧ bits ≤ 200000 ∧ a.1 ≤ a.2.1 ∧ b.1 ≤ b.2.1 ∧ a.2.1 ≤ 2 ^ bits ∧ b.2.1 ≤ 2 ^ bits ∧ ∀ H' v, Same H H' → RgAt K H' (timesR a b bits) v → Q v H'
def spRPower (K : PySem.W.Frag) : Sp := fun vs H Q _ => ∃ b e bits : Nat, vs = [.int (b : Int), .int (e : Int), .int (bits : Int)] ∧ b < 1024 ∧ e ≤ 1000 ∧ bits ≤ 200000 ∧ ∀ H' v r, Same H H' → RgAt K H' r v → Rgh LL bits (b ^ e) r → Q v H'
def spAbove : Sp := fun vs H Q _ => ∃ n s m t : Nat, vs = [.int (n : Int), .int (s : Int), .int (m : Int), .int (t : Int)] ∧ n < 2 ^ 300000 ∧ m < 2 ^ 300000 ∧ Q (.bl (abv n s m t)) H
def spCompared (K : PySem.W.Frag) : Sp := fun vs H Q _ => ∃ (u v : V) (a b : Rg), vs = [u, v] ∧ RgAt K H a u ∧ RgAt K H b v ∧ a.1 ≤ a.2.1 ∧ b.1 ≤ b.2.1 ∧ a.2.1 < 2 ^ 300000 ∧ b.2.1 < 2 ^ 300000 ∧ Q (.int (cmpR a b)) H
structure OffOk (far days w held : Nat) : Prop where
  f : far ≤ 500
  d : days ≤ 500
  w : w < 2 ^ 64
  h : held < 2 ^ 64
def spWithin (K : PySem.W.Frag) : Sp := fun vs H Q _ => ∃ far days w held j bits : Nat, vs = [.int (far : Int), .int (days : Int), .int (w : Int), .int (held : Int), .int ((j : Int) - (days : Int)), .int (bits : Int)] ∧ OffOk far days w held ∧ j ≤ 2 * days ∧ bits ≤ 200000 ∧
  ∀ H' c, Same H H' → ((c = 1 ∧ bornN far days w held j = false) ∨ (c = -1 ∧ bornN far days w held j = true) ∨ (c = 0 ∧ bits < LL)) → Q (.int c) H'
def spSureIn (K : PySem.W.Frag) : Sp := fun vs H Q _ => ∃ far days w held j : Nat, vs = [.int (far : Int), .int (days : Int), .int (w : Int), .int (held : Int), .int ((j : Int) - (days : Int))] ∧ OffOk far days w held ∧ j ≤ 2 * days ∧
  ∀ H', Same H H' → Q (.bl (bornN far days w held j)) H'
def spMostOff (K : PySem.W.Frag) : Sp := fun vs H Q _ => ∃ far days w held : Nat, vs = [.int (far : Int), .int (days : Int), .int (w : Int), .int (held : Int)] ∧ OffOk far days w held ∧ ∀ H', Same H H' → Q (moV days (moI far days w held)) H'
end NG

namespace NG
open PySem PySem.Spec PyProof.Rows L2
/-! ### comprehensions of two for -/
theorem lc2_tup {K : PySem.W.Frag} {a : Addr} {xs : List V} {g : TG} {tt : TT} {B : L2.St → Hp → (Hp → Prop) → Prop} {vs : List Nat} {σ : L2.St} {H1 : Hp} {D : Addr} {Qd : Hp → Prop} (Pv : Nat → Hp → Prop) (h0 : Pv 0 (upd H1 D (.lst []))) (hl : ∀ i H, i ≤ xs.length → Pv i H → SqT K H a xs)
    (hs : ∀ i x H, xs[i]? = some x → Pv i H → g x (wipe σ vs) H fun σ2 H2 => wipe σ2 vs = wipe σ vs ∧ tt σ2 H2 fun b H3 => if b = true then B σ2 H3 (Pv (i + 1)) else Pv (i + 1) H3) (hd : ∀ H, Pv xs.length H → Qd H) :
    ∃ W : Nat → Nat → Hp → Prop, (∃ m, W 0 m (upd H1 D (.lst []))) ∧ ∀ i m H, W i m H →
      ((Itt K a).stop i H ∧ Qd H) ∨ ((Itt K a).go i H ∧ ∃ Nx : Hp → Prop, (∀ H', Nx H' → ∃ m', m' < m ∧ W (i + 1) m' H') ∧ ∀ x H', (Itt K a).yld i H x H' → g x (wipe σ vs) H' fun σ2 H2 => wipe σ2 vs = wipe σ vs ∧ tt σ2 H2 fun b H3 =>
        if b = true then B σ2 H3 Nx else Nx H3) := by
  refine ⟨fun i m H => m = xs.length - i ∧ i ≤ xs.length ∧ Pv i H, ⟨xs.length, by simp, Nat.zero_le _, h0⟩, ?_⟩
  rintro i m H ⟨rfl, hi, p⟩
  have q := hl i H hi p
  by_cases hlt : i < xs.length
  · refine .inr ⟨⟨xs, xs[i], q, by simp [hlt]⟩, Pv (i + 1), fun H' p' => ⟨xs.length - (i + 1), by omega, rfl, hlt, p'⟩, fun x H' y => ?_⟩
    obtain ⟨e, y⟩ := y
    subst e
    exact hs i x _ (y xs q) p
  · have e : i = xs.length := by omega
    subst e
    exact .inl ⟨⟨xs, q, Nat.le_refl _⟩, hd H p⟩
theorem in_tup {K : PySem.W.Frag} {a : Addr} {xs : List V} {g : TG} {tt : TT} {te : TE} {vs : List Nat} {σ : L2.St} {H1 : Hp} {D : Addr} {Qd : Hp → Prop} (Pv : Nat → Hp → Prop) (h0 : Pv 0 H1) (hl : ∀ i H, i ≤ xs.length → Pv i H → SqT K H a xs)
    (hs : ∀ i x H, xs[i]? = some x → Pv i H → g x (wipe σ vs) H fun σ2 H2 => wipe σ2 vs = wipe σ vs ∧ tt σ2 H2 fun b H3 =>
      if b = true then te σ2 H3 fun y H4 => ∃ acc, H4 D = some (.lst acc) ∧ acc.length < sizeLine ∧ Pv (i + 1) (upd H4 D (.lst (acc ++ [y]))) else Pv (i + 1) H3) (hd : ∀ H, Pv xs.length H → Qd H) :
    ∃ W : Nat → Nat → Hp → Prop, (∃ m, W 0 m H1) ∧ ∀ i m H, W i m H →
      ((Itt K a).stop i H ∧ Qd H) ∨ ((Itt K a).go i H ∧ ∃ Nx : Hp → Prop, (∀ H', Nx H' → ∃ m', m' < m ∧ W (i + 1) m' H') ∧ ∀ x H', (Itt K a).yld i H x H' → g x (wipe σ vs) H' fun σ2 H2 => wipe σ2 vs = wipe σ vs ∧ tt σ2 H2 fun b H3 =>
        if b = true then te σ2 H3 fun y H4 => ∃ acc, H4 D = some (.lst acc) ∧ acc.length < sizeLine ∧ Nx (upd H4 D (.lst (acc ++ [y]))) else Nx H3) := by
  refine ⟨fun i m H => m = xs.length - i ∧ i ≤ xs.length ∧ Pv i H, ⟨xs.length, by simp, Nat.zero_le _, h0⟩, ?_⟩
  rintro i m H ⟨rfl, hi, p⟩
  have q := hl i H hi p
  by_cases hlt : i < xs.length
  · refine .inr ⟨⟨xs, xs[i], q, by simp [hlt]⟩, Pv (i + 1), fun H' p' => ⟨xs.length - (i + 1), by omega, rfl, hlt, p'⟩, fun x H' y => ?_⟩
    obtain ⟨e, y⟩ := y
    subst e
    exact hs i x _ (y xs q) p
  · have e : i = xs.length := by omega
    subst e
    exact .inl ⟨⟨xs, q, Nat.le_refl _⟩, hd H p⟩
/-! ### max of three ints -/
theorem cr_max3 {X : Cx} (hc : X.calm = true) : CallR X (.builtin "max") (fun xs H Q => ∃ i j k : Int, xs = [.int i, .int j, .int k] ∧ Q (.int (mx (mx i j) k)) H) := by
  intro pins s σ H xs us Q I r h
  obtain ⟨i, j, k, rfl, q⟩ := h
  refine call_max3Nu hc pins s σ H _ us Q I r ⟨_, _, _, _, rfl, ?_, q⟩
  have e2 : ∀ a b : Int, nuMax2 (.int a) (.int b) = some (.int (mx a b)) := fun a b => by
    show (some (decide (a < b))).map (fun c => if c = true then V.int b else V.int a) = _
    unfold mx
    by_cases c : a < b
    · rw [decide_eq_true c, if_pos c]
      rfl
    · rw [decide_eq_false c, if_neg c]
      rfl
  show (nuMax2 (.int i) (.int j)).bind _ = _
  rw [e2]
  show nuMax2 (.int (mx i j)) (.int k) = _
  rw [e2]
/-! ### bounds of doubters -/
def farS (a : Int) (e : Ex) : Int := mx (mx a (ab (spn e).1)) (ab (spn e).2)
def farI (es : List Ex) : Int := es.foldl farS 0
def endsI (es : List Ex) : List Int := es.flatMap fun e => [ab (spn e).1, ab (spn e).2]
theorem ab_nn (x : Int) : 0 ≤ ab x := by unfold ab; split <;> omega
theorem farF_ge : ∀ (es : List Ex) (a : Int), a ≤ es.foldl farS a ∧ ∀ x ∈ endsI es, x ≤ es.foldl farS a
  | [], a => ⟨Int.le_refl _, fun x h => by cases h⟩
  | e :: es, a => by
    obtain ⟨h1, h2⟩ := farF_ge es (farS a e)
    have k1 := le_mx a (ab (spn e).1)
    have k2 := le_mx (mx a (ab (spn e).1)) (ab (spn e).2)
    have k3 : farS a e = mx (mx a (ab (spn e).1)) (ab (spn e).2) := rfl
    refine ⟨?_, fun x hx => ?_⟩
    · show a ≤ es.foldl farS (farS a e)
      omega
    · show x ≤ es.foldl farS (farS a e)
      have hx : x ∈ [ab (spn e).1, ab (spn e).2] ++ endsI es := hx
      rcases List.mem_append.mp hx with hx | hx
      · simp only [List.mem_cons, List.not_mem_nil, or_false] at hx
        rcases hx with rfl | rfl <;> omega
      · exact h2 x hx
theorem farF_or : ∀ (es : List Ex) (a : Int), es.foldl farS a = a ∨ es.foldl farS a ∈ endsI es
  | [], a => .inl rfl
  | e :: es, a => by
    show es.foldl farS (farS a e) = a ∨ es.foldl farS (farS a e) ∈ [ab (spn e).1, ab (spn e).2] ++ endsI es
    rcases farF_or es (farS a e) with h | h
    · rw [h]
      unfold farS
      rcases mx_or (mx a (ab (spn e).1)) (ab (spn e).2) with z | z
      · rw [z]
        rcases mx_or a (ab (spn e).1) with y | y
        · exact .inl y
        · rw [y]
          exact .inr (List.mem_append_left _ (by simp))
      · rw [z]
        exact .inr (List.mem_append_left _ (by simp))
    · exact .inr (List.mem_append_right _ h)
theorem far_max {es : List Ex} {m : Int} (h0 : es ≠ []) (hm : m ∈ endsI es) (hx : ∀ y ∈ endsI es, y ≤ m) : m = farI es := by
  obtain ⟨h1, h2⟩ := farF_ge es 0
  have k := h2 m hm
  have nn : ∀ y ∈ endsI es, 0 ≤ y := fun y hy => by
    obtain ⟨e, _, hy⟩ := List.mem_flatMap.mp hy
    simp only [List.mem_cons, List.not_mem_nil, or_false] at hy
    rcases hy with rfl | rfl <;> exact ab_nn _
  have k2 := nn m hm
  unfold farI
  rcases farF_or es 0 with h | h
  · omega
  · have := hx _ h
    omega
def pw2 : Nat → Int
  | 0 => 1
  | 1 => 2
  | 2 => 4
  | 3 => 8
  | _ => 16
theorem pw2_bnd (s : Nat) : 1 ≤ pw2 s ∧ pw2 s ≤ 16 := by
  match s with
  | 0 => decide
  | 1 => decide
  | 2 => decide
  | 3 => decide
  | _ + 4 => show (1 : Int) ≤ 16 ∧ (16 : Int) ≤ 16; decide
def bndI (D : Dbt) : Int := mx 1 ((farI D.stakes + pw2 D.scale - 1) / pw2 D.scale)
theorem st_ends {many l : Nat} {e : Ex} (h : StOk many l e) : ab (spn e).1 ≤ 500 ∧ ab (spn e).2 ≤ 500 := by
  have k : ∀ {x : Int}, -500 ≤ x → x ≤ 500 → ab x ≤ 500 := fun h1 h2 => by unfold ab; split <;> omega
  rcases h with ⟨c, rfl, h1, h2⟩ | ⟨c, e', rfl, h1, h2, _⟩
  · exact ⟨k h1 h2, k h1 h2⟩
  · have z : ∀ y : Int, -500 ≤ mn c (mx (-c) y) ∧ mn c (mx (-c) y) ≤ 500 := fun y => by
      unfold mn mx
      split <;> split <;> omega
    exact ⟨k (z _).1 (z _).2, k (z _).1 (z _).2⟩
theorem far_500 {many l : Nat} {es : List Ex} (h : ∀ e ∈ es, StOk many l e) : 0 ≤ farI es ∧ farI es ≤ 500 := by
  refine ⟨(farF_ge es 0).1, ?_⟩
  unfold farI
  rcases farF_or es 0 with k | k
  · omega
  · obtain ⟨e, he, hy⟩ := List.mem_flatMap.mp k
    have := st_ends (h e he)
    simp only [List.mem_cons, List.not_mem_nil, or_false] at hy
    rcases hy with hy | hy <;> omega
theorem bnd_500 {many l : Nat} {D : Dbt} (h : ∀ e ∈ D.stakes, StOk many l e) : 1 ≤ bndI D ∧ bndI D ≤ 500 := by
  have h1 := far_500 h
  have h2 := pw2_bnd D.scale
  unfold bndI
  have h3 : (farI D.stakes + pw2 D.scale - 1) / pw2 D.scale ≤ 500 := by
    have : (farI D.stakes + pw2 D.scale - 1) / pw2 D.scale < 501 := by
      rw [Int.ediv_lt_iff_lt_mul (by omega)]
      omega
    omega
  unfold mx
  split <;> omega
end NG

namespace NG
open PySem PySem.Spec PyProof.Rows L2
/-! ### a statement that is never reached -/
theorem ps_dead {X : Cx} {st : Stmt} : PS X st (fun _ _ _ => False) := ⟨fun _ _ _ _ _ _ h => h.elim⟩
/-! ### min of a tuple of ints -/
def rMinT (K : PySem.W.Frag) : List V → Hp → VK → Prop := fun vs H Q => ∃ (a : Addr) (n : Int) (ns : List Int), vs = [V.ref a] ∧ SqT K H a ((n :: ns).map V.int) ∧ Q (.int (ns.foldl min n)) H
theorem cr_minT {X : Cx} (hc : X.calm = true) (hu : X.A.units + 64 < cLine) : CallR X (.builtin "min") (rMinT X.K) := by
  intro pins s σ H vs us Q I r h
  obtain ⟨a, n, ns, rfl, hs, q⟩ := h
  obtain ⟨its, rv, p, _⟩ := I.tuple hs
  rw [Vals.ref1 r]
  obtain ⟨as, hr⟩ := Dp.readsAll I ((n :: ns).map PyData.int) _ its (dp_ints (n :: ns)) rv
  rw [List.map_cons] at hr
  have al : PySem.W.AlikeAll (PyData.int n :: ns.map PyData.int) := ⟨fun x hx y hy => by
    rw [← List.map_cons (f := PyData.int)] at hx hy
    obtain ⟨i, _, rfl⟩ := List.mem_map.mp hx
    obtain ⟨j, _, rfl⟩ := List.mem_map.mp hy
    rfl, fun x hx => by
    rw [← List.map_cons (f := PyData.int)] at hx
    obtain ⟨i, _, rfl⟩ := List.mem_map.mp hx
    exact fun e => nomatch e⟩
  refine PySem.W.min_tuple_data (I.ok.hd hc) p (by simpa using hr) al (by rw [← List.map_cons (f := PyData.int), depth_ints]; omega) fun i v h' tk bs _ rd hk => ?_
  rw [PySem.W.minD_ints] at rd
  cases rd
  exact ⟨.int _, H, I.kept hk, ⟨_, rfl⟩, q⟩
/-! ### days of ones -/
def wsI (ss : List Int) (o : One) : List Int := o.dbt.stakes.map (wo o.regs ss)
def fullI (ss : List Int) (o : One) : Int := 1000 * pw2 o.dbt.scale * ss.sum * ss.sum
def winI (ss : List Int) (j : Nat) (o : One) : Int := ss.sum * (wsI ss o).getD j 0 - dotI ss (wsI ss o)
def alikeI : List Int → Bool
  | [] => true
  | n :: ns => decide (ns.foldl min n = ns.foldl max n)
theorem alike_eq (n : Int) (ns : List Int) : (ns.foldl min n == ns.foldl max n) = alikeI (n :: ns) := by
  show _ = decide (ns.foldl min n = ns.foldl max n)
  rw [Bool.eq_iff_iff]
  simp
def dayO (rg : List Int → Ds → List Int → List Int) (ss : List Int) (j : Nat) (o : One) : One :=
  ⟨o.dbt, rg ss (o.dbt.behinds.getD j .nil) o.regs, o.weight, o.motes * (fullI ss o + winI ss j o) / fullI ss o, -(-o.owed * (fullI ss o + winI ss j o) / fullI ss o) + 1, if alikeI (wsI ss o) = true then o.days else o.days + 1, o.got + 1000000000 * winI ss j o / fullI ss o⟩
def dayMs (rg : List Int → Ds → List Int → List Int) (ss : List Int) (j : Nat) : Ms → Ms
  | .nil => .nil
  | .one o r => .one (dayO rg ss j o) (dayMs rg ss j r)
  | .house nm m r => .house nm (dayMs rg ss j m) (dayMs rg ss j r)
theorem day_ao (rg : List Int → Ds → List Int → List Int) (ss : List Int) (j : Nat) : ∀ m : Ms, aoI (dayMs rg ss j m) = (aoI m).map (dayO rg ss j)
  | .nil => rfl
  | .one o r => by
    show _ :: aoI (dayMs rg ss j r) = _
    rw [day_ao rg ss j r]
    rfl
  | .house nm m r => by
    show aoI (dayMs rg ss j m) ++ aoI (dayMs rg ss j r) = _
    rw [day_ao rg ss j m, day_ao rg ss j r, ← List.map_append]
    rfl
/-! ### members as a list -/
def mks : Ms → List Mk
  | .nil => []
  | .one o r => .one o :: mks r
  | .house nm m r => .house nm m :: mks r
def MksAt (K : PySem.W.Frag) (H : Hp) : List V → List Mk → Prop
  | [], [] => True
  | v :: vs, e :: es => MkAt K H e v ∧ MksAt K H vs es
  | _, _ => False
theorem MksAt.imp {K : PySem.W.Frag} {H H' : Hp} (h : ∀ p xs, SqT K H p xs → SqT K H' p xs) : ∀ {vs : List V} {es : List Mk}, MksAt K H vs es → MksAt K H' vs es
  | [], [], _ => trivial
  | _ :: _, _ :: _, ⟨x, r⟩ => ⟨x.imp h, MksAt.imp h r⟩
theorem MksAt.len {K : PySem.W.Frag} {H : Hp} : ∀ {vs : List V} {es : List Mk}, MksAt K H vs es → vs.length = es.length
  | [], [], _ => rfl
  | _ :: _, _ :: _, ⟨_, r⟩ => by rw [List.length_cons, List.length_cons, r.len]
theorem MksAt.snoc {K : PySem.W.Frag} {H : Hp} {v : V} {e : Mk} (x : MkAt K H e v) : ∀ {vs : List V} {es : List Mk}, MksAt K H vs es → MksAt K H (vs ++ [v]) (es ++ [e])
  | [], [], _ => ⟨x, trivial⟩
  | _ :: _, _ :: _, ⟨y, r⟩ => ⟨y, MksAt.snoc x r⟩
theorem MksAt.get' {K : PySem.W.Frag} {H : Hp} : ∀ {vs : List V} {es : List Mk} {k : Nat} {v : V}, MksAt K H vs es → vs[k]? = some v → ∃ e, es[k]? = some e ∧ MkAt K H e v
  | [], [], _, _, _, h => by simp at h
  | v :: vs, e' :: es, 0, v', ⟨x, r⟩, h => by
    have : v = v' := Option.some.inj h
    subst this
    exact ⟨e', rfl, x⟩
  | v :: vs, e' :: es, k + 1, e, ⟨x, r⟩, h => MksAt.get' (k := k) r h
theorem MsAt.mks {K : PySem.W.Frag} {H : Hp} : ∀ {m : Ms} {vs : List V}, MsAt K H m vs → MksAt K H vs (mks m)
  | .nil, vs, h => by
    have h : vs = [] := h
    subst h
    exact trivial
  | .one o r, _, ⟨v, us, e, q, h⟩ => by
    subst e
    exact ⟨q, MsAt.mks h⟩
  | .house nm m r, _, ⟨p, pm, xs, us, e, q, qm, h1, h2⟩ => by
    subst e
    exact ⟨⟨p, pm, xs, rfl, q, qm, h1⟩, MsAt.mks h2⟩
theorem MksAt.ms {K : PySem.W.Frag} {H : Hp} : ∀ {m : Ms} {vs : List V}, MksAt K H vs (NG.mks m) → MsAt K H m vs
  | .nil, [], _ => rfl
  | .nil, _ :: _, h => h.elim
  | .one o r, [], h => h.elim
  | .one o r, v :: vs, ⟨x, h⟩ => ⟨v, vs, rfl, x, MksAt.ms h⟩
  | .house nm m r, [], h => h.elim
  | .house nm m r, v :: vs, ⟨⟨p, pm, xs, e, q, qm, h1⟩, h⟩ => by
    subst e
    exact ⟨p, pm, xs, vs, rfl, q, qm, h1, MksAt.ms h⟩
def dayMk (rg : List Int → Ds → List Int → List Int) (ss : List Int) (j : Nat) : Mk → Mk
  | .one o => .one (dayO rg ss j o)
  | .house nm m => .house nm (dayMs rg ss j m)
theorem mks_day (rg : List Int → Ds → List Int → List Int) (ss : List Int) (j : Nat) : ∀ m : Ms, mks (dayMs rg ss j m) = (mks m).map (dayMk rg ss j)
  | .nil => rfl
  | .one o r => by
    show _ :: mks (dayMs rg ss j r) = _
    rw [mks_day rg ss j r]
    rfl
  | .house nm m r => by
    show _ :: mks (dayMs rg ss j r) = _
    rw [mks_day rg ss j r]
    rfl
theorem mks_len : ∀ m : Ms, (mks m).length ≤ m.cnt
  | .nil => Nat.le_refl _
  | .one o r => by
    have := mks_len r
    show (mks r).length + 1 ≤ 1 + r.cnt
    omega
  | .house nm m r => by
    have := mks_len r
    show (mks r).length + 1 ≤ 1 + m.cnt + r.cnt
    omega
def MkD (P : One → Prop) (d c : Nat) : Mk → Prop
  | .one o => P o
  | .house _ m => m.dep < d ∧ m.cnt ≤ c ∧ m.all P
theorem mks_ok {P : One → Prop} {c : Nat} : ∀ {m : Ms} {d : Nat}, m.dep < d + 1 → m.cnt ≤ c → m.all P → ∀ k ∈ mks m, MkD P d c k
  | .nil, _, _, _, _, k, hk => by cases hk
  | .one o r, d, h1, h2, h3, k, hk => by
    have h1 : r.dep < d + 1 := h1
    have h2 : 1 + r.cnt ≤ c := h2
    rcases List.mem_cons.mp hk with rfl | hk
    · exact h3.1
    · exact mks_ok h1 (by omega) h3.2 k hk
  | .house nm m r, d, h1, h2, h3, k, hk => by
    have h1 : max (m.dep + 1) r.dep < d + 1 := h1
    have h2 : 1 + m.cnt + r.cnt ≤ c := h2
    rcases List.mem_cons.mp hk with rfl | hk
    · exact ⟨by omega, by omega, h3.1⟩
    · exact mks_ok (by omega) (by omega) h3.2 k hk
end NG

namespace NG
open PySem PySem.Spec PyProof.Rows L2
/-! ### rules with the fragment named, for use inside a comprehension -/
theorem maxTK {X : Cx} (K : PySem.W.Frag) (hc : X.calm = true) (hu : X.A.units + 64 < cLine) (h : X.K = K := by rfl) : CallR X (.builtin "max") (rMaxT K) := by
  subst h; exact cr_maxT hc hu
theorem minTK {X : Cx} (K : PySem.W.Frag) (hc : X.calm = true) (hu : X.A.units + 64 < cLine) (h : X.K = K := by rfl) : CallR X (.builtin "min") (rMinT K) := by
  subst h; exact cr_minT hc hu
theorem eqDK {X : Cx} (K : PySem.W.Frag) (hu : X.A.units + 64 < cLine) (h : X.K = K := by rfl) : OpR X (compareOp .Eq) (rEqD K) := by
  subst h; exact op_eqD hu
theorem neDK {X : Cx} (K : PySem.W.Frag) (hu : X.A.units + 64 < cLine) (h : X.K = K := by rfl) : OpR X (compareOp .NotEq) (rNeD K) := by
  subst h; exact op_neD hu
end NG

namespace NG
open PySem PySem.Spec PyProof.Rows L2
/-! ### a word among a written dict's keys -/
def rInKd (K : PySem.W.Frag) (w : World) : R2 := fun x y H Q => ∃ z p v, x = .str z ∧ y = .ref p ∧ KDct K w p z v ∧ (p == sysModules) = false ∧ Q (.bl true) H
def rNinKd (K : PySem.W.Frag) (w : World) : R2 := fun x y H Q => ∃ z p v, x = .str z ∧ y = .ref p ∧ KDct K w p z v ∧ (p == sysModules) = false ∧ Q (.bl false) H
theorem op_inKd {X : Cx} : OpR X (compareOp .In) (rInKd X.K X.w) := by
  intro pins s σ H x y v u Q I rx ry h
  obtain ⟨z, p, v0, rfl, rfl, ⟨es, n, u0, hl, hk, e, ru⟩, low, q⟩ := h
  exact op_in_kd (X := X) ⟨hl, hk, low⟩ pins s σ H _ _ v u Q I rx ry ⟨z, some u0, rfl, rfl, e, q⟩
theorem op_ninKd {X : Cx} : OpR X (compareOp .NotIn) (rNinKd X.K X.w) := by
  intro pins s σ H x y v u Q I rx ry h
  obtain ⟨z, p, v0, rfl, rfl, ⟨es, n, u0, hl, hk, e, ru⟩, low, q⟩ := h
  exact op_notIn_kd (X := X) ⟨hl, hk, low⟩ pins s σ H _ _ v u Q I rx ry ⟨z, some u0, rfl, rfl, e, q⟩
/-! ### kinds of things -/
def tyd : PyData → String
  | .none => "NoneType"
  | .bool _ => "bool"
  | .int _ => "int"
  | .str _ => "str"
  | .list _ => "list"
  | .tuple _ => "tuple"
  | .dict _ => "dict"
theorem Dp.tyx {K : PySem.W.Frag} {H : Hp} {d : PyData} {v : V} (h : Dp K H v d) : TyX K H v (.type (tyd d)) := by
  cases h with
  | non => exact .base .non
  | bl b => exact .base (.bl b)
  | int i => exact .base (.int i)
  | str x => exact .base (.str x)
  | lst q _ =>
    rcases q with (q | ⟨o, q⟩) | ⟨o, its, n, h1, h2, _⟩
    · exact .base (.lst q)
    · exact .base (.frz q)
    · exact .kList h1 h2
  | tup q _ => exact tyx_tup q
def isInt : PyData → Bool
  | .int _ => true
  | _ => false
theorem rIsi_of {K : PySem.W.Frag} {H : Hp} {d : PyData} {v : V} {T : String} {b : Bool} {Q : VK} (h : Dp K H v d) (k : kitB (tyd d) T = some b) (q : Q (.bl b) H) : rIsi K [v, .ty T] H Q :=
  ⟨v, .ty T, _, _, b, rfl, .ty T, Dp.tyx h, kit_ty k, q⟩
def kB : PyData → Bool
  | .bool _ => true
  | _ => false
def kI : PyData → Bool
  | .int _ => true
  | .bool _ => true
  | _ => false
theorem kit_int (d : PyData) : kitB (tyd d) "int" = some (kI d) := by
  cases d with
  | none => exact (by decide +kernel : kitB "NoneType" "int" = some false)
  | bool _ => exact (by decide +kernel : kitB "bool" "int" = some true)
  | int _ => exact (by decide +kernel : kitB "int" "int" = some true)
  | str _ => exact (by decide +kernel : kitB "str" "int" = some false)
  | list _ => exact (by decide +kernel : kitB "list" "int" = some false)
  | tuple _ => exact (by decide +kernel : kitB "tuple" "int" = some false)
  | dict _ => exact (by decide +kernel : kitB "dict" "int" = some false)
theorem kit_bool (d : PyData) : kitB (tyd d) "bool" = some (kB d) := by
  cases d with
  | none => exact (by decide +kernel : kitB "NoneType" "bool" = some false)
  | bool _ => exact (by decide +kernel : kitB "bool" "bool" = some true)
  | int _ => exact (by decide +kernel : kitB "int" "bool" = some false)
  | str _ => exact (by decide +kernel : kitB "str" "bool" = some false)
  | list _ => exact (by decide +kernel : kitB "list" "bool" = some false)
  | tuple _ => exact (by decide +kernel : kitB "tuple" "bool" = some false)
  | dict _ => exact (by decide +kernel : kitB "dict" "bool" = some false)
def kT : PyData → Bool
  | .tuple _ => true
  | _ => false
theorem kit_tup (d : PyData) : kitB (tyd d) "tuple" = some (kT d) := by
  cases d with
  | none => exact (by decide +kernel : kitB "NoneType" "tuple" = some false)
  | bool _ => exact (by decide +kernel : kitB "bool" "tuple" = some false)
  | int _ => exact (by decide +kernel : kitB "int" "tuple" = some false)
  | str _ => exact (by decide +kernel : kitB "str" "tuple" = some false)
  | list _ => exact (by decide +kernel : kitB "list" "tuple" = some false)
  | tuple _ => exact (by decide +kernel : kitB "tuple" "tuple" = some true)
  | dict _ => exact (by decide +kernel : kitB "dict" "tuple" = some false)
theorem isInt_eq (d : PyData) : (kI d && !kB d) = isInt d := by
  cases d <;> rfl
mutual
theorem dp_same {K : PySem.W.Frag} {H H' : Hp} (s : Same H H') : ∀ {d : PyData} {v : V}, Dp K H v d → Dp K H' v d
  | .none, _, .non => .non
  | .bool _, _, .bl b => .bl b
  | .int _, _, .int i => .int i
  | .str _, _, .str x => .str x
  | .list _, _, .lst q a => .lst (s.seq q) (dpall_same s a)
  | .tuple _, _, .tup q a => .tup (same_sqt s q) (dpall_same s a)
theorem dpall_same {K : PySem.W.Frag} {H H' : Hp} (s : Same H H') : ∀ {ds : List PyData} {vs : List V}, DpAll K H vs ds → DpAll K H' vs ds
  | [], _, .nil => .nil
  | _ :: _, _, .cons a b => .cons (dp_same s a) (dpall_same s b)
end
theorem dpall_len {K : PySem.W.Frag} {H : Hp} : ∀ {ds : List PyData} {vs : List V}, DpAll K H vs ds → vs.length = ds.length
  | [], _, .nil => rfl
  | _ :: _, _, .cons _ b => by rw [List.length_cons, List.length_cons, dpall_len b]
theorem dpall_get {K : PySem.W.Frag} {H : Hp} : ∀ {ds : List PyData} {vs : List V} {i : Nat} {v : V}, DpAll K H vs ds → vs[i]? = some v → ∃ d, ds[i]? = some d ∧ Dp K H v d
  | [], _, _, _, .nil, h => by simp at h
  | d :: _, _, 0, v, .cons a _, h => by
    have := Option.some.inj h
    subst this
    exact ⟨d, rfl, a⟩
  | _ :: _, _, i + 1, v, .cons _ b, h => dpall_get (i := i) b h
theorem dpall_drop {K : PySem.W.Frag} {H : Hp} : ∀ {n : Nat} {ds : List PyData} {vs : List V}, DpAll K H vs ds → DpAll K H (vs.drop n) (ds.drop n)
  | 0, _, _, h => h
  | _ + 1, [], _, .nil => by simpa using (.nil : DpAll K H [] [])
  | n + 1, _ :: _, _, .cons _ b => by
    rw [List.drop_succ_cons, List.drop_succ_cons]
    exact dpall_drop b
theorem dpall_snoc {K : PySem.W.Frag} {H : Hp} {v : V} {d : PyData} (x : Dp K H v d) : ∀ {ds : List PyData} {vs : List V}, DpAll K H vs ds → DpAll K H (vs ++ [v]) (ds ++ [d])
  | [], _, .nil => .cons x .nil
  | _ :: _, _, .cons a b => .cons a (dpall_snoc x b)
/-! ### kinds of places, words, shapes -/
inductive Kd where
  | part | sign | figure | place | factor | line
  deriving DecidableEq
def kdn : Kd → Str
  | .part => "part"
  | .sign => "sign"
  | .figure => "figure"
  | .place => "place"
  | .factor => "factor"
  | .line => "line"
def bndE : Kd → Int × Int
  | .part => (0, 0)
  | .sign => (0, 0)
  | .figure => (-1000, 1000)
  | .place => (0, 3)
  | .factor => (-9, 9)
  | .line => (1, 1000)
inductive We where
  | fig | reg | share | two (w : W4) | times | by | when | whr
  deriving DecidableEq
def wen : We → Str
  | .fig => "fig"
  | .reg => "reg"
  | .share => "share"
  | .two w => wn w
  | .times => "times"
  | .by => "by"
  | .when => "when"
  | .whr => "where"
def wsh : We → List Kd
  | .fig => [.figure]
  | .reg => [.place]
  | .share => [.sign]
  | .two _ => [.part, .part]
  | .times => [.factor, .part]
  | .by => [.place, .part]
  | .when => [.place, .figure, .part, .part]
  | .whr => [.sign, .line, .part, .part]
def weOf (x : Str) : Option We :=
  if x = "fig" then some .fig else if x = "reg" then some .reg else if x = "share" then some .share else if x = "sum" then some (.two .sum) else if x = "less" then some (.two .less)
  else if x = "least" then some (.two .least) else if x = "most" then some (.two .most) else if x = "times" then some .times else if x = "by" then some .by else if x = "when" then some .when else if x = "where" then some .whr else none
theorem weOf_wen (w : We) : weOf (wen w) = some w := by
  cases w with
  | two o => cases o <;> decide
  | _ => decide
inductive Wb where
  | op (w : D5) | when
def wbn : Wb → Str
  | .op w => dn w
  | .when => "when"
def wbsh : Wb → List Kd
  | .op .put => [.place, .figure]
  | .op .add => [.place, .figure]
  | .op .copy => [.place, .place]
  | .op .plus => [.place, .place]
  | .op .told => [.place, .sign]
  | .when => [.place, .figure, .part, .part]
def wbOf (x : Str) : Option Wb :=
  if x = "put" then some (.op .put) else if x = "add" then some (.op .add) else if x = "copy" then some (.op .copy) else if x = "plus" then some (.op .plus) else if x = "told" then some (.op .told) else if x = "when" then some .when else none
theorem wbOf_wbn (w : Wb) : wbOf (wbn w) = some w := by
  cases w with
  | op o => cases o <;> rfl
  | when => rfl
theorem wsh_len (w : We) : (wsh w).length ≤ 4 := by
  cases w with
  | two o => exact (by decide : 2 ≤ 4)
  | _ => decide
theorem wbsh_len (w : Wb) : (wbsh w).length ≤ 4 := by
  cases w with
  | op o => cases o <;> decide
  | when => decide
/-! ### what fits -/
def inD (lo hi : Int) : PyData → Bool
  | .int i => decide (lo ≤ i) && decide (i ≤ hi)
  | _ => false
def fitD (many : Int) : Kd → PyData → Bool
  | .part, _ => true
  | .sign, d => inD 0 (many - 1) d
  | .figure, d => inD (-1000) 1000 d
  | .place, d => inD 0 3 d
  | .factor, d => inD (-9) 9 d
  | .line, d => inD 1 1000 d
def fitsD (many : Int) : List Kd → List PyData → Bool
  | k :: ks, d :: ds => fitD many k d && fitsD many ks ds
  | [], [] => true
  | _, _ => false
theorem fitsD_len {many : Int} : ∀ {ks : List Kd} {ds : List PyData}, fitsD many ks ds = true → ds.length = ks.length
  | [], [], _ => rfl
  | _ :: _, _ :: _, h => by
    unfold fitsD at h
    rw [Bool.and_eq_true] at h
    rw [List.length_cons, List.length_cons, fitsD_len h.2]
  | [], _ :: _, h => by cases h
  | _ :: _, [], h => by cases h
theorem fitsD_ne {many : Int} {ks : List Kd} {ds : List PyData} (h : ds.length ≠ ks.length) : fitsD many ks ds = false := by
  cases e : fitsD many ks ds with
  | false => rfl
  | true => exact absurd (fitsD_len e) h
theorem fitsD_zip {many : Int} : ∀ {ks : List Kd} {ds : List PyData}, ds.length = ks.length → fitsD many ks ds = (List.zipWith (fitD many) ks ds).all id
  | [], [], _ => rfl
  | k :: ks, d :: ds, h => by
    rw [List.zipWith_cons_cons, List.all_cons, ← fitsD_zip (by simpa using h)]
    rfl
  | [], _ :: _, h => by simp at h
  | _ :: _, [], h => by simp at h
def partsD : List Kd → List PyData → List PyData
  | k :: ks, d :: ds => if k = .part then d :: partsD ks ds else partsD ks ds
  | _, _ => []
theorem partsD_len : ∀ (ks : List Kd) (ds : List PyData), (partsD ks ds).length ≤ ds.length
  | [], _ => Nat.zero_le _
  | _ :: _, [] => Nat.zero_le _
  | k :: ks, d :: ds => by
    have := partsD_len ks ds
    unfold partsD
    split <;> simp only [List.length_cons] <;> omega
theorem partsD_snoc : ∀ {ks : List Kd} {ds : List PyData} {i : Nat} {k : Kd} {d : PyData}, ks[i]? = some k → ds[i]? = some d → partsD (ks.take (i + 1)) (ds.take (i + 1)) = partsD (ks.take i) (ds.take i) ++ (if k = .part then [d] else [])
  | [], _, i, _, _, h, _ => by simp at h
  | _ :: _, [], i, _, _, _, h => by simp at h
  | k0 :: ks, d0 :: ds, 0, k, d, h, h2 => by
    have e1 : k0 = k := Option.some.inj h
    have e2 : d0 = d := Option.some.inj h2
    subst e1 e2
    simp [partsD]
  | k0 :: ks, d0 :: ds, i + 1, k, d, h, h2 => by
    have ih := partsD_snoc (ks := ks) (ds := ds) (i := i) h h2
    rw [List.take_succ_cons, List.take_succ_cons, List.take_succ_cons, List.take_succ_cons]
    unfold partsD
    split
    · rw [ih, List.cons_append]
    · exact ih
/-! ### how many parts, deeds -/
def addE : Nat → List Nat → Nat
  | t, [] => t
  | t, i :: r => if i = 0 then 0 else addE (t + i) r
def cntE (many : Int) : Nat → PyData → Nat
  | 0, _ => 0
  | k + 1, d => match d with
    | .tuple (.str x :: ds) => match weOf x with
      | some w => if fitsD many (wsh w) ds = true then addE 1 ((partsD (wsh w) ds).map (cntE many k)) else 0
      | none => 0
    | _ => 0
theorem cntE_eq (many : Int) (k : Nat) (w : We) (ds : List PyData) : cntE many (k + 1) (.tuple (.str (wen w) :: ds)) = if fitsD many (wsh w) ds = true then addE 1 ((partsD (wsh w) ds).map (cntE many k)) else 0 := by
  unfold cntE
  simp only [weOf_wen]
def wdE (many : Int) : Nat → PyData → Prop
  | 0, d => ∃ w ds, d = .tuple (.str (wen w) :: ds)
  | k + 1, d => ∃ w ds, d = .tuple (.str (wen w) :: ds) ∧ (fitsD many (wsh w) ds = true → ∀ x ∈ partsD (wsh w) ds, wdE many k x)
def isEx (many : Int) (d : PyData) : Bool := decide (1 ≤ cntE many 8 d) && decide (cntE many 8 d ≤ 40)
def exD : Nat → PyData → Ex
  | 0, _ => .fig 0
  | k + 1, d => match d with
    | .tuple (.str x :: ds) => match weOf x, ds with
      | some .fig, [.int c] => .fig c
      | some .reg, [.int i] => .reg i.toNat
      | some .share, [.int j] => .share j.toNat
      | some (.two w), [a, b] => .two w (exD k a) (exD k b)
      | some .times, [.int f, a] => .times f (exD k a)
      | some .by, [.int i, a] => .by i.toNat (exD k a)
      | some .when, [.int i, .int c, a, b] => .when i.toNat c (exD k a) (exD k b)
      | some .whr, [.int i, .int c, a, b] => .whr i.toNat c (exD k a) (exD k b)
      | _, _ => .fig 0
    | _ => .fig 0
def stakeD (many : Int) (sc : Nat) (d : PyData) : Bool := isEx many d && (decide (-(500 * pw2 sc) ≤ (spn (exD 8 d)).1) && decide ((spn (exD 8 d)).2 ≤ 500 * pw2 sc))
def addB : Nat → List (Option Nat) → Option Nat
  | t, [] => some t
  | _, none :: _ => none
  | t, some i :: r => addB (t + i) r
def sumB : Nat → List (Option Nat) → Option Nat
  | t, [] => some t
  | _, none :: _ => none
  | t, some i :: r => if 20 < t + i then none else sumB (t + i) r
def deedD (many : Int) (f : PyData → Option Nat) : PyData → Option Nat
  | .tuple (.str x :: ds) => match wbOf x with
    | some w => if fitsD many (wbsh w) ds = true then addB 1 ((ds.drop 2).map f) else none
    | none => none
  | _ => none
theorem deedD_eq (many : Int) (f : PyData → Option Nat) (w : Wb) (ds : List PyData) : deedD many f (.tuple (.str (wbn w) :: ds)) = if fitsD many (wbsh w) ds = true then addB 1 ((ds.drop 2).map f) else none := by
  unfold deedD
  simp only [wbOf_wbn]
def cntB (many : Int) : Nat → PyData → Option Nat
  | 0, d => match d with
    | .tuple [] => some 0
    | _ => none
  | k + 1, d => match d with
    | .tuple ds => sumB 0 (ds.map (deedD many (cntB many k)))
    | _ => none
def wdB (many : Int) : Nat → PyData → Prop
  | 0, _ => True
  | k + 1, d => ∀ ds, d = .tuple ds → ∀ x ∈ ds, ∃ w es, x = .tuple (.str (wbn w) :: es) ∧ (fitsD many (wbsh w) es = true → ∀ y ∈ es.drop 2, wdB many k y)
def optV : Option Nat → V
  | none => .non
  | some n => .int (n : Int)
def nameD (z : Str) : Bool := (decide (1 ≤ z.length) && decide (z.length ≤ 8)) && (z.cps.toList.all fun c => decide (c ∈ ("abcdefghijklmnopqrstuvwxyz" : Str).cps.toList))
def regsD (ds : List PyData) : Bool := decide (ds.length = 4) && ds.all (inD (-1000) 1000)
def dbtD (many : Nat) (nm : Str) (sc : Int) (rg st bh : List PyData) : Bool :=
  if (nameD nm && (decide (0 ≤ sc) && decide (sc ≤ 4)) && regsD rg) = true then (decide (st.length = many) && st.all (stakeD many sc.toNat)) && (decide (bh.length = many) && bh.all fun d => (cntB many 4 d).isSome) else false
/-! ### the tables -/
def TabE (K : PySem.W.Frag) (w : World) (a : Addr) : Prop := (a == sysModules) = false ∧ ∀ x : We, ∃ q, KDct K w a (wen x) (.ref q) ∧ ∀ H, SqT K H q ((wsh x).map fun k => V.str (kdn k))
def TabB (K : PySem.W.Frag) (w : World) (a : Addr) : Prop := (a == sysModules) = false ∧ ∀ x : Wb, ∃ q, KDct K w a (wbn x) (.ref q) ∧ ∀ H, SqT K H q ((wbsh x).map fun k => V.str (kdn k))
def TabN (K : PySem.W.Frag) (w : World) (a : Addr) : Prop := ∀ k : Kd, k ≠ .part → k ≠ .sign → ∃ q, KDct K w a (kdn k) (.ref q) ∧ ∀ H, SqT K H q [.int (bndE k).1, .int (bndE k).2]
theorem TabE.of {K : PySem.W.Frag} {w : World} {a : Addr} (h : Shapes K w a) (l : (a == sysModules) = false) : TabE K w a := ⟨l, fun x => by
  cases x with
  | fig => exact h (.fig 0)
  | reg => exact h (.reg 0)
  | share => exact h (.share 0)
  | two o => exact h (.two o (.fig 0) (.fig 0))
  | times => exact h (.times 0 (.fig 0))
  | «by» => exact h (.by 0 (.fig 0))
  | when => exact h (.when 0 0 (.fig 0) (.fig 0))
  | whr => exact h (.whr 0 0 (.fig 0) (.fig 0))⟩
/-! ### data of expressions -/
theorem ExAt.of {K : PySem.W.Frag} {H : Hp} : ∀ {e : Ex} {v : V}, Dp K H v (toD e) → ExAt K H e v := by
  intro e
  induction e with
  | fig c => intro v h; unfold toD at h; cases h with | tup q a => cases a with | cons a b => cases a; cases b with | cons a b => cases a; cases b; exact ⟨_, rfl, q⟩
  | reg c => intro v h; unfold toD at h; cases h with | tup q a => cases a with | cons a b => cases a; cases b with | cons a b => cases a; cases b; exact ⟨_, rfl, q⟩
  | share c => intro v h; unfold toD at h; cases h with | tup q a => cases a with | cons a b => cases a; cases b with | cons a b => cases a; cases b; exact ⟨_, rfl, q⟩
  | two w x y ihx ihy => intro v h; unfold toD at h; cases h with | tup q a => cases a with | cons a b => cases a; cases b with | cons a b => cases b with | cons c b => cases b; exact ⟨_, _, _, rfl, q, ihx a, ihy c⟩
  | times f x ih => intro v h; unfold toD at h; cases h with | tup q a => cases a with | cons a b => cases a; cases b with | cons a b => cases a; cases b with | cons c b => cases b; exact ⟨_, _, rfl, q, ih c⟩
  | «by» f x ih => intro v h; unfold toD at h; cases h with | tup q a => cases a with | cons a b => cases a; cases b with | cons a b => cases a; cases b with | cons c b => cases b; exact ⟨_, _, rfl, q, ih c⟩
  | when i c x y ihx ihy => intro v h; unfold toD at h; cases h with | tup q a => cases a with | cons a b => cases a; cases b with | cons a b => cases a; cases b with | cons a b => cases a; cases b with | cons d b => cases b with | cons e b => cases b; exact ⟨_, _, _, rfl, q, ihx d, ihy e⟩
  | whr i c x y ihx ihy => intro v h; unfold toD at h; cases h with | tup q a => cases a with | cons a b => cases a; cases b with | cons a b => cases a; cases b with | cons a b => cases a; cases b with | cons d b => cases b with | cons e b => cases b; exact ⟨_, _, _, rfl, q, ihx d, ihy e⟩
theorem inD_int {lo hi : Int} {d : PyData} (h : inD lo hi d = true) : ∃ i, d = .int i ∧ lo ≤ i ∧ i ≤ hi := by
  cases d with
  | int i =>
    unfold inD at h
    rw [Bool.and_eq_true, decide_eq_true_eq, decide_eq_true_eq] at h
    exact ⟨i, rfl, h.1, h.2⟩
  | _ => cases h
theorem addE_pos : ∀ {l : List Nat} {t : Nat}, 0 < addE t l → ∀ i ∈ l, 0 < i
  | [], _, _, i, h => by cases h
  | j :: r, t, h, i, hi => by
    unfold addE at h
    split at h
    · omega
    · rcases List.mem_cons.mp hi with rfl | hi
      · omega
      · exact addE_pos h i hi
theorem exD_of {many : Nat} : ∀ {k : Nat} {d : PyData}, 0 < cntE many k d → toD (exD k d) = d ∧ ExOk many (exD k d) ∧ (exD k d).dep ≤ k
  | 0, _, h => by exact absurd h (by unfold cntE; omega)
  | k + 1, d, h => by
    match d, h with
    | .tuple (.str x :: ds), h =>
      unfold cntE at h
      simp only at h
      cases hw : weOf x with
      | none => rw [hw] at h; simp at h
      | some w =>
        rw [hw] at h
        simp only at h
        by_cases hf : fitsD many (wsh w) ds = true
        · rw [if_pos hf] at h
          have hp := addE_pos h
          have hx : x = wen w := by
            unfold weOf at hw
            repeat' split at hw
            all_goals first | (cases hw; assumption) | cases hw
          subst hx
          have ih : ∀ {y : PyData}, y ∈ partsD (wsh w) ds → toD (exD k y) = y ∧ ExOk many (exD k y) ∧ (exD k y).dep ≤ k := fun hy => exD_of (hp _ (List.mem_map.mpr ⟨_, hy, rfl⟩))
          have hl := fitsD_len hf
          unfold exD
          simp only [weOf_wen]
          cases w with
          | fig =>
            match ds, hl with
            | [a], _ =>
              simp only [wsh, fitsD, fitD, Bool.and_true] at hf
              obtain ⟨i, rfl, h1, h2⟩ := inD_int hf
              exact ⟨rfl, ⟨h1, h2⟩, by show 1 ≤ k + 1; omega⟩
          | reg =>
            match ds, hl with
            | [a], _ =>
              simp only [wsh, fitsD, fitD, Bool.and_true] at hf
              obtain ⟨i, rfl, h1, h2⟩ := inD_int hf
              exact ⟨by show PyData.tuple [.str "reg", .int ((i.toNat : Nat) : Int)] = _; rw [Int.toNat_of_nonneg h1]; rfl, by show i.toNat < 4; omega, by show 1 ≤ k + 1; omega⟩
          | share =>
            match ds, hl with
            | [a], _ =>
              simp only [wsh, fitsD, fitD, Bool.and_true] at hf
              obtain ⟨i, rfl, h1, h2⟩ := inD_int hf
              exact ⟨by show PyData.tuple [.str "share", .int ((i.toNat : Nat) : Int)] = _; rw [Int.toNat_of_nonneg h1]; rfl, by show i.toNat < many; omega, by show 1 ≤ k + 1; omega⟩
          | two o =>
            match ds, hl with
            | [a, b], _ =>
              have ha := ih (y := a) (by simp [wsh, partsD])
              have hb := ih (y := b) (by simp [wsh, partsD])
              exact ⟨by show PyData.tuple [.str (wn o), toD (exD k a), toD (exD k b)] = _; rw [ha.1, hb.1]; rfl, ⟨ha.2.1, hb.2.1⟩, by show max (exD k a).dep (exD k b).dep + 1 ≤ k + 1; omega⟩
          | times =>
            match ds, hl with
            | [a, b], _ =>
              have hb := ih (y := b) (by simp [wsh, partsD])
              simp only [wsh, fitsD, fitD, Bool.and_true] at hf
              obtain ⟨i, rfl, h1, h2⟩ := inD_int hf
              exact ⟨by show PyData.tuple [.str "times", .int i, toD (exD k b)] = _; rw [hb.1]; rfl, ⟨⟨h1, h2⟩, hb.2.1⟩, by show (exD k b).dep + 1 ≤ k + 1; omega⟩
          | «by» =>
            match ds, hl with
            | [a, b], _ =>
              have hb := ih (y := b) (by simp [wsh, partsD])
              simp only [wsh, fitsD, fitD, Bool.and_true] at hf
              obtain ⟨i, rfl, h1, h2⟩ := inD_int hf
              exact ⟨by show PyData.tuple [.str "by", .int ((i.toNat : Nat) : Int), toD (exD k b)] = _; rw [hb.1, Int.toNat_of_nonneg h1]; rfl, ⟨by show i.toNat < 4; omega, hb.2.1⟩, by show (exD k b).dep + 1 ≤ k + 1; omega⟩
          | when =>
            match ds, hl with
            | [a, b, c, e], _ =>
              have hc := ih (y := c) (by simp [wsh, partsD])
              have he := ih (y := e) (by simp [wsh, partsD])
              simp only [wsh, fitsD, fitD, Bool.and_true, Bool.and_eq_true] at hf
              obtain ⟨i, rfl, h1, h2⟩ := inD_int hf.1
              obtain ⟨j, rfl, h3, h4⟩ := inD_int hf.2
              exact ⟨by show PyData.tuple [.str "when", .int ((i.toNat : Nat) : Int), .int j, toD (exD k c), toD (exD k e)] = _; rw [hc.1, he.1, Int.toNat_of_nonneg h1]; rfl, ⟨by show i.toNat < 4; omega, ⟨h3, h4⟩, hc.2.1, he.2.1⟩, by show max (exD k c).dep (exD k e).dep + 1 ≤ k + 1; omega⟩
          | whr =>
            match ds, hl with
            | [a, b, c, e], _ =>
              have hc := ih (y := c) (by simp [wsh, partsD])
              have he := ih (y := e) (by simp [wsh, partsD])
              simp only [wsh, fitsD, fitD, Bool.and_true, Bool.and_eq_true] at hf
              obtain ⟨i, rfl, h1, h2⟩ := inD_int hf.1
              obtain ⟨j, rfl, h3, h4⟩ := inD_int hf.2
              exact ⟨by show PyData.tuple [.str "where", .int ((i.toNat : Nat) : Int), .int j, toD (exD k c), toD (exD k e)] = _; rw [hc.1, he.1, Int.toNat_of_nonneg h1]; rfl, ⟨by show i.toNat < many; omega, ⟨h3, h4⟩, hc.2.1, he.2.1⟩, by show max (exD k c).dep (exD k e).dep + 1 ≤ k + 1; omega⟩
        · rw [if_neg hf] at h
          omega
    | .tuple [], h => simp [cntE] at h
    | .tuple (.none :: _), h => simp [cntE] at h
    | .tuple (.bool _ :: _), h => simp [cntE] at h
    | .tuple (.int _ :: _), h => simp [cntE] at h
    | .tuple (.list _ :: _), h => simp [cntE] at h
    | .tuple (.tuple _ :: _), h => simp [cntE] at h
    | .tuple (.dict _ :: _), h => simp [cntE] at h
    | .none, h => simp [cntE] at h
    | .bool _, h => simp [cntE] at h
    | .int _, h => simp [cntE] at h
    | .str _, h => simp [cntE] at h
    | .list _, h => simp [cntE] at h
    | .dict _, h => simp [cntE] at h
theorem dep_pos' : ∀ e : Ex, 1 ≤ e.dep
  | .fig _ => Nat.le_refl _
  | .reg _ => Nat.le_refl _
  | .share _ => Nat.le_refl _
  | .two _ a b => by show 1 ≤ max a.dep b.dep + 1; omega
  | .times _ a => by show 1 ≤ a.dep + 1; omega
  | .by _ a => by show 1 ≤ a.dep + 1; omega
  | .when _ _ a b => by show 1 ≤ max a.dep b.dep + 1; omega
  | .whr _ _ a b => by show 1 ≤ max a.dep b.dep + 1; omega
def Ex.size : Ex → Nat
  | .fig _ => 1
  | .reg _ => 1
  | .share _ => 1
  | .two _ a b => 1 + a.size + b.size
  | .times _ a => 1 + a.size
  | .by _ a => 1 + a.size
  | .when _ _ a b => 1 + a.size + b.size
  | .whr _ _ a b => 1 + a.size + b.size
theorem inD_of {lo hi i : Int} (h1 : lo ≤ i) (h2 : i ≤ hi) : inD lo hi (.int i) = true := by
  show (decide (lo ≤ i) && decide (i ≤ hi)) = true
  rw [decide_eq_true h1, decide_eq_true h2]
  rfl
theorem size_pos : ∀ e : Ex, 0 < e.size
  | .fig _ => Nat.one_pos
  | .reg _ => Nat.one_pos
  | .share _ => Nat.one_pos
  | .two _ a b => by show 0 < 1 + a.size + b.size; omega
  | .times _ a => by show 0 < 1 + a.size; omega
  | .by _ a => by show 0 < 1 + a.size; omega
  | .when _ _ a b => by show 0 < 1 + a.size + b.size; omega
  | .whr _ _ a b => by show 0 < 1 + a.size + b.size; omega
def weE : Ex → We
  | .fig _ => .fig
  | .reg _ => .reg
  | .share _ => .share
  | .two w _ _ => .two w
  | .times _ _ => .times
  | .by _ _ => .by
  | .when _ _ _ _ => .when
  | .whr _ _ _ _ => .whr
def itE : Ex → List PyData
  | .fig c => [.int c]
  | .reg i => [.int (i : Int)]
  | .share j => [.int (j : Int)]
  | .two _ a b => [toD a, toD b]
  | .times f a => [.int f, toD a]
  | .by i a => [.int (i : Int), toD a]
  | .when i c a b => [.int (i : Int), .int c, toD a, toD b]
  | .whr j c a b => [.int (j : Int), .int c, toD a, toD b]
theorem toD_eq : ∀ e : Ex, toD e = .tuple (.str (wen (weE e)) :: itE e)
  | .fig _ => rfl
  | .reg _ => rfl
  | .share _ => rfl
  | .two _ _ _ => rfl
  | .times _ _ => rfl
  | .by _ _ => rfl
  | .when _ _ _ _ => rfl
  | .whr _ _ _ _ => rfl
theorem itE_fits {many : Nat} : ∀ {e : Ex}, ExOk many e → fitsD many (wsh (weE e)) (itE e) = true
  | .fig c, h => by simp only [weE, wsh, itE, fitsD, fitD]; rw [inD_of h.1 h.2]; rfl
  | .reg i, h => by
    have h : i < 4 := h
    simp only [weE, wsh, itE, fitsD, fitD]; rw [inD_of (by omega) (by omega)]; rfl
  | .share j, h => by
    have h : j < many := h
    simp only [weE, wsh, itE, fitsD, fitD]; rw [inD_of (by omega) (by omega)]; rfl
  | .two w a b, h => rfl
  | .times f a, h => by simp only [weE, wsh, itE, fitsD, fitD]; rw [inD_of h.1.1 h.1.2]; rfl
  | .by i a, h => by
    have h1 : i < 4 := h.1
    simp only [weE, wsh, itE, fitsD, fitD]; rw [inD_of (by omega) (by omega)]; rfl
  | .when i c a b, h => by
    have h1 : i < 4 := h.1
    simp only [weE, wsh, itE, fitsD, fitD]; rw [inD_of (by omega) (by omega), inD_of h.2.1.1 h.2.1.2]; rfl
  | .whr j c a b, h => by
    have h1 : j < many := h.1
    simp only [weE, wsh, itE, fitsD, fitD]; rw [inD_of (by omega) (by omega), inD_of h.2.1.1 h.2.1.2]; rfl
theorem itE_parts : ∀ e : Ex, partsD (wsh (weE e)) (itE e) = e.kids.map toD
  | .fig _ => rfl
  | .reg _ => rfl
  | .share _ => rfl
  | .two _ _ _ => rfl
  | .times _ _ => rfl
  | .by _ _ => rfl
  | .when _ _ _ _ => rfl
  | .whr _ _ _ _ => rfl
theorem wdE_of {many : Nat} : ∀ {k : Nat} {e : Ex}, ExOk many e → wdE many k (toD e)
  | 0, e, _ => ⟨weE e, itE e, toD_eq e⟩
  | k + 1, e, h => ⟨weE e, itE e, toD_eq e, fun _ x hx => by
    rw [itE_parts] at hx
    obtain ⟨y, hy, rfl⟩ := List.mem_map.mp hx
    exact wdE_of (kids_ok e y h hy)⟩
theorem cntE_of {many : Nat} : ∀ {k : Nat} {e : Ex}, ExOk many e → e.dep ≤ k → cntE many k (toD e) = e.size
  | 0, e, _, h => absurd h (by have := dep_pos' e; omega)
  | k + 1, e, h, hd => by
    rw [toD_eq, cntE_eq, if_pos (itE_fits h), itE_parts, List.map_map]
    have ih : ∀ y ∈ e.kids, cntE many k (toD y) = y.size := fun y hy => cntE_of (kids_ok e y h hy) (by have := kids_dep e y hy; omega)
    rw [show e.kids.map (cntE many k ∘ toD) = e.kids.map Ex.size from List.map_congr_left ih]
    cases e with
    | fig => rfl
    | reg => rfl
    | share => rfl
    | two w a b =>
      have := size_pos a
      have := size_pos b
      show addE 1 [a.size, b.size] = 1 + a.size + b.size
      simp only [addE]
      rw [if_neg (by omega), if_neg (by omega)]
    | times f a =>
      have := size_pos a
      show addE 1 [a.size] = 1 + a.size
      simp only [addE]
      rw [if_neg (by omega)]
    | «by» f a =>
      have := size_pos a
      show addE 1 [a.size] = 1 + a.size
      simp only [addE]
      rw [if_neg (by omega)]
    | when i c a b =>
      have := size_pos a
      have := size_pos b
      show addE 1 [a.size, b.size] = 1 + a.size + b.size
      simp only [addE]
      rw [if_neg (by omega), if_neg (by omega)]
    | whr i c a b =>
      have := size_pos a
      have := size_pos b
      show addE 1 [a.size, b.size] = 1 + a.size + b.size
      simp only [addE]
      rw [if_neg (by omega), if_neg (by omega)]
theorem exD_toD : ∀ {k : Nat} {e : Ex}, e.dep ≤ k → exD k (toD e) = e
  | 0, e, h => absurd h (by have := dep_pos' e; omega)
  | k + 1, e, h => by
    rw [toD_eq]
    unfold exD
    simp only [weOf_wen]
    cases e with
    | fig c => rfl
    | reg i => rfl
    | share j => rfl
    | two w a b =>
      have h : max a.dep b.dep + 1 ≤ k + 1 := h
      show Ex.two w (exD k (toD a)) (exD k (toD b)) = _
      rw [exD_toD (e := a) (by omega), exD_toD (e := b) (by omega)]
    | times f a =>
      have h : a.dep + 1 ≤ k + 1 := h
      show Ex.times f (exD k (toD a)) = _
      rw [exD_toD (e := a) (by omega)]
    | «by» f a =>
      have h : a.dep + 1 ≤ k + 1 := h
      show Ex.by f (exD k (toD a)) = _
      rw [exD_toD (e := a) (by omega)]
    | when i c a b =>
      have h : max a.dep b.dep + 1 ≤ k + 1 := h
      show Ex.when i c (exD k (toD a)) (exD k (toD b)) = _
      rw [exD_toD (e := a) (by omega), exD_toD (e := b) (by omega)]
    | whr i c a b =>
      have h : max a.dep b.dep + 1 ≤ k + 1 := h
      show Ex.whr i c (exD k (toD a)) (exD k (toD b)) = _
      rw [exD_toD (e := a) (by omega), exD_toD (e := b) (by omega)]
/-- a stake that is one -/
theorem stakeD_of {many sc : Nat} {e : Ex} (h : ExOk many e) (hd : e.dep ≤ 8) : stakeD many sc (toD e) = (decide (e.size ≤ 40) && (decide (-(500 * pw2 sc) ≤ (spn e).1) && decide ((spn e).2 ≤ 500 * pw2 sc))) := by
  unfold stakeD isEx
  rw [cntE_of h hd, exD_toD hd, decide_eq_true (show 1 ≤ e.size from size_pos e), Bool.true_and]
end NG

namespace NG
open PySem PySem.Spec PyProof.Rows L2
/-! ### a def with defaults, called by fewer arguments -/
structure CalD (P : Program) (w : World) (K : PySem.W.Frag) (mg : Str → Option Value) (base : Heap) (k : Nat) (x : Str) (dvs : List V) (sp : Sp) : Prop where
  ex : ∃ (f : Addr) (fd : FuncData) (ps : List Str) (ds : List Value), FnOk P w K mg base CX0 k f fd ps sp ∧ mg x = some (.ref f) ∧ PySem.W.keepIn K (.ref f) = true ∧ Binds K fd ps ds ∧ Vals dvs ds
theorem pe_cd {X : Cx} {k j : Nat} {x : Str} {dvs : List V} {sp : Sp} {p pos : Pos} {e : Expr} {es : List Expr} {t : TA} (c : CalD X.prog X.w X.K X.mg X.base k x dvs sp) (hr : Room j X.A) (hk : k ≤ j) (hg : Gl X x) (ha : PA X (e :: es) t)
    (hdb : (x == ("__debug__" : Str)) = false := by decide) (he : starEach (e :: es) X.env = (false, eval e X.env) :: starEach es X.env := by rfl) (hpl : (backTo pos (starEach es X.env)).any (·.1) = false := by rfl) :
    PE X (.Call (.Name x p) (e :: es) [] pos) (tCall sp dvs E0 t) := by
  obtain ⟨f, fd, ps, ds, F, hm, kp, b, hd⟩ := c.ex
  exact pe_call F (hr.mono hk) hg hm kp b hd pass0 ha hdb he hpl
theorem fund_mk {K : PySem.W.Frag} {x qual : Str} {st : Stmt} {f dT : Addr} {oc : Value} {od odT : Option Addr} {kV doc pm : Value} {an : Option Addr} {cdv ct : Value} {osl slT : Array (Option Value)} {its : Array Value} {m : Nat} {dvs : List V}
    (l : K.lookup f = some ⟨oc, od, .func (PySem.W.fnOf x qual (defArgs st) (defBody st) (defScope st) (.ref dT) kV doc pm an cdv ct), osl⟩) (c : PySem.W.codeIn K cdv qual = true) (kp : PySem.W.keepIn K (.ref f) = true)
    (lt : K.lookup dT = some ⟨.type "tuple", odT, .seq its m, slT⟩) (hv : Vals dvs its.toList) (hn : dvs ≠ []) : FunD K x qual (defArgs st) (defBody st) (defScope st) dvs [] f (PySem.W.fnOf x qual (defArgs st) (defBody st) (defScope st) (.ref dT) kV doc pm an cdv ct) :=
  ⟨⟨oc, od, .ref dT, kV, doc, pm, an, cdv, ct, osl, rfl, l, c, .inr ⟨hn, dT, _, its.toList, m, rfl, lt, by simp, hv⟩, .inl rfl⟩, kp⟩
theorem fund_ok {P : Program} {w : World} {K : PySem.W.Frag} {mg : Str → Option Value} {base : Heap} {x qual : Str} {params : Arguments} {body : List Stmt} {scope : Scope} {dvs : List V} {kws : List (Str × V)} {f : Addr} {fd : FuncData} {N ps : List Str} {k : Nat} {sp : Sp} (F : FunD K x qual params body scope dvs kws f fd) (S : FnScope N ps scope) (len : ∀ vs H Q E, sp vs H Q E → vs.length = ps.length)
    (hbody : ∀ (cdv : Value) (A : Around) (outer : List Env) (s : Shared) (H : Hp) (vs : List V) (Q : VK) (E : XK), Room k (A.deeper (envOfC qual scope s.heap.objs.size f cdv)) → sp vs H Q E →
      ∃ t, PSs (cxOf CX0 P w K mg base N qual scope f cdv A outer s H E).nox body t ∧ t { nx := fun _ H' => Q .non H', rt := Q } (start N vs) H) : FnOk P w K mg base CX0 (k + 1) f fd ps sp :=
  F.ok S len fun cdv A outer s H vs Q E hr h => by
    obtain ⟨t, ht, hq⟩ := hbody cdv A outer s H vs Q E hr h
    exact ⟨t, ht.nox, hq⟩
theorem binds_full {K : PySem.W.Frag} {fd : FuncData} {ps : List Str} {dvs : List V} {n : Nat} (h : ∃ ds, Vals (List.drop n dvs) ds ∧ L2.Binds K fd ps ds) (hn : List.drop n dvs = []) : L2.Binds K fd ps [] := by
  obtain ⟨ds, hd, hb⟩ := h
  rw [hn] at hd
  cases hd
  exact hb
/-! ### expressions without where words -/
def noW : Ex → Prop
  | .fig _ => True
  | .reg _ => True
  | .share _ => True
  | .two _ a b => noW a ∧ noW b
  | .times _ a => noW a
  | .by _ a => noW a
  | .when _ _ a b => noW a ∧ noW b
  | .whr _ _ _ _ => False
theorem noW_kids : ∀ {e : Ex}, noW e → ∀ k ∈ e.kids, noW k
  | .fig _, _, k, hk => by cases hk
  | .reg _, _, k, hk => by cases hk
  | .share _, _, k, hk => by cases hk
  | .two _ a b, h, k, hk => by
    rcases List.mem_cons.mp hk with rfl | hk
    · exact h.1
    · rw [List.mem_singleton.mp hk]; exact h.2
  | .times _ a, h, k, hk => by rw [List.mem_singleton.mp hk]; exact h
  | .by _ a, h, k, hk => by rw [List.mem_singleton.mp hk]; exact h
  | .when _ _ a b, h, k, hk => by
    rcases List.mem_cons.mp hk with rfl | hk
    · exact h.1
    · rw [List.mem_singleton.mp hk]; exact h.2
  | .whr _ _ _ _, h, k, hk => h.elim
end NG

namespace NG
open PySem PySem.Spec PyProof.Rows L2
/-! ### doubters that are such -/
theorem sumB_cons {t i : Nat} {r : List (Option Nat)} (h : t + i ≤ 20) : sumB t (some i :: r) = sumB (t + i) r := by
  show (if 20 < t + i then none else sumB (t + i) r) = _
  rw [if_neg (by omega)]
theorem cntB_sum (many : Int) (k : Nat) (ds : List PyData) (h : ds = [] ∨ ∃ k', k = k' + 1) : cntB many k (.tuple ds) = sumB 0 (ds.map (deedD many (cntB many (k - 1)))) := by
  rcases h with rfl | ⟨k', rfl⟩
  · cases k <;> rfl
  · rfl
theorem op_fits {many : Nat} {o : D5} {i : Nat} {x : Int} (hi : i < 4) (hx : xok many o x) : fitsD many (wbsh (.op o)) [.int (i : Int), .int x] = true := by
  cases o with
  | put => simp only [wbsh, fitsD, fitD]; rw [inD_of (by omega) (by omega), inD_of hx.1 hx.2]; rfl
  | add => simp only [wbsh, fitsD, fitD]; rw [inD_of (by omega) (by omega), inD_of hx.1 hx.2]; rfl
  | copy => have h1 := hx.1; have h2 := hx.2; simp only [wbsh, fitsD, fitD]; rw [inD_of (by omega) (by omega), inD_of h1 (by omega)]; rfl
  | plus => have h1 := hx.1; have h2 := hx.2; simp only [wbsh, fitsD, fitD]; rw [inD_of (by omega) (by omega), inD_of h1 (by omega)]; rfl
  | told => have h1 := hx.1; have h2 := hx.2; simp only [wbsh, fitsD, fitD]; rw [inD_of (by omega) (by omega), inD_of h1 (by omega)]; rfl
theorem cntB_of {many : Nat} : ∀ {d : Ds} {k t : Nat}, DsOk many d → d.dep ≤ k → t + d.cnt ≤ 20 → sumB t ((dsD d).map (deedD many (cntB many (k - 1)))) = some (t + d.cnt)
  | .nil, k, t, _, _, _ => rfl
  | .op o i x r, k, t, ⟨h1, h2, h3⟩, hd, hc => by
    have hd : max 1 r.dep ≤ k := hd
    have hc : t + (1 + r.cnt) ≤ 20 := hc
    have e : deedD many (cntB many (k - 1)) (.tuple [.str (dn o), .int (i : Int), .int x]) = some 1 := by
      have := deedD_eq many (cntB many (k - 1)) (.op o) [.int (i : Int), .int x]
      rw [if_pos (op_fits h1 h2)] at this
      exact this
    show sumB t (deedD many (cntB many (k - 1)) (.tuple [.str (dn o), .int (i : Int), .int x]) :: (dsD r).map (deedD many (cntB many (k - 1)))) = some (t + (1 + r.cnt))
    rw [e, sumB_cons (by omega), cntB_of h3 (by omega) (by omega)]
    congr 1
    omega
  | .when i c a b r, k, t, ⟨h1, h2, h3, h4, h5⟩, hd, hc => by
    have hd : max (max a.dep b.dep + 1) r.dep ≤ k := hd
    have hc : t + (1 + (a.cnt + b.cnt) + r.cnt) ≤ 20 := hc
    have ca : cntB many (k - 1) (.tuple (dsD a)) = some a.cnt := by
      rw [cntB_sum many (k - 1) (dsD a) (by
        cases a with
        | nil => exact .inl rfl
        | op o i x r => have : max 1 r.dep ≤ k - 1 := by have h : (Ds.op o i x r).dep = max 1 r.dep := rfl; omega
                        exact .inr ⟨k - 2, by omega⟩
        | when i c a b r => have : max (max a.dep b.dep + 1) r.dep ≤ k - 1 := by have h : (Ds.when i c a b r).dep = max (max a.dep b.dep + 1) r.dep := rfl; omega
                            exact .inr ⟨k - 2, by omega⟩), cntB_of h3 (by omega) (by omega), Nat.zero_add]
    have cb : cntB many (k - 1) (.tuple (dsD b)) = some b.cnt := by
      rw [cntB_sum many (k - 1) (dsD b) (by
        cases b with
        | nil => exact .inl rfl
        | op o i x r => have : max 1 r.dep ≤ k - 1 := by have h : (Ds.op o i x r).dep = max 1 r.dep := rfl; omega
                        exact .inr ⟨k - 2, by omega⟩
        | when i c a b r => have : max (max a.dep b.dep + 1) r.dep ≤ k - 1 := by have h : (Ds.when i c a b r).dep = max (max a.dep b.dep + 1) r.dep := rfl; omega
                            exact .inr ⟨k - 2, by omega⟩), cntB_of h4 (by omega) (by omega), Nat.zero_add]
    have e : deedD many (cntB many (k - 1)) (.tuple [.str "when", .int (i : Int), .int c, .tuple (dsD a), .tuple (dsD b)]) = some (1 + a.cnt + b.cnt) := by
      have := deedD_eq many (cntB many (k - 1)) .when [.int (i : Int), .int c, .tuple (dsD a), .tuple (dsD b)]
      rw [if_pos (by simp only [wbsh, fitsD, fitD]; rw [inD_of (by omega) (by omega), inD_of h2.1 h2.2]; rfl)] at this
      refine this.trans ?_
      show addB 1 [cntB many (k - 1) (.tuple (dsD a)), cntB many (k - 1) (.tuple (dsD b))] = _
      rw [ca, cb]
      rfl
    show sumB t (deedD many (cntB many (k - 1)) (.tuple [.str "when", .int (i : Int), .int c, .tuple (dsD a), .tuple (dsD b)]) :: (dsD r).map (deedD many (cntB many (k - 1)))) = some (t + (1 + (a.cnt + b.cnt) + r.cnt))
    rw [e, sumB_cons (by omega), cntB_of h5 (by omega) (by omega)]
    congr 1
    omega
theorem wdB_of {many : Int} : ∀ {k : Nat} {d : Ds}, wdB many k (.tuple (dsD d))
  | 0, _ => trivial
  | k + 1, d => fun ds e x hx => by
    cases e
    have go : ∀ {d : Ds}, x ∈ dsD d → ∃ w es, x = .tuple (.str (wbn w) :: es) ∧ (fitsD many (wbsh w) es = true → ∀ y ∈ es.drop 2, wdB many k y) := by
      intro d
      induction d with
      | nil => intro hx; cases hx
      | op o i z r ih =>
        intro hx
        rcases List.mem_cons.mp hx with rfl | hx
        · exact ⟨.op o, _, rfl, fun _ y hy => by cases hy⟩
        · exact ih hx
      | when i c a b r iha ihb ih =>
        intro hx
        rcases List.mem_cons.mp hx with rfl | hx
        · refine ⟨.when, _, rfl, fun _ y hy => ?_⟩
          rcases List.mem_cons.mp hy with rfl | hy
          · exact wdB_of
          · rw [List.mem_singleton.mp hy]
            exact wdB_of
        · exact ih hx
    exact go hx
structure DbFit (many : Nat) (D : Dbt) : Prop where
  nm : nameD D.name = true
  sc : D.scale < 5
  rg : RegOk D.begins
  sl : D.stakes.length = many
  st : ∀ e ∈ D.stakes, ExOk many e ∧ e.dep ≤ 8 ∧ e.size ≤ 40 ∧ -(500 * pw2 D.scale) ≤ (spn e).1 ∧ (spn e).2 ≤ 500 * pw2 D.scale
  bl : D.behinds.length = many
  bh : ∀ d ∈ D.behinds, DsOk many d ∧ d.dep ≤ 4 ∧ d.cnt ≤ 20
theorem all_map_of {α β : Type} {f : α → β} {p : β → Bool} {l : List α} (h : ∀ x ∈ l, p (f x) = true) : (l.map f).all p = true := by
  rw [List.all_eq_true]
  intro y hy
  obtain ⟨x, hx, rfl⟩ := List.mem_map.mp hy
  exact h x hx
theorem dbtD_true {many : Nat} {D : Dbt} (h : DbFit many D) : dbtD many D.name (D.scale : Int) (D.begins.map PyData.int) (D.stakes.map toD) (D.behinds.map fun d => .tuple (dsD d)) = true := by
  unfold dbtD
  have h1 : regsD (D.begins.map PyData.int) = true := by
    unfold regsD
    rw [List.length_map, decide_eq_true h.rg.1, Bool.true_and]
    exact all_map_of fun x hx => inD_of (h.rg.2 x hx).1 (h.rg.2 x hx).2
  have hsc := h.sc
  rw [h.nm, decide_eq_true (show (0 : Int) ≤ (D.scale : Int) by omega), decide_eq_true (show (D.scale : Int) ≤ 4 by omega), h1]
  refine (if_pos rfl).trans ?_
  rw [List.length_map, List.length_map, decide_eq_true h.sl, decide_eq_true h.bl, Bool.true_and, Bool.true_and, Bool.and_eq_true]
  refine ⟨all_map_of fun e he => ?_, all_map_of fun d hd => ?_⟩
  · obtain ⟨a1, a2, a3, a4, a5⟩ := h.st e he
    rw [Int.toNat_natCast, stakeD_of a1 a2, decide_eq_true a3, decide_eq_true a4, decide_eq_true a5]
    rfl
  · obtain ⟨a1, a2, a3⟩ := h.bh d hd
    rw [cntB_sum many 4 (dsD d) (.inr ⟨3, rfl⟩), cntB_of (k := 4) (t := 0) a1 a2 (by omega)]
    rfl
/-! ### laid out -/
theorem laymap {α : Type} {f : α → PyData} : ∀ {l : List α}, (∀ x ∈ l, (f x).canLay0 = true) → PyData.canLayAll0 (l.map f) = true
  | [], _ => rfl
  | x :: r, h => by
    show ((f x).canLay0 && PyData.canLayAll0 (r.map f)) = true
    rw [h x (List.mem_cons_self ..), laymap fun y hy => h y (List.mem_cons_of_mem _ hy)]
    rfl
theorem depmap {α : Type} {f : α → PyData} {k : Nat} : ∀ {l : List α}, (∀ x ∈ l, (f x).depth ≤ k) → PyData.depthAll (l.map f) ≤ k
  | [], _ => Nat.zero_le _
  | x :: r, h => by
    have a := h x (List.mem_cons_self ..)
    have b := depmap (l := r) fun y hy => h y (List.mem_cons_of_mem _ hy)
    show max (f x).depth (PyData.depthAll (r.map f)) ≤ k
    omega
theorem layds : ∀ d : Ds, PyData.canLayAll0 (dsD d) = true
  | .nil => rfl
  | .op o i x r => by
    show (((PyData.canLay0 (.str (dn o))) && (true && (true && true))) && PyData.canLayAll0 (dsD r)) = true
    rw [layds r]
    cases o <;> decide +kernel
  | .when i c a b r => by
    show ((PyData.canLay0 (.str "when") && (true && (true && (PyData.canLayAll0 (dsD a) && (PyData.canLayAll0 (dsD b) && true))))) && PyData.canLayAll0 (dsD r)) = true
    rw [layds a, layds b, layds r]
    decide +kernel
theorem depds : ∀ d : Ds, PyData.depthAll (dsD d) ≤ 2 * d.dep
  | .nil => Nat.zero_le _
  | .op o i x r => by
    have := depds r
    show max (max 0 (max 0 (max 0 0)) + 1) (PyData.depthAll (dsD r)) ≤ 2 * max 1 r.dep
    omega
  | .when i c a b r => by
    have h1 := depds a
    have h2 := depds b
    have h3 := depds r
    show max (max 0 (max 0 (max 0 (max (PyData.depthAll (dsD a) + 1) (max (PyData.depthAll (dsD b) + 1) 0)))) + 1) (PyData.depthAll (dsD r)) ≤ 2 * max (max a.dep b.dep + 1) r.dep
    omega
theorem shaped_db {many : Nat} {D : Dbt} (hn : PyData.canLay0 (.str D.name) = true) (h : DbFit many D) : SeqAt.shaped (dbD D) = true := by
  have h2 : PyData.canLayAll0 (D.begins.map PyData.int) = true := laymap fun _ _ => rfl
  have h3 : PyData.canLayAll0 (D.stakes.map toD) = true := laymap fun e _ => lay_ex e
  have h4 : PyData.canLayAll0 (D.behinds.map fun d => .tuple (dsD d)) = true := laymap fun d _ => layds d
  have d2 : PyData.depthAll (D.begins.map PyData.int) ≤ 0 := depmap fun _ _ => Nat.le_refl _
  have d3 : PyData.depthAll (D.stakes.map toD) ≤ 8 := depmap fun e he => Nat.le_trans (depth_ex e) (h.st e he).2.1
  have d4 : PyData.depthAll (D.behinds.map fun d => .tuple (dsD d)) ≤ 9 := depmap fun d hd => by
    have a := depds d
    have b := (h.bh d hd).2.1
    show PyData.depthAll (dsD d) + 1 ≤ 9
    omega
  show ((PyData.canLay0 (.str D.name) && (true && (PyData.canLayAll0 (D.begins.map PyData.int) && (PyData.canLayAll0 (D.stakes.map toD) && (PyData.canLayAll0 (D.behinds.map fun d => .tuple (dsD d)) && true))))) && decide (max 0 (max 0 (max (PyData.depthAll (D.begins.map PyData.int) + 1) (max (PyData.depthAll (D.stakes.map toD) + 1) (max (PyData.depthAll (D.behinds.map fun d => .tuple (dsD d)) + 1) 0)))) + 1 ≤ 64)) = true
  rw [hn, h2, h3, h4, decide_eq_true (by omega)]
  rfl
/-! ### shares told, rows of ints shown -/
theorem shw_ints : ∀ {ns : List Int}, (∀ x ∈ ns, x.natAbs < 2 ^ 600) → ShwAll (ns.map PyData.int) (602 * ns.length) 0
  | [], _ => ShwAll.nil
  | n :: r, h => by
    have h1 := Shw.int (i := n) (h n (List.mem_cons_self ..))
    have h2 := shw_ints (ns := r) fun x hx => h x (List.mem_cons_of_mem _ hx)
    have h3 := ShwAll.cons h1 h2 (Nat.le_refl 0) (Nat.le_refl 0)
    refine ⟨h3.sh, h3.lf, Nat.le_trans h3.wt ?_, h3.dp⟩
    rw [List.length_cons]
    omega
end NG

namespace NG
open PySem PySem.Spec PyProof.Rows L2
/-! ### fractions in lowest numbers -/
def fr (u d : Nat) : Nat × Nat := (u / Nat.gcd u d, d / Nat.gcd u d)
theorem fr_scale {u d k : Nat} (hk : 0 < k) : fr (u * k) (d * k) = fr u d := by
  unfold fr
  rw [Nat.gcd_mul_right, Nat.mul_div_mul_right _ _ hk, Nat.mul_div_mul_right _ _ hk]
theorem fr_eq (u d : Nat) : u = (fr u d).1 * Nat.gcd u d ∧ d = (fr u d).2 * Nat.gcd u d :=
  ⟨(Nat.div_mul_cancel (Nat.gcd_dvd_left u d)).symm, (Nat.div_mul_cancel (Nat.gcd_dvd_right u d)).symm⟩
theorem fr_le (u d : Nat) : (fr u d).1 ≤ u ∧ (fr u d).2 ≤ d := ⟨Nat.div_le_self _ _, Nat.div_le_self _ _⟩
theorem fr_pos {u d : Nat} (h : 0 < d) : 0 < (fr u d).2 := Nat.div_pos (Nat.le_of_dvd h (Nat.gcd_dvd_right _ _)) (Nat.gcd_pos_of_pos_right _ h)
theorem fr_add {U D M W : Nat} (hD : 0 < D) (hW : 0 < W) : fr ((fr U D).1 * (fr M W).2 + (fr M W).1 * (fr U D).2) ((fr U D).2 * (fr M W).2) = fr (U * W + M * D) (D * W) := by
  have h1 := fr_eq U D
  have h2 := fr_eq M W
  have g1 : 0 < Nat.gcd U D := Nat.gcd_pos_of_pos_right _ hD
  have g2 : 0 < Nat.gcd M W := Nat.gcd_pos_of_pos_right _ hW
  have e1 : U * W + M * D = ((fr U D).1 * (fr M W).2 + (fr M W).1 * (fr U D).2) * (Nat.gcd U D * Nat.gcd M W) := by
    generalize Nat.gcd U D = a at *
    generalize Nat.gcd M W = b at *
    generalize (fr U D).1 = c at *
    generalize (fr U D).2 = d at *
    generalize (fr M W).1 = e at *
    generalize (fr M W).2 = f at *
    rw [h1.1, h1.2, h2.1, h2.2]
    grind
  have e2 : D * W = ((fr U D).2 * (fr M W).2) * (Nat.gcd U D * Nat.gcd M W) := by
    generalize Nat.gcd U D = a at *
    generalize Nat.gcd M W = b at *
    generalize (fr U D).2 = d at *
    generalize (fr M W).2 = f at *
    rw [h1.2, h2.2]
    grind
  rw [e1, e2, fr_scale (Nat.mul_pos g1 g2)]
theorem fr_step {U D w m : Nat} (hD : 0 < D) : fr ((fr U D).1 * w * w + m * (fr U D).2) ((fr U D).2 * w * w) = fr (U * (w * w) + m * D) (D * (w * w)) := by
  have h1 := fr_eq U D
  have g1 : 0 < Nat.gcd U D := Nat.gcd_pos_of_pos_right _ hD
  have e1 : U * (w * w) + m * D = ((fr U D).1 * w * w + m * (fr U D).2) * Nat.gcd U D := by
    generalize Nat.gcd U D = a at *
    generalize (fr U D).1 = c at *
    generalize (fr U D).2 = d at *
    rw [h1.1, h1.2]
    grind
  have e2 : D * (w * w) = ((fr U D).2 * w * w) * Nat.gcd U D := by
    generalize Nat.gcd U D = a at *
    generalize (fr U D).2 = d at *
    rw [h1.2]
    grind
  rw [e1, e2, fr_scale g1]
theorem gl_two (u d : Nat) : gl [(u : Int), (d : Int)] = Nat.gcd u d := by
  show Nat.gcd (Nat.gcd 0 ((u : Int)).toNat) ((d : Int)).toNat = _
  rw [Nat.gcd_zero_left]
  rfl
theorem low_two (u d : Nat) : low [(u : Int), (d : Int)] = [((fr u d).1 : Int), ((fr u d).2 : Int)] := by
  unfold low fr
  rw [gl_two]
  simp only [List.map_cons, List.map_nil, Int.natCast_ediv]

/-! ### what shares miss -/
abbrev Row := List Int × Nat
theorem fr01 : fr 0 1 = (0, 1) := by decide
def missI (ss : List Int) (j : Nat) : Int := ss.sum * ss.sum - 2 * ss.sum * ss.getD j 0 + (ss.map fun x => x * x).sum
def missL (ss : List Int) (j : Nat) : Int := ((List.range ss.length).map fun p => (ss.sum * (if p = j then 1 else 0) - ss.getD p 0) * (ss.sum * (if p = j then 1 else 0) - ss.getD p 0)).sum
theorem miss_eq {ss : List Int} {j : Nat} (hl : ss.length = 2 ∨ ss.length = 3) (hj : j < ss.length) : missL ss j = missI ss j := by
  unfold missL missI
  rcases hl with hl | hl
  · match ss, hl with
    | [a, b], _ =>
      have hj : j = 0 ∨ j = 1 := by simp at hj; omega
      rcases hj with rfl | rfl <;> simp [List.range_succ] <;> grind
  · match ss, hl with
    | [a, b, c], _ =>
      have hj : j = 0 ∨ j = 1 ∨ j = 2 := by simp at hj; omega
      rcases hj with rfl | rfl | rfl <;> simp [List.range_succ] <;> grind
theorem sq_nonneg (x : Int) : 0 ≤ x * x := by
  rcases Int.le_total 0 x with h | h
  · exact Int.mul_nonneg h h
  · exact Int.mul_nonneg_of_nonpos_of_nonpos h h
theorem miss_nonneg {ss : List Int} {j : Nat} (hl : ss.length = 2 ∨ ss.length = 3) (hj : j < ss.length) : 0 ≤ missI ss j := by
  rw [← miss_eq hl hj]
  exact sum_nonneg fun x hx => by
    obtain ⟨p, _, rfl⟩ := List.mem_map.mp hx
    exact sq_nonneg _
theorem miss_le {ss : List Int} {j : Nat} (hl : ss.length = 2 ∨ ss.length = 3) (hb : ∀ x ∈ ss, 0 ≤ x) (hj : j < ss.length) : missI ss j ≤ 2 * (ss.sum * ss.sum) := by
  unfold missI
  rcases hl with hl | hl
  · match ss, hl, hb with
    | [a, b], _, hb =>
      have ha := hb a (by simp)
      have hbb := hb b (by simp)
      have h1 : 0 ≤ a * b := Int.mul_nonneg ha hbb
      have h2 := Int.mul_nonneg ha ha
      have h3 := Int.mul_nonneg hbb hbb
      have hj : j = 0 ∨ j = 1 := by simp at hj; omega
      rcases hj with rfl | rfl <;> simp <;> grind
  · match ss, hl, hb with
    | [a, b, c], _, hb =>
      have ha := hb a (by simp)
      have hbb := hb b (by simp)
      have hc := hb c (by simp)
      have h1 : 0 ≤ a * b := Int.mul_nonneg ha hbb
      have h2 := Int.mul_nonneg ha ha
      have h3 := Int.mul_nonneg hbb hbb
      have h4 := Int.mul_nonneg hc hc
      have h5 := Int.mul_nonneg ha hc
      have h6 := Int.mul_nonneg hbb hc
      have hj : j = 0 ∨ j = 1 ∨ j = 2 := by simp at hj; omega
      rcases hj with rfl | rfl | rfl <;> simp <;> grind
def wN (ss : List Int) : Nat := ss.sum.toNat
def mN (ss : List Int) (j : Nat) : Nat := (missI ss j).toNat
def stepR (x : Nat × Nat) (r : Row) : Nat × Nat := (x.1 * (wN r.1 * wN r.1) + mN r.1 r.2 * x.2, x.2 * (wN r.1 * wN r.1))
def udF (x : Nat × Nat) (rs : List Row) : Nat × Nat := rs.foldl stepR x
def ud (rs : List Row) : Nat × Nat := udF (0, 1) rs
theorem ud_take {rs : List Row} {i : Nat} {r : Row} (h : rs[i]? = some r) : ud (rs.take (i + 1)) = stepR (ud (rs.take i)) r := by
  unfold ud udF
  rw [List.take_add_one, h, List.foldl_append]
  rfl
theorem udF_lin (U0 D0 : Nat) : ∀ (rs : List Row) (x : Nat × Nat), udF (U0 * x.2 + x.1 * D0, D0 * x.2) rs = (U0 * (udF x rs).2 + (udF x rs).1 * D0, D0 * (udF x rs).2)
  | [], x => rfl
  | r :: rs, x => by
    have ih := udF_lin U0 D0 rs (stepR x r)
    show udF (stepR (U0 * x.2 + x.1 * D0, D0 * x.2) r) rs = _
    have e : stepR (U0 * x.2 + x.1 * D0, D0 * x.2) r = (U0 * (stepR x r).2 + (stepR x r).1 * D0, D0 * (stepR x r).2) := by
      unfold stepR
      generalize wN r.1 * wN r.1 = w2
      generalize mN r.1 r.2 = m
      apply Prod.ext
      · show (U0 * x.2 + x.1 * D0) * w2 + m * (D0 * x.2) = U0 * (x.2 * w2) + (x.1 * w2 + m * x.2) * D0
        grind
      · show D0 * x.2 * w2 = D0 * (x.2 * w2)
        grind
    rw [e, ih]
    rfl
theorem ud_split (rs : List Row) (k : Nat) : ud rs = ((ud (rs.take k)).1 * (ud (rs.drop k)).2 + (ud (rs.drop k)).1 * (ud (rs.take k)).2, (ud (rs.take k)).2 * (ud (rs.drop k)).2) := by
  have h := udF_lin (ud (rs.take k)).1 (ud (rs.take k)).2 (rs.drop k) (0, 1)
  have e : ud rs = udF (ud (rs.take k)) (rs.drop k) := by
    unfold ud udF
    rw [← List.foldl_append, List.take_append_drop]
  rw [e]
  rw [show ((ud (rs.take k)).1 * ((0, 1) : Nat × Nat).2 + ((0, 1) : Nat × Nat).1 * (ud (rs.take k)).2, (ud (rs.take k)).2 * ((0, 1) : Nat × Nat).2) = ud (rs.take k) by
    apply Prod.ext
    · show (ud (rs.take k)).1 * 1 + 0 * _ = _
      omega
    · show (ud (rs.take k)).2 * 1 = _
      omega] at h
  exact h
structure RowOk (many : Nat) (r : Row) : Prop where
  len : r.1.length = many
  bnd : ∀ x ∈ r.1, 0 ≤ x ∧ x < 2 ^ 40
  pos : 0 < r.1.sum
  sum : r.1.sum < 2 ^ 42
  sgn : r.2 < many
theorem ud_bnd {many : Nat} (hm : many = 2 ∨ many = 3) : ∀ (rs : List Row) (x : Nat × Nat) (n : Nat), (∀ r ∈ rs, RowOk many r) → 0 < x.2 → x.2 ≤ 2 ^ (84 * n) → x.1 ≤ 2 * n * x.2 →
    0 < (udF x rs).2 ∧ (udF x rs).2 ≤ 2 ^ (84 * (n + rs.length)) ∧ (udF x rs).1 ≤ 2 * (n + rs.length) * (udF x rs).2
  | [], x, n, _, h1, h2, h3 => ⟨h1, h2, h3⟩
  | r :: rs, x, n, h, h1, h2, h3 => by
    have o := h r (by simp)
    have hw : 0 < wN r.1 := by
      have := o.pos
      unfold wN
      omega
    have hw2 : wN r.1 < 2 ^ 42 := by
      have := o.sum
      unfold wN
      omega
    have hw3 : wN r.1 * wN r.1 ≤ 2 ^ 84 := by
      have := Nat.mul_le_mul (Nat.le_of_lt hw2) (Nat.le_of_lt hw2)
      rw [show (2 : Nat) ^ 42 * 2 ^ 42 = 2 ^ 84 by decide] at this
      exact this
    have hmiss : mN r.1 r.2 ≤ 2 * (wN r.1 * wN r.1) := by
      have hl : r.1.length = 2 ∨ r.1.length = 3 := by rw [o.len]; exact hm
      have := miss_le hl (fun x hx => (o.bnd x hx).1) (by rw [o.len]; exact o.sgn)
      have e : ((wN r.1 : Nat) : Int) = r.1.sum := by
        have := o.pos
        unfold wN
        omega
      rw [← e] at this
      unfold mN
      have e2 : ((2 * (wN r.1 * wN r.1) : Nat) : Int) = 2 * ((wN r.1 : Int) * (wN r.1 : Int)) := by push_cast; rfl
      omega
    have ih := ud_bnd hm rs (stepR x r) (n + 1) (fun r' hr => h r' (List.mem_cons_of_mem _ hr)) (Nat.mul_pos h1 (Nat.mul_pos hw hw)) ?_ ?_
    · rw [show n + 1 + rs.length = n + (r :: rs).length by rw [List.length_cons]; omega] at ih
      exact ih
    · show x.2 * (wN r.1 * wN r.1) ≤ 2 ^ (84 * (n + 1))
      rw [show 84 * (n + 1) = 84 * n + 84 by omega, Nat.pow_add]
      exact Nat.mul_le_mul h2 hw3
    · show x.1 * (wN r.1 * wN r.1) + mN r.1 r.2 * x.2 ≤ 2 * (n + 1) * (x.2 * (wN r.1 * wN r.1))
      have a1 := Nat.mul_le_mul_right (wN r.1 * wN r.1) h3
      have a2 := Nat.mul_le_mul_right x.2 hmiss
      generalize wN r.1 * wN r.1 = w2 at *
      generalize mN r.1 r.2 = m at *
      have e : 2 * (n + 1) * (x.2 * w2) = 2 * n * x.2 * w2 + 2 * w2 * x.2 := by grind
      omega
theorem ud_small {many : Nat} (hm : many = 2 ∨ many = 3) {rs : List Row} (h : ∀ r ∈ rs, RowOk many r) (hl : rs.length ≤ 18) : 0 < (ud rs).2 ∧ (ud rs).2 < 2 ^ 1520 ∧ (ud rs).1 < 2 ^ 1520 := by
  obtain ⟨h1, h2, h3⟩ := ud_bnd hm rs (0, 1) 0 h (by decide) (by decide) (by decide)
  have e : (2 : Nat) ^ (84 * (0 + rs.length)) ≤ 2 ^ 1512 := Nat.pow_le_pow_right (by decide) (by omega)
  have p : (2 : Nat) ^ 1520 = 2 ^ 1512 * 256 := by rw [show 1520 = 1512 + 8 by rfl, Nat.pow_add]
  have e0 : 0 < (2 : Nat) ^ 1512 := Nat.pow_pos (by decide)
  have h2' : (ud rs).2 ≤ 2 ^ 1512 := Nat.le_trans h2 e
  refine ⟨h1, ?_, ?_⟩
  · rw [p]
    generalize (2 : Nat) ^ 1512 = z at *
    omega
  · have : (ud rs).1 ≤ 36 * (ud rs).2 := Nat.le_trans h3 (Nat.mul_le_mul_right _ (by omega))
    rw [p]
    generalize (2 : Nat) ^ 1512 = z at *
    omega

/-! ### on the heap -/
def Sh4 (K : PySem.W.Frag) (H : Hp) (many : Nat) (ss : List Int) (v : V) : Prop := ∃ p, v = .ref p ∧ SqT K H p (ss.map V.int) ∧ ss.length = many ∧ (∀ x ∈ ss, 0 ≤ x ∧ x < 2 ^ 40) ∧ 0 < ss.sum ∧ ss.sum < 2 ^ 42
theorem Sh4.imp {K : PySem.W.Frag} {H H' : Hp} {many : Nat} {rs : List Int} {v : V} (r : Sh4 K H many rs v) (h : ∀ p xs, SqT K H p xs → SqT K H' p xs) : Sh4 K H' many rs v := by
  obtain ⟨p, e, q, l⟩ := r
  exact ⟨p, e, h _ _ q, l⟩
theorem Sh4.same {K : PySem.W.Frag} {H H' : Hp} {many : Nat} {rs : List Int} {v : V} (r : Sh4 K H many rs v) (s : Same H H') : Sh4 K H' many rs v := r.imp fun _ _ h => same_sqt s h
theorem low_sh4 {ns : List Int} (hb : ∀ x ∈ ns, 0 ≤ x ∧ x < 2 ^ 40) (hl : ns.length ≤ 3) {y : Int} (hy : y ∈ ns) (py : 0 < y) :
    (∀ x ∈ low ns, 0 ≤ x ∧ x < 2 ^ 40) ∧ 0 < (low ns).sum ∧ (low ns).sum < 2 ^ 42 := by
  have h0 := low_sh (ns := ns) (fun x hx => ⟨(hb x hx).1, Int.lt_trans (hb x hx).2 (by decide)⟩) (by omega) hy py
  have hg := gl_pos hy py
  have h1 : ∀ x ∈ low ns, 0 ≤ x ∧ x < 2 ^ 40 := fun x hx => by
    obtain ⟨z, hz, rfl⟩ := List.mem_map.mp hx
    have h2 := hb z hz
    exact ⟨Int.ediv_nonneg h2.1 (by omega), Int.lt_of_le_of_lt (div_le_self' h2.1) h2.2⟩
  refine ⟨h1, h0.2.1, ?_⟩
  have h3 := sum_le (B := 2 ^ 40 - 1) (ms := low ns) fun x hx => by have := (h1 x hx).2; omega
  have h4 : (low ns).length ≤ 3 := by
    unfold low
    rw [List.length_map]
    exact hl
  have h5 : ((low ns).length : Int) * (2 ^ 40 - 1) ≤ 3 * (2 ^ 40 - 1) := Int.mul_le_mul_of_nonneg_right (by omega) (by decide)
  have h6 : (3 : Int) * (2 ^ 40 - 1) < 2 ^ 42 := by decide
  omega
def FrAt (K : PySem.W.Frag) (H : Hp) (x : Nat × Nat) (v : V) : Prop := ∃ p, v = .ref p ∧ SqT K H p [.int ((fr x.1 x.2).1 : Int), .int ((fr x.1 x.2).2 : Int)]
theorem FrAt.same {K : PySem.W.Frag} {H H' : Hp} {x : Nat × Nat} {v : V} (r : FrAt K H x v) (s : Same H H') : FrAt K H' x v := by
  obtain ⟨p, e, q⟩ := r
  exact ⟨p, e, same_sqt s q⟩
def RwAt (K : PySem.W.Frag) (H : Hp) (many : Nat) : List V → List Row → Prop
  | [], [] => True
  | v :: vs, r :: rs => (∃ p s, v = .ref p ∧ SqT K H p [s, .int (r.2 : Int)] ∧ Sh4 K H many r.1 s ∧ r.2 < many) ∧ RwAt K H many vs rs
  | _, _ => False
theorem RwAt.imp {K : PySem.W.Frag} {H H' : Hp} {many : Nat} (h : ∀ p xs, SqT K H p xs → SqT K H' p xs) : ∀ {vs : List V} {rs : List Row}, RwAt K H many vs rs → RwAt K H' many vs rs
  | [], [], _ => trivial
  | _ :: _, _ :: _, ⟨⟨p, s, e, q, sh, lt⟩, r⟩ => ⟨⟨p, s, e, h _ _ q, sh.imp h, lt⟩, RwAt.imp h r⟩
theorem RwAt.same {K : PySem.W.Frag} {H H' : Hp} {many : Nat} {vs : List V} {rs : List Row} (r : RwAt K H many vs rs) (s : Same H H') : RwAt K H' many vs rs := r.imp fun _ _ q => same_sqt s q
theorem RwAt.len {K : PySem.W.Frag} {H : Hp} {many : Nat} : ∀ {vs : List V} {rs : List Row}, RwAt K H many vs rs → vs.length = rs.length
  | [], [], _ => rfl
  | _ :: _, _ :: _, ⟨_, r⟩ => by rw [List.length_cons, List.length_cons, r.len]
theorem RwAt.snoc {K : PySem.W.Frag} {H : Hp} {many : Nat} {v : V} {e : Row} (x : ∃ p s, v = .ref p ∧ SqT K H p [s, .int (e.2 : Int)] ∧ Sh4 K H many e.1 s ∧ e.2 < many) : ∀ {vs : List V} {es : List Row}, RwAt K H many vs es → RwAt K H many (vs ++ [v]) (es ++ [e])
  | [], [], _ => ⟨x, trivial⟩
  | _ :: _, _ :: _, ⟨y, r⟩ => ⟨y, RwAt.snoc x r⟩
theorem RwAt.get {K : PySem.W.Frag} {H : Hp} {many : Nat} : ∀ {vs : List V} {es : List Row} {k : Nat} {v : V}, RwAt K H many vs es → vs[k]? = some v → ∃ e, es[k]? = some e ∧ ∃ p s, v = .ref p ∧ SqT K H p [s, .int (e.2 : Int)] ∧ Sh4 K H many e.1 s ∧ e.2 < many
  | [], [], _, _, _, h => by simp at h
  | v :: vs, e' :: es, 0, v', ⟨x, r⟩, h => by
    have : v = v' := Option.some.inj h
    subst this
    exact ⟨e', rfl, x⟩
  | v :: vs, e' :: es, k + 1, e, ⟨x, r⟩, h => RwAt.get (k := k) r h
theorem RwAt.take {K : PySem.W.Frag} {H : Hp} {many : Nat} : ∀ {vs : List V} {es : List Row} (k : Nat), RwAt K H many vs es → RwAt K H many (vs.take k) (es.take k)
  | [], [], k, _ => by simp [RwAt]
  | v :: vs, e :: es, 0, _ => trivial
  | v :: vs, e :: es, k + 1, ⟨x, r⟩ => ⟨x, RwAt.take k r⟩
theorem RwAt.drop {K : PySem.W.Frag} {H : Hp} {many : Nat} : ∀ {vs : List V} {es : List Row} (k : Nat), RwAt K H many vs es → RwAt K H many (vs.drop k) (es.drop k)
  | [], [], k, _ => by simp [RwAt]
  | v :: vs, e :: es, 0, h => h
  | v :: vs, e :: es, k + 1, ⟨x, r⟩ => RwAt.drop k r
theorem RwAt.ok {K : PySem.W.Frag} {H : Hp} {many : Nat} : ∀ {vs : List V} {es : List Row}, RwAt K H many vs es → ∀ r ∈ es, RowOk many r
  | [], [], _, r, h => by cases h
  | v :: vs, e :: es, ⟨⟨p, s, _, _, sh, lt⟩, r⟩, x, hx => by
    obtain ⟨q, _, _, h1, h2, h3, h4⟩ := sh
    rcases List.mem_cons.mp hx with rfl | hx
    · exact ⟨h1, h2, h3, h4, lt⟩
    · exact RwAt.ok r x hx
theorem RowOk.w {many : Nat} {r : Row} (o : RowOk many r) : ((wN r.1 : Nat) : Int) = r.1.sum ∧ 0 < wN r.1 ∧ wN r.1 < 2 ^ 42 := by
  have := o.pos
  have := o.sum
  unfold wN
  omega
theorem RowOk.m {many : Nat} {r : Row} (hm : many = 2 ∨ many = 3) (o : RowOk many r) : ((mN r.1 r.2 : Nat) : Int) = missI r.1 r.2 ∧ mN r.1 r.2 ≤ 2 ^ 85 := by
  have hl : r.1.length = 2 ∨ r.1.length = 3 := by rw [o.len]; exact hm
  have h1 := miss_nonneg hl (by rw [o.len]; exact o.sgn)
  have h2 := miss_le hl (fun x hx => (o.bnd x hx).1) (by rw [o.len]; exact o.sgn)
  have h3 : r.1.sum * r.1.sum ≤ 2 ^ 42 * 2 ^ 42 := Int.mul_le_mul (Int.le_of_lt o.sum) (Int.le_of_lt o.sum) (Int.le_of_lt o.pos) (by decide)
  unfold mN
  omega

/-! ### promises -/
def spCommon (K : PySem.W.Frag) : Sp := fun vs H Q _ => ∃ (p : Addr) (ns : List Int), vs = [.ref p] ∧ SqT K H p (ns.map V.int) ∧ (∀ x ∈ ns, 0 ≤ x) ∧ ∀ H', Same H H' → Q (.int (gl ns : Int)) H'
def spLowest (K : PySem.W.Frag) : Sp := fun vs H Q _ => ∃ (p : Addr) (ns : List Int) (y : Int), vs = [.ref p] ∧ SqT K H p (ns.map V.int) ∧ (∀ x ∈ ns, 0 ≤ x) ∧ y ∈ ns ∧ 0 < y ∧ y.natAbs < 2 ^ 8000 ∧ ns.length ≤ 100 ∧ ∀ H' t, Same H H' → SqT K H' t ((low ns).map V.int) → Q (.ref t) H'
def spAddMiss (K : PySem.W.Frag) : Sp := fun vs H Q _ => ∃ (x s : V) (a : Nat × Nat) (many : Nat) (r : Row), vs = [x, s, .int (r.2 : Int)] ∧ FrAt K H a x ∧ 0 < a.2 ∧ a.1 < 2 ^ 2000 ∧ a.2 < 2 ^ 2000 ∧ (many = 2 ∨ many = 3) ∧ Sh4 K H many r.1 s ∧ r.2 < many ∧ ∀ H' v, Same H H' → FrAt K H' (stepR a r) v → Q v H'
def spMisses (K : PySem.W.Frag) : Sp := fun vs H Q _ => ∃ (p : Addr) (xs : List V) (rs : List Row) (many : Nat), vs = [.ref p, .int (many : Int)] ∧ SqT K H p xs ∧ RwAt K H many xs rs ∧ (many = 2 ∨ many = 3) ∧ rs.length ≤ 18 ∧ ∀ H' v, Same H H' → FrAt K H' (ud rs) v → Q v H'
def spRival (K : PySem.W.Frag) : Sp := fun vs H Q _ => ∃ (p : Addr) (s : V) (xs : List V) (rs : List Row) (many : Nat) (told : List Int), vs = [.ref p, s] ∧ SqT K H p xs ∧ RwAt K H many xs rs ∧ Sh4 K H many told s ∧ (many = 2 ∨ many = 3) ∧ rs.length ≤ 18 ∧ ∀ H' v, Same H H' → FrAt K H' (ud (rs.map fun r => (told, r.2))) v → Q v H'
def spFraction (K : PySem.W.Frag) : Sp := fun vs H Q _ => ∃ (a : Nat × Nat), vs = [.int (a.1 : Int), .int (a.2 : Int)] ∧ 0 < a.2 ∧ a.1 < 2 ^ 8000 ∧ a.2 < 2 ^ 8000 ∧ ∀ H' v, Same H H' → FrAt K H' a v → Q v H'
def spAdded (K : PySem.W.Frag) : Sp := fun vs H Q _ => ∃ (x y : V) (a b : Nat × Nat), vs = [x, y] ∧ FrAt K H a x ∧ FrAt K H b y ∧ 0 < a.2 ∧ 0 < b.2 ∧ a.1 < 2 ^ 2000 ∧ a.2 < 2 ^ 2000 ∧ b.1 < 2 ^ 2000 ∧ b.2 < 2 ^ 2000 ∧ ∀ H' v, Same H H' → FrAt K H' (a.1 * b.2 + b.1 * a.2, a.2 * b.2) v → Q v H'
def spLMiss (K : PySem.W.Frag) : Sp := fun vs H Q _ => ∃ (s : V) (r : Row) (many : Nat), vs = [s, .int r.1.sum, .int (r.2 : Int)] ∧ Sh4 K H many r.1 s ∧ r.2 < many ∧ (many = 2 ∨ many = 3) ∧ ∀ H' v, Same H H' → FrAt K H' (mN r.1 r.2, wN r.1 * wN r.1) v → Q v H'
def spDue (K : PySem.W.Frag) : Sp := fun vs H Q _ => ∃ (p : Addr) (s : V) (xs : List V) (rs : List Row) (many : Nat) (told : List Int), vs = [.ref p, s] ∧ SqT K H p xs ∧ RwAt K H many xs rs ∧ Sh4 K H many told s ∧ told.sum = 1000 ∧ (many = 2 ∨ many = 3) ∧ rs.length ≤ 18 ∧ ∀ H' l x y, Same H H' → H l = none → H' l = some (.lst [x, y]) → FrAt K H' (ud rs) x → FrAt K H' (ud (rs.map fun r => (told, r.2))) y → Q (.ref l) H'
def spLow4 (K : PySem.W.Frag) : Sp := fun vs H Q _ => ∃ (p : Addr) (ns : List Int) (y : Int), vs = [.ref p] ∧ H p = some (.lst (ns.map V.int)) ∧ (∀ x ∈ ns, 0 ≤ x ∧ x < 2 ^ 40) ∧ ns.length ≤ 3 ∧ y ∈ ns ∧ 0 < y ∧
  ∀ H' v ms, Same H H' → Sh4 K H' ns.length ms v → Q v H'
def spShares4 (K : PySem.W.Frag) : Sp := fun vs H Q _ => ∃ (a : Addr) (many n : Nat), vs = [.ref a, .int (many : Int)] ∧ 1 ≤ many ∧ many ≤ 3 ∧ HandAt H a n ∧ n ≤ 999998000 ∧
  ∀ H' v ms, But a H H' → HandAt H' a (n + 20) → Sh4 K H' many ms v → Q v H'
def spThousand (K : PySem.W.Frag) : Sp := fun vs H Q _ => ∃ (a : Addr) (many n : Nat), vs = [.ref a, .int (many : Int)] ∧ (many = 2 ∨ many = 3) ∧ HandAt H a n ∧ n ≤ 999998000 ∧
  ∀ H' v ms, But a H H' → HandAt H' a (n + 4) → Sh4 K H' many ms v → ms.sum = 1000 → Q v H'
def spRows (K : PySem.W.Frag) : Sp := fun vs H Q _ => ∃ (a : Addr) (many n : Nat), vs = [.ref a, .int (many : Int)] ∧ (many = 2 ∨ many = 3) ∧ HandAt H a n ∧ n ≤ 999990000 ∧
  ∀ H' p xs rs, But a H H' → HandAt H' a (n + 400) → SqT K H' p xs → RwAt K H' many xs rs → rs.length ≤ 18 → Q (.ref p) H'

/-! ### shown -/
structure Shx (d : PyData) (w k : Nat) : Prop where
  sh : d.showable = true
  lf : d.leavesShort 2000 = true
  wt : d.weight ≤ w
  dp : d.depth ≤ k
theorem Shx.int {i : Int} (h : i.natAbs < 2 ^ 1600) : Shx (.int i) 1601 0 := by
  have hl : i.natAbs.log2 < 1600 := PySem.Flt.log2_lt_of (by decide) h
  refine ⟨?_, ?_, ?_, Nat.le_refl _⟩
  · show decide (i.natAbs.log2 < 1920) = true
    exact decide_eq_true (by omega)
  · show decide ((PyData.shown (.int i)).length ≤ 2000) = true
    refine decide_eq_true ?_
    have e := int_text_length_le (k := 1600) (by decide) hl
    show (Str.ofString (toString i)).length ≤ 2000
    rw [PySem.ofString_length]
    omega
  · show (if i == 0 then 0 else i.natAbs.log2 + 1) ≤ 1601
    split <;> omega
def frD (x : Nat × Nat) : PyData := .tuple [.int ((fr x.1 x.2).1 : Int), .int ((fr x.1 x.2).2 : Int)]
theorem FrAt.dp {K : PySem.W.Frag} {H : Hp} {x : Nat × Nat} {v : V} (h : FrAt K H x v) : Dp K H v (frD x) := by
  obtain ⟨p, rfl, q⟩ := h
  exact .tup q (.cons (.int _) (.cons (.int _) .nil))
theorem due_show {x y : Nat × Nat} (h1 : x.1 < 2 ^ 1520) (h2 : x.2 < 2 ^ 1520) (h3 : y.1 < 2 ^ 1520) (h4 : y.2 < 2 ^ 1520) :
    (PyData.list [frD x, frD y]).showable = true ∧ (PyData.list [frD x, frD y]).depth ≤ 60 ∧ (PyData.list [frD x, frD y]).shown.length ≤ sizeLine := by
  have up : ∀ {n z : Nat}, z ≤ n → n < 2 ^ 1520 → ((z : Nat) : Int).natAbs < 2 ^ 1600 := fun {n z} h1 h2 => by
    rw [Int.natAbs_natCast]
    exact Nat.lt_of_le_of_lt h1 (Nat.lt_of_lt_of_le h2 (Nat.pow_le_pow_right (by decide) (by decide)))
  have a1 := Shx.int (up (fr_le x.1 x.2).1 h1)
  have a2 := Shx.int (up (fr_le x.1 x.2).2 h2)
  have b1 := Shx.int (up (fr_le y.1 y.2).1 h3)
  have b2 := Shx.int (up (fr_le y.1 y.2).2 h4)
  have sh2 : ∀ {i j : Int} {w1 w2 k1 k2 : Nat}, Shx (.int i) w1 k1 → Shx (.int j) w2 k2 → (PyData.tuple [.int i, .int j]).showable = true ∧ (PyData.tuple [.int i, .int j]).leavesShort 2000 = true ∧ (PyData.tuple [.int i, .int j]).weight ≤ w1 + 1 + (w2 + 1) := fun {i j w1 w2 k1 k2} p q => by
    refine ⟨?_, ?_, ?_⟩
    · show ((PyData.int i).showable && ((PyData.int j).showable && true)) = true
      rw [p.sh, q.sh]
      rfl
    · show ((PyData.int i).leavesShort 2000 && ((PyData.int j).leavesShort 2000 && true)) = true
      rw [p.lf, q.lf]
      rfl
    · show (PyData.int i).weight + 1 + ((PyData.int j).weight + 1 + 0) ≤ _
      have := p.wt
      have := q.wt
      omega
  obtain ⟨c1, c2, c3⟩ := sh2 a1 a2
  obtain ⟨d1, d2, d3⟩ := sh2 b1 b2
  have lf : (PyData.list [frD x, frD y]).leavesShort 2000 = true := by
    show ((frD x).leavesShort 2000 && ((frD y).leavesShort 2000 && true)) = true
    rw [show (frD x).leavesShort 2000 = true from c2, show (frD y).leavesShort 2000 = true from d2]
    rfl
  refine ⟨?_, (by show 2 ≤ 60; decide), ?_⟩
  · show ((frD x).showable && ((frD y).showable && true)) = true
    rw [show (frD x).showable = true from c1, show (frD y).showable = true from d1]
    rfl
  · have := PyData.shown_le 2000 (by decide) _ lf
    have w : (PyData.list [frD x, frD y]).weight ≤ 6410 := by
      show (frD x).weight + 1 + ((frD y).weight + 1 + 0) ≤ _
      have c3 : (frD x).weight ≤ _ := c3
      have d3 : (frD y).weight ≤ _ := d3
      omega
    have e : sizeLine = 16777216 := by decide
    omega
def rowD (r : Row) : PyData := .tuple [.tuple (r.1.map PyData.int), .int (r.2 : Int)]
theorem rows_dp {K : PySem.W.Frag} {H : Hp} {many : Nat} : ∀ {vs : List V} {rs : List Row}, RwAt K H many vs rs → DpAll K H vs (rs.map rowD)
  | [], [], _ => .nil
  | _ :: _, _ :: _, ⟨⟨p, s, e, q, ⟨p2, e2, q2, _⟩, _⟩, r⟩ => by
    subst e e2
    exact .cons (.tup q (.cons (.tup q2 (dp_ints _)) (.cons (.int _) .nil))) (rows_dp r)
theorem row_shh {many : Nat} {r : Row} (hm : many ≤ 3) (o : RowOk many r) : Shh (rowD r) 300 2 := by
  have h1 := shh_list (f := PyData.int) (xs := r.1) (w := 60) (k := 0) fun x hx => Shh.int (by have := o.bnd x hx; omega)
  have h2 : Shh (.int (r.2 : Int)) 60 0 := Shh.int (by have := o.sgn; omega)
  have h3 := h1.tup
  have := o.len
  exact ((ShhAll.cons h3 (ShhAll.cons h2 (ShhAll.nil (k := 0)) (k := 0) (Nat.le_refl _) (Nat.le_refl _)) (k := 1) (by omega) (by omega)).tup).mono (by omega) (by omega)
theorem rows_shh {many : Nat} {rs : List Row} (hm : many ≤ 3) (o : ∀ r ∈ rs, RowOk many r) (hl : rs.length ≤ 18) : Shh (.tuple (rs.map rowD)) 6000 3 := by
  have h := shh_list (f := rowD) (xs := rs) (w := 300) (k := 2) fun r hr => row_shh hm (o r hr)
  exact h.tup.mono (by omega) (by omega)
end NG

namespace NG
open PySem PySem.Spec PyProof.Rows L2
theorem ixsK {X : Cx} (K : PySem.W.Frag) (h : X.K = K := by rfl) : IxR X (rIx K) := by
  subst h
  exact ix_seq
/-! ### a doubter handed to is_doubter -/
theorem isdb_at {K : PySem.W.Frag} {H : Hp} {many : Nat} {D : Dbt} {v : V} (h : DbAt K H D v) (f : DbFit many D) (hn : D.name.length ≤ 1000) : ∃ (p : Addr) (nm : Str) (sc : Int) (pr ps pb : Addr) (xr xs xb : List V) (rg st bh : List PyData), v = .ref p ∧ dbtD many nm sc rg st bh = true ∧ SqT K H p [.str nm, .int sc, .ref pr, .ref ps, .ref pb] ∧ nm.length ≤ 1000 ∧ SqT K H pr xr ∧ DpAll K H xr rg ∧ SqT K H ps xs ∧ DpAll K H xs st ∧ SqT K H pb xb ∧ DpAll K H xb bh ∧ (∀ d ∈ st, wdE many 8 d) ∧ (∀ d ∈ bh, wdB many 4 d) := by
  obtain ⟨p, vb, ps, pb, us, ws, rfl, hp, ⟨pr, rfl, hpr, _⟩, hps, hus, hpb, hws⟩ := h
  refine ⟨p, D.name, D.scale, pr, ps, pb, _, us, ws, D.begins.map PyData.int, D.stakes.map toD, D.behinds.map fun d => .tuple (dsD d), rfl, dbtD_true f, hp, hn, hpr, dp_ints _, hps, hus.dps, hpb, hws.dps, fun d hd => ?_, fun d hd => ?_⟩
  · obtain ⟨e, he, rfl⟩ := List.mem_map.mp hd
    exact wdE_of (f.st e he).1
  · obtain ⟨e, he, rfl⟩ := List.mem_map.mp hd
    exact wdB_of
/-! ### stakes by how much more a register says than the share -/
def meanSt (many : Nat) : List Ex := (List.range many).map fun j => .two .less (.reg j) (.share j)
theorem mean_len (many : Nat) : (meanSt many).length = many := by
  unfold meanSt
  rw [List.length_map, List.length_range]
theorem mean_get {many i : Nat} (h : i < many) : (meanSt many)[i]? = some (.two .less (.reg i) (.share i)) := by
  unfold meanSt
  rw [List.getElem?_map, List.getElem?_range h]
  rfl
theorem mean_st {many : Nat} (h3 : many ≤ 3) : ∀ e ∈ meanSt many, ExOk many e ∧ noW e ∧ e.dep ≤ 2 ∧ e.size ≤ 3 ∧ spn e = (-2000, 1000) ∧ bds e = 0 := fun e he => by
  obtain ⟨i, hi, rfl⟩ := List.mem_map.mp he
  have hi := List.mem_range.mp hi
  exact ⟨⟨by show i < 4; omega, hi⟩, ⟨trivial, trivial⟩, Nat.le_refl _, Nat.le_refl _, rfl, rfl⟩
theorem mean_wo {many : Nat} (rs ss : List Int) : (meanSt many).map (wo rs ss) = (List.range many).map fun j => rs.getD j 0 * ss.sum - 1000 * ss.getD j 0 := by
  unfold meanSt
  rw [List.map_map]
  exact List.map_congr_left fun j _ => rfl
def tD : Nat → Ds
  | 0 => .nil
  | k + 1 => (tD k).app (.op .told k (k : Int) .nil)
theorem tD_ok {many : Nat} : ∀ {k : Nat}, k ≤ many → many ≤ 3 → DsOk many (tD k) ∧ (tD k).dep ≤ 1 ∧ (tD k).cnt = k
  | 0, _, _ => ⟨trivial, Nat.zero_le _, rfl⟩
  | k + 1, h, h3 => by
    obtain ⟨a, b, c⟩ := tD_ok (k := k) (many := many) (by omega) h3
    refine ⟨a.app ⟨by omega, ⟨by omega, by omega⟩, trivial⟩, ?_, ?_⟩
    · show ((tD k).app _).dep ≤ 1
      rw [Ds.dep_app]
      show max _ (max 1 0) ≤ 1
      omega
    · show ((tD k).app _).cnt = k + 1
      rw [Ds.cnt_app, c]
      rfl
structure MeanFit (many : Nat) (D : Dbt) : Prop where
  sc : D.scale = 4
  st : D.stakes = meanSt many
  rg : RegOk D.begins
  bl : D.behinds.length = many
  bh : ∀ d ∈ D.behinds, DsOk many d ∧ d.dep ≤ 1 ∧ d.cnt ≤ 3
theorem MeanFit.fit {many : Nat} {D : Dbt} (h : MeanFit many D) (h3 : many ≤ 3) (hn : nameD D.name = true) : DbFit many D := by
  refine ⟨hn, by rw [h.sc]; decide, h.rg, by rw [h.st, mean_len], fun e he => ?_, h.bl, fun d hd => ?_⟩
  · rw [h.st] at he
    obtain ⟨a, _, b, c, d, _⟩ := mean_st h3 e he
    rw [h.sc, d]
    exact ⟨a, by omega, by omega, by decide, by decide⟩
  · obtain ⟨a, b, c⟩ := h.bh d hd
    exact ⟨a, by omega, by omega⟩
theorem mean_bnd {many : Nat} {D : Dbt} (h : MeanFit many D) (h2 : 2 ≤ many) (h3 : many ≤ 3) : bndI D = 125 := by
  unfold bndI
  rw [h.st, h.sc]
  have : many = 2 ∨ many = 3 := by omega
  rcases this with rfl | rfl <;> rfl
theorem zero_sum {l : List Int} (h : ∀ x ∈ l, x = 0) : l.sum = 0 := by
  induction l with
  | nil => rfl
  | cons x l ih => rw [List.sum_cons, h x (List.mem_cons_self ..), ih fun y hy => h y (List.mem_cons_of_mem _ hy)]; rfl
theorem mean_lines {many : Nat} {D : Dbt} (h : MeanFit many D) (h3 : many ≤ 3) : (D.stakes.map bds).sum = 0 := by
  rw [h.st]
  refine zero_sum fun x hx => ?_
  obtain ⟨e, he, rfl⟩ := List.mem_map.mp hx
  exact (mean_st h3 e he).2.2.2.2.2
def rivD (many : Nat) (said : List Int) : Dbt := ⟨"rival", 4, said ++ List.replicate (4 - many) 0, meanSt many, List.replicate many .nil⟩
def lagD (many : Nat) : Dbt := ⟨"lagging", 4, [0, 0, 0, 0], meanSt many, List.replicate many (tD many)⟩
theorem riv_fit {many : Nat} {said : List Int} (h3 : many ≤ 3) (hl : said.length = many) (hb : ∀ x ∈ said, 0 ≤ x ∧ x ≤ 1000) : MeanFit many (rivD many said) := by
  refine ⟨rfl, rfl, ⟨?_, fun x hx => ?_⟩, by show (List.replicate many _).length = many; rw [List.length_replicate], fun d hd => ?_⟩
  · show (said ++ List.replicate (4 - many) 0).length = 4
    rw [List.length_append, List.length_replicate]
    omega
  · rcases List.mem_append.mp hx with hx | hx
    · have := hb x hx
      omega
    · rw [List.eq_of_mem_replicate hx]
      decide
  · rw [List.eq_of_mem_replicate hd]
    exact ⟨trivial, Nat.zero_le _, Nat.zero_le _⟩
theorem lag_fit {many : Nat} (h3 : many ≤ 3) : MeanFit many (lagD many) := by
  refine ⟨rfl, rfl, ⟨rfl, fun x hx => ?_⟩, by show (List.replicate many _).length = many; rw [List.length_replicate], fun d hd => ?_⟩
  · have hx : x ∈ ([0, 0, 0, 0] : List Int) := hx
    simp at hx
    subst hx
    decide
  · rw [List.eq_of_mem_replicate hd]
    obtain ⟨a, b, c⟩ := tD_ok (k := many) (many := many) (Nat.le_refl _) h3
    exact ⟨a, b, by omega⟩
def milI (many : Nat) (ss : List Int) : List Int := (List.range many).map fun j => 1000 * ss.getD j 0 / ss.sum
theorem mil_bnd {many : Nat} {ss : List Int} (hl : ss.length = many) (hb : ∀ x ∈ ss, 0 ≤ x ∧ x < 2 ^ 50) (h0 : 0 < ss.sum) {j : Nat} (hj : j < many) : 0 ≤ 1000 * ss.getD j 0 / ss.sum ∧ 1000 * ss.getD j 0 / ss.sum ≤ 1000 := by
  have hm := getD_mem (ns := ss) (i := j) (by omega)
  have hx := hb _ hm
  have hle : ss.getD j 0 ≤ ss.sum := by
    have go : ∀ l : List Int, (∀ x ∈ l, 0 ≤ x) → ∀ x ∈ l, x ≤ l.sum := fun l => by
      induction l with
      | nil => intro _ x hx; cases hx
      | cons y l ih =>
        intro h x hx
        have h1 := sum_nonneg (ms := l) fun z hz => h z (List.mem_cons_of_mem _ hz)
        have h2 := h y (List.mem_cons_self ..)
        rw [List.sum_cons]
        rcases List.mem_cons.mp hx with rfl | hx
        · omega
        · have := ih (fun z hz => h z (List.mem_cons_of_mem _ hz)) x hx
          omega
    exact go ss (fun x hx => (hb x hx).1) _ hm
  refine ⟨Int.ediv_nonneg (by omega) (by omega), ?_⟩
  have := Int.ediv_le_ediv h0 (show 1000 * ss.getD j 0 ≤ 1000 * ss.sum by omega)
  rw [Int.mul_ediv_cancel _ (by omega)] at this
  exact this
theorem cl_id {x : Int} (h0 : 0 ≤ x) (h1 : x ≤ 1000) : cl x = x := by
  unfold cl mx mn
  repeat' split
  all_goals omega
/-- what a day makes of a lagging one's registers -/
theorem lag_ap {many : Nat} {rs ss : List Int} (h2 : 2 ≤ many) (h3 : many ≤ 3) (hr : rs.length = 4) (hl : ss.length = many) (hb : ∀ x ∈ ss, 0 ≤ x ∧ x < 2 ^ 50) (h0 : 0 < ss.sum) : ap ss (tD many) rs = milI many ss ++ rs.drop many := by
  obtain ⟨a, b, c, d, rfl⟩ : ∃ a b c d, rs = [a, b, c, d] := by
    match rs, hr with
    | [a, b, c, d], _ => exact ⟨a, b, c, d, rfl⟩
  have hm : ∀ j, j < many → cl (1000 * ss.getD j 0 / ss.sum) = 1000 * ss.getD j 0 / ss.sum := fun j hj => cl_id (mil_bnd hl hb h0 hj).1 (mil_bnd hl hb h0 hj).2
  have : many = 2 ∨ many = 3 := by omega
  rcases this with rfl | rfl
  · show [cl (1000 * ss.getD 0 0 / ss.sum), cl (1000 * ss.getD 1 0 / ss.sum), c, d] = [1000 * ss.getD 0 0 / ss.sum, 1000 * ss.getD 1 0 / ss.sum, c, d]
    rw [hm 0 (by omega), hm 1 (by omega)]
  · show [cl (1000 * ss.getD 0 0 / ss.sum), cl (1000 * ss.getD 1 0 / ss.sum), cl (1000 * ss.getD 2 0 / ss.sum), d] = [1000 * ss.getD 0 0 / ss.sum, 1000 * ss.getD 1 0 / ss.sum, 1000 * ss.getD 2 0 / ss.sum, d]
    rw [hm 0 (by omega), hm 1 (by omega), hm 2 (by omega)]
end NG

namespace NG
open PySem PySem.Spec PyProof.Rows L2
def pwq : Nat → Int
  | 0 => 2
  | n + 1 => pwq n * pwq n
theorem pwq_ge : ∀ n, 2 ≤ pwq n
  | 0 => Int.le_refl _
  | n + 1 => by
    have := pwq_ge n
    show 2 ≤ pwq n * pwq n
    have h : 2 * 2 ≤ pwq n * pwq n := Int.mul_le_mul this this (by decide) (by omega)
    omega
theorem lvs_q : ∀ (e : Ex) (k : Nat), e.dep ≤ k + 1 → 1 ≤ lvs e ∧ lvs e ≤ pwq k := by
  have mul : ∀ {a b p : Int}, 1 ≤ a → a ≤ p → 1 ≤ b → b ≤ p → 1 ≤ a * b ∧ a * b ≤ p * p := fun {a b p} h1 h2 h3 h4 => by
    have x := Int.mul_le_mul h1 h3 (by decide) (by omega)
    have y := Int.mul_le_mul h2 h4 (by omega) (by omega)
    exact ⟨by omega, y⟩
  have add : ∀ {a b : Int} {k : Nat}, 1 ≤ a → a ≤ pwq k → 1 ≤ b → b ≤ pwq k → 1 ≤ a + b ∧ a + b ≤ pwq k * pwq k := fun {a b k} h1 h2 h3 h4 => by
    have g := pwq_ge k
    have y : 2 * pwq k ≤ pwq k * pwq k := Int.mul_le_mul_of_nonneg_right g (by omega)
    exact ⟨by omega, by omega⟩
  have up : ∀ {a : Int} {k : Nat}, 1 ≤ a → a ≤ pwq k → 1 ≤ a ∧ a ≤ pwq k * pwq k := fun {a k} h1 h2 => by
    have g := pwq_ge k
    have y : 2 * pwq k ≤ pwq k * pwq k := Int.mul_le_mul_of_nonneg_right g (by omega)
    exact ⟨h1, by omega⟩
  intro e
  induction e with
  | fig c => intro k _; have := pwq_ge k; exact ⟨Int.le_refl _, by show (1 : Int) ≤ pwq k; omega⟩
  | reg c => intro k _; have := pwq_ge k; exact ⟨Int.le_refl _, by show (1 : Int) ≤ pwq k; omega⟩
  | share c => intro k _; have := pwq_ge k; exact ⟨Int.le_refl _, by show (1 : Int) ≤ pwq k; omega⟩
  | two w a b iha ihb =>
    intro k h
    have h : max a.dep b.dep + 1 ≤ k + 1 := h
    have := dep_pos a
    cases k with
    | zero => omega
    | succ k =>
      obtain ⟨a1, a2⟩ := iha k (by omega)
      obtain ⟨b1, b2⟩ := ihb k (by omega)
      cases w with
      | sum => exact mul a1 a2 b1 b2
      | less => exact mul a1 a2 b1 b2
      | least => exact add a1 a2 b1 b2
      | most => exact add a1 a2 b1 b2
  | times f a ih =>
    intro k h
    have h : a.dep + 1 ≤ k + 1 := h
    have := dep_pos a
    cases k with
    | zero => omega
    | succ k => obtain ⟨a1, a2⟩ := ih k (by omega); exact up a1 a2
  | «by» f a ih =>
    intro k h
    have h : a.dep + 1 ≤ k + 1 := h
    have := dep_pos a
    cases k with
    | zero => omega
    | succ k => obtain ⟨a1, a2⟩ := ih k (by omega); exact up a1 a2
  | when i c a b iha ihb =>
    intro k h
    have h : max a.dep b.dep + 1 ≤ k + 1 := h
    have := dep_pos a
    cases k with
    | zero => omega
    | succ k =>
      obtain ⟨a1, a2⟩ := iha k (by omega)
      obtain ⟨b1, b2⟩ := ihb k (by omega)
      show 1 ≤ mx (lvs a) (lvs b) ∧ mx (lvs a) (lvs b) ≤ pwq k * pwq k
      unfold mx
      split
      · exact up b1 b2
      · exact up a1 a2
  | whr i c a b iha ihb =>
    intro k h
    have h : max a.dep b.dep + 1 ≤ k + 1 := h
    have := dep_pos a
    cases k with
    | zero => omega
    | succ k =>
      obtain ⟨a1, a2⟩ := iha k (by omega)
      obtain ⟨b1, b2⟩ := ihb k (by omega)
      exact add a1 a2 b1 b2
theorem lvs_mul7 {e : Ex} {y : Int} (h : e.dep ≤ 6) : CMul (lvs e) y := by
  obtain ⟨h1, h2⟩ := lvs_q e 5 h
  have h3 : pwq 5 = 4294967296 := by decide
  rw [h3] at h2
  exact .inl ⟨by omega, by omega⟩
end NG

namespace NG
open PySem PySem.Spec PyProof.Rows L2
/-! ### repr of a number, a truth or None -/
def shV : V → Option Str
  | .int i => if i.natAbs.log2 < 1920 then some (Str.ofString (toString i)) else none
  | .bl b => some (if b = true then Str.ofString "True" else Str.ofString "False")
  | .non => some (Str.ofString "None")
  | _ => none
def rReprV : List V → Hp → VK → Prop := fun vs H Q => ∃ (v : V) (x : Str), vs = [v] ∧ shV v = some x ∧ Q (.str x) H
theorem cr_reprV {X : Cx} : CallR X (.builtin "repr") rReprV := by
  intro pins s σ H vs us Q I r h
  obtain ⟨v, x, rfl, hx, q⟩ := h
  obtain ⟨u, rfl, t⟩ := vals1 r
  cases v with
  | int i =>
    have hx : (if i.natAbs.log2 < 1920 then some (Str.ofString (toString i)) else none) = some x := hx
    by_cases hz : i.natAbs.log2 < 1920
    · rw [if_pos hz] at hx
      have hx := Option.some.inj hx
      subst hx
      obtain ⟨t, rfl⟩ := t
      exact PySem.P.repr_of_int hz ⟨.str _, H, I.tok (s.toks + 1), ⟨_, rfl⟩, q⟩
    · rw [if_neg hz] at hx
      cases hx
  | bl b =>
    cases hx
    have t : u = Value.bool b := t
    subst t
    exact PySem.P.repr_of_bool ⟨.str _, H, I.tok (s.toks + 1), ⟨_, rfl⟩, q⟩
  | non =>
    cases hx
    have t : u = Value.none := t
    subst t
    exact PySem.P.repr_of_none ⟨.str _, H, I.tok (s.toks + 1), ⟨_, rfl⟩, q⟩
  | _ => cases hx
theorem shV_int {i : Int} (h : i.natAbs < 2 ^ 1000) : ∃ x, shV (.int i) = some x := by
  refine ⟨Str.ofString (toString i), ?_⟩
  show (if i.natAbs.log2 < 1920 then some (Str.ofString (toString i)) else none) = _
  rw [if_pos]
  by_cases h0 : i.natAbs = 0
  · rw [h0]; decide
  · have := (Nat.log2_lt h0).mpr h
    omega
/-! ### one promise out of another -/
theorem FnOk.mono {P : Program} {w : World} {K : PySem.W.Frag} {mg : Str → Option Value} {base : Heap} {CX : CXT} {k : Nat} {f : Addr} {fd : FuncData} {ps : List Str} {sp sp' : Sp} (F : FnOk P w K mg base CX k f fd ps sp) (h : ∀ vs H Q E, sp' vs H Q E → sp vs H Q E) : FnOk P w K mg base CX k f fd ps sp' :=
  ⟨fun vs H Q E x => F.len vs H Q E (h vs H Q E x), fun A outer s H args us vs Q E r e b v x => F.run A outer s H args us vs Q E r e b v (h vs H Q E x)⟩
end NG

namespace NG
open PySem PySem.Spec PyProof.Rows L2
/-! ### things of any kind: as Dp, and empty dicts -/
mutual
inductive Dq (K : PySem.W.Frag) (H : Hp) : V → PyData → Prop
  | non : Dq K H .non .none
  | bl (b : Bool) : Dq K H (.bl b) (.bool b)
  | int (i : Int) : Dq K H (.int i) (.int i)
  | str (x : Str) : Dq K H (.str x) (.str x)
  | lst {a : Addr} {xs : List V} {ds : List PyData} : SqL K H a xs → DqAll K H xs ds → Dq K H (.ref a) (.list ds)
  | tup {a : Addr} {xs : List V} {ds : List PyData} : SqT K H a xs → DqAll K H xs ds → Dq K H (.ref a) (.tuple ds)
  | dic {a : Addr} : H a = some (.dK []) → Dq K H (.ref a) (.dict [])
inductive DqAll (K : PySem.W.Frag) (H : Hp) : List V → List PyData → Prop
  | nil : DqAll K H [] []
  | cons {v : V} {vs : List V} {d : PyData} {ds : List PyData} : Dq K H v d → DqAll K H vs ds → DqAll K H (v :: vs) (d :: ds)
end
mutual
theorem dq_of {K : PySem.W.Frag} {H : Hp} : ∀ {d : PyData} {v : V}, Dp K H v d → Dq K H v d
  | .none, _, .non => .non
  | .bool _, _, .bl b => .bl b
  | .int _, _, .int i => .int i
  | .str _, _, .str x => .str x
  | .list _, _, .lst q a => .lst q (dqall_of a)
  | .tuple _, _, .tup q a => .tup q (dqall_of a)
theorem dqall_of {K : PySem.W.Frag} {H : Hp} : ∀ {ds : List PyData} {vs : List V}, DpAll K H vs ds → DqAll K H vs ds
  | [], _, .nil => .nil
  | _ :: _, _, .cons a b => .cons (dq_of a) (dqall_of b)
end
mutual
theorem dq_same {K : PySem.W.Frag} {H H' : Hp} (s : Same H H') : ∀ {d : PyData} {v : V}, Dq K H v d → Dq K H' v d
  | .none, _, .non => .non
  | .bool _, _, .bl b => .bl b
  | .int _, _, .int i => .int i
  | .str _, _, .str x => .str x
  | .list _, _, .lst q a => .lst (s.seq q) (dqall_same s a)
  | .tuple _, _, .tup q a => .tup (same_sqt s q) (dqall_same s a)
  | .dict _, _, .dic h => .dic (s _ _ h)
theorem dqall_same {K : PySem.W.Frag} {H H' : Hp} (s : Same H H') : ∀ {ds : List PyData} {vs : List V}, DqAll K H vs ds → DqAll K H' vs ds
  | [], _, .nil => .nil
  | _ :: _, _, .cons a b => .cons (dq_same s a) (dqall_same s b)
end
theorem dqall_len {K : PySem.W.Frag} {H : Hp} : ∀ {ds : List PyData} {vs : List V}, DqAll K H vs ds → vs.length = ds.length
  | [], _, .nil => rfl
  | _ :: _, _, .cons _ b => by rw [List.length_cons, List.length_cons, dqall_len b]
theorem dqall_get {K : PySem.W.Frag} {H : Hp} : ∀ {ds : List PyData} {vs : List V} {i : Nat} {v : V}, DqAll K H vs ds → vs[i]? = some v → ∃ d, ds[i]? = some d ∧ Dq K H v d
  | [], _, _, _, .nil, h => by simp at h
  | d :: _, _, 0, v, .cons a _, h => by
    have := Option.some.inj h
    subst this
    exact ⟨d, rfl, a⟩
  | _ :: _, _, i + 1, v, .cons _ b, h => dqall_get (i := i) b h
theorem dqall_drop {K : PySem.W.Frag} {H : Hp} : ∀ {n : Nat} {ds : List PyData} {vs : List V}, DqAll K H vs ds → DqAll K H (vs.drop n) (ds.drop n)
  | 0, _, _, h => h
  | _ + 1, [], _, .nil => by simpa using (.nil : DqAll K H [] [])
  | n + 1, _ :: _, _, .cons _ b => by
    rw [List.drop_succ_cons, List.drop_succ_cons]
    exact dqall_drop b
theorem dqall_take {K : PySem.W.Frag} {H : Hp} : ∀ {n : Nat} {ds : List PyData} {vs : List V}, DqAll K H vs ds → DqAll K H (vs.take n) (ds.take n)
  | 0, _, _, _ => .nil
  | _ + 1, [], _, .nil => by simpa using (.nil : DqAll K H [] [])
  | n + 1, _ :: _, _, .cons a b => by
    rw [List.take_succ_cons, List.take_succ_cons]
    exact .cons a (dqall_take b)
theorem dqall_app {K : PySem.W.Frag} {H : Hp} {es : List PyData} {us : List V} (x : DqAll K H us es) : ∀ {ds : List PyData} {vs : List V}, DqAll K H vs ds → DqAll K H (vs ++ us) (ds ++ es)
  | [], _, .nil => x
  | _ :: _, _, .cons a b => .cons a (dqall_app x b)
theorem dqall_mem {K : PySem.W.Frag} {H : Hp} : ∀ {ds : List PyData} {vs : List V}, DqAll K H vs ds → ∀ v ∈ vs, ∃ d ∈ ds, Dq K H v d
  | [], _, .nil, v, h => by cases h
  | d :: _, _, .cons a b, v, h => by
    rcases List.mem_cons.mp h with rfl | h
    · exact ⟨d, List.mem_cons_self, a⟩
    · obtain ⟨e, he, q⟩ := dqall_mem b v h
      exact ⟨e, List.mem_cons_of_mem _ he, q⟩
theorem dq_ints {K : PySem.W.Frag} {H : Hp} : ∀ (ns : List Int), DqAll K H (ns.map V.int) (ns.map PyData.int)
  | [] => .nil
  | n :: ns => .cons (.int n) (dq_ints ns)
theorem Dq.tyx {K : PySem.W.Frag} {H : Hp} {d : PyData} {v : V} (h : Dq K H v d) : TyX K H v (.type (tyd d)) := by
  cases h with
  | non => exact .base .non
  | bl b => exact .base (.bl b)
  | int i => exact .base (.int i)
  | str x => exact .base (.str x)
  | lst q _ =>
    rcases q with (q | ⟨o, q⟩) | ⟨o, its, n, h1, h2, _⟩
    · exact .base (.lst q)
    · exact .base (.frz q)
    · exact .kList h1 h2
  | tup q _ => exact tyx_tup q
  | dic q => exact .base (.dK q)
theorem rIsi_q {K : PySem.W.Frag} {H : Hp} {d : PyData} {v : V} {T : String} {b : Bool} {Q : VK} (h : Dq K H v d) (k : kitB (tyd d) T = some b) (q : Q (.bl b) H) : rIsi K [v, .ty T] H Q :=
  ⟨v, .ty T, _, _, b, rfl, .ty T, Dq.tyx h, kit_ty k, q⟩
/-! ### reading them -/
mutual
inductive RdD (h : Heap) : Value → PyData → Prop
  | none : RdD h .none .none
  | bool (b) : RdD h (.bool b) (.bool b)
  | int (i t) : RdD h (.int i t) (.int i)
  | str (x t) : RdD h (.str x t) (.str x)
  | list {a o vs n xs} : h.get? a = some o → o.cls = .type "list" → o.data = .seq vs n → RdDs h vs.toList xs → RdD h (.ref a) (.list xs)
  | tuple {a o vs n xs} : h.get? a = some o → o.cls = .type "tuple" → o.data = .seq vs n → RdDs h vs.toList xs → RdD h (.ref a) (.tuple xs)
  | dict {a o es n} : h.get? a = some o → o.cls = .type "dict" → o.data = .dict es n → es.toList = [] → (a == sysModules) = false → RdD h (.ref a) (.dict [])
inductive RdDs (h : Heap) : List Value → List PyData → Prop
  | nil : RdDs h [] []
  | cons {v vs d ds} : RdD h v d → RdDs h vs ds → RdDs h (v :: vs) (d :: ds)
end
mutual
theorem RdD.reads {h : Heap} : ∀ {d : PyData} {v : Value}, RdD h v d → ∃ as, Reads h v d as
  | .none, _, .none => ⟨_, .none⟩
  | .bool _, _, .bool b => ⟨_, .bool b⟩
  | .int _, _, .int i t => ⟨_, .int i t⟩
  | .str _, _, .str x t => ⟨_, .str x t⟩
  | .list _, _, .list h1 h2 h3 h4 => by
    obtain ⟨as, r⟩ := RdDs.reads h4
    exact ⟨_, .list h1 h2 h3 r⟩
  | .tuple _, _, .tuple h1 h2 h3 h4 => by
    obtain ⟨as, r⟩ := RdDs.reads h4
    exact ⟨_, .tuple h1 h2 h3 r⟩
  | .dict _, _, .dict h1 h2 h3 h4 _ => ⟨_, .dict h1 h2 h3 (by rw [h4]; exact .nil) (by rw [h4]; exact .nil)⟩
theorem RdDs.reads {h : Heap} : ∀ {ds : List PyData} {vs : List Value}, RdDs h vs ds → ∃ as, ReadsAll h vs ds as
  | [], _, .nil => ⟨_, .nil⟩
  | _ :: _, _, .cons a b => by
    obtain ⟨as, r⟩ := RdD.reads a
    obtain ⟨bs, r2⟩ := RdDs.reads b
    exact ⟨_, .cons r r2⟩
end
section
variable {prog : Program} {w : World} {h₀ : Heap}
mutual
theorem reprK_rdd : ∀ {d : PyData} {v : Value}, RdD h₀ v d → d.showable = true → d.shown.length ≤ sizeLine → ∃ bs, ReadAtMost h₀ d.depth bs ∧ ReprK prog w bs h₀ d.depth v d.shown
  | .none, _, .none, _, _ => ⟨[], (fun _ h => nomatch h), by simp only [PyData.shown]; exact .of_is ReprIs.none _ _ _⟩
  | .bool _, _, .bool b, _, _ => ⟨[], (fun _ h => nomatch h), by simp only [PyData.shown]; exact .of_is (ReprIs.bool b) _ _ _⟩
  | .int _, _, .int i t, hs, _ => ⟨[], (fun _ h => nomatch h), by simp only [PyData.shown]; exact .of_is (ReprIs.int t (by simpa [PyData.showable] using hs)) _ _ _⟩
  | .str _, _, .str x t, _, hz => ⟨[], (fun _ h => nomatch h), by simp only [PyData.shown]; exact .of_is (ReprIs.str x t (by simpa only [PyData.shown] using hz)) _ _ _⟩
  | .list xs, _, .list (a := a) (vs := vs) h1 h2 h3 h4, hs, hz => by
    have hz' : (listText (PyData.shownAll xs)).length ≤ sizeLine := by simpa only [PyData.shown] using hz
    obtain ⟨bs, hb, hk⟩ := reprK_rdds h4 (by simpa [PyData.showable] using hs) (fun t ht => Nat.le_trans (listText_mem_le ht) hz')
    obtain ⟨as, r⟩ := RdD.reads (.list h1 h2 h3 h4)
    have hna : a ∉ bs := not_mem_of_deeper r (by simp only [PyData.depth]; omega) hb
    refine ⟨a :: bs, ReadAtMost.cons r (by simp only [PyData.depth]; omega) hb, ?_⟩
    simp only [PyData.depth, PyData.shown]
    obtain ⟨l⟩ := vs
    cases l with
    | nil =>
      have h4' : RdDs h₀ [] xs := h4
      cases h4'
      simp only [PyData.shownAll, listText_nil]
      exact ReprK.listEmpty h1 h2 h3
    | cons x l => exact ReprK.list h1 h2 h3 hna (by simpa using hk.length_eq) (fun i y e => hk.item i y (by simpa using e))
  | .tuple xs, _, .tuple (a := a) h1 h2 h3 h4, hs, hz => by
    have hz' : (tupleText (PyData.shownAll xs)).length ≤ sizeLine := by simpa only [PyData.shown] using hz
    obtain ⟨bs, hb, hk⟩ := reprK_rdds h4 (by simpa [PyData.showable] using hs) (fun t ht => Nat.le_trans (tupleText_mem_le ht) hz')
    obtain ⟨as, r⟩ := RdD.reads (.tuple h1 h2 h3 h4)
    have hna : a ∉ bs := not_mem_of_deeper r (by simp only [PyData.depth]; omega) hb
    refine ⟨a :: bs, ReadAtMost.cons r (by simp only [PyData.depth]; omega) hb, ?_⟩
    simp only [PyData.depth, PyData.shown]
    exact ReprK.tuple h1 h2 h3 hna hk
  | .dict _, _, .dict (a := a) (es := es) h1 h2 h3 h4 h5, hs, hz => by
    obtain ⟨as, r⟩ := RdD.reads (.dict h1 h2 h3 h4 h5)
    refine ⟨a :: [], ReadAtMost.cons r (Nat.zero_le _) (fun _ h => nomatch h), ?_⟩
    simp only [PyData.depth, PyData.shown, PyData.shownKv_eq]
    exact ReprK.dict (as := []) h1 h2 h3 h5 (by simp) (ReprEntriesK.of_two es.toList _ _ (by rw [h4]; exact .nil) (by rw [h4]; exact .nil))
theorem reprK_rdds : ∀ {ds : List PyData} {vs : List Value}, RdDs h₀ vs ds → PyData.showableAll ds = true → (∀ t ∈ PyData.shownAll ds, t.length ≤ sizeLine) →
    ∃ bs, ReadAtMost h₀ (PyData.depthAll ds) bs ∧ ReprAllK prog w bs h₀ (PyData.depthAll ds) vs (PyData.shownAll ds)
  | [], _, .nil, _, _ => ⟨[], (fun _ h => nomatch h), by simp only [PyData.shownAll]; exact .nil⟩
  | d :: ds, _, .cons r rs, hs, hz => by
    have hs' : d.showable = true ∧ PyData.showableAll ds = true := by simpa [PyData.showableAll] using hs
    obtain ⟨b1, hb1, k1⟩ := reprK_rdd r hs'.1 (hz _ (by simp only [PyData.shownAll]; exact List.mem_cons_self ..))
    obtain ⟨b2, hb2, k2⟩ := reprK_rdds rs hs'.2 (fun t ht => hz t (by simp only [PyData.shownAll]; exact List.mem_cons_of_mem _ ht))
    refine ⟨b1 ++ b2, ?_, ?_⟩
    · intro b hm
      simp only [PyData.depthAll]
      rcases List.mem_append.mp hm with hm | hm
      · obtain ⟨d', as', r', hd'⟩ := hb1 b hm
        exact ⟨d', as', r', Nat.le_trans hd' (Nat.le_max_left _ _)⟩
      · obtain ⟨d', as', r', hd'⟩ := hb2 b hm
        exact ⟨d', as', r', Nat.le_trans hd' (Nat.le_max_right _ _)⟩
    · simp only [PyData.depthAll, PyData.shownAll]
      exact .cons ((k1.more fun b hb => List.mem_append_left _ hb).level_le (Nat.le_max_left _ _)) (k2.more_le (fun b hb => List.mem_append_right _ hb) (Nat.le_max_right _ _))
end
theorem showsBy_rdd {a : Addr} {d : PyData} (r : RdD h₀ (.ref a) d) (hs : d.showable = true) (hsz : d.shown.length ≤ sizeLine) : ∃ T idr, ShowsBy prog w h₀ a d T idr := by
  cases r with
  | list h1 h2 h3 h4 =>
    rename_i o vs n xs
    have hz' : (listText (PyData.shownAll xs)).length ≤ sizeLine := by simpa only [PyData.shown] using hsz
    obtain ⟨bs, hb, hk⟩ := reprK_rdds (prog := prog) (w := w) h4 (by simpa [PyData.showable] using hs) (fun t ht => Nat.le_trans (listText_mem_le ht) hz')
    obtain ⟨as, r⟩ := RdD.reads (.list h1 h2 h3 h4)
    have hna : a ∉ bs := not_mem_of_deeper r (by simp only [PyData.depth]; omega) hb
    refine ⟨"list", "list.__repr__", F.slot_list_repr.toG, F.slot_list_str, F.slot_list_format, fun s hk0 => ⟨o, hk0 _ _ h1, h2⟩, fun A E s Q hg hu hk0 hQ => ?_⟩
    simp only [PyData.depth] at hu
    simp only [PyData.shown] at hQ
    obtain ⟨l⟩ := vs
    cases l with
    | nil =>
      have h4' : RdDs h₀ [] xs := h4
      cases h4'
      simp only [PyData.shownAll, listText_nil] at hQ
      exact call_list_repr_empty ⟨o, hk0 _ _ h1, h2⟩ (hk0 _ _ h1) h3 (hQ s.heap _ _ fun _ _ e => e)
    | cons x l =>
      exact call_list_reprK h1 h2 h3 hna (by simpa using hk.length_eq) (fun i y e => hk.item i y (by simpa using e)) hg (fun b _ => Clear.nil b) hu hk0 hQ hz'
  | tuple h1 h2 h3 h4 =>
    rename_i o vs n xs
    have hz' : (tupleText (PyData.shownAll xs)).length ≤ sizeLine := by simpa only [PyData.shown] using hsz
    obtain ⟨bs, hb, hk⟩ := reprK_rdds (prog := prog) (w := w) h4 (by simpa [PyData.showable] using hs) (fun t ht => Nat.le_trans (tupleText_mem_le ht) hz')
    obtain ⟨as, r⟩ := RdD.reads (.tuple h1 h2 h3 h4)
    have hna : a ∉ bs := not_mem_of_deeper r (by simp only [PyData.depth]; omega) hb
    refine ⟨"tuple", "tuple.__repr__", F.slot_tuple_repr, F.slot_tuple_str, F.slot_tuple_format, fun s hk0 => ⟨o, hk0 _ _ h1, h2⟩, fun A E s Q hg hu hk0 hQ => ?_⟩
    simp only [PyData.depth] at hu
    simp only [PyData.shown] at hQ
    exact call_tuple_reprK h1 h2 h3 hna hk hg (fun b _ => Clear.nil b) hu hk0 hQ hz'
  | dict h1 h2 h3 h4 h5 =>
    rename_i o es n
    refine ⟨"dict", "dict.__repr__", F.slot_dict_repr, F.slot_dict_str, F.slot_dict_format, fun s hk0 => ⟨o, hk0 _ _ h1, h2⟩, fun A E s Q hg hu hk0 hQ => ?_⟩
    simp only [PyData.depth] at hu
    simp only [PyData.shown, PyData.shownKv_eq] at hQ
    have hz' : (dictText (PyData.shownKv [])).length ≤ sizeLine := by simpa only [PyData.shown] using hsz
    exact call_dict_reprK (as := []) h1 h2 h3 h5 (by simp) (ReprEntriesK.of_two es.toList _ _ (by rw [h4]; exact .nil) (by rw [h4]; exact .nil)) hg (fun b _ => Clear.nil b) hu hk0 hQ (by rw [← PyData.shownKv_eq]; exact hz')
end
section
variable {X : Cx} {pins : List (Addr × Obj)} {σ : L2.St} {H : Hp} {s : Shared}
mutual
theorem Dq.rdd (I : Inv X pins σ H s) : ∀ (d : PyData) (v : V) (u : Value), Dq X.K H v d → RelV v u → RdD s.heap u d
  | .none, _, _, h, r => by
    cases h
    cases r
    exact .none
  | .bool b, _, _, h, r => by
    cases h
    cases r
    exact .bool b
  | .int i, _, _, h, r => by
    cases h
    obtain ⟨t, rfl⟩ := r
    exact .int i t
  | .str x, _, _, h, r => by
    cases h
    obtain ⟨t, rfl⟩ := r
    exact .str x t
  | .list ds, _, _, h, r => by
    cases h with
    | lst hs ha =>
      cases r
      obtain ⟨its, rv, ⟨o, n, ho, hc, _, hd⟩, _⟩ := I.list hs
      exact .list ho hc hd (Dq.rdds I ds _ its ha rv)
  | .tuple ds, _, _, h, r => by
    cases h with
    | tup hs ha =>
      cases r
      obtain ⟨its, rv, ⟨o, ho, hc, n, hd⟩, _⟩ := I.tuple hs
      exact .tuple ho hc hd (Dq.rdds I ds _ its ha rv)
  | .dict _, _, _, h, r => by
    cases h with
    | dic hx =>
      cases r
      obtain ⟨_, hn, vs, hk, o, es, ep, ho, hx2, hd, _, hp, _⟩ := dk_of I.hok hx
      cases hk
      refine .dict ho hx2.1 hd ?_ hn
      have := Pairs.length hp
      exact List.length_eq_zero_iff.mp this
theorem Dq.rdds (I : Inv X pins σ H s) : ∀ (ds : List PyData) (vs : List V) (us : List Value), DqAll X.K H vs ds → Vals vs us → RdDs s.heap us ds
  | [], _, _, h, r => by
    cases h
    cases r
    exact .nil
  | d :: ds, _, _, h, r => by
    cases h with
    | cons h1 h2 =>
      cases r with
      | cons r1 r2 => exact .cons (Dq.rdd I d _ _ h1 r1) (Dq.rdds I ds _ _ h2 r2)
end
end
def rReprQ (K : PySem.W.Frag) : List V → Hp → VK → Prop := fun vs H Q => ∃ (v : V) (d : PyData), vs = [v] ∧ Dq K H v d ∧ d.showable = true ∧ d.depth ≤ 60 ∧ d.shown.length ≤ sizeLine ∧ Q (.str d.shown) H
theorem cr_reprQ {X : Cx} (hg : X.A.guards = some []) (hu : X.A.units + 64 < cLine) : CallR X (.builtin "repr") (rReprQ X.K) := by
  intro pins s σ H vs us Q I r h
  obtain ⟨v, d, rfl, hd, hs, hz, hl, q⟩ := h
  obtain ⟨u, rfl, t⟩ := vals1 r
  have rd := Dq.rdd I d v u hd t
  cases rd with
  | none => simp only [PyData.shown] at q; exact PySem.P.repr_of_none ⟨.str _, H, I.tok (s.toks + 1), ⟨_, rfl⟩, q⟩
  | bool b => simp only [PyData.shown] at q; exact PySem.P.repr_of_bool ⟨.str _, H, I.tok (s.toks + 1), ⟨_, rfl⟩, q⟩
  | int i t => simp only [PyData.shown] at q; exact PySem.P.repr_of_int (by simpa [PyData.showable] using hs) ⟨.str _, H, I.tok (s.toks + 1), ⟨_, rfl⟩, q⟩
  | str x t => simp only [PyData.shown] at q hl; exact PySem.P.repr_of_str ⟨.str _, H, I.tok (s.toks + 1), ⟨_, rfl⟩, q⟩ hl
  | list h1 h2 h3 h4 =>
    obtain ⟨T, idr, S⟩ := showsBy_rdd (prog := X.prog) (w := X.w) (.list h1 h2 h3 h4) hs hl
    exact call_repr_slot (by omega) (S.typeIs s fun _ _ e => e) S.slotRepr (S.call _ _ s _ hg (by show X.A.units + 1 + _ < cLine; omega) (fun _ _ e => e) fun h' u tk hk => ⟨_, _, rfl, ⟨.str _, H, I.kept hk, ⟨_, rfl⟩, q⟩⟩)
  | tuple h1 h2 h3 h4 =>
    obtain ⟨T, idr, S⟩ := showsBy_rdd (prog := X.prog) (w := X.w) (.tuple h1 h2 h3 h4) hs hl
    exact call_repr_slot (by omega) (S.typeIs s fun _ _ e => e) S.slotRepr (S.call _ _ s _ hg (by show X.A.units + 1 + _ < cLine; omega) (fun _ _ e => e) fun h' u tk hk => ⟨_, _, rfl, ⟨.str _, H, I.kept hk, ⟨_, rfl⟩, q⟩⟩)
  | dict h1 h2 h3 h4 h5 =>
    obtain ⟨T, idr, S⟩ := showsBy_rdd (prog := X.prog) (w := X.w) (.dict h1 h2 h3 h4 h5) hs hl
    exact call_repr_slot (by omega) (S.typeIs s fun _ _ e => e) S.slotRepr (S.call _ _ s _ hg (by show X.A.units + 1 + _ < cLine; omega) (fun _ _ e => e) fun h' u tk hk => ⟨_, _, rfl, ⟨.str _, H, I.kept hk, ⟨_, rfl⟩, q⟩⟩)
end NG

namespace NG
open PySem PySem.Spec PyProof.Rows L2
/-! ### a heap without one object -/
def hide (a : Addr) (H : Hp) : Hp := fun b => if b = a then none else H b
theorem hide_ne {a b : Addr} {H : Hp} (h : b ≠ a) : hide a H b = H b := if_neg h
theorem hide_same {a : Addr} {H : Hp} : Same (hide a H) H := fun b o e => by
  unfold hide at e
  split at e
  · cases e
  · exact e
theorem hide_but {a : Addr} {H H' : Hp} (h : But a H H') : Same (hide a H) (hide a H') := fun b o e => by
  unfold hide at e ⊢
  split at e
  · cases e
  · rename_i hn
    rw [if_neg hn]
    exact h b o hn e
theorem hide_sqt {a p : Addr} {H : Hp} {K : PySem.W.Frag} {n : Nat} {xs : List V} (hh : HandAt H a n) (q : SqT K H p xs) : SqT K (hide a H) p xs := by
  obtain ⟨l, e⟩ := hh.some
  rcases q with (q | ⟨o, q⟩) | q
  · exact .inl (.inl ((hide_ne (ne_of q e (by intro z; cases z))).trans q))
  · exact .inl (.inr ⟨o, (hide_ne (ne_of q e (by intro z; cases z))).trans q⟩)
  · exact .inr q
theorem hide_at {a p : Addr} {H : Hp} {o : HO} (h : p ≠ a) (q : H p = some o) : hide a H p = some o := (hide_ne h).trans q
theorem Dq.shown {K : PySem.W.Frag} {H : Hp} {a : Addr} {d : PyData} {v : V} (h : Dq K (hide a H) v d) : Dq K H v d := dq_same hide_same h
theorem Dq.but {K : PySem.W.Frag} {H H' : Hp} {a : Addr} {d : PyData} {v : V} (h : Dq K (hide a H) v d) (b : But a H H') : Dq K (hide a H') v d := dq_same (hide_but b) h
theorem hide_same2 {a : Addr} {H H' : Hp} (h : Same H H') : Same (hide a H) (hide a H') := hide_but (But.of h)
/-! ### shown, of numbers below 10 ** 40 -/
theorem Shh.int40 {i : Int} (h : i.natAbs < 10 ^ 40) : Shh (.int i) 140 0 := by
  have hl : i.natAbs.log2 < 139 := PySem.Flt.log2_lt_of (by decide) (Nat.lt_trans h (by decide))
  refine ⟨?_, ?_, ?_, Nat.le_refl _⟩
  · show decide (i.natAbs.log2 < 1920) = true
    exact decide_eq_true (by omega)
  · show decide ((PyData.shown (.int i)).length ≤ 70) = true
    refine decide_eq_true ?_
    have e := int_text_length_le10 (k := 40) (by decide) h
    show (Str.ofString (toString i)).length ≤ 70
    rw [PySem.ofString_length]
    omega
  · show (if i == 0 then 0 else i.natAbs.log2 + 1) ≤ 140
    split <;> omega
theorem chars_of (s : String) : ((Str.ofString s).cps.toList.all fun c => decide (c < 16 ^ 8)) = true := by
  rw [Str.ofString_eq_toList, List.all_eq_true]
  intro c hc
  rw [List.toList_toArray] at hc
  obtain ⟨x, _, rfl⟩ := List.mem_map.mp hc
  have h := x.valid
  refine decide_eq_true ?_
  have : x.toNat < 4294967296 := x.val.toNat_lt
  omega
theorem Shh.sint {i : Int} (h : i.natAbs < 10 ^ 40) : Shh (.str (Str.ofString (toString i))) 41 0 := by
  refine ⟨rfl, chars_of _, ?_, Nat.le_refl _⟩
  have e := int_text_length_le10 (k := 40) (by decide) h
  show (Str.ofString (toString i)).length ≤ 41
  rw [PySem.ofString_length]
  exact e
theorem Shh.non : Shh .none 0 0 := ⟨rfl, rfl, Nat.le_refl _, Nat.le_refl _⟩
theorem Shh.bl (b : Bool) : Shh (.bool b) 0 0 := ⟨rfl, rfl, Nat.le_refl _, Nat.le_refl _⟩
theorem Shh.dic : Shh (.dict []) 0 1 := ⟨rfl, rfl, Nat.le_refl _, Nat.le_refl _⟩
theorem shh_all {f : PyData → Prop} {w k : Nat} : ∀ {ds : List PyData}, (∀ d ∈ ds, Shh d w k) → ShhAll ds (ds.length * (w + 1)) k
  | [], _ => by simpa using (ShhAll.nil : ShhAll [] 0 k)
  | d :: ds, h => by
    have h1 := h d List.mem_cons_self
    have h2 := shh_all (f := f) (ds := ds) fun x hx => h x (List.mem_cons_of_mem _ hx)
    refine (ShhAll.cons h1 h2 (Nat.le_refl _) (Nat.le_refl _)).mono ?_ (Nat.le_refl _)
    rw [List.length_cons, Nat.succ_mul]
    omega
end NG

set_option maxHeartbeats 2000000
namespace NG
open PySem PySem.Spec PyProof.Rows L2
/-! ### a written dict's keys: a text that may be none of them, None -/
def KdAt (K : PySem.W.Frag) (w : World) (d : Addr) : Prop := ∃ es n, K.lookup d = some ⟨.type "dict", none, .dict es n, #[]⟩ ∧ PySem.W.KeysLit w.params es.toList ∧ (d == sysModules) = false
def rInKq (K : PySem.W.Frag) (w : World) (neg : Bool) : R2 := fun x y H Q => ∃ d, y = .ref d ∧ KdAt K w d ∧ ((∃ z r, x = .str z ∧ PySem.W.nsIn K d z = some r ∧ Q (.bl (xor neg r.isSome)) H) ∨ (x = .non ∧ Q (.bl neg) H))
theorem none_mapK {P : Program} {w : World} {h : Heap} {K : PySem.W.Frag} {d : Addr} {es : Array DictEntry} {n : Nat} (X : K.In h) (hl : K.lookup d = some ⟨.type "dict", none, .dict es n, #[]⟩) (hk : PySem.W.KeysLit w.params es.toList) : ∃ f, h.MapOf (noneKind P w) d f ∧ f none = none := by
  refine ⟨fun k => findBy (noneKind P w).is es k, ⟨_, es, n, X _ _ hl, ⟨rfl, rfl, rfl⟩, rfl, fun e he => ?_, fun k => rfl⟩, ?_⟩
  · obtain ⟨x, t, e1, e2⟩ := hk.all e (Array.mem_toList_iff.mpr he)
    refine ⟨some (Sum.inr x), ?_, e2⟩
    rw [e1]
    exact kV_is (P := P) (w := w) (k := Sum.inr x) (u := .str x t) ⟨t, rfl⟩
  · have q : (es.find? fun e => nkIs none e.key) = none := by
      rw [Array.find?_eq_none]
      intro e he hq
      obtain ⟨x, t, e1, e2⟩ := hk.all e (Array.mem_toList_iff.mpr he)
      rw [e1] at hq
      cases hq
    show (es.find? fun e => nkIs none e.key).map (·.val) = none
    rw [q] <;> rfl
theorem op_inKq {X : Cx} : OpR X (compareOp .In) (rInKq X.K X.w false) := by
  intro pins s σ H x y v u Q I rx ry h
  obtain ⟨d, rfl, ⟨es, n, hl, hk, low⟩, h⟩ := h
  rcases h with ⟨z, r, rfl, e, q⟩ | ⟨rfl, q⟩
  · rw [Bool.false_xor] at q
    exact op_in_kd (X := X) ⟨hl, hk, low⟩ pins s σ H _ _ v u Q I rx ry ⟨z, r, rfl, rfl, e, q⟩
  · cases rx
    cases ry
    obtain ⟨f, hm, hf⟩ := none_mapK (P := X.prog) I.kIn hl hk
    refine wpAny_in_of (show (noneKind X.prog X.w).is none .none = true from rfl) low hm ?_
    rw [hf]
    exact ⟨.bl false, H, I.tok _, rfl, q⟩
theorem op_ninKq {X : Cx} : OpR X (compareOp .NotIn) (rInKq X.K X.w true) := by
  intro pins s σ H x y v u Q I rx ry h
  obtain ⟨d, rfl, ⟨es, n, hl, hk, low⟩, h⟩ := h
  rcases h with ⟨z, r, rfl, e, q⟩ | ⟨rfl, q⟩
  · rw [Bool.true_xor] at q
    exact op_notIn_kd (X := X) ⟨hl, hk, low⟩ pins s σ H _ _ v u Q I rx ry ⟨z, r, rfl, rfl, e, q⟩
  · cases rx
    cases ry
    obtain ⟨f, hm, hf⟩ := none_mapK (P := X.prog) I.kIn hl hk
    refine wpAny_notIn_of (show (noneKind X.prog X.w).is none .none = true from rfl) low hm ?_
    rw [hf]
    exact ⟨.bl true, H, I.tok _, rfl, q⟩
/-- what stands in the keys' row -/
def ktx (l : List DictEntry) : List (Option Str) := l.map fun e => match e.key with
  | .str x _ => some x
  | _ => none
theorem nsIn_absent {K : PySem.W.Frag} {w : World} {d : Addr} {es : Array DictEntry} {n : Nat} {x : Str} (hl : K.lookup d = some ⟨.type "dict", none, .dict es n, #[]⟩) (hk : PySem.W.KeysLit w.params es.toList) (h : some x ∉ ktx es.toList) : PySem.W.nsIn K d x = some none := by
  have key : ∀ e ∈ es.toList, e.key.isStr x = false ∧ e.refKey = false := fun e he => by
    obtain ⟨y, t, e1, e2⟩ := hk.all e he
    have hne : x ≠ y := fun z => h (by
      rw [z]
      exact List.mem_map.mpr ⟨e, he, by rw [e1]⟩)
    refine ⟨?_, ?_⟩
    · rw [e1]
      show (y == x) = false
      exact beq_eq_false_iff_ne.mpr fun z => hne z.symm
    · unfold DictEntry.refKey
      rw [e1]
  unfold PySem.W.nsIn
  rw [hl]
  dsimp only
  have h1 : es.toList.find? (·.key.isStr x) = none := List.find?_eq_none.mpr fun e he => by rw [(key e he).1]; exact Bool.false_ne_true
  rw [h1]
  dsimp only
  rw [if_neg]
  rw [List.any_eq_true]
  rintro ⟨e, he, q⟩
  rw [(key e he).2] at q
  cases q
/-! ### d.update(e), both with ints and texts as keys -/
def rDUpdate : V → List V → Hp → VK → Prop := fun x vs H Q => ∃ (a b : Addr) (ka kb : List (Key × V)), x = .ref a ∧ vs = [.ref b] ∧ a ≠ b ∧ H a = some (.dK ka) ∧ H b = some (.dK kb) ∧ ka.length + kb.length ≤ sizeLine ∧ Q .non (upd H a (.dK (mergeK ka kb)))
theorem mt_dupdate {X : Cx} : MtM X "dict.update" rDUpdate := by
  intro pins s σ H x vs v us Q I rx rv h
  obtain ⟨a, b, ka, kb, rfl, rfl, hab, ha, hb, hz, q⟩ := h
  cases rx
  obtain ⟨u, rfl, ru⟩ := rv.one
  cases ru
  obtain ⟨za, da, va, ra, dda⟩ := dk_of I.hok ha
  obtain ⟨zb, db, vb, rb, ddb⟩ := dk_of I.hok hb
  have l1 := ra.length
  have l2 := rb.length
  refine call_meetsIn F.slot_dict_update ?_ F.entry_dict_update ?_ (meets_dict_update (mixKind X.prog X.w) a b hab db) ⟨va, vb, dda, ddb, by omega, fun h' dd' _ hs => ?_⟩
  · exact let ⟨o, _, _, ho, hx, _⟩ := dda; ⟨o, ho, hx.1⟩
  · exact F.args_dict_update_2 _ _
  · have he : ∃ q, h'.get? a = some q := let ⟨q, _, _, hq, _⟩ := dd'; ⟨q, hq⟩
    have hl : (mergeK ka kb).length ≤ sizeLine := Nat.le_trans (length_mergeK kb ka) hz
    exact ⟨.non, _, d_write I (by rw [ha]; exact True.intro) hs he (dk_new hl da (KV.merge rb ra) dd'), rfl, q⟩
/-! ### t[::-1] of a tuple -/
theorem vals_rev' {xs : List V} {us : List Value} (r : Vals xs us) : Vals xs.reverse us.reverse := Vals.rev r
/-! ### t == () -/
def rEqE (K : PySem.W.Frag) : R2 := fun x y H Q => ∃ a b xs, x = .ref a ∧ y = .ref b ∧ SqT K H a xs ∧ SqT K H b [] ∧ Q (.bl xs.isEmpty) H
theorem op_eqE {X : Cx} (hu : X.A.units + 64 < cLine) : OpR X (compareOp .Eq) (rEqE X.K) := by
  intro pins s σ H x y v u Q I rx ry h
  obtain ⟨a, b, xs, rfl, rfl, ha, hb, q⟩ := h
  cases rx
  cases ry
  obtain ⟨its, r1, p1, _⟩ := I.tuple ha
  obtain ⟨its2, r2, p2, _⟩ := I.tuple hb
  cases r2
  refine PySem.W.eq_tuplesT (n := 0) (e := fun _ => true) p1 p2 (fun j h1 h2 => absurd h2 (by simp)) (by omega) ⟨.bl xs.isEmpty, H, I, ?_, q⟩
  have l := r1.length
  show Value.bool _ = Value.bool _
  cases xs with
  | nil => cases r1; rfl
  | cons z zs =>
    cases r1 with
    | cons _ _ => rfl
end NG

set_option maxHeartbeats 2000000
namespace NG
open PySem PySem.Spec PyProof.Rows L2
/-! ### zip of a text with a tuple -/
def sgV (x : Str) (i : Nat) : Option V := (x.cps[i]?).map fun c => V.str ⟨#[c]⟩
def ItST (K : PySem.W.Frag) (x : Str) (b : Addr) : It :=
  ⟨fun i H => ∃ (ws : List V) (u v : V), SqT K H b ws ∧ sgV x i = some u ∧ ws[i]? = some v,
   fun i H r H' => ∃ (T : Addr) (u v : V), r = .ref T ∧ H T = none ∧ H' = upd H T (.tup [u, v]) ∧ sgV x i = some u ∧ ∀ ws, SqT K H b ws → ws[i]? = some v,
   fun i H => ∃ ws : List V, SqT K H b ws ∧ x.cps.size = i ∧ ws.length = i⟩
theorem turn_ST {x0 : Str} {tk0 : Tok} {P : Program} {w : World} {K : PySem.W.Frag} {es : List Expr} {k : Nat} {ps : Pos} {b z TI TO i1 i2 : Addr} (S : ZipSep2 z TI TO i1 i2 [i1] [i2, b]) (nb : b ≠ i2) :
    Turn P w K (.Tuple es k ps) (ItST K x0 b) [z, TI, TO, i1, i2] z (fun i h => IsZip h z TI TO .none ∧ IsTupOf2 h TI (.ref i1) (.ref i2) ∧ (∃ c d, IsTupOf2 h TO c d) ∧ h.IsStrIter i1 (strIterType x0) x0 tk0 i ∧ h.IsTupleIter i2 b i) := by
  have five : ∀ {c : Addr}, c ∈ [z, TI, TO, i1, i2] → c = z ∨ c = TI ∨ c = TO ∨ c = i1 ∨ c = i2 := fun h => by simpa using h
  have lives : ∀ (i : Nat) (h : Heap), (IsZip h z TI TO .none ∧ IsTupOf2 h TI (.ref i1) (.ref i2) ∧ (∃ c d, IsTupOf2 h TO c d) ∧ h.IsStrIter i1 (strIterType x0) x0 tk0 i ∧ h.IsTupleIter i2 b i) → ∀ c ∈ [z, TI, TO, i1, i2], ∃ o, h.get? c = some o ∧ ∀ v, o.data ≠ .cell v := fun i h st c hc => by
    obtain ⟨s1, s2, ⟨x, y, s3⟩, ⟨o4, s4, _, d4⟩, ⟨o5, s5, _, d5⟩⟩ := st
    rcases five hc with rfl | rfl | rfl | rfl | rfl
    · exact ⟨_, s1, fun v q => nomatch q⟩
    · exact ⟨_, s2, fun v q => nomatch q⟩
    · exact ⟨_, s3, fun v q => nomatch q⟩
    · exact ⟨o4, s4, fun v q => by rw [d4] at q; exact nomatch q⟩
    · exact ⟨o5, s5, fun v q => by rw [d5] at q; exact nomatch q⟩
  refine ⟨List.mem_cons_self, lives, fun i h h' st kp => ?_, fun X eP ew eK hc i pins s σ H E I hf st hg => ?_, fun X eP ew eK hc i pins s σ H E I hf st hg => ?_, fun A i s Q E st q => wpAny_pyIter_zip st.1 q⟩
  · obtain ⟨s1, s2, ⟨x, y, s3⟩, s4, s5⟩ := st
    exact ⟨kp _ (by simp) _ s1, kp _ (by simp) _ s2, ⟨x, y, kp _ (by simp) _ s3⟩, let ⟨o, ho, r⟩ := s4; ⟨o, kp _ (by simp) o ho, r⟩, s5.at fun o q => kp _ (by simp) o q⟩
  · cases eP
    cases ew
    cases eK
    have lv := lives i _ st
    obtain ⟨s1, s2, s3, s4, s5⟩ := st
    obtain ⟨ws, u, v, qb, hu, hv⟩ := hg
    obtain ⟨lb, rb, pb, _⟩ := I.tuple qb
    obtain ⟨v', ev', rv⟩ := rb.get hv
    have W := WalksT.zipD2 (A := X.A) S (Draws.text (prog := X.prog) (w := X.w) (A := X.A.in1) (I.ok.hd hc) i1 x0 tk0) (Draws.tuple (A := X.A.in1) (I.ok.hd hc) i2 b nb lb.toArray)
    obtain ⟨c0, hc0, eu0⟩ : ∃ c, x0.cps[i]? = some c ∧ V.str ⟨#[c]⟩ = u := by
      unfold sgV at hu
      cases hq : x0.cps[i]? with
      | none => rw [hq] at hu; cases hu
      | some c => rw [hq] at hu; exact ⟨c, rfl, Option.some.inj hu⟩
    have il : i < x0.cps.size := (Array.getElem?_eq_some_iff.mp hc0).1
    have ir : i < lb.length := (List.getElem?_eq_some_iff.mp ev').1
    refine W.item i s _ E (by have hsz : lb.toArray.size = lb.length := List.size_toArray; omega) ⟨s1, s2, s3, s4, ⟨s5, pb⟩⟩ fun T vals h1 tk pv hT tT mid k1 => ⟨_, rfl, ?_⟩
    have apT := W.apart i T h1 mid
    refine W.go es k ps i T _ _ _ mid fun h2 st2 k2 => ?_
    obtain ⟨x1, x2, e1, e2, rfl⟩ := pv
    obtain ⟨c1, u1, hc1, ex1⟩ := e1
    have f1 : c1 = c0 := Option.some.inj (hc1.symm.trans hc0)
    have f2 : x2 = v' := by
      have := e2.symm.trans (show lb.toArray[i]? = some v' by simpa using ev')
      exact Option.some.inj this
    subst f1 f2 ex1
    have ru : RelV u (.str ⟨#[c1]⟩ u1) := by rw [← eu0]; exact ⟨u1, rfl⟩
    obtain ⟨z1, z2, z3, z4, ⟨z5, _⟩⟩ := st2
    have tT2 : h2.IsTuple T #[.str ⟨#[c1]⟩ u1, x2] := tT.at fun o e => k2 T o apT e
    have in5 : ∀ c, c ∉ [z, TI, TO, i1, i2] → c ∉ [z, TO, i1, i2] := fun c h m => h (by
      rcases (by simpa using m : c = z ∨ c = TO ∨ c = i1 ∨ c = i2) with rfl | rfl | rfl | rfl <;> simp)
    have J := I.turnedNew (h' := h2) (t' := tk) (ch := [z, TI, TO, i1, i2]) (T := T) (ob := .tup [u, v]) (fun c o hb' q => k2 c o (in5 c hb') (k1 c o (in5 c hb') q)) hf hT ⟨(by show 2 ≤ sizeLine; decide), [.str ⟨#[c1]⟩ u1, x2], .cons ru (.cons rv .nil), tT2⟩
    refine ⟨.ref T, _, J, rfl, ⟨T, u, v, rfl, I.hok.fresh hT, rfl, hu, fun l hl => ?_⟩, ⟨z1, z2, z3, z4, z5⟩, fun c hcm => ?_⟩
    · rw [I.tuple_inj hl qb]
      exact hv
    · obtain ⟨o, ho, _⟩ := lv c hcm
      have lt := Heap.lt_size ho
      rw [upd_ne (Nat.ne_of_lt (Nat.lt_of_lt_of_le lt hT))]
      exact (hf c hcm).1
  · cases eP
    cases ew
    cases eK
    obtain ⟨s1, s2, s3, s4, s5⟩ := st
    obtain ⟨ws, qb, e1, e2⟩ := hg
    obtain ⟨lb, rb, pb, _⟩ := I.tuple qb
    have W := WalksT.zipD2 (A := X.A) S (Draws.text (prog := X.prog) (w := X.w) (A := X.A.in1) (I.ok.hd hc) i1 x0 tk0) (Draws.tuple (A := X.A.in1) (I.ok.hd hc) i2 b nb lb.toArray)
    have l2 := rb.length
    have en : min x0.cps.size lb.toArray.size = i := by
      have hsz : lb.toArray.size = lb.length := List.size_toArray
      omega
    rw [en] at W
    refine W.done s _ E ⟨s1, s2, s3, s4, ⟨s5, pb⟩⟩ fun h1 tk k1 => ⟨rfl, ?_⟩
    exact I.turnedL (t' := tk) (ch := [z, TI, TO, i1, i2]) (fun c o hb' q => k1 c o (fun m => hb' (by rcases (by simpa using m : c = z ∨ c = TO ∨ c = i1 ∨ c = i2) with rfl | rfl | rfl | rfl <;> simp)) q) hf
def iZipST (K : PySem.W.Frag) (ta : TA) : TI := fun σ H R => ta σ H fun vs H1 => ∃ x b ws, vs = [.str x, .ref b] ∧ SqT K H1 b ws ∧ R (ItST K x b) H1
theorem pi_zipST {X : Cx} {e e2 : Expr} {ta : TA} {p pos tpos : Pos} {elts : List Expr} {kk : Nat} (hg : Gl X "zip") (hm : X.mg "zip" = none) (ha : PA X [e, e2] ta)
    (hs : starEach [e, e2] X.env = (false, eval e X.env) :: starEach [e2] X.env := by rfl) (hpl : (backTo pos (starEach [e2] X.env)).any (·.1) = false := by rfl) : PI X (.Tuple elts kk tpos) (.Call (.Name "zip" p) [e, e2] [] pos) (iZipST X.K ta) := by
  refine ⟨fun pins s σ H R I h => Call_ (ld_blt I hg hm PyProof.Rows.boot_zip (PyProof.Rows.callWith_type1 (thn (ha.run pos pins s σ H _ I h) fun us s1 ⟨vs, H1, I1, r1, q1⟩ => ?_) hs hpl))⟩
  obtain ⟨x0, b, wl, rfl, qb, q⟩ := q1
  obtain ⟨v1, v2, rfl, t1, t2⟩ := vals2 r1
  obtain ⟨tk0, rfl⟩ := t1
  cases t2
  obtain ⟨lb, rb, pb, _⟩ := I1.tuple qb
  obtain ⟨ob, hob, _⟩ := id pb
  have lt2 : b < s1.heap.objs.size := Heap.lt_size hob
  refine zip_begins2 (begins_text x0 tk0) (begins_tuple b lb.toArray) trivial pb fun h' hz hTI hTO g1 g2 hsz hk => wpAny_pyIter_zip hz ?_
  have J : Inv X pins σ H1 { s1 with heap := h' } := I1.kept (t' := s1.toks) hk
  have S := zip_sep2 (N := s1.heap.objs.size) (fp1 := []) (fp2 := [b]) (fun c hc => absurd hc (by simp)) (fun c hc => by rw [List.mem_singleton.mp hc]; exact lt2)
  refine ⟨_, _, _, _, H1, rfl, J, turn_ST S (Nat.ne_of_lt (Nat.lt_succ_of_lt lt2)), ⟨hz, hTI, ⟨_, _, hTO⟩, ⟨_, g1, rfl, rfl⟩, ⟨_, g2, rfl, rfl⟩⟩, fun c hcm => ?_, q⟩
  have le : s1.heap.objs.size ≤ c := by
    rcases (by simpa using hcm : c = s1.heap.objs.size + 4 ∨ c = s1.heap.objs.size + 2 ∨ c = s1.heap.objs.size + 3 ∨ c = s1.heap.objs.size ∨ c = s1.heap.objs.size + 1) with e | e | e | e | e <;> (rw [e]; first | exact Nat.le_refl _ | exact Nat.le_add_right _ _)
  exact I1.fpOk le (I1.hok.fresh le)
theorem walk_ST {K : PySem.W.Frag} {x : Str} {b : Addr} {ws : List V} {n : Nat} (hx : x.cps.size = n) (hy : ws.length = n) : Walk (ItST K x b) n (fun H => SqT K H b ws) (YPair (fun i => sgV x i) (fun i => ws[i]?)) := by
  refine ⟨fun i H hi q => ⟨ws, V.str ⟨#[x.cps[i]'(by omega)]⟩, ws[i]'(by omega), q, ?_, List.getElem?_eq_getElem _⟩, fun H q => ⟨ws, q, hx, hy⟩, fun i H v H' hi q y => ?_⟩
  · unfold sgV
    rw [Array.getElem?_eq_getElem (by omega)]
    rfl
  · obtain ⟨T, x, z, h1, h2, h3, h4, h5⟩ := y
    exact ⟨T, x, z, h1, h2, h3, h4, h5 ws q⟩
end NG

set_option maxHeartbeats 2000000
namespace PySem
namespace HT
open PySem PySem.Spec PyProof.Rows
theorem filterMap_same {α β : Type} {f g : α → Option β} : ∀ {l : List α}, (∀ m ∈ l, f m = g m) → l.filterMap f = l.filterMap g
  | [], _ => rfl
  | x :: l, h => by
    rw [List.filterMap_cons, List.filterMap_cons, h x List.mem_cons_self, filterMap_same fun m hm => h m (List.mem_cons_of_mem _ hm)]
section
variable {prog : Program} {w : World} {A : Around} {E : Value → Shared → Prop} {s : Shared}
theorem sliceApplied_rev {sl : Addr} {t0 : Tok} {n : Nat} {Q : Int × Int × Nat → Shared → Prop} (hs : s.heap.IsSliceOf sl .none .none (.int (-1) t0))
    (h : Q ((n : Int) - 1, -1, n) s) : wpAny (model prog w) A (Builtin.Slice.sliceApplied (.ref sl) (pure (n : Int))) Q E s := by
  obtain ⟨os, hos, hcs, hds⟩ := id hs
  unfold Builtin.Slice.sliceApplied Builtin.Slice.sliceFields
  refine wpAny_bind (wpAny_bind (wpAny_field hos hds (x := .none) rfl (wpAny_bind (wpAny_field hos hds (x := .none) rfl (wpAny_bind (wpAny_field hos hds (x := .int (-1) t0) rfl (wpAny_pure ?_)))))))
  refine wpAny_bind (slicePart_int ?_)
  show wpAny _ _ (if ((-1 : Int) == 0) = true then _ else _) _ _ s
  rw [if_neg (by decide)]
  refine wpAny_bind (slicePart_none (wpAny_bind (slicePart_none (wpAny_bind (wpAny_pure ?_)))))
  show wpAny _ _ (match Builtin.Slice.sliceAdjust none none (-1) (n : Int) with | (lo, hi) => pure (lo, (-1 : Int), Builtin.Slice.slicePlaces lo hi (-1))) _ _ s
  have e : Builtin.Slice.sliceAdjust none none (-1) (n : Int) = ((n : Int) - 1, -1) := by
    unfold Builtin.Slice.sliceAdjust
    simp
  rw [e]
  show wpAny _ _ (pure ((n : Int) - 1, (-1 : Int), Builtin.Slice.slicePlaces ((n : Int) - 1) (-1) (-1))) _ _ s
  have e2 : Builtin.Slice.slicePlaces ((n : Int) - 1) (-1) (-1) = n := by
    unfold Builtin.Slice.slicePlaces
    simp
    omega
  rw [e2]
  exact wpAny_pure h
theorem pick_rev (xs : Array Value) : ((List.range xs.size).filterMap fun (m : Nat) => xs[(((xs.size : Int) - 1) + (m : Int) * (-1)).toNat]?).toArray = xs.toList.reverse.toArray := by
  have e : ((List.range xs.size).filterMap fun (m : Nat) => xs[(((xs.size : Int) - 1) + (m : Int) * (-1)).toNat]?) = ((List.range xs.size).map fun k => xs.size - 1 - k).filterMap (xs[·]?) := by
    rw [List.filterMap_map]
    refine filterMap_same fun m hm => ?_
    have hm := List.mem_range.mp hm
    show xs[(((xs.size : Int) - 1) + (m : Int) * (-1)).toNat]? = xs[xs.size - 1 - m]?
    congr 1
    omega
  rw [e, PySem.W.krv_range, List.filterMap_reverse, PySem.W.krv_all]
theorem getItem_tuple_rev {t sl : Addr} {t0 : Tok} {items : Array Value} {Q : Value → Shared → Prop} (ht : IsTup s.heap t items) (hs : s.heap.IsSliceOf sl .none .none (.int (-1) t0))
    (h : Q (.ref s.heap.objs.size) { s with heap := s.heap.push { cls := .type "tuple", data := .seq items.toList.reverse.toArray } })
    (hsz : items.size ≤ sizeLine) : wpAny (model prog w) A (getItem (.ref t) (.ref sl)) Q E s := by
  have htake : sizeOk (.seq items.toList.reverse.toArray) := by
    show items.toList.reverse.toArray.size ≤ sizeLine
    rw [List.size_toArray, List.length_reverse, Array.length_toList]
    exact hsz
  obtain ⟨os, hos, hcs, hds⟩ := id hs
  have hTs : s.TypeIs (.ref sl) "slice" := ⟨os, hos, hcs⟩
  unfold getItem
  try with_reducible refine wpAny_holding ?_
  first | refine wpAny_bind (wpAny_pure ?_) | skip
  refine wpAny_bind (wpAny_sequenceKey ht.typeIs (by decide) ?_)
  refine wpAny_bind (wpAny_callSpecial?_slot (name := Str.ofString "__getitem__") ht.typeIs PyProof.Rows.slot_tuple_getitem
    (wpAny_call_entry PyProof.Rows.slot_tuple_getitem ht.typeIs entry_tuple_getitem ?_ (args_tuple_getitem _ _)))
  show wpAny _ _ (Builtin.Tuple.tupleItemsOf (.ref t) >>= _) _ _ s
  refine wpAny_bind (tupleItemsOf_ ht ?_)
  refine wpAny_bind (wpAny_typeOf hTs ?_)
  rw [if_pos (by decide)]
  refine wpAny_bind (sliceApplied_rev hs ?_)
  show wpAny _ _ (if ((((items.size : Int) - 1) == 0 && (-1 : Int) == 1 && items.size == items.size)) = true then _ else _) _ _ s
  rw [if_neg (by simp), pick_rev]
  first
    | exact wpAny_bind (m := Builtin.Tuple.tupleExact _) (wpAny_newObj_type (wpAny_pure ⟨_, rfl, wpAny_pure h⟩) htake)
    | exact wpAny_bind (m := Builtin.Tuple.tupleExact _) (wpAny_newObj_type (wpAny_bind (wpAny_pure (wpAny_pure ⟨_, rfl, wpAny_pure h⟩))) htake)
    | exact wpAny_bind (wpAny_bind (m := Builtin.Tuple.tupleExact _) (wpAny_newObj_type (wpAny_pure (wpAny_pure ⟨_, rfl, wpAny_pure h⟩)) htake))
    | exact wpAny_bind (wpAny_bind (m := Builtin.Tuple.tupleExact _) (wpAny_newObj_type (wpAny_pure ⟨_, rfl, wpAny_pure h⟩) htake))
end
end HT
end PySem
namespace NG
open PySem PySem.Spec PyProof.Rows L2
/-! ### a def without parameters -/
theorem pe_c0 {X : Cx} {k j : Nat} {x : Str} {sp : Sp} {p pos : Pos} (c : Cal X.prog X.w X.K X.mg X.base k x sp) (hr : Room j X.A) (hk : k ≤ j) (hg : Gl X x) (hdb : (x == ("__debug__" : Str)) = false := by decide) : PE X (.Call (.Name x p) [] [] pos) (tCall sp [] E0 tNil) := by
  obtain ⟨f, fd, ps, F, hm, kp, b⟩ := c.ex
  exact pe_call0 F (hr.mono hk) hg hm kp b .nil pass0 hdb
/-! ### t[::-1] of a tuple -/
theorem pe_revT {X : Cx} {e st : Expr} {te ts : TE} {pos p2 : Pos} (he : PE X e te) (hs : PE X st ts) : PE X (.Subscript e (.Slice none none (some st) p2) pos)
    (fun σ H Q => te σ H fun x H1 => ts σ H1 fun y H2 => y = .int (-1) ∧ ∃ a xs, x = .ref a ∧ SqT X.K H2 a xs ∧ ∀ p, H2 p = none → Q (.ref p) (upd H2 p (.tup xs.reverse))) := by
  refine ⟨fun pins s σ H Q I h => ?_⟩
  refine Subscript_ (thn (he.run pins s σ H _ I h) fun v s1 ⟨x, H1, I1, r1, q1⟩ => ?_)
  refine wpAny_Slice ?_
  rw [evalPart_none]
  refine wpAny_pure (wpAny_pure ?_)
  rw [evalPart_some]
  refine thn (hs.run pins s1 σ H1 _ I1 q1) fun vk s2 ⟨y, H2, I2, r2, q2⟩ => ?_
  obtain ⟨rfl, a, xs, rfl, hx, q⟩ := q2
  obtain ⟨t, rfl⟩ := r2
  cases r1
  have I3 : Inv X pins σ H2 { s2 with heap := s2.heap.push { cls := .type "slice", data := .fields #[.none, .none, .int (-1) t] } } := I2.kept (t' := s2.toks) fun b ob q => Heap.get?_push_of_some _ q
  obtain ⟨its', rv', ht', hz'⟩ := I3.tuple hx
  have hl := rv'.length
  refine tail_any (ops := [.ref a, .ref s2.heap.objs.size]) ht'.typeIs PyProof.Rows.slot_tuple_getitem.lookup ?_ (by with_unfolding_all rfl)
  refine PySem.HT.getItem_tuple_rev ht' (Heap.IsSliceOf.new ..) ?_ (by rw [List.size_toArray]; omega)
  refine ⟨.ref _, _, I3.laid (t' := s2.toks) (o := .tup xs.reverse) (fun b ob q => Heap.get?_push_of_some _ q) (Nat.le_refl _) ?_, rfl, q _ (I3.hok.fresh (Nat.le_refl _))⟩
  exact ⟨by rw [List.length_reverse]; exact hz', its'.reverse, Vals.rev rv', IsTup.new _ _⟩
end NG

set_option maxHeartbeats 2000000
namespace NG
open PySem PySem.Spec PyProof.Rows L2
/-! ### a truth taken for an int -/
def b2 (b : Bool) : Int := if b = true then 1 else 0
def rBI (f : Int → Int → Int) : R2 := fun x y H Q => ∃ i j, y = .int j ∧ (x = .int i ∨ ∃ b, x = .bl b ∧ i = b2 b) ∧ Q (.int (f i j)) H
theorem op_addIB {X : Cx} : OpR X (binaryOp .Add) (rBI (· + ·)) := by
  intro pins s σ H x y v u Q I rx ry h
  obtain ⟨i, j, rfl, h, q⟩ := h
  rcases h with rfl | ⟨b, rfl, rfl⟩
  · exact op_add (X := X) pins s σ H _ _ v u Q I rx ry ⟨i, j, rfl, rfl, q⟩
  · obtain rfl : v = Value.bool b := rx
    obtain ⟨t, rfl⟩ := ry
    exact PySem.IntBool.add_bool_int ⟨.int _, H, I.tok _, ⟨_, rfl⟩, q⟩
theorem op_subIB {X : Cx} : OpR X (binaryOp .Sub) (rBI (· - ·)) := by
  intro pins s σ H x y v u Q I rx ry h
  obtain ⟨i, j, rfl, h, q⟩ := h
  rcases h with rfl | ⟨b, rfl, rfl⟩
  · exact op_sub (X := X) pins s σ H _ _ v u Q I rx ry ⟨i, j, rfl, rfl, q⟩
  · obtain rfl : v = Value.bool b := rx
    obtain ⟨t, rfl⟩ := ry
    exact PySem.IntBool.sub_bool_int ⟨.int _, H, I.tok _, ⟨_, rfl⟩, q⟩
def shIB : V → Option Str
  | .int i => if i.natAbs.log2 < 1920 then some (Str.ofString (toString i)) else none
  | .bl b => some (if b = true then "True" else "False")
  | _ => none
theorem call_strIB {X : Cx} : CallR X (.type "str") (fun xs H Q => ∃ v z, xs = [v] ∧ shIB v = some z ∧ Q (.str z) H) := by
  intro pins s σ H xs us Q I r h
  obtain ⟨v, z, rfl, hz, q⟩ := h
  cases v with
  | int i =>
    have hz : (if i.natAbs.log2 < 1920 then some (Str.ofString (toString i)) else none) = some z := hz
    by_cases hc : i.natAbs.log2 < 1920
    · rw [if_pos hc] at hz
      have hz := Option.some.inj hz
      subst hz
      exact call_str_int (X := X) pins s σ H _ us Q I r ⟨i, rfl, hc, q⟩
    · rw [if_neg hc] at hz
      cases hz
  | bl b =>
    cases hz
    obtain ⟨u, rfl, t⟩ := vals1 r
    obtain rfl : u = Value.bool b := t
    exact PySem.P.str_of_bool ⟨.str _, H, I.tok _, ⟨_, rfl⟩, q⟩
  | _ => cases hz
end NG

set_option maxHeartbeats 2000000
namespace NG
open PySem PySem.Spec PyProof.Rows L2
/-! ### things with small leaves -/
mutual
def tame (B : Nat) : PyData → Bool
  | .none => true
  | .bool _ => true
  | .int i => decide (i.natAbs ≤ B)
  | .str x => (x.cps.toList.all fun c => decide (c < 16 ^ 8))
  | .list ds => tameAll B ds
  | .tuple ds => tameAll B ds
  | .dict kvs => kvs.isEmpty
def tameAll (B : Nat) : List PyData → Bool
  | [] => true
  | d :: ds => tame B d && tameAll B ds
end
mutual
theorem tame_show {B : Nat} (hB : B < 10 ^ 40) : ∀ {d : PyData}, tame B d = true → d.showable = true ∧ d.leavesShort 70 = true
  | .none, _ => ⟨rfl, rfl⟩
  | .bool _, _ => ⟨rfl, rfl⟩
  | .int i, h => by
    have h : i.natAbs ≤ B := of_decide_eq_true (by unfold tame at h; exact h)
    have := Shh.int40 (i := i) (by omega)
    exact ⟨this.sh, this.lf⟩
  | .str x, h => ⟨rfl, by unfold tame at h; exact h⟩
  | .list ds, h => by
    unfold tame at h
    exact tameAll_show hB h
  | .tuple ds, h => by
    unfold tame at h
    exact tameAll_show hB h
  | .dict [], h => ⟨rfl, rfl⟩
  | .dict (_ :: _), h => by
    unfold tame at h
    cases h
theorem tameAll_show {B : Nat} (hB : B < 10 ^ 40) : ∀ {ds : List PyData}, tameAll B ds = true → PyData.showableAll ds = true ∧ PyData.leavesShortAll 70 ds = true
  | [], _ => ⟨rfl, rfl⟩
  | d :: ds, h => by
    unfold tameAll at h
    rw [Bool.and_eq_true] at h
    obtain ⟨a, b⟩ := tame_show hB h.1
    obtain ⟨c, e⟩ := tameAll_show hB h.2
    exact ⟨by show (d.showable && PyData.showableAll ds) = true; rw [a, c]; rfl, by show (d.leavesShort 70 && PyData.leavesShortAll 70 ds) = true; rw [b, e]; rfl⟩
end
mutual
theorem tame_mono {B B' : Nat} (h : B ≤ B') : ∀ {d : PyData}, tame B d = true → tame B' d = true
  | .none, _ => rfl
  | .bool _, _ => rfl
  | .int i, x => by
    unfold tame at x ⊢
    have := of_decide_eq_true x
    exact decide_eq_true (by omega)
  | .str x, h => by unfold tame at h ⊢; exact h
  | .list ds, x => by unfold tame at x ⊢; exact tameAll_mono h x
  | .tuple ds, x => by unfold tame at x ⊢; exact tameAll_mono h x
  | .dict _, x => by unfold tame at x ⊢; exact x
theorem tameAll_mono {B B' : Nat} (h : B ≤ B') : ∀ {ds : List PyData}, tameAll B ds = true → tameAll B' ds = true
  | [], _ => rfl
  | d :: ds, x => by
    unfold tameAll at x ⊢
    rw [Bool.and_eq_true] at x ⊢
    exact ⟨tame_mono h x.1, tameAll_mono h x.2⟩
end
structure Tm (B W D : Nat) (d : PyData) : Prop where
  tm : tame B d = true
  wt : d.weight ≤ W
  dp : d.depth ≤ D
structure Tms (B W D : Nat) (ds : List PyData) : Prop where
  tm : tameAll B ds = true
  wt : PyData.weightAll ds ≤ W
  dp : PyData.depthAll ds ≤ D
theorem Tm.shh {B W D : Nat} {d : PyData} (h : Tm B W D d) (hB : B < 10 ^ 40) : Shh d W D := ⟨(tame_show hB h.tm).1, (tame_show hB h.tm).2, h.wt, h.dp⟩
theorem Tm.mono {B W D B' W' D' : Nat} {d : PyData} (h : Tm B W D d) (h1 : B ≤ B') (h2 : W ≤ W') (h3 : D ≤ D') : Tm B' W' D' d := ⟨tame_mono h1 h.tm, Nat.le_trans h.wt h2, Nat.le_trans h.dp h3⟩
theorem Tms.mono {B W D B' W' D' : Nat} {d : List PyData} (h : Tms B W D d) (h1 : B ≤ B') (h2 : W ≤ W') (h3 : D ≤ D') : Tms B' W' D' d := ⟨tameAll_mono h1 h.tm, Nat.le_trans h.wt h2, Nat.le_trans h.dp h3⟩
theorem Tms.nil {B W D : Nat} : Tms B W D [] := ⟨rfl, Nat.zero_le _, Nat.zero_le _⟩
theorem Tms.cons {B W1 W2 D : Nat} {d : PyData} {ds : List PyData} (h1 : Tm B W1 D d) (h2 : Tms B W2 D ds) : Tms B (W1 + 1 + W2) D (d :: ds) := by
  refine ⟨?_, ?_, ?_⟩
  · unfold tameAll
    rw [h1.tm, h2.tm]
    rfl
  · show d.weight + 1 + PyData.weightAll ds ≤ _
    have := h1.wt
    have := h2.wt
    omega
  · show max d.depth (PyData.depthAll ds) ≤ D
    have := h1.dp
    have := h2.dp
    omega
theorem Tms.head {B W D : Nat} {d : PyData} {ds : List PyData} (h : Tms B W D (d :: ds)) : Tm B d.weight D d ∧ Tms B (W - d.weight - 1) D ds ∧ d.weight + 1 ≤ W := by
  obtain ⟨a, b, c⟩ := h
  unfold tameAll at a
  rw [Bool.and_eq_true] at a
  have b : d.weight + 1 + PyData.weightAll ds ≤ W := b
  have c : max d.depth (PyData.depthAll ds) ≤ D := c
  exact ⟨⟨a.1, Nat.le_refl _, by omega⟩, ⟨a.2, by omega, by omega⟩, by omega⟩
theorem Tms.app {B D : Nat} {es : List PyData} {W2 : Nat} (h2 : Tms B W2 D es) : ∀ {ds : List PyData} {W1 : Nat}, Tms B W1 D ds → Tms B (W1 + W2) D (ds ++ es)
  | [], W1, _ => h2.mono (Nat.le_refl _) (by omega) (Nat.le_refl _)
  | d :: ds, W1, h => by
    obtain ⟨a, b, c⟩ := h.head
    exact (Tms.cons a (Tms.app h2 b)).mono (Nat.le_refl _) (by omega) (Nat.le_refl _)
theorem Tms.split {B D : Nat} : ∀ {ds : List PyData} {W : Nat} (i : Nat), Tms B W D ds → ∃ W1 W2, Tms B W1 D (ds.take i) ∧ Tms B W2 D (ds.drop i) ∧ W1 + W2 ≤ W
  | _, W, 0, h => ⟨0, W, .nil, h, by omega⟩
  | [], W, i + 1, h => ⟨0, 0, by rw [List.take_nil]; exact .nil, by rw [List.drop_nil]; exact .nil, by omega⟩
  | d :: ds, W, i + 1, h => by
    obtain ⟨a, b, c⟩ := h.head
    obtain ⟨W1, W2, p, q, e⟩ := Tms.split i b
    exact ⟨d.weight + 1 + W1, W2, Tms.cons a p, q, by omega⟩
theorem Tms.at {B W D : Nat} {ds : List PyData} {i : Nat} {d : PyData} (h : Tms B W D ds) (hd : ds[i]? = some d) : ∃ W1 W2 W3, Tms B W1 D (ds.take i) ∧ Tm B W2 D d ∧ Tms B W3 D (ds.drop (i + 1)) ∧ W1 + (W2 + 1) + W3 ≤ W := by
  obtain ⟨W1, W2, a, b, c⟩ := h.split i
  have hi := (List.getElem?_eq_some_iff.mp hd).1
  rw [List.drop_eq_getElem_cons hi, (List.getElem?_eq_some_iff.mp hd).2] at b
  obtain ⟨p, q, e⟩ := b.head
  exact ⟨W1, d.weight, W2 - d.weight - 1, a, p, q, by omega⟩
theorem Tms.rev {B W D : Nat} : ∀ {ds : List PyData} {W : Nat}, Tms B W D ds → Tms B W D ds.reverse
  | [], _, h => h
  | d :: ds, W, h => by
    obtain ⟨a, b, c⟩ := h.head
    rw [List.reverse_cons]
    have h1 := Tms.rev (W := 0) (B := B) (D := D) b
    exact (Tms.app (Tms.cons a (.nil (W := 0))) h1).mono (Nat.le_refl _) (by omega) (Nat.le_refl _)
theorem Tms.tup {B W D : Nat} {ds : List PyData} (h : Tms B W D ds) : Tm B W (D + 1) (.tuple ds) := ⟨by unfold tame; exact h.tm, h.wt, by show PyData.depthAll ds + 1 ≤ D + 1; have := h.dp; omega⟩
theorem Tms.lst {B W D : Nat} {ds : List PyData} (h : Tms B W D ds) : Tm B W (D + 1) (.list ds) := ⟨by unfold tame; exact h.tm, h.wt, by show PyData.depthAll ds + 1 ≤ D + 1; have := h.dp; omega⟩
theorem Tm.items {B W D : Nat} {ds : List PyData} (h : Tm B W (D + 1) (.tuple ds)) : Tms B W D ds := ⟨by have := h.tm; unfold tame at this; exact this, h.wt, by have h1 : PyData.depthAll ds + 1 ≤ D + 1 := h.dp; omega⟩
theorem Tm.int {B : Nat} {i : Int} (h : i.natAbs ≤ B) (hB : B < 10 ^ 40) : Tm B 140 0 (.int i) := ⟨by unfold tame; exact decide_eq_true h, (Shh.int40 (i := i) (by omega)).wt, Nat.le_refl _⟩
theorem Tm.bl {B : Nat} (b : Bool) : Tm B 0 0 (.bool b) := ⟨rfl, Nat.le_refl _, Nat.le_refl _⟩
theorem Tm.non {B : Nat} : Tm B 0 0 .none := ⟨rfl, Nat.le_refl _, Nat.le_refl _⟩
theorem Tm.dic {B : Nat} : Tm B 0 1 (.dict []) := ⟨rfl, Nat.le_refl _, Nat.le_refl _⟩
theorem Tm.str {B : Nat} {x : Str} (h : (x.cps.toList.all fun c => decide (c < 16 ^ 8)) = true) (hl : x.cps.size ≤ 10) : Tm B 10 0 (.str x) := ⟨by unfold tame; exact h, hl, Nat.le_refl _⟩
theorem Tm.sint {B : Nat} {i : Int} (h : i.natAbs < 10 ^ 40) : Tm B 41 0 (.str (Str.ofString (toString i))) := ⟨by unfold tame; exact chars_of _, (Shh.sint h).wt, Nat.le_refl _⟩
/-! ### cuts at counted places -/
theorem cut_to {xs : List V} {j : Nat} : cutV xs none (some (j : Int)) = xs.take j := by
  unfold cutV
  rw [HT.sIx_nat, show HT.sIx xs.length 0 none = 0 from HT.sIx_none _ _, List.drop_zero, Nat.sub_zero]
  by_cases c : j ≤ xs.length
  · rw [show min j xs.length = j by omega]
  · rw [show min j xs.length = xs.length by omega, List.take_length, List.take_of_length_le (by omega)]
theorem cut_from {xs : List V} {i : Nat} : cutV xs (some (i : Int)) none = xs.drop i := by
  unfold cutV
  rw [HT.sIx_nat, show HT.sIx xs.length xs.length none = xs.length from HT.sIx_none _ _]
  by_cases c : i ≤ xs.length
  · rw [show min i xs.length = i by omega, List.take_of_length_le (by rw [List.length_drop]; exact Nat.le_refl _)]
  · rw [show min i xs.length = xs.length by omega, List.drop_length, List.drop_of_length_le (by omega), List.take_nil]
theorem cut_mid {xs : List V} {i j : Nat} : cutV xs (some (i : Int)) (some (j : Int)) = (xs.drop i).take (j - i) := by
  unfold cutV
  rw [HT.sIx_nat, HT.sIx_nat]
  by_cases c : i ≤ xs.length
  · rw [show min i xs.length = i by omega]
    by_cases c2 : j ≤ xs.length
    · rw [show min j xs.length = j by omega]
    · rw [show min j xs.length = xs.length by omega, List.take_of_length_le (by rw [List.length_drop]; exact Nat.le_refl _), List.take_of_length_le (by rw [List.length_drop]; omega)]
  · rw [show min i xs.length = xs.length by omega, List.drop_length, List.drop_of_length_le (by omega), List.take_nil, List.take_nil]
theorem dqall_rev {K : PySem.W.Frag} {H : Hp} : ∀ {ds : List PyData} {vs : List V}, DqAll K H vs ds → DqAll K H vs.reverse ds.reverse
  | [], _, .nil => .nil
  | d :: ds, _, .cons a b => by
    rw [List.reverse_cons, List.reverse_cons]
    exact dqall_app (.cons a .nil) (dqall_rev b)
end NG

set_option maxHeartbeats 2000000
namespace NG
open PySem PySem.Spec PyProof.Rows L2
/-! ### leaves by size -/
theorem kids_size : ∀ (e k : Ex), k ∈ e.kids → k.size ≤ e.size
  | .fig _, k, h => by cases h
  | .reg _, k, h => by cases h
  | .share _, k, h => by cases h
  | .two _ a b, k, h => by
    simp only [Ex.kids, List.mem_cons, List.not_mem_nil, or_false] at h
    show k.size ≤ 1 + a.size + b.size
    rcases h with h | h <;> (rw [h]; omega)
  | .times _ a, k, h => by
    simp only [Ex.kids, List.mem_cons, List.not_mem_nil, or_false] at h
    subst h; show _ ≤ 1 + k.size; omega
  | .by _ a, k, h => by
    simp only [Ex.kids, List.mem_cons, List.not_mem_nil, or_false] at h
    subst h; show _ ≤ 1 + k.size; omega
  | .when _ _ a b, k, h => by
    simp only [Ex.kids, List.mem_cons, List.not_mem_nil, or_false] at h
    show k.size ≤ 1 + a.size + b.size
    rcases h with h | h <;> (rw [h]; omega)
  | .whr _ _ a b, k, h => by
    simp only [Ex.kids, List.mem_cons, List.not_mem_nil, or_false] at h
    show k.size ≤ 1 + a.size + b.size
    rcases h with h | h <;> (rw [h]; omega)
theorem lvs_size : ∀ e : Ex, ∃ n : Nat, lvs e = (n : Int) ∧ 1 ≤ n ∧ n ≤ 2 ^ e.size := by
  have mul : ∀ {n m a b : Nat}, 1 ≤ n → n ≤ 2 ^ a → 1 ≤ m → m ≤ 2 ^ b → 1 ≤ n * m ∧ n * m ≤ 2 ^ (1 + a + b) := fun {n m a b} h1 h2 h3 h4 => by
    refine ⟨Nat.mul_pos h1 h3, Nat.le_trans (Nat.mul_le_mul h2 h4) ?_⟩
    rw [← Nat.pow_add]
    exact Nat.pow_le_pow_right (by decide) (by omega)
  have add : ∀ {n m a b : Nat}, 1 ≤ n → n ≤ 2 ^ a → 1 ≤ m → m ≤ 2 ^ b → 1 ≤ n + m ∧ n + m ≤ 2 ^ (1 + a + b) := fun {n m a b} h1 h2 h3 h4 => by
    refine ⟨by omega, ?_⟩
    have e1 : 2 ^ a ≤ 2 ^ (a + b) := Nat.pow_le_pow_right (by decide) (by omega)
    have e2 : 2 ^ b ≤ 2 ^ (a + b) := Nat.pow_le_pow_right (by decide) (by omega)
    rw [show 1 + a + b = (a + b) + 1 by omega, Nat.pow_succ]
    omega
  have up : ∀ {n a b : Nat}, n ≤ 2 ^ a → a ≤ b → n ≤ 2 ^ b := fun h1 h2 => Nat.le_trans h1 (Nat.pow_le_pow_right (by decide) h2)
  intro e
  induction e with
  | fig c => exact ⟨1, rfl, Nat.le_refl _, by show 1 ≤ 2 ^ 1; decide⟩
  | reg c => exact ⟨1, rfl, Nat.le_refl _, by show 1 ≤ 2 ^ 1; decide⟩
  | share c => exact ⟨1, rfl, Nat.le_refl _, by show 1 ≤ 2 ^ 1; decide⟩
  | two w a b iha ihb =>
    obtain ⟨n, e1, n1, n2⟩ := iha
    obtain ⟨m, e2, m1, m2⟩ := ihb
    cases w with
    | sum => exact ⟨n * m, by show lvs a * lvs b = _; rw [e1, e2]; simp, mul n1 n2 m1 m2⟩
    | less => exact ⟨n * m, by show lvs a * lvs b = _; rw [e1, e2]; simp, mul n1 n2 m1 m2⟩
    | least => exact ⟨n + m, by show lvs a + lvs b = _; rw [e1, e2]; simp, add n1 n2 m1 m2⟩
    | most => exact ⟨n + m, by show lvs a + lvs b = _; rw [e1, e2]; simp, add n1 n2 m1 m2⟩
  | times f a ih =>
    obtain ⟨n, e1, n1, n2⟩ := ih
    exact ⟨n, e1, n1, up n2 (by show _ ≤ 1 + a.size; omega)⟩
  | «by» f a ih =>
    obtain ⟨n, e1, n1, n2⟩ := ih
    exact ⟨n, e1, n1, up n2 (by show _ ≤ 1 + a.size; omega)⟩
  | when i c a b iha ihb =>
    obtain ⟨n, e1, n1, n2⟩ := iha
    obtain ⟨m, e2, m1, m2⟩ := ihb
    show ∃ k : Nat, mx (lvs a) (lvs b) = _ ∧ _
    unfold mx
    split
    · exact ⟨m, e2, m1, up m2 (by show _ ≤ 1 + a.size + b.size; omega)⟩
    · exact ⟨n, e1, n1, up n2 (by show _ ≤ 1 + a.size + b.size; omega)⟩
  | whr i c a b iha ihb =>
    obtain ⟨n, e1, n1, n2⟩ := iha
    obtain ⟨m, e2, m1, m2⟩ := ihb
    exact ⟨n + m, by show lvs a + lvs b = _; rw [e1, e2]; simp, add n1 n2 m1 m2⟩
theorem lvs_mul8 {e : Ex} {y : Int} (h : e.size ≤ 40) : CMul (lvs e) y := by
  obtain ⟨n, e1, h1, h2⟩ := lvs_size e
  have h3 : n ≤ 2 ^ 40 := Nat.le_trans h2 (Nat.pow_le_pow_right (by decide) h)
  have h4 : (2 : Nat) ^ 40 = 1099511627776 := by decide
  rw [h4] at h3
  rw [e1]
  exact .inl ⟨by omega, by omega⟩
def spCnt8 (K : PySem.W.Frag) (f : Ex → Int) (n : Nat) : Sp := fun vs H Q _ => ∃ (v : V) (e : Ex) (many : Nat), vs = [v] ∧ ExAt K H e v ∧ ExOk many e ∧ e.dep ≤ n ∧ e.size ≤ 40 ∧ ∀ H', Same H H' → Q (.int (f e)) H'
def spLB8 (K : PySem.W.Frag) (n : Nat) : Sp := fun vs H Q _ => ∃ (v : V) (e : Ex) (many : Nat), vs = [v] ∧ ExAt K H e v ∧ ExOk many e ∧ e.dep ≤ n ∧ e.size ≤ 40 ∧ ∀ H' u, Same H H' → SpAt K H' (lvs e, bds e) u → Q u H'
def lnO (D : Dbt) : Int := (D.stakes.map bds).sum
def spLines8 (K : PySem.W.Frag) (n : Nat) : Sp := fun vs H Q _ => ∃ (dv : V) (D : Dbt) (many : Nat), vs = [dv] ∧ DbAt K H D dv ∧ D.stakes.length ≤ 3 ∧ (∀ e ∈ D.stakes, ExOk many e ∧ e.dep ≤ n ∧ e.size ≤ 40) ∧ ∀ H', Same H H' → Q (.int (lnO D)) H'
/-! ### deeds out of data -/
theorem wbOf_eq' {x : Str} {w : Wb} (h : wbOf x = some w) : x = wbn w := by
  unfold wbOf at h
  repeat' split at h
  all_goals first | (cases h; assumption) | cases h
theorem sumB_le : ∀ {l : List (Option Nat)} {t n : Nat}, sumB t l = some n → t ≤ 20 → n ≤ 20
  | [], t, n, h, ht => by cases h; exact ht
  | none :: _, _, _, h, _ => by cases h
  | some i :: r, t, n, h, ht => by
    have h : (if 20 < t + i then none else sumB (t + i) r) = some n := h
    split at h
    · cases h
    · exact sumB_le h (by omega)
theorem op_of {many : Nat} {o : D5} {ds : List PyData} (h : fitsD many (wbsh (.op o)) ds = true) : ∃ (i : Nat) (x : Int), ds = [.int (i : Int), .int x] ∧ i < 4 ∧ xok many o x := by
  have hl := fitsD_len h
  have h2 : (wbsh (.op o)).length = 2 := by cases o <;> rfl
  rw [h2] at hl
  match ds, hl with
  | [a, b], _ =>
    cases o <;>
    · simp only [wbsh, fitsD, fitD, Bool.and_true, Bool.and_eq_true] at h
      obtain ⟨i, rfl, i1, i2⟩ := inD_int h.1
      obtain ⟨x, rfl, x1, x2⟩ := inD_int h.2
      refine ⟨i.toNat, x, by rw [Int.toNat_of_nonneg i1], by omega, ?_⟩
      simp only [xok]
      omega
theorem ds_of {many : Nat} : ∀ (k : Nat) (ds : List PyData) (t n : Nat), sumB t (ds.map (deedD many (cntB many k))) = some n → ∃ D : Ds, dsD D = ds ∧ DsOk many D ∧ D.dep ≤ k + 1 ∧ n = t + D.cnt := by
  intro k
  induction k with
  | zero =>
    intro ds
    induction ds with
    | nil => intro t n h; cases h; exact ⟨.nil, rfl, trivial, Nat.zero_le _, rfl⟩
    | cons d ds ih =>
      intro t n h
      rw [List.map_cons] at h
      cases hd : deedD many (cntB many 0) d with
      | none => rw [hd] at h; cases h
      | some j =>
        rw [hd] at h
        have h : (if 20 < t + j then none else sumB (t + j) (ds.map (deedD many (cntB many 0)))) = some n := h
        split at h
        · cases h
        · obtain ⟨D, e1, e2, e3, e4⟩ := ih _ _ h
          match d, hd with
          | .tuple (.str x :: es), hd =>
            unfold deedD at hd
            simp only at hd
            cases hw : wbOf x with
            | none => rw [hw] at hd; cases hd
            | some w =>
              rw [hw] at hd
              simp only at hd
              have hx := wbOf_eq' hw
              subst hx
              by_cases hf : fitsD many (wbsh w) es = true
              · rw [if_pos hf] at hd
                cases w with
                | op o =>
                  obtain ⟨i, z, rfl, i4, ok⟩ := op_of hf
                  have : addB 1 [] = some j := hd
                  cases this
                  exact ⟨.op o i z D, by show PyData.tuple [.str (dn o), _, _] :: dsD D = _; rw [e1]; rfl, ⟨i4, ok, e2⟩, by show max 1 D.dep ≤ 1; omega, by show n = t + (1 + D.cnt); omega⟩
                | when =>
                  have hl := fitsD_len hf
                  match es, hl with
                  | [a, b, c1, c2], _ =>
                    simp only [wbsh, fitsD, fitD, Bool.and_true, Bool.and_eq_true] at hf
                    obtain ⟨i, rfl, i1, i2⟩ := inD_int hf.1
                    obtain ⟨x, rfl, x1, x2⟩ := inD_int hf.2
                    have hd : addB 1 [cntB many 0 c1, cntB many 0 c2] = some j := hd
                    cases ha : cntB many 0 c1 with
                    | none => rw [ha] at hd; cases hd
                    | some ja =>
                      cases hb : cntB many 0 c2 with
                      | none => rw [ha, hb] at hd; cases hd
                      | some jb =>
                        rw [ha, hb] at hd
                        have hd : some (1 + ja + jb) = some j := hd
                        cases hd
                        have z : ∀ {c : PyData} {n : Nat}, cntB many 0 c = some n → c = .tuple [] ∧ n = 0 := fun {c n} h => by
                          unfold cntB at h
                          split at h
                          · cases h; exact ⟨rfl, rfl⟩
                          · cases h
                        obtain ⟨rfl, rfl⟩ := z ha
                        obtain ⟨rfl, rfl⟩ := z hb
                        exact ⟨.when i.toNat x .nil .nil D, by show PyData.tuple [.str "when", .int ((i.toNat : Nat) : Int), .int x, .tuple [], .tuple []] :: dsD D = _; rw [e1, Int.toNat_of_nonneg i1]; rfl, ⟨by omega, ⟨x1, x2⟩, trivial, trivial, e2⟩, by show max (max 0 0 + 1) D.dep ≤ 1; omega, by show n = t + (1 + (0 + 0) + D.cnt); omega⟩
              · rw [if_neg hf] at hd; cases hd
  | succ k ihk =>
    intro ds
    induction ds with
    | nil => intro t n h; cases h; exact ⟨.nil, rfl, trivial, Nat.zero_le _, rfl⟩
    | cons d ds ih =>
      intro t n h
      rw [List.map_cons] at h
      cases hd : deedD many (cntB many (k + 1)) d with
      | none => rw [hd] at h; cases h
      | some j =>
        rw [hd] at h
        have h : (if 20 < t + j then none else sumB (t + j) (ds.map (deedD many (cntB many (k + 1))))) = some n := h
        split at h
        · cases h
        · obtain ⟨D, e1, e2, e3, e4⟩ := ih _ _ h
          match d, hd with
          | .tuple (.str x :: es), hd =>
            unfold deedD at hd
            simp only at hd
            cases hw : wbOf x with
            | none => rw [hw] at hd; cases hd
            | some w =>
              rw [hw] at hd
              simp only at hd
              have hx := wbOf_eq' hw
              subst hx
              by_cases hf : fitsD many (wbsh w) es = true
              · rw [if_pos hf] at hd
                cases w with
                | op o =>
                  obtain ⟨i, z, rfl, i4, ok⟩ := op_of hf
                  have : addB 1 [] = some j := hd
                  cases this
                  exact ⟨.op o i z D, by show PyData.tuple [.str (dn o), _, _] :: dsD D = _; rw [e1]; rfl, ⟨i4, ok, e2⟩, by show max 1 D.dep ≤ k + 1 + 1; omega, by show n = t + (1 + D.cnt); omega⟩
                | when =>
                  have hl := fitsD_len hf
                  match es, hl with
                  | [a, b, c1, c2], _ =>
                    simp only [wbsh, fitsD, fitD, Bool.and_true, Bool.and_eq_true] at hf
                    obtain ⟨i, rfl, i1, i2⟩ := inD_int hf.1
                    obtain ⟨x, rfl, x1, x2⟩ := inD_int hf.2
                    have hd : addB 1 [cntB many (k + 1) c1, cntB many (k + 1) c2] = some j := hd
                    cases ha : cntB many (k + 1) c1 with
                    | none => rw [ha] at hd; cases hd
                    | some ja =>
                      cases hb : cntB many (k + 1) c2 with
                      | none => rw [ha, hb] at hd; cases hd
                      | some jb =>
                        rw [ha, hb] at hd
                        have hd : some (1 + ja + jb) = some j := hd
                        cases hd
                        have z : ∀ {c : PyData} {n : Nat}, cntB many (k + 1) c = some n → ∃ A : Ds, c = .tuple (dsD A) ∧ DsOk many A ∧ A.dep ≤ k + 1 ∧ n = A.cnt := fun {c n} h => by
                          unfold cntB at h
                          split at h
                          · obtain ⟨A, a1, a2, a3, a4⟩ := ihk _ _ _ h
                            exact ⟨A, by rw [a1], a2, a3, by omega⟩
                          · cases h
                        obtain ⟨A, rfl, oa, da, na⟩ := z ha
                        obtain ⟨B, rfl, ob, db, nb⟩ := z hb
                        exact ⟨.when i.toNat x A B D, by show PyData.tuple [.str "when", .int ((i.toNat : Nat) : Int), .int x, .tuple (dsD A), .tuple (dsD B)] :: dsD D = _; rw [e1, Int.toNat_of_nonneg i1]; rfl, ⟨by omega, ⟨x1, x2⟩, oa, ob, e2⟩, by show max (max A.dep B.dep + 1) D.dep ≤ k + 1 + 1; omega, by show n = t + (1 + (A.cnt + B.cnt) + D.cnt); omega⟩
              · rw [if_neg hf] at hd; cases hd
/-! ### laid as data, laid -/
theorem ds_nodict : ∀ d : Ds, PyData.hasDictAll (dsD d) = false
  | .nil => rfl
  | .op _ _ _ r => by simp [dsD, PyData.hasDict, PyData.hasDictAll, ds_nodict r]
  | .when _ _ a b r => by simp [dsD, PyData.hasDict, PyData.hasDictAll, ds_nodict a, ds_nodict b, ds_nodict r]
theorem DsAt.of {K : PySem.W.Frag} {H : Hp} : ∀ {d : Ds} {vs : List V}, DpAll K H vs (dsD d) → DsAt K H d vs
  | .nil, _, h => by cases h; rfl
  | .op w i x r, _, h => by
    cases h with
    | cons a b =>
      cases a with
      | tup q a =>
        cases a with | cons a0 a => cases a0; cases a with | cons a0 a => cases a0; cases a with | cons a0 a => cases a0; cases a; exact ⟨_, _, rfl, q, DsAt.of b⟩
  | .when i c x y r, _, h => by
    cases h with
    | cons a b =>
      cases a with
      | tup q a =>
        cases a with | cons a0 a => cases a0; cases a with | cons a0 a => cases a0; cases a with | cons a0 a => cases a0; cases a with | cons a1 a => cases a1 with | tup q1 r1 => cases a with | cons a2 a => cases a2 with | tup q2 r2 => cases a; exact ⟨_, _, _, _, _, _, rfl, q, q1, DsAt.of r1, q2, DsAt.of r2, DsAt.of b⟩
theorem RowsAt.of {K : PySem.W.Frag} {H : Hp} : ∀ {es : List Ex} {vs : List V}, DpAll K H vs (es.map toD) → RowsAt K H vs es
  | [], _, h => by cases h; trivial
  | e :: es, _, h => by cases h with | cons a b => exact ⟨ExAt.of a, RowsAt.of b⟩
theorem BhAt.of {K : PySem.W.Frag} {H : Hp} : ∀ {es : List Ds} {vs : List V}, DpAll K H vs (es.map fun d => PyData.tuple (dsD d)) → BhAt K H vs es
  | [], _, h => by cases h; trivial
  | e :: es, _, h => by cases h with | cons a b => cases a with | tup q r => exact ⟨⟨_, _, rfl, q, DsAt.of r⟩, BhAt.of b⟩
theorem ints_of {K : PySem.W.Frag} {H : Hp} : ∀ {ns : List Int} {vs : List V}, DpAll K H vs (ns.map PyData.int) → vs = ns.map V.int
  | [], _, h => by cases h; rfl
  | n :: ns, _, h => by cases h with | cons a b => cases a; rw [ints_of b]; rfl
theorem RegsAt.of {K : PySem.W.Frag} {H : Hp} {rs : List Int} {v : V} (h : Dp K H v (.tuple (rs.map PyData.int))) (o : RegOk rs) : RegsAt K H rs v := by
  cases h with
  | tup q a =>
    have := ints_of a
    subst this
    exact ⟨_, rfl, q, o.1, o.2⟩
theorem DbAt.of {K : PySem.W.Frag} {H : Hp} {D : Dbt} {v : V} (h : Dp K H v (dbD D)) (o : RegOk D.begins) : DbAt K H D v := by
  unfold dbD at h
  cases h with
  | tup q a => cases a with | cons a0 a => cases a0; cases a with | cons a0 a => cases a0; cases a with | cons a2 a => cases a with | cons a3 a => cases a3 with | tup q3 r3 => cases a with | cons a4 a => cases a4 with | tup q4 r4 => cases a; exact ⟨_, _, _, _, _, _, rfl, q, RegsAt.of a2 o, q3, RowsAt.of r3, q4, BhAt.of r4⟩
structure OneFit (many : Nat) (o : One) : Prop where
  db : DbFit many o.dbt
  rg : RegOk o.regs
  w1 : 1 ≤ o.weight ∧ o.weight ≤ 1000000000000
  m0 : 0 ≤ o.motes
  o0 : 0 ≤ o.owed
  d0 : 0 ≤ o.days
theorem OneAt.of {K : PySem.W.Frag} {H : Hp} {many : Nat} {o : One} {v : V} (h : Dp K H v (oneD o)) (f : OneFit many o) : OneAt K H o v := by
  unfold oneD at h
  cases h with
  | tup q a => cases a with | cons a0 a => cases a0; cases a with | cons a1 a => cases a with | cons a2 a => cases a with | cons a3 a => cases a3; cases a with | cons a4 a => cases a4; cases a with | cons a5 a => cases a5; cases a with | cons a6 a => cases a6; cases a with | cons a7 a => cases a7; cases a; exact ⟨_, _, _, rfl, q, DbAt.of a1 f.db.rg, RegsAt.of a2 f.rg⟩
theorem MsAt.of {K : PySem.W.Frag} {H : Hp} {many : Nat} : ∀ {m : Ms} {vs : List V}, DpAll K H vs (msD m) → m.all (OneFit many) → MsAt K H m vs
  | .nil, _, h, _ => by cases h; rfl
  | .one o r, _, h, f => by cases h with | cons a b => exact ⟨_, _, rfl, OneAt.of a f.1, MsAt.of b f.2⟩
  | .house nm m r, _, h, f => by
    cases h with
    | cons a b =>
      cases a with
      | tup q a => cases a with | cons a0 a => cases a0; cases a with | cons a0 a => cases a0; cases a with | cons a1 a => cases a1 with | tup q1 r1 => cases a; exact ⟨_, _, _, _, rfl, q, q1, MsAt.of r1 f.1, MsAt.of b f.2⟩
theorem map_nodict {α : Type} {f : α → PyData} : ∀ {l : List α}, (∀ x ∈ l, (f x).hasDict = false) → PyData.hasDictAll (l.map f) = false
  | [], _ => rfl
  | x :: l, h => by
    show ((f x).hasDict || PyData.hasDictAll (l.map f)) = false
    rw [h x List.mem_cons_self, map_nodict fun y hy => h y (List.mem_cons_of_mem _ hy)]
    rfl
theorem toD_nodict' : ∀ e : Ex, (toD e).hasDict = false
  | .fig _ => by simp [toD, PyData.hasDict, PyData.hasDictAll]
  | .reg _ => by simp [toD, PyData.hasDict, PyData.hasDictAll]
  | .share _ => by simp [toD, PyData.hasDict, PyData.hasDictAll]
  | .two _ a b => by simp [toD, PyData.hasDict, PyData.hasDictAll, toD_nodict' a, toD_nodict' b]
  | .times _ a => by simp [toD, PyData.hasDict, PyData.hasDictAll, toD_nodict' a]
  | .by _ a => by simp [toD, PyData.hasDict, PyData.hasDictAll, toD_nodict' a]
  | .when _ _ a b => by simp [toD, PyData.hasDict, PyData.hasDictAll, toD_nodict' a, toD_nodict' b]
  | .whr _ _ a b => by simp [toD, PyData.hasDict, PyData.hasDictAll, toD_nodict' a, toD_nodict' b]
theorem one_nodict (o : One) : (oneD o).hasDict = false := by
  have h1 : PyData.hasDictAll (o.dbt.begins.map PyData.int) = false := map_nodict fun _ _ => by simp [PyData.hasDict]
  have h2 : PyData.hasDictAll (o.dbt.stakes.map toD) = false := map_nodict fun _ _ => toD_nodict' _
  have h3 : PyData.hasDictAll (o.dbt.behinds.map fun d => PyData.tuple (dsD d)) = false := map_nodict fun _ _ => by simp only [PyData.hasDict]; exact ds_nodict _
  have h4 : PyData.hasDictAll (o.regs.map PyData.int) = false := map_nodict fun _ _ => by simp [PyData.hasDict]
  simp only [oneD, dbD, PyData.hasDict, PyData.hasDictAll, h1, h2, h3, h4, Bool.or_self]
theorem ms_nodict : ∀ m : Ms, PyData.hasDictAll (msD m) = false
  | .nil => rfl
  | .one o r => by simp only [msD, PyData.hasDictAll, one_nodict o, ms_nodict r, Bool.or_self]
  | .house nm m r => by simp only [msD, PyData.hasDict, PyData.hasDictAll, ms_nodict m, ms_nodict r, Bool.or_self]
/-! ### how many ones, houses, lines -/
def Ms.no (m : Ms) : Nat := (aoI m).length
def Ms.ln (m : Ms) : Int := ((aoI m).map fun o => lnO o.dbt).sum
def Ms.nmq : Ms → Prop
  | .nil => True
  | .one _ r => r.nmq
  | .house nm m r => nameD nm = true ∧ m.nmq ∧ r.nmq
structure MsFit (many k : Nat) (m : Ms) : Prop where
  al : m.all (OneFit many)
  nm : m.nmq
  dp : m.dep ≤ k
def roomI (many : Nat) : Int := if many = 2 then 400 else 60
def okCnt (many : Nat) (m : Ms) : Bool := decide (m.no < 13) && (decide (m.cnt - m.no < 13) && decide (m.ln ≤ roomI many))
def hsD (many : Nat) (m : Ms) : PyData := .tuple [.int (many : Int), .tuple (msD m)]
theorem Ms.no_le (m : Ms) : m.no ≤ m.cnt := ao_len m
theorem std_houses : ∀ (m : Ms) (path : List Int) (i : Int), ∀ x ∈ stdI m path i, isOne x = false → x.1.length ≤ path.length + m.dep
  | .nil, _, _, x, h, _ => by cases h
  | .one o r, path, i, x, h, hx => by
    rcases List.mem_cons.mp h with rfl | h
    · cases hx
    · exact std_houses r path (i + 1) x h hx
  | .house nm m r, path, i, x, h, hx => by
    show _ ≤ path.length + max (m.dep + 1) r.dep
    rcases List.mem_cons.mp h with rfl | h
    · show (path ++ [i]).length ≤ _
      rw [List.length_append]
      show path.length + 1 ≤ _
      omega
    · rcases List.mem_append.mp h with h | h
      · have := std_houses m (path ++ [i]) 0 x h hx
        rw [List.length_append] at this
        have this : _ ≤ path.length + 1 + m.dep := this
        omega
      · have := std_houses r path (i + 1) x h hx
        omega
theorem std_no (m : Ms) (path : List Int) (i : Int) : ((stdI m path i).filter isOne).length = m.no := by
  have : ∀ l : List (List Int × Mk), ((l.filter isOne).filterMap toOne).length = (l.filter isOne).length := fun l => by
    induction l with
    | nil => rfl
    | cons x l ih =>
      obtain ⟨p, k⟩ := x
      cases k with
      | one o => rw [List.filter_cons_of_pos (by rfl), List.filterMap_cons_some (b := o) (by rfl), List.length_cons, List.length_cons, ih]
      | house nm m => rw [List.filter_cons_of_neg (by simp [isOne])]; exact ih
  rw [← this, ao_std]
  rfl
theorem std_nh (m : Ms) (path : List Int) (i : Int) : ((stdI m path i).filter fun x => !isOne x).length = m.cnt - m.no := by
  have h1 := std_no m path i
  have h2 := stdI_len m path i
  have : ∀ l : List (List Int × Mk), (l.filter isOne).length + (l.filter fun x => !isOne x).length = l.length := fun l => by
    induction l with
    | nil => rfl
    | cons x l ih =>
      cases hx : isOne x with
      | true => rw [List.filter_cons_of_pos (by exact hx), List.filter_cons_of_neg (by rw [hx]; decide), List.length_cons, List.length_cons]; omega
      | false => rw [List.filter_cons_of_neg (by rw [hx]; decide), List.filter_cons_of_pos (by rw [hx]; rfl), List.length_cons, List.length_cons]; omega
  have := this (stdI m path i)
  omega
theorem Ms.ln_app (d e : Ms) : (d.app e).ln = d.ln + e.ln := by
  unfold Ms.ln
  rw [ao_app, List.map_append, List.sum_append]
theorem Ms.no_app (d e : Ms) : (d.app e).no = d.no + e.no := by
  unfold Ms.no
  rw [ao_app, List.length_append]
theorem Ms.nmq_app : ∀ {d e : Ms}, d.nmq → e.nmq → (d.app e).nmq
  | .nil, _, _, y => y
  | .one _ r, _, a, y => Ms.nmq_app (d := r) a y
  | .house _ _ _, _, ⟨n, a, b⟩, y => ⟨n, a, Ms.nmq_app b y⟩
end NG

set_option maxHeartbeats 2000000
namespace NG
open PySem PySem.Spec PyProof.Rows L2
theorem small2e5 {n : Nat} (h : n ≤ 200005) : n < sizeLine := Nat.lt_of_le_of_lt h (by decide)
def spStands8 (K : PySem.W.Frag) (n : Nat) : Sp := fun vs H Q _ => ∃ (p q : Addr) (xs : List V) (m : Ms) (path : List Int), vs = [.ref p, .ref q] ∧ SqT K H p xs ∧ MsAt K H m xs ∧ m.dep < n ∧ m.cnt ≤ 100000 ∧ SqT K H q (path.map V.int) ∧ path.length + m.dep ≤ 100 ∧
  ∀ H' l us, Same H H' → H l = none → H' l = some (.lst us) → PrsAt K H' us (stdI m path 0) → Q (.ref l) H'
theorem ex_size' : ∀ e : Ex, e.size + 1 ≤ 2 ^ e.dep
  | .fig _ => Nat.le_refl 2
  | .reg _ => Nat.le_refl 2
  | .share _ => Nat.le_refl 2
  | .two _ a b => two_size (ex_size' a) (ex_size' b)
  | .times _ a => one_size (ex_size' a)
  | .by _ a => one_size (ex_size' a)
  | .when _ _ a b => two_size (ex_size' a) (ex_size' b)
  | .whr _ _ a b => two_size (ex_size' a) (ex_size' b)
where
  one_size {n k : Nat} (h : n + 1 ≤ 2 ^ k) : 1 + n + 1 ≤ 2 ^ (k + 1) := by
    rw [Nat.pow_succ]
    omega
  two_size {n m k j : Nat} (h : n + 1 ≤ 2 ^ k) (g : m + 1 ≤ 2 ^ j) : 1 + n + m + 1 ≤ 2 ^ (max k j + 1) := by
    have h1 : 2 ^ k ≤ 2 ^ max k j := Nat.pow_le_pow_right (by decide) (Nat.le_max_left ..)
    have h2 : 2 ^ j ≤ 2 ^ max k j := Nat.pow_le_pow_right (by decide) (Nat.le_max_right ..)
    rw [Nat.pow_succ]
    omega
theorem size40 {e : Ex} (h : e.dep ≤ 5) : e.size ≤ 40 := by
  have h1 := ex_size' e
  have h2 : 2 ^ e.dep ≤ 2 ^ 5 := Nat.pow_le_pow_right (by decide) h
  have h3 : (2 : Nat) ^ 5 = 32 := rfl
  omega
/-! ### drawn doubters of any name -/
def rnm (D : Dbt) (z : Str) : Dbt := ⟨z, D.scale, D.begins, D.stakes, D.behinds⟩
structure DbN (many l : Nat) (D : Dbt) : Prop where
  nm : nameD D.name = true
  ch : (D.name.cps.toList.all fun c => decide (c < 16 ^ 8)) = true
  sz : D.name.cps.size ≤ 10
  ok : DbOk many (l + 3) 2 10 (rnm D "a")
  st : ∀ e ∈ D.stakes, StOk many l e
theorem DbN.fit {many l : Nat} {D : Dbt} (x : DbN many l D) (hl : l ≤ 2) : DbFit many D := by
  have h := x.ok
  refine ⟨x.nm, h.sc, h.rg, h.sl, fun e he => ?_, h.bl, fun d hd => ?_⟩
  · obtain ⟨ok, hd⟩ := h.st e he
    have hp := pw2_bnd D.scale
    refine ⟨ok, by omega, size40 (by omega), ?_⟩
    rcases x.st e he with ⟨c, rfl, c1, c2⟩ | ⟨c, e', rfl, c1, c2, _, _⟩
    · constructor
      · show -(500 * pw2 D.scale) ≤ c
        omega
      · show c ≤ 500 * pw2 D.scale
        omega
    · constructor
      · show -(500 * pw2 D.scale) ≤ mn c (mx (-c) (spn e').1)
        unfold mn mx
        split <;> split <;> omega
      · show mn c (mx (-c) (spn e').2) ≤ 500 * pw2 D.scale
        unfold mn mx
        split <;> split <;> omega
  · obtain ⟨a1, a2, a3⟩ := h.bh d hd
    exact ⟨a1, by omega, by omega⟩
theorem DbN.mono {many l l' : Nat} {D : Dbt} (x : DbN many l D) (h : l ≤ l') : DbN many l' D :=
  ⟨x.nm, x.ch, x.sz, ⟨x.ok.nm, x.ok.sc, x.ok.rg, x.ok.sl, fun e he => ⟨(x.ok.st e he).1, by have := (x.ok.st e he).2; omega⟩, x.ok.bl, x.ok.bh⟩, fun e he => by
    rcases x.st e he with z | ⟨c, e', h1, h2, h3, h4, h5⟩
    · exact .inl z
    · exact .inr ⟨c, e', h1, h2, h3, h4, by omega⟩⟩
theorem DbN.lin {many l : Nat} {D : Dbt} (x : DbN many l D) (hl : l ≤ 2) (hm : many ≤ 3) : D.stakes.length ≤ 3 ∧ ∀ e ∈ D.stakes, ExOk many e ∧ e.dep ≤ 8 ∧ e.size ≤ 40 := by
  have h := x.fit hl
  refine ⟨by have := h.sl; omega, fun e he => ?_⟩
  have := h.st e he
  exact ⟨this.1, this.2.1, this.2.2.1⟩
structure OneR (o : One) : Prop where
  rg : RegOk o.regs
  w1 : 1 ≤ o.weight ∧ o.weight ≤ 1000000000000
  m1 : 0 ≤ o.motes ∧ o.motes ≤ 3000000000000
  o1 : 0 ≤ o.owed ∧ o.owed ≤ 99
  d1 : 0 ≤ o.days ∧ o.days ≤ 40
  g1 : -5000000000 ≤ o.got ∧ o.got ≤ 5000000000
def OneN (many : Nat) (o : One) : Prop := DbN many 2 o.dbt ∧ OneR o
theorem OneN.fit {many : Nat} {o : One} (h : OneN many o) : OneFit many o := ⟨h.1.fit (Nat.le_refl _), h.2.rg, h.2.w1, h.2.m1.1, h.2.o1.1, h.2.d1.1⟩
def nmN (z : Str) : Prop := nameD z = true ∧ (z.cps.toList.all fun c => decide (c < 16 ^ 8)) = true ∧ z.cps.size ≤ 10
def Ms.nmn : Ms → Prop
  | .nil => True
  | .one _ r => r.nmn
  | .house nm m r => nmN nm ∧ m.nmn ∧ r.nmn
theorem Ms.nmn_app : ∀ {d e : Ms}, d.nmn → e.nmn → (d.app e).nmn
  | .nil, _, _, y => y
  | .one _ r, _, a, y => Ms.nmn_app (d := r) a y
  | .house _ _ _, _, ⟨n, a, b⟩, y => ⟨n, a, Ms.nmn_app b y⟩
theorem Ms.nmn_q : ∀ {d : Ms}, d.nmn → d.nmq
  | .nil, _ => trivial
  | .one _ r, a => Ms.nmn_q (d := r) a
  | .house _ _ _, ⟨n, a, b⟩ => ⟨n.1, Ms.nmn_q a, Ms.nmn_q b⟩
theorem Ms.all_imp {P Q : One → Prop} (h : ∀ o, P o → Q o) : ∀ {d : Ms}, d.all P → d.all Q
  | .nil, _ => trivial
  | .one _ _, ⟨a, b⟩ => ⟨h _ a, Ms.all_imp h b⟩
  | .house _ _ _, ⟨a, b⟩ => ⟨Ms.all_imp h a, Ms.all_imp h b⟩
structure HsN (many d : Nat) (m : Ms) : Prop where
  al : m.all (OneN many)
  nm : m.nmn
  dp : m.dep ≤ d
theorem HsN.fit {many d : Nat} {m : Ms} (h : HsN many d m) : MsFit many d m := ⟨Ms.all_imp (fun _ x => OneN.fit x) h.al, Ms.nmn_q h.nm, h.dp⟩
/-- which of them are ones -/
def Ms.fl : Ms → List Bool
  | .nil => []
  | .one _ r => true :: r.fl
  | .house _ _ r => false :: r.fl
def hdF : Mk → Bool
  | .one _ => true
  | .house _ _ => false
theorem Ms.fl_hd : ∀ (d : Ms), d.fl = (match d.hd with | none => [] | some k => hdF k :: d.tl.fl)
  | .nil => rfl
  | .one _ _ => rfl
  | .house _ _ _ => rfl
theorem Ms.fl_drop (d : Ms) : ∀ n, (d.drop n).fl = d.fl.drop n
  | 0 => rfl
  | n + 1 => by
    show (d.drop n).tl.fl = d.fl.drop (n + 1)
    rw [show d.fl.drop (n + 1) = (d.fl.drop n).drop 1 by rw [List.drop_drop], ← Ms.fl_drop d n]
    cases d.drop n <;> rfl
theorem Ms.fl_at {d : Ms} {i : Nat} {k : Mk} (h : (d.drop i).hd = some k) : d.fl[i]? = some (hdF k) := by
  have h1 := Ms.fl_drop d i
  rw [Ms.fl_hd, h] at h1
  have h2 : (d.fl.drop i)[0]? = some (hdF k) := by rw [← h1]; rfl
  rwa [List.getElem?_drop] at h2
theorem two_ones {d : Ms} (h : d.fl.take 2 = [true, true]) : ∃ a b r, d = .one a (.one b r) := by
  match d, h with
  | .one a (.one b r), _ => exact ⟨a, b, r, rfl⟩
  | .one a .nil, h => cases h
  | .one a (.house _ _ _), h => cases h
  | .house _ _ r, h => cases h
  | .nil, h => cases h
end NG

namespace NG
open PySem PySem.Spec PyProof.Rows L2
def topS (i : Nat) : Stmt := PySem.Challenge.pw_nonegrowsrich_k27_houses_of_anything.main.body.getD i (.Pass ⟨0, 0, 0, 0⟩)
abbrev s_is_number : Stmt := topS 1
abbrev N_is_number : List Str := ["thing"]
theorem sc_is_number : FnScope ["thing"] ["thing"] (defScope s_is_number) := ⟨rfl, rfl, rfl, by decide +kernel, rfl, by decide +kernel, by decide +kernel⟩
abbrev s_is_within : Stmt := topS 2
abbrev N_is_within : List Str := ["thing", "low", "high"]
theorem sc_is_within : FnScope ["thing", "low", "high"] ["thing", "low", "high"] (defScope s_is_within) := ⟨rfl, rfl, rfl, by decide +kernel, rfl, by decide +kernel, by decide +kernel⟩
abbrev s_fits : Stmt := topS 9
abbrev N_fits : List Str := ["kind", "thing", "many", "low", "high"]
theorem sc_fits : FnScope ["kind", "thing", "many", "low", "high"] ["kind", "thing", "many"] (defScope s_fits) := ⟨rfl, rfl, rfl, by decide +kernel, rfl, by decide +kernel, by decide +kernel⟩
abbrev s_first_word : Stmt := topS 10
abbrev N_first_word : List Str := ["thing"]
theorem sc_first_word : FnScope ["thing"] ["thing"] (defScope s_first_word) := ⟨rfl, rfl, rfl, by decide +kernel, rfl, by decide +kernel, by decide +kernel⟩
abbrev s_fits_shape : Stmt := topS 11
abbrev N_fits_shape : List Str := ["thing", "shape", "many", "kind", "item"]
theorem sc_fits_shape : FnScope ["thing", "shape", "many", "kind", "item"] ["thing", "shape", "many"] (defScope s_fits_shape) := ⟨rfl, rfl, rfl, by decide +kernel, rfl, by decide +kernel, by decide +kernel⟩
abbrev s_has_shape : Stmt := topS 12
abbrev N_has_shape : List Str := ["thing", "many", "word"]
theorem sc_has_shape : FnScope ["thing", "many", "word"] ["thing", "many"] (defScope s_has_shape) := ⟨rfl, rfl, rfl, by decide +kernel, rfl, by decide +kernel, by decide +kernel⟩
abbrev s_is_registers : Stmt := topS 13
abbrev N_is_registers : List Str := ["thing", "low", "high", "number"]
theorem sc_is_registers : FnScope ["thing", "low", "high", "number"] ["thing"] (defScope s_is_registers) := ⟨rfl, rfl, rfl, by decide +kernel, rfl, by decide +kernel, by decide +kernel⟩
abbrev s_parts : Stmt := topS 14
abbrev N_parts : List Str := ["expression", "shape", "kind", "item"]
theorem sc_parts : FnScope ["expression", "shape", "kind", "item"] ["expression"] (defScope s_parts) := ⟨rfl, rfl, rfl, by decide +kernel, rfl, by decide +kernel, by decide +kernel⟩
abbrev s_count_parts : Stmt := topS 15
abbrev N_count_parts : List Str := ["thing", "many", "deep", "total", "part", "inside"]
theorem sc_count_parts : FnScope ["thing", "many", "deep", "total", "part", "inside"] ["thing", "many", "deep"] (defScope s_count_parts) := ⟨rfl, rfl, rfl, by decide +kernel, rfl, by decide +kernel, by decide +kernel⟩
abbrev s_is_expression : Stmt := topS 16
abbrev N_is_expression : List Str := ["thing", "many"]
theorem sc_is_expression : FnScope ["thing", "many"] ["thing", "many"] (defScope s_is_expression) := ⟨rfl, rfl, rfl, by decide +kernel, rfl, by decide +kernel, by decide +kernel⟩
abbrev s_join_spans : Stmt := topS 17
abbrev N_join_spans : List Str := ["word", "first", "second", "low", "high", "lower", "higher"]
theorem sc_join_spans : FnScope ["word", "first", "second", "low", "high", "lower", "higher"] ["word", "first", "second"] (defScope s_join_spans) := ⟨rfl, rfl, rfl, by decide +kernel, rfl, by decide +kernel, by decide +kernel⟩
abbrev s_span : Stmt := topS 18
abbrev N_span : List Str := ["expression", "word", "spans", "part", "ends", "end", "furthest"]
theorem sc_span : FnScope ["expression", "word", "spans", "part", "ends", "end", "furthest"] ["expression"] (defScope s_span) := ⟨rfl, rfl, rfl, by decide +kernel, rfl, by decide +kernel, by decide +kernel⟩
abbrev s_leaves : Stmt := topS 19
abbrev N_leaves : List Str := ["expression", "counts", "part", "first", "second"]
theorem sc_leaves : FnScope ["expression", "counts", "part", "first", "second"] ["expression"] (defScope s_leaves) := ⟨rfl, rfl, rfl, by decide +kernel, rfl, by decide +kernel, by decide +kernel⟩
abbrev s_borders : Stmt := topS 20
abbrev N_borders : List Str := ["expression", "counts", "part", "word", "total", "first", "second"]
theorem sc_borders : FnScope ["expression", "counts", "part", "word", "total", "first", "second"] ["expression"] (defScope s_borders) := ⟨rfl, rfl, rfl, by decide +kernel, rfl, by decide +kernel, by decide +kernel⟩
abbrev s_is_name : Stmt := topS 29
abbrev N_is_name : List Str := ["thing", "letter"]
theorem sc_is_name : FnScope ["thing", "letter"] ["thing"] (defScope s_is_name) := ⟨rfl, rfl, rfl, by decide +kernel, rfl, by decide +kernel, by decide +kernel⟩
abbrev s_power : Stmt := topS 30
abbrev N_power : List Str := ["scale"]
theorem sc_power : FnScope ["scale"] ["scale"] (defScope s_power) := ⟨rfl, rfl, rfl, by decide +kernel, rfl, by decide +kernel, by decide +kernel⟩
abbrev s_count_deed : Stmt := topS 31
abbrev N_count_deed : List Str := ["thing", "many", "deep", "word", "total", "inner", "inside"]
theorem sc_count_deed : FnScope ["thing", "many", "deep", "word", "total", "inner", "inside"] ["thing", "many", "deep"] (defScope s_count_deed) := ⟨rfl, rfl, rfl, by decide +kernel, rfl, by decide +kernel, by decide +kernel⟩
abbrev s_count_deeds : Stmt := topS 32
abbrev N_count_deeds : List Str := ["thing", "many", "deep", "total", "deed", "inside"]
theorem sc_count_deeds : FnScope ["thing", "many", "deep", "total", "deed", "inside"] ["thing", "many", "deep"] (defScope s_count_deeds) := ⟨rfl, rfl, rfl, by decide +kernel, rfl, by decide +kernel, by decide +kernel⟩
abbrev s_is_stake : Stmt := topS 33
abbrev N_is_stake : List Str := ["thing", "scale", "many", "low", "high", "widest"]
theorem sc_is_stake : FnScope ["thing", "scale", "many", "low", "high", "widest"] ["thing", "scale", "many"] (defScope s_is_stake) := ⟨rfl, rfl, rfl, by decide +kernel, rfl, by decide +kernel, by decide +kernel⟩
abbrev s_are_stakes : Stmt := topS 34
abbrev N_are_stakes : List Str := ["thing", "scale", "many", "stake"]
theorem sc_are_stakes : FnScope ["thing", "scale", "many", "stake"] ["thing", "scale", "many"] (defScope s_are_stakes) := ⟨rfl, rfl, rfl, by decide +kernel, rfl, by decide +kernel, by decide +kernel⟩
abbrev s_are_behinds : Stmt := topS 35
abbrev N_are_behinds : List Str := ["thing", "many", "deeds"]
theorem sc_are_behinds : FnScope ["thing", "many", "deeds"] ["thing", "many"] (defScope s_are_behinds) := ⟨rfl, rfl, rfl, by decide +kernel, rfl, by decide +kernel, by decide +kernel⟩
abbrev s_is_doubter : Stmt := topS 36
abbrev N_is_doubter : List Str := ["thing", "many", "name", "scale", "begins", "stakes", "behinds"]
theorem sc_is_doubter : FnScope ["thing", "many", "name", "scale", "begins", "stakes", "behinds"] ["thing", "many"] (defScope s_is_doubter) := ⟨rfl, rfl, rfl, by decide +kernel, rfl, by decide +kernel, by decide +kernel⟩
abbrev s_is_weight : Stmt := topS 43
abbrev N_is_weight : List Str := ["thing"]
theorem sc_is_weight : FnScope ["thing"] ["thing"] (defScope s_is_weight) := ⟨rfl, rfl, rfl, by decide +kernel, rfl, by decide +kernel, by decide +kernel⟩
abbrev s_is_one : Stmt := topS 44
abbrev N_is_one : List Str := ["thing", "many", "word", "doubter", "registers", "weight", "held", "owed", "days", "got", "number"]
theorem sc_is_one : FnScope ["thing", "many", "word", "doubter", "registers", "weight", "held", "owed", "days", "got", "number"] ["thing", "many"] (defScope s_is_one) := ⟨rfl, rfl, rfl, by decide +kernel, rfl, by decide +kernel, by decide +kernel⟩
abbrev s_is_member : Stmt := topS 45
abbrev N_is_member : List Str := ["thing", "many", "deep"]
theorem sc_is_member : FnScope ["thing", "many", "deep"] ["thing", "many", "deep"] (defScope s_is_member) := ⟨rfl, rfl, rfl, by decide +kernel, rfl, by decide +kernel, by decide +kernel⟩
abbrev s_are_members : Stmt := topS 46
abbrev N_are_members : List Str := ["thing", "many", "deep", "member"]
theorem sc_are_members : FnScope ["thing", "many", "deep", "member"] ["thing", "many", "deep"] (defScope s_are_members) := ⟨rfl, rfl, rfl, by decide +kernel, rfl, by decide +kernel, by decide +kernel⟩
abbrev s_stands : Stmt := topS 47
abbrev N_stands : List Str := ["members", "path", "found", "number", "member", "here"]
theorem sc_stands : FnScope ["members", "path", "found", "number", "member", "here"] ["members", "path"] (defScope s_stands) := ⟨rfl, rfl, rfl, by decide +kernel, rfl, by decide +kernel, by decide +kernel⟩
abbrev s_one_borders : Stmt := topS 48
abbrev N_one_borders : List Str := ["one", "name", "scale", "begins", "stakes", "behinds", "stake"]
theorem sc_one_borders : FnScope ["one", "name", "scale", "begins", "stakes", "behinds", "stake"] ["one"] (defScope s_one_borders) := ⟨rfl, rfl, rfl, by decide +kernel, rfl, by decide +kernel, by decide +kernel⟩
abbrev s_crowd : Stmt := topS 49
abbrev N_crowd : List Str := ["house", "many", "members", "found", "lone", "path", "member", "depths", "one"]
theorem sc_crowd : FnScope ["house", "many", "members", "found", "lone", "path", "member", "depths", "one"] ["house"] (defScope s_crowd) := ⟨rfl, rfl, rfl, by decide +kernel, rfl, by decide +kernel, by decide +kernel⟩
abbrev s_is_house : Stmt := topS 50
abbrev N_is_house : List Str := ["thing", "many", "members"]
theorem sc_is_house : FnScope ["thing", "many", "members"] ["thing"] (defScope s_is_house) := ⟨rfl, rfl, rfl, by decide +kernel, rfl, by decide +kernel, by decide +kernel⟩
abbrev s_L_hand : Stmt := topS 52
abbrev N_L_hand : List Str := ["_law_script", "_law_k", "_law_cell", "_law_great"]
theorem sc_L_hand : FnScope ["_law_script", "_law_k", "_law_cell", "_law_great"] ["_law_script", "_law_k"] (defScope s_L_hand) := ⟨rfl, rfl, rfl, by decide +kernel, rfl, by decide +kernel, by decide +kernel⟩
abbrev s_L_take : Stmt := topS 53
abbrev N_L_take : List Str := ["_law_hand_here", "_law_many", "_law_digit", "_law_primes", "_law_prime", "_law_drawn"]
theorem sc_L_take : FnScope ["_law_hand_here", "_law_many", "_law_digit", "_law_primes", "_law_prime", "_law_drawn"] ["_law_hand_here", "_law_many"] (defScope s_L_take) := ⟨rfl, rfl, rfl, by decide +kernel, rfl, by decide +kernel, by decide +kernel⟩
abbrev s_L_of : Stmt := topS 54
abbrev N_L_of : List Str := ["_law_hand_here", "_law_some"]
theorem sc_L_of : FnScope ["_law_hand_here", "_law_some"] ["_law_hand_here", "_law_some"] (defScope s_L_of) := ⟨rfl, rfl, rfl, by decide +kernel, rfl, by decide +kernel, by decide +kernel⟩
abbrev s_L_name : Stmt := topS 55
abbrev N_L_name : List Str := ["_law_hand_here", "_law_some", "_law_letters", "_law_size", "_law_turn"]
theorem sc_L_name : FnScope ["_law_hand_here", "_law_some", "_law_letters", "_law_size", "_law_turn"] ["_law_hand_here"] (defScope s_L_name) := ⟨rfl, rfl, rfl, by decide +kernel, rfl, by decide +kernel, by decide +kernel⟩
abbrev s_L_figure : Stmt := topS 56
abbrev N_L_figure : List Str := ["_law_hand_here", "_law_some"]
theorem sc_L_figure : FnScope ["_law_hand_here", "_law_some"] ["_law_hand_here"] (defScope s_L_figure) := ⟨rfl, rfl, rfl, by decide +kernel, rfl, by decide +kernel, by decide +kernel⟩
abbrev s_L_registers : Stmt := topS 57
abbrev N_L_registers : List Str := ["_law_hand_here", "_law_turn"]
theorem sc_L_registers : FnScope ["_law_hand_here", "_law_turn"] ["_law_hand_here"] (defScope s_L_registers) := ⟨rfl, rfl, rfl, by decide +kernel, rfl, by decide +kernel, by decide +kernel⟩
abbrev s_L_leaf : Stmt := topS 58
abbrev N_L_leaf : List Str := ["_law_hand_here", "_law_many", "_law_sort"]
theorem sc_L_leaf : FnScope ["_law_hand_here", "_law_many", "_law_sort"] ["_law_hand_here", "_law_many"] (defScope s_L_leaf) := ⟨rfl, rfl, rfl, by decide +kernel, rfl, by decide +kernel, by decide +kernel⟩
abbrev s_L_expression : Stmt := topS 59
abbrev N_L_expression : List Str := ["_law_hand_here", "_law_many", "_law_level", "_law_jumps", "_law_words", "_law_word", "_law_one_here", "_law_other", "_law_parting"]
theorem sc_L_expression : FnScope ["_law_hand_here", "_law_many", "_law_level", "_law_jumps", "_law_words", "_law_word", "_law_one_here", "_law_other", "_law_parting"] ["_law_hand_here", "_law_many", "_law_level", "_law_jumps"] (defScope s_L_expression) := ⟨rfl, rfl, rfl, by decide +kernel, rfl, by decide +kernel, by decide +kernel⟩
abbrev s_L_stake : Stmt := topS 60
abbrev N_L_stake : List Str := ["_law_hand_here", "_law_many", "_law_level", "_law_jumps", "_law_far", "_law_inner"]
theorem sc_L_stake : FnScope ["_law_hand_here", "_law_many", "_law_level", "_law_jumps", "_law_far", "_law_inner"] ["_law_hand_here", "_law_many", "_law_level", "_law_jumps"] (defScope s_L_stake) := ⟨rfl, rfl, rfl, by decide +kernel, rfl, by decide +kernel, by decide +kernel⟩
abbrev s_L_deeds : Stmt := topS 61
abbrev N_L_deeds : List Str := ["_law_hand_here", "_law_many", "_law_deep", "_law_found", "_law_turn", "_law_i", "_law_word", "_law_parts"]
theorem sc_L_deeds : FnScope ["_law_hand_here", "_law_many", "_law_deep", "_law_found", "_law_turn", "_law_i", "_law_word", "_law_parts"] ["_law_hand_here", "_law_many", "_law_deep"] (defScope s_L_deeds) := ⟨rfl, rfl, rfl, by decide +kernel, rfl, by decide +kernel, by decide +kernel⟩
abbrev s_L_doubter : Stmt := topS 62
abbrev N_L_doubter : List Str := ["_law_hand_here", "_law_many", "_law_level", "_law_jumps", "_law_name_here", "_law_scale", "_law_stakes", "_law_mark", "_law_behinds"]
theorem sc_L_doubter : FnScope ["_law_hand_here", "_law_many", "_law_level", "_law_jumps", "_law_name_here", "_law_scale", "_law_stakes", "_law_mark", "_law_behinds"] ["_law_hand_here", "_law_many", "_law_level", "_law_jumps"] (defScope s_L_doubter) := ⟨rfl, rfl, rfl, by decide +kernel, rfl, by decide +kernel, by decide +kernel⟩
abbrev s_L_counted : Stmt := topS 63
abbrev N_L_counted : List Str := ["_law_expression_here", "_law_word", "_law_one_here", "_law_other", "_law_crossed"]
theorem sc_L_counted : FnScope ["_law_expression_here", "_law_word", "_law_one_here", "_law_other", "_law_crossed"] ["_law_expression_here"] (defScope s_L_counted) := ⟨rfl, rfl, rfl, by decide +kernel, rfl, by decide +kernel, by decide +kernel⟩
abbrev s_L_lines : Stmt := topS 64
abbrev N_L_lines : List Str := ["_law_doubter_here", "_law_stake_here"]
theorem sc_L_lines : FnScope ["_law_doubter_here", "_law_stake_here"] ["_law_doubter_here"] (defScope s_L_lines) := ⟨rfl, rfl, rfl, by decide +kernel, rfl, by decide +kernel, by decide +kernel⟩
abbrev s_L_one : Stmt := topS 65
abbrev N_L_one : List Str := ["_law_hand_here", "_law_doubter_here", "_law_weight", "_law_purse_told", "_law_owed", "_law_lasted", "_law_got"]
theorem sc_L_one : FnScope ["_law_hand_here", "_law_doubter_here", "_law_weight", "_law_purse_told", "_law_owed", "_law_lasted", "_law_got"] ["_law_hand_here", "_law_doubter_here"] (defScope s_L_one) := ⟨rfl, rfl, rfl, by decide +kernel, rfl, by decide +kernel, by decide +kernel⟩
abbrev s_L_house : Stmt := topS 66
abbrev N_L_house : List Str := ["_law_hand_here", "_law_many", "_law_most", "_law_level", "_law_jumps", "_law_members", "_law_room", "_law_homes", "_law_turn", "_law_doubter_here", "_law_lodger", "_law_deep", "_law_plain"]
theorem sc_L_house : FnScope ["_law_hand_here", "_law_many", "_law_most", "_law_level", "_law_jumps", "_law_members", "_law_room", "_law_homes", "_law_turn", "_law_doubter_here", "_law_lodger", "_law_deep", "_law_plain"] ["_law_hand_here", "_law_many", "_law_most", "_law_level", "_law_jumps"] (defScope s_L_house) := ⟨rfl, rfl, rfl, by decide +kernel, rfl, by decide +kernel, by decide +kernel⟩
abbrev s_L_all_ones : Stmt := topS 67
abbrev N_L_all_ones : List Str := ["_law_members", "_law_found", "_law_lodger"]
theorem sc_L_all_ones : FnScope ["_law_members", "_law_found", "_law_lodger"] ["_law_members"] (defScope s_L_all_ones) := ⟨rfl, rfl, rfl, by decide +kernel, rfl, by decide +kernel, by decide +kernel⟩
abbrev s_L_walk : Stmt := topS 68
abbrev N_L_walk : List Str := ["_law_members", "_law_trail", "_law_told", "_law_number", "_law_lodger"]
theorem sc_L_walk : FnScope ["_law_members", "_law_trail", "_law_told", "_law_number", "_law_lodger"] ["_law_members", "_law_trail"] (defScope s_L_walk) := ⟨rfl, rfl, rfl, by decide +kernel, rfl, by decide +kernel, by decide +kernel⟩
abbrev s_L_rich : Stmt := topS 69
abbrev N_L_rich : List Str := ["_law_hand_here", "_law_many", "_law_level", "_law_jumps", "_law_doubter_here", "_law_some", "_law_room", "_law_one_here"]
theorem sc_L_rich : FnScope ["_law_hand_here", "_law_many", "_law_level", "_law_jumps", "_law_doubter_here", "_law_some", "_law_room", "_law_one_here"] ["_law_hand_here", "_law_many", "_law_level", "_law_jumps"] (defScope s_L_rich) := ⟨rfl, rfl, rfl, by decide +kernel, rfl, by decide +kernel, by decide +kernel⟩
abbrev s_L_is_number : Stmt := topS 70
abbrev N_L_is_number : List Str := ["_law_piece", "_law_low", "_law_high"]
theorem sc_L_is_number : FnScope ["_law_piece", "_law_low", "_law_high"] ["_law_piece", "_law_low", "_law_high"] (defScope s_L_is_number) := ⟨rfl, rfl, rfl, by decide +kernel, rfl, by decide +kernel, by decide +kernel⟩
abbrev s_L_is_member : Stmt := topS 71
abbrev N_L_is_member : List Str := ["_law_piece", "_law_many", "_law_deep", "_law_mark", "_law_lodger", "_law_part"]
theorem sc_L_is_member : FnScope ["_law_piece", "_law_many", "_law_deep", "_law_mark", "_law_lodger", "_law_part"] ["_law_piece", "_law_many", "_law_deep"] (defScope s_L_is_member) := ⟨rfl, rfl, rfl, by decide +kernel, rfl, by decide +kernel, by decide +kernel⟩
abbrev s_L_due : Stmt := topS 72
abbrev N_L_due : List Str := ["_law_piece", "_law_lodger", "_law_told", "_law_trail", "_law_some", "_law_lines_here", "_law_one_here"]
theorem sc_L_due : FnScope ["_law_piece", "_law_lodger", "_law_told", "_law_trail", "_law_some", "_law_lines_here", "_law_one_here"] ["_law_piece"] (defScope s_L_due) := ⟨rfl, rfl, rfl, by decide +kernel, rfl, by decide +kernel, by decide +kernel⟩
abbrev s_L_odd : Stmt := topS 73
abbrev N_L_odd : List Str := ["_law_hand_here", "_law_some", "_law_piece", "_law_turn"]
theorem sc_L_odd : FnScope ["_law_hand_here", "_law_some", "_law_piece", "_law_turn"] ["_law_hand_here"] (defScope s_L_odd) := ⟨rfl, rfl, rfl, by decide +kernel, rfl, by decide +kernel, by decide +kernel⟩
abbrev s_L_bent : Stmt := topS 74
abbrev N_L_bent : List Str := ["_law_hand_here", "_law_piece", "_law_deep", "_law_way", "_law_at", "_law_some", "_law_words"]
theorem sc_L_bent : FnScope ["_law_hand_here", "_law_piece", "_law_deep", "_law_way", "_law_at", "_law_some", "_law_words"] ["_law_hand_here", "_law_piece", "_law_deep"] (defScope s_L_bent) := ⟨rfl, rfl, rfl, by decide +kernel, rfl, by decide +kernel, by decide +kernel⟩
abbrev s_L_right : Stmt := topS 75
abbrev N_L_right : List Str := ["_law_hand_here", "_law_deep", "_law_many", "_law_entire", "_law_turn", "_law_piece", "_law_noted", "_law_told"]
theorem sc_L_right : FnScope ["_law_hand_here", "_law_deep", "_law_many", "_law_entire", "_law_turn", "_law_piece", "_law_noted", "_law_told"] ["_law_hand_here"] (defScope s_L_right) := ⟨rfl, rfl, rfl, by decide +kernel, rfl, by decide +kernel, by decide +kernel⟩
abbrev s_law : Stmt := topS 76
abbrev N_law : List Str := ["_law_script", "_law_k"]
theorem sc_law : FnScope ["_law_script", "_law_k"] ["_law_script"] (defScope s_law) := ⟨rfl, rfl, rfl, by decide +kernel, rfl, by decide +kernel, by decide +kernel⟩

end NG

namespace NG
open PySem PySem.Spec PyProof.Rows L2
section
variable {P : Program} {w : World} {K : PySem.W.Frag} {mg : Str → Option Value} {base : Heap}
theorem primes_at {m : Int} (h : 0 ≤ m) : ∃ p : Int, atI ([.int 2147483647, .int 2147483629, .int 2147483587, .int 2147483579, .int 2147483563, .int 2147483549, .int 2147483543, .int 2147483497] : List V) (m % 8) = some (.int p) ∧ 1000 < p ∧ p < 2147483648 := by
  have h1 : m % 8 = 0 ∨ m % 8 = 1 ∨ m % 8 = 2 ∨ m % 8 = 3 ∨ m % 8 = 4 ∨ m % 8 = 5 ∨ m % 8 = 6 ∨ m % 8 = 7 := by omega
  rcases h1 with e | e | e | e | e | e | e | e <;> rw [e] <;> exact ⟨_, rfl, by decide, by decide⟩
theorem ok_take {f : Addr} {fd : FuncData} (F : Fun K "_law_take" "_law_take" s_L_take f fd) (gF : mg "_law_take" = some (.ref f)) (b : Binds K fd ["_law_hand_here", "_law_many"] []) : Cal P w K mg base 1 "_law_take" spTake := by
  refine ⟨f, fd, _, F.ok sc_L_take (fun vs H Q E h => ?_) (fun cdv A outer s H vs Q E hr h => ?_), gF, F.kp, b⟩
  · obtain ⟨a, m, n, rfl, _⟩ := h
    rfl
  · obtain ⟨a, many, n, rfl, hm, hm2, ⟨g, sd, m, e, hg, hs, h0, hn⟩, hN, q⟩ := h
    refine ⟨_, (pss_cons (ps_if (pt_cmpR op_gt (pe_ix ix_list (pv 0) pe_int (fun _ _ => rfl)) pe_int (nomark _)) (pss_cons (ps_set (i := 2) sc_L_take.nd rfl (.inl rfl) (pe_op op_mod (pe_ix ix_list (pv 0) pe_int (fun _ _ => rfl)) (pv 1))) (pss_cons (ps_asg (pe_op op_fdivW (pe_ix ix_list (pv 0) pe_int (fun _ _ => rfl)) (pv 1)) (pg_sub (pv 0) pe_int set_list)) (pss_one (ps_ret (pv 2))))) pss_nil) (pss_cons (ps_asg (pe_op op_add (pe_ix ix_list (pv 0) pe_int (fun _ _ => rfl)) pe_int) (pg_sub (pv 0) pe_int set_list)) (pss_cons (ps_set (i := 3) sc_L_take.nd rfl (.inl rfl) (pe_lst (pa_cons pe_int (pa_cons pe_int (pa_cons pe_int (pa_cons pe_int (pa_cons pe_int (pa_cons pe_int (pa_cons pe_int (pa_cons pe_int pa_nil)))))))))) (pss_cons (ps_set (i := 4) sc_L_take.nd rfl (.inl rfl) (pe_ix ix_list (pv 3) (pe_op op_mod (pe_ix ix_list (pv 0) pe_int (fun _ _ => rfl)) pe_int) (fun _ _ => rfl))) (pss_cons (ps_set (i := 5) sc_L_take.nd rfl (.inl rfl) (pe_op op_add (pe_ix ix_list (pv 0) pe_int (fun _ _ => rfl)) (pe_op op_mul (pe_op op_mul pe_int (pe_ix ix_list (pv 0) pe_int (fun _ _ => rfl))) (pe_ix ix_list (pv 0) pe_int (fun _ _ => rfl))))) (pss_cons (ps_set (i := 5) sc_L_take.nd rfl (.inl rfl) (pe_op op_add (pe_op op_mod (pe_op op_mod (pv 5) (pe_op op_pow (pv 4) pe_int)) (pv 4)) pe_int)) (pss_one (ps_ret (pe_op op_mod (pe_op op_fdiv (pe_op op_mod (pe_op op_mul (pv 5) (pe_op op_add (pe_op op_mod (pv 5) pe_int) (pe_ix ix_list (pv 0) pe_int (fun _ _ => rfl)))) (pv 4)) pe_int) (pv 1)))))))))), ?_⟩
    refine ⟨.ref a, rfl, a, _, 0, .int g, rfl, rfl, SqL.of e, rfl, g, 0, rfl, rfl, _, rfl, iteD (fun c => ?_) (fun c => ?_)⟩
    · refine ⟨.ref a, rfl, a, _, 0, .int g, rfl, rfl, SqL.of e, rfl, .int many, rfl, g, many, rfl, rfl, hm, ?_⟩
      refine ⟨.ref a, rfl, a, _, 0, .int g, rfl, rfl, SqL.of e, rfl, .int many, rfl, g, many, rfl, rfl, wide_div (b := 62) hm (by omega) (by decide) (by decide), ?_⟩
      refine ⟨.ref a, rfl, a, _, 0, 0, rfl, rfl, e, rfl, ?_⟩
      refine ⟨.int (g % many), rfl, q _ _ But.put ?_ (Int.emod_nonneg _ (by omega)) (Int.emod_lt_of_pos _ hm)⟩
      exact ⟨g / many, sd, m, upd_same, Int.ediv_nonneg hg (by omega), hs, h0, by omega⟩
    · refine ⟨.ref a, rfl, a, _, 2, .int m, rfl, rfl, SqL.of e, rfl, m, 1, rfl, rfl, ?_⟩
      refine ⟨.ref a, rfl, a, _, 2, 2, rfl, rfl, e, rfl, ?_⟩
      have e1 : (upd H a (.lst [.int g, .int sd, .int (m + 1)])) a = some (.lst [.int g, .int sd, .int (m + 1)]) := upd_same
      refine ⟨by decide, fun p np => ?_⟩
      have npa : p ≠ a := (ne_of_none e1 np).symm
      obtain ⟨pr, hat, hp1, hp2⟩ := primes_at (m := m + 1) (by omega)
      have e2 : (upd (upd H a (.lst [.int g, .int sd, .int (m + 1)])) p (.lst [.int 2147483647, .int 2147483629, .int 2147483587, .int 2147483579, .int 2147483563, .int 2147483549, .int 2147483543, .int 2147483497])) a = some (.lst [.int g, .int sd, .int (m + 1)]) := by rw [upd_ne npa.symm]; exact e1
      have e3 : (upd (upd H a (.lst [.int g, .int sd, .int (m + 1)])) p (.lst [.int 2147483647, .int 2147483629, .int 2147483587, .int 2147483579, .int 2147483563, .int 2147483549, .int 2147483543, .int 2147483497])) p = some (.lst [.int 2147483647, .int 2147483629, .int 2147483587, .int 2147483579, .int 2147483563, .int 2147483549, .int 2147483543, .int 2147483497]) := upd_same
      refine ⟨.ref p, rfl, .ref a, rfl, a, _, 2, .int (m + 1), rfl, rfl, SqL.of e2, rfl, m + 1, 8, rfl, rfl, (by show (0 : Int) < 8; decide), p, _, (m + 1) % 8, .int pr, rfl, rfl, SqL.of e3, hat, ?_⟩
      have hsq : (0 : Int) < pr ^ (2 : Int).toNat := by
        show 0 < pr ^ 2
        exact Int.pow_pos (by omega)
      refine ⟨.ref a, rfl, a, _, 1, .int sd, rfl, rfl, SqL.of e2, rfl, .ref a, rfl, a, _, 2, .int (m + 1), rfl, rfl, SqL.of e2, rfl, 69621, m + 1, rfl, rfl, .inl ⟨by decide, by decide⟩, .ref a, rfl, a, _, 2, .int (m + 1), rfl, rfl, SqL.of e2, rfl, _, _, rfl, rfl, .inr ⟨by omega, by omega⟩, _, _, rfl, rfl, ?_⟩
      refine ⟨_, rfl, .int pr, rfl, pr, 2, rfl, rfl, ⟨by decide, by decide, by omega⟩, _, _, rfl, rfl, hsq, .int pr, rfl, _, pr, rfl, rfl, (by show 0 < pr; omega), _, 1, rfl, rfl, ?_⟩
      generalize hz : (sd + 69621 * (m + 1) * (m + 1)) % pr ^ (2 : Int).toNat % pr = z
      have hz0 : 0 ≤ z := by rw [← hz]; exact Int.emod_nonneg _ (by omega)
      have hz1 : z < pr := by rw [← hz]; exact Int.emod_lt_of_pos _ (by omega)
      refine ⟨.int (z + 1), rfl, .int (z + 1), rfl, z + 1, 1009, rfl, rfl, (by show (0 : Int) < 1009; decide), .ref a, rfl, a, _, 2, .int (m + 1), rfl, rfl, SqL.of e2, rfl, _, _, rfl, rfl, z + 1, _, rfl, rfl, .inl ⟨by omega, by omega⟩, .int pr, rfl, _, pr, rfl, rfl, (by show 0 < pr; omega), _, 7, rfl, rfl, ⟨by decide, by decide⟩, .int many, rfl, _, many, rfl, rfl, hm, ?_⟩
      refine q _ _ ?_ ⟨g, sd, m + 1, e2, hg, hs, by omega, by omega⟩ (Int.emod_nonneg _ (by omega)) (Int.emod_lt_of_pos _ hm)
      exact But.put.trans (But.new np)
end
end NG

namespace NG
open PySem PySem.Spec PyProof.Rows L2
section
variable {P : Program} {w : World} {K : PySem.W.Frag} {mg : Str → Option Value} {base : Heap}
theorem ok_hand {f : Addr} {fd : FuncData} (F : Fun K "_law_hand" "_law_hand" s_L_hand f fd) (gF : mg "_law_hand" = some (.ref f)) (b : Binds K fd ["_law_script", "_law_k"] []) (B : Bl mg) : Cal P w K mg base 1 "_law_hand" (spHand K) := by
  refine ⟨f, fd, _, F.ok sc_L_hand (fun vs H Q E h => ?_) (fun cdv A outer s H vs Q E hr h => ?_), gF, F.kp, b⟩
  · obtain ⟨a, m, n, rfl, _⟩ := h
    rfl
  · obtain ⟨a, k, ns, rfl, hk0, hk1, hS, q⟩ := h
    refine ⟨_, (pss_cons (ps_set (i := 2) sc_L_hand.nd rfl (.inl rfl) (pe_cut (pe_ifExp (pt_cmpR op_lt (pv 1) (pe_callB call_len_seq (by rfl) B.len PySem.boot_len (pa_cons (pv 0) pa_nil)) (nomark _)) (pe_ix ix_list (pv 0) (pv 1) (fun _ _ => rfl)) pe_int))) (pss_cons (ps_set (i := 3) sc_L_hand.nd rfl (.inl rfl) (pe_op op_mul (pe_op op_mod (pe_callB call_abs (by rfl) B.abs (by decide +kernel) (pa_cons (pv 2) pa_nil)) (pe_op op_mulW (pe_op op_pow pe_int pe_int) (pe_op op_pow pe_int pe_int))) (pe_callTy call_int1 (by rfl) B.int (by decide +kernel) (pa_cons (pe_cmpR op_ge (pe_callB call_abs (by rfl) B.abs (by decide +kernel) (pa_cons (pv 2) pa_nil)) (pe_op op_pow pe_int pe_int) (nomark _)) pa_nil)))) (pss_one (ps_ret (pe_lst (pa_cons (pv 3) (pa_cons (pe_op op_add (pe_op op_add (pe_op op_mod (pv 2) pe_int) (pe_op op_mul pe_int (pv 1))) pe_int) (pa_cons pe_int pa_nil)))))))), ?_⟩
    refine ⟨fun v H' => H' = H ∧ ∃ c : Int, v = .int c, ?_, fun v H' hv => ?_⟩
    · refine ⟨.int k, rfl, .ref a, rfl, a, _, rfl, .inl hS, k, _, rfl, rfl, _, rfl, iteD (fun c => ?_) (fun c => ?_)⟩
      · exact ⟨.ref a, rfl, .int k, rfl, a, _, k, _, rfl, rfl, hS, at_int hk0 (by rw [List.length_map] at c; exact c), rfl, _, rfl⟩
      · exact ⟨rfl, 0, rfl⟩
    · obtain ⟨rfl, c, rfl⟩ := hv
      refine ⟨.int c, rfl, c, rfl, 10, 60, rfl, rfl, ⟨by decide, by decide, by decide⟩, 10, 60, rfl, rfl, ⟨by decide, by decide, by decide⟩, _, _, rfl, rfl, wide_mul (a := 300) (b := 300) (by decide) (by decide) (by decide) (by decide) (by decide), _, _, rfl, rfl, (by show (0 : Int) < 10 ^ 60 * 10 ^ 60; decide), ?_⟩
      refine ⟨.int c, rfl, c, rfl, 10, 18, rfl, rfl, ⟨by decide, by decide, by decide⟩, _, _, rfl, rfl, .inr ⟨_, rfl, ?_⟩⟩
      have h01 : ∀ z : Bool, (0 : Int) ≤ (if z = true then 1 else 0) ∧ (if z = true then (1 : Int) else 0) ≤ 1 := by
        intro z
        cases z <;> decide
      refine ⟨_, _, rfl, rfl, .inr ⟨by have := h01 (decide ((10 : Int) ^ (18 : Int).toNat ≤ if c < 0 then -c else c)); omega, by have := h01 (decide ((10 : Int) ^ (18 : Int).toNat ≤ if c < 0 then -c else c)); omega⟩, ?_⟩
      refine ⟨_, rfl, .int c, rfl, c, 2305843009213693951, rfl, rfl, (by show (0 : Int) < 2305843009213693951; decide), .int k, rfl, 104729, k, rfl, rfl, .inl ⟨by decide, by decide⟩, _, _, rfl, rfl, _, 7, rfl, rfl, (by show 3 ≤ sizeLine; decide), fun p np => ?_⟩
      refine q p _ _ np (Int.mul_nonneg (Int.emod_nonneg _ (by show (10 : Int) ^ 60 * 10 ^ 60 ≠ 0; decide)) (h01 _).1) ?_
      have : 0 ≤ c % 2305843009213693951 := Int.emod_nonneg _ (by decide)
      omega
theorem ok_of {f : Addr} {fd : FuncData} (F : Fun K "_law_of" "_law_of" s_L_of f fd) (gF : mg "_law_of" = some (.ref f)) (b : Binds K fd ["_law_hand_here", "_law_some"] []) (B : Bl mg) (c_L_take : Cal P w K mg base 1 "_law_take" spTake) : Cal P w K mg base 2 "_law_of" (spOf K) := by
  refine ⟨f, fd, _, F.ok sc_L_of (fun vs H Q E h => ?_) (fun cdv A outer s H vs Q E hr h => ?_), gF, F.kp, b⟩
  · obtain ⟨a, m, n, _, rfl, _⟩ := h
    rfl
  · obtain ⟨a, l, xs, n, rfl, hal, hl, h0, h1, hh, hn, q⟩ := h
    refine ⟨_, (pss_one (ps_ret (pe_ix ix_list (pv 1) (pe_c c_L_take hr (by omega) (by rfl) (pa_cons (pv 0) (pa_cons (pe_callB call_len_seq (by rfl) B.len PySem.boot_len (pa_cons (pv 1) pa_nil)) pa_nil))) (fun _ _ => rfl)))), ?_⟩
    refine ⟨.ref l, rfl, .ref a, rfl, .ref l, rfl, l, _, rfl, .inl (SqL.of hl), ?_⟩
    refine ⟨a, _, n, rfl, by omega, by omega, hh, hn, fun H' r bt hh' r0 r1 => ?_⟩
    have hl' : H' l = some (.lst xs) := bt _ _ (Ne.symm hal) hl
    obtain ⟨v, hv, hm⟩ := at_mem (xs := xs) r0 r1
    exact ⟨l, _, r, v, rfl, rfl, SqL.of hl', hv, q _ _ bt hh' hm⟩
theorem ok_figure {f : Addr} {fd : FuncData} (F : Fun K "_law_figure" "_law_figure" s_L_figure f fd) (gF : mg "_law_figure" = some (.ref f)) (b : Binds K fd ["_law_hand_here"] []) (B : Bl mg) (c_L_take : Cal P w K mg base 1 "_law_take" spTake) (c_L_of : Cal P w K mg base 2 "_law_of" (spOf K)) : Cal P w K mg base 3 "_law_figure" spFigure := by
  refine ⟨f, fd, _, F.ok sc_L_figure (fun vs H Q E h => ?_) (fun cdv A outer s H vs Q E hr h => ?_), gF, F.kp, b⟩
  · obtain ⟨a, m, rfl, _⟩ := h
    rfl
  · obtain ⟨a, n, rfl, hh, hn, q⟩ := h
    refine ⟨_, (pss_cons (ps_set (i := 1) sc_L_figure.nd rfl (.inl rfl) (pe_lst (pa_cons pe_int (pa_cons pe_int (pa_cons (pe_un un_neg pe_int) (pa_cons pe_int (pa_cons pe_int (pa_cons pe_int (pa_cons pe_int (pa_cons (pe_un un_neg pe_int) (pa_cons pe_int (pa_cons (pe_un un_neg pe_int) pa_nil)))))))))))) (pss_one (ps_ret (pe_c c_L_of hr (by omega) (by rfl) (pa_cons (pv 0) (pa_cons (pe_op op_cat (pv 1) (pe_lst (pa_cons (pe_op op_sub (pe_c c_L_take hr (by omega) (by rfl) (pa_cons (pv 0) (pa_cons pe_int pa_nil))) pe_int) (pa_cons (pe_op op_sub (pe_c c_L_take hr (by omega) (by rfl) (pa_cons (pv 0) (pa_cons pe_int pa_nil))) pe_int) pa_nil)))) pa_nil)))))), ?_⟩
    refine ⟨_, rfl, _, rfl, _, rfl, (by show 10 ≤ sizeLine; decide), fun l nl => ?_⟩
    have hla := hh.ne nl
    have hl : (upd H l (.lst [.int 0, .int 1, .int (-1), .int 50, .int 100, .int 250, .int 500, .int (-500), .int 1000, .int (-1000)])) l = _ := upd_same
    refine ⟨.ref a, rfl, .ref l, rfl, .ref a, rfl, a, 2001, n, rfl, by decide, by decide, hh.new nl, by omega, fun H1 r1 b1 hh1 r10 r11 => ⟨_, _, rfl, rfl, ?_⟩⟩
    refine ⟨.ref a, rfl, a, 201, n + 1, rfl, by decide, by decide, hh1, by omega, fun H2 r2 b2 hh2 r20 r21 => ⟨_, _, rfl, rfl, ?_⟩⟩
    refine ⟨(by show 2 ≤ sizeLine; decide), fun l2 nl2 => ?_⟩
    have hl2a := hh2.ne nl2
    have e1 : H2 l = some (.lst [.int 0, .int 1, .int (-1), .int 50, .int 100, .int 250, .int 500, .int (-500), .int 1000, .int (-1000)]) := b2 _ _ hla (b1 _ _ hla hl)
    refine ⟨l, l2, _, _, rfl, rfl, by rw [upd_ne (ne_of_none e1 nl2)]; exact e1, upd_same, (by show 12 ≤ sizeLine; decide), fun l3 nl3 => ?_⟩
    have hh3 := (hh2.new (o := .lst [.int (r1 - 1000), .int (r2 - 100)]) nl2)
    refine ⟨a, l3, _, n + 2, rfl, (hh3.ne nl3).symm, upd_same, (by show 0 < 12; decide), (by show 12 ≤ 1000; decide), hh3.new nl3, by omega, fun H4 v b4 hh4 hv => ?_⟩
    have bb : But a H H4 := (((((But.new nl).trans b1).trans b2).trans (But.new nl2)).trans (But.new nl3)).trans b4
    have key : ∃ c : Int, v = .int c ∧ -1000 ≤ c ∧ c ≤ 1000 := by
      simp only [List.cons_append, List.nil_append, List.mem_cons, List.not_mem_nil, or_false] at hv
      rcases hv with rfl | rfl | rfl | rfl | rfl | rfl | rfl | rfl | rfl | rfl | rfl | rfl
      all_goals exact ⟨_, rfl, by omega, by omega⟩
    obtain ⟨c, rfl, c0, c1⟩ := key
    exact q _ _ bb hh4 c0 c1
end
end NG

set_option maxHeartbeats 2000000
namespace NG
open PySem PySem.Spec PyProof.Rows L2
/-! ### dicts whose keys are tuples -/
def rInG (neg : Bool) : R2 := fun x y H Q => ∃ a o, y = .ref a ∧ DGet H a x o ∧ Q (.bl (if neg then !o.isSome else o.isSome)) H
theorem op_inG {X : Cx} (hu : X.A.units + 64 < cLine) : OpR X (compareOp .In) (rInG false) := by
  intro pins s σ H x y v u Q I rx ry h
  obtain ⟨a, o, rfl, g, q⟩ := h
  cases ry
  exact d_in (by omega) I g rx fun s' I' => ⟨.bl o.isSome, H, I', rfl, q⟩
theorem op_ninG {X : Cx} (hu : X.A.units + 64 < cLine) : OpR X (compareOp .NotIn) (rInG true) := by
  intro pins s σ H x y v u Q I rx ry h
  obtain ⟨a, o, rfl, g, q⟩ := h
  cases ry
  exact d_notIn (by omega) I g rx fun s' I' => ⟨.bl (!o.isSome), H, I', rfl, q⟩
def mergeT (kvs more : List (List Key × V)) : List (List Key × V) := more.foldl (fun acc kv => putK acc kv.1 kv.2) kvs
theorem KT.merge {H : Hp} : ∀ {more : List (List Key × V)} {ys : List (List Key × Addr × Value)} {kvs : List (List Key × V)} {xs : List (List Key × Addr × Value)}, KT H more ys → KT H kvs xs → KT H (mergeT kvs more) (storedAllH xs ys)
  | _, _, _, _, .nil, r => r
  | _, _, _, _, .cons (a := p) (b := y) h t, r => by
    obtain ⟨h1, h2, h3⟩ := h
    show KT H (mergeT (putK _ p.1 p.2) _) (storedAllH (storedH _ y.1 y.2.1 y.2.2) _)
    rw [← h1]
    exact KT.merge t (r.put p.1 h2 h3)
theorem length_mergeT : ∀ (more kvs : List (List Key × V)), (mergeT kvs more).length ≤ kvs.length + more.length
  | [], kvs => Nat.le_refl _
  | p :: more, kvs => by
    have h1 := length_mergeT more (putK kvs p.1 p.2)
    have h2 := length_putK kvs p.1 p.2
    show (mergeT (putK kvs p.1 p.2) more).length ≤ _
    rw [List.length_cons]
    omega
def rDUpdT (P : Program) (w : World) : V → List V → Hp → VK → Prop := fun x vs H Q => ∃ (a b : Addr) (ka kb : List (List Key × V)), x = .ref a ∧ vs = [.ref b] ∧ a ≠ b ∧ H a = some (.dT ka) ∧ H b = some (.dT kb) ∧ ka.length + kb.length ≤ sizeLine ∧ (ka ≠ [] ∨ (kb.map fun kv => tupleKeyHash (mixKind P w) kv.1).Nodup) ∧ Q .non (upd H a (.dT (mergeT ka kb)))
theorem mt_dupdateT {X : Cx} (hu : X.A.units + 64 < cLine) : MtM X "dict.update" (rDUpdT X.prog X.w) := by
  intro pins s σ H x vs v us Q I rx rv h
  obtain ⟨a, b, ka, kb, rfl, rfl, hab, ha, hb, hz, hn, q⟩ := h
  cases rx
  obtain ⟨u, rfl, ru⟩ := rv.one
  cases ru
  obtain ⟨za, da, va, ra, dda⟩ := dt_of I.hok ha
  obtain ⟨zb, db, vb, rb, ddb⟩ := dt_of I.hok hb
  have l1 : ka.length = va.length := Paired.length ra
  have l2 : kb.length = vb.length := Paired.length rb
  refine PySem.call_update_dictH (knd := tupleKind (mixKind X.prog X.w)) (tupleKind_room_in1 (by omega)) hab db dda ddb ?_ (by omega) fun h' dd' _ hs => ?_
  · rcases hn with hn | hn
    · left
      intro e
      rw [e] at l1
      exact hn (List.eq_nil_of_length_eq_zero l1)
    · right
      have all : ∀ {l : List (List Key × V)} {m : List (List Key × Addr × Value)}, KT H l m → (∀ x ∈ m, s.TypeIs (.ref x.2.1) "tuple") ∧ (m.map fun x => (tupleKind (mixKind X.prog X.w)).hash x.1) = l.map fun kv => tupleKeyHash (mixKind X.prog X.w) kv.1 := by
        intro l m r
        induction r with
        | nil => exact ⟨fun x hx => (nomatch hx), rfl⟩
        | @cons p y ps ys hp t ih =>
          obtain ⟨h1, h2, h3⟩ := hp
          refine ⟨fun x hx => ?_, ?_⟩
          · rcases List.mem_cons.mp hx with e | hx
            · subst e
              obtain ⟨o, _, _, e1, e2, _⟩ := key_of (P := X.prog) (w := X.w) I.hok h2
              exact ⟨o, e1, e2⟩
            · exact ih.1 x hx
          · rw [List.map_cons, List.map_cons, ih.2, ← h1]
            rfl
      obtain ⟨t1, t2⟩ := all rb
      exact ⟨t1, by rw [t2]; exact hn⟩
  · have hl : (mergeT ka kb).length ≤ sizeLine := Nat.le_trans (length_mergeT kb ka) hz
    obtain ⟨o, es, ep, hq, h2, h3, h4, _, h5⟩ := dd'
    refine ⟨.non, _, d_write (t' := s.toks) I (by rw [ha]; exact True.intro) hs ⟨o, hq⟩ (show ObjOk X.prog X.w (upd H a (.dT (mergeT ka kb))) h' a (.dT (mergeT ka kb)) from ⟨hl, da, _, (KT.merge rb ra).keeps fun c ys ec => ?_, o, es, ep, hq, h2, h3, h4, h5⟩), rfl, q⟩
    rw [upd_ne (ne_of ec ha (fun z => nomatch z))]
    exact ec
/-- dict(pairs), its keys tuples -/
def rDictPT (K : PySem.W.Frag) : List V → Hp → VK → Prop := fun xs H Q => ∃ (a : Addr) (ps : List Addr) (kvs : List (List Key × V)), xs = [.ref a] ∧ SqL K H a (ps.map V.ref) ∧ Paired (fun p kv => ∃ b, SqT K H p [.ref b, kv.2] ∧ H b = some (.tup (kv.1.map kV))) ps kvs ∧
    ∀ p, H p = none → Q (.ref p) (upd H p (.dT (mergeT [] kvs)))
theorem pairsT_of {X : Cx} {pins : List (Addr × Obj)} {σ : L2.St} {H : Hp} {s : Shared} (I : L2.Inv X pins σ H s) : ∀ {ps : List Addr} {kvs : List (List Key × V)}, Paired (fun p kv => ∃ b, SqT X.K H p [.ref b, kv.2] ∧ H b = some (.tup (kv.1.map kV))) ps kvs →
    ∃ prs : List (List Key × Addr × Value), KT H kvs prs ∧ prs.length = ps.length ∧ ∀ (j : Nat) (q : List Key × Addr × Value), prs[j]? = some q → ∃ T, ps[j]? = some T ∧ s.heap.IsTuple T #[.ref q.2.1, q.2.2]
  | _, _, .nil => ⟨[], .nil, rfl, fun j q e => by simp at e⟩
  | _, _, .cons (a := p) (b := kv) h t => by
    obtain ⟨prs, r, hl, hp⟩ := pairsT_of I t
    obtain ⟨b, h, hb⟩ := h
    obtain ⟨its, rv, ht, _⟩ := I.tuple h
    obtain ⟨u, y, rfl, ru, ry⟩ := rv.two
    cases ru
    refine ⟨(kv.1, b, y) :: prs, .cons ⟨rfl, hb, ry⟩ r, by rw [List.length_cons, List.length_cons, hl], fun j q e => ?_⟩
    cases j with
    | zero =>
      have e' : (kv.1, b, y) = q := Option.some.inj e
      subst e'
      exact ⟨p, rfl, ht⟩
    | succ j =>
      obtain ⟨T, e1, e2⟩ := hp j q (by simpa using e)
      exact ⟨T, by simpa using e1, e2⟩
theorem call_dictPT {X : Cx} (hcalm : X.calm = true) (hu : X.A.units + 64 < cLine) : CallR X (.type "dict") (rDictPT X.K) := by
  intro pins s σ H xs us Q I r q
  obtain ⟨a, ps, kvs, rfl, hq, hp, q⟩ := q
  obtain ⟨u, rfl, rx⟩ := r.one
  cases rx
  obtain ⟨its, rv, pl, hz⟩ := I.list hq
  have ei := refs_at rv
  subst ei
  rw [List.length_map] at hz
  obtain ⟨prs, rel, hl, hpr⟩ := pairsT_of I hp
  obtain ⟨o, n, ho, hc, hd, hdat⟩ := pl
  have hk : ∀ x ∈ prs, ∃ o, s.heap.get? x.2.1 = some o ∧ ∀ h' : Heap, h'.get? x.2.1 = some o → (tupleKind (mixKind X.prog X.w)).is h' x.1 x.2.1 := by
    have all : ∀ {l : List (List Key × V)} {m : List (List Key × Addr × Value)}, KT H l m → ∀ x ∈ m, ∃ o, s.heap.get? x.2.1 = some o ∧ ∀ h' : Heap, h'.get? x.2.1 = some o → (tupleKind (mixKind X.prog X.w)).is h' x.1 x.2.1 := by
      intro l m r
      induction r with
      | nil => exact fun x hx => nomatch hx
      | @cons p y ps ys hp t ih =>
        intro x hx
        rcases List.mem_cons.mp hx with e | hx
        · subst e
          obtain ⟨h1, h2, h3⟩ := hp
          obtain ⟨o, its, n, e1, e2, e3, e4⟩ := key_of (P := X.prog) (w := X.w) I.hok h2
          exact ⟨o, e1, fun h' e => ⟨o, its, n, e, e2, e3, by rw [← h1]; exact e4⟩⟩
        · exact ih x hx
    exact all rel
  have hm : (s.heap.objs.size == sysModules) = false := beq_eq_false_iff_ne.mpr (Nat.ne_of_gt I.big)
  let pv : List (Value × Value) := prs.map fun q => (Value.ref q.2.1, q.2.2)
  have hpv : pv.length = ps.length := by show (prs.map _).length = _; rw [List.length_map, hl]
  have hat : ∀ {j : Nat} {k v : Value}, pv[j]? = some (k, v) → ∃ q : List Key × Addr × Value, prs[j]? = some q ∧ k = .ref q.2.1 ∧ v = q.2.2 := fun {j k v} e => by
    have e : (prs.map fun q => (Value.ref q.2.1, q.2.2))[j]? = some (k, v) := e
    rw [List.getElem?_map] at e
    obtain ⟨q, hq, e2⟩ := Option.map_eq_some_iff.mp e
    cases e2
    exact ⟨q, hq, rfl, rfl⟩
  refine PySem.call_dict_pairsH (knd := tupleKind (mixKind X.prog X.w)) (ps := prs) (PairArg.list a (ps.map Value.ref).toArray (fun j => ps.getD j 0) pv) (I.ok.hd hcalm) (show X.A.units + 1 + 1 < cLine by omega) ⟨⟨o, n, ho, hc, hd, hdat⟩, ?_, fun j k v e => ?_⟩ ⟨by rw [hpv, hl], fun i key v e => ?_⟩ (fun h' kp x hx => ?_) (by rw [hpv]; exact hz) fun h' tk dd kp => ?_
  · rw [hpv]
    simp
  · obtain ⟨q, hq, rfl, rfl⟩ := hat e
    obtain ⟨T, hT, ht⟩ := hpr j q hq
    refine ⟨?_, .inl ?_⟩
    · rw [List.getElem?_toArray, List.getElem?_map, hT]
      show some (Value.ref T) = some (Value.ref (ps.getD j 0))
      rw [List.getD_eq_getElem?_getD, hT]
      rfl
    · show s.heap.IsTuple (ps.getD j 0) _
      rw [List.getD_eq_getElem?_getD, hT]
      exact ht
  · obtain ⟨q, hq, rfl, rfl⟩ := hat e
    exact ⟨q.1, q.2.1, hq, rfl⟩
  · obtain ⟨o, e1, e2⟩ := hk x hx
    exact e2 h' (kp _ _ (Nat.ne_of_lt (Heap.lt_size e1)) (by simp) e1)
  · have hlen : (mergeT [] kvs).length ≤ sizeLine := by
      refine Nat.le_trans (length_mergeT kvs []) ?_
      rw [List.length_nil, Nat.zero_add, show kvs.length = prs.length from Paired.length rel, hl]
      exact hz
    have hnone := I.hok.fresh (Nat.le_refl s.heap.objs.size)
    obtain ⟨o2, es, ep, hq, h2, h3, h4, _, h5⟩ := dd
    refine ⟨.ref s.heap.objs.size, upd H s.heap.objs.size (.dT (mergeT [] kvs)), I.laid (t' := tk) (fun b o e => kp b o (by simp) e) (Nat.le_refl _) (show ObjOk X.prog X.w _ _ _ (.dT (mergeT [] kvs)) from ⟨hlen, hm, _, (KT.merge rel .nil).keeps fun c ys ec => ?_, o2, es, ep, hq, h2, h3, h4, h5⟩), rfl, q _ hnone⟩
    rw [upd_ne (ne_of_none ec hnone)]
    exact ec
theorem dictPTK {X : Cx} (K : PySem.W.Frag) (hc : X.calm = true) (hu : X.A.units + 64 < cLine) (h : X.K = K := by rfl) : CallR X (.type "dict") (rDictPT K) := by
  subst h
  exact call_dictPT hc hu
theorem catTK {X : Cx} (K : PySem.W.Frag) (h : X.K = K := by rfl) : OpR X (binaryOp .Add) (rCatT K) := by
  subst h
  exact op_catT
theorem ninK {X : Cx} (K : PySem.W.Frag) (h : X.K = K := by rfl) : OpR X (compareOp .NotIn) (rIn K true) := by
  subst h
  exact op_notIn_seq
end NG

set_option maxHeartbeats 2000000
namespace NG
open PySem PySem.Spec PyProof.Rows L2
/-! ### a truth on either side of a difference -/
def rSB : R2 := fun x y H Q => ∃ i j, ((x = .int i ∧ (y = .int j ∨ ∃ b, y = .bl b ∧ j = b2 b)) ∨ (∃ b, x = .bl b ∧ i = b2 b ∧ y = .int j)) ∧ Q (.int (i - j)) H
theorem op_subIB2 {X : Cx} : OpR X (binaryOp .Sub) rSB := by
  intro pins s σ H x y v u Q I rx ry h
  obtain ⟨i, j, h, q⟩ := h
  rcases h with ⟨rfl, rfl | ⟨b, rfl, rfl⟩⟩ | ⟨b, rfl, rfl, rfl⟩
  · exact op_sub (X := X) pins s σ H _ _ v u Q I rx ry ⟨i, j, rfl, rfl, q⟩
  · obtain ⟨t, rfl⟩ := rx
    obtain rfl : u = Value.bool b := ry
    exact PySem.IntBool.sub_int_bool ⟨.int _, H, I.tok _, ⟨_, rfl⟩, q⟩
  · exact op_subIB (X := X) pins s σ H _ _ v u Q I rx ry ⟨b2 b, j, rfl, .inr ⟨b, rfl, rfl⟩, q⟩
/-! ### t != () -/
def rNeE (K : PySem.W.Frag) : R2 := fun x y H Q => ∃ a b xs, x = .ref a ∧ y = .ref b ∧ SqT K H a xs ∧ SqT K H b [] ∧ Q (.bl (!xs.isEmpty)) H
theorem op_neE {X : Cx} (hu : X.A.units + 64 < cLine) : OpR X (compareOp .NotEq) (rNeE X.K) := by
  intro pins s σ H x y v u Q I rx ry h
  obtain ⟨a, b, xs, rfl, rfl, ha, hb, q⟩ := h
  cases rx
  cases ry
  obtain ⟨its, r1, p1, _⟩ := I.tuple ha
  obtain ⟨its2, r2, p2, _⟩ := I.tuple hb
  cases r2
  refine PySem.SeqAt.RcNeAt.tuples (e := fun _ => true) p1 p2 (by omega) (fun j h1 h2 => absurd h2 (by simp)) X.prog X.w _ _ ⟨.bl (!xs.isEmpty), H, I, ?_, q⟩
  have l := r1.length
  show Value.bool _ = Value.bool _
  cases xs with
  | nil => cases r1; rfl
  | cons z zs =>
    cases r1 with
    | cons _ _ => rfl
/-! ### single letters joined -/
theorem join_ones : ∀ cs : List Nat, TL.joinL [] (cs.map fun c => [c]) = cs
  | [] => rfl
  | [c] => rfl
  | c :: d :: r => by
    show [c] ++ ([] ++ TL.joinL [] ((d :: r).map fun c => [c])) = _
    rw [join_ones (d :: r)]
    rfl
theorem join_letters (cs : List Nat) : Txt.join "" (cs.map fun c => (⟨#[c]⟩ : Str)) = ⟨cs.toArray⟩ := by
  have h := SX.join_S [] (cs.map fun c => [c])
  rw [join_ones, List.map_map] at h
  exact h
theorem nameD_of {cs : List Nat} (h1 : 1 ≤ cs.length) (h8 : cs.length ≤ 8) (hc : ∀ c ∈ cs, c ∈ ("abcdefghijklmnopqrstuvwxyz" : Str).cps.toList) : nameD ⟨cs.toArray⟩ = true := by
  unfold nameD
  have e : (⟨cs.toArray⟩ : Str).length = cs.length := List.size_toArray
  rw [e, decide_eq_true h1, decide_eq_true h8, Bool.true_and, Bool.true_and]
  show (cs.toArray.toList.all _) = true
  rw [List.all_eq_true]
  exact fun c h => decide_eq_true (hc c h)
theorem letters_small : ∀ c ∈ ("abcdefghijklmnopqrstuvwxyz" : Str).cps.toList, c < 16 ^ 8 := by decide
end NG

namespace NG
open PySem PySem.Spec PyProof.Rows L2
def spLName (K : PySem.W.Frag) : Sp := fun vs H Q _ => ∃ (a : Addr) (n : Nat), vs = [.ref a] ∧ HandAt H a n ∧ n ≤ 999998000 ∧ ∀ H' z, But a H H' → HandAt H' a (n + 12) → nameD z = true → (z.cps.toList.all fun c => decide (c < 16 ^ 8)) = true → z.cps.size ≤ 10 → Q (.str z) H'
def namesL : List Str := ["out", "one", "in", "house", "doubter", "stake", "behind", "when"]
section
variable {P : Program} {w : World} {K : PySem.W.Frag} {mg : Str → Option Value} {base : Heap}
theorem ok_lname {f : Addr} {fd : FuncData} (F : Fun K "_law_name" "_law_name" s_L_name f fd) (gF : mg "_law_name" = some (.ref f)) (b : Binds K fd ["_law_hand_here"] []) (B : Bl mg) (c_L_take : Cal P w K mg base 1 "_law_take" spTake) (c_L_of : Cal P w K mg base 2 "_law_of" (spOf K)) : Cal P w K mg base 3 "_law_name" (spLName K) := by
  refine ⟨f, fd, _, F.ok sc_L_name (fun vs H Q E h => ?_) (fun cdv A outer s H vs Q E hr h => ?_), gF, F.kp, b⟩
  · obtain ⟨_, _, rfl, _⟩ := h
    rfl
  · obtain ⟨a, n, rfl, hh, hn, q⟩ := h
    refine ⟨_, (pss_cons (ps_set (i := 1) sc_L_name.nd rfl (.inl rfl) (pe_lst (pa_cons pe_str (pa_cons pe_str (pa_cons pe_str (pa_cons pe_str (pa_cons pe_str (pa_cons pe_str (pa_cons pe_str (pa_cons pe_str pa_nil)))))))))) (pss_cons (ps_if (pt_cmpR op_eq (pe_c c_L_take hr (by omega) (by rfl) (pa_cons (pv 0) (pa_cons pe_int pa_nil))) pe_int (nomark _)) (pss_one (ps_ret (pe_c c_L_of hr (by omega) (by rfl) (pa_cons (pv 0) (pa_cons (pv 1) pa_nil))))) pss_nil) (pss_cons (ps_asg (pe_tup (pa_cons pe_str (pa_cons (pe_op op_add pe_int (pe_c c_L_take hr (by omega) (by rfl) (pa_cons (pv 0) (pa_cons pe_int pa_nil)))) pa_nil))) (pg_tup rfl (pgs_cons (pg_name (i := 2) sc_L_name.nd rfl (.inr rfl)) (pgs_cons (pg_name (i := 3) sc_L_name.nd rfl (.inl rfl)) pgs_nil)))) (pss_one (ps_ret (pe_bm PySem.F.plainAttrs_str PySem.F.slot_str_join PySem.F.type_str_join mt_join pe_str (pa_cons (pe_lc (own := [("_law_turn", 4)]) rfl sc_L_name.nd (pi_range1 rfl B.range (pa_cons (pv 3) pa_nil)) (blkOk_by (N := N_L_name) (sc := defScope s_L_name) (by decide +kernel)) (fun _ _ _ _ _ => pg_name (i := 4) sc_L_name.nd rfl (.inl rfl)) (fun _ _ _ _ _ => pts_nil) (fun _ _ _ _ _ => pe_ix ix_str (pv 2) (pe_c c_L_take hr (by omega) (by rfl) (pa_cons (pv 0) (pa_cons pe_int pa_nil))) (fun _ _ => rfl))) pa_nil))))))), ?_⟩
    refine ⟨(by show 8 ≤ sizeLine; decide), fun l nl => ?_⟩
    have s1 : Same H (upd H l (.lst (namesL.map V.str))) := same_new nl
    have el : (upd H l (.lst (namesL.map V.str))) l = some (.lst (namesL.map V.str)) := upd_same
    have hla : l ≠ a := hh.ne nl
    change upd H l (.lst [.str "out", .str "one", .str "in", .str "house", .str "doubter", .str "stake", .str "behind", .str "when"]) l = some (.lst (namesL.map V.str)) at el
    change Same H (upd H l (.lst [.str "out", .str "one", .str "in", .str "house", .str "doubter", .str "stake", .str "behind", .str "when"])) at s1
    generalize upd H l (.lst [.str "out", .str "one", .str "in", .str "house", .str "doubter", .str "stake", .str "behind", .str "when"]) = H1 at s1 el ⊢
    have hh1 := hh.same s1
    refine ⟨.ref a, rfl, a, 3, n, rfl, by decide, by decide, hh1, by omega, fun H2 r b2 hh2 r0 r1 => ⟨rfl, _, rfl, iteD (fun c => ?_) (fun c => ?_)⟩⟩
    · have el2 := b2 _ _ hla el
      refine ⟨.ref a, rfl, .ref l, rfl, a, l, _, _, rfl, Ne.symm hla, el2, by decide, by decide, hh2, by omega, fun H3 v b3 hh3 hv => ?_⟩
      obtain ⟨z, hz, rfl⟩ := List.mem_map.mp hv
      have key : nameD z = true ∧ (z.cps.toList.all fun c => decide (c < 16 ^ 8)) = true ∧ z.cps.size ≤ 10 := by
        simp only [namesL, List.mem_cons, List.not_mem_nil, or_false] at hz
        rcases hz with rfl | rfl | rfl | rfl | rfl | rfl | rfl | rfl <;> decide
      exact q _ z (((But.of s1).trans b2).trans b3) (hh3.le (by omega)) key.1 key.2.1 key.2.2
    · refine ⟨.ref a, rfl, a, 8, _, rfl, by decide, by decide, hh2, by omega, fun H3 r2 b3 hh3 r20 r21 => ⟨_, _, rfl, rfl, (by show 2 ≤ sizeLine; decide), fun t nt => ?_⟩⟩
      have s4 : Same H3 (upd H3 t (.tup [.str "abcdefghijklmnopqrstuvwxyz", .int (1 + r2)])) := same_new nt
      have et : (upd H3 t (.tup [.str "abcdefghijklmnopqrstuvwxyz", .int (1 + r2)])) t = some (.tup [.str "abcdefghijklmnopqrstuvwxyz", .int (1 + r2)]) := upd_same
      generalize upd H3 t (.tup [.str "abcdefghijklmnopqrstuvwxyz", .int (1 + r2)]) = H4 at s4 et ⊢
      refine ⟨t, _, rfl, SqT.of et, rfl, _, _, rfl, _, _, rfl, rfl, ?_⟩
      have hh4 := hh3.same s4
      have b04 := (((But.of (a := a) s1).trans b2).trans b3).trans (But.of s4)
      refine ⟨rfl, _, rfl, _, rfl, by omega, by omega, fun D nD => ?_⟩
      have hDa : D ≠ a := hh4.ne nD
      have nDH : H D = none := by
        cases e : H D with
        | none => rfl
        | some o => rw [b04 _ _ hDa e] at nD; cases nD
      refine lc_range (n := (1 + r2).toNat) (fun i H' => But a H H' ∧ HandAt H' a (n + 1 + 1 + i) ∧ ∃ cs : List Nat, H' D = some (.lst (cs.map fun c => V.str ⟨#[c]⟩)) ∧ cs.length = i ∧ ∀ c ∈ cs, c ∈ ("abcdefghijklmnopqrstuvwxyz" : Str).cps.toList) ⟨b04.trans (But.new nD), hh4.new nD, [], upd_same, rfl, fun _ h => by cases h⟩ ?_ ?_
      · rintro i H5 hi ⟨b5, hh5, cs, hD, hcl, hcs⟩
        refine ⟨rfl, tYes_in ⟨_, rfl, .ref a, rfl, a, 26, _, rfl, by decide, by decide, hh5, by omega, fun H6 r6 b6 hh6 r60 r61 => ?_⟩⟩
        obtain ⟨m, rfl⟩ : ∃ m : Nat, r6 = (m : Int) := ⟨r6.toNat, by omega⟩
        have hm : m < ("abcdefghijklmnopqrstuvwxyz" : Str).cps.toList.length := by
          show m < 26
          omega
        refine ⟨"abcdefghijklmnopqrstuvwxyz", (m : Int), ("abcdefghijklmnopqrstuvwxyz" : Str).cps.toList[m], rfl, rfl, by decide, atI_nat (List.getElem?_eq_getElem hm), ?_⟩
        refine ⟨_, b6 _ _ hDa hD, ?_, fun b' o nb eb => ?_, (hh6.put hDa).le (by omega), cs ++ [("abcdefghijklmnopqrstuvwxyz" : Str).cps.toList[m]], ?_, ?_, fun c hc => ?_⟩
        · rw [List.length_map]
          exact small1000 (by omega)
        · rw [upd_ne (fun z => by rw [z, nDH] at eb; cases eb)]
          exact b6 _ _ nb (b5 _ _ nb eb)
        · rw [upd_same, List.map_append]
          rfl
        · rw [List.length_append, hcl]
          rfl
        · rcases List.mem_append.mp hc with h | h
          · exact hcs _ h
          · rw [List.mem_singleton.mp h]
            exact List.getElem_mem hm
      · rintro H5 ⟨b5, hh5, cs, hD, hcl, hcs⟩
        have hD' : H5 D = some (.lst ((cs.map fun c => (⟨#[c]⟩ : Str)).map V.str)) := by
          rw [hD, List.map_map]
          rfl
        refine ⟨"", D, cs.map fun c => (⟨#[c]⟩ : Str), rfl, rfl, .inl (SqL.of hD'), ?_, ?_⟩
        · have : ∀ l : List Nat, ((l.map fun c => (⟨#[c]⟩ : Str)).map (·.length)).sum = l.length := by
            intro l
            induction l with
            | nil => rfl
            | cons c l ih => rw [List.map_cons, List.map_cons, List.sum_cons, ih, List.length_cons]; show 1 + l.length = _; omega
          rw [this]
          show cs.length + _ * 0 ≤ _
          omega
        · rw [join_letters]
          have hcl : cs.length = (1 + r2).toNat := hcl
          refine q H5 _ b5 (hh5.le (by omega)) (nameD_of (by omega) (by omega) hcs) ?_ ?_
          · show (cs.toArray.toList.all _) = true
            rw [List.all_eq_true]
            exact fun c h => decide_eq_true (letters_small c (hcs c h))
          · show cs.toArray.size ≤ 10
            rw [List.size_toArray]
            omega
end
end NG

namespace NG
open PySem PySem.Spec PyProof.Rows L2
theorem wn_ne {o : W4} {s : Str} (h : s = "fig" ∨ s = "reg" ∨ s = "share" ∨ s = "times" ∨ s = "by" ∨ s = "when" ∨ s = "where") : decide (V.str (wn o) = V.str s) = false := by
  rcases h with rfl | rfl | rfl | rfl | rfl | rfl | rfl <;> cases o <;> decide
end NG

namespace NG
open PySem PySem.Spec PyProof.Rows L2
section
variable {P : Program} {w : World} {K : PySem.W.Frag} {mg : Str → Option Value} {base : Heap}
theorem ok_leaf {f : Addr} {fd : FuncData} (F : Fun K "_law_leaf" "_law_leaf" s_L_leaf f fd) (gF : mg "_law_leaf" = some (.ref f)) (b : Binds K fd ["_law_hand_here", "_law_many"] []) (B : Bl mg) (c_L_take : Cal P w K mg base 1 "_law_take" spTake) (c_L_figure : Cal P w K mg base 3 "_law_figure" spFigure) : Cal P w K mg base 4 "_law_leaf" (spLeaf K) := by
  refine ⟨f, fd, _, F.ok sc_L_leaf (fun vs H Q E h => ?_) (fun cdv A outer s H vs Q E hr h => ?_), gF, F.kp, b⟩
  · obtain ⟨_, _, _, rfl, _⟩ := h
    rfl
  · obtain ⟨a, many, n, rfl, hm1, hm2, hh, hn, q⟩ := h
    refine ⟨_, (pss_cons (ps_set (i := 2) sc_L_leaf.nd rfl (.inl rfl) (pe_c c_L_take hr (by omega) (by rfl) (pa_cons (pv 0) (pa_cons pe_int pa_nil)))) (pss_cons (ps_if (pt_cmpR op_eq (pv 2) pe_int (nomark _)) (pss_one (ps_ret (pe_tup (pa_cons pe_str (pa_cons (pe_c c_L_take hr (by omega) (by rfl) (pa_cons (pv 0) (pa_cons pe_int pa_nil))) pa_nil))))) pss_nil) (pss_one (ps_ret (pe_ifExp (pt_cmpR op_eq (pv 2) pe_int (nomark _)) (pe_tup (pa_cons pe_str (pa_cons (pe_c c_L_figure hr (by omega) (by rfl) (pa_cons (pv 0) pa_nil)) pa_nil))) (pe_tup (pa_cons pe_str (pa_cons (pe_c c_L_take hr (by omega) (by rfl) (pa_cons (pv 0) (pa_cons (pv 1) pa_nil))) pa_nil)))))))), ?_⟩
    refine ⟨.ref a, rfl, a, 4, n, rfl, by decide, by decide, hh, by omega, fun H1 r b1 hh1 r0 r1 => ?_⟩
    refine ⟨.int r, rfl, rfl, _, rfl, iteD (fun c => ?_) (fun c => ?_)⟩
    · refine ⟨.ref a, rfl, a, 4, n + 1, rfl, by decide, by decide, hh1, by omega, fun H2 r2 b2 hh2 r20 r21 => ⟨(by show 2 ≤ sizeLine; decide), fun p np => ?_⟩⟩
      refine q _ _ (.reg r2.toNat) ((b1.trans b2).trans (But.new np)) ((hh2.new np).le (by omega)) ⟨p, rfl, ?_⟩ (by show r2.toNat < 4; omega) (Nat.le_refl _)
      rw [Int.toNat_of_nonneg r20]
      exact SqT.of upd_same
    · refine ⟨.int r, rfl, rfl, _, rfl, iteD (fun c => ?_) (fun c => ?_)⟩
      · refine ⟨.ref a, rfl, a, n + 1, rfl, hh1, by omega, fun H2 r2 b2 hh2 r20 r21 => ⟨(by show 2 ≤ sizeLine; decide), fun p np => ?_⟩⟩
        exact q _ _ (.fig r2) ((b1.trans b2).trans (But.new np)) ((hh2.new np).le (by omega)) ⟨p, rfl, SqT.of upd_same⟩ ⟨r20, r21⟩ (Nat.le_refl _)
      · refine ⟨.ref a, rfl, .int (many : Int), rfl, a, _, n + 1, rfl, by omega, by omega, hh1, by omega, fun H2 r2 b2 hh2 r20 r21 => ⟨(by show 2 ≤ sizeLine; decide), fun p np => ?_⟩⟩
        refine q _ _ (.share r2.toNat) ((b1.trans b2).trans (But.new np)) ((hh2.new np).le (by omega)) ⟨p, rfl, ?_⟩ (by show r2.toNat < many; omega) (Nat.le_refl _)
        rw [Int.toNat_of_nonneg r20]
        exact SqT.of upd_same
def isW (s : Str) : Prop := s = "sum" ∨ s = "less" ∨ s = "least" ∨ s = "most" ∨ s = "times" ∨ s = "by" ∨ s = "when" ∨ s = "leaf" ∨ s = "where"
theorem ok_expr {f : Addr} {fd : FuncData} (F : Fun K "_law_expression" "_law_expression" s_L_expression f fd) (gF : mg "_law_expression" = some (.ref f)) (b : Binds K fd ["_law_hand_here", "_law_many", "_law_level", "_law_jumps"] []) (B : Bl mg) (c_L_take : Cal P w K mg base 1 "_law_take" spTake) (c_L_of : Cal P w K mg base 2 "_law_of" (spOf K)) (c_L_figure : Cal P w K mg base 3 "_law_figure" spFigure) (c_L_leaf : Cal P w K mg base 4 "_law_leaf" (spLeaf K)) : ∀ n, Cal P w K mg base (n + 4) "_law_expression" (spExprB K n) := by
  intro n
  induction n with
  | zero =>
    refine cal_never F gF b fun vs H Q E h => ?_
    obtain ⟨_, _, l, _, _, _, _, hl, _⟩ := h
    omega
  | succ n c_L_expression =>
  refine ⟨f, fd, _, F.ok sc_L_expression (fun vs H Q E h => ?_) (fun cdv A outer s H vs Q E hr h => ?_), gF, F.kp, b⟩
  · obtain ⟨_, _, _, _, _, rfl, _⟩ := h
    rfl
  · obtain ⟨a, many, l, k, j, rfl, hj, hl, hm1, hm2, hh, hk, q⟩ := h
    refine ⟨_, (pss_cons (ps_set (i := 4) sc_L_expression.nd rfl (.inl rfl) (pe_lst (pa_cons pe_str (pa_cons pe_str (pa_cons pe_str (pa_cons pe_str (pa_cons pe_str (pa_cons pe_str (pa_cons pe_str (pa_cons pe_str (pa_cons pe_str (pa_cons pe_str pa_nil)))))))))))) (pss_cons (ps_set (i := 4) sc_L_expression.nd rfl (.inl rfl) (pe_op op_cat (pv 4) (pe_op op_mul_lb (pe_lst (pa_cons pe_str (pa_cons pe_str pa_nil))) (pv 3)))) (pss_cons (ps_set (i := 5) sc_L_expression.nd rfl (.inl rfl) (pe_cut (pe_ifExp (pt_cmpR op_eq (pv 2) pe_int (nomark _)) pe_str (pe_c c_L_of hr (by omega) (by rfl) (pa_cons (pv 0) (pa_cons (pv 4) pa_nil)))))) (pss_cons (ps_if (pt_cmpR op_eq (pv 5) pe_str (nomark _)) (pss_one (ps_ret (pe_c c_L_leaf hr (by omega) (by rfl) (pa_cons (pv 0) (pa_cons (pv 1) pa_nil))))) pss_nil) (pss_cons (ps_set (i := 6) sc_L_expression.nd rfl (.inl rfl) (pe_c c_L_expression hr (by omega) (by rfl) (pa_cons (pv 0) (pa_cons (pv 1) (pa_cons (pe_op op_sub (pv 2) pe_int) (pa_cons (pv 3) pa_nil)))))) (pss_cons (ps_if (pt_cmpR op_eq (pv 5) pe_str (nomark _)) (pss_one (ps_ret (pe_tup (pa_cons (pv 5) (pa_cons (pe_op op_sub (pe_c c_L_take hr (by omega) (by rfl) (pa_cons (pv 0) (pa_cons pe_int pa_nil))) pe_int) (pa_cons (pv 6) pa_nil)))))) pss_nil) (pss_cons (ps_if (pt_cmpR op_eq (pv 5) pe_str (nomark _)) (pss_one (ps_ret (pe_tup (pa_cons (pv 5) (pa_cons (pe_c c_L_take hr (by omega) (by rfl) (pa_cons (pv 0) (pa_cons pe_int pa_nil))) (pa_cons (pv 6) pa_nil)))))) pss_nil) (pss_cons (ps_set (i := 7) sc_L_expression.nd rfl (.inl rfl) (pe_c c_L_expression hr (by omega) (by rfl) (pa_cons (pv 0) (pa_cons (pv 1) (pa_cons (pe_op op_sub (pv 2) pe_int) (pa_cons (pv 3) pa_nil)))))) (pss_cons (ps_if (pt_cmpR op_eq (pv 5) pe_str (nomark _)) (pss_one (ps_ret (pe_tup (pa_cons (pv 5) (pa_cons (pe_c c_L_take hr (by omega) (by rfl) (pa_cons (pv 0) (pa_cons pe_int pa_nil))) (pa_cons (pe_c c_L_figure hr (by omega) (by rfl) (pa_cons (pv 0) pa_nil)) (pa_cons (pv 6) (pa_cons (pv 7) pa_nil)))))))) pss_nil) (pss_cons (ps_if (pt_cmpR op_eq (pv 5) pe_str (nomark _)) (pss_cons (ps_set (i := 8) sc_L_expression.nd rfl (.inl rfl) (pe_c c_L_of hr (by omega) (by rfl) (pa_cons (pv 0) (pa_cons (pe_lst (pa_cons pe_int (pa_cons pe_int (pa_cons pe_int (pa_cons pe_int (pa_cons pe_int (pa_cons (pe_op op_add pe_int (pe_c c_L_take hr (by omega) (by rfl) (pa_cons (pv 0) (pa_cons pe_int pa_nil)))) pa_nil))))))) pa_nil)))) (pss_one (ps_ret (pe_tup (pa_cons (pv 5) (pa_cons (pe_c c_L_take hr (by omega) (by rfl) (pa_cons (pv 0) (pa_cons (pv 1) pa_nil))) (pa_cons (pv 8) (pa_cons (pv 6) (pa_cons (pv 7) pa_nil))))))))) pss_nil) (pss_one (ps_ret (pe_tup (pa_cons (pv 5) (pa_cons (pv 6) (pa_cons (pv 7) pa_nil)))))))))))))))), ?_⟩
    refine ⟨(by show 10 ≤ sizeLine; decide), fun p1 n1 => ?_⟩
    have hh1 := hh.new (o := .lst [.str "sum", .str "less", .str "least", .str "most", .str "least", .str "most", .str "times", .str "by", .str "when", .str "leaf"]) n1
    refine ⟨.ref p1, rfl, (by show 2 ≤ sizeLine; decide), fun p2 n2 => ?_⟩
    have e1 : (upd H p1 (.lst [.str "sum", .str "less", .str "least", .str "most", .str "least", .str "most", .str "times", .str "by", .str "when", .str "leaf"])) p1 = _ := upd_same
    have hh2 := hh1.new (o := .lst [.str "where", .str "where"]) n2
    refine ⟨.bl j, rfl, p2, _, j, rfl, rfl, SqL.of upd_same, fun p3 n3 => ?_⟩
    have hws : ∀ v ∈ (if j = true then [V.str "where", V.str "where"] else []), v = V.str "where" := by
      intro v hv
      cases j with
      | false => simp at hv
      | true =>
        rw [if_pos rfl] at hv
        simp only [List.mem_cons, List.not_mem_nil, or_false] at hv
        rcases hv with h | h <;> exact h
    have hwl : (if j = true then [V.str "where", V.str "where"] else []).length ≤ 2 := by
      cases j <;> decide
    generalize (if j = true then [V.str "where", V.str "where"] else []) = ws at n3 hws hwl ⊢
    have hh3 := hh2.new (o := .lst ws) n3
    have e2 : (upd (upd H p1 (.lst [.str "sum", .str "less", .str "least", .str "most", .str "least", .str "most", .str "times", .str "by", .str "when", .str "leaf"])) p2 (.lst [.str "where", .str "where"])) p1 = _ := (upd_ne (ne_of_none e1 n2)).trans e1
    refine ⟨p1, p3, _, _, rfl, rfl, (upd_ne (ne_of_none e2 n3)).trans e2, upd_same, Nat.le_of_lt (small1000 (by show 10 + ws.length ≤ 1000; omega)), fun p4 n4 => ?_⟩
    have hh4 := hh3.new (o := .lst ([.str "sum", .str "less", .str "least", .str "most", .str "least", .str "most", .str "times", .str "by", .str "when", .str "leaf"] ++ ws)) n4
    have b4 : But a H _ := (((But.new (a := a) n1).trans (But.new n2)).trans (But.new n3)).trans (But.new (o := .lst ([.str "sum", .str "less", .str "least", .str "most", .str "least", .str "most", .str "times", .str "by", .str "when", .str "leaf"] ++ ws)) n4)
    have ne4 := hh3.ne n4
    -- the word
    refine ⟨fun v H' => But a H H' ∧ HandAt H' a (k + 1) ∧ ∃ s : Str, v = .str s ∧ isW s ∧ (l = 0 → s = "leaf"), ?_, fun v H5 hv => ?_⟩
    · refine ⟨.int (l : Int), rfl, rfl, _, rfl, iteD (fun c => ?_) (fun c => ?_)⟩
      · exact ⟨b4, hh4.le (by omega), _, rfl, by unfold isW; simp, fun _ => rfl⟩
      · refine ⟨.ref a, rfl, .ref p4, rfl, a, p4, _, k, rfl, ne4.symm, upd_same, (by rw [List.length_append]; show 0 < 10 + ws.length; omega), (by rw [List.length_append]; show 10 + ws.length ≤ 1000; omega), hh4, by omega, fun H5 v b5 hh5 hv => ⟨b4.trans b5, hh5, ?_⟩⟩
        have hl0 : l ≠ 0 := fun z => c (by rw [z]; rfl)
        have key : ∃ s : Str, v = .str s ∧ isW s := by
          rcases List.mem_append.mp hv with hv | hv
          · simp only [List.mem_cons, List.not_mem_nil, or_false] at hv
            rcases hv with rfl | rfl | rfl | rfl | rfl | rfl | rfl | rfl | rfl | rfl
            all_goals exact ⟨_, rfl, by unfold isW; simp⟩
          · exact ⟨_, hws v hv, by unfold isW; simp⟩
        obtain ⟨s, rfl, hs⟩ := key
        exact ⟨s, rfl, hs, fun z => absurd z hl0⟩
    obtain ⟨b5, hh5, sw, rfl, hw, hl0⟩ := hv
    refine ⟨.str sw, rfl, rfl, _, rfl, iteD (fun c => ?_) (fun c => ?_)⟩
    · refine ⟨.ref a, rfl, .int (many : Int), rfl, a, many, k + 1, rfl, hm1, hm2, hh5, by have := cost_ge l; omega, fun H6 v e b6 hh6 he ho hd => ?_⟩
      exact q _ _ e (b5.trans b6) (hh6.le (by have := cost_ge l; omega)) he ho (by omega)
    · have hsl : sw ≠ "leaf" := fun z => c (by rw [z])
      obtain ⟨l', rfl⟩ : ∃ l', l = l' + 1 := by
        cases l with
        | zero => exact absurd (hl0 rfl) hsl
        | succ l' => exact ⟨l', rfl⟩
      have hcost : cost (l' + 1) = 2 * cost l' + 20 := rfl
      have elev : V.int (((l' + 1 : Nat) : Int) - 1) = V.int (l' : Int) := by
        congr 1
        omega
      refine ⟨.ref a, rfl, .int (many : Int), rfl, .int ((l' + 1 : Nat) : Int), rfl, _, 1, rfl, rfl, .bl j, rfl, a, many, l', k + 1, j, (by show [V.ref a, V.int (many : Int), V.int (((l' + 1 : Nat) : Int) - 1), V.bl j] = _; rw [elev]), hj, by omega, hm1, hm2, hh5, by omega, fun H6 x e1 b6 hh6 he1 ho1 hd1 => ?_⟩
      have b06 := b5.trans b6
      -- times
      refine ⟨.str sw, rfl, rfl, _, rfl, iteD (fun c => ?_) (fun ct => ?_)⟩
      · have c : sw = "times" := V.str.inj c
        subst c
        refine ⟨_, rfl, .ref a, rfl, a, 19, _, rfl, by decide, by decide, hh6, by omega, fun H7 r b7 hh7 r0 r1 => ⟨_, 9, rfl, rfl, x, rfl, (by show 3 ≤ sizeLine; decide), fun p np => ?_⟩⟩
        exact q _ _ (.times (r - 9) e1) ((b06.trans b7).trans (But.new np)) ((hh7.new np).le (by omega)) ⟨p, x, rfl, SqT.of upd_same, (he1.but b7 hh6).new np⟩ ⟨⟨by omega, by omega⟩, ho1⟩ (by show e1.dep + 1 ≤ _; omega)
      -- by
      refine ⟨.str sw, rfl, rfl, _, rfl, iteD (fun c => ?_) (fun cb => ?_)⟩
      · have c : sw = "by" := V.str.inj c
        subst c
        refine ⟨_, rfl, .ref a, rfl, a, 4, _, rfl, by decide, by decide, hh6, by omega, fun H7 r b7 hh7 r0 r1 => ⟨x, rfl, (by show 3 ≤ sizeLine; decide), fun p np => ?_⟩⟩
        refine q _ _ (.by r.toNat e1) ((b06.trans b7).trans (But.new np)) ((hh7.new np).le (by omega)) ⟨p, x, rfl, ?_, (he1.but b7 hh6).new np⟩ ⟨by omega, ho1⟩ (by show e1.dep + 1 ≤ _; omega)
        rw [Int.toNat_of_nonneg r0]
        exact SqT.of upd_same
      -- the other part
      refine ⟨.ref a, rfl, .int (many : Int), rfl, .int ((l' + 1 : Nat) : Int), rfl, _, 1, rfl, rfl, .bl j, rfl, a, many, l', k + 1 + cost l', j, (by show [V.ref a, V.int (many : Int), V.int (((l' + 1 : Nat) : Int) - 1), V.bl j] = _; rw [elev]), hj, by omega, hm1, hm2, hh6, by omega, fun H7 y e2 b7 hh7 he2 ho2 hd2 => ?_⟩
      have b07 := b06.trans b7
      have he1 := he1.but b7 hh6
      -- when
      refine ⟨.str sw, rfl, rfl, _, rfl, iteD (fun c => ?_) (fun cw => ?_)⟩
      · have c : sw = "when" := V.str.inj c
        subst c
        refine ⟨_, rfl, .ref a, rfl, a, 4, _, rfl, by decide, by decide, hh7, by omega, fun H8 r b8 hh8 r0 r1 => ⟨.ref a, rfl, a, _, rfl, hh8, by omega, fun H9 cc b9 hh9 c0 c1 => ⟨x, rfl, y, rfl, (by show 5 ≤ sizeLine; decide), fun p np => ?_⟩⟩⟩
        refine q _ _ (.when r.toNat cc e1 e2) (((b07.trans b8).trans b9).trans (But.new np)) ((hh9.new np).le (by omega)) ⟨p, x, y, rfl, ?_, ((he1.but b8 hh7).but b9 hh8).new np, ((he2.but b8 hh7).but b9 hh8).new np⟩ ⟨by omega, ⟨c0, c1⟩, ho1, ho2⟩ (by show max e1.dep e2.dep + 1 ≤ _; omega)
        rw [Int.toNat_of_nonneg r0]
        exact SqT.of upd_same
      -- where
      refine ⟨.str sw, rfl, rfl, _, rfl, iteD (fun c => ?_) (fun cr => ?_)⟩
      · have c : sw = "where" := V.str.inj c
        subst c
        refine ⟨.ref a, rfl, .ref a, rfl, a, 1000, _, rfl, by decide, by decide, hh7, by omega, fun H8 r b8 hh8 r0 r1 => ⟨1, _, rfl, rfl, (by show 6 ≤ sizeLine; decide), fun p5 n5 => ?_⟩⟩
        have hh9 := hh8.new (o := .lst [.int 1, .int 250, .int 333, .int 500, .int 1000, .int (1 + r)]) n5
        refine ⟨a, p5, _, _, rfl, (hh8.ne n5).symm, upd_same, (by show 0 < 6; decide), (by show 6 ≤ 1000; decide), hh9, by omega, fun H10 v b10 hh10 hv => ?_⟩
        have key : ∃ cc : Int, v = .int cc ∧ 1 ≤ cc ∧ cc ≤ 1000 := by
          have hv : v ∈ ([.int 1, .int 250, .int 333, .int 500, .int 1000, .int (1 + r)] : List V) := hv
          simp only [List.mem_cons, List.not_mem_nil, or_false] at hv
          rcases hv with rfl | rfl | rfl | rfl | rfl | rfl
          all_goals exact ⟨_, rfl, by omega, by omega⟩
        obtain ⟨cc, rfl, c0, c1⟩ := key
        refine ⟨_, rfl, .ref a, rfl, .int (many : Int), rfl, a, many, _, rfl, by omega, by omega, hh10, by omega, fun H11 j b11 hh11 j0 j1 => ⟨_, rfl, x, rfl, y, rfl, (by show 5 ≤ sizeLine; decide), fun p np => ?_⟩⟩
        refine q _ _ (.whr j.toNat cc e1 e2) (((((b07.trans b8).trans (But.new n5)).trans b10).trans b11).trans (But.new np)) ((hh11.new np).le (by omega)) ⟨p, x, y, rfl, ?_, ((((he1.but b8 hh7).new n5).but b10 hh9).but b11 hh10).new np, ((((he2.but b8 hh7).new n5).but b10 hh9).but b11 hh10).new np⟩ ⟨by omega, ⟨c0, c1⟩, ho1, ho2⟩ (by show max e1.dep e2.dep + 1 ≤ _; omega)
        rw [Int.toNat_of_nonneg j0]
        exact SqT.of upd_same
      -- the others
      refine ⟨_, rfl, x, rfl, y, rfl, (by show 3 ≤ sizeLine; decide), fun p np => ?_⟩
      have key : ∃ o : W4, sw = wn o := by
        rcases hw with rfl | rfl | rfl | rfl | rfl | rfl | rfl | rfl | rfl
        · exact ⟨.sum, rfl⟩
        · exact ⟨.less, rfl⟩
        · exact ⟨.least, rfl⟩
        · exact ⟨.most, rfl⟩
        · exact absurd rfl ct
        · exact absurd rfl cb
        · exact absurd rfl cw
        · exact absurd rfl hsl
        · exact absurd rfl cr
      obtain ⟨o, rfl⟩ := key
      exact q _ _ (.two o e1 e2) (b07.trans (But.new np)) ((hh7.new np).le (by omega)) ⟨p, x, y, rfl, SqT.of upd_same, he1.new np, he2.new np⟩ ⟨ho1, ho2⟩ (by show max e1.dep e2.dep + 1 ≤ _; omega)
end
end NG

namespace NG
open PySem PySem.Spec PyProof.Rows L2
section
variable {P : Program} {w : World} {K : PySem.W.Frag} {mg : Str → Option Value} {base : Heap}
theorem ok_regs {f : Addr} {fd : FuncData} (F : Fun K "_law_registers" "_law_registers" s_L_registers f fd) (gF : mg "_law_registers" = some (.ref f)) (b : Binds K fd ["_law_hand_here"] []) (B : Bl mg) (c_L_figure : Cal P w K mg base 3 "_law_figure" spFigure) : Cal P w K mg base 4 "_law_registers" (spRegs K) := by
  refine ⟨f, fd, _, F.ok sc_L_registers (fun vs H Q E h => ?_) (fun cdv A outer s H vs Q E hr h => ?_), gF, F.kp, b⟩
  · obtain ⟨_, _, rfl, _⟩ := h
    rfl
  · obtain ⟨a, n, rfl, hh, hn, q⟩ := h
    refine ⟨_, (pss_one (ps_ret (pe_tupleOf (by rfl) B.tuple (pe_lc (own := [("_law_turn", 1)]) rfl sc_L_registers.nd (pi_range1 rfl B.range (pa_cons pe_int pa_nil)) (blkOk_by (N := N_L_registers) (sc := defScope s_L_registers) (by decide +kernel)) (fun _ _ _ _ _ => pg_name (i := 1) sc_L_registers.nd rfl (.inl rfl)) (fun _ _ _ _ _ => pts_nil) (fun _ _ _ _ _ => pe_c c_L_figure hr (by omega) (by rfl) (pa_cons (pv 0) pa_nil)))))), ?_⟩
    refine ⟨4, rfl, by decide, by decide, fun D nD => lc_range (n := (4 : Int).toNat) (fun i H' => ∃ rs : List Int, But a H H' ∧ HandAt H' a (n + 3 * i) ∧ H' D = some (.lst (rs.map V.int)) ∧ rs.length = i ∧ ∀ x ∈ rs, -1000 ≤ x ∧ x ≤ 1000) ⟨[], But.new nD, hh.new nD, upd_same, rfl, fun x h => by cases h⟩ ?_ ?_⟩
    · rintro i H1 hi ⟨rs, b1, hh1, hD, hlen, hb⟩
      have hi4 : i < 4 := hi
      have hDa := hh.ne nD
      refine ⟨rfl, tYes_in ?_⟩
      refine ⟨.ref a, rfl, a, _, rfl, hh1, by omega, fun H2 c b2 hh2 c0 c1 => ⟨_, b2 _ _ hDa hD, ?_, ?_⟩⟩
      · rw [List.length_map]
        exact small1000 (by omega)
      · refine ⟨rs ++ [c], fun b' o nb e => ?_, (hh2.put hDa).le (by omega), ?_, ?_, ?_⟩
        · rw [upd_ne (ne_of_none e nD)]
          exact b2 _ _ nb (b1 _ _ nb e)
        · rw [upd_same, List.map_append]
          rfl
        · rw [List.length_append, hlen]
          rfl
        · intro x hx
          rcases List.mem_append.mp hx with hx | hx
          · exact hb x hx
          · rw [List.mem_singleton.mp hx]
            exact ⟨c0, c1⟩
    · rintro H1 ⟨rs, b1, hh1, hD, hlen, hb⟩
      refine .inl ⟨D, _, rfl, SqL.of hD, fun t nt => ?_⟩
      exact q _ _ rs (b1.trans (But.new nt)) (hh1.new nt) ⟨t, rfl, SqT.of upd_same, hlen, hb⟩
end
end NG

namespace NG
open PySem PySem.Spec PyProof.Rows L2
def spDoubterN (K : PySem.W.Frag) (m : Nat) : Sp := fun vs H Q _ => ∃ (a : Addr) (many l n : Nat) (j : Bool), vs = [.ref a, .int (many : Int), .int (l : Int), .bl j] ∧ True ∧ l < m ∧ l ≤ 5 ∧ 1 ≤ many ∧ many ≤ 3 ∧ HandAt H a n ∧ n ≤ 999990000 ∧
  ∀ H' v D, But a H H' → HandAt H' a (n + 3 * cost l + 300) → DbAt K H' D v → DbN many l D → Q v H'
section
variable {P : Program} {w : World} {K : PySem.W.Frag} {mg : Str → Option Value} {base : Heap}
theorem ok_stake {f : Addr} {fd : FuncData} (F : Fun K "_law_stake" "_law_stake" s_L_stake f fd) (gF : mg "_law_stake" = some (.ref f)) (b : Binds K fd ["_law_hand_here", "_law_many", "_law_level", "_law_jumps"] []) (B : Bl mg) (c_L_take : Cal P w K mg base 1 "_law_take" spTake) (c_L_of : Cal P w K mg base 2 "_law_of" (spOf K)) {m : Nat} (c_L_expression : Cal P w K mg base (m + 4) "_law_expression" (spExprB K m)) : Cal P w K mg base (m + 5) "_law_stake" (spStakeB K m) := by
  refine ⟨f, fd, _, F.ok sc_L_stake (fun vs H Q E h => ?_) (fun cdv A outer s H vs Q E hr h => ?_), gF, F.kp, b⟩
  · obtain ⟨_, _, _, _, _, rfl, _⟩ := h
    rfl
  · obtain ⟨a, many, l, n, j, rfl, hj, hl, hm1, hm2, hh, hn, q⟩ := h
    refine ⟨_, (pss_cons (ps_set (i := 4) sc_L_stake.nd rfl (.inl rfl) (pe_c c_L_of hr (by omega) (by rfl) (pa_cons (pv 0) (pa_cons (pe_lst (pa_cons pe_int (pa_cons pe_int (pa_cons pe_int (pa_cons pe_int (pa_cons (pe_op op_add pe_int (pe_c c_L_take hr (by omega) (by rfl) (pa_cons (pv 0) (pa_cons pe_int pa_nil)))) pa_nil)))))) pa_nil)))) (pss_cons (ps_if (pt_cmpR op_eq (pe_c c_L_take hr (by omega) (by rfl) (pa_cons (pv 0) (pa_cons pe_int pa_nil))) pe_int (nomark _)) (pss_one (ps_ret (pe_tup (pa_cons pe_str (pa_cons (pe_c c_L_of hr (by omega) (by rfl) (pa_cons (pv 0) (pa_cons (pe_lst (pa_cons pe_int (pa_cons pe_int (pa_cons (pv 4) (pa_cons (pe_un un_neg (pv 4)) pa_nil))))) pa_nil))) pa_nil))))) pss_nil) (pss_cons (ps_set (i := 5) sc_L_stake.nd rfl (.inl rfl) (pe_tup (pa_cons pe_str (pa_cons (pe_tup (pa_cons pe_str (pa_cons (pe_un un_neg (pv 4)) pa_nil))) (pa_cons (pe_c c_L_expression hr (by omega) (by rfl) (pa_cons (pv 0) (pa_cons (pv 1) (pa_cons (pv 2) (pa_cons (pv 3) pa_nil))))) pa_nil))))) (pss_one (ps_ret (pe_tup (pa_cons pe_str (pa_cons (pe_tup (pa_cons pe_str (pa_cons (pv 4) pa_nil))) (pa_cons (pv 5) pa_nil))))))))), ?_⟩
    have two_le : 2 ≤ sizeLine := by decide
    have three_le : 3 ≤ sizeLine := by decide
    have hcl := cost_ge l
    refine ⟨.ref a, rfl, .ref a, rfl, a, 500, n, rfl, by decide, by decide, hh, by omega, fun H1 r b1 hh1 r0 r1 => ⟨1, r, rfl, rfl, (by show 5 ≤ sizeLine; decide), fun p1 n1 => ?_⟩⟩
    have ne1 := hh1.ne n1
    refine ⟨a, p1, _, n + 1, rfl, ne1.symm, upd_same, (by show 0 < 5; decide), (by show 5 ≤ 1000; decide), hh1.new n1, by omega, fun H2 v b2 hh2 hv => ?_⟩
    have key : ∃ c : Int, v = .int c ∧ 1 ≤ c ∧ c ≤ 500 := by
      have hv : v ∈ ([.int 500, .int 125, .int 50, .int 1, .int (1 + r)] : List V) := hv
      simp only [List.mem_cons, List.not_mem_nil, or_false] at hv
      rcases hv with rfl | rfl | rfl | rfl | rfl
      all_goals exact ⟨_, rfl, by omega, by omega⟩
    obtain ⟨c, rfl, c0, c1⟩ := key
    have b02 := (b1.trans (But.new n1)).trans b2
    refine ⟨.ref a, rfl, a, 4, _, rfl, by decide, by decide, hh2, by omega, fun H3 z b3 hh3 z0 z1 => ⟨rfl, _, rfl, iteD (fun cz => ?_) (fun cz => ?_)⟩⟩
    · refine ⟨.ref a, rfl, .int c, rfl, .int c, rfl, c, rfl, (by show 4 ≤ sizeLine; decide), fun p2 n2 => ?_⟩
      have ne2 := hh3.ne n2
      refine ⟨a, p2, _, _, rfl, ne2.symm, upd_same, (by show 0 < 4; decide), (by show 4 ≤ 1000; decide), hh3.new n2, by omega, fun H4 v b4 hh4 hv => ⟨two_le, fun p3 n3 => ?_⟩⟩
      have key : ∃ c : Int, v = .int c ∧ -500 ≤ c ∧ c ≤ 500 := by
        have hv : v ∈ ([.int 0, .int 0, .int c, .int (-c)] : List V) := hv
        simp only [List.mem_cons, List.not_mem_nil, or_false] at hv
        rcases hv with rfl | rfl | rfl | rfl
        all_goals exact ⟨_, rfl, by omega, by omega⟩
      obtain ⟨x, rfl, x0, x1⟩ := key
      exact q _ _ (.fig x) ((((b02.trans b3).trans (But.new n2)).trans b4).trans (But.new n3)) ((hh4.new n3).le (by omega)) ⟨p3, rfl, SqT.of upd_same⟩ ⟨by omega, by omega⟩ (by show 1 ≤ l + 3; omega) (.inl ⟨x, rfl, x0, x1⟩)
    · refine ⟨.int c, rfl, c, rfl, two_le, fun p4 n4 => ?_⟩
      have hh4 := hh3.new (o := .tup [.str "fig", .int (-c)]) n4
      have h4 : (upd H3 p4 (.tup [.str "fig", .int (-c)])) p4 = some (.tup [.str "fig", .int (-c)]) := upd_same
      have b4 := (b02.trans b3).trans (But.new (o := .tup [.str "fig", .int (-c)]) n4)
      generalize upd H3 p4 (.tup [.str "fig", .int (-c)]) = H4 at hh4 h4 b4
      refine ⟨.ref a, rfl, .int (many : Int), rfl, .int (l : Int), rfl, .bl j, rfl, a, many, l, _, j, rfl, hj, hl, hm1, hm2, hh4, by omega, fun H5 v e b5 hh5 he ho hd => ⟨three_le, fun p5 n5 => ?_⟩⟩
      have h5 : ExAt K H5 (.fig (-c)) (.ref p4) := ⟨p4, rfl, b5.sq hh4 (SqT.of h4)⟩
      have hh6 := hh5.new (o := .tup [.str "most", .ref p4, v]) n5
      have hi6 : ExAt K (upd H5 p5 (.tup [.str "most", .ref p4, v])) (.two .most (.fig (-c)) e) (.ref p5) := ⟨p5, .ref p4, v, rfl, SqT.of upd_same, h5.new n5, he.new n5⟩
      have b6 := (b4.trans b5).trans (But.new (o := .tup [.str "most", .ref p4, v]) n5)
      generalize upd H5 p5 (.tup [.str "most", .ref p4, v]) = H6 at hh6 hi6 b6
      refine ⟨.int c, rfl, two_le, fun p7 n7 => ⟨.ref p5, rfl, three_le, fun p8 n8 => ?_⟩⟩
      have hh7 := hh6.new (o := .tup [.str "fig", .int c]) n7
      have h7 : ExAt K (upd H6 p7 (.tup [.str "fig", .int c])) (.fig c) (.ref p7) := ⟨p7, rfl, SqT.of upd_same⟩
      have hi7 := hi6.new (o := .tup [.str "fig", .int c]) n7
      refine q _ _ (.two .least (.fig c) (.two .most (.fig (-c)) e)) ((b6.trans (But.new n7)).trans (But.new n8)) ((hh7.new n8).le (by omega)) ⟨p8, .ref p7, .ref p5, rfl, SqT.of upd_same, h7.new n8, hi7.new n8⟩ ⟨⟨by omega, by omega⟩, ⟨by omega, by omega⟩, ho⟩ ?_ (.inr ⟨c, e, rfl, c0, c1, ho, hd⟩)
      show max 1 (max 1 e.dep + 1) + 1 ≤ l + 3
      omega
theorem ok_deeds {f : Addr} {fd : FuncData} (F : Fun K "_law_deeds" "_law_deeds" s_L_deeds f fd) (gF : mg "_law_deeds" = some (.ref f)) (b : Binds K fd ["_law_hand_here", "_law_many", "_law_deep"] []) (B : Bl mg) (c_L_take : Cal P w K mg base 1 "_law_take" spTake) (c_L_of : Cal P w K mg base 2 "_law_of" (spOf K)) (c_L_figure : Cal P w K mg base 3 "_law_figure" spFigure) : ∀ n, Cal P w K mg base (n + 4) "_law_deeds" (spDeeds K n) := by
  intro n
  induction n with
  | zero =>
    refine cal_never F gF b fun vs H Q E h => ?_
    obtain ⟨_, _, l, _, _, hl, _⟩ := h
    omega
  | succ m c_L_deeds =>
  refine ⟨f, fd, _, F.ok sc_L_deeds (fun vs H Q E h => ?_) (fun cdv A outer s H vs Q E hr h => ?_), gF, F.kp, b⟩
  · obtain ⟨_, _, _, _, rfl, _⟩ := h
    rfl
  · obtain ⟨a, many, l, n, rfl, hl, hl3, hm1, hm2, hh, hn, q⟩ := h
    refine ⟨_, (pss_cons (ps_set (i := 3) sc_L_deeds.nd rfl (.inl rfl) (pe_lst pa_nil)) (pss_cons (ps_for PassesOwn.never rfl (pi_range1 rfl B.range (pa_cons (pe_c c_L_take hr (by omega) (by rfl) (pa_cons (pv 0) (pa_cons pe_int pa_nil))) pa_nil)) (pg_name (i := 4) sc_L_deeds.nd rfl (.inl rfl)) (pss_cons (ps_par (i := 5) (j := 6) rfl sc_L_deeds.nd rfl rfl (by decide) rfl rfl (pa_cons (pe_c c_L_take hr (by omega) (by rfl) (pa_cons (pv 0) (pa_cons pe_int pa_nil))) (pa_cons (pe_c c_L_of hr (by omega) (by rfl) (pa_cons (pv 0) (pa_cons (pe_lst (pa_cons pe_str (pa_cons pe_str (pa_cons pe_str (pa_cons pe_str (pa_cons pe_str (pa_cons pe_str pa_nil))))))) pa_nil))) pa_nil)) (by rfl)) (pss_one (ps_if (pt_cmpR op_in_seq (pv 6) (pe_tup (pa_cons pe_str (pa_cons pe_str pa_nil))) (by rfl)) (pss_one (ps_expr (pe_bm PySem.F.plainAttrs_list PySem.F.slot_list_append PySem.F.type_list_append mt_append (pv 3) (pa_cons (pe_tup (pa_cons (pv 6) (pa_cons (pv 5) (pa_cons (pe_c c_L_figure hr (by omega) (by rfl) (pa_cons (pv 0) pa_nil)) pa_nil)))) pa_nil)))) (pss_one (ps_if (pt_cmpR op_in_seq (pv 6) (pe_tup (pa_cons pe_str (pa_cons pe_str pa_nil))) (by rfl)) (pss_one (ps_expr (pe_bm PySem.F.plainAttrs_list PySem.F.slot_list_append PySem.F.type_list_append mt_append (pv 3) (pa_cons (pe_tup (pa_cons (pv 6) (pa_cons (pv 5) (pa_cons (pe_c c_L_take hr (by omega) (by rfl) (pa_cons (pv 0) (pa_cons pe_int pa_nil))) pa_nil)))) pa_nil)))) (pss_one (ps_expr (pe_bm PySem.F.plainAttrs_list PySem.F.slot_list_append PySem.F.type_list_append mt_append (pv 3) (pa_cons (pe_tup (pa_cons (pv 6) (pa_cons (pv 5) (pa_cons (pe_c c_L_take hr (by omega) (by rfl) (pa_cons (pv 0) (pa_cons (pv 1) pa_nil))) pa_nil)))) pa_nil)))))))))) (C8.pss_cut (ps_if (PW.pt (pw_and (pt_cmpR op_gt (pv 2) pe_int (nomark _)) (pw_and1 (pt_cmpR op_eq (pe_c c_L_take hr (by omega) (by rfl) (pa_cons (pv 0) (pa_cons pe_int pa_nil))) pe_int (nomark _))))) (pss_cons (ps_setLc (i := 7) (own := [("_law_turn", 4)]) rfl sc_L_deeds.nd rfl rfl (sw_true rfl rfl rfl (by decide +kernel)) (pi_range1 rfl B.range (pa_cons pe_int pa_nil)) (blkOk_by (N := N_L_deeds) (sc := defScope s_L_deeds) (by decide +kernel)) (fun _ _ _ _ _ => pg_name (i := 4) sc_L_deeds.nd rfl (.inl rfl)) (fun _ _ _ _ _ => pts_nil) (fun _ _ _ _ _ => pe_c c_L_deeds hr (by omega) (by rfl) (pa_cons (pv 0) (pa_cons (pv 1) (pa_cons (pe_op op_sub (pv 2) pe_int) pa_nil))))) (pss_one (ps_expr (pe_bm PySem.F.plainAttrs_list PySem.F.slot_list_append PySem.F.type_list_append mt_append (pv 3) (pa_cons (pe_tup (pa_cons pe_str (pa_cons (pe_c c_L_take hr (by omega) (by rfl) (pa_cons (pv 0) (pa_cons pe_int pa_nil))) (pa_cons (pe_c c_L_figure hr (by omega) (by rfl) (pa_cons (pv 0) pa_nil)) (pa_cons (pe_ix ix_list (pv 7) pe_int (fun _ _ => rfl)) (pa_cons (pe_ix ix_list (pv 7) pe_int (fun _ _ => rfl)) pa_nil)))))) pa_nil))))) pss_nil) (pss_one (ps_ret (pe_tupleOf (by rfl) B.tuple (pv 3))))))), ?_⟩
    have two_le : 2 ≤ sizeLine := by decide
    have three_le : 3 ≤ sizeLine := by decide
    have hBg := dB_ge l
    have hCg := dC_ge l
    have hCl : dC l ≤ 52 := by
      have : l = 0 ∨ l = 1 ∨ l = 2 ∨ l = 3 := by omega
      rcases this with rfl | rfl | rfl | rfl <;> decide
    refine ⟨(by show 0 ≤ sizeLine; decide), fun g ng => ?_⟩
    have hga := hh.ne ng
    refine ⟨.ref a, rfl, a, 4, n, rfl, by decide, by decide, hh.new ng, by omega, fun H0 t0 b0 hh0 t00 t01 => ⟨t0, rfl, by omega, by omega, ?_⟩⟩
    have hg0 := b0 _ _ hga (upd_same (o := .lst []))
    have bb0 : But a H H0 := (But.new ng).trans b0
    refine for_range (n := t0.toNat) (fun i σ H' => ∃ y4 y5 y6 us d, σ = [some (.ref a), some (.int (many : Int)), some (.int (l : Int)), some (.ref g), y4, y5, y6, none] ∧ But a H H' ∧ HandAt H' a (n + 1 + 5 * i) ∧ H' g = some (.lst us) ∧ DsAt K H' d us ∧ DsOk many d ∧ d.dep ≤ 1 ∧ d.cnt ≤ i) ⟨none, none, none, [], .nil, rfl, bb0, hh0, hg0, rfl, trivial, by decide, Nat.le_refl _⟩ ?_ ?_
    · rintro i σ H1 hi ⟨y4, y5, y6, us, d, rfl, b1, hh1, hg1, hd1, ho1, hdp, hdc⟩
      have hi3 : i < 3 := by omega
      have hul : us.length ≤ 3 := by
        have h1 := hd1.len
        have h2 := d.len_le
        omega
      refine ⟨.ref a, rfl, a, 4, _, rfl, by decide, by decide, hh1, by omega, fun H2 r b2 hh2 r0 r1 => ⟨.ref a, rfl, (by show 6 ≤ sizeLine; decide), fun p1 n1 => ?_⟩⟩
      have ne1 := hh2.ne n1
      refine ⟨a, p1, _, _, rfl, ne1.symm, upd_same, (by show 0 < 6; decide), (by show 6 ≤ 1000; decide), hh2.new n1, by omega, fun H3 v b3 hh3 hv => ⟨_, _, rfl, ?_⟩⟩
      have key : ∃ dw : D5, v = .str (dn dw) := by
        have hv : v ∈ ([.str "put", .str "add", .str "copy", .str "plus", .str "told", .str "add"] : List V) := hv
        simp only [List.mem_cons, List.not_mem_nil, or_false] at hv
        rcases hv with rfl | rfl | rfl | rfl | rfl | rfl
        · exact ⟨.put, rfl⟩
        · exact ⟨.add, rfl⟩
        · exact ⟨.copy, rfl⟩
        · exact ⟨.plus, rfl⟩
        · exact ⟨.told, rfl⟩
        · exact ⟨.add, rfl⟩
      obtain ⟨dw, rfl⟩ := key
      have b13 : But a H1 H3 := (b2.trans (But.new n1)).trans b3
      obtain ⟨r, rfl⟩ : ∃ r' : Nat, r = (r' : Int) := ⟨r.toNat, by omega⟩
      have fin : ∀ (x : Int) (Hx : Hp) (k : Nat), But a H1 Hx → HandAt Hx a k → k ≤ n + 1 + 5 * (i + 1) → xok many dw x → ∀ t, Hx t = none →
          ∃ xs, (upd Hx t (.tup [.str (dn dw), .int (r : Int), .int x])) g = some (.lst xs) ∧ xs.length < sizeLine ∧ ∃ y4 y5 y6 us d, ([some (.ref a), some (.int (many : Int)), some (.int (l : Int)), some (.ref g), some (.int (0 + (i : Int))), some (.int (r : Int)), some (.str (dn dw)), none] : L2.St) = [some (.ref a), some (.int (many : Int)), some (.int (l : Int)), some (.ref g), y4, y5, y6, none] ∧ But a H (upd (upd Hx t (.tup [.str (dn dw), .int (r : Int), .int x])) g (.lst (xs ++ [.ref t]))) ∧ HandAt (upd (upd Hx t (.tup [.str (dn dw), .int (r : Int), .int x])) g (.lst (xs ++ [.ref t]))) a (n + 1 + 5 * (i + 1)) ∧ (upd (upd Hx t (.tup [.str (dn dw), .int (r : Int), .int x])) g (.lst (xs ++ [.ref t]))) g = some (.lst us) ∧ DsAt K (upd (upd Hx t (.tup [.str (dn dw), .int (r : Int), .int x])) g (.lst (xs ++ [.ref t]))) d us ∧ DsOk many d ∧ d.dep ≤ 1 ∧ d.cnt ≤ i + 1 := by
        intro x Hx k bx hx hk ok t nt
        have hgx := bx _ _ hga hg1
        have smt := same_new (o := .tup [.str (dn dw), .int (r : Int), .int x]) nt
        have htt : (upd Hx t (.tup [.str (dn dw), .int (r : Int), .int x])) t = some (.tup [.str (dn dw), .int (r : Int), .int x]) := upd_same
        have hht := hx.new (o := .tup [.str (dn dw), .int (r : Int), .int x]) nt
        have hgt := smt _ _ hgx
        have hdt := (hd1.imp fun _ _ q => bx.sq hh1 q).same smt
        have bt := b1.trans (bx.trans (But.of smt))
        clear smt
        generalize upd Hx t (.tup [.str (dn dw), .int (r : Int), .int x]) = Ht at htt hht hgt hdt bt
        refine ⟨us, hgt, small1000 (by omega), _, _, _, us ++ [.ref t], d.app (.op dw r x .nil), rfl, fun b' o nb eb => ?_, (hht.put hga).le hk, upd_same, ?_, ho1.app ⟨by omega, ok, trivial⟩, ?_, ?_⟩
        · rw [upd_ne (ne_of_none eb ng)]
          exact bt _ _ nb eb
        · exact (DsAt.app (e := .op dw r x .nil) (ws := [.ref t]) hdt ⟨t, [], rfl, SqT.of htt, rfl⟩).imp fun _ _ q => put_sqt hgt q
        · rw [Ds.dep_app]
          show max d.dep (max 1 0) ≤ 1
          omega
        · rw [Ds.cnt_app]
          show d.cnt + (1 + 0) ≤ i + 1
          omega
      have tails : ∀ (x : Int) (Hx : Hp) (k : Nat), But a H1 Hx → HandAt Hx a k → k ≤ n + 1 + 5 * (i + 1) → xok many dw x → ∀ t, Hx t = none → _ := fin
      have hg3 := b13 _ _ hga hg1
      have go2 : ∀ (tq : Addr) (nq : H3 tq = none) (o : HO), But a H1 (upd H3 tq o) ∧ HandAt (upd H3 tq o) a (n + 1 + 5 * i + 1 + 1) ∧ (upd H3 tq o) g = some (.lst us) := fun tq nq o => ⟨b13.trans (But.new nq), hh3.new nq, (same_new nq) _ _ hg3⟩
      cases dw with
      | put =>
        refine ⟨_, rfl, two_le, fun t1 nt1 => ⟨t1, _, rfl, .inr (SqT.of upd_same), rfl, rfl, _, rfl, iteTT rfl ?_⟩⟩
        obtain ⟨bq, hq, gq⟩ := go2 t1 nt1 (.tup [.str "put", .str "add"])
        refine ⟨.ref g, rfl, .inl ⟨rfl, _, SqL.of gq⟩, _, rfl, .int (r : Int), rfl, .ref a, rfl, a, _, rfl, hq, by omega, fun H5 x b5 hh5 x0 x1 => ⟨three_le, fun t nt => ?_⟩⟩
        obtain ⟨xs, e1, e2, e3⟩ := fin x H5 _ (bq.trans b5) hh5 (by omega) ⟨x0, x1⟩ t nt
        exact ⟨g, xs, _, rfl, rfl, e1, e2, e3⟩
      | add =>
        refine ⟨_, rfl, two_le, fun t1 nt1 => ⟨t1, _, rfl, .inr (SqT.of upd_same), rfl, rfl, _, rfl, iteTT rfl ?_⟩⟩
        obtain ⟨bq, hq, gq⟩ := go2 t1 nt1 (.tup [.str "put", .str "add"])
        refine ⟨.ref g, rfl, .inl ⟨rfl, _, SqL.of gq⟩, _, rfl, .int (r : Int), rfl, .ref a, rfl, a, _, rfl, hq, by omega, fun H5 x b5 hh5 x0 x1 => ⟨three_le, fun t nt => ?_⟩⟩
        obtain ⟨xs, e1, e2, e3⟩ := fin x H5 _ (bq.trans b5) hh5 (by omega) ⟨x0, x1⟩ t nt
        exact ⟨g, xs, _, rfl, rfl, e1, e2, e3⟩
      | copy =>
        refine ⟨_, rfl, two_le, fun t1 nt1 => ⟨t1, _, rfl, .inr (SqT.of upd_same), rfl, rfl, _, rfl, iteFF rfl ?_⟩⟩
        obtain ⟨bq, hq, gq⟩ := go2 t1 nt1 (.tup [.str "put", .str "add"])
        refine ⟨_, rfl, two_le, fun t2 nt2 => ⟨t2, _, rfl, .inr (SqT.of upd_same), rfl, rfl, _, rfl, iteTT rfl ?_⟩⟩
        have gq2 := (same_new (o := .tup [.str "copy", .str "plus"]) nt2) _ _ gq
        refine ⟨.ref g, rfl, .inl ⟨rfl, _, SqL.of gq2⟩, _, rfl, .int (r : Int), rfl, .ref a, rfl, a, 4, _, rfl, by decide, by decide, hq.new nt2, by omega, fun H5 x b5 hh5 x0 x1 => ⟨three_le, fun t nt => ?_⟩⟩
        obtain ⟨xs, e1, e2, e3⟩ := fin x H5 _ ((bq.trans (But.new nt2)).trans b5) hh5 (by omega) ⟨x0, x1⟩ t nt
        exact ⟨g, xs, _, rfl, rfl, e1, e2, e3⟩
      | plus =>
        refine ⟨_, rfl, two_le, fun t1 nt1 => ⟨t1, _, rfl, .inr (SqT.of upd_same), rfl, rfl, _, rfl, iteFF rfl ?_⟩⟩
        obtain ⟨bq, hq, gq⟩ := go2 t1 nt1 (.tup [.str "put", .str "add"])
        refine ⟨_, rfl, two_le, fun t2 nt2 => ⟨t2, _, rfl, .inr (SqT.of upd_same), rfl, rfl, _, rfl, iteTT rfl ?_⟩⟩
        have gq2 := (same_new (o := .tup [.str "copy", .str "plus"]) nt2) _ _ gq
        refine ⟨.ref g, rfl, .inl ⟨rfl, _, SqL.of gq2⟩, _, rfl, .int (r : Int), rfl, .ref a, rfl, a, 4, _, rfl, by decide, by decide, hq.new nt2, by omega, fun H5 x b5 hh5 x0 x1 => ⟨three_le, fun t nt => ?_⟩⟩
        obtain ⟨xs, e1, e2, e3⟩ := fin x H5 _ ((bq.trans (But.new nt2)).trans b5) hh5 (by omega) ⟨x0, x1⟩ t nt
        exact ⟨g, xs, _, rfl, rfl, e1, e2, e3⟩
      | told =>
        refine ⟨_, rfl, two_le, fun t1 nt1 => ⟨t1, _, rfl, .inr (SqT.of upd_same), rfl, rfl, _, rfl, iteFF rfl ?_⟩⟩
        obtain ⟨bq, hq, gq⟩ := go2 t1 nt1 (.tup [.str "put", .str "add"])
        refine ⟨_, rfl, two_le, fun t2 nt2 => ⟨t2, _, rfl, .inr (SqT.of upd_same), rfl, rfl, _, rfl, iteFF rfl ?_⟩⟩
        have gq2 := (same_new (o := .tup [.str "copy", .str "plus"]) nt2) _ _ gq
        refine ⟨.ref g, rfl, .inl ⟨rfl, _, SqL.of gq2⟩, _, rfl, .int (r : Int), rfl, .ref a, rfl, .int (many : Int), rfl, a, many, _, rfl, by omega, by omega, hq.new nt2, by omega, fun H5 x b5 hh5 x0 x1 => ⟨three_le, fun t nt => ?_⟩⟩
        obtain ⟨xs, e1, e2, e3⟩ := fin x H5 _ ((bq.trans (But.new nt2)).trans b5) hh5 (by omega) ⟨x0, x1⟩ t nt
        exact ⟨g, xs, _, rfl, rfl, e1, e2, e3⟩
    · rintro σ H1 ⟨y4, y5, y6, us, d, rfl, b1, hh1, hg1, hd1, ho1, hdp, hdc⟩
      have hh1 : HandAt H1 a (n + 16) := hh1.le (by omega)
      have hdc : d.cnt ≤ 3 := by omega
      have hul : us.length ≤ 3 := by
        have h1 := hd1.len
        have h2 := d.len_le
        omega
      refine ⟨fun σ H' => ∃ y4 y5 y6 y7 us d, σ = [some (.ref a), some (.int (many : Int)), some (.int (l : Int)), some (.ref g), y4, y5, y6, y7] ∧ But a H H' ∧ HandAt H' a (n + dB l) ∧ H' g = some (.lst us) ∧ DsAt K H' d us ∧ DsOk many d ∧ d.dep ≤ l + 1 ∧ d.cnt ≤ dC l, ?_, ?_⟩
      · refine ⟨.int (l : Int), rfl, _, _, rfl, rfl, _, rfl, iteD (fun c => ?_) (fun c => ?_)⟩
        · obtain ⟨l', rfl⟩ : ∃ l', l = l' + 1 := ⟨l - 1, by omega⟩
          have eB : dB (l' + 1) = 2 * dB l' + 30 := rfl
          have eC : dC (l' + 1) = 2 * dC l' + 4 := rfl
          refine ⟨.ref a, rfl, a, 3, _, rfl, by decide, by decide, hh1, by omega, fun H2 z b2 hh2 z0 z1 => ⟨rfl, _, rfl, iteD (fun cz => ?_) (fun cz => ?_)⟩⟩
          · have hg2 := b2 _ _ hga hg1
            refine ⟨2, rfl, by decide, by decide, fun D nD => lc_range (n := (2 : Int).toNat) (fun j H' => ∃ ws ds, But a H2 H' ∧ HandAt H' a (n + 17 + dB l' * j) ∧ H' D = some (.lst ws) ∧ BhAt K H' ws ds ∧ ds.length = j ∧ ∀ d ∈ ds, DsOk many d ∧ d.dep ≤ l' + 1 ∧ d.cnt ≤ dC l') ⟨[], [], But.new nD, hh2.new nD, upd_same, trivial, rfl, fun x h => by cases h⟩ ?_ ?_⟩
            · rintro j H5 hj ⟨ws, ds, b5, hh5, hD, hbh, hel, hes⟩
              have hj : j < 2 := hj
              have hDa : D ≠ a := hh2.ne nD
              have elev : V.int (((l' + 1 : Nat) : Int) - 1) = V.int (l' : Int) := by
                congr 1
                omega
              have hjb : dB l' * j + dB l' ≤ 2 * dB l' := by
                have : j = 0 ∨ j = 1 := by omega
                rcases this with rfl | rfl <;> omega
              refine ⟨rfl, tYes_in ?_⟩
              refine ⟨.ref a, rfl, .int (many : Int), rfl, .int ((l' + 1 : Nat) : Int), rfl, _, 1, rfl, rfl, a, many, l', _, (by show [V.ref a, V.int (many : Int), V.int (((l' + 1 : Nat) : Int) - 1)] = _; rw [elev]), by omega, by omega, hm1, hm2, hh5, by omega, fun H6 p xs d b6 hh6 hp hd ho hdp hdc => ?_⟩
              have hD6 := b6 _ _ hDa hD
              have hwl := hbh.len
              refine ⟨ws, hD6, small1000 (by omega), ws ++ [.ref p], ds ++ [d], fun b' o nb eb => ?_, (hh6.le (by rw [Nat.mul_add]; omega)).put hDa, upd_same, BhAt.snoc (put_sqt hD6 hp) (hd.imp fun _ _ q => put_sqt hD6 q) ((hbh.imp fun _ _ q => b6.sq hh5 q).imp fun _ _ q => put_sqt hD6 q), by rw [List.length_append, hel]; rfl, fun e' he' => ?_⟩
              · rw [upd_ne (ne_of_none eb nD)]
                exact b6 _ _ nb (b5 _ _ nb eb)
              · rcases List.mem_append.mp he' with h | h
                · exact hes _ h
                · rw [List.mem_singleton.mp h]
                  exact ⟨ho, hdp, hdc⟩
            · rintro H5 ⟨ws, ds, b5, hh5, hD, hbh, hel, hes⟩
              have hel : ds.length = 2 := hel
              match ds, hel, hbh, hes with
              | [d1, d2], _, hbh, hes =>
              obtain ⟨w1, w2, rfl⟩ : ∃ w1 w2, ws = [w1, w2] := by
                have := hbh.len
                match ws, this with
                | [w1, w2], _ => exact ⟨w1, w2, rfl⟩
              obtain ⟨⟨p1, x1, rfl, q1, e1⟩, ⟨p2, x2, rfl, q2, e2⟩, _⟩ := hbh
              obtain ⟨k1, k2, k3⟩ := hes d1 (by simp)
              obtain ⟨m1, m2, m3⟩ := hes d2 (by simp)
              have hDa : D ≠ a := hh2.ne nD
              have hg5 := b5 _ _ hga hg2
              have hh5 : HandAt H5 a (n + 17 + dB l' * 2) := hh5
              refine ⟨.ref g, rfl, .inl ⟨rfl, _, SqL.of hg5⟩, .ref a, rfl, a, 4, _, rfl, by decide, by decide, hh5, by omega, fun H6 r b6 hh6 r0 r1 => ⟨.ref a, rfl, a, _, rfl, hh6, by omega, fun H7 x b7 hh7 x0 x1' => ?_⟩⟩
              have b57 := b6.trans b7
              have hD7 := b57 _ _ hDa hD
              refine ⟨.ref D, rfl, D, _, 0, _, rfl, rfl, SqL.of hD7, rfl, .ref D, rfl, D, _, 1, _, rfl, rfl, SqL.of hD7, rfl, (by show 5 ≤ sizeLine; decide), fun t nt => ?_⟩
              obtain ⟨r, rfl⟩ : ∃ r' : Nat, r = (r' : Int) := ⟨r.toNat, by omega⟩
              have smt := same_new (o := .tup [.str "when", .int (r : Int), .int x, .ref p1, .ref p2]) nt
              have htt : (upd H7 t (.tup [.str "when", .int (r : Int), .int x, .ref p1, .ref p2])) t = some (.tup [.str "when", .int (r : Int), .int x, .ref p1, .ref p2]) := upd_same
              have hht := hh7.new (o := .tup [.str "when", .int (r : Int), .int x, .ref p1, .ref p2]) nt
              have sq : ∀ p xs, SqT K H5 p xs → SqT K (upd H7 t (.tup [.str "when", .int (r : Int), .int x, .ref p1, .ref p2])) p xs := fun _ _ h => same_sqt smt (b7.sq hh6 (b6.sq hh5 h))
              have sq1 : ∀ p xs, SqT K H1 p xs → SqT K (upd H7 t (.tup [.str "when", .int (r : Int), .int x, .ref p1, .ref p2])) p xs := fun _ _ h => sq _ _ (b5.sq hh2 (b2.sq hh1 h))
              have hgt := smt _ _ (b57 _ _ hga hg5)
              have bt := ((b1.trans b2).trans (b5.trans b57)).trans (But.of smt)
              have new : DsAt K (upd H7 t (.tup [.str "when", .int (r : Int), .int x, .ref p1, .ref p2])) (.when r x d1 d2 .nil) [.ref t] := ⟨t, p1, p2, x1, x2, [], rfl, SqT.of htt, sq _ _ q1, e1.imp sq, sq _ _ q2, e2.imp sq, rfl⟩
              have hdt := DsAt.app (hd1.imp sq1) new
              clear new sq sq1 smt htt
              generalize upd H7 t (.tup [.str "when", .int (r : Int), .int x, .ref p1, .ref p2]) = Ht at hht hgt bt hdt
              refine ⟨g, us, _, rfl, rfl, hgt, small1000 (by omega), _, _, _, _, us ++ [.ref t], d.app (.when r x d1 d2 .nil), rfl, fun b' o nb eb => ?_, (hht.put hga).le (by omega), upd_same, hdt.imp fun _ _ q => put_sqt hgt q, ho1.app ⟨by omega, ⟨x0, x1'⟩, k1, m1, trivial⟩, ?_, ?_⟩
              · rw [upd_ne (ne_of_none eb ng)]
                exact bt _ _ nb eb
              · rw [Ds.dep_app]
                show max d.dep (max (max d1.dep d2.dep + 1) 0) ≤ l' + 1 + 1
                omega
              · rw [Ds.cnt_app]
                show d.cnt + (1 + (d1.cnt + d2.cnt) + 0) ≤ _
                omega
          · exact ⟨_, _, _, _, us, d, rfl, b1.trans b2, hh2.le (by omega), b2 _ _ hga hg1, hd1.imp fun _ _ q => b2.sq hh1 q, ho1, by omega, by omega⟩
        · exact ⟨_, _, _, _, us, d, rfl, b1, hh1.le (by omega), hg1, hd1, ho1, by omega, by omega⟩
      · rintro σ H2 ⟨y4, y5, y6, y7, us, d, rfl, b2, hh2, hg2, hd2, ho2, hdp2, hdc2⟩
        refine ⟨.ref g, rfl, .inl ⟨g, us, rfl, SqL.of hg2, fun t nt => ?_⟩⟩
        exact q _ t us d (b2.trans (But.new nt)) (hh2.new nt) (SqT.of upd_same) (hd2.same (same_new nt)) ho2 hdp2 hdc2
theorem ok_doubter {f : Addr} {fd : FuncData} (F : Fun K "_law_doubter" "_law_doubter" s_L_doubter f fd) (gF : mg "_law_doubter" = some (.ref f)) (b : Binds K fd ["_law_hand_here", "_law_many", "_law_level", "_law_jumps"] []) (B : Bl mg) (c_L_take : Cal P w K mg base 1 "_law_take" spTake) (c_L_name : Cal P w K mg base 3 "_law_name" (spLName K)) (c_L_registers : Cal P w K mg base 4 "_law_registers" (spRegs K)) {m : Nat} (c_L_stake : Cal P w K mg base (m + 5) "_law_stake" (spStakeB K m)) (c_L_deeds : Cal P w K mg base 6 "_law_deeds" (spDeeds K 2)) : Cal P w K mg base (m + 7) "_law_doubter" (spDoubterN K m) := by
  refine ⟨f, fd, _, F.ok sc_L_doubter (fun vs H Q E h => ?_) (fun cdv A outer s H vs Q E hr h => ?_), gF, F.kp, b⟩
  · obtain ⟨_, _, _, _, _, rfl, _⟩ := h
    rfl
  · obtain ⟨a, many, l, n, j, rfl, hj, hl, hl5, hm1, hm2, hh, hn, q⟩ := h
    refine ⟨_, (pss_cons (ps_par (i := 4) (j := 5) rfl sc_L_doubter.nd rfl rfl (by decide) rfl rfl (pa_cons (pe_c c_L_name hr (by omega) (by rfl) (pa_cons (pv 0) pa_nil)) (pa_cons (pe_c c_L_take hr (by omega) (by rfl) (pa_cons (pv 0) (pa_cons pe_int pa_nil))) pa_nil)) (by rfl)) (pss_cons (ps_set (i := 6) sc_L_doubter.nd rfl (.inl rfl) (pe_tupleOf (by rfl) B.tuple (pe_lc (own := [("_law_mark", 7)]) rfl sc_L_doubter.nd (pi_range1 rfl B.range (pa_cons (pv 1) pa_nil)) (blkOk_by (N := N_L_doubter) (sc := defScope s_L_doubter) (by decide +kernel)) (fun _ _ _ _ _ => pg_name (i := 7) sc_L_doubter.nd rfl (.inl rfl)) (fun _ _ _ _ _ => pts_nil) (fun _ _ _ _ _ => pe_c c_L_stake hr (by omega) (by rfl) (pa_cons (pv 0) (pa_cons (pv 1) (pa_cons (pv 2) (pa_cons (pv 3) pa_nil)))))))) (pss_cons (ps_set (i := 8) sc_L_doubter.nd rfl (.inl rfl) (pe_tupleOf (by rfl) B.tuple (pe_lc (own := [("_law_mark", 7)]) rfl sc_L_doubter.nd (pi_range1 rfl B.range (pa_cons (pv 1) pa_nil)) (blkOk_by (N := N_L_doubter) (sc := defScope s_L_doubter) (by decide +kernel)) (fun _ _ _ _ _ => pg_name (i := 7) sc_L_doubter.nd rfl (.inl rfl)) (fun _ _ _ _ _ => pts_nil) (fun _ _ _ _ _ => pe_c c_L_deeds hr (by omega) (by rfl) (pa_cons (pv 0) (pa_cons (pv 1) (pa_cons pe_int pa_nil))))))) (pss_one (ps_ret (pe_tup (pa_cons (pv 4) (pa_cons (pv 5) (pa_cons (pe_c c_L_registers hr (by omega) (by rfl) (pa_cons (pv 0) pa_nil)) (pa_cons (pv 6) (pa_cons (pv 8) pa_nil))))))))))), ?_⟩
    have hcl : cost l ≤ 900 := by
      have : l = 0 ∨ l = 1 ∨ l = 2 ∨ l = 3 ∨ l = 4 ∨ l = 5 := by omega
      rcases this with rfl | rfl | rfl | rfl | rfl | rfl <;> decide
    refine ⟨.ref a, rfl, a, n, rfl, hh, by omega, fun H1 nm b1 hh1 hz hzc hzs => ?_⟩
    refine ⟨.ref a, rfl, a, 5, _, rfl, by decide, by decide, hh1, by omega, fun H2 sc b2 hh2 s0 s1 => ⟨_, _, rfl, ?_⟩⟩
    obtain ⟨sc, rfl⟩ : ∃ r' : Nat, sc = (r' : Int) := ⟨sc.toNat, by omega⟩
    have b02 : But a H H2 := b1.trans b2
    refine ⟨.int (many : Int), rfl, _, rfl, by omega, by omega, fun D nD => lc_range (n := ((many : Int)).toNat) (fun i H' => ∃ us es, But a H2 H' ∧ HandAt H' a (n + 13 + (cost l + 3) * i) ∧ H' D = some (.lst us) ∧ RowsAt K H' us es ∧ es.length = i ∧ ∀ e ∈ es, (ExOk many e ∧ e.dep ≤ l + 3) ∧ StOk many l e) ⟨[], [], But.new nD, hh2.new nD, upd_same, trivial, rfl, fun x h => by cases h⟩ ?_ ?_⟩
    · rintro i H5 hi ⟨us, es, b5, hh5, hD, hrow, hel, hes⟩
      have hi : i < 3 := by omega
      have hDa : D ≠ a := hh2.ne nD
      have hib : (cost l + 3) * i ≤ 903 * 2 := Nat.mul_le_mul (by omega) (by omega)
      refine ⟨rfl, tYes_in ?_⟩
      refine ⟨.ref a, rfl, .int (many : Int), rfl, .int (l : Int), rfl, .bl j, rfl, a, many, l, _, j, rfl, hj, hl, hm1, by omega, hh5, by omega, fun H6 v e b6 hh6 he ho hd hst => ?_⟩
      have hD6 := b6 _ _ hDa hD
      have hwl := hrow.len
      refine ⟨us, hD6, small1000 (by omega), us ++ [v], es ++ [e], fun b' o nb eb => ?_, (hh6.le (by rw [Nat.mul_add]; omega)).put hDa, upd_same, RowsAt.snoc (he.imp fun _ _ q => put_sqt hD6 q) ((hrow.imp fun _ _ q => b6.sq hh5 q).imp fun _ _ q => put_sqt hD6 q), by rw [List.length_append, hel]; rfl, fun e' he' => ?_⟩
      · rw [upd_ne (ne_of_none eb nD)]
        exact b6 _ _ nb (b5 _ _ nb eb)
      · rcases List.mem_append.mp he' with h | h
        · exact hes _ h
        · rw [List.mem_singleton.mp h]
          exact ⟨⟨ho, hd⟩, hst⟩
    · rintro H5 ⟨us, es, b5, hh5, hD, hrow, hel, hes⟩
      have hel : es.length = many := by omega
      have hib : (cost l + 3) * ((many : Int)).toNat ≤ (cost l + 3) * 3 := Nat.mul_le_mul_left _ (by omega)
      have hh5 : HandAt H5 a (n + 22 + 3 * cost l) := hh5.le (by omega)
      refine .inl ⟨D, us, rfl, SqL.of hD, fun T nT => ?_⟩
      have smT := same_new (o := .tup us) nT
      have hT : (upd H5 T (.tup us)) T = some (.tup us) := upd_same
      have hhT := hh5.new (o := .tup us) nT
      have hrT := hrow.same smT
      have bT := (b02.trans b5).trans (But.of smT)
      clear smT
      generalize upd H5 T (.tup us) = H6 at hT hhT hrT bT
      refine ⟨.int (many : Int), rfl, _, rfl, by omega, by omega, fun D2 nD2 => lc_range (n := ((many : Int)).toNat) (fun i H' => ∃ ws ds, But a H6 H' ∧ HandAt H' a (n + 22 + 3 * cost l + 70 * i) ∧ H' D2 = some (.lst ws) ∧ BhAt K H' ws ds ∧ ds.length = i ∧ ∀ d ∈ ds, DsOk many d ∧ d.dep ≤ 2 ∧ d.cnt ≤ 10) ⟨[], [], But.new nD2, hhT.new nD2, upd_same, trivial, rfl, fun x h => by cases h⟩ ?_ ?_⟩
      · rintro i H7 hi ⟨ws, ds, b7, hh7, hD7, hbh, hdl, hds⟩
        have hi : i < 3 := by omega
        have hDa : D2 ≠ a := hhT.ne nD2
        refine ⟨rfl, tYes_in ?_⟩
        refine ⟨.ref a, rfl, .int (many : Int), rfl, a, many, 1, _, rfl, by decide, by decide, hm1, by omega, hh7, (by show _ + 70 ≤ _; omega), fun H8 p xs d b8 hh8 hp hd ho hdp hdc => ?_⟩
        have hD8 := b8 _ _ hDa hD7
        have hwl := hbh.len
        refine ⟨ws, hD8, small1000 (by omega), ws ++ [.ref p], ds ++ [d], fun b' o nb eb => ?_, (hh8.le (by show _ + 70 ≤ _; omega)).put hDa, upd_same, BhAt.snoc (put_sqt hD8 hp) (hd.imp fun _ _ q => put_sqt hD8 q) ((hbh.imp fun _ _ q => b8.sq hh7 q).imp fun _ _ q => put_sqt hD8 q), by rw [List.length_append, hdl]; rfl, fun e' he' => ?_⟩
        · rw [upd_ne (ne_of_none eb nD2)]
          exact b8 _ _ nb (b7 _ _ nb eb)
        · rcases List.mem_append.mp he' with h | h
          · exact hds _ h
          · rw [List.mem_singleton.mp h]
            exact ⟨ho, hdp, hdc⟩
      · rintro H7 ⟨ws, ds, b7, hh7, hD7, hbh, hdl, hds⟩
        have hdl : ds.length = many := by omega
        have hh7 : HandAt H7 a (n + 232 + 3 * cost l) := hh7.le (by omega)
        refine .inl ⟨D2, ws, rfl, SqL.of hD7, fun T2 nT2 => ?_⟩
        have smT2 := same_new (o := .tup ws) nT2
        have hT2 : (upd H7 T2 (.tup ws)) T2 = some (.tup ws) := upd_same
        have hhT2 := hh7.new (o := .tup ws) nT2
        have hbT2 := hbh.same smT2
        have bT2 := b7.trans (But.of smT2)
        clear smT2
        generalize upd H7 T2 (.tup ws) = H8 at hT2 hhT2 hbT2 bT2
        refine ⟨_, rfl, _, rfl, .ref a, rfl, a, _, rfl, hhT2, by omega, fun H9 v rs b9 hh9 hR => ⟨.ref T, rfl, .ref T2, rfl, (by show 5 ≤ sizeLine; decide), fun t nt => ?_⟩⟩
        have s10 := same_new (o := .tup [.str nm, .int (sc : Int), v, .ref T, .ref T2]) nt
        have sq69 : ∀ p xs, SqT K H6 p xs → SqT K (upd H9 t (.tup [.str nm, .int (sc : Int), v, .ref T, .ref T2])) p xs := fun _ _ h => same_sqt s10 (b9.sq hhT2 (bT2.sq hhT h))
        have sq89 : ∀ p xs, SqT K H8 p xs → SqT K (upd H9 t (.tup [.str nm, .int (sc : Int), v, .ref T, .ref T2])) p xs := fun _ _ h => same_sqt s10 (b9.sq hhT2 h)
        refine q _ _ ⟨nm, sc, rs, es, ds⟩ (((bT.trans bT2).trans b9).trans (But.of s10)) ((hh9.new nt).le (by omega)) ⟨t, v, T, T2, us, ws, rfl, SqT.of upd_same, hR.same s10, sq69 _ _ (SqT.of hT), hrT.imp sq69, sq89 _ _ (SqT.of hT2), hbT2.imp sq89⟩ ⟨hz, hzc, hzs, ⟨.inl rfl, by show sc < 5; omega, hR.ok, hel, fun e he => (hes e he).1, hdl, hds⟩, fun e he => (hes e he).2⟩
end
end NG

namespace NG
open PySem PySem.Spec PyProof.Rows L2
def moF (x : List Int × Mk) : Int := match x.2 with
  | .one o => o.motes
  | .house _ _ => 0
theorem mo_sum : ∀ {xs : List (List Int × Mk)}, (∀ x ∈ xs, isOne x = true) → (xs.map moF).sum = ((xs.filterMap toOne).map (·.motes)).sum
  | [], _ => rfl
  | (p, .one o) :: r, h => by
    rw [List.filterMap_cons_some (b := o) (by rfl), List.map_cons, List.map_cons, List.sum_cons, List.sum_cons, mo_sum fun x hx => h x (List.mem_cons_of_mem _ hx)]
    rfl
  | (p, .house nm m) :: r, h => by
    have := h (p, .house nm m) (by simp)
    cases this
theorem motes_eq (m : Ms) : ((onesI m).map moF).sum = motesI m := by
  rw [mo_sum (xs := onesI m) fun x hx => (List.mem_filter.mp hx).2]
  unfold onesI motesI
  rw [ao_std]
theorem one_room {us : List V} {acc : List (List Int × Mk)} {K : PySem.W.Frag} {H : Hp} {m : Ms} {i : Nat} (hpr : PrsAt K H us acc) (hal : acc.length + (m.drop i).cnt = m.cnt) (hc : m.cnt ≤ 100000) : us.length ≤ 100000 := by
  rw [hpr.len]
  omega
section
variable {P : Program} {w : World} {K : PySem.W.Frag} {mg : Str → Option Value} {base : Heap}
theorem ok_stands {f : Addr} {fd : FuncData} (F : Fun K "stands" "stands" s_stands f fd) (gF : mg "stands" = some (.ref f)) (b : Binds K fd ["members", "path"] []) (B : Bl mg) : ∀ n, Cal P w K mg base (n + 1) "stands" (spStands8 K n) := by
  intro n
  induction n with
  | zero =>
    refine cal_never F gF b fun vs H Q E h => ?_
    obtain ⟨_, _, _, _, _, _, _, _, hd, _⟩ := h
    omega
  | succ n c_stands =>
  refine ⟨f, fd, _, F.ok sc_stands (fun vs H Q E h => ?_) (fun cdv A outer s H vs Q E hr h => ?_), gF, F.kp, b⟩
  · obtain ⟨_, _, _, _, _, rfl, _⟩ := h
    rfl
  · obtain ⟨p, q, xs, m, path, rfl, hp, hm, hdp, hc, hq, hpl, qq⟩ := h
    refine ⟨_, (pss_cons (ps_set (i := 2) sc_stands.nd rfl (.inl rfl) (pe_lst pa_nil)) (pss_cons (ps_for PassesOwn.never rfl (pi_enumT (by rfl) B.enumerate (pa_cons (pv 0) pa_nil)) (pg_tup rfl (pgs_cons (pg_name (i := 3) sc_stands.nd rfl (.inl rfl)) (pgs_cons (pg_name (i := 4) sc_stands.nd rfl (.inl rfl)) pgs_nil))) (pss_cons (ps_set (i := 5) sc_stands.nd rfl (.inl rfl) (pe_op op_catA (pv 1) (pe_tup (pa_cons (pv 3) pa_nil)))) (pss_cons (ps_expr (pe_bm PySem.F.plainAttrs_list PySem.F.slot_list_append PySem.F.type_list_append mt_append (pv 2) (pa_cons (pe_tup (pa_cons (pv 5) (pa_cons (pv 4) pa_nil))) pa_nil))) (pss_one (ps_if (pt_cmpR op_eq (pe_ix ix_tup (pv 4) pe_int (fun _ _ => rfl)) pe_str (nomark _)) (pss_one (ps_expr (pe_bm PySem.F.plainAttrs_list PySem.F.slot_list_extend PySem.F.type_list_extend mt_extend (pv 2) (pa_cons (pe_c c_stands hr (by omega) (by rfl) (pa_cons (pe_ix ix_tup (pv 4) pe_int (fun _ _ => rfl)) (pa_cons (pv 5) pa_nil))) pa_nil)))) pss_nil))))) (pss_one (ps_ret (pv 2))))), ?_⟩
    refine ⟨(by show 0 ≤ sizeLine; decide), fun g ng => ?_⟩
    have hxl : xs.length ≤ 100000 := by
      have h1 := hm.len
      have h2 := m.len_le
      omega
    refine ⟨.ref p, rfl, p, xs, rfl, same_sqt (same_new ng) hp, for_it (walk_En (K := K) (ws := xs) rfl) (fun i σ H' => ∃ y3 y4 y5 us, ∃ acc : List (List Int × Mk), σ = [some (.ref p), some (.ref q), some (.ref g), y3, y4, y5] ∧ Same H H' ∧ H' g = some (.lst us) ∧ PrsAt K H' us acc ∧ acc ++ stdI (m.drop i) path (i : Int) = stdI m path 0 ∧ acc.length + (m.drop i).cnt = m.cnt) ⟨none, none, none, [], [], rfl, same_new ng, upd_same, trivial, rfl, by show 0 + m.cnt = m.cnt; omega⟩ (fun i σ H' _ h => ?_) ?_ ?_⟩
    · obtain ⟨_, _, _, _, _, _, sm, _⟩ := h
      exact same_sqt sm hp
    · rintro i x σ H1 H2 hi ⟨y3, y4, y5, us, acc, rfl, sm1, hg1, hpr1, hacc, hal⟩ ⟨T, x0, y, rfl, nT, rfl, hx0, hy⟩
      cases hx0
      have hul := one_room hpr1 hal hc
      have sT := same_new (o := .tup [.int ((i : Nat) : Int), y]) nT
      have hT : (upd H1 T (.tup [.int ((i : Nat) : Int), y])) T = some (.tup [.int ((i : Nat) : Int), y]) := upd_same
      have sm2 := sm1.trans sT
      have hg2 := sT _ _ hg1
      have hpr2 := hpr1.imp fun _ _ h => same_sqt sT h
      clear sT
      generalize upd H1 T (.tup [.int ((i : Nat) : Int), y]) = H2 at hT sm2 hg2 hpr2
      obtain ⟨k, hk, mk⟩ := hm.nth hy
      refine ⟨T, _, rfl, SqT.of hT, rfl, _, _, rfl, _, _, rfl, rfl, ?_⟩
      refine ⟨.ref q, rfl, .int ((i : Nat) : Int), rfl, (by show 1 ≤ sizeLine; decide), fun t1 n1 => ?_⟩
      have s1 := same_new (o := .tup [.int ((i : Nat) : Int)]) n1
      refine catA (same_sqt s1 (same_sqt sm2 hq)) (SqT.of upd_same) (Nat.le_of_lt (small2e5 (by rw [List.length_map]; show _ + 1 ≤ 200005; omega))) fun H3 ph sm3 hph => ?_
      have sm23 := s1.trans sm3
      have hg3 := sm23 _ _ hg2
      have hph : SqT K H3 ph ((path ++ [((i : Nat) : Int)]).map V.int) := by rw [List.map_append]; exact hph
      refine ⟨.ref g, rfl, .inl ⟨rfl, _, SqL.of hg3⟩, .ref ph, rfl, y, rfl, (by show 2 ≤ sizeLine; decide), fun t2 n2 => ?_⟩
      have s4 := same_new (o := .tup [.ref ph, y]) n2
      have hg4 := s4 _ _ hg3
      have sm24 := sm23.trans s4
      have ht2 : (upd H3 t2 (.tup [.ref ph, y])) t2 = some (.tup [.ref ph, y]) := upd_same
      have hph4 := same_sqt s4 hph
      clear s4
      generalize upd H3 t2 (.tup [.ref ph, y]) = H4 at hg4 sm24 ht2 hph4
      refine ⟨g, us, _, rfl, rfl, hg4, small2e5 (by omega), ?_⟩
      have smH4 := sm2.trans sm24
      have mk4 : MkAt K H4 k y := mk.imp fun _ _ h => same_sqt smH4 h
      have pr4 : PrsAt K H4 (us ++ [.ref t2]) (acc ++ [(path ++ [((i : Nat) : Int)], k)]) := PrsAt.app (hpr2.imp fun _ _ h => same_sqt sm24 h) ⟨⟨t2, ph, y, rfl, SqT.of ht2, hph4, mk4⟩, trivial⟩
      have smH5 : Same H (upd H4 g (.lst (us ++ [.ref t2]))) := fun b' o eb => by
        rw [upd_ne (ne_of_none eb ng)]
        exact smH4 _ _ eb
      have hg5 : (upd H4 g (.lst (us ++ [.ref t2]))) g = some (.lst (us ++ [.ref t2])) := upd_same
      have pr5 := pr4.imp fun _ _ h => put_sqt (us' := us ++ [.ref t2]) hg4 h
      have mk5 := mk4.imp fun _ _ h => put_sqt (us' := us ++ [.ref t2]) hg4 h
      have hph5 := put_sqt (us' := us ++ [.ref t2]) hg4 hph4
      clear hg4 hph4 mk4 pr4
      generalize upd H4 g (.lst (us ++ [.ref t2])) = H5 at smH5 hg5 pr5 mk5 hph5
      have est := stdI_step (m.drop i) path (i : Int)
      rw [hk] at est
      cases k with
      | one o =>
        obtain ⟨py, dv, rv, rfl, hpy, _⟩ := mk5
        refine ⟨.ref py, rfl, py, _, 0, _, rfl, rfl, hpy, rfl, rfl, _, rfl, iteFF rfl ?_⟩
        refine ⟨_, _, _, us ++ [.ref t2], acc ++ [(path ++ [((i : Nat) : Int)], .one o)], rfl, smH5, hg5, pr5, ?_, ?_⟩
        · rw [est] at hacc
          rw [List.append_assoc]
          exact hacc
        · rw [List.length_append]
          show acc.length + 1 + (m.drop i).tl.cnt = _
          cases hd : m.drop i with
          | nil => rw [hd] at hk; cases hk
          | one o2 r => rw [hd] at hal; have hal : acc.length + (1 + r.cnt) = m.cnt := hal; show acc.length + 1 + r.cnt = _; omega
          | house nm m2 r => rw [hd] at hk; cases hk
      | house nm m2 =>
        obtain ⟨py, pm, xs2, rfl, hpy, hpm, hm2⟩ := mk5
        obtain ⟨d1, c1⟩ := Ms.hd_house hk
        have d2 := m.dep_drop i
        have c2 := m.cnt_drop i
        refine ⟨.ref py, rfl, py, _, 0, _, rfl, rfl, hpy, rfl, rfl, _, rfl, iteTT rfl ?_⟩
        refine ⟨.ref g, rfl, .inl ⟨rfl, _, SqL.of hg5⟩, .ref py, rfl, py, _, 2, _, rfl, rfl, hpy, rfl, .ref ph, rfl, pm, ph, xs2, m2, path ++ [((i : Nat) : Int)], rfl, hpm, hm2, by omega, by omega, hph5, by rw [List.length_append]; show path.length + 1 + _ ≤ 100; omega, fun H6 l2 us2 sm6 nl2 hl2 hpr6 => ?_⟩
        have hg6 := sm6 _ _ hg5
        have hal2 : acc.length + (1 + m2.cnt + (m.drop i).tl.cnt) = m.cnt := by
          cases hd : m.drop i with
          | nil => rw [hd] at hk; cases hk
          | one o2 r => rw [hd] at hk; cases hk
          | house nm2 m3 r =>
            rw [hd] at hk hal
            cases hk
            exact hal
        have hl6 := hpr6.len
        rw [stdI_len] at hl6
        refine ⟨g, l2, _, _, rfl, rfl, hg6, hl2, Nat.le_of_lt (small2e5 (by rw [List.length_append]; show us.length + 1 + _ ≤ 200005; omega)), ?_⟩
        refine ⟨_, _, _, us ++ [.ref t2] ++ us2, acc ++ [(path ++ [((i : Nat) : Int)], .house nm m2)] ++ stdI m2 (path ++ [((i : Nat) : Int)]) 0, rfl, fun b' o eb => ?_, upd_same, ?_, ?_, ?_⟩
        · rw [upd_ne (ne_of_none eb ng)]
          exact sm6 _ _ (smH5 _ _ eb)
        · exact (PrsAt.app (pr5.imp fun _ _ h => same_sqt sm6 h) hpr6).imp fun _ _ h => put_sqt hg6 h
        · rw [est] at hacc
          rw [List.append_assoc, List.append_assoc]
          exact hacc
        · rw [List.length_append, List.length_append, stdI_len]
          show acc.length + 1 + m2.cnt + (m.drop i).tl.cnt = _
          omega
    · rintro σ H1 ⟨y3, y4, y5, us, acc, rfl, sm1, hg1, hpr1, hacc, hal⟩
      have hend := hm.drop xs.length
      rw [List.drop_length] at hend
      have enil : m.drop xs.length = .nil := by
        cases hd : m.drop xs.length with
        | nil => rfl
        | one o r => rw [hd] at hend; obtain ⟨_, _, z, _⟩ := hend; cases z
        | house nm m2 r => rw [hd] at hend; obtain ⟨_, _, _, _, z, _⟩ := hend; cases z
      rw [enil] at hacc
      have hacc : acc ++ [] = stdI m path 0 := hacc
      rw [List.append_nil] at hacc
      rw [hacc] at hpr1
      exact ⟨.ref g, rfl, qq _ g us sm1 ng hg1 hpr1⟩
end
end NG

namespace NG
open PySem PySem.Spec PyProof.Rows L2
def OnesAt (K : PySem.W.Frag) (H : Hp) : List V → List One → Prop
  | [], [] => True
  | v :: vs, o :: os => OneAt K H o v ∧ OnesAt K H vs os
  | _, _ => False
theorem OnesAt.imp {K : PySem.W.Frag} {H H' : Hp} (h : ∀ p xs, SqT K H p xs → SqT K H' p xs) : ∀ {vs : List V} {os : List One}, OnesAt K H vs os → OnesAt K H' vs os
  | [], [], _ => trivial
  | _ :: _, _ :: _, ⟨x, r⟩ => ⟨x.imp h, OnesAt.imp h r⟩
theorem OnesAt.len {K : PySem.W.Frag} {H : Hp} : ∀ {vs : List V} {os : List One}, OnesAt K H vs os → vs.length = os.length
  | [], [], _ => rfl
  | _ :: _, _ :: _, ⟨_, r⟩ => by rw [List.length_cons, List.length_cons, r.len]
theorem OnesAt.app {K : PySem.W.Frag} {H : Hp} : ∀ {us ws : List V} {xs ys : List One}, OnesAt K H us xs → OnesAt K H ws ys → OnesAt K H (us ++ ws) (xs ++ ys)
  | [], _, [], _, _, y => y
  | _ :: _, _, _ :: _, _, ⟨x, r⟩, y => ⟨x, OnesAt.app r y⟩
theorem OnesAt.get {K : PySem.W.Frag} {H : Hp} : ∀ {us : List V} {xs : List One} {i : Nat} {u : V}, OnesAt K H us xs → us[i]? = some u → ∃ x, xs[i]? = some x ∧ OneAt K H x u
  | [], [], _, _, _, h => by simp at h
  | v :: us, x :: xs, 0, u, ⟨y, r⟩, h => by
    have : v = u := Option.some.inj h
    subst this
    exact ⟨x, rfl, y⟩
  | v :: us, x :: xs, i + 1, u, ⟨y, r⟩, h => OnesAt.get (i := i) r h
def aoH : Option Mk → List One
  | none => []
  | some (.one o) => [o]
  | some (.house _ m) => aoI m
theorem ao_step : ∀ d : Ms, aoI d = aoH d.hd ++ aoI d.tl
  | .nil => rfl
  | .one _ _ => rfl
  | .house _ _ _ => rfl
def spAll (K : PySem.W.Frag) (n : Nat) : Sp := fun vs H Q _ => ∃ (p : Addr) (xs : List V) (m : Ms), vs = [.ref p] ∧ SqT K H p xs ∧ MsAt K H m xs ∧ m.dep < n ∧ m.cnt ≤ 100000 ∧ ∀ H' l us, Same H H' → H l = none → H' l = some (.lst us) → OnesAt K H' us (aoI m) → Q (.ref l) H'
section
variable {P : Program} {w : World} {K : PySem.W.Frag} {mg : Str → Option Value} {base : Heap}
theorem ok_walk {f : Addr} {fd : FuncData} (F : Fun K "_law_walk" "_law_walk" s_L_walk f fd) (gF : mg "_law_walk" = some (.ref f)) (b : Binds K fd ["_law_members", "_law_trail"] []) (B : Bl mg) : ∀ n, Cal P w K mg base (n + 1) "_law_walk" (spStands8 K n) := by
  intro n
  induction n with
  | zero =>
    refine cal_never F gF b fun vs H Q E h => ?_
    obtain ⟨_, _, _, _, _, _, _, _, hd, _⟩ := h
    omega
  | succ n c_L_walk =>
  refine ⟨f, fd, _, F.ok sc_L_walk (fun vs H Q E h => ?_) (fun cdv A outer s H vs Q E hr h => ?_), gF, F.kp, b⟩
  · obtain ⟨_, _, _, _, _, rfl, _⟩ := h
    rfl
  · obtain ⟨p, q, xs, m, path, rfl, hp, hm, hdp, hc, hq, hpl, qq⟩ := h
    refine ⟨_, (pss_cons (ps_set (i := 2) sc_L_walk.nd rfl (.inl rfl) (pe_lst pa_nil)) (pss_cons (ps_for PassesOwn.never rfl (pi_enumT (by rfl) B.enumerate (pa_cons (pv 0) pa_nil)) (pg_tup rfl (pgs_cons (pg_name (i := 3) sc_L_walk.nd rfl (.inl rfl)) (pgs_cons (pg_name (i := 4) sc_L_walk.nd rfl (.inl rfl)) pgs_nil))) (pss_cons (ps_expr (pe_bm PySem.F.plainAttrs_list PySem.F.slot_list_append PySem.F.type_list_append mt_append (pv 2) (pa_cons (pe_tup (pa_cons (pe_op op_catA (pv 1) (pe_tup (pa_cons (pv 3) pa_nil))) (pa_cons (pv 4) pa_nil))) pa_nil))) (pss_one (ps_if (pt_cmpR op_eq (pe_ix ix_tup (pv 4) pe_int (fun _ _ => rfl)) pe_str (nomark _)) (pss_one (ps_expr (pe_bm PySem.F.plainAttrs_list PySem.F.slot_list_extend PySem.F.type_list_extend mt_extend (pv 2) (pa_cons (pe_c c_L_walk hr (by omega) (by rfl) (pa_cons (pe_ix ix_tup (pv 4) pe_int (fun _ _ => rfl)) (pa_cons (pe_op op_catA (pv 1) (pe_tup (pa_cons (pv 3) pa_nil))) pa_nil))) pa_nil)))) pss_nil)))) (pss_one (ps_ret (pv 2))))), ?_⟩
    refine ⟨(by show 0 ≤ sizeLine; decide), fun g ng => ?_⟩
    have hxl : xs.length ≤ 100000 := by
      have h1 := hm.len
      have h2 := m.len_le
      omega
    refine ⟨.ref p, rfl, p, xs, rfl, same_sqt (same_new ng) hp, for_it (walk_En (K := K) (ws := xs) rfl) (fun i σ H' => ∃ y3 y4 us, ∃ acc : List (List Int × Mk), σ = [some (.ref p), some (.ref q), some (.ref g), y3, y4] ∧ Same H H' ∧ H' g = some (.lst us) ∧ PrsAt K H' us acc ∧ acc ++ stdI (m.drop i) path (i : Int) = stdI m path 0 ∧ acc.length + (m.drop i).cnt = m.cnt) ⟨none, none, [], [], rfl, same_new ng, upd_same, trivial, rfl, by show 0 + m.cnt = m.cnt; omega⟩ (fun i σ H' _ h => ?_) ?_ ?_⟩
    · obtain ⟨_, _, _, _, _, sm, _⟩ := h
      exact same_sqt sm hp
    · rintro i x σ H1 H2 hi ⟨y3, y4, us, acc, rfl, sm1, hg1, hpr1, hacc, hal⟩ ⟨T, x0, y, rfl, nT, rfl, hx0, hy⟩
      cases hx0
      have hul := one_room hpr1 hal hc
      have sT := same_new (o := .tup [.int ((i : Nat) : Int), y]) nT
      have hT : (upd H1 T (.tup [.int ((i : Nat) : Int), y])) T = some (.tup [.int ((i : Nat) : Int), y]) := upd_same
      have sm2 := sm1.trans sT
      have hg2 := sT _ _ hg1
      have hpr2 := hpr1.imp fun _ _ h => same_sqt sT h
      clear sT
      generalize upd H1 T (.tup [.int ((i : Nat) : Int), y]) = H2 at hT sm2 hg2 hpr2
      obtain ⟨k, hk, mk⟩ := hm.nth hy
      refine ⟨T, _, rfl, SqT.of hT, rfl, _, _, rfl, _, _, rfl, rfl, ?_⟩
      refine ⟨.ref g, rfl, .inl ⟨rfl, _, SqL.of hg2⟩, .ref q, rfl, .int ((i : Nat) : Int), rfl, (by show 1 ≤ sizeLine; decide), fun t1 n1 => ?_⟩
      have s1 := same_new (o := .tup [.int ((i : Nat) : Int)]) n1
      refine catA (same_sqt s1 (same_sqt sm2 hq)) (SqT.of upd_same) (Nat.le_of_lt (small2e5 (by rw [List.length_map]; show _ + 1 ≤ 200005; omega))) fun H3 ph sm3 hph => ?_
      have sm23 := s1.trans sm3
      have hg3 := sm23 _ _ hg2
      have hph : SqT K H3 ph ((path ++ [((i : Nat) : Int)]).map V.int) := by rw [List.map_append]; exact hph
      refine ⟨y, rfl, (by show 2 ≤ sizeLine; decide), fun t2 n2 => ?_⟩
      have s4 := same_new (o := .tup [.ref ph, y]) n2
      have hg4 := s4 _ _ hg3
      have sm24 := sm23.trans s4
      have ht2 : (upd H3 t2 (.tup [.ref ph, y])) t2 = some (.tup [.ref ph, y]) := upd_same
      have hph4 := same_sqt s4 hph
      clear s4
      generalize upd H3 t2 (.tup [.ref ph, y]) = H4 at hg4 sm24 ht2 hph4
      refine ⟨g, us, _, rfl, rfl, hg4, small2e5 (by omega), ?_⟩
      have smH4 := sm2.trans sm24
      have mk4 : MkAt K H4 k y := mk.imp fun _ _ h => same_sqt smH4 h
      have pr4 : PrsAt K H4 (us ++ [.ref t2]) (acc ++ [(path ++ [((i : Nat) : Int)], k)]) := PrsAt.app (hpr2.imp fun _ _ h => same_sqt sm24 h) ⟨⟨t2, ph, y, rfl, SqT.of ht2, hph4, mk4⟩, trivial⟩
      have smH5 : Same H (upd H4 g (.lst (us ++ [.ref t2]))) := fun b' o eb => by
        rw [upd_ne (ne_of_none eb ng)]
        exact smH4 _ _ eb
      have hg5 : (upd H4 g (.lst (us ++ [.ref t2]))) g = some (.lst (us ++ [.ref t2])) := upd_same
      have pr5 := pr4.imp fun _ _ h => put_sqt (us' := us ++ [.ref t2]) hg4 h
      have mk5 := mk4.imp fun _ _ h => put_sqt (us' := us ++ [.ref t2]) hg4 h
      have hph5 := put_sqt (us' := us ++ [.ref t2]) hg4 hph4
      clear hg4 hph4 mk4 pr4
      generalize upd H4 g (.lst (us ++ [.ref t2])) = H5 at smH5 hg5 pr5 mk5 hph5
      have est := stdI_step (m.drop i) path (i : Int)
      rw [hk] at est
      cases k with
      | one o =>
        obtain ⟨py, dv, rv, rfl, hpy, _⟩ := mk5
        refine ⟨.ref py, rfl, py, _, 0, _, rfl, rfl, hpy, rfl, rfl, _, rfl, iteFF rfl ?_⟩
        refine ⟨_, _, us ++ [.ref t2], acc ++ [(path ++ [((i : Nat) : Int)], .one o)], rfl, smH5, hg5, pr5, ?_, ?_⟩
        · rw [est] at hacc
          rw [List.append_assoc]
          exact hacc
        · rw [List.length_append]
          show acc.length + 1 + (m.drop i).tl.cnt = _
          cases hd : m.drop i with
          | nil => rw [hd] at hk; cases hk
          | one o2 r => rw [hd] at hal; have hal : acc.length + (1 + r.cnt) = m.cnt := hal; show acc.length + 1 + r.cnt = _; omega
          | house nm m2 r => rw [hd] at hk; cases hk
      | house nm m2 =>
        obtain ⟨py, pm, xs2, rfl, hpy, hpm, hm2⟩ := mk5
        obtain ⟨d1, c1⟩ := Ms.hd_house hk
        have d2 := m.dep_drop i
        have c2 := m.cnt_drop i
        refine ⟨.ref py, rfl, py, _, 0, _, rfl, rfl, hpy, rfl, rfl, _, rfl, iteTT rfl ?_⟩
        refine ⟨.ref g, rfl, .inl ⟨rfl, _, SqL.of hg5⟩, .ref py, rfl, py, _, 2, _, rfl, rfl, hpy, rfl, .ref q, rfl, .int ((i : Nat) : Int), rfl, (by show 1 ≤ sizeLine; decide), fun t7 n7 => ?_⟩
        have s7 := same_new (o := .tup [.int ((i : Nat) : Int)]) n7
        refine catA (same_sqt s7 (same_sqt smH5 hq)) (SqT.of upd_same) (Nat.le_of_lt (small2e5 (by rw [List.length_map]; show _ + 1 ≤ 200005; omega))) fun H8 ph8 sm8 hph8 => ?_
        have hph8 : SqT K H8 ph8 ((path ++ [((i : Nat) : Int)]).map V.int) := by rw [List.map_append]; exact hph8
        have sm58 := s7.trans sm8
        refine ⟨pm, ph8, xs2, m2, path ++ [((i : Nat) : Int)], rfl, same_sqt sm58 hpm, hm2.same sm58, by omega, by omega, hph8, by rw [List.length_append]; show path.length + 1 + _ ≤ 100; omega, fun H6 l2 us2 sm6' nl2 hl2 hpr6 => ?_⟩
        have sm6 := sm58.trans sm6'
        have hg6 := sm6 _ _ hg5
        have hal2 : acc.length + (1 + m2.cnt + (m.drop i).tl.cnt) = m.cnt := by
          cases hd : m.drop i with
          | nil => rw [hd] at hk; cases hk
          | one o2 r => rw [hd] at hk; cases hk
          | house nm2 m3 r =>
            rw [hd] at hk hal
            cases hk
            exact hal
        have hl6 := hpr6.len
        rw [stdI_len] at hl6
        refine ⟨g, l2, _, _, rfl, rfl, hg6, hl2, Nat.le_of_lt (small2e5 (by rw [List.length_append]; show us.length + 1 + _ ≤ 200005; omega)), ?_⟩
        refine ⟨_, _, us ++ [.ref t2] ++ us2, acc ++ [(path ++ [((i : Nat) : Int)], .house nm m2)] ++ stdI m2 (path ++ [((i : Nat) : Int)]) 0, rfl, fun b' o eb => ?_, upd_same, ?_, ?_, ?_⟩
        · rw [upd_ne (ne_of_none eb ng)]
          exact sm6 _ _ (smH5 _ _ eb)
        · exact (PrsAt.app (pr5.imp fun _ _ h => same_sqt sm6 h) hpr6).imp fun _ _ h => put_sqt hg6 h
        · rw [est] at hacc
          rw [List.append_assoc, List.append_assoc]
          exact hacc
        · rw [List.length_append, List.length_append, stdI_len]
          show acc.length + 1 + m2.cnt + (m.drop i).tl.cnt = _
          omega
    · rintro σ H1 ⟨y3, y4, us, acc, rfl, sm1, hg1, hpr1, hacc, hal⟩
      have hend := hm.drop xs.length
      rw [List.drop_length] at hend
      have enil : m.drop xs.length = .nil := by
        cases hd : m.drop xs.length with
        | nil => rfl
        | one o r => rw [hd] at hend; obtain ⟨_, _, z, _⟩ := hend; cases z
        | house nm m2 r => rw [hd] at hend; obtain ⟨_, _, _, _, z, _⟩ := hend; cases z
      rw [enil] at hacc
      have hacc : acc ++ [] = stdI m path 0 := hacc
      rw [List.append_nil] at hacc
      rw [hacc] at hpr1
      exact ⟨.ref g, rfl, qq _ g us sm1 ng hg1 hpr1⟩
theorem ok_allones {f : Addr} {fd : FuncData} (F : Fun K "_law_all_ones" "_law_all_ones" s_L_all_ones f fd) (gF : mg "_law_all_ones" = some (.ref f)) (b : Binds K fd ["_law_members"] []) (B : Bl mg) : ∀ n, Cal P w K mg base (n + 1) "_law_all_ones" (spAll K n) := by
  intro n
  induction n with
  | zero =>
    refine cal_never F gF b fun vs H Q E h => ?_
    obtain ⟨_, _, _, _, _, _, hd, _⟩ := h
    omega
  | succ n c_L_all_ones =>
  refine ⟨f, fd, _, F.ok sc_L_all_ones (fun vs H Q E h => ?_) (fun cdv A outer s H vs Q E hr h => ?_), gF, F.kp, b⟩
  · obtain ⟨_, _, _, rfl, _⟩ := h
    rfl
  · obtain ⟨p, xs, m, rfl, hp, hm, hdp, hc, qq⟩ := h
    refine ⟨_, (pss_cons (ps_set (i := 1) sc_L_all_ones.nd rfl (.inl rfl) (pe_lst pa_nil)) (pss_cons (ps_for PassesOwn.never rfl (pi_tup (pv 0)) (pg_name (i := 2) sc_L_all_ones.nd rfl (.inl rfl)) (pss_one (ps_expr (pe_bm PySem.F.plainAttrs_list PySem.F.slot_list_extend PySem.F.type_list_extend mt_extend (pv 1) (pa_cons (pe_cut (pe_ifExp (pt_cmpR op_eq (pe_ix ix_tup (pv 2) pe_int (fun _ _ => rfl)) pe_str (nomark _)) (pe_lst (pa_cons (pv 2) pa_nil)) (pe_c c_L_all_ones hr (by omega) (by rfl) (pa_cons (pe_ix ix_tup (pv 2) pe_int (fun _ _ => rfl)) pa_nil)))) pa_nil))))) (pss_one (ps_ret (pv 1))))), ?_⟩
    refine ⟨(by show 0 ≤ sizeLine; decide), fun g ng => ?_⟩
    refine ⟨.ref p, rfl, p, rfl, ⟨_, same_sqt (same_new ng) hp⟩, for_tup (xs := xs) (fun i σ H' => ∃ y2 us, ∃ acc : List One, σ = [some (.ref p), some (.ref g), y2] ∧ Same H H' ∧ H' g = some (.lst us) ∧ OnesAt K H' us acc ∧ acc ++ aoI (m.drop i) = aoI m ∧ acc.length + (m.drop i).cnt ≤ m.cnt) ⟨none, [], [], rfl, same_new ng, upd_same, trivial, rfl, by show 0 + m.cnt ≤ m.cnt; omega⟩ (fun i σ H' _ h => ?_) ?_ ?_⟩
    · obtain ⟨_, _, _, _, sm, _⟩ := h
      exact same_sqt sm hp
    · rintro i y σ H1 hy ⟨y2, us, acc, rfl, sm1, hg1, hpr1, hacc, hal⟩
      obtain ⟨k, hk, mk⟩ := hm.nth hy
      have mk1 := mk.imp fun _ _ h => same_sqt sm1 h
      have est := ao_step (m.drop i)
      rw [hk] at est
      have hul : us.length ≤ 100000 := by rw [hpr1.len]; omega
      refine ⟨.ref g, rfl, .inl ⟨rfl, _, SqL.of hg1⟩, fun v H' => ∃ l us2, v = .ref l ∧ H' l = some (.lst us2) ∧ Same H1 H' ∧ OnesAt K H' us2 (aoH (some k)) ∧ (aoH (some k)).length + (m.drop i).tl.cnt ≤ (m.drop i).cnt, ?_, ?_⟩
      · cases k with
        | one o =>
          obtain ⟨py, dv, rv, rfl, hpy, hdv, hrv⟩ := mk1
          refine ⟨.ref py, rfl, py, _, 0, _, rfl, rfl, hpy, rfl, rfl, _, rfl, iteTT rfl ⟨.ref py, rfl, (by show 1 ≤ sizeLine; decide), fun l nl => ?_⟩⟩
          have sl := same_new (o := .lst [.ref py]) nl
          refine ⟨l, [.ref py], rfl, upd_same, sl, ⟨OneAt.imp ⟨py, dv, rv, rfl, hpy, hdv, hrv⟩ fun _ _ h => same_sqt sl h, trivial⟩, ?_⟩
          cases hd : m.drop i with
          | nil => rw [hd] at hk; cases hk
          | one o2 r => show 1 + r.cnt ≤ 1 + r.cnt; omega
          | house nm m2 r => rw [hd] at hk; cases hk
        | house nm m2 =>
          obtain ⟨py, pm, xs2, rfl, hpy, hpm, hm2⟩ := mk1
          obtain ⟨d1, c1⟩ := Ms.hd_house hk
          have d2 := m.dep_drop i
          have c2 := m.cnt_drop i
          refine ⟨.ref py, rfl, py, _, 0, _, rfl, rfl, hpy, rfl, rfl, _, rfl, iteFF rfl ⟨.ref py, rfl, py, _, 2, _, rfl, rfl, hpy, rfl, pm, xs2, m2, rfl, hpm, hm2, by omega, by omega, fun H' l us2 sm' nl hl hos => ?_⟩⟩
          refine ⟨l, us2, rfl, hl, sm', hos, ?_⟩
          have a1 := ao_len m2
          cases hd : m.drop i with
          | nil => rw [hd] at hk; cases hk
          | one o2 r => rw [hd] at hk; cases hk
          | house nm3 m3 r =>
            rw [hd] at hk
            cases hk
            show (aoI m2).length + r.cnt ≤ 1 + m2.cnt + r.cnt
            omega
      · rintro v H2 ⟨l, us2, rfl, hl, sm2, hos, hlen⟩
        have hg2 := sm2 _ _ hg1
        have hl2 := hos.len
        have hcd := m.cnt_drop i
        refine ⟨g, l, _, _, rfl, rfl, hg2, hl, Nat.le_of_lt (small2e5 (by omega)), ?_⟩
        refine ⟨_, us ++ us2, acc ++ aoH (some k), rfl, fun b' o eb => ?_, upd_same, (OnesAt.app (hpr1.imp fun _ _ h => same_sqt sm2 h) hos).imp fun _ _ h => put_sqt hg2 h, ?_, ?_⟩
        · rw [upd_ne (ne_of_none eb ng)]
          exact sm2 _ _ (sm1 _ _ eb)
        · rw [est] at hacc
          rw [List.append_assoc]
          exact hacc
        · rw [List.length_append]
          show acc.length + _ + (m.drop i).tl.cnt ≤ _
          omega
    · rintro σ H1 ⟨y2, us, acc, rfl, sm1, hg1, hpr1, hacc, hal⟩
      have hend := hm.drop xs.length
      rw [List.drop_length] at hend
      have enil : m.drop xs.length = .nil := by
        cases hd : m.drop xs.length with
        | nil => rfl
        | one o r => rw [hd] at hend; obtain ⟨_, _, z, _⟩ := hend; cases z
        | house nm m2 r => rw [hd] at hend; obtain ⟨_, _, _, _, z, _⟩ := hend; cases z
      rw [enil] at hacc
      have hacc : acc ++ [] = aoI m := hacc
      rw [List.append_nil] at hacc
      rw [hacc] at hpr1
      exact ⟨.ref g, rfl, qq _ g us sm1 ng hg1 hpr1⟩
end
end NG

namespace NG
open PySem PySem.Spec PyProof.Rows L2
def spOneN (K : PySem.W.Frag) : Sp := fun vs H Q _ => ∃ (a : Addr) (dv : V) (D : Dbt) (n : Nat), vs = [.ref a, dv] ∧ HandAt H a n ∧ n ≤ 999990000 ∧ DbAt K H D dv ∧
  ∀ H' v o, But a H H' → HandAt H' a (n + 30) → OneAt K H' o v → o.dbt = D → OneR o → Q v H'
section
variable {P : Program} {w : World} {K : PySem.W.Frag} {mg : Str → Option Value} {base : Heap}
theorem ok_one {f : Addr} {fd : FuncData} (F : Fun K "_law_one" "_law_one" s_L_one f fd) (gF : mg "_law_one" = some (.ref f)) (b : Binds K fd ["_law_hand_here", "_law_doubter_here"] []) (B : Bl mg) (c_L_take : Cal P w K mg base 1 "_law_take" spTake) (c_L_of : Cal P w K mg base 2 "_law_of" (spOf K)) (c_L_registers : Cal P w K mg base 4 "_law_registers" (spRegs K)) : Cal P w K mg base 5 "_law_one" (spOneN K) := by
  refine ⟨f, fd, _, F.ok sc_L_one (fun vs H Q E h => ?_) (fun cdv A outer s H vs Q E hr h => ?_), gF, F.kp, b⟩
  · obtain ⟨_, _, _, _, rfl, _⟩ := h
    rfl
  · obtain ⟨a, dv, D, n, rfl, hh, hn, hD, q⟩ := h
    refine ⟨_, (pss_cons (ps_set (i := 2) sc_L_one.nd rfl (.inl rfl) (pe_c c_L_of hr (by omega) (by rfl) (pa_cons (pv 0) (pa_cons (pe_lst (pa_cons pe_int (pa_cons pe_int (pa_cons pe_int (pa_cons pe_int (pa_cons (pe_op op_pow pe_int pe_int) (pa_cons (pe_op op_add pe_int (pe_c c_L_take hr (by omega) (by rfl) (pa_cons (pv 0) (pa_cons (pe_op op_pow pe_int pe_int) pa_nil)))) pa_nil))))))) pa_nil)))) (pss_cons (ps_set (i := 3) sc_L_one.nd rfl (.inl rfl) (pe_c c_L_of hr (by omega) (by rfl) (pa_cons (pv 0) (pa_cons (pe_lst (pa_cons (pv 2) (pa_cons pe_int (pa_cons pe_int (pa_cons pe_int (pa_cons (pe_op op_mul pe_int (pv 2)) (pa_cons (pe_c c_L_take hr (by omega) (by rfl) (pa_cons (pv 0) (pa_cons (pe_op op_pow pe_int pe_int) pa_nil))) pa_nil))))))) pa_nil)))) (pss_cons (ps_par (i := 4) (j := 5) rfl sc_L_one.nd rfl rfl (by decide) rfl rfl (pa_cons (pe_c c_L_of hr (by omega) (by rfl) (pa_cons (pv 0) (pa_cons (pe_lst (pa_cons pe_int (pa_cons pe_int (pa_cons (pe_c c_L_take hr (by omega) (by rfl) (pa_cons (pv 0) (pa_cons pe_int pa_nil))) pa_nil)))) pa_nil))) (pa_cons (pe_c c_L_take hr (by omega) (by rfl) (pa_cons (pv 0) (pa_cons pe_int pa_nil))) pa_nil)) (by rfl)) (pss_cons (ps_set (i := 6) sc_L_one.nd rfl (.inl rfl) (pe_c c_L_of hr (by omega) (by rfl) (pa_cons (pv 0) (pa_cons (pe_lst (pa_cons pe_int (pa_cons (pe_un un_neg pe_int) (pa_cons (pe_op op_pow pe_int pe_int) (pa_cons (pe_op op_sub (pe_c c_L_take hr (by omega) (by rfl) (pa_cons (pv 0) (pa_cons (pe_op op_pow pe_int pe_int) pa_nil))) (pe_op op_mul pe_int (pe_op op_pow pe_int pe_int))) pa_nil))))) pa_nil)))) (pss_one (ps_ret (pe_tup (pa_cons pe_str (pa_cons (pv 1) (pa_cons (pe_c c_L_registers hr (by omega) (by rfl) (pa_cons (pv 0) pa_nil)) (pa_cons (pv 2) (pa_cons (pv 3) (pa_cons (pv 4) (pa_cons (pv 5) (pa_cons (pv 6) pa_nil))))))))))))))), ?_⟩
    have e6 : (10 : Int) ^ (6 : Int).toNat = 1000000 := by decide
    have e9 : (10 : Int) ^ (9 : Int).toNat = 1000000000 := by decide
    have e10 : (10 : Int) ^ (10 : Int).toNat = 10000000000 := by decide
    have e12 : (10 : Int) ^ (12 : Int).toNat = 1000000000000 := by decide
    refine ⟨.ref a, rfl, 10, 12, rfl, rfl, ⟨by decide, by decide, by decide⟩, .ref a, rfl, 10, 6, rfl, rfl, ⟨by decide, by decide, by decide⟩, a, _, n, rfl, by decide, by decide, hh, by omega, fun H1 r1 b1 hh1 r10 r11 => ⟨1, _, rfl, rfl, (by show 6 ≤ sizeLine; decide), fun l1 n1 => ?_⟩⟩
    rw [e6] at r11
    refine ⟨a, l1, _, _, rfl, (hh1.ne n1).symm, upd_same, (by show 0 < 6; decide), (by show 6 ≤ 1000; decide), hh1.new n1, by omega, fun H2 v2 b2 hh2 hv2 => ?_⟩
    obtain ⟨wt, rfl, wt0, wt1⟩ : ∃ c : Int, v2 = .int c ∧ 1 ≤ c ∧ c ≤ 1000000000000 := by
      have hv2 : v2 ∈ ([.int 1, .int 2, .int 10, .int 1000, .int (10 ^ (12 : Int).toNat), .int (1 + r1)] : List V) := hv2
      rw [e12] at hv2
      simp only [List.mem_cons, List.not_mem_nil, or_false] at hv2
      rcases hv2 with rfl | rfl | rfl | rfl | rfl | rfl
      all_goals exact ⟨_, rfl, by omega, by omega⟩
    have b02 := (b1.trans (But.new n1)).trans b2
    refine ⟨.ref a, rfl, .int wt, rfl, .int wt, rfl, 3, wt, rfl, rfl, .inl ⟨by decide, by decide⟩, .ref a, rfl, 10, 12, rfl, rfl, ⟨by decide, by decide, by decide⟩, a, _, _, rfl, by decide, by decide, hh2, by omega, fun H3 r3 b3 hh3 r30 r31 => ⟨(by show 6 ≤ sizeLine; decide), fun l3 n3 => ?_⟩⟩
    rw [e12] at r31
    refine ⟨a, l3, _, _, rfl, (hh3.ne n3).symm, upd_same, (by show 0 < 6; decide), (by show 6 ≤ 1000; decide), hh3.new n3, by omega, fun H4 v4 b4 hh4 hv4 => ?_⟩
    obtain ⟨ps, rfl, ps0, ps1⟩ : ∃ c : Int, v4 = .int c ∧ 0 ≤ c ∧ c ≤ 3000000000000 := by
      have hv4 : v4 ∈ ([.int wt, .int 0, .int 1, .int 7, .int (3 * wt), .int r3] : List V) := hv4
      simp only [List.mem_cons, List.not_mem_nil, or_false] at hv4
      rcases hv4 with rfl | rfl | rfl | rfl | rfl | rfl
      all_goals exact ⟨_, rfl, by omega, by omega⟩
    have b04 := ((b02.trans b3).trans (But.new n3)).trans b4
    refine ⟨.ref a, rfl, .ref a, rfl, a, 99, _, rfl, by decide, by decide, hh4, by omega, fun H5 r5 b5 hh5 r50 r51 => ⟨(by show 3 ≤ sizeLine; decide), fun l5 n5 => ?_⟩⟩
    refine ⟨a, l5, _, _, rfl, (hh5.ne n5).symm, upd_same, (by show 0 < 3; decide), (by show 3 ≤ 1000; decide), hh5.new n5, by omega, fun H6 v6 b6 hh6 hv6 => ?_⟩
    obtain ⟨ow, rfl, ow0, ow1⟩ : ∃ c : Int, v6 = .int c ∧ 0 ≤ c ∧ c ≤ 99 := by
      have hv6 : v6 ∈ ([.int 0, .int 1, .int r5] : List V) := hv6
      simp only [List.mem_cons, List.not_mem_nil, or_false] at hv6
      rcases hv6 with rfl | rfl | rfl
      all_goals exact ⟨_, rfl, by omega, by omega⟩
    have b06 := ((b04.trans b5).trans (But.new n5)).trans b6
    refine ⟨.ref a, rfl, a, 40, _, rfl, by decide, by decide, hh6, by omega, fun H7 ds b7 hh7 ds0 ds1 => ⟨_, _, rfl, ?_⟩⟩
    refine ⟨.ref a, rfl, _, rfl, 10, 9, rfl, rfl, ⟨by decide, by decide, by decide⟩, .ref a, rfl, 10, 10, rfl, rfl, ⟨by decide, by decide, by decide⟩, a, _, _, rfl, by decide, by decide, hh7, by omega, fun H8 r8 b8 hh8 r80 r81 => ⟨10, 9, rfl, rfl, ⟨by decide, by decide, by decide⟩, 5, _, rfl, rfl, .inl ⟨by decide, by decide⟩, _, _, rfl, rfl, (by show 4 ≤ sizeLine; decide), fun l8 n8 => ?_⟩⟩
    rw [e10] at r81
    refine ⟨a, l8, _, _, rfl, (hh8.ne n8).symm, upd_same, (by show 0 < 4; decide), (by show 4 ≤ 1000; decide), hh8.new n8, by omega, fun H9 v9 b9 hh9 hv9 => ?_⟩
    obtain ⟨gt, rfl, gt0, gt1⟩ : ∃ c : Int, v9 = .int c ∧ -5000000000 ≤ c ∧ c ≤ 5000000000 := by
      have hv9 : v9 ∈ ([.int 0, .int (-1), .int (10 ^ (9 : Int).toNat), .int (r8 - 5 * 10 ^ (9 : Int).toNat)] : List V) := hv9
      rw [e9] at hv9
      simp only [List.mem_cons, List.not_mem_nil, or_false] at hv9
      rcases hv9 with rfl | rfl | rfl | rfl
      all_goals exact ⟨_, rfl, by omega, by omega⟩
    have b09 := (((b06.trans b7).trans b8).trans (But.new n8)).trans b9
    have sq09 : ∀ p xs, SqT K H p xs → SqT K H9 p xs := fun _ _ h => b09.sq hh h
    refine ⟨dv, rfl, .ref a, rfl, a, _, rfl, hh9, by omega, fun H10 rv rs b10 hh10 hR => ⟨_, rfl, _, rfl, _, rfl, _, rfl, _, rfl, (by show 8 ≤ sizeLine; decide), fun t nt => ?_⟩⟩
    have st := same_new (o := .tup [.str "one", dv, rv, .int wt, .int ps, .int ow, .int ds, .int gt]) nt
    refine q _ (.ref t) ⟨D, rs, wt, ps, ow, ds, gt⟩ ((b09.trans b10).trans (But.of st)) ((hh10.new nt).le (by omega)) ⟨t, dv, rv, rfl, SqT.of upd_same, ((hD.imp sq09).imp fun _ _ h => b10.sq hh9 h).same st, hR.same st⟩ rfl ⟨hR.ok, ⟨wt0, wt1⟩, ⟨ps0, ps1⟩, ⟨ow0, ow1⟩, ⟨ds0, by show ds ≤ 40; omega⟩, ⟨gt0, gt1⟩⟩
end
end NG

namespace NG
open PySem PySem.Spec PyProof.Rows L2
section
variable {P : Program} {w : World} {K : PySem.W.Frag} {mg : Str → Option Value} {base : Heap}
theorem ok_counted {f : Addr} {fd : FuncData} (F : Fun K "_law_counted" "_law_counted" s_L_counted f fd) (gF : mg "_law_counted" = some (.ref f)) (b : Binds K fd ["_law_expression_here"] []) (B : Bl mg) : ∀ n, Cal P w K mg base (n + 1) "_law_counted" (spLB8 K n) := by
  intro n
  induction n with
  | zero =>
    refine cal_never F gF b fun vs H Q E h => ?_
    obtain ⟨_, e, _, _, _, _, hd, _⟩ := h
    cases e <;> (unfold Ex.dep at hd; omega)
  | succ n c_L_counted =>
  refine ⟨f, fd, _, F.ok sc_L_counted (fun vs H Q E h => ?_) (fun cdv A outer s H vs Q E hr h => ?_), gF, F.kp, b⟩
  · obtain ⟨_, _, _, rfl, _⟩ := h
    rfl
  · obtain ⟨v, e, many, rfl, he, ho, hd, hd6, q⟩ := h
    refine ⟨_, (pss_cons (ps_set (i := 1) sc_L_counted.nd rfl (.inl rfl) (pe_ix ix_tup (pv 0) pe_int (fun _ _ => rfl))) (pss_cons (ps_if (pt_cmpR op_in_seq (pv 1) (pe_tup (pa_cons pe_str (pa_cons pe_str (pa_cons pe_str pa_nil)))) (by rfl)) (pss_one (ps_ret (pe_tup (pa_cons pe_int (pa_cons pe_int pa_nil))))) pss_nil) (pss_cons (ps_if (pt_cmpR op_in_seq (pv 1) (pe_tup (pa_cons pe_str (pa_cons pe_str pa_nil))) (by rfl)) (pss_one (ps_ret (pe_c c_L_counted hr (by omega) (by rfl) (pa_cons (pe_ix ix_tup (pv 0) pe_int (fun _ _ => rfl)) pa_nil)))) pss_nil) (pss_cons (ps_par (i := 2) (j := 3) rfl sc_L_counted.nd rfl rfl (by decide) rfl rfl (pa_cons (pe_c c_L_counted hr (by omega) (by rfl) (pa_cons (pe_ix ix_tup (pv 0) (pe_un un_neg pe_int) (fun _ _ => rfl)) pa_nil)) (pa_cons (pe_c c_L_counted hr (by omega) (by rfl) (pa_cons (pe_ix ix_tup (pv 0) (pe_un un_neg pe_int) (fun _ _ => rfl)) pa_nil)) pa_nil)) (by rfl)) (pss_cons (ps_if (pt_cmpR op_in_seq (pv 1) (pe_tup (pa_cons pe_str (pa_cons pe_str pa_nil))) (by rfl)) (pss_one (ps_ret (pe_tup (pa_cons (pe_op op_mul (pe_ix ix_tup (pv 2) pe_int (fun _ _ => rfl)) (pe_ix ix_tup (pv 3) pe_int (fun _ _ => rfl))) (pa_cons (pe_op op_add (pe_ix ix_tup (pv 2) pe_int (fun _ _ => rfl)) (pe_ix ix_tup (pv 3) pe_int (fun _ _ => rfl))) pa_nil))))) pss_nil) (pss_cons (ps_if (pt_cmpR op_eq (pv 1) pe_str (nomark _)) (pss_one (ps_ret (pe_tup (pa_cons (pe_callB (call_max2 rfl) (by rfl) B.max (by decide +kernel) (pa_cons (pe_ix ix_tup (pv 2) pe_int (fun _ _ => rfl)) (pa_cons (pe_ix ix_tup (pv 3) pe_int (fun _ _ => rfl)) pa_nil))) (pa_cons (pe_callB (call_max2 rfl) (by rfl) B.max (by decide +kernel) (pa_cons (pe_ix ix_tup (pv 2) pe_int (fun _ _ => rfl)) (pa_cons (pe_ix ix_tup (pv 3) pe_int (fun _ _ => rfl)) pa_nil))) pa_nil))))) pss_nil) (pss_cons (ps_set (i := 4) sc_L_counted.nd rfl (.inl rfl) (pe_cut (pe_ifExp (pt_cmpR op_eq (pv 1) pe_str (nomark _)) pe_int (pe_op op_mul (pe_ix ix_tup (pv 2) pe_int (fun _ _ => rfl)) (pe_ix ix_tup (pv 3) pe_int (fun _ _ => rfl)))))) (pss_one (ps_ret (pe_tup (pa_cons (pe_op op_add (pe_ix ix_tup (pv 2) pe_int (fun _ _ => rfl)) (pe_ix ix_tup (pv 3) pe_int (fun _ _ => rfl))) (pa_cons (pe_op op_add (pe_op op_add (pe_ix ix_tup (pv 2) pe_int (fun _ _ => rfl)) (pe_ix ix_tup (pv 3) pe_int (fun _ _ => rfl))) (pv 4)) pa_nil)))))))))))), ?_⟩
    have two_le : 2 ≤ sizeLine := by decide
    have three_le : 3 ≤ sizeLine := by decide
    have kd := kids_dep e
    have ks := kids_size e
    have ko := kids_ok (many := many) e
    cases e with
    | fig c =>
      obtain ⟨p, rfl, hp⟩ := he
      refine ⟨.ref p, rfl, p, _, 0, _, rfl, rfl, hp, rfl, ?_⟩
      refine ⟨_, rfl, three_le, fun t nt => ⟨t, _, rfl, .inr (SqT.of upd_same), rfl, rfl, _, rfl, iteTT rfl ?_⟩⟩
      exact ⟨two_le, fun t2 n2 => q _ _ ((same_new nt).trans (same_new n2)) ⟨t2, rfl, SqT.of upd_same⟩⟩
    | reg c =>
      obtain ⟨p, rfl, hp⟩ := he
      refine ⟨.ref p, rfl, p, _, 0, _, rfl, rfl, hp, rfl, ?_⟩
      refine ⟨_, rfl, three_le, fun t nt => ⟨t, _, rfl, .inr (SqT.of upd_same), rfl, rfl, _, rfl, iteTT rfl ?_⟩⟩
      exact ⟨two_le, fun t2 n2 => q _ _ ((same_new nt).trans (same_new n2)) ⟨t2, rfl, SqT.of upd_same⟩⟩
    | share c =>
      obtain ⟨p, rfl, hp⟩ := he
      refine ⟨.ref p, rfl, p, _, 0, _, rfl, rfl, hp, rfl, ?_⟩
      refine ⟨_, rfl, three_le, fun t nt => ⟨t, _, rfl, .inr (SqT.of upd_same), rfl, rfl, _, rfl, iteTT rfl ?_⟩⟩
      exact ⟨two_le, fun t2 n2 => q _ _ ((same_new nt).trans (same_new n2)) ⟨t2, rfl, SqT.of upd_same⟩⟩
    | times fa a =>
      have hda := kd a (by simp [Ex.kids])
      have hka := ks a (by simp [Ex.kids])
      obtain ⟨p, x, rfl, hp, ha⟩ := he
      refine ⟨.ref p, rfl, p, _, 0, _, rfl, rfl, hp, rfl, ?_⟩
      refine ⟨_, rfl, three_le, fun t nt => ⟨t, _, rfl, .inr (SqT.of upd_same), rfl, rfl, _, rfl, iteFF rfl ⟨_, rfl, two_le, fun t2 n2 => ⟨t2, _, rfl, .inr (SqT.of upd_same), rfl, rfl, _, rfl, iteTT rfl ?_⟩⟩⟩⟩
      have sm := (same_new (o := .tup [.str "fig", .str "reg", .str "share"]) nt).trans (same_new (o := .tup [.str "times", .str "by"]) n2)
      exact ⟨.ref p, rfl, p, _, 2, _, rfl, rfl, same_sqt sm hp, rfl, x, a, many, rfl, ha.same sm, ko a ho (by simp [Ex.kids]), by omega, by omega, fun H' u sm2 hu => q _ _ (sm.trans sm2) hu⟩
    | «by» i a =>
      have hda := kd a (by simp [Ex.kids])
      have hka := ks a (by simp [Ex.kids])
      obtain ⟨p, x, rfl, hp, ha⟩ := he
      refine ⟨.ref p, rfl, p, _, 0, _, rfl, rfl, hp, rfl, ?_⟩
      refine ⟨_, rfl, three_le, fun t nt => ⟨t, _, rfl, .inr (SqT.of upd_same), rfl, rfl, _, rfl, iteFF rfl ⟨_, rfl, two_le, fun t2 n2 => ⟨t2, _, rfl, .inr (SqT.of upd_same), rfl, rfl, _, rfl, iteTT rfl ?_⟩⟩⟩⟩
      have sm := (same_new (o := .tup [.str "fig", .str "reg", .str "share"]) nt).trans (same_new (o := .tup [.str "times", .str "by"]) n2)
      exact ⟨.ref p, rfl, p, _, 2, _, rfl, rfl, same_sqt sm hp, rfl, x, a, many, rfl, ha.same sm, ko a ho (by simp [Ex.kids]), by omega, by omega, fun H' u sm2 hu => q _ _ (sm.trans sm2) hu⟩
    | when i c a b' =>
      have hda := kd a (by simp [Ex.kids])
      have hka := ks a (by simp [Ex.kids])
      have hdb := kd b' (by simp [Ex.kids])
      have hkb := ks b' (by simp [Ex.kids])
      obtain ⟨p, x, y, rfl, hp, ha, hb⟩ := he
      refine ⟨.ref p, rfl, p, _, 0, _, rfl, rfl, hp, rfl, ?_⟩
      refine ⟨_, rfl, three_le, fun t nt => ⟨t, _, rfl, .inr (SqT.of upd_same), rfl, rfl, _, rfl, iteFF rfl ⟨_, rfl, two_le, fun t2 n2 => ⟨t2, _, rfl, .inr (SqT.of upd_same), rfl, rfl, _, rfl, iteFF rfl ?_⟩⟩⟩⟩
      have sm := (same_new (o := .tup [.str "fig", .str "reg", .str "share"]) nt).trans (same_new (o := .tup [.str "times", .str "by"]) n2)
      refine ⟨.ref p, rfl, 2, rfl, p, _, -2, _, rfl, rfl, same_sqt sm hp, rfl, x, a, many, rfl, ha.same sm, ko a ho (by simp [Ex.kids]), by omega, by omega, fun H1 u1 sm1 hu1 => ?_⟩
      have smm := sm.trans sm1
      refine ⟨.ref p, rfl, 1, rfl, p, _, -1, _, rfl, rfl, same_sqt smm hp, rfl, y, b', many, rfl, hb.same smm, ko b' ho (by simp [Ex.kids]), by omega, by omega, fun H2 u2 sm2 hu2 => ?_⟩
      obtain ⟨p1, rfl, h1⟩ := hu1
      obtain ⟨p2, rfl, h2⟩ := hu2
      have h1 := same_sqt sm2 h1
      have smm := smm.trans sm2
      refine ⟨_, _, rfl, _, rfl, two_le, fun t3 n3 => ⟨t3, _, rfl, .inr (SqT.of upd_same), rfl, rfl, _, rfl, iteFF rfl ?_⟩⟩
      have h1 := same_sqt (same_new (o := .tup [.str "sum", .str "less"]) n3) h1
      have h2 := same_sqt (same_new (o := .tup [.str "sum", .str "less"]) n3) h2
      have smm := smm.trans (same_new (o := .tup [.str "sum", .str "less"]) n3)
      refine ⟨_, rfl, rfl, _, rfl, iteTT rfl ?_⟩
      exact ⟨.ref p1, rfl, p1, _, 0, _, rfl, rfl, h1, rfl, .ref p2, rfl, p2, _, 0, _, rfl, rfl, h2, rfl, _, _, rfl, .ref p1, rfl, p1, _, 1, _, rfl, rfl, h1, rfl, .ref p2, rfl, p2, _, 1, _, rfl, rfl, h2, rfl, _, _, rfl, two_le, fun t4 n4 => q _ _ (smm.trans (same_new n4)) ⟨t4, rfl, SqT.of upd_same⟩⟩
    | whr i c a b' =>
      have hda := kd a (by simp [Ex.kids])
      have hka := ks a (by simp [Ex.kids])
      have hdb := kd b' (by simp [Ex.kids])
      have hkb := ks b' (by simp [Ex.kids])
      obtain ⟨p, x, y, rfl, hp, ha, hb⟩ := he
      refine ⟨.ref p, rfl, p, _, 0, _, rfl, rfl, hp, rfl, ?_⟩
      refine ⟨_, rfl, three_le, fun t nt => ⟨t, _, rfl, .inr (SqT.of upd_same), rfl, rfl, _, rfl, iteFF rfl ⟨_, rfl, two_le, fun t2 n2 => ⟨t2, _, rfl, .inr (SqT.of upd_same), rfl, rfl, _, rfl, iteFF rfl ?_⟩⟩⟩⟩
      have sm := (same_new (o := .tup [.str "fig", .str "reg", .str "share"]) nt).trans (same_new (o := .tup [.str "times", .str "by"]) n2)
      refine ⟨.ref p, rfl, 2, rfl, p, _, -2, _, rfl, rfl, same_sqt sm hp, rfl, x, a, many, rfl, ha.same sm, ko a ho (by simp [Ex.kids]), by omega, by omega, fun H1 u1 sm1 hu1 => ?_⟩
      have smm := sm.trans sm1
      refine ⟨.ref p, rfl, 1, rfl, p, _, -1, _, rfl, rfl, same_sqt smm hp, rfl, y, b', many, rfl, hb.same smm, ko b' ho (by simp [Ex.kids]), by omega, by omega, fun H2 u2 sm2 hu2 => ?_⟩
      obtain ⟨p1, rfl, h1⟩ := hu1
      obtain ⟨p2, rfl, h2⟩ := hu2
      have h1 := same_sqt sm2 h1
      have smm := smm.trans sm2
      refine ⟨_, _, rfl, _, rfl, two_le, fun t3 n3 => ⟨t3, _, rfl, .inr (SqT.of upd_same), rfl, rfl, _, rfl, iteFF rfl ?_⟩⟩
      have h1 := same_sqt (same_new (o := .tup [.str "sum", .str "less"]) n3) h1
      have h2 := same_sqt (same_new (o := .tup [.str "sum", .str "less"]) n3) h2
      have smm := smm.trans (same_new (o := .tup [.str "sum", .str "less"]) n3)
      generalize upd H2 t3 (.tup [.str "sum", .str "less"]) = H3 at smm h1 h2
      refine ⟨_, rfl, rfl, _, rfl, iteFF rfl ?_⟩
      refine ⟨fun v H' => v = .int 1 ∧ H' = H3, ⟨_, rfl, rfl, _, rfl, iteTT rfl ⟨rfl, rfl⟩⟩, fun v H' hv => ?_⟩
      obtain ⟨rfl, rfl⟩ := hv
      exact ⟨.ref p1, rfl, p1, _, 0, _, rfl, rfl, h1, rfl, .ref p2, rfl, p2, _, 0, _, rfl, rfl, h2, rfl, _, _, rfl, rfl, .ref p1, rfl, p1, _, 1, _, rfl, rfl, h1, rfl, .ref p2, rfl, p2, _, 1, _, rfl, rfl, h2, rfl, _, _, rfl, rfl, _, rfl, _, _, rfl, rfl, two_le, fun t4 n4 => q _ _ (smm.trans (same_new n4)) ⟨t4, rfl, SqT.of upd_same⟩⟩
    | two o a b' =>
      have hda := kd a (by simp [Ex.kids])
      have hka := ks a (by simp [Ex.kids])
      have hdb := kd b' (by simp [Ex.kids])
      have hkb := ks b' (by simp [Ex.kids])
      obtain ⟨p, x, y, rfl, hp, ha, hb⟩ := he
      refine ⟨.ref p, rfl, p, _, 0, _, rfl, rfl, hp, rfl, ?_⟩
      refine ⟨_, rfl, three_le, fun t nt => ⟨t, _, rfl, .inr (SqT.of upd_same), rfl, rfl, _, rfl, iteFF (by cases o <;> rfl) ⟨_, rfl, two_le, fun t2 n2 => ⟨t2, _, rfl, .inr (SqT.of upd_same), rfl, rfl, _, rfl, iteFF (by cases o <;> rfl) ?_⟩⟩⟩⟩
      have sm := (same_new (o := .tup [.str "fig", .str "reg", .str "share"]) nt).trans (same_new (o := .tup [.str "times", .str "by"]) n2)
      refine ⟨.ref p, rfl, 2, rfl, p, _, -2, _, rfl, rfl, same_sqt sm hp, rfl, x, a, many, rfl, ha.same sm, ko a ho (by simp [Ex.kids]), by omega, by omega, fun H1 u1 sm1 hu1 => ?_⟩
      have smm := sm.trans sm1
      refine ⟨.ref p, rfl, 1, rfl, p, _, -1, _, rfl, rfl, same_sqt smm hp, rfl, y, b', many, rfl, hb.same smm, ko b' ho (by simp [Ex.kids]), by omega, by omega, fun H2 u2 sm2 hu2 => ?_⟩
      obtain ⟨p1, rfl, h1⟩ := hu1
      obtain ⟨p2, rfl, h2⟩ := hu2
      have h1 := same_sqt sm2 h1
      have smm := smm.trans sm2
      refine ⟨_, _, rfl, _, rfl, two_le, fun t3 n3 => ⟨t3, _, rfl, .inr (SqT.of upd_same), rfl, rfl, _, rfl, ?_⟩⟩
      have h1 := same_sqt (same_new (o := .tup [.str "sum", .str "less"]) n3) h1
      have h2 := same_sqt (same_new (o := .tup [.str "sum", .str "less"]) n3) h2
      have smm := smm.trans (same_new (o := .tup [.str "sum", .str "less"]) n3)
      generalize upd H2 t3 (.tup [.str "sum", .str "less"]) = H3 at smm h1 h2
      have m1 : ∀ z, CMul (lvs a) z := fun z => lvs_mul8 (by omega)
      clear hp ha hb
      cases o
      case sum => exact iteTT rfl ⟨.ref p1, rfl, p1, _, 0, _, rfl, rfl, h1, rfl, .ref p2, rfl, p2, _, 0, _, rfl, rfl, h2, rfl, _, _, rfl, rfl, m1 _, .ref p1, rfl, p1, _, 1, _, rfl, rfl, h1, rfl, .ref p2, rfl, p2, _, 1, _, rfl, rfl, h2, rfl, _, _, rfl, rfl, two_le, fun t4 n4 => q _ _ (smm.trans (same_new n4)) ⟨t4, rfl, SqT.of upd_same⟩⟩
      case less => exact iteTT rfl ⟨.ref p1, rfl, p1, _, 0, _, rfl, rfl, h1, rfl, .ref p2, rfl, p2, _, 0, _, rfl, rfl, h2, rfl, _, _, rfl, rfl, m1 _, .ref p1, rfl, p1, _, 1, _, rfl, rfl, h1, rfl, .ref p2, rfl, p2, _, 1, _, rfl, rfl, h2, rfl, _, _, rfl, rfl, two_le, fun t4 n4 => q _ _ (smm.trans (same_new n4)) ⟨t4, rfl, SqT.of upd_same⟩⟩
      all_goals
        refine iteFF rfl ⟨_, rfl, rfl, _, rfl, iteFF rfl ?_⟩
        refine ⟨fun v H' => v = .int (lvs a * lvs b') ∧ H' = H3, ⟨_, rfl, rfl, _, rfl, iteFF rfl ⟨.ref p1, rfl, p1, _, 0, _, rfl, rfl, h1, rfl, .ref p2, rfl, p2, _, 0, _, rfl, rfl, h2, rfl, _, _, rfl, rfl, m1 _, rfl, rfl⟩⟩, fun v H' hv => ?_⟩
        obtain ⟨rfl, rfl⟩ := hv
        exact ⟨.ref p1, rfl, p1, _, 0, _, rfl, rfl, h1, rfl, .ref p2, rfl, p2, _, 0, _, rfl, rfl, h2, rfl, _, _, rfl, rfl, .ref p1, rfl, p1, _, 1, _, rfl, rfl, h1, rfl, .ref p2, rfl, p2, _, 1, _, rfl, rfl, h2, rfl, _, _, rfl, rfl, _, rfl, _, _, rfl, rfl, two_le, fun t4 n4 => q _ _ (smm.trans (same_new n4)) ⟨t4, rfl, SqT.of upd_same⟩⟩
end
end NG

namespace NG
open PySem PySem.Spec PyProof.Rows L2
section
variable {P : Program} {w : World} {K : PySem.W.Frag} {mg : Str → Option Value} {base : Heap}
theorem ok_lines {f : Addr} {fd : FuncData} (F : Fun K "_law_lines" "_law_lines" s_L_lines f fd) (gF : mg "_law_lines" = some (.ref f)) (b : Binds K fd ["_law_doubter_here"] []) (B : Bl mg) {n : Nat} (c_L_counted : Cal P w K mg base (n + 1) "_law_counted" (spLB8 K n)) : Cal P w K mg base (n + 2) "_law_lines" (spLines8 K n) := by
  refine ⟨f, fd, _, F.ok sc_L_lines (fun vs H Q E h => ?_) (fun cdv A outer s H vs Q E hr h => ?_), gF, F.kp, b⟩
  · obtain ⟨_, _, _, rfl, _⟩ := h
    rfl
  · obtain ⟨dv, D, many, rfl, hD, hsl, hst, q⟩ := h
    obtain ⟨p, vb, ps, pb, us, ws, rfl, hp, hvb, hps, hus, hpb, hws⟩ := hD
    refine ⟨_, (pss_one (ps_ret (pe_callB (cr_sum rfl) (by rfl) B.sum (by decide +kernel) (pa_cons (pe_lc (own := [("_law_stake_here", 1)]) rfl sc_L_lines.nd (pi_tup (pe_ix ix_tup (pv 0) pe_int (fun _ _ => rfl))) (blkOk_by (N := N_L_lines) (sc := defScope s_L_lines) (by decide +kernel)) (fun _ _ _ _ _ => pg_name (i := 1) sc_L_lines.nd rfl (.inl rfl)) (fun _ _ _ _ _ => pts_nil) (fun _ _ _ _ _ => pe_ix (ixt K) (pe_c c_L_counted hr (by omega) (by rfl) (pa_cons (pv 1) pa_nil)) pe_int (fun _ _ => rfl))) pa_nil)))), ?_⟩
    have hul := hus.len
    refine ⟨.ref p, rfl, p, _, 3, _, rfl, rfl, hp, rfl, ps, rfl, ⟨_, hps⟩, fun D' nD => lc_tup (xs := us) (fun i H' => Same H H' ∧ H' D' = some (.lst (((D.stakes.take i).map bds).map V.int))) ⟨same_new nD, upd_same⟩ (fun i H' _ h => same_sqt h.1 hps) ?_ ?_⟩
    · rintro i x H1 hx ⟨sm1, hD1⟩
      have hil := (List.getElem?_eq_some_iff.mp hx).1
      obtain ⟨e, he, xe⟩ := hus.get' hx
      obtain ⟨oe, de, d6⟩ := hst e (List.mem_of_getElem? he)
      refine ⟨rfl, tYes_in ?_⟩
      refine ⟨x, rfl, x, e, many, rfl, xe.same sm1, oe, de, d6, fun H2 u sm2 hu => ?_⟩
      obtain ⟨pu, rfl, hpu⟩ := hu
      refine ⟨pu, _, 1, _, rfl, rfl, hpu, rfl, _, sm2 _ _ hD1, ?_, fun b' o eb => ?_, ?_⟩
      · rw [List.length_map, List.length_map, List.length_take]
        exact small1000 (by omega)
      · rw [upd_ne (ne_of_none eb nD)]
        exact sm2 _ _ (sm1 _ _ eb)
      · rw [upd_same, List.take_add_one, he, List.map_append, List.map_append]
        rfl
    · rintro H1 ⟨sm1, hD1⟩
      rw [hul, List.take_length] at hD1
      exact ⟨D', _, rfl, SqL.of hD1, q _ sm1⟩
end
end NG

namespace NG
open PySem PySem.Spec PyProof.Rows L2
def Ms.tk : Nat → Ms → Ms
  | 0, _ => .nil
  | _ + 1, .nil => .nil
  | n + 1, .one o r => .one o (r.tk n)
  | n + 1, .house nm m r => .house nm m (r.tk n)
theorem MsAt.tk {K : PySem.W.Frag} {H : Hp} : ∀ {n : Nat} {d : Ms} {vs : List V}, MsAt K H d vs → MsAt K H (d.tk n) (vs.take n)
  | 0, _, _, _ => rfl
  | _ + 1, .nil, _, e => by subst e; rfl
  | n + 1, .one _ _, _, ⟨v, us, e, q, r⟩ => by subst e; exact ⟨v, _, rfl, q, r.tk⟩
  | n + 1, .house _ _ _, _, ⟨p, pm, xs, us, e, q, qm, m, r⟩ => by subst e; exact ⟨p, pm, xs, _, rfl, q, qm, m, r.tk⟩
theorem Ms.tk_all {P : One → Prop} : ∀ {n : Nat} {d : Ms}, d.all P → (d.tk n).all P
  | 0, _, _ => trivial
  | _ + 1, .nil, _ => trivial
  | n + 1, .one _ _, h => ⟨h.1, Ms.tk_all h.2⟩
  | n + 1, .house _ _ _, h => ⟨h.1, Ms.tk_all h.2⟩
theorem Ms.tk_nms : ∀ {n : Nat} {d : Ms}, d.nms → (d.tk n).nms
  | 0, _, _ => trivial
  | _ + 1, .nil, _ => trivial
  | n + 1, .one _ r, h => Ms.tk_nms (n := n) (d := r) h
  | n + 1, .house _ _ _, h => ⟨h.1, h.2.1, Ms.tk_nms h.2.2⟩
theorem Ms.tk_cnt : ∀ (n : Nat) (d : Ms), (d.tk n).cnt + (d.drop n).cnt = d.cnt
  | 0, d => by show 0 + d.cnt = d.cnt; omega
  | n + 1, .nil => by
    have : ∀ k, (Ms.nil.drop k).cnt = 0 := fun k => by
      have h : ∀ k, Ms.nil.drop k = .nil := fun k => by
        induction k with
        | zero => rfl
        | succ k ih => show (Ms.nil.drop k).tl = .nil; rw [ih]; rfl
      rw [h k]
      rfl
    show 0 + (Ms.nil.drop (n + 1)).cnt = 0
    rw [this]
  | n + 1, .one o r => by
    have e : ∀ k, (Ms.one o r).drop (k + 1) = r.drop k := fun k => by
      induction k with
      | zero => rfl
      | succ k ih => show ((Ms.one o r).drop (k + 1)).tl = (r.drop k).tl; rw [ih]
    rw [e]
    have := Ms.tk_cnt n r
    show 1 + (r.tk n).cnt + _ = 1 + r.cnt
    omega
  | n + 1, .house nm m r => by
    have e : ∀ k, (Ms.house nm m r).drop (k + 1) = r.drop k := fun k => by
      induction k with
      | zero => rfl
      | succ k ih => show ((Ms.house nm m r).drop (k + 1)).tl = (r.drop k).tl; rw [ih]
    rw [e]
    have := Ms.tk_cnt n r
    show 1 + m.cnt + (r.tk n).cnt + _ = 1 + m.cnt + r.cnt
    omega
theorem Ms.tk_dep : ∀ (n : Nat) (d : Ms), (d.tk n).dep ≤ d.dep
  | 0, _ => Nat.zero_le _
  | _ + 1, .nil => Nat.le_refl _
  | n + 1, .one _ r => Ms.tk_dep n r
  | n + 1, .house _ m r => by have := Ms.tk_dep n r; show max (m.dep + 1) (r.tk n).dep ≤ max (m.dep + 1) r.dep; omega
theorem Ms.drop_all {P : One → Prop} {d : Ms} (h : d.all P) : ∀ n, (d.drop n).all P
  | 0 => h
  | n + 1 => by
    have ih := Ms.drop_all h n
    show (d.drop n).tl.all P
    cases e : d.drop n with
    | nil => trivial
    | one o r => rw [e] at ih; exact ih.2
    | house nm m r => rw [e] at ih; exact ih.2
theorem Ms.drop_nms {d : Ms} (h : d.nms) : ∀ n, (d.drop n).nms
  | 0 => h
  | n + 1 => by
    have ih := Ms.drop_nms h n
    show (d.drop n).tl.nms
    cases e : d.drop n with
    | nil => trivial
    | one o r => rw [e] at ih; exact ih
    | house nm m r => rw [e] at ih; exact ih.2.2
def wfV (b : Bool) : V := .str (if b then "one" else "house")
def wfD (b : Bool) : PyData := .str (if b then "one" else "house")
theorem dp_wds {K : PySem.W.Frag} {H : Hp} : ∀ bs : List Bool, DpAll K H (bs.map wfV) (bs.map wfD)
  | [] => .nil
  | b :: r => .cons (.str _) (dp_wds r)
theorem shaped_wds (bs : List Bool) : SeqAt.shaped (.list (bs.map wfD)) = true := by
  have h1 : PyData.canLayAll0 (bs.map wfD) = true := by
    induction bs with
    | nil => rfl
    | cons n r ih =>
      show ((wfD n).canLay0 && PyData.canLayAll0 (r.map wfD)) = true
      rw [ih]
      have : (wfD n).canLay0 = true := by cases n <;> simp only [wfD, PyData.canLay0, if_true, if_false] <;> decide +kernel
      rw [this]
      rfl
  have h2 : PyData.depthAll (bs.map wfD) ≤ 0 := by
    clear h1
    induction bs with
    | nil => exact Nat.zero_le _
    | cons n r ih =>
      show max (wfD n).depth (PyData.depthAll (r.map wfD)) ≤ 0
      have : (wfD n).depth = 0 := rfl
      omega
  show (PyData.canLayAll0 (bs.map wfD) && decide (PyData.depthAll (bs.map wfD) + 1 ≤ 64)) = true
  rw [h1, decide_eq_true (by omega)]
  rfl
theorem take_any {vs : List V} {z : Int} (h : 0 ≤ z) : cutV vs none (some z) = vs.take z.toNat := by
  obtain ⟨k, rfl⟩ : ∃ k : Nat, z = (k : Int) := ⟨z.toNat, by omega⟩
  unfold cutV
  rw [HT.sIx_none, show HT.sIx vs.length vs.length (some (k : Int)) = min k vs.length from HT.sIx_nat _ _ _, List.drop_zero, Nat.sub_zero, Int.toNat_natCast]
  by_cases hk : k ≤ vs.length
  · rw [Nat.min_eq_left hk]
  · rw [Nat.min_eq_right (by omega), List.take_length, List.take_of_length_le (by omega)]
theorem drop_all' {vs : List V} {k : Nat} : cutV vs (some (k : Int)) none = vs.drop k := by
  unfold cutV
  rw [HT.sIx_none, show HT.sIx vs.length 0 (some (k : Int)) = min k vs.length from HT.sIx_nat _ _ _]
  by_cases hk : k ≤ vs.length
  · rw [Nat.min_eq_left hk]
    exact List.take_of_length_le (by rw [List.length_drop]; omega)
  · rw [Nat.min_eq_right (by omega), Nat.sub_self, List.take_zero, List.drop_of_length_le (by omega)]
/-- a drawn house -/
def HsAt (K : PySem.W.Frag) (H : Hp) (many : Nat) (m : Ms) (v : V) : Prop := ∃ p pm xs, v = .ref p ∧ SqT K H p [.int (many : Int), .ref pm] ∧ SqT K H pm xs ∧ MsAt K H m xs
theorem HsAt.imp {K : PySem.W.Frag} {H H' : Hp} {many : Nat} {m : Ms} {v : V} (x : HsAt K H many m v) (h : ∀ p xs, SqT K H p xs → SqT K H' p xs) : HsAt K H' many m v := by
  obtain ⟨p, pm, xs, e, q1, q2, q3⟩ := x
  exact ⟨p, pm, xs, e, h _ _ q1, h _ _ q2, q3.imp h⟩
theorem plain_of {bs : List Bool} (hb : bs.length ≤ 2) (h : PyData.eqv (.list (bs.map wfD)) (.list [.str "one", .str "one"]) = true) : bs = [true, true] := by
  match bs, hb with
  | [], _ => exact absurd h (by decide +kernel)
  | [true], _ => exact absurd h (by decide +kernel)
  | [false], _ => exact absurd h (by decide +kernel)
  | [true, true], _ => rfl
  | [true, false], _ => exact absurd h (by decide +kernel)
  | [false, true], _ => exact absurd h (by decide +kernel)
  | [false, false], _ => exact absurd h (by decide +kernel)
  | _ :: _ :: _ :: _, hb => simp at hb
structure HsR (many : Nat) (m : Ms) : Prop where
  ok : HsN many 3 m
  no : m.no ≤ 3
  nh : m.cnt - m.no ≤ 12
  ln : m.ln ≤ roomI many
def spHouseN (K : PySem.W.Frag) : Sp := fun vs H Q _ => ∃ (a : Addr) (many n : Nat) (j : Bool), vs = [.ref a, .int (many : Int), .int 3, .int 2, .bl j] ∧ 2 ≤ many ∧ many ≤ 3 ∧ HandAt H a n ∧ n ≤ 999900000 ∧
  ∀ H' v m, But a H H' → HandAt H' a (n + 2500) → HsAt K H' many m v → HsR many m → Q v H'
def pl_of (bs : List Bool) : Prop := PyData.eqv (.list (bs.map wfD)) (.list [.str "one", .str "one"]) = true
theorem ms_fl_len : ∀ m : Ms, m.fl.length = m.len
  | .nil => rfl
  | .one _ r => by show (true :: r.fl).length = r.len + 1; rw [List.length_cons, ms_fl_len r]
  | .house _ _ r => by show (false :: r.fl).length = r.len + 1; rw [List.length_cons, ms_fl_len r]
section
variable {P : Program} {w : World} {K : PySem.W.Frag} {mg : Str → Option Value} {base : Heap}
theorem ok_house {f : Addr} {fd : FuncData} (F : Fun K "_law_house" "_law_house" s_L_house f fd) (gF : mg "_law_house" = some (.ref f)) (b : Binds K fd ["_law_hand_here", "_law_many", "_law_most", "_law_level", "_law_jumps"] []) (B : Bl mg) (c_L_take : Cal P w K mg base 1 "_law_take" spTake) (c_L_of : Cal P w K mg base 2 "_law_of" (spOf K)) (c_L_doubter : Cal P w K mg base 10 "_law_doubter" (spDoubterN K 3)) (c_L_lines : Cal P w K mg base 10 "_law_lines" (spLines8 K 8)) (c_L_name : Cal P w K mg base 3 "_law_name" (spLName K)) (c_L_one : Cal P w K mg base 5 "_law_one" (spOneN K)) : Cal P w K mg base 11 "_law_house" (spHouseN K) := by
  refine ⟨f, fd, _, F.ok sc_L_house (fun vs H Q E h => ?_) (fun cdv A outer s H vs Q E hr h => ?_), gF, F.kp, b⟩
  · obtain ⟨_, _, _, _, rfl, _⟩ := h
    rfl
  · obtain ⟨a, many, n, jp, rfl, hm2, hm3, hh, hn, q⟩ := h
    refine ⟨_, (pss_cons (ps_par3 (i := 5) (j := 6) (l := 7) rfl sc_L_house.nd rfl rfl rfl (by decide) (by decide) (by decide) rfl rfl rfl (pa_cons (pe_tup pa_nil) (pa_cons (pe_dget (hu_of hr) (pe_disp (pps_cons pe_int pe_int (pps_cons pe_int pe_int pps_nil)) (by rfl) (by rfl) (by simp) (by decide)) (pv 1) (fun _ _ => rfl)) (pa_cons pe_int pa_nil))) (by rfl)) (pss_cons (ps_for PassesOwn.never rfl (pi_range1 rfl B.range (pa_cons (pe_c c_L_take hr (by omega) (by rfl) (pa_cons (pv 0) (pa_cons (pe_op op_add (pe_callB (call_min2 rfl) (by rfl) B.min (by decide +kernel) (pa_cons pe_int (pa_cons (pv 2) pa_nil))) pe_int) pa_nil))) pa_nil)) (pg_name (i := 8) sc_L_house.nd rfl (.inl rfl)) (pss_cons (ps_set (i := 9) sc_L_house.nd rfl (.inl rfl) (pe_c c_L_doubter hr (by omega) (by rfl) (pa_cons (pv 0) (pa_cons (pv 1) (pa_cons (pv 3) (pa_cons (pv 4) pa_nil)))))) (pss_one (ps_if (pt_cmpR op_le (pe_c c_L_lines hr (by omega) (by rfl) (pa_cons (pv 9) pa_nil)) (pv 6) (nomark _)) (pss_cons (ps_set (i := 6) sc_L_house.nd rfl (.inl rfl) (pe_op op_sub (pv 6) (pe_c c_L_lines hr (by omega) (by rfl) (pa_cons (pv 9) pa_nil)))) (pss_cons (ps_set (i := 10) sc_L_house.nd rfl (.inl rfl) (pe_c c_L_one hr (by omega) (by rfl) (pa_cons (pv 0) (pa_cons (pv 9) pa_nil)))) (pss_cons (ps_for PassesOwn.never rfl (pi_range1 rfl B.range (pa_cons (pe_callB (call_min2 rfl) (by rfl) B.min (by decide +kernel) (pa_cons (pv 7) (pa_cons (pe_c c_L_of hr (by omega) (by rfl) (pa_cons (pv 0) (pa_cons (pe_lst (pa_cons pe_int (pa_cons pe_int (pa_cons pe_int (pa_cons pe_int (pa_cons pe_int (pa_cons pe_int pa_nil))))))) pa_nil))) pa_nil))) pa_nil)) (pg_name (i := 11) sc_L_house.nd rfl (.inl rfl)) (pss_one (ps_par (i := 10) (j := 7) rfl sc_L_house.nd rfl rfl (by decide) rfl rfl (pa_cons (pe_tup (pa_cons pe_str (pa_cons (pe_c c_L_name hr (by omega) (by rfl) (pa_cons (pv 0) pa_nil)) (pa_cons (pe_tup (pa_cons (pv 10) pa_nil)) pa_nil)))) (pa_cons (pe_op op_sub (pv 7) pe_int) pa_nil)) (by rfl)))) (pss_one (ps_set (i := 5) sc_L_house.nd rfl (.inl rfl) (pe_op op_catA (pv 5) (pe_tup (pa_cons (pv 10) pa_nil)))))))) pss_nil)))) (pss_cons (ps_set (i := 12) sc_L_house.nd rfl (.inl rfl) (pe_cmpR (op_eqD hr.units) (pe_lc (own := [("_law_lodger", 10)]) rfl sc_L_house.nd (pi_tup (pe_slice sl_tupA (pv 5) po_none (po_some pe_int))) (blkOk_by (N := N_L_house) (sc := defScope s_L_house) (by decide +kernel)) (fun _ _ _ _ _ => pg_name (i := 10) sc_L_house.nd rfl (.inl rfl)) (fun _ _ _ _ _ => pts_nil) (fun _ _ _ _ _ => pe_ix (ixt K) (pv 10) pe_int (fun _ _ => rfl))) (pe_lst (pa_cons pe_str (pa_cons pe_str pa_nil))) (nomark _))) (C8.pss_cut (ps_if (PW.pt (pw_and (pt_val (pv 12)) (pw_and1 (pt_cmpR op_eq (pe_c c_L_take hr (by omega) (by rfl) (pa_cons (pv 0) (pa_cons pe_int pa_nil))) pe_int (nomark _))))) (pss_one (ps_set (i := 5) sc_L_house.nd rfl (.inl rfl) (pe_op op_catA (pe_tup (pa_cons (pe_tup (pa_cons pe_str (pa_cons (pe_c c_L_name hr (by omega) (by rfl) (pa_cons (pv 0) pa_nil)) (pa_cons (pe_slice sl_tupA (pv 5) po_none (po_some pe_int)) pa_nil)))) pa_nil)) (pe_slice sl_tupA (pv 5) (po_some pe_int) po_none)))) pss_nil) (pss_one (ps_ret (pe_tup (pa_cons (pv 1) (pa_cons (pv 5) pa_nil))))))))), ?_⟩
    have one_le : 1 ≤ sizeLine := by decide
    have two_le : 2 ≤ sizeLine := by decide
    have three_le : 3 ≤ sizeLine := by decide
    refine ⟨(by show 0 ≤ sizeLine; decide), fun e0 ne0 => ?_⟩
    refine fun dp ndp => ⟨upd_same, [(Sum.inl 2, .int 400), (Sum.inl 3, .int 60)], rfl, (by show 2 ≤ 15; decide), ?_⟩
    have s0 := same_new (o := .tup []) ne0
    have smD : ∀ o', Same (upd H e0 (.tup [])) (upd (upd (upd H e0 (.tup [])) dp (HO.dK [])) dp o') := fun o' b' ob eb => by
      rw [upd_ne (ne_of_none eb ndp), upd_ne (ne_of_none eb ndp)]
      exact eb
    have smD := smD (HO.dK (mergeK [] [(Sum.inl 2, V.int 400), (Sum.inl 3, V.int 60)]))
    have hrm : DGet (upd (upd (upd H e0 (.tup [])) dp (HO.dK [])) dp (HO.dK (mergeK [] [(Sum.inl 2, V.int 400), (Sum.inl 3, V.int 60)]))) dp (V.int (many : Int)) (some (.int (roomI many))) := by
      have : many = 2 ∨ many = 3 := by omega
      rcases this with rfl | rfl
      · exact .inl ⟨_, Sum.inl 2, .inl upd_same, rfl, rfl⟩
      · exact .inl ⟨_, Sum.inl 3, .inl upd_same, rfl, rfl⟩
    refine ⟨.int (many : Int), rfl, dp, .int (roomI many), rfl, hrm, _, _, _, rfl, ?_⟩
    have sm1 := s0.trans smD
    have he0 : SqT K (upd (upd (upd H e0 (.tup [])) dp (HO.dK [])) dp (HO.dK (mergeK [] [(Sum.inl 2, V.int 400), (Sum.inl 3, V.int 60)]))) e0 [] := same_sqt smD (SqT.of upd_same)
    clear hrm smD s0
    generalize upd (upd (upd H e0 (.tup [])) dp (HO.dK [])) dp (HO.dK (mergeK [] [(Sum.inl 2, V.int 400), (Sum.inl 3, V.int 60)])) = H1 at sm1 he0
    have hh1 := hh.same sm1
    have b01 : But a H H1 := But.of sm1
    refine ⟨.ref a, rfl, .int 3, rfl, _, _, rfl, _, _, rfl, rfl, a, 4, _, rfl, by decide, by decide, hh1, by omega, fun H2 tn b2 hh2 t0 t1 => ⟨tn, rfl, by omega, by omega, ?_⟩⟩
    refine for_range (n := tn.toNat) (fun t σ H' => ∃ y8 y9 y10 y11 pm xs m rm hm, σ = [some (.ref a), some (.int (many : Int)), some (.int 3), some (.int 2), some (.bl jp), some (.ref pm), some (.int rm), some (.int hm), y8, y9, y10, y11, none] ∧ But a H H' ∧ HandAt H' a (n + 1 + 800 * t) ∧ SqT K H' pm xs ∧ MsAt K H' m xs ∧ HsN many 3 m ∧ xs.length ≤ t ∧ 0 ≤ hm ∧ hm ≤ 11 ∧ m.no ≤ t ∧ (m.cnt : Int) - m.no + hm = 11 ∧ m.ln + rm = roomI many ∧ 0 ≤ rm) ⟨none, none, none, none, e0, [], .nil, roomI many, 11, rfl, b01.trans b2, hh2, b2.sq hh1 he0, rfl, ⟨trivial, trivial, Nat.zero_le _⟩, Nat.le_refl _, by decide, by decide, Nat.zero_le _, by decide, by show 0 + roomI many = roomI many; omega, by unfold roomI; split <;> decide⟩ ?_ ?_
    · rintro t σ H3 ht ⟨y8, y9, y10, y11, pm, xs, m, rm3, hm3', rfl, b3, hh3, hpm, hms, hok, hxl, hm0, hm1, hno, hnh, hln, hrm0⟩
      have ht : t < 3 := by omega
      have ec : cost 2 = 84 := rfl
      refine ⟨.ref a, rfl, .int (many : Int), rfl, .int 2, rfl, .bl jp, rfl, a, many, 2, _, jp, rfl, trivial, by decide, by decide, by omega, hm3, hh3, by omega, fun H4 dv D b4 hh4 hD okD => ?_⟩
      have hh4 : HandAt H4 a (n + 1 + 800 * t + 552) := hh4.le (by omega)
      have b04 := b3.trans b4
      have hpm4 := b4.sq hh3 hpm
      have hms4 := hms.imp fun _ _ h => b4.sq hh3 h
      obtain ⟨hsl, hst⟩ := okD.lin (Nat.le_refl _) hm3
      refine ⟨dv, rfl, dv, D, many, rfl, hD, hsl, hst, fun H5 sm5 => ⟨.int rm3, rfl, _, _, rfl, rfl, _, rfl, iteD (fun c => ?_) (fun c => ?_)⟩⟩
      · have hh5 := hh4.same sm5
        refine ⟨.int rm3, rfl, dv, rfl, dv, D, many, rfl, hD.same sm5, hsl, hst, fun H6 sm6 => ⟨_, _, rfl, rfl, ?_⟩⟩
        have sm46 := sm5.trans sm6
        have hh6 := hh5.same sm6
        refine ⟨.ref a, rfl, dv, rfl, a, dv, D, _, rfl, hh6, by omega, hD.same sm46, fun H7 v o b7 hh7 ho hod hor => ?_⟩
        have sq47 : ∀ p xs, SqT K H4 p xs → SqT K H7 p xs := fun _ _ h => b7.sq hh6 (same_sqt sm46 h)
        have b07 := (b04.trans (But.of sm46)).trans b7
        refine ⟨.int hm3', rfl, .ref a, rfl, (by show 6 ≤ sizeLine; decide), fun l8 n8 => ?_⟩
        refine ⟨a, l8, _, _, rfl, (hh7.ne n8).symm, upd_same, (by show 0 < 6; decide), (by show 6 ≤ 1000; decide), hh7.new n8, by omega, fun H8 v8 b8 hh8 hv8 => ?_⟩
        obtain ⟨dd, rfl, dd0, dd1⟩ : ∃ c : Int, v8 = .int c ∧ 0 ≤ c ∧ c ≤ 3 := by
          have hv8 : v8 ∈ ([.int 0, .int 0, .int 0, .int 1, .int 2, .int 3] : List V) := hv8
          simp only [List.mem_cons, List.not_mem_nil, or_false] at hv8
          rcases hv8 with rfl | rfl | rfl | rfl | rfl | rfl
          all_goals exact ⟨_, rfl, by decide, by decide⟩
        have b78 := (But.new (a := a) (o := .lst [.int 0, .int 0, .int 0, .int 1, .int 2, .int 3]) n8).trans b8
        have hmn : ∀ y z : Int, 0 ≤ y → 0 ≤ z → z ≤ 3 → 0 ≤ (if z < y then z else y) ∧ (if z < y then z else y) ≤ 3 ∧ (if z < y then z else y) ≤ y := fun y z h0 h1 h2 => by split <;> omega
        have hr8 := hmn hm3' dd hm0 dd0 dd1
        refine ⟨_, _, rfl, _, rfl, by omega, by omega, ?_⟩
        generalize (if dd < hm3' then dd else hm3') = rr at hr8
        refine for_range (n := rr.toNat) (fun k σ H' => ∃ y11 v sm hm, σ = [some (.ref a), some (.int (many : Int)), some (.int 3), some (.int 2), some (.bl jp), some (.ref pm), some (.int (rm3 - lnO D)), some (.int hm), some (.int (0 + (t : Int))), some dv, some v, y11, none] ∧ But a H7 H' ∧ HandAt H' a (n + 1 + 800 * t + 600 + 12 * k) ∧ MsAt K H' sm [v] ∧ HsN many k sm ∧ hm = hm3' - k ∧ sm.cnt = 1 + k ∧ aoI sm = [o]) ⟨_, v, .one o .nil, hm3', rfl, b78, hh8.le (by omega), ⟨v, [], rfl, ho.imp fun _ _ h => b78.sq hh7 h, rfl⟩, ⟨⟨⟨by rw [hod]; exact okD, hor⟩, trivial⟩, trivial, Nat.zero_le _⟩, by omega, rfl, rfl⟩ ?_ ?_
        · rintro k σ H9 hk ⟨z11, v9, sm9, hm9, rfl, b9, hh9, hms9, hok9, hh9', hc9, ha9⟩
          have hk3 : k < 3 := by omega
          refine ⟨.ref a, rfl, a, _, rfl, hh9, by omega, fun H10 nm b910 hh10 hz hzc hzs => ?_⟩
          refine ⟨v9, rfl, one_le, fun t11 n11 => ⟨three_le, fun t12 n12 => ⟨.int hm9, rfl, _, _, rfl, rfl, _, _, rfl, ?_⟩⟩⟩
          have s11 := same_new (o := .tup [v9]) n11
          have s12 := same_new (o := .tup [.str "house", .str nm, .ref t11]) n12
          have sm1012 := s11.trans s12
          refine ⟨_, .ref t12, .house nm sm9 .nil, _, rfl, (b9.trans b910).trans (But.of sm1012), (hh10.same sm1012).le (by omega), ⟨t12, t11, [v9], [], rfl, SqT.of upd_same, same_sqt s12 (SqT.of upd_same), (hms9.imp fun _ _ h => b910.sq hh9 h).same sm1012, rfl⟩, ⟨⟨hok9.al, trivial⟩, ⟨⟨hz, hzc, hzs⟩, hok9.nm, trivial⟩, ?_⟩, ?_, ?_, ?_⟩
          · show max (sm9.dep + 1) 0 ≤ k + 1
            have := hok9.dp
            omega
          · omega
          · show 1 + sm9.cnt + 0 = 1 + (k + 1)
            omega
          · show aoI sm9 ++ [] = [o]
            rw [ha9]
            rfl
        · rintro σ H9 ⟨z11, v9, sm9, hm9, rfl, b9, hh9, hms9, hok9, hh9', hc9, ha9⟩
          have hk3 : rr.toNat ≤ 3 := by omega
          have hpm9 := b9.sq hh7 (sq47 _ _ hpm4)
          have hms9' := (hms4.imp sq47).imp fun _ _ h => b9.sq hh7 h
          refine ⟨.ref pm, rfl, v9, rfl, one_le, fun t10 n10 => ?_⟩
          have s10 := same_new (o := .tup [v9]) n10
          refine catA (same_sqt s10 hpm9) (SqT.of upd_same) (Nat.le_of_lt (small1000 (by show _ + 1 ≤ 1000; omega))) fun H11 p11 sm11 hp11 => ?_
          have sm911 := s10.trans sm11
          refine ⟨_, _, _, _, p11, xs ++ [v9], m.app sm9, _, _, rfl, (b07.trans b9).trans (But.of sm911), (hh9.same sm911).le (by omega), hp11, MsAt.app (hms9'.same sm911) (hms9.same sm911), ⟨Ms.all_app hok.al hok9.al, Ms.nmn_app hok.nm hok9.nm, ?_⟩, by rw [List.length_append]; show _ + 1 ≤ _; omega, by omega, by omega, ?_, ?_, ?_, by omega⟩
          · rw [Ms.dep_app]
            have := hok.dp
            have := hok9.dp
            omega
          · rw [Ms.no_app]
            unfold Ms.no at hno ⊢
            rw [ha9]
            show _ + 1 ≤ _
            omega
          · rw [Ms.no_app, Ms.cnt_app, hc9]
            have : sm9.no = 1 := by unfold Ms.no; rw [ha9]; rfl
            omega
          · rw [Ms.ln_app]
            have : sm9.ln = lnO D := by
              unfold Ms.ln
              rw [ha9, ← hod]
              simp
            omega
      · refine ⟨_, _, _, _, pm, xs, m, rm3, hm3', rfl, b04.trans (But.of sm5), (hh4.same sm5).le (by omega), same_sqt sm5 hpm4, hms4.same sm5, hok, by omega, hm0, hm1, by omega, hnh, hln, hrm0⟩
    · rintro σ H3 ⟨y8, y9, y10, y11, pm, xs, m, rm3, hm3', rfl, b3, hh3, hpm, hms, hok, hxl, hm0, hm1, hno, hnh, hln, hrm0⟩
      have ht3 : tn.toNat ≤ 3 := by omega
      have hh3 : HandAt H3 a (n + 2401) := hh3.le (by omega)
      have hx3 : xs.length ≤ 3 := by omega
      refine ⟨.ref pm, rfl, 2, rfl, slA hpm fun H4 p4 sm4 hp4 => ?_⟩
      rw [take_any (by decide)] at hp4
      have hp4 : SqT K H4 p4 (xs.take 2) := hp4
      have hms4 := hms.same sm4
      refine ⟨p4, rfl, ⟨_, hp4⟩, fun D nD => lc_tup (xs := xs.take 2) (fun i H' => ∃ bs : List Bool, Same H4 H' ∧ H' D = some (.lst (bs.map wfV)) ∧ bs = (m.fl.take 2).take i) ⟨[], same_new nD, upd_same, rfl⟩ (fun i H' _ h => ?_) ?_ ?_⟩
      · obtain ⟨_, sm, _⟩ := h
        exact same_sqt sm hp4
      · rintro i x H5 hx ⟨bs, sm5, hD5, hbl⟩
        have hil := (List.getElem?_eq_some_iff.mp hx).1
        rw [List.length_take] at hil
        have hx2 : xs[i]? = some x := by
          rw [List.getElem?_take] at hx
          split at hx
          · exact hx
          · cases hx
        obtain ⟨k, hk, mk⟩ := hms4.nth hx2
        have mk5 := mk.imp fun _ _ h => same_sqt sm5 h
        obtain ⟨py, ys, rfl, hpy⟩ := mk5.wd
        have hbb : V.str (mkW k) = wfV (hdF k) := by cases k <;> rfl
        have hfl : (m.fl.take 2)[i]? = some (hdF k) := by
          rw [List.getElem?_take, if_pos (by omega)]
          exact Ms.fl_at hk
        have hbl2 : bs.length ≤ i := by rw [hbl, List.length_take]; omega
        refine ⟨rfl, tYes_in ⟨.ref py, rfl, py, _, 0, _, rfl, rfl, hpy, at_of (j := 0) rfl rfl, ?_⟩⟩
        rw [hbb]
        refine ⟨_, hD5, small1000 (by rw [List.length_map]; omega), bs ++ [hdF k], fun b' o eb => ?_, ?_, by rw [List.take_add_one, hfl, hbl]; rfl⟩
        · rw [upd_ne (ne_of_none eb nD)]
          exact sm5 _ _ eb
        · rw [upd_same, List.map_append]
          rfl
      · rintro H5 ⟨bs, sm5, hD5, hbl⟩
        refine ⟨two_le, fun l6 n6 => ?_⟩
        have s6 := same_new (o := .lst [.str "one", .str "one"]) n6
        have hl6 : (upd H5 l6 (.lst [.str "one", .str "one"])) l6 = some (.lst [.str "one", .str "one"]) := upd_same
        refine ⟨.list (bs.map wfD), .list [.str "one", .str "one"], .lst (SqL.of (s6 _ _ hD5)) (dp_wds bs), .lst (SqL.of hl6) (.cons (.str _) (.cons (.str _) .nil)), shaped_wds bs, shaped_wds [true, true], ?_⟩
        have sm36 := (sm4.trans sm5).trans s6
        clear s6 hl6
        have hfl : pl_of bs → m.fl.take 2 = [true, true] := fun h => by
          have h2 : bs = m.fl.take 2 := by
            rw [hbl]
            refine List.take_of_length_le ?_
            rw [List.length_take, List.length_take, hms.len, ms_fl_len]
            omega
          rw [← h2]
          exact plain_of (by rw [h2, List.length_take]; omega) h
        unfold pl_of at hfl
        generalize upd H5 l6 (.lst [.str "one", .str "one"]) = H6 at sm36
        generalize PyData.eqv (.list (bs.map wfD)) (.list [.str "one", .str "one"]) = pl at hfl
        have hh6 := hh3.same sm36
        have hpm6 := same_sqt sm36 hpm
        have hms6 := hms.same sm36
        have b06 := b3.trans (But.of sm36)
        refine ⟨fun σ H' => ∃ y6 y7 y8 y9 y10 y11 y12 pm xs m, σ = [some (.ref a), some (.int (many : Int)), some (.int 3), some (.int 2), some (.bl jp), some (.ref pm), y6, y7, y8, y9, y10, y11, y12] ∧ But a H H' ∧ HandAt H' a (n + 2450) ∧ SqT K H' pm xs ∧ MsAt K H' m xs ∧ HsR many m, ?_, ?_⟩
        · have keep : HsR many m := ⟨hok, by omega, by omega, by omega⟩
          refine ⟨.bl pl, rfl, pl, rfl, ?_⟩
          cases pl with
          | false => exact iteFF rfl (iteFF rfl ⟨_, _, _, _, _, _, _, pm, xs, m, rfl, b06, hh6.le (by omega), hpm6, hms6, keep⟩)
          | true =>
            refine iteTT rfl ⟨.ref a, rfl, a, 3, _, rfl, by decide, by decide, hh6, by omega, fun H7 z b7 hh7 z0 z1 => ⟨rfl, _, rfl, iteD (fun c => ?_) (fun c => ?_)⟩⟩
            · have hpm7 := b7.sq hh6 hpm6
              have hms7 := hms6.imp fun _ _ h => b7.sq hh6 h
              refine ⟨.ref a, rfl, a, _, rfl, hh7, by omega, fun H7' nm b7' hh7' hz hzc hzs => ?_⟩
              have hpm7 := b7'.sq hh7 hpm7
              have hms7 := hms7.imp fun _ _ h => b7'.sq hh7 h
              have b7 := b7.trans b7'
              have hh7 := hh7'
              refine ⟨.ref pm, rfl, 2, rfl, slA hpm7 fun H8 p8 sm8 hp8 => ⟨three_le, fun t9 n9 => ⟨one_le, fun t10 n10 => ⟨.ref pm, rfl, 2, rfl, ?_⟩⟩⟩⟩
              rw [take_any (by decide)] at hp8
              have hp8 : SqT K H8 p8 (xs.take 2) := hp8
              have s9 := same_new (o := .tup [.str "house", .str nm, .ref p8]) n9
              have s10 := same_new (o := .tup [.ref t9]) n10
              have sm710 := sm8.trans (s9.trans s10)
              dsimp only [tNoPart]
              refine slA (same_sqt sm710 hpm7) fun H11 p11 sm11 hp11 => ?_
              rw [show (2 : Int) = ((2 : Nat) : Int) from rfl, drop_all'] at hp11
              have sm811 := (s9.trans s10).trans sm11
              have ht10 : SqT K H11 t10 [.ref t9] := same_sqt sm11 (SqT.of upd_same)
              refine catA ht10 hp11 (Nat.le_of_lt (small1000 (by rw [List.length_drop]; show 1 + _ ≤ 1000; omega))) fun H12 p12 sm12 hp12 => ?_
              have sm712 := (sm710.trans sm11).trans sm12
              have ms12 := hms7.same sm712
              have new : MsAt K H12 (.house nm (m.tk 2) (m.drop 2)) ([.ref t9] ++ xs.drop 2) := ⟨t9, p8, xs.take 2, _, rfl, same_sqt sm12 (same_sqt sm11 (same_sqt s10 (SqT.of upd_same))), same_sqt sm12 (same_sqt sm811 hp8), ms12.tk, ms12.drop 2⟩
              refine ⟨_, _, _, _, _, _, _, p12, _, _, rfl, (b06.trans b7).trans (But.of sm712), (hh7.same sm712).le (by omega), hp12, new, ?_⟩
              obtain ⟨oa, ob, r, rfl⟩ := two_ones (hfl rfl)
              have hdp := hok.dp
              have hdp : r.dep ≤ 3 := hdp
              have hno : r.no + 1 + 1 ≤ tn.toNat := hno
              have hnh : ((1 + (1 + r.cnt) : Nat) : Int) - ((r.no + 1 + 1 : Nat) : Int) + hm3' = 11 := hnh
              refine ⟨⟨⟨⟨hok.al.1, hok.al.2.1, trivial⟩, hok.al.2.2⟩, ⟨⟨hz, hzc, hzs⟩, trivial, hok.nm⟩, ?_⟩, ?_, ?_, ?_⟩
              · show max (0 + 1) r.dep ≤ 3
                omega
              · show r.no + 1 + 1 ≤ 3
                omega
              · show 1 + (1 + (1 + 0)) + r.cnt - (r.no + 1 + 1) ≤ 12
                have := r.no_le
                omega
              · show (Ms.one oa (.one ob r)).ln ≤ roomI many
                omega
            · exact ⟨_, _, _, _, _, _, _, pm, xs, m, rfl, b06.trans b7, hh7.le (by omega), b7.sq hh6 hpm6, hms6.imp fun _ _ h => b7.sq hh6 h, keep⟩
        · rintro σ H7 ⟨y6, y7, y8', y9', y10', y11', y12, pm7, xs7, m7, rfl, b7, hh7, hpm7, hms7, hok7⟩
          refine ⟨.int (many : Int), rfl, .ref pm7, rfl, two_le, fun t nt => ?_⟩
          have st := same_new (o := .tup [.int (many : Int), .ref pm7]) nt
          exact q _ _ m7 (b7.trans (But.of st)) ((hh7.same st).le (by omega)) ⟨t, pm7, xs7, rfl, SqT.of upd_same, same_sqt st hpm7, hms7.same st⟩ hok7
end
end NG

namespace NG
open PySem PySem.Spec PyProof.Rows L2
structure HsF (many : Nat) (m : Ms) : Prop where
  ok : HsN many 3 m
  no : m.no ≤ 4
  nh : m.cnt - m.no ≤ 12
  ln : m.ln ≤ roomI many
theorem HsF.cnt {many : Nat} {m : Ms} (h : okCnt many m = true) : True := trivial
theorem HsF.good {many : Nat} {m : Ms} (h : HsF many m) : okCnt many m = true := by
  unfold okCnt
  rw [decide_eq_true (show m.no < 13 by have := h.no; omega), decide_eq_true (show m.cnt - m.no < 13 by have := h.nh; omega), decide_eq_true h.ln]
  rfl
def spRichN (K : PySem.W.Frag) : Sp := fun vs H Q _ => ∃ (a : Addr) (many n : Nat) (j : Bool), vs = [.ref a, .int (many : Int), .int 2, .bl j] ∧ 2 ≤ many ∧ many ≤ 3 ∧ HandAt H a n ∧ n ≤ 999000000 ∧
  ∀ H' v m, But a H H' → HandAt H' a (n + 4000) → HsAt K H' many m v → HsF many m → Q v H'
theorem bds0 (k : Nat) : lnO ⟨"", 0, [], .fig 50 :: List.replicate k (.fig 0), []⟩ = 0 := by
  show (bds (.fig 50) :: (List.replicate k (Ex.fig 0)).map bds).sum = 0
  rw [List.map_replicate, List.sum_cons]
  have : ∀ k, (List.replicate k (bds (.fig 0))).sum = 0 := fun k => by
    induction k with
    | zero => rfl
    | succ k ih => rw [List.replicate_succ, List.sum_cons, ih]; rfl
  rw [this]
  rfl
theorem rows_figs {K : PySem.W.Frag} {H : Hp} {f3 : Addr} (h : SqT K H f3 [.str "fig", .int 0]) : ∀ k, RowsAt K H (List.replicate k [V.ref f3]).flatten (List.replicate k (.fig 0))
  | 0 => trivial
  | k + 1 => by
    rw [List.replicate_succ, List.replicate_succ, List.flatten_cons]
    exact ⟨⟨f3, rfl, h⟩, rows_figs h k⟩
section
variable {P : Program} {w : World} {K : PySem.W.Frag} {mg : Str → Option Value} {base : Heap}
theorem ok_rich {f : Addr} {fd : FuncData} (F : Fun K "_law_rich" "_law_rich" s_L_rich f fd) (gF : mg "_law_rich" = some (.ref f)) (b : Binds K fd ["_law_hand_here", "_law_many", "_law_level", "_law_jumps"] []) (B : Bl mg) (c_L_doubter : Cal P w K mg base 10 "_law_doubter" (spDoubterN K 3)) (c_L_lines : Cal P w K mg base 10 "_law_lines" (spLines8 K 8)) (c_L_one : Cal P w K mg base 5 "_law_one" (spOneN K)) (c_L_house : Cal P w K mg base 11 "_law_house" (spHouseN K)) (c_L_all_ones : Cal P w K mg base 9 "_law_all_ones" (spAll K 8)) : Cal P w K mg base 12 "_law_rich" (spRichN K) := by
  refine ⟨f, fd, _, F.ok sc_L_rich (fun vs H Q E h => ?_) (fun cdv A outer s H vs Q E hr h => ?_), gF, F.kp, b⟩
  · obtain ⟨_, _, _, _, rfl, _⟩ := h
    rfl
  · obtain ⟨a, many, n, jp, rfl, hm2, hm3, hh, hn, q⟩ := h
    refine ⟨_, (pss_cons (ps_set (i := 4) sc_L_rich.nd rfl (.inl rfl) (pe_c c_L_doubter hr (by omega) (by rfl) (pa_cons (pv 0) (pa_cons (pv 1) (pa_cons (pe_callB (call_min2 rfl) (by rfl) B.min (by decide +kernel) (pa_cons (pv 2) (pa_cons pe_int pa_nil))) (pa_cons (pv 3) pa_nil)))))) (pss_cons (ps_set (i := 5) sc_L_rich.nd rfl (.inl rfl) (pe_c c_L_house hr (by omega) (by rfl) (pa_cons (pv 0) (pa_cons (pv 1) (pa_cons pe_int (pa_cons (pv 2) (pa_cons (pv 3) pa_nil))))))) (pss_cons (ps_set (i := 6) sc_L_rich.nd rfl (.inl rfl) (pe_op op_sub (pe_dget (hu_of hr) (pe_disp (pps_cons pe_int pe_int (pps_cons pe_int pe_int pps_nil)) (by rfl) (by rfl) (by simp) (by decide)) (pv 1) (fun _ _ => rfl)) (pe_callB (cr_sum rfl) (by rfl) B.sum (by decide +kernel) (pa_cons (pe_lc (own := [("_law_one_here", 7)]) rfl sc_L_rich.nd (pi_list (pe_c c_L_all_ones hr (by omega) (by rfl) (pa_cons (pe_ix ix_tup (pv 5) pe_int (fun _ _ => rfl)) pa_nil))) (blkOk_by (N := N_L_rich) (sc := defScope s_L_rich) (by decide +kernel)) (fun _ _ _ _ _ => pg_name (i := 7) sc_L_rich.nd rfl (.inl rfl)) (fun _ _ _ _ _ => pts_nil) (fun _ _ _ _ _ => pe_c c_L_lines hr (by omega) (by rfl) (pa_cons (pe_ix (ixt K) (pv 7) pe_int (fun _ _ => rfl)) pa_nil))) pa_nil)))) (C8.pss_cut (ps_if (pt_cmpR op_gt (pe_c c_L_lines hr (by omega) (by rfl) (pa_cons (pv 4) pa_nil)) (pv 6) (nomark _)) (pss_one (ps_set (i := 4) sc_L_rich.nd rfl (.inl rfl) (pe_tup (pa_cons (pe_ix ix_tup (pv 4) pe_int (fun _ _ => rfl)) (pa_cons pe_int (pa_cons (pe_ix ix_tup (pv 4) pe_int (fun _ _ => rfl)) (pa_cons (pe_op op_catA (pe_tup (pa_cons (pe_tup (pa_cons pe_str (pa_cons pe_int pa_nil))) pa_nil)) (pe_op op_repA (pe_tup (pa_cons (pe_tup (pa_cons pe_str (pa_cons pe_int pa_nil))) pa_nil)) (pe_op op_sub (pv 1) pe_int))) (pa_cons (pe_ix ix_tup (pv 4) pe_int (fun _ _ => rfl)) pa_nil)))))))) pss_nil) (pss_one (ps_ret (pe_tup (pa_cons (pv 1) (pa_cons (pe_op op_catA (pe_tup (pa_cons (pe_c c_L_one hr (by omega) (by rfl) (pa_cons (pv 0) (pa_cons (pv 4) pa_nil))) pa_nil)) (pe_ix ix_tup (pv 5) pe_int (fun _ _ => rfl))) pa_nil))))))))), ?_⟩
    have one_le : 1 ≤ sizeLine := by decide
    have two_le : 2 ≤ sizeLine := by decide
    have five_le : 5 ≤ sizeLine := by decide
    have ec : cost 1 = 32 := rfl
    refine ⟨.ref a, rfl, .int (many : Int), rfl, .int 2, rfl, _, _, rfl, .bl jp, rfl, a, many, 1, _, jp, rfl, trivial, by decide, by decide, by omega, hm3, hh, by omega, fun H1 dv D b1 hh1 hD okD => ?_⟩
    have okD := okD.mono (show 1 ≤ 2 by decide)
    have hh1 : HandAt H1 a (n + 396) := hh1.le (by omega)
    refine ⟨.ref a, rfl, .int (many : Int), rfl, .int 2, rfl, .bl jp, rfl, a, many, _, jp, rfl, hm2, hm3, hh1, by omega, fun H2 hv m b2 hh2 hH hok => ?_⟩
    have b02 := b1.trans b2
    have hD2 := hD.imp fun _ _ h => b2.sq hh1 h
    obtain ⟨ph, pm, xs, rfl, hph, hpm, hms⟩ := hH
    -- room
    refine fun dp ndp => ⟨upd_same, [(Sum.inl 2, .int 400), (Sum.inl 3, .int 60)], rfl, (by show 2 ≤ 15; decide), ?_⟩
    have smD : ∀ o', Same H2 (upd (upd H2 dp (HO.dK [])) dp o') := fun o' b' ob eb => by
      rw [upd_ne (ne_of_none eb ndp), upd_ne (ne_of_none eb ndp)]
      exact eb
    have smD := smD (HO.dK (mergeK [] [(Sum.inl 2, V.int 400), (Sum.inl 3, V.int 60)]))
    have hrm : DGet (upd (upd H2 dp (HO.dK [])) dp (HO.dK (mergeK [] [(Sum.inl 2, V.int 400), (Sum.inl 3, V.int 60)]))) dp (V.int (many : Int)) (some (.int (roomI many))) := by
      have : many = 2 ∨ many = 3 := by omega
      rcases this with rfl | rfl
      · exact .inl ⟨_, Sum.inl 2, .inl upd_same, rfl, rfl⟩
      · exact .inl ⟨_, Sum.inl 3, .inl upd_same, rfl, rfl⟩
    refine ⟨.int (many : Int), rfl, dp, .int (roomI many), rfl, hrm, ?_⟩
    clear hrm
    generalize upd (upd H2 dp (HO.dK [])) dp (HO.dK (mergeK [] [(Sum.inl 2, V.int 400), (Sum.inl 3, V.int 60)])) = H3 at smD
    refine ⟨.ref ph, rfl, ph, _, 1, _, rfl, rfl, same_sqt smD hph, rfl, pm, xs, m, rfl, same_sqt smD hpm, hms.same smD, by have := hok.ok.dp; omega, by have := hok.no; have := hok.nh; have := m.no_le; omega, fun H4 l us sm4 nl hl hos => ?_⟩
    have hul : us.length ≤ 13 := by
      rw [hos.len]
      have h : (aoI m).length ≤ 3 := hok.no
      omega
    refine ⟨l, rfl, ⟨_, SqL.of hl⟩, fun D' nD => lc_list (xs := us) (fun i H' => ∃ ns : List Int, Same H4 H' ∧ H' D' = some (.lst (ns.map V.int)) ∧ ns = ((aoI m).take i).map fun o => lnO o.dbt) ⟨[], same_new nD, upd_same, rfl⟩ (fun i H' _ h => ?_) ?_ ?_⟩
    · obtain ⟨_, sm, _⟩ := h
      exact SqL.of (sm _ _ hl)
    · rintro i x H5 hx ⟨ns, sm5, hD5, hnl⟩
      have hil := (List.getElem?_eq_some_iff.mp hx).1
      obtain ⟨o, ho, ⟨py, dv2, rv, rfl, hpy, hdv2, _⟩⟩ := hos.get hx
      have ok := ((ao_all hok.ok.al o (List.mem_of_getElem? ho)).1).lin (Nat.le_refl _) hm3
      have hnl2 : ns.length ≤ 13 := by rw [hnl, List.length_map, List.length_take]; have h : (aoI m).length ≤ 3 := hok.no; omega
      refine ⟨rfl, tYes_in ?_⟩
      refine ⟨.ref py, rfl, py, _, 1, _, rfl, rfl, same_sqt sm5 hpy, rfl, dv2, o.dbt, many, rfl, hdv2.same sm5, ok.1, ok.2, fun H6 sm6 => ?_⟩
      refine ⟨_, sm6 _ _ hD5, small1000 (by rw [List.length_map]; omega), ns ++ [lnO o.dbt], fun b' o eb => ?_, ?_, by rw [List.take_add_one, ho, List.map_append, hnl]; rfl⟩
      · rw [upd_ne (ne_of_none eb nD)]
        exact sm6 _ _ (sm5 _ _ eb)
      · rw [upd_same, List.map_append]
        rfl
    · rintro H5 ⟨ns, sm5, hD5, hnl⟩
      rw [hos.len, List.take_length] at hnl
      have hns : ns.sum = m.ln := by rw [hnl]; rfl
      refine ⟨D', ns, rfl, SqL.of hD5, _, _, rfl, rfl, ?_⟩
      rw [hns]
      have sm25 := (smD.trans sm4).trans sm5
      have hD5' := hD2.same sm25
      have hh5 := hh2.same sm25
      have b05 := b02.trans (But.of sm25)
      refine ⟨fun σ H' => ∃ dv D y6 y7, σ = [some (.ref a), some (.int (many : Int)), some (.int 2), some (.bl jp), some dv, some (.ref ph), y6, y7] ∧ Same H5 H' ∧ DbAt K H' D dv ∧ DbN many 2 D ∧ lnO D ≤ roomI many - m.ln, ?_, ?_⟩
      · refine ⟨dv, rfl, dv, D, many, rfl, hD5', (okD.lin (Nat.le_refl _) hm3).1, (okD.lin (Nat.le_refl _) hm3).2, fun H6 sm6 => ⟨_, rfl, _, _, rfl, rfl, _, rfl, iteD (fun c => ?_) (fun c => ?_)⟩⟩
        · obtain ⟨pd, vb, ps, pb, us2, ws2, rfl, hpd, hvb, hps, hus, hpb, hws⟩ := hD5'.same sm6
          refine ⟨.ref pd, rfl, pd, _, 0, _, rfl, rfl, hpd, rfl, .ref pd, rfl, pd, _, 2, _, rfl, rfl, hpd, rfl, two_le, fun f1 nf1 => ⟨one_le, fun f2 nf2 => ⟨two_le, fun f3 nf3 => ⟨one_le, fun f4 nf4 => ?_⟩⟩⟩⟩
          have s1 := same_new (o := .tup [.str "fig", .int 50]) nf1
          have s2 := same_new (o := .tup [.ref f1]) nf2
          have s3 := same_new (o := .tup [.str "fig", .int 0]) nf3
          have s4 := same_new (o := .tup [.ref f3]) nf4
          have s14 := s1.trans (s2.trans (s3.trans s4))
          refine ⟨.int (many : Int), rfl, _, _, rfl, rfl, f4, _, [.ref f3], rfl, rfl, SqT.of upd_same, by omega, by omega, (by show 1 ≤ 1000; decide), fun H8 p8 sm8 hp8 => ?_⟩
          have h1 : SqT K H8 f1 [.str "fig", .int 50] := same_sqt sm8 (same_sqt s4 (same_sqt s3 (same_sqt s2 (SqT.of upd_same))))
          have h2 : SqT K H8 f2 [.ref f1] := same_sqt sm8 (same_sqt s4 (same_sqt s3 (SqT.of upd_same)))
          have h3 : SqT K H8 f3 [.str "fig", .int 0] := same_sqt sm8 (same_sqt s4 (SqT.of upd_same))
          have hrl : (List.replicate ((many : Int) - 1).toNat [V.ref f3]).flatten.length ≤ 2 := by
            have : many = 2 ∨ many = 3 := by omega
            rcases this with rfl | rfl
            · exact (by show 1 ≤ 2; decide)
            · exact Nat.le_refl 2
          refine catA h2 hp8 (Nat.le_of_lt (small1000 (by show 1 + _ ≤ 1000; omega))) fun H9 p9 sm9 hp9 => ?_
          have sm69 := (s14.trans sm8).trans sm9
          refine ⟨.ref pd, rfl, pd, _, 4, _, rfl, rfl, same_sqt sm69 hpd, rfl, five_le, fun t10 n10 => ?_⟩
          have s10 := same_new (o := .tup [.str D.name, .int 0, vb, .ref p9, .ref pb]) n10
          have sm610 := sm69.trans s10
          have ek : ((many : Int) - 1).toNat = many - 1 := by omega
          refine ⟨.ref t10, ⟨D.name, 0, D.begins, .fig 50 :: List.replicate ((many : Int) - 1).toNat (.fig 0), D.behinds⟩, _, _, rfl, sm6.trans sm610, ⟨t10, vb, p9, pb, _, ws2, rfl, SqT.of upd_same, hvb.same sm610, same_sqt s10 hp9, ⟨⟨f1, rfl, same_sqt s10 (same_sqt sm9 h1)⟩, rows_figs (same_sqt s10 (same_sqt sm9 h3)) _⟩, same_sqt sm610 hpb, hws.same sm610⟩, ⟨okD.nm, okD.ch, okD.sz, ⟨.inl rfl, (by show 0 < 5; decide), okD.ok.rg, ?_, fun e he => ?_, okD.ok.bl, okD.ok.bh⟩, fun e he => ?_⟩, ?_⟩
          · show (List.replicate ((many : Int) - 1).toNat (Ex.fig 0)).length + 1 = many
            rw [List.length_replicate]
            omega
          · have he : e = .fig 50 ∨ e = .fig 0 := by
              rcases List.mem_cons.mp he with he | he
              · exact .inl he
              · exact .inr (List.mem_replicate.mp he).2
            rcases he with rfl | rfl
            · exact ⟨⟨by decide, by decide⟩, by decide⟩
            · exact ⟨⟨by decide, by decide⟩, by decide⟩
          · have he : e = .fig 50 ∨ e = .fig 0 := by
              rcases List.mem_cons.mp he with he | he
              · exact .inl he
              · exact .inr (List.mem_replicate.mp he).2
            rcases he with rfl | rfl
            · exact .inl ⟨50, rfl, by decide, by decide⟩
            · exact .inl ⟨0, rfl, by decide, by decide⟩
          · rw [show lnO ⟨D.name, 0, D.begins, .fig 50 :: List.replicate ((many : Int) - 1).toNat (.fig 0), D.behinds⟩ = 0 from bds0 _]
            have := hok.ln
            omega
        · exact ⟨dv, D, _, _, rfl, sm6, hD5'.same sm6, okD, by omega⟩
      · rintro σ H6 ⟨dv6, D6, y6, y7, rfl, sm6, hD6, ok6, hl6⟩
        have sm26 := sm25.trans sm6
        have hh6 := hh5.same sm6
        refine ⟨.int (many : Int), rfl, .ref a, rfl, dv6, rfl, a, dv6, D6, _, rfl, hh6, by omega, hD6, fun H7 v o b7 hh7 ho hod hor => ⟨one_le, fun t8 n8 => ?_⟩⟩
        have s8 := same_new (o := .tup [v]) n8
        have sq28 : ∀ p xs, SqT K H2 p xs → SqT K (upd H7 t8 (.tup [v])) p xs := fun _ _ h => same_sqt s8 (b7.sq hh6 (same_sqt sm26 h))
        refine ⟨.ref ph, rfl, ph, _, 1, _, rfl, rfl, sq28 _ _ hph, rfl, catA (SqT.of upd_same) (sq28 _ _ hpm) (Nat.le_of_lt (small1000 (by have h1 := hms.len; have h2 := m.len_le; have h3 := hok.no; have h4 := hok.nh; have h5 := m.no_le; show 1 + _ ≤ 1000; omega))) fun H9 p9 sm9 hp9 => ⟨two_le, fun t10 n10 => ?_⟩⟩
        have s10 := same_new (o := .tup [.int (many : Int), .ref p9]) n10
        have sm810 := sm9.trans s10
        refine q _ _ (.one o m) ((b05.trans (But.of sm6)).trans (b7.trans (But.of (s8.trans sm810)))) ((hh7.same (s8.trans sm810)).le (by omega)) ⟨t10, p9, v :: xs, rfl, SqT.of upd_same, same_sqt s10 hp9, v, xs, rfl, (ho.imp fun _ _ h => same_sqt s8 h).imp fun _ _ h => same_sqt sm810 h, (hms.imp sq28).same sm810⟩ ⟨⟨⟨⟨by rw [hod]; exact ok6, hor⟩, hok.ok.al⟩, hok.ok.nm, hok.ok.dp⟩, ?_, ?_, ?_⟩
        · show m.no + 1 ≤ 4
          have := hok.no
          omega
        · show 1 + m.cnt - (m.no + 1) ≤ 12
          have := hok.nh
          omega
        · show lnO o.dbt + m.ln ≤ roomI many
          rw [hod]
          omega
end
end NG

namespace NG
open PySem PySem.Spec PyProof.Rows L2
theorem tame_ex {many : Nat} (hm : many ≤ 3) : ∀ {e : Ex}, ExOk many e → tame 10000 (toD e) = true
  | .fig c, h => by
    have h : -1000 ≤ c ∧ c ≤ 1000 := h
    simp only [toD, tame, tameAll, Bool.and_true]
    exact (by decide : ∀ b : Bool, b = true → (true && b) = true) _ (decide_eq_true (by omega))
  | .reg i, h => by
    have h : i < 4 := h
    simp only [toD, tame, tameAll, Bool.and_true]
    exact (by decide : ∀ b : Bool, b = true → (true && b) = true) _ (decide_eq_true (by omega))
  | .share i, h => by
    have h : i < many := h
    simp only [toD, tame, tameAll, Bool.and_true]
    exact (by decide : ∀ b : Bool, b = true → (true && b) = true) _ (decide_eq_true (by omega))
  | .two o x y, h => by
    have hx := tame_ex hm (e := x) h.1
    have hy := tame_ex hm (e := y) h.2
    simp only [toD, tame, tameAll, hx, hy, Bool.and_true]
    cases o <;> decide
  | .times f x, h => by
    have h1 : -9 ≤ f ∧ f ≤ 9 := h.1
    have hx := tame_ex hm (e := x) h.2
    simp only [toD, tame, tameAll, hx, Bool.and_true]
    exact (by decide : ∀ b : Bool, b = true → (true && b) = true) _ (decide_eq_true (by omega))
  | .by i x, h => by
    have h1 : i < 4 := h.1
    have hx := tame_ex hm (e := x) h.2
    simp only [toD, tame, tameAll, hx, Bool.and_true]
    exact (by decide : ∀ b : Bool, b = true → (true && b) = true) _ (decide_eq_true (by omega))
  | .when i c x y, h => by
    have h1 : i < 4 := h.1
    have h2 : -1000 ≤ c ∧ c ≤ 1000 := h.2.1
    have hx := tame_ex hm (e := x) h.2.2.1
    have hy := tame_ex hm (e := y) h.2.2.2
    simp only [toD, tame, tameAll, hx, hy, Bool.and_true]
    exact (by decide : ∀ b c : Bool, b = true → c = true → (true && (b && c)) = true) _ _ (decide_eq_true (by omega)) (decide_eq_true (by omega))
  | .whr j c x y, h => by
    have h1 : j < many := h.1
    have h2 : 1 ≤ c ∧ c ≤ 1000 := h.2.1
    have hx := tame_ex hm (e := x) h.2.2.1
    have hy := tame_ex hm (e := y) h.2.2.2
    simp only [toD, tame, tameAll, hx, hy, Bool.and_true]
    exact (by decide : ∀ b c : Bool, b = true → c = true → (true && (b && c)) = true) _ _ (decide_eq_true (by omega)) (decide_eq_true (by omega))
theorem tame_ds {many : Nat} (hm : many ≤ 3) : ∀ {d : Ds}, DsOk many d → tameAll 10000 (dsD d) = true
  | .nil, _ => rfl
  | .op w i x r, ⟨o1, o2, o3⟩ => by
    have hr := tame_ds hm (d := r) o3
    have hx := xok_small (many := many) (by omega) o2
    simp only [dsD, tame, tameAll, hr, Bool.and_true]
    have e1 : decide ((i : Int).natAbs ≤ 10000) = true := decide_eq_true (by omega)
    have e2 : decide (x.natAbs ≤ 10000) = true := decide_eq_true (by omega)
    rw [e1, e2]
    cases w <;> decide
  | .when i c a b r, ⟨o1, o2, o3, o4, o5⟩ => by
    have ha := tame_ds hm (d := a) o3
    have hb := tame_ds hm (d := b) o4
    have hr := tame_ds hm (d := r) o5
    simp only [dsD, tame, tameAll, ha, hb, hr, Bool.and_true]
    exact (by decide : ∀ b c : Bool, b = true → c = true → (true && (b && c)) = true) _ _ (decide_eq_true (by omega)) (decide_eq_true (by omega))
theorem tame_map {α : Type} {f : α → PyData} {B : Nat} : ∀ {l : List α}, (∀ x ∈ l, tame B (f x) = true) → tameAll B (l.map f) = true
  | [], _ => rfl
  | x :: r, h => by
    show (tame B (f x) && tameAll B (r.map f)) = true
    rw [h x List.mem_cons_self, tame_map fun y hy => h y (List.mem_cons_of_mem _ hy)]
    rfl
theorem wt_stake {many : Nat} (hm : many ≤ 3) {e : Ex} (o : ExOk many e) (s : StOk many 2 e) : (toD e).weight ≤ 600 := by
  rcases s with ⟨c, rfl, c1, c2⟩ | ⟨c, e', rfl, c1, c2, o', d'⟩
  · have := (shw_ex (many := many) (by omega) o).wt
    exact Nat.le_trans this (by show wgt 1 ≤ 600; decide)
  · have h1 := (shw_ex (many := many) (by omega) o.1).wt
    have h2 := (shw_ex (many := many) (by omega) o.2.1).wt
    have h3 := (shw_ex (many := many) (by omega) o').wt
    have h4 : wgt e'.dep ≤ wgt 3 := wgt_mono (by omega)
    have h1 : (toD (.fig c)).weight ≤ 60 := h1
    have h2 : (toD (.fig (-c))).weight ≤ 60 := h2
    have h5 : wgt 3 = 420 := rfl
    have e : (toD (.two .least (.fig c) (.two .most (.fig (-c)) e'))).weight = 5 + 1 + ((toD (.fig c)).weight + 1 + (4 + 1 + ((toD (.fig (-c))).weight + 1 + ((toD e').weight + 1 + 0)) + 1 + 0)) := rfl
    omega
theorem dep_ex {many : Nat} (hm : many ≤ 3) {e : Ex} (o : ExOk many e) : (toD e).depth ≤ e.dep := (shw_ex (many := many) (by omega) o).dp
theorem wt_map {α : Type} {f : α → PyData} {w : Nat} : ∀ {l : List α}, (∀ x ∈ l, (f x).weight ≤ w) → PyData.weightAll (l.map f) ≤ (w + 1) * l.length
  | [], _ => Nat.le_refl _
  | x :: l, h => by
    have h1 := h x List.mem_cons_self
    have h2 := wt_map (l := l) fun y hy => h y (List.mem_cons_of_mem _ hy)
    show (f x).weight + 1 + PyData.weightAll (l.map f) ≤ _
    rw [List.length_cons, Nat.mul_add]
    omega
theorem dp_map {α : Type} {f : α → PyData} {k : Nat} : ∀ {l : List α}, (∀ x ∈ l, (f x).depth ≤ k) → PyData.depthAll (l.map f) ≤ k
  | [], _ => Nat.zero_le _
  | x :: l, h => by
    have h1 := h x List.mem_cons_self
    have h2 := dp_map (l := l) fun y hy => h y (List.mem_cons_of_mem _ hy)
    show max (f x).depth (PyData.depthAll (l.map f)) ≤ _
    omega
theorem tm_dbN {many : Nat} {D : Dbt} (hm : many ≤ 3) (x : DbN many 2 D) : Tm 10000 4000 8 (dbD D) := by
  have o := x.ok
  have hst : ∀ e ∈ D.stakes, ExOk many e ∧ e.dep ≤ 5 := fun e he => o.st e he
  have hbh : ∀ d ∈ D.behinds, DsOk many d ∧ d.dep ≤ 2 ∧ d.cnt ≤ 10 := fun d hd => o.bh d hd
  have hsl : D.stakes.length = many := o.sl
  have hbl : D.behinds.length = many := o.bl
  have hrg : RegOk D.begins := o.rg
  have hsc : D.scale < 5 := o.sc
  refine ⟨?_, ?_, ?_⟩
  · have t2 : tameAll 10000 (D.begins.map PyData.int) = true := tame_map fun x hx => by
      have := hrg.2 x hx
      unfold tame
      exact decide_eq_true (by omega)
    have t3 : tameAll 10000 (D.stakes.map toD) = true := tame_map fun e he => tame_ex hm (hst e he).1
    have t4 : tameAll 10000 (D.behinds.map fun d => PyData.tuple (dsD d)) = true := tame_map fun d hd => by
      unfold tame
      exact tame_ds hm (hbh d hd).1
    have t1 : decide ((D.scale : Int).natAbs ≤ 10000) = true := decide_eq_true (by omega)
    show tame 10000 (.tuple [.str D.name, .int (D.scale : Int), .tuple (D.begins.map PyData.int), .tuple (D.stakes.map toD), .tuple (D.behinds.map fun d => .tuple (dsD d))]) = true
    simp only [tame, tameAll, t1, t2, t3, t4, x.ch, Bool.and_true]
  · have w1 := x.sz
    have w2 : (PyData.int (D.scale : Int)).weight ≤ 15 := (Shw.small (i := (D.scale : Int)) (by omega)).wt
    have w3 := (shw_smalls hrg.2).wt
    have w4 : PyData.weightAll (D.stakes.map toD) ≤ (600 + 1) * D.stakes.length := wt_map fun e he => wt_stake hm (hst e he).1 (x.st e he)
    have w5 : PyData.weightAll (D.behinds.map fun d => PyData.tuple (dsD d)) ≤ (600 + 1) * D.behinds.length := wt_map fun d hd => by
      have h1 := (shw_ds (many := many) (by omega) (hbh d hd).1).wt
      have h2 := (hbh d hd).2.2
      show PyData.weightAll (dsD d) ≤ 600
      omega
    rw [hrg.1] at w3
    rw [hsl] at w4
    rw [hbl] at w5
    have a1 : (600 + 1) * many ≤ (600 + 1) * 3 := Nat.mul_le_mul_left _ hm
    show D.name.cps.size + 1 + ((PyData.int (D.scale : Int)).weight + 1 + (PyData.weightAll (D.begins.map PyData.int) + 1 + (PyData.weightAll (D.stakes.map toD) + 1 + (PyData.weightAll (D.behinds.map fun d => .tuple (dsD d)) + 1 + 0)))) ≤ 4000
    omega
  · have d3 := (shw_smalls hrg.2).dp
    have d4 : PyData.depthAll (D.stakes.map toD) ≤ 5 := dp_map fun e he => Nat.le_trans (dep_ex hm (hst e he).1) (hst e he).2
    have d5 : PyData.depthAll (D.behinds.map fun d => PyData.tuple (dsD d)) ≤ 5 := dp_map fun d hd => by
      have h1 := (shw_ds (many := many) (by omega) (hbh d hd).1).dp
      have h2 := (hbh d hd).2.1
      show PyData.depthAll (dsD d) + 1 ≤ 5
      omega
    show max 0 (max 0 (max (PyData.depthAll (D.begins.map PyData.int) + 1) (max (PyData.depthAll (D.stakes.map toD) + 1) (max (PyData.depthAll (D.behinds.map fun d => .tuple (dsD d)) + 1) 0)))) + 1 ≤ 8
    omega
theorem tm_oneN {many : Nat} {o : One} (hm : many ≤ 3) (x : OneN many o) : Tm (10 ^ 13) 5000 9 (oneD o) := by
  have e13 : (10 : Nat) ^ 13 = 10000000000000 := by decide
  have hB : (10 : Nat) ^ 13 < 10 ^ 40 := by decide
  have h0 : Tm (10 ^ 13) 10 8 (.str "one") := (Tm.str (by decide) (by decide)).mono (Nat.le_refl _) (Nat.le_refl _) (Nat.zero_le _)
  have h1 := (tm_dbN hm x.1).mono (B' := 10 ^ 13) (D' := 8) (by omega) (Nat.le_refl _) (Nat.le_refl _)
  have i : ∀ z : Int, z.natAbs ≤ 10000000000000 → Tm (10 ^ 13) 140 8 (.int z) := fun z h => (Tm.int (by omega) hB).mono (Nat.le_refl _) (Nat.le_refl _) (Nat.zero_le _)
  have r := x.2
  have h2 : Tm (10 ^ 13) 64 8 (.tuple (o.regs.map PyData.int)) := by
    have w3 := (shw_smalls r.rg.2).wt
    have d3 := (shw_smalls r.rg.2).dp
    rw [r.rg.1] at w3
    refine ⟨?_, w3, by show PyData.depthAll (o.regs.map PyData.int) + 1 ≤ 8; omega⟩
    unfold tame
    exact tame_map fun z hz => by
      have := r.rg.2 z hz
      unfold tame
      exact decide_eq_true (by omega)
  have a1 := r.w1
  have a2 := r.m1
  have a3 := r.o1
  have a4 := r.d1
  have a5 := r.g1
  exact (Tms.cons h0 (Tms.cons h1 (Tms.cons h2 (Tms.cons (i o.weight (by omega)) (Tms.cons (i o.motes (by omega)) (Tms.cons (i o.owed (by omega)) (Tms.cons (i o.days (by omega)) (Tms.cons (i o.got (by omega)) (.nil (W := 0)))))))))).tup.mono (Nat.le_refl _) (by omega) (Nat.le_refl _)
def wM : Ms → Nat
  | .nil => 0
  | .one _ r => 5001 + wM r
  | .house _ m r => 40 + wM m + wM r
theorem wM_le : ∀ m : Ms, wM m ≤ 5001 * m.no + 40 * (m.cnt - m.no)
  | .nil => Nat.le_refl _
  | .one o r => by
    have h1 := wM_le r
    have h2 := r.no_le
    show 5001 + wM r ≤ 5001 * (r.no + 1) + 40 * (1 + r.cnt - (r.no + 1))
    omega
  | .house nm m r => by
    have h1 := wM_le m
    have h2 := wM_le r
    have h3 := m.no_le
    have h4 := r.no_le
    have e : (Ms.house nm m r).no = m.no + r.no := List.length_append
    rw [e]
    show 40 + wM m + wM r ≤ 5001 * (m.no + r.no) + 40 * (1 + m.cnt + r.cnt - (m.no + r.no))
    omega
theorem tms_ms {many : Nat} (hm : many ≤ 3) : ∀ {m : Ms}, m.all (OneN many) → m.nmn → Tms (10 ^ 13) (wM m) (9 + 2 * m.dep) (msD m)
  | .nil, _, _ => .nil
  | .one o r, ⟨a, b⟩, n => (Tms.cons ((tm_oneN hm a).mono (Nat.le_refl _) (Nat.le_refl _) (by omega)) (tms_ms hm b n)).mono (Nat.le_refl _) (by show 5000 + 1 + wM r ≤ 5001 + wM r; omega) (Nat.le_refl _)
  | .house nm m r, ⟨a, b⟩, ⟨n1, n2, n3⟩ => by
    have h1 := tms_ms hm a n2
    have h2 := tms_ms hm b n3
    have hn : Tm (10 ^ 13) 10 (10 + 2 * m.dep) (.str nm) := (Tm.str n1.2.1 n1.2.2).mono (Nat.le_refl _) (Nat.le_refl _) (Nat.zero_le _)
    have hh : Tm (10 ^ 13) 10 (10 + 2 * m.dep) (.str "house") := (Tm.str (by decide) (by decide)).mono (Nat.le_refl _) (Nat.le_refl _) (Nat.zero_le _)
    have hm' := h1.tup
    have ht := (Tms.cons hh (Tms.cons hn (Tms.cons (hm'.mono (D' := 10 + 2 * m.dep) (Nat.le_refl _) (Nat.le_refl _) (by omega)) (.nil (W := 0))))).tup
    exact (Tms.cons (ht.mono (D' := 9 + 2 * max (m.dep + 1) r.dep) (Nat.le_refl _) (Nat.le_refl _) (by omega)) (h2.mono (D' := 9 + 2 * max (m.dep + 1) r.dep) (Nat.le_refl _) (Nat.le_refl _) (by omega))).mono (Nat.le_refl _) (by show _ ≤ 40 + wM m + wM r; omega) (Nat.le_refl _)
theorem tm_house {many : Nat} {m : Ms} (hm : many ≤ 3) (h : HsF many m) : Tm (10 ^ 31) 20700 17 (hsD many m) := by
  have h1 := tms_ms hm h.ok.al h.ok.nm
  have h2 := wM_le m
  have h3 := h.no
  have h4 := h.nh
  have h5 := h.ok.dp
  have e13 : (10 : Nat) ^ 13 = 10000000000000 := by decide
  have hi : Tm (10 ^ 13) 140 16 (.int (many : Int)) := (Tm.int (by omega) (by decide)).mono (Nat.le_refl _) (Nat.le_refl _) (Nat.zero_le _)
  exact (Tms.cons hi (Tms.cons (h1.tup.mono (D' := 16) (Nat.le_refl _) (Nat.le_refl _) (by omega)) (.nil (W := 0)))).tup.mono (by decide) (by omega) (Nat.le_refl _)
end NG

set_option maxHeartbeats 2000000
namespace NG
open PySem PySem.Spec PyProof.Rows L2
/-! ### a heap without the hand and some lists that change -/
def hideL (S : List Addr) (H : Hp) : Hp := fun b => if b ∈ S then none else H b
theorem hideL_ne {S : List Addr} {b : Addr} {H : Hp} (h : b ∉ S) : hideL S H b = H b := if_neg h
theorem hideL_same {S : List Addr} {H : Hp} : Same (hideL S H) H := fun b o e => by
  unfold hideL at e
  split at e
  · cases e
  · exact e
theorem hideL_but {S : List Addr} {a : Addr} {H H' : Hp} (h : But a H H') : Same (hideL (a :: S) H) (hideL (a :: S) H') := fun b o e => by
  unfold hideL at e ⊢
  split at e
  · cases e
  · rename_i hn
    rw [if_neg hn]
    exact h b o (fun z => hn (z ▸ List.mem_cons_self)) e
theorem hideL_same2 {S : List Addr} {H H' : Hp} (h : Same H H') : Same (hideL S H) (hideL S H') := fun b o e => by
  unfold hideL at e ⊢
  split at e
  · cases e
  · rename_i hn
    rw [if_neg hn]
    exact h b o e
theorem hideL_put {S : List Addr} {l : Addr} {H : Hp} {o : HO} (h : l ∈ S) : Same (hideL S H) (hideL S (upd H l o)) := fun b o e => by
  unfold hideL at e ⊢
  split at e
  · cases e
  · rename_i hn
    rw [if_neg hn, upd_ne (show b ≠ l from fun z => hn (by rw [z]; exact h))]
    exact e
theorem hideL_at {S : List Addr} {p : Addr} {H : Hp} {o : HO} (h : p ∉ S) (q : H p = some o) : hideL S H p = some o := (hideL_ne h).trans q
structure Tr (a : Addr) (L : List Addr) (n : Nat) (H : Hp) : Prop where
  hand : HandAt H a n
  ls : ∀ x ∈ L, x ≠ a ∧ ∃ xs, H x = some (.lst xs)
theorem Tr.lst {a : Addr} {L : List Addr} {n : Nat} {H : Hp} (t : Tr a L n H) : ∀ x ∈ a :: L, ∃ xs, H x = some (.lst xs) := fun x hx => by
  rcases List.mem_cons.mp hx with rfl | hx
  · exact t.hand.some
  · exact (t.ls x hx).2
theorem Tr.ne {a p : Addr} {L : List Addr} {n : Nat} {H : Hp} (t : Tr a L n H) (h : H p = none) : p ∉ a :: L := fun hx => by
  obtain ⟨xs, e⟩ := t.lst p hx
  rw [h] at e
  cases e
theorem Tr.same {a : Addr} {L : List Addr} {n : Nat} {H H' : Hp} (t : Tr a L n H) (s : Same H H') : Tr a L n H' := ⟨t.hand.same s, fun x hx => by
  obtain ⟨h1, xs, e⟩ := t.ls x hx
  exact ⟨h1, xs, s _ _ e⟩⟩
theorem Tr.new {a p : Addr} {L : List Addr} {n : Nat} {H : Hp} {o : HO} (t : Tr a L n H) (h : H p = none) : Tr a L n (upd H p o) := t.same (same_new h)
theorem Tr.but {a : Addr} {L : List Addr} {n n' : Nat} {H H' : Hp} (t : Tr a L n H) (b : But a H H') (hh : HandAt H' a n') : Tr a L n' H' := ⟨hh, fun x hx => by
  obtain ⟨h1, xs, e⟩ := t.ls x hx
  exact ⟨h1, xs, b _ _ h1 e⟩⟩
theorem hideL_sqt {a p : Addr} {L : List Addr} {H : Hp} {K : PySem.W.Frag} {n : Nat} {xs : List V} (t : Tr a L n H) (q : SqT K H p xs) : SqT K (hideL (a :: L) H) p xs := by
  have nm : ∀ {o : HO}, H p = some o → (∀ l, o ≠ .lst l) → p ∉ a :: L := fun e hn hx => by
    obtain ⟨l, e2⟩ := t.lst p hx
    rw [e] at e2
    exact hn l (Option.some.inj e2)
  rcases q with (q | ⟨o, q⟩) | q
  · exact .inl (.inl ((hideL_ne (nm q (fun l z => by cases z))).trans q))
  · exact .inl (.inr ⟨o, (hideL_ne (nm q (fun l z => by cases z))).trans q⟩)
  · exact .inr q
end NG

namespace NG
open PySem PySem.Spec PyProof.Rows L2
def spOdd (K : PySem.W.Frag) : Sp := fun vs H Q _ => ∃ (a : Addr) (B n : Nat) (L : List Addr), vs = [.ref a] ∧ 10 ^ 31 ≤ B ∧ B < 10 ^ 39 ∧ Tr a L n H ∧ n ≤ 999998000 ∧
  ∀ H' v' d', But a H H' → HandAt H' a (n + 25) → Dq K (hideL (a :: L) H') v' d' → Tm B 200 20 d' → Q v' H'
theorem len_weight : ∀ ds : List PyData, ds.length ≤ PyData.weightAll ds
  | [] => Nat.le_refl _
  | d :: ds => by
    have := len_weight ds
    show ds.length + 1 ≤ d.weight + 1 + PyData.weightAll ds
    omega
/-- a value that may be drawn -/
def GdV (K : PySem.W.Frag) (a : Addr) (L : List Addr) (B W D : Nat) (H : Hp) (v : V) : Prop := ∃ d, Dq K (hideL (a :: L) H) v d ∧ Tm B W D d
theorem GdV.same {K : PySem.W.Frag} {a : Addr} {L : List Addr} {B W D : Nat} {H H' : Hp} {v : V} (s : Same H H') (g : GdV K a L B W D H v) : GdV K a L B W D H' v := by
  obtain ⟨d, h1, h2⟩ := g
  exact ⟨d, dq_same (hideL_same2 s) h1, h2⟩
theorem GdV.but {K : PySem.W.Frag} {a : Addr} {L : List Addr} {B W D : Nat} {H H' : Hp} {v : V} (s : But a H H') (g : GdV K a L B W D H v) : GdV K a L B W D H' v := by
  obtain ⟨d, h1, h2⟩ := g
  exact ⟨d, dq_same (hideL_but s) h1, h2⟩
theorem GdV.mono {K : PySem.W.Frag} {a : Addr} {L : List Addr} {B W D B' W' D' : Nat} {H : Hp} {v : V} (g : GdV K a L B W D H v) (h1 : B ≤ B') (h2 : W ≤ W') (h3 : D ≤ D') : GdV K a L B' W' D' H v := by
  obtain ⟨d, g1, g2⟩ := g
  exact ⟨d, g1, g2.mono h1 h2 h3⟩
theorem none_back {H H' : Hp} {p : Addr} (s : Same H H') (h : H' p = none) : H p = none := by
  cases e : H p with
  | none => rfl
  | some o => rw [s _ _ e] at h; cases h
/-- more hidden -/
theorem hideL_more {S : List Addr} {l : Addr} {H : Hp} {a : Addr} : Same (hideL (a :: l :: S) H) (hideL (a :: S) H) := fun b o e => by
  unfold hideL at e ⊢
  split at e
  · cases e
  · rename_i hn
    rw [if_neg (fun hm => hn (by
      rcases List.mem_cons.mp hm with rfl | hm
      · exact List.mem_cons_self
      · exact List.mem_cons_of_mem _ (List.mem_cons_of_mem _ hm)))]
    exact e
theorem hideL_new {S : List Addr} {l a : Addr} {H H' : Hp} (s : Same H H') (h : H l = none) : Same (hideL (a :: S) H) (hideL (a :: l :: S) H') := fun b o e => by
  unfold hideL at e ⊢
  split at e
  · cases e
  · rename_i hn
    rw [if_neg (fun hm => by
      rcases List.mem_cons.mp hm with rfl | hm
      · exact hn List.mem_cons_self
      · rcases List.mem_cons.mp hm with rfl | hm
        · rw [h] at e; cases e
        · exact hn (List.mem_cons_of_mem _ hm))]
    exact s _ _ e
section
variable {P : Program} {w : World} {K : PySem.W.Frag} {mg : Str → Option Value} {base : Heap}
theorem ok_odd {f : Addr} {fd : FuncData} (F : Fun K "_law_odd" "_law_odd" s_L_odd f fd) (gF : mg "_law_odd" = some (.ref f)) (b : Binds K fd ["_law_hand_here"] []) (B : Bl mg) (c_L_take : Cal P w K mg base 1 "_law_take" spTake) (c_L_of : Cal P w K mg base 2 "_law_of" (spOf K)) : Cal P w K mg base 3 "_law_odd" (spOdd K) := by
  refine ⟨f, fd, _, F.ok sc_L_odd (fun vs H Q E h => ?_) (fun cdv A outer s H vs Q E hr h => ?_), gF, F.kp, b⟩
  · obtain ⟨_, _, _, _, rfl, _⟩ := h
    rfl
  · obtain ⟨a, Bd, n, L, rfl, hB1, hB2, tr, hn, q⟩ := h
    refine ⟨_, (pss_cons (ps_set (i := 1) sc_L_odd.nd rfl (.inl rfl) (pe_lst (pa_cons pe_non (pa_cons pe_bl (pa_cons pe_bl (pa_cons pe_int (pa_cons pe_int (pa_cons (pe_un un_neg pe_int) (pa_cons pe_int (pa_cons (pe_op op_pow pe_int pe_int) (pa_cons pe_str (pa_cons pe_str (pa_cons pe_str (pa_cons pe_str (pa_cons (pe_lst pa_nil) (pa_cons (pe_tup pa_nil) (pa_cons pe_dnewK (pa_cons (pe_tup (pa_cons pe_str pa_nil)) (pa_cons (pe_tup (pa_cons pe_str (pa_cons pe_str (pa_cons (pe_tup pa_nil) pa_nil)))) pa_nil))))))))))))))))))) (pss_cons (ps_set (i := 2) sc_L_odd.nd rfl (.inl rfl) (pe_ix ix_list (pv 1) (pe_c c_L_take hr (by omega) (by rfl) (pa_cons (pv 0) (pa_cons pe_int pa_nil))) (fun _ _ => rfl))) (pss_cons (ps_for PassesOwn.never rfl (pi_range1 rfl B.range (pa_cons (pe_c c_L_of hr (by omega) (by rfl) (pa_cons (pv 0) (pa_cons (pe_lst (pa_cons pe_int (pa_cons pe_int (pa_cons pe_int (pa_cons pe_int pa_nil))))) pa_nil))) pa_nil)) (pg_name (i := 3) sc_L_odd.nd rfl (.inl rfl)) (pss_one (ps_set (i := 2) sc_L_odd.nd rfl (.inl rfl) (pe_c c_L_of hr (by omega) (by rfl) (pa_cons (pv 0) (pa_cons (pe_lst (pa_cons (pe_tup (pa_cons (pv 2) pa_nil)) (pa_cons (pe_lst (pa_cons (pv 2) pa_nil)) pa_nil))) pa_nil)))))) (pss_one (ps_ret (pv 2)))))), ?_⟩
    have one_le : 1 ≤ sizeLine := by decide
    have zero_le : 0 ≤ sizeLine := by decide
    have e31 : (10 : Nat) ^ 31 = 10000000000000000000000000000000 := by decide
    have e30 : (10 : Int) ^ (30 : Int).toNat = 1000000000000000000000000000000 := by decide
    have e40 : (10 : Nat) ^ 39 < 10 ^ 40 := by decide
    rw [e31] at hB1
    have hh := tr.hand
    have gI : ∀ {z : Int} {Hc : Hp}, z.natAbs ≤ Bd → GdV K a L Bd 150 2 Hc (.int z) := fun h => ⟨_, .int _, (Tm.int h (by omega)).mono (Nat.le_refl _) (by omega) (by omega)⟩
    have gS : ∀ {x : Str} {Hc : Hp}, (x.cps.toList.all fun c => decide (c < 16 ^ 8)) = true → x.cps.size ≤ 10 → GdV K a L Bd 150 2 Hc (.str x) := fun h1 h2 => ⟨_, .str _, (Tm.str h1 h2).mono (Nat.le_refl _) (by omega) (by omega)⟩
    have gB : ∀ {x : Bool} {Hc : Hp}, GdV K a L Bd 150 2 Hc (.bl x) := ⟨_, .bl _, (Tm.bl _).mono (Nat.le_refl _) (by omega) (by omega)⟩
    have w1 : ∀ {x : Str} {D' : Nat}, (x.cps.toList.all fun c => decide (c < 16 ^ 8)) = true → x.cps.size ≤ 10 → Tm Bd 10 D' (.str x) := fun h1 h2 => (Tm.str h1 h2).mono (Nat.le_refl _) (Nat.le_refl _) (Nat.zero_le _)
    refine ⟨_, rfl, 10, 30, rfl, rfl, ⟨by decide, by decide, by decide⟩, zero_le, fun e0 ne0 => ⟨zero_le, fun t0 nt0 k0 nk0 => ⟨one_le, fun t1 n1 => ⟨zero_le, fun t2 n2 => ⟨(by show 3 ≤ sizeLine; decide), fun t3 n3 => ⟨(by show 17 ≤ sizeLine; decide), fun l nl => ?_⟩⟩⟩⟩⟩⟩
    have s1 : Same H (upd (upd (upd (upd (upd (upd (upd H e0 (.lst [])) t0 (.tup [])) k0 (.dK [])) t1 (.tup [.str "one"])) t2 (.tup [])) t3 (.tup [.str "house", .str "a", .ref t2])) l (.lst [.non, .bl true, .bl false, .int 0, .int 1, .int (-1), .int 7, .int (10 ^ (30 : Int).toNat), .str "", .str "a", .str "one", .str "house", .ref e0, .ref t0, .ref k0, .ref t1, .ref t3])) := ((((((same_new ne0).trans (same_new nt0)).trans (same_new nk0)).trans (same_new n1)).trans (same_new n2)).trans (same_new n3)).trans (same_new nl)
    have f0 : (upd (upd (upd (upd (upd (upd (upd H e0 (.lst [])) t0 (.tup [])) k0 (.dK [])) t1 (.tup [.str "one"])) t2 (.tup [])) t3 (.tup [.str "house", .str "a", .ref t2])) l (.lst [.non, .bl true, .bl false, .int 0, .int 1, .int (-1), .int 7, .int (10 ^ (30 : Int).toNat), .str "", .str "a", .str "one", .str "house", .ref e0, .ref t0, .ref k0, .ref t1, .ref t3])) e0 = some (.lst []) := same_new nl _ _ (same_new n3 _ _ (same_new n2 _ _ (same_new n1 _ _ (same_new nk0 _ _ (same_new nt0 _ _ (upd_same))))))
    have f1 : (upd (upd (upd (upd (upd (upd (upd H e0 (.lst [])) t0 (.tup [])) k0 (.dK [])) t1 (.tup [.str "one"])) t2 (.tup [])) t3 (.tup [.str "house", .str "a", .ref t2])) l (.lst [.non, .bl true, .bl false, .int 0, .int 1, .int (-1), .int 7, .int (10 ^ (30 : Int).toNat), .str "", .str "a", .str "one", .str "house", .ref e0, .ref t0, .ref k0, .ref t1, .ref t3])) t0 = some (.tup []) := same_new nl _ _ (same_new n3 _ _ (same_new n2 _ _ (same_new n1 _ _ (same_new nk0 _ _ (upd_same)))))
    have f2 : (upd (upd (upd (upd (upd (upd (upd H e0 (.lst [])) t0 (.tup [])) k0 (.dK [])) t1 (.tup [.str "one"])) t2 (.tup [])) t3 (.tup [.str "house", .str "a", .ref t2])) l (.lst [.non, .bl true, .bl false, .int 0, .int 1, .int (-1), .int 7, .int (10 ^ (30 : Int).toNat), .str "", .str "a", .str "one", .str "house", .ref e0, .ref t0, .ref k0, .ref t1, .ref t3])) k0 = some (.dK []) := same_new nl _ _ (same_new n3 _ _ (same_new n2 _ _ (same_new n1 _ _ (upd_same))))
    have f3 : (upd (upd (upd (upd (upd (upd (upd H e0 (.lst [])) t0 (.tup [])) k0 (.dK [])) t1 (.tup [.str "one"])) t2 (.tup [])) t3 (.tup [.str "house", .str "a", .ref t2])) l (.lst [.non, .bl true, .bl false, .int 0, .int 1, .int (-1), .int 7, .int (10 ^ (30 : Int).toNat), .str "", .str "a", .str "one", .str "house", .ref e0, .ref t0, .ref k0, .ref t1, .ref t3])) t1 = some (.tup [.str "one"]) := same_new nl _ _ (same_new n3 _ _ (same_new n2 _ _ (upd_same)))
    have f4 : (upd (upd (upd (upd (upd (upd (upd H e0 (.lst [])) t0 (.tup [])) k0 (.dK [])) t1 (.tup [.str "one"])) t2 (.tup [])) t3 (.tup [.str "house", .str "a", .ref t2])) l (.lst [.non, .bl true, .bl false, .int 0, .int 1, .int (-1), .int 7, .int (10 ^ (30 : Int).toNat), .str "", .str "a", .str "one", .str "house", .ref e0, .ref t0, .ref k0, .ref t1, .ref t3])) t2 = some (.tup []) := same_new nl _ _ (same_new n3 _ _ (upd_same))
    have f5 : (upd (upd (upd (upd (upd (upd (upd H e0 (.lst [])) t0 (.tup [])) k0 (.dK [])) t1 (.tup [.str "one"])) t2 (.tup [])) t3 (.tup [.str "house", .str "a", .ref t2])) l (.lst [.non, .bl true, .bl false, .int 0, .int 1, .int (-1), .int 7, .int (10 ^ (30 : Int).toNat), .str "", .str "a", .str "one", .str "house", .ref e0, .ref t0, .ref k0, .ref t1, .ref t3])) t3 = some (.tup [.str "house", .str "a", .ref t2]) := same_new nl _ _ (upd_same)
    have f6 : (upd (upd (upd (upd (upd (upd (upd H e0 (.lst [])) t0 (.tup [])) k0 (.dK [])) t1 (.tup [.str "one"])) t2 (.tup [])) t3 (.tup [.str "house", .str "a", .ref t2])) l (.lst [.non, .bl true, .bl false, .int 0, .int 1, .int (-1), .int 7, .int (10 ^ (30 : Int).toNat), .str "", .str "a", .str "one", .str "house", .ref e0, .ref t0, .ref k0, .ref t1, .ref t3])) l = some (.lst [.non, .bl true, .bl false, .int 0, .int 1, .int (-1), .int 7, .int (10 ^ (30 : Int).toNat), .str "", .str "a", .str "one", .str "house", .ref e0, .ref t0, .ref k0, .ref t1, .ref t3]) := upd_same
    have he0 : e0 ∉ a :: L := tr.ne ne0
    have hk0 : k0 ∉ a :: L := ((tr.new (o := .lst []) ne0).new (o := .tup []) nt0).ne nk0
    have hla : l ≠ a := fun z => by
      obtain ⟨_, _, _, e, _⟩ := hh
      rw [z, (((((((same_new ne0).trans (same_new nt0)).trans (same_new nk0)).trans (same_new n1)).trans (same_new n2)).trans (same_new n3)) : Same H _) _ _ e] at nl
      cases nl
    generalize upd (upd (upd (upd (upd (upd (upd H e0 (.lst [])) t0 (.tup [])) k0 (.dK [])) t1 (.tup [.str "one"])) t2 (.tup [])) t3 (.tup [.str "house", .str "a", .ref t2])) l (.lst [.non, .bl true, .bl false, .int 0, .int 1, .int (-1), .int 7, .int (10 ^ (30 : Int).toNat), .str "", .str "a", .str "one", .str "house", .ref e0, .ref t0, .ref k0, .ref t1, .ref t3]) = H1 at s1 f0 f1 f2 f3 f4 f5 f6 ⊢
    have tr1 := tr.same s1
    have hh1 := tr1.hand
    refine ⟨.ref l, rfl, .ref a, rfl, a, 17, n, rfl, by decide, by decide, hh1, by omega, fun H2 r b2 hh2 r0 r1 => ?_⟩
    obtain ⟨i, rfl⟩ : ∃ i : Nat, r = (i : Int) := ⟨r.toNat, by omega⟩
    have hi : i < 17 := by omega
    have f62 := b2 _ _ hla f6
    obtain ⟨x, hx⟩ : ∃ x, ([.non, .bl true, .bl false, .int 0, .int 1, .int (-1), .int 7, .int (10 ^ (30 : Int).toNat), .str "", .str "a", .str "one", .str "house", .ref e0, .ref t0, .ref k0, .ref t1, .ref t3] : List V)[i]? = some x := ⟨_, List.getElem?_eq_getElem (by exact hi)⟩
    have gx : GdV K a L Bd 150 2 H1 x := by
      have hm := List.mem_of_getElem? hx
      rw [e30] at hm
      simp only [List.mem_cons, List.not_mem_nil, or_false] at hm
      rcases hm with rfl | rfl | rfl | rfl | rfl | rfl | rfl | rfl | rfl | rfl | rfl | rfl | rfl | rfl | rfl | rfl | rfl
      · exact ⟨_, .non, Tm.non.mono (Nat.le_refl _) (by omega) (by omega)⟩
      · exact gB
      · exact gB
      · exact gI (by omega)
      · exact gI (by omega)
      · exact gI (by omega)
      · exact gI (by omega)
      · exact gI (by omega)
      · exact gS (by decide) (by decide)
      · exact gS (by decide) (by decide)
      · exact gS (by decide) (by decide)
      · exact gS (by decide) (by decide)
      · exact ⟨_, .lst (SqL.of (hideL_at he0 f0)) .nil, (Tms.nil (W := 0) (D := 0)).lst.mono (Nat.le_refl _) (by omega) (by omega)⟩
      · exact ⟨_, .tup (hideL_sqt tr1 (SqT.of f1)) .nil, (Tms.nil (W := 0) (D := 0)).tup.mono (Nat.le_refl _) (by omega) (by omega)⟩
      · exact ⟨_, .dic (hideL_at hk0 f2), Tm.dic.mono (Nat.le_refl _) (by omega) (by omega)⟩
      · exact ⟨_, .tup (hideL_sqt tr1 (SqT.of f3)) (.cons (.str _) .nil), (Tms.cons (w1 (D' := 0) (by decide) (by decide)) (.nil (W := 0))).tup.mono (Nat.le_refl _) (by omega) (by omega)⟩
      · exact ⟨_, .tup (hideL_sqt tr1 (SqT.of f5)) (.cons (.str _) (.cons (.str _) (.cons (.tup (hideL_sqt tr1 (SqT.of f4)) .nil) .nil))), (Tms.cons (w1 (D' := 1) (by decide) (by decide)) (Tms.cons (w1 (by decide) (by decide)) (Tms.cons ((Tms.nil (W := 0) (D := 0)).tup) (.nil (W := 0))))).tup.mono (Nat.le_refl _) (by omega) (by omega)⟩
    have gx2 := gx.but b2
    have hh2 : HandAt H2 a (n + 1) := hh2
    refine ⟨l, _, (i : Int), x, rfl, rfl, SqL.of f62, at_of (j := i) rfl hx, ?_⟩
    have b02 := (But.of (a := a) s1).trans b2
    have hnl : ∀ H', But a H2 H' → H' l = _ := fun H' b => b _ _ hla f62
    clear f0 f1 f2 f3 f4 f5 f6 gx
    refine ⟨.ref a, rfl, (by show 4 ≤ sizeLine; decide), fun l2 m2 => ?_⟩
    refine ⟨a, l2, _, _, rfl, (hh2.ne m2).symm, upd_same, (by show 0 < 4; decide), (by show 4 ≤ 1000; decide), hh2.new m2, by omega, fun H3 v3 b3 hh3 hv3 => ?_⟩
    obtain ⟨c, rfl, c0, c1⟩ : ∃ c : Int, v3 = .int c ∧ 0 ≤ c ∧ c ≤ 18 := by
      have hv3 : v3 ∈ ([.int 0, .int 0, .int 1, .int 18] : List V) := hv3
      simp only [List.mem_cons, List.not_mem_nil, or_false] at hv3
      rcases hv3 with rfl | rfl | rfl | rfl
      all_goals exact ⟨_, rfl, by decide, by decide⟩
    have b23 := (But.new (a := a) (o := .lst [.int 0, .int 0, .int 1, .int 18]) m2).trans b3
    have b03 := b02.trans b23
    refine ⟨_, rfl, by omega, by omega, ?_⟩
    refine for_range (n := c.toNat) (fun t σ H' => ∃ y3 v, σ = [some (.ref a), some (.ref l), some v, y3] ∧ But a H H' ∧ HandAt H' a (n + 2 + t) ∧ GdV K a L Bd (150 + t) (2 + t) H' v) ⟨none, x, rfl, b03, hh3.le (by omega), gx2.but b23⟩ ?_ ?_
    · rintro t σ H4 ht ⟨y3, v, rfl, b4, hh4, d, g1, g2⟩
      have ht : t < 18 := by omega
      have tr4 := tr.but b4 hh4
      refine ⟨.ref a, rfl, v, rfl, one_le, fun t4 n4 => ⟨v, rfl, one_le, fun l4 m4 => ⟨(by show 2 ≤ sizeLine; decide), fun l5 n5 => ?_⟩⟩⟩
      have s5 : Same H4 (upd (upd (upd H4 t4 (.tup [v])) l4 (.lst [v])) l5 (.lst [.ref t4, .ref l4])) := ((same_new n4).trans (same_new m4)).trans (same_new n5)
      have k1 : (upd (upd (upd H4 t4 (.tup [v])) l4 (.lst [v])) l5 (.lst [.ref t4, .ref l4])) t4 = some (.tup [v]) := same_new n5 _ _ (same_new m4 _ _ upd_same)
      have k2 : (upd (upd (upd H4 t4 (.tup [v])) l4 (.lst [v])) l5 (.lst [.ref t4, .ref l4])) l4 = some (.lst [v]) := same_new n5 _ _ upd_same
      have k3 : (upd (upd (upd H4 t4 (.tup [v])) l4 (.lst [v])) l5 (.lst [.ref t4, .ref l4])) l5 = some (.lst [.ref t4, .ref l4]) := upd_same
      have hl4 : l4 ∉ a :: L := (tr4.new (o := .tup [v]) n4).ne m4
      have nl5 : l5 ≠ a := ((tr4.new (o := .tup [v]) n4).new (o := .lst [v]) m4).hand.ne n5
      generalize upd (upd (upd H4 t4 (.tup [v])) l4 (.lst [v])) l5 (.lst [.ref t4, .ref l4]) = H5 at s5 k1 k2 k3 ⊢
      have tr5 := tr4.same s5
      have g15 := dq_same (hideL_same2 s5) g1
      refine ⟨a, l5, _, _, rfl, nl5.symm, k3, (by show 0 < 2; decide), (by show 2 ≤ 1000; decide), tr5.hand, by omega, fun H6 v6 b6 hh6 hv6 => ?_⟩
      have g6 : GdV K a L Bd (150 + (t + 1)) (2 + (t + 1)) H5 v6 := by
        simp only [List.mem_cons, List.not_mem_nil, or_false] at hv6
        rcases hv6 with rfl | rfl
        · exact ⟨_, .tup (hideL_sqt tr5 (SqT.of k1)) (.cons g15 .nil), (Tms.cons g2 (.nil (W := 0))).tup.mono (Nat.le_refl _) (by omega) (by omega)⟩
        · exact ⟨_, .lst (SqL.of (hideL_at hl4 k2)) (.cons g15 .nil), (Tms.cons g2 (.nil (W := 0))).lst.mono (Nat.le_refl _) (by omega) (by omega)⟩
      exact ⟨_, v6, rfl, (b4.trans (But.of s5)).trans b6, hh6.le (by omega), g6.but b6⟩
    · rintro σ H4 ⟨y3, v, rfl, b4, hh4, d, g1, g2⟩
      have hc : c.toNat ≤ 18 := by omega
      refine ⟨v, rfl, q H4 v d b4 (hh4.le (by omega)) g1 (g2.mono (Nat.le_refl _) (by omega) (by omega))⟩
end
end NG

set_option maxHeartbeats 2000000
namespace NG
open PySem PySem.Spec PyProof.Rows L2
/-! ### max(xs, default=d) of a list of whole numbers -/
section
variable {prog : Program} {w : World} {A : Around} {E : Value → Shared → Prop} {s : Shared} {l : Addr} {its : List Value} {ns : List Int} {Q : Value → Shared → Prop} {d : Value}
theorem maxDf_raw (hh : A.handled = none) (hl : s.heap.IsList l its.toArray) (hi : IntsAre its ns)
    (h0 : ns = [] → ∀ h' tk, (∀ b o, s.heap.get? b = some o → h'.get? b = some o) → Q d { s with heap := h', toks := tk })
    (h : ∀ h' tk M t', (∀ b o, s.heap.get? b = some o → h'.get? b = some o) → M ∈ ns → (∀ a, a ∈ ns → a ≤ M) → Q (.int M t') { s with heap := h', toks := tk }) : wpAny (model prog w) A (call (.builtin "max") [.ref l] [(Str.ofString "default", d)]) Q E s := by
  obtain ⟨xs, e⟩ := hi.allInts.items
  have hn : numsOf (intItems xs).toList = ns := by rw [← e]; exact hi.numsOf
  rw [nums_intItems] at hn
  subst hn
  rw [e] at hl
  have hsz : (intItems xs).size = xs.size := by simp [intItems]
  have hl' : s.heap.IsList l (intItems xs) := hl
  refine call_max_walkD (PySem.W.iter_listW (A := A.in1) hh hl' fun s₂ e W st hfp hw hk => ?_)
  refine ⟨_, _, _, _, _, _, _, s.heap, fun i j => decide (numAt xs i > numAt xs j), rfl, W, st, hfp, hw, hk, fun hz s' m => ?_, fun hp => ⟨fun i j vi vj s Q E _ hp hq hQ => CmpOf.ints_gt (A := A.in1) (numAt xs) (P := fun i v => (intItems xs)[i]? = some v) (fun _ _ => intItems_at) i j vi vj s Q E hp hq hQ, fun v s' hP m => ?_⟩⟩
  · obtain ⟨h', tk, rfl, hk'⟩ := PySem.W.moved_old e rfl m
    refine h0 ?_ h' tk hk'
    rw [hsz] at hz
    apply List.eq_nil_of_length_eq_zero
    rw [List.length_map, Array.length_toList]
    exact hz
  · obtain ⟨h', tk, rfl, hk'⟩ := PySem.W.moved_old e rfl m
    rw [hsz] at hP hp
    obtain ⟨t, rfl⟩ := intItems_at hP
    obtain ⟨h1, h2⟩ := argBest_gt (numAt xs) (xs.size - 1)
    refine h h' tk _ t hk' ?_ fun a ha => ?_
    · rw [numAt_eq]; exact PySem.getD_mem (by rw [List.length_map, Array.length_toList]; omega)
    · obtain ⟨j, hj, rfl⟩ := mem_getD ha
      rw [List.length_map, Array.length_toList] at hj
      rw [← numAt_eq]; exact h2 j (by omega)
end
def rMaxDf (K : PySem.W.Frag) : List V → List V → Hp → VK → Prop := fun vs zs H Q => ∃ (a : Addr) (ns : List Int) (d : V), vs = [V.ref a] ∧ zs = [d] ∧ SqL K H a (ns.map V.int) ∧ (ns = [] → Q d H) ∧ ∀ m, m ∈ ns → (∀ y, y ∈ ns → y ≤ m) → Q (.int m) H
theorem cr_maxDf {X : Cx} (K : PySem.W.Frag) (hc : X.calm = true) (hK : X.K = K := by rfl) : CallRK X (.builtin "max") ["default"] (rMaxDf K) := by
  subst hK
  intro pins s σ H xs zs us ws Q I r1 r2 h
  obtain ⟨a, ns, d, rfl, rfl, hs, q0, q⟩ := h
  obtain ⟨its, rv, hl, _⟩ := I.list hs
  rw [Vals.ref1 r1]
  cases r2 with
  | cons ra rb =>
    cases rb
    exact maxDf_raw (I.ok.hd hc) hl.isList rv.ints (fun e h' tk hk => ⟨d, H, I.kept hk, ra, q0 e⟩) fun h' tk M t' hk h1 h2 => ⟨.int _, H, I.kept hk, ⟨_, rfl⟩, q M h1 h2⟩
/-! ### a dict of the module with whole numbers for keys -/
def KDcI (K : PySem.W.Frag) (w : World) (a : Addr) (i : Int) (v : V) : Prop :=
  ∃ es n u, K.lookup a = some ⟨.type "dict", none, .dict es n, #[]⟩ ∧ (∀ e ∈ es.toList, ∃ k : Key, keyIs k e.key = true ∧ e.hash = keyH w k) ∧ (es.find? fun e => keyIs (Sum.inl i) e.key).map (·.val) = some u ∧ RelV v u
def rIxI (K : PySem.W.Frag) (w : World) : R2 := fun x y H Q => ∃ p i v, x = .ref p ∧ y = .int i ∧ KDcI K w p i v ∧ Q v H
theorem ix_kdI {X : Cx} : IxR X (rIxI X.K X.w) := by
  intro value slice pins s σ H x y v u Q I rx ry h hs
  obtain ⟨p, i, r, rfl, rfl, ⟨es, n, u0, hl, hk, e, ru⟩, q⟩ := h
  obtain rfl : v = Value.ref p := rx
  obtain ⟨t, rfl⟩ := ry
  have hm : s.heap.MapOf (mixKind X.prog X.w) p (fun k => findBy (mixKind X.prog X.w).is es k) := ⟨_, es, n, I.kIn _ _ hl, ⟨rfl, rfl, rfl⟩, rfl, fun e he => hk e (Array.mem_toList_iff.mpr he), fun k => rfl⟩
  exact tail_any hm.typeIs slot_dict_getitem.lookup (wpAny_getItem_of (kV_is (P := X.prog) (w := X.w) (k := Sum.inl i) (u := .int i t) ⟨t, rfl⟩) hm e ⟨r, H, I.tok _, ru, q⟩) hs
/-! ### str + str, of any -/
def rCatSA : R2 := fun x y H Q => ∃ a b : Str, x = .str a ∧ y = .str b ∧ a.length + b.length ≤ sizeLine ∧ Q (.str (a ++ b)) H
theorem op_catSA {X : Cx} : OpR X (binaryOp .Add) rCatSA := by
  intro pins s σ H x y v u Q I rx ry h
  obtain ⟨a, b, rfl, rfl, hl, q⟩ := h
  obtain ⟨t, rfl⟩ := rx
  obtain ⟨t', rfl⟩ := ry
  exact PyProof.Rows.add_str (fun t' tk => ⟨.str _, H, I.tok _, ⟨_, rfl⟩, q⟩) hl
end NG

namespace NG
open PySem PySem.Spec PyProof.Rows L2
def spBent (K : PySem.W.Frag) (m : Nat) : Sp := fun vs H Q _ => ∃ (a : Addr) (v : V) (d : PyData) (deep B W D n : Nat) (L : List Addr), vs = [.ref a, v, .int (deep : Int)] ∧ deep < m ∧ Dq K (hideL (a :: L) H) v d ∧ Tm B W D d ∧ 10 ^ 31 ≤ B ∧ B + 1 < 10 ^ 39 ∧ d.weight ≤ 100000 ∧ Tr a L n H ∧ n + 40 * m ≤ 999998000 ∧
  ∀ H' v' d', But a H H' → HandAt H' a (n + 40 * m) → Dq K (hideL (a :: L) H') v' d' → Tm (B + 1) (2 * W + 700) (max (D + 3) (23 + deep)) d' → Q v' H'
theorem weight_split : ∀ {ds : List PyData} {i : Nat} {d : PyData}, ds[i]? = some d → PyData.weightAll (ds.take i) + (d.weight + 1) + PyData.weightAll (ds.drop (i + 1)) = PyData.weightAll ds
  | [], i, d, h => by simp at h
  | e :: ds, 0, d, h => by
    have := Option.some.inj h
    subst this
    show 0 + (e.weight + 1) + PyData.weightAll ds = e.weight + 1 + PyData.weightAll ds
    omega
  | e :: ds, i + 1, d, h => by
    have ih := weight_split (ds := ds) (i := i) h
    show e.weight + 1 + PyData.weightAll (ds.take i) + (d.weight + 1) + PyData.weightAll (ds.drop (i + 1)) = e.weight + 1 + PyData.weightAll ds
    omega
theorem weight_at {ds : List PyData} {i : Nat} {d : PyData} (h : ds[i]? = some d) : d.weight ≤ PyData.weightAll ds := by
  have := weight_split h
  omega
theorem GdV.new {K : PySem.W.Frag} {a l : Addr} {L : List Addr} {B W D : Nat} {H H' : Hp} {v : V} (g : GdV K a L B W D H v) (s : Same H H') (h : H l = none) : GdV K a (l :: L) B W D H' v := by
  obtain ⟨d, g1, g2⟩ := g
  exact ⟨d, dq_same (hideL_new s h) g1, g2⟩
theorem GdV.more {K : PySem.W.Frag} {a l : Addr} {L : List Addr} {B W D : Nat} {H : Hp} {v : V} (g : GdV K a (l :: L) B W D H v) : GdV K a L B W D H v := by
  obtain ⟨d, g1, g2⟩ := g
  exact ⟨d, dq_same hideL_more g1, g2⟩
theorem GdV.put {K : PySem.W.Frag} {a l : Addr} {L : List Addr} {B W D : Nat} {H : Hp} {v : V} {o : HO} (g : GdV K a (l :: L) B W D H v) : GdV K a (l :: L) B W D (upd H l o) v := by
  obtain ⟨d, g1, g2⟩ := g
  exact ⟨d, dq_same (hideL_put (List.mem_cons_of_mem _ List.mem_cons_self)) g1, g2⟩
theorem slice_all {x : Str} {lo hi : Option Int} {p : Nat → Bool} (h : x.cps.toList.all p = true) : (Txt.slice x lo hi).cps.toList.all p = true := by
  unfold Txt.slice
  split
  · exact h
  · rw [List.all_eq_true] at h ⊢
    intro c hc
    have hc : c ∈ (Builtin.Str.strSliceIndices lo hi 1 x.length).filterMap (x.cps[·]?) := by simpa using hc
    obtain ⟨i, _, hi⟩ := List.mem_filterMap.mp hc
    exact h c (by
      rw [← Array.getElem?_toList] at hi
      exact List.mem_of_getElem? hi)
theorem tm_str {B : Nat} {x : Str} {W D : Nat} (h : (x.cps.toList.all fun c => decide (c < 16 ^ 8)) = true) (hw : x.cps.size ≤ W) : Tm B W D (.str x) := ⟨by unfold tame; exact h, hw, Nat.zero_le _⟩
theorem none_of2' {a p : Addr} {H H' : Hp} (b : But a H H') (hp : p ≠ a) (h : H' p = none) : H p = none := by
  cases e : H p with
  | none => rfl
  | some o => rw [b _ _ hp e] at h; cases h
theorem kit_strB (d : PyData) : kitB (tyd d) "str" = some (match d with | .str _ => true | _ => false) := by
  cases d with
  | none => exact (by decide +kernel : kitB "NoneType" "str" = some false)
  | bool _ => exact (by decide +kernel : kitB "bool" "str" = some false)
  | int _ => exact (by decide +kernel : kitB "int" "str" = some false)
  | str _ => exact (by decide +kernel : kitB "str" "str" = some true)
  | list _ => exact (by decide +kernel : kitB "list" "str" = some false)
  | tuple _ => exact (by decide +kernel : kitB "tuple" "str" = some false)
  | dict _ => exact (by decide +kernel : kitB "dict" "str" = some false)
section
variable {P : Program} {w : World} {K : PySem.W.Frag} {mg : Str → Option Value} {base : Heap}
theorem ok_bent {f : Addr} {fd : FuncData} (F : Fun K "_law_bent" "_law_bent" s_L_bent f fd) (gF : mg "_law_bent" = some (.ref f)) (b : Binds K fd ["_law_hand_here", "_law_piece", "_law_deep"] []) (B : Bl mg) (c_L_take : Cal P w K mg base 1 "_law_take" spTake) (c_L_of : Cal P w K mg base 2 "_law_of" (spOf K)) (c_L_odd : Cal P w K mg base 3 "_law_odd" (spOdd K)) : ∀ m, Cal P w K mg base (m + 3) "_law_bent" (spBent K m)
  | 0 => cal_never F gF b fun vs H Q E => by rintro ⟨_, _, _, _, _, _, _, _, _, _, hk, _⟩; omega
  | m + 1 => by
    have c_L_bent := ok_bent F gF b B c_L_take c_L_of c_L_odd m
    refine ⟨f, fd, _, F.ok sc_L_bent (fun vs H Q E h => ?_) (fun cdv A outer s H vs Q E hr h => ?_), gF, F.kp, b⟩
    · obtain ⟨_, _, _, _, _, _, _, _, _, rfl, _⟩ := h
      rfl
    · obtain ⟨a, v, d, deep, Bd, W, D, n, L, rfl, hrm, hd, ht, hB1, hB2, hw, tr, hn, q⟩ := h
      have hh := tr.hand
      refine ⟨_, (pss_cons (ps_set (i := 3) sc_L_bent.nd rfl (.inl rfl) (pe_c c_L_take hr (by omega) (by rfl) (pa_cons (pv 0) (pa_cons pe_int pa_nil)))) (C8.pss_cut (ps_if (PW.pt (pw_and (pt_val (pe_callB call_isi (by rfl) B.isinstance (by decide +kernel) (pa_cons (pv 1) (pa_cons (pe_bltn (v := .ty "tuple") (by rfl) B.tuple (by decide +kernel) rfl) pa_nil)))) (pw_and (pt_cmpR (op_neE hr.units) (pv 1) (pe_tup pa_nil) (nomark _)) (pw_and (pt_cmpR op_gt (pv 2) pe_int (nomark _)) (pw_and1 (pt_cmpR op_gt (pv 3) pe_int (nomark _))))))) (pss_cons (ps_set (i := 4) sc_L_bent.nd rfl (.inl rfl) (pe_c c_L_take hr (by omega) (by rfl) (pa_cons (pv 0) (pa_cons (pe_callB call_len_seq (by rfl) B.len PySem.boot_len (pa_cons (pv 1) pa_nil)) pa_nil)))) (pss_one (ps_ret (pe_op op_catA (pe_op op_catA (pe_slice sl_tupA (pv 1) po_none (po_some (pv 4))) (pe_tup (pa_cons (pe_c c_L_bent hr (by omega) (by rfl) (pa_cons (pv 0) (pa_cons (pe_ix ix_tup (pv 1) (pv 4) (fun _ _ => rfl)) (pa_cons (pe_op op_sub (pv 2) pe_int) pa_nil)))) pa_nil))) (pe_slice sl_tupA (pv 1) (po_some (pe_op op_add (pv 4) pe_int)) po_none))))) pss_nil) (pss_cons (ps_if (pt_val (pe_callB call_isi (by rfl) B.isinstance (by decide +kernel) (pa_cons (pv 1) (pa_cons (pe_bltn (v := .ty "tuple") (by rfl) B.tuple (by decide +kernel) rfl) pa_nil)))) (pss_cons (ps_set (i := 4) sc_L_bent.nd rfl (.inl rfl) (pe_c c_L_take hr (by omega) (by rfl) (pa_cons (pv 0) (pa_cons (pe_op op_add (pe_callB call_len_seq (by rfl) B.len PySem.boot_len (pa_cons (pv 1) pa_nil)) pe_int) pa_nil)))) (pss_cons (ps_set (i := 5) sc_L_bent.nd rfl (.inl rfl) (pe_lst (pa_cons (pe_op op_catA (pe_slice sl_tupA (pv 1) po_none (po_some (pv 4))) (pe_slice sl_tupA (pv 1) (po_some (pe_op op_add (pv 4) pe_int)) po_none)) (pa_cons (pe_op op_catA (pe_op op_catA (pe_slice sl_tupA (pv 1) po_none (po_some (pv 4))) (pe_slice sl_tupA (pv 1) (po_some (pv 4)) (po_some (pe_op op_add (pv 4) pe_int)))) (pe_slice sl_tupA (pv 1) (po_some (pv 4)) po_none)) (pa_cons (pe_callTy call_list_of (by rfl) B.list (by decide +kernel) (pa_cons (pv 1) pa_nil)) (pa_cons (pe_revT (pv 1) (pe_un un_neg pe_int)) pa_nil)))))) (pss_cons (ps_expr (pe_bm PySem.F.plainAttrs_list PySem.F.slot_list_append PySem.F.type_list_append mt_append (pv 5) (pa_cons (pe_op op_catA (pe_op op_catA (pe_slice sl_tupA (pv 1) po_none (po_some (pv 4))) (pe_tup (pa_cons (pe_c c_L_odd hr (by omega) (by rfl) (pa_cons (pv 0) pa_nil)) pa_nil))) (pe_slice sl_tupA (pv 1) (po_some (pv 4)) po_none)) pa_nil))) (pss_cons (ps_expr (pe_bm PySem.F.plainAttrs_list PySem.F.slot_list_append PySem.F.type_list_append mt_append (pv 5) (pa_cons (pe_op op_catA (pe_op op_catA (pe_slice sl_tupA (pv 1) po_none (po_some (pv 4))) (pe_revT (pe_slice sl_tupA (pv 1) (po_some (pv 4)) (po_some (pe_op op_add (pv 4) pe_int))) (pe_un un_neg pe_int))) (pe_slice sl_tupA (pv 1) (po_some (pe_op op_add (pv 4) pe_int)) po_none)) pa_nil))) (pss_one (ps_ret (pe_c c_L_of hr (by omega) (by rfl) (pa_cons (pv 0) (pa_cons (pe_op op_cat (pv 5) (pe_lst (pa_cons (pe_tup (pa_cons (pv 1) pa_nil)) pa_nil))) pa_nil))))))))) pss_nil) (pss_cons (ps_if (pt_val (pe_callB call_isi (by rfl) B.isinstance (by decide +kernel) (pa_cons (pv 1) (pa_cons (pe_bltn (v := .ty "str") (by rfl) B.str (by decide +kernel) rfl) pa_nil)))) (pss_cons (ps_set (i := 6) sc_L_bent.nd rfl (.inl rfl) (pe_lst (pa_cons pe_str (pa_cons pe_str (pa_cons pe_str (pa_cons pe_str (pa_cons pe_str (pa_cons pe_str (pa_cons pe_str (pa_cons pe_str (pa_cons pe_str (pa_cons pe_str (pa_cons pe_str (pa_cons pe_str (pa_cons pe_str pa_nil))))))))))))))) (pss_one (ps_ret (pe_c c_L_of hr (by omega) (by rfl) (pa_cons (pv 0) (pa_cons (pe_op op_cat (pv 6) (pe_lst (pa_cons (pe_op op_catSA (pv 1) pe_str) (pa_cons (pe_slice C8.sl_txt (pv 1) (po_some pe_int) po_none) (pa_cons (pe_op op_catSA (pv 1) pe_str) (pa_cons pe_int pa_nil)))))) pa_nil)))))) pss_nil) (pss_cons (ps_if (pt_val (pe_callB call_isi (by rfl) B.isinstance (by decide +kernel) (pa_cons (pv 1) (pa_cons (pe_bltn (v := .ty "int") (by rfl) B.int (by decide +kernel) rfl) pa_nil)))) (pss_one (ps_ret (pe_c c_L_of hr (by omega) (by rfl) (pa_cons (pv 0) (pa_cons (pe_lst (pa_cons (pe_op op_addIB (pv 1) pe_int) (pa_cons (pe_op op_subIB2 (pv 1) pe_int) (pa_cons pe_int (pa_cons (pe_op op_subIB2 pe_int (pv 1)) (pa_cons pe_bl (pa_cons pe_bl (pa_cons (pe_callTy call_strIB (by rfl) B.str (by decide +kernel) (pa_cons (pv 1) pa_nil)) (pa_cons pe_non (pa_cons (pe_op op_pow pe_int pe_int) (pa_cons pe_int (pa_cons pe_int pa_nil)))))))))))) pa_nil))))) pss_nil) (pss_one (ps_ret (pe_c c_L_odd hr (by omega) (by rfl) (pa_cons (pv 0) pa_nil))))))))), ?_⟩
      have hWW : d.weight ≤ W := ht.wt
      have e31 : (10 : Nat) ^ 31 = 10000000000000000000000000000000 := by decide
      have e39 : (10 : Nat) ^ 39 = 1000000000000000000000000000000000000000 := by decide
      have e40 : (10 : Nat) ^ 40 = 10000000000000000000000000000000000000000 := by decide
      have hB1' := hB1
      have hB2' := hB2
      rw [e31] at hB1'
      rw [e39] at hB2'
      have one : ∀ {x : Nat}, x ≤ 1000000 → x ≤ sizeLine := fun h => Nat.le_trans h (by decide)
      refine ⟨.ref a, rfl, a, 9, n, rfl, by decide, by decide, hh, by omega, fun H1 wy b1 hh1 wy0 wy1 => ?_⟩
      have tr1 := tr.but b1 hh1
      have hd1 := dq_same (hideL_but b1) hd
      have hdv1 : Dq K H1 v d := dq_same hideL_same hd1
      have q : ∀ H' v', But a H1 H' → HandAt H' a (n + 40 * (m + 1)) → GdV K a L (Bd + 1) (2 * W + 700) (max (D + 3) (23 + deep)) H' v' → Q v' H' := fun H' v' b2 hh2 g => by
        obtain ⟨d', g1, g2⟩ := g
        exact q H' v' d' (b1.trans b2) hh2 g1 g2
      have gI : ∀ {z : Int} {Hc : Hp}, z.natAbs ≤ Bd + 1 → GdV K a L (Bd + 1) (2 * W + 700) (max (D + 3) (23 + deep)) Hc (.int z) := fun h => ⟨_, .int _, (Tm.int h (by omega)).mono (Nat.le_refl _) (by omega) (by omega)⟩
      have gS : ∀ {x : Str} {Hc : Hp}, (x.cps.toList.all fun c => decide (c < 16 ^ 8)) = true → x.cps.size ≤ 10 → GdV K a L (Bd + 1) (2 * W + 700) (max (D + 3) (23 + deep)) Hc (.str x) := fun h1 h2 => ⟨_, .str _, (Tm.str h1 h2).mono (Nat.le_refl _) (by omega) (by omega)⟩
      have gB : ∀ {x : Bool} {Hc : Hp}, GdV K a L (Bd + 1) (2 * W + 700) (max (D + 3) (23 + deep)) Hc (.bl x) := ⟨_, .bl _, (Tm.bl _).mono (Nat.le_refl _) (by omega) (by omega)⟩
      have ht' : Tm (Bd + 1) W D d := ht.mono (by omega) (Nat.le_refl _) (Nat.le_refl _)
      have hb1 : ∀ {Hc}, Same H1 Hc → But a H1 Hc := fun s => But.of s
      refine ⟨fun σ H' => σ = [some (.ref a), some v, some (.int (deep : Int)), some (.int wy), none, none, none] ∧ Same H1 H', ?_, ?_⟩
      · refine ⟨v, rfl, v, .ty "tuple", _, _, _, rfl, .ty _, Dq.tyx hdv1, kit_ty (kit_tup d), _, rfl, ?_⟩
        cases hd1 with
        | @tup p xs ds h1 h2 =>
          have hp : SqT K H1 p xs := same_sqt hideL_same h1
          have hlen := dqall_len h2
          have hl4 : ds.length ≤ 100000 := Nat.le_trans (len_weight ds) hw
          refine iteTT rfl ⟨.ref p, rfl, (by show 0 ≤ sizeLine; decide), fun t0 nt0 => ⟨p, t0, xs, rfl, rfl, same_sqt (same_new nt0) hp, SqT.of upd_same, _, rfl, ?_⟩⟩
          have s1 : Same H1 (upd H1 t0 (.tup [])) := same_new nt0
          generalize upd H1 t0 (.tup []) = H2 at s1 ⊢
          have hh2 := hh1.same s1
          cases hxe : xs.isEmpty with
          | true => exact iteFF rfl (iteFF rfl ⟨rfl, s1⟩)
          | false =>
            refine iteTT rfl ⟨_, rfl, _, _, rfl, rfl, _, rfl, iteD (fun cr => ?_) (fun cr => ?_)⟩
            · refine ⟨_, rfl, _, _, rfl, rfl, _, rfl, iteD (fun c => ?_) (fun c => ?_)⟩
              · have bb2 := But.of (a := a) s1
                have hp2 : SqT K H2 p xs := same_sqt s1 hp
                have hpos : 0 < xs.length := by
                  cases xs with
                  | nil => cases hxe
                  | cons _ _ => exact Nat.succ_pos _
                obtain ⟨D0, rfl⟩ : ∃ D0, D = D0 + 1 := ⟨D - 1, by have h : PyData.depthAll ds + 1 ≤ D := ht.dp; omega⟩
                refine ⟨.ref a, rfl, .ref p, rfl, p, _, rfl, .inr hp2, a, _, _, rfl, by omega, by omega, hh2, by omega, fun H3 r1 b3 hh3 r10 r11 => ?_⟩
                obtain ⟨i, rfl⟩ : ∃ i : Nat, r1 = (i : Int) := ⟨r1.toNat, by omega⟩
                have hi : i < xs.length := by omega
                obtain ⟨dd, hdd⟩ : ∃ dd, ds[i]? = some dd := ⟨_, List.getElem?_eq_getElem (by omega)⟩
                have bb3 := bb2.trans b3
                have hp3 : SqT K H3 p xs := bb3.sq hh1 hp
                have hd3 : DqAll K (hideL (a :: L) H3) xs ds := dqall_same (hideL_but bb3) h2
                have tr3 := tr1.but bb3 hh3
                obtain ⟨r', hr'⟩ : ∃ r' : Nat, (deep : Int) - 1 = (r' : Int) := ⟨deep - 1, by omega⟩
                refine ⟨.ref p, rfl, .int (i : Int), rfl, (i : Int), rfl, ?_⟩
                dsimp only [tNoPart]
                refine slA hp3 fun H4 t1 s4 h4 => ?_
                rw [cut_to] at h4
                have hvi : xs[i]? = some (xs[i]'hi) := List.getElem?_eq_getElem hi
                obtain ⟨x0, hx0⟩ : ∃ x0, xs[i]'hi = x0 := ⟨_, rfl⟩
                rw [hx0] at hvi
                obtain ⟨dd', hdd', hdx⟩ := dqall_get hd3 hvi
                rw [hdd] at hdd'
                cases hdd'
                have hdw : dd.weight ≤ 100000 := by
                  have h1 := weight_at hdd
                  have h2 : PyData.weightAll ds ≤ 100000 := hw
                  omega
                have hh4 := hh3.same s4
                refine ⟨.ref a, rfl, .ref p, rfl, .int (i : Int), rfl, p, _, (i : Int), _, rfl, rfl, same_sqt s4 hp3, at_of (j := i) rfl hvi, _, rfl, _, _, rfl, rfl, ?_⟩
                refine ⟨a, x0, dd, r', Bd, dd.weight, D0, _, L, (by show [V.ref a, x0, V.int ((deep : Int) - 1)] = _; rw [hr']), by omega, dq_same (hideL_same2 s4) hdx, ?_, hB1, hB2, hdw, tr3.same s4, by omega, fun H6 v6 d6 b6 hh6 hd6 ht6 => ⟨(by show 1 ≤ sizeLine; decide), fun t6 n6 => ?_⟩⟩
                · obtain ⟨_, _, _, _, y, _, _⟩ := ht.items.at hdd
                  exact ⟨y.tm, Nat.le_refl _, y.dp⟩
                · have h4' : SqT K H6 t1 (xs.take i) := b6.sq hh4 h4
                  refine catA (same_sqt (same_new n6) h4') (SqT.of upd_same) (one (by rw [List.length_take]; show _ + 1 ≤ _; omega)) fun H7 t3 s7 h7 => ?_
                  have s67 := (same_new (o := .tup [v6]) n6).trans s7
                  have bb7 : But a H3 H7 := ((But.of s4).trans b6).trans (But.of s67)
                  have hp7 : SqT K H7 p xs := bb7.sq hh3 hp3
                  refine ⟨.ref p, rfl, .int (i : Int), rfl, _, _, rfl, rfl, ((i + 1 : Nat) : Int), rfl, ?_⟩
                  dsimp only [tNoPart]
                  refine slA hp7 fun H8 t4 s8 h8 => ?_
                  rw [cut_from] at h8
                  refine catA (same_sqt s8 h7) h8 (one (by rw [List.length_append, List.length_take, List.length_drop]; show _ + 1 + _ ≤ _; omega)) fun H9 t5 s9 h9 => ?_
                  have s69 := (s67.trans s8).trans s9
                  have bb9 : But a H3 H9 := ((But.of s4).trans b6).trans (But.of s69)
                  have hh9 := hh6.same s69
                  have h29 : DqAll K (hideL (a :: L) H9) xs ds := dqall_same (hideL_but bb9) hd3
                  have hd9 : Dq K (hideL (a :: L) H9) v6 d6 := dq_same (hideL_same2 s69) hd6
                  refine q H9 (.ref t5) (bb3.trans bb9) (hh9.le (by omega)) ⟨.tuple (ds.take i ++ [d6] ++ ds.drop (i + 1)), .tup (hideL_sqt (tr1.but (bb3.trans bb9) hh9) h9) (dqall_app (dqall_drop h29) (dqall_app (.cons hd9 .nil) (dqall_take h29))), ?_⟩
                  have ht' : Tm (Bd + 1) W (D0 + 1) (.tuple ds) := ht.mono (by omega) (Nat.le_refl _) (Nat.le_refl _)
                  obtain ⟨W1, W2, W3, w1, w2, w3, w4⟩ := ht'.items.at hdd
                  have hW := weight_split hdd
                  have hWW : PyData.weightAll ds ≤ W := ht.wt
                  have hdds : Tms (Bd + 1) (PyData.weightAll (ds.take i)) D0 (ds.take i) := ⟨w1.tm, Nat.le_refl _, w1.dp⟩
                  have hdde : Tms (Bd + 1) (PyData.weightAll (ds.drop (i + 1))) D0 (ds.drop (i + 1)) := ⟨w3.tm, Nat.le_refl _, w3.dp⟩
                  exact (Tms.app (hdde.mono (D' := max (D0 + 3) (23 + r')) (Nat.le_refl _) (Nat.le_refl _) (by omega)) (Tms.app (Tms.cons ht6 (.nil (W := 0))) (hdds.mono (D' := max (D0 + 3) (23 + r')) (Nat.le_refl _) (Nat.le_refl _) (by omega)))).tup.mono (Nat.le_refl _) (by omega) (by omega)
              · exact ⟨rfl, s1⟩
            · exact iteFF rfl ⟨rfl, s1⟩
        | _ => exact iteFF rfl (iteFF rfl ⟨rfl, Same.refl _⟩)
      · rintro σ H2 ⟨rfl, s12⟩
        have b12 := hb1 s12
        have hh2 := hh1.same s12
        have tr2 := tr1.same s12
        have hd2 := dq_same (hideL_same2 s12) hd1
        have hdv2 := dq_same hideL_same hd2
        have q : ∀ H' v', But a H2 H' → HandAt H' a (n + 40 * (m + 1)) → GdV K a L (Bd + 1) (2 * W + 700) (max (D + 3) (23 + deep)) H' v' → Q v' H' := fun H' v' b => q H' v' (b12.trans b)
        have hodd : ∀ Hc, But a H2 Hc → HandAt Hc a (n + 1) → spOdd K [.ref a] Hc Q E0 := fun Hc bc hc => ⟨a, Bd, _, L, rfl, hB1, by omega, tr2.but bc hc, by omega, fun H' v' d' b' hh' g1 g2 => q H' v' (bc.trans b') (hh'.le (by omega)) ⟨d', g1, g2.mono (by omega) (by omega) (by omega)⟩⟩
        refine ⟨v, rfl, v, .ty "tuple", _, _, _, rfl, .ty _, Dq.tyx hdv2, kit_ty (kit_tup d), _, rfl, ?_⟩
        cases hd2 with
        | @tup p xs ds h1 h2 =>
          have hp : SqT K H2 p xs := same_sqt hideL_same h1
          have hlen := dqall_len h2
          have hl4 : ds.length ≤ 100000 := Nat.le_trans (len_weight ds) hw
          obtain ⟨D0, rfl⟩ : ∃ D0, D = D0 + 1 := ⟨D - 1, by have h : PyData.depthAll ds + 1 ≤ D := ht.dp; omega⟩
          have hts := ht'.items
          refine iteTT rfl ⟨.ref a, rfl, .ref p, rfl, p, _, rfl, .inr hp, _, _, rfl, rfl, a, _, _, rfl, by omega, by omega, hh2, by omega, fun H4 r1 b4 hh4 r10 r11 => ?_⟩
          obtain ⟨i, rfl⟩ : ∃ i : Nat, r1 = (i : Int) := ⟨r1.toNat, by omega⟩
          have hi : i ≤ xs.length := by omega
          have hp4 : SqT K H4 p xs := b4.sq hh2 hp
          have h24 : DqAll K (hideL (a :: L) H4) xs ds := dqall_same (hideL_but b4) h2
          have tr4 := tr2.but b4 hh4
          obtain ⟨V1, V2, v1, v2, v3⟩ := hts.split i
          obtain ⟨U1, U2, u1, u2, u3⟩ := hts.split (i + 1)
          obtain ⟨X1, X2, x1, x2, x3⟩ := hts.split (i + 2)
          -- the first: one fewer
          refine ⟨.ref p, rfl, .int (i : Int), rfl, (i : Int), rfl, ?_⟩
          dsimp only [tNoPart]
          refine slA hp4 fun H5 t1 s5 h5 => ?_
          refine ⟨.ref p, rfl, .int (i : Int), rfl, _, _, rfl, rfl, ((i + 1 : Nat) : Int), rfl, ?_⟩
          dsimp only [tNoPart]
          refine slA (same_sqt s5 hp4) fun H6 t2 s6 h6 => ?_
          rw [cut_to] at h5
          rw [cut_from] at h6
          refine catA (same_sqt s6 h5) h6 (one (by rw [List.length_take, List.length_drop]; omega)) fun H7 tA s7 hA => ?_
          have s47 := (s5.trans s6).trans s7
          -- one twice
          refine ⟨.ref p, rfl, .int (i : Int), rfl, (i : Int), rfl, ?_⟩
          dsimp only [tNoPart]
          refine slA (same_sqt s47 hp4) fun H8 t3 s8 h8 => ?_
          refine ⟨.ref p, rfl, .int (i : Int), rfl, (i : Int), rfl, .int (i : Int), rfl, _, _, rfl, rfl, ((i + 1 : Nat) : Int), rfl, ?_⟩
          refine slA (same_sqt (s47.trans s8) hp4) fun H9 t4 s9 h9 => ?_
          rw [cut_to] at h8
          rw [cut_mid] at h9
          refine catA (same_sqt s9 h8) h9 (one (by rw [List.length_take, List.length_take, List.length_drop]; omega)) fun H10 t5 s10 h10 => ?_
          have s410 := ((s47.trans s8).trans s9).trans s10
          refine ⟨.ref p, rfl, .int (i : Int), rfl, (i : Int), rfl, ?_⟩
          dsimp only [tNoPart]
          refine slA (same_sqt s410 hp4) fun H11 t6 s11 h11 => ?_
          rw [cut_from] at h11
          refine catA (same_sqt s11 h10) h11 (one (by rw [List.length_append, List.length_take, List.length_take, List.length_drop]; omega)) fun H12 tB s12' hB => ?_
          have s712 := (((s8.trans s9).trans s10).trans s11).trans s12'
          have s412 := s47.trans s712
          have hp12 := same_sqt s412 hp4
          -- a list, turned about
          refine ⟨.ref p, rfl, p, xs, rfl, .inr hp12, fun q1 m1 => ⟨.ref p, rfl, _, rfl, rfl, p, _, rfl, same_sqt (same_new m1) hp12, fun t7 m7 => ⟨(by show 4 ≤ sizeLine; decide), fun l1 nl1 => ?_⟩⟩⟩
          have s13 : Same H12 (upd (upd H12 q1 (.lst xs)) t7 (.tup xs.reverse)) := (same_new m1).trans (same_new m7)
          have k1 : (upd (upd H12 q1 (.lst xs)) t7 (.tup xs.reverse)) q1 = some (.lst xs) := same_new m7 _ _ upd_same
          have k2 : (upd (upd H12 q1 (.lst xs)) t7 (.tup xs.reverse)) t7 = some (.tup xs.reverse) := upd_same
          have hq1 : q1 ∉ a :: L := (tr4.same s412).ne m1
          generalize upd (upd H12 q1 (.lst xs)) t7 (.tup xs.reverse) = H13 at s13 k1 k2 nl1 ⊢
          have s413 := s412.trans s13
          have tr13 := tr4.same s413
          have hds13 : DqAll K (hideL (a :: L) H13) xs ds := dqall_same (hideL_same2 s413) h24
          have hla : l1 ≠ a := tr13.hand.ne nl1
          have none2 : H2 l1 = none := none_of2' ((b4.trans (But.of s413))) hla nl1
          have G13 : ∀ v ∈ ([.ref tA, .ref tB, .ref q1, .ref t7] : List V), GdV K a L (Bd + 1) (2 * W + 700) (max (D0 + 1 + 3) (23 + deep)) H13 v := fun v hv => by
            simp only [List.mem_cons, List.not_mem_nil, or_false] at hv
            rcases hv with rfl | rfl | rfl | rfl
            · exact ⟨_, .tup (hideL_sqt tr13 (same_sqt (s712.trans s13) hA)) (dqall_app (dqall_drop hds13) (dqall_take hds13)), (Tms.app u2 v1).tup.mono (Nat.le_refl _) (by omega) (by omega)⟩
            · obtain ⟨V3, V4, v4, v5, v6⟩ := v2.split (i + 1 - i)
              exact ⟨_, .tup (hideL_sqt tr13 (same_sqt s13 hB)) (dqall_app (dqall_drop hds13) (dqall_app (dqall_take (dqall_drop hds13)) (dqall_take hds13))), (Tms.app v2 (Tms.app v4 v1)).tup.mono (Nat.le_refl _) (by omega) (by omega)⟩
            · exact ⟨_, .lst (SqL.of (hideL_at hq1 k1)) hds13, hts.lst.mono (Nat.le_refl _) (by omega) (by omega)⟩
            · exact ⟨_, .tup (hideL_sqt tr13 (SqT.of k2)) (dqall_rev hds13), (Tms.rev (W := 0) hts).tup.mono (Nat.le_refl _) (by omega) (by omega)⟩
          -- the list
          have s14 : Same H13 (upd H13 l1 (.lst [.ref tA, .ref tB, .ref q1, .ref t7])) := same_new nl1
          have e14 : (upd H13 l1 (.lst [.ref tA, .ref tB, .ref q1, .ref t7])) l1 = some (.lst [.ref tA, .ref tB, .ref q1, .ref t7]) := upd_same
          generalize upd H13 l1 (.lst [.ref tA, .ref tB, .ref q1, .ref t7]) = H14 at s14 e14 ⊢
          have G14 : ∀ v ∈ ([.ref tA, .ref tB, .ref q1, .ref t7] : List V), GdV K a (l1 :: L) (Bd + 1) (2 * W + 700) (max (D0 + 1 + 3) (23 + deep)) H14 v := fun v hv => (G13 v hv).new s14 nl1
          have hds14 : DqAll K (hideL (a :: l1 :: L) H14) xs ds := dqall_same (hideL_new s14 nl1) hds13
          have tr14 : Tr a (l1 :: L) (n + 2) H14 := ⟨(tr13.same s14).hand.le (by omega), fun x hx => by
            rcases List.mem_cons.mp hx with rfl | hx
            · exact ⟨hla, _, e14⟩
            · exact (tr13.same s14).ls x hx⟩
          have hp14 := same_sqt (s413.trans s14) hp4
          have b14 : But a H2 H14 := b4.trans (But.of (s413.trans s14))
          clear G13 hds13 hA hB s712 h5 h6 h8 h9 h10 h11 k1 k2
          -- one put in
          refine ⟨.ref l1, rfl, .inl ⟨rfl, _, SqL.of e14⟩, .ref p, rfl, .int (i : Int), rfl, (i : Int), rfl, ?_⟩
          dsimp only [tNoPart]
          refine slA hp14 fun H15 t8 s15 h15 => ?_
          rw [cut_to] at h15
          have tr15 := tr14.same s15
          refine ⟨.ref a, rfl, a, Bd, _, l1 :: L, rfl, hB1, by omega, tr15, by omega, fun H16 v6 d6 b16 hh16 hd6 ht6 => ⟨(by show 1 ≤ sizeLine; decide), fun t9 n9 => ?_⟩⟩
          have h15' : SqT K H16 t8 (xs.take i) := b16.sq tr15.hand h15
          refine catA (same_sqt (same_new n9) h15') (SqT.of upd_same) (one (by rw [List.length_take]; show _ + 1 ≤ _; omega)) fun H17 t10 s17 h17 => ?_
          have s67 := (same_new (o := .tup [v6]) n9).trans s17
          have bb17 : But a H14 H17 := ((But.of s15).trans b16).trans (But.of s67)
          have hp17 : SqT K H17 p xs := bb17.sq tr14.hand hp14
          refine ⟨.ref p, rfl, .int (i : Int), rfl, (i : Int), rfl, ?_⟩
          dsimp only [tNoPart]
          refine slA hp17 fun H18 t11 s18 h18 => ?_
          rw [cut_from] at h18
          refine catA (same_sqt s18 h17) h18 (one (by rw [List.length_append, List.length_take, List.length_drop]; show _ + 1 + _ ≤ _; omega)) fun H19 tC s19 hC => ?_
          have s69 := (s67.trans s18).trans s19
          have bb19 : But a H14 H19 := ((But.of s15).trans b16).trans (But.of s69)
          have hh19 : HandAt H19 a (n + 27) := (hh16.same s69).le (by omega)
          have tr19 : Tr a (l1 :: L) (n + 27) H19 := tr14.but bb19 hh19
          have hds19 : DqAll K (hideL (a :: l1 :: L) H19) xs ds := dqall_same (hideL_but bb19) hds14
          have hd69 : Dq K (hideL (a :: l1 :: L) H19) v6 d6 := dq_same (hideL_same2 s69) hd6
          have e19 := bb19 _ _ hla e14
          have GC : GdV K a (l1 :: L) (Bd + 1) (2 * W + 700) (max (D0 + 1 + 3) (23 + deep)) H19 (.ref tC) := ⟨_, .tup (hideL_sqt tr19 hC) (dqall_app (dqall_drop hds19) (dqall_app (.cons hd69 .nil) (dqall_take hds19))), (Tms.app (v2.mono (D' := max (D0 + 3) (22 + deep)) (Nat.le_refl _) (Nat.le_refl _) (by omega)) (Tms.app (Tms.cons (ht6.mono (B' := Bd + 1) (W' := 200) (D' := max (D0 + 3) (22 + deep)) (by omega) (Nat.le_refl _) (by omega)) (.nil (W := 0))) (v1.mono (D' := max (D0 + 3) (22 + deep)) (Nat.le_refl _) (Nat.le_refl _) (by omega)))).tup.mono (Nat.le_refl _) (by omega) (by omega)⟩
          have G19 : ∀ v ∈ ([.ref tA, .ref tB, .ref q1, .ref t7, .ref tC] : List V), GdV K a (l1 :: L) (Bd + 1) (2 * W + 700) (max (D0 + 1 + 3) (23 + deep)) H19 v := fun v hv => by
            rcases List.mem_append.mp (show v ∈ [.ref tA, .ref tB, .ref q1, .ref t7] ++ [.ref tC] from hv) with hv | hv
            · exact (G14 v hv).but bb19
            · rw [List.mem_singleton.mp hv]
              exact GC
          refine ⟨l1, _, _, rfl, rfl, e19, small1000 (by show 4 ≤ 1000; decide), ?_⟩
          have e20 : (upd H19 l1 (.lst ([.ref tA, .ref tB, .ref q1, .ref t7] ++ [.ref tC]))) l1 = some (.lst [.ref tA, .ref tB, .ref q1, .ref t7, .ref tC]) := upd_same
          have G20 : ∀ v ∈ ([.ref tA, .ref tB, .ref q1, .ref t7, .ref tC] : List V), GdV K a (l1 :: L) (Bd + 1) (2 * W + 700) (max (D0 + 1 + 3) (23 + deep)) (upd H19 l1 (.lst ([.ref tA, .ref tB, .ref q1, .ref t7] ++ [.ref tC]))) v := fun v hv => (G19 v hv).put
          have hds20 : DqAll K (hideL (a :: l1 :: L) (upd H19 l1 (.lst ([.ref tA, .ref tB, .ref q1, .ref t7] ++ [.ref tC])))) xs ds := dqall_same (hideL_put (List.mem_cons_of_mem _ List.mem_cons_self)) hds19
          have hp20 : SqT K (upd H19 l1 (.lst ([.ref tA, .ref tB, .ref q1, .ref t7] ++ [.ref tC]))) p xs := put_sqt e19 (bb19.sq tr14.hand hp14)
          have hh20 : HandAt (upd H19 l1 (.lst ([.ref tA, .ref tB, .ref q1, .ref t7] ++ [.ref tC]))) a (n + 27) := hh19.put hla
          have b20 : But a H2 (upd H19 l1 (.lst ([.ref tA, .ref tB, .ref q1, .ref t7] ++ [.ref tC]))) := fun b' o nb eb => by
            rw [upd_ne (ne_of_none eb none2)]
            exact bb19 _ _ nb (b14 _ _ nb eb)
          have tr20 : Tr a (l1 :: L) (n + 27) (upd H19 l1 (.lst ([.ref tA, .ref tB, .ref q1, .ref t7] ++ [.ref tC]))) := ⟨hh20, fun x hx => by
            rcases List.mem_cons.mp hx with rfl | hx
            · exact ⟨hla, _, e20⟩
            · have z := tr2.ls x hx
              obtain ⟨z1, xs', z2⟩ := z
              exact ⟨z1, xs', b20 _ _ z1 z2⟩⟩
          generalize upd H19 l1 (.lst ([.ref tA, .ref tB, .ref q1, .ref t7] ++ [.ref tC])) = H20 at e20 G20 hds20 hp20 hh20 b20 tr20 ⊢
          clear G19 GC G14 hds14 hds19 hd69 hC e19 e14
          -- exchanged
          refine ⟨.ref l1, rfl, .inl ⟨rfl, _, SqL.of e20⟩, .ref p, rfl, .int (i : Int), rfl, (i : Int), rfl, ?_⟩
          dsimp only [tNoPart]
          refine slA hp20 fun H21 t12 s21 h21 => ?_
          rw [cut_to] at h21
          refine ⟨.ref p, rfl, .int (i : Int), rfl, (i : Int), rfl, .int (i : Int), rfl, _, _, rfl, rfl, ((i + 2 : Nat) : Int), rfl, ?_⟩
          refine slA (same_sqt s21 hp20) fun H22 t13 s22 h22 => ?_
          rw [cut_mid] at h22
          refine ⟨_, rfl, rfl, t13, _, rfl, h22, fun t14 n14 => ?_⟩
          have s22' := s22.trans (same_new (o := .tup ((xs.drop i).take (i + 2 - i)).reverse) n14)
          have h22' : SqT K (upd H22 t14 (.tup ((xs.drop i).take (i + 2 - i)).reverse)) t14 _ := SqT.of upd_same
          refine catA (same_sqt s22' h21) h22' (one (by rw [List.length_reverse, List.length_take, List.length_take, List.length_drop]; omega)) fun H23 t15 s23 h23 => ?_
          have s203 := (s21.trans s22').trans s23
          refine ⟨.ref p, rfl, .int (i : Int), rfl, _, _, rfl, rfl, ((i + 2 : Nat) : Int), rfl, ?_⟩
          dsimp only [tNoPart]
          refine slA (same_sqt s203 hp20) fun H24 t16 s24 h24' => ?_
          rw [cut_from] at h24'
          refine catA (same_sqt s24 h23) h24' (one (by rw [List.length_append, List.length_reverse, List.length_take, List.length_take, List.length_drop, List.length_drop]; omega)) fun H25 tD s25 hD => ?_
          have s205 := (s203.trans s24).trans s25
          have tr25 := tr20.same s205
          have hds25 : DqAll K (hideL (a :: l1 :: L) H25) xs ds := dqall_same (hideL_same2 s205) hds20
          obtain ⟨V3, V4, v4, v5, v6'⟩ := v2.split (i + 2 - i)
          have GD : GdV K a (l1 :: L) (Bd + 1) (2 * W + 700) (max (D0 + 1 + 3) (23 + deep)) H25 (.ref tD) := ⟨_, .tup (hideL_sqt tr25 hD) (dqall_app (dqall_drop hds25) (dqall_app (dqall_rev (dqall_take (dqall_drop hds25))) (dqall_take hds25))), (Tms.app x2 (Tms.app (Tms.rev (W := 0) v4) v1)).tup.mono (Nat.le_refl _) (by omega) (by omega)⟩
          have G25 : ∀ v ∈ ([.ref tA, .ref tB, .ref q1, .ref t7, .ref tC, .ref tD] : List V), GdV K a (l1 :: L) (Bd + 1) (2 * W + 700) (max (D0 + 1 + 3) (23 + deep)) H25 v := fun v hv => by
            rcases List.mem_append.mp (show v ∈ [.ref tA, .ref tB, .ref q1, .ref t7, .ref tC] ++ [.ref tD] from hv) with hv | hv
            · exact (G20 v hv).same s205
            · rw [List.mem_singleton.mp hv]
              exact GD
          have e25 := s205 _ _ e20
          refine ⟨l1, _, _, rfl, rfl, e25, small1000 (by show 5 ≤ 1000; decide), ?_⟩
          have e26 : (upd H25 l1 (.lst ([.ref tA, .ref tB, .ref q1, .ref t7, .ref tC] ++ [.ref tD]))) l1 = some (.lst [.ref tA, .ref tB, .ref q1, .ref t7, .ref tC, .ref tD]) := upd_same
          have G26 : ∀ v ∈ ([.ref tA, .ref tB, .ref q1, .ref t7, .ref tC, .ref tD] : List V), GdV K a (l1 :: L) (Bd + 1) (2 * W + 700) (max (D0 + 1 + 3) (23 + deep)) (upd H25 l1 (.lst ([.ref tA, .ref tB, .ref q1, .ref t7, .ref tC] ++ [.ref tD]))) v := fun v hv => (G25 v hv).put
          have hds26 : DqAll K (hideL (a :: l1 :: L) (upd H25 l1 (.lst ([.ref tA, .ref tB, .ref q1, .ref t7, .ref tC] ++ [.ref tD])))) xs ds := dqall_same (hideL_put (List.mem_cons_of_mem _ List.mem_cons_self)) hds25
          have hp26 : SqT K (upd H25 l1 (.lst ([.ref tA, .ref tB, .ref q1, .ref t7, .ref tC] ++ [.ref tD]))) p xs := put_sqt e25 (same_sqt s205 hp20)
          have hh26 : HandAt (upd H25 l1 (.lst ([.ref tA, .ref tB, .ref q1, .ref t7, .ref tC] ++ [.ref tD]))) a (n + 27) := tr25.hand.put hla
          have b26 : But a H2 (upd H25 l1 (.lst ([.ref tA, .ref tB, .ref q1, .ref t7, .ref tC] ++ [.ref tD]))) := fun b' o nb eb => by
            rw [upd_ne (ne_of_none eb none2)]
            exact s205 _ _ (b20 _ _ nb eb)
          have tr26 : Tr a (l1 :: L) (n + 27) (upd H25 l1 (.lst ([.ref tA, .ref tB, .ref q1, .ref t7, .ref tC] ++ [.ref tD]))) := ⟨hh26, fun x hx => by
            rcases List.mem_cons.mp hx with rfl | hx
            · exact ⟨hla, _, e26⟩
            · have z := tr2.ls x hx
              obtain ⟨z1, xs', z2⟩ := z
              exact ⟨z1, xs', b26 _ _ z1 z2⟩⟩
          generalize upd H25 l1 (.lst ([.ref tA, .ref tB, .ref q1, .ref t7, .ref tC] ++ [.ref tD])) = H26 at e26 G26 hds26 hp26 hh26 b26 tr26 ⊢
          clear G25 GD G20 hds20 hds25 hD e25 e20
          -- drawn
          refine ⟨.ref a, rfl, .ref l1, rfl, .ref p, rfl, (by show 1 ≤ sizeLine; decide), fun t17 n17 => ⟨(by show 1 ≤ sizeLine; decide), fun l2 n2 => ?_⟩⟩
          have s27 : Same H26 (upd (upd H26 t17 (.tup [.ref p])) l2 (.lst [.ref t17])) := (same_new n17).trans (same_new n2)
          have k3 : (upd (upd H26 t17 (.tup [.ref p])) l2 (.lst [.ref t17])) t17 = some (.tup [.ref p]) := same_new n2 _ _ upd_same
          have k4 : (upd (upd H26 t17 (.tup [.ref p])) l2 (.lst [.ref t17])) l2 = some (.lst [.ref t17]) := upd_same
          show rCat (.ref l1) (.ref l2) (upd (upd H26 t17 (.tup [.ref p])) l2 (.lst [.ref t17])) _
          generalize upd (upd H26 t17 (.tup [.ref p])) l2 (.lst [.ref t17]) = H27 at s27 k3 k4 ⊢
          have tr27 := tr26.same s27
          have hds27 : DqAll K (hideL (a :: l1 :: L) H27) xs ds := dqall_same (hideL_same2 s27) hds26
          refine ⟨l1, l2, _, _, rfl, rfl, s27 _ _ e26, k4, (by show 6 + 1 ≤ sizeLine; decide), fun lc nlc => ?_⟩
          have s28 : Same H27 (upd H27 lc (.lst ([.ref tA, .ref tB, .ref q1, .ref t7, .ref tC, .ref tD] ++ [.ref t17]))) := same_new nlc
          refine ⟨a, lc, _, _, rfl, (tr27.hand.ne nlc).symm, upd_same, (by show 0 < 7; decide), (by show 7 ≤ 1000; decide), tr27.hand.same s28, by omega, fun H29 v9 b29 hh29 hv9 => ?_⟩
          refine q H29 v9 ((b26.trans (But.of (s27.trans s28))).trans b29) (hh29.le (by omega)) (GdV.more (l := l1) (GdV.but b29 ?_))
          rcases List.mem_append.mp hv9 with hv | hv
          · exact (G26 v9 hv).same (s27.trans s28)
          · rw [List.mem_singleton.mp hv]
            refine GdV.same s28 ⟨_, .tup (hideL_sqt tr27 (SqT.of k3)) (.cons (.tup (hideL_sqt tr27 (same_sqt s27 hp26)) hds27) .nil), (Tms.cons ht' (.nil (W := 0))).tup.mono (Nat.le_refl _) (by omega) (by omega)⟩
        | str x =>
          have hch : (x.cps.toList.all fun c => decide (c < 16 ^ 8)) = true := by have := ht.tm; unfold tame at this; exact this
          have hxw : x.length ≤ W := hWW
          have hx5 : x.length ≤ 100000 := hw
          refine iteFF rfl ⟨.str x, rfl, .str x, .ty "str", _, _, _, rfl, .ty _, Dq.tyx hdv2, kit_ty (kit_strB _), _, rfl, iteTT rfl ⟨(by show 13 ≤ sizeLine; decide), fun l1 n1 => ?_⟩⟩
          have s3 := same_new (o := .lst [.str "one", .str "house", .str "fig", .str "share", .str "least", .str "sum", .str "put", .str "told", .str "when", .str "where", .str "zz", .str "Zz", .str ""]) n1
          have k1 : (upd H2 l1 (.lst [.str "one", .str "house", .str "fig", .str "share", .str "least", .str "sum", .str "put", .str "told", .str "when", .str "where", .str "zz", .str "Zz", .str ""])) l1 = some (.lst [.str "one", .str "house", .str "fig", .str "share", .str "least", .str "sum", .str "put", .str "told", .str "when", .str "where", .str "zz", .str "Zz", .str ""]) := upd_same
          generalize upd H2 l1 (.lst [.str "one", .str "house", .str "fig", .str "share", .str "least", .str "sum", .str "put", .str "told", .str "when", .str "where", .str "zz", .str "Zz", .str ""]) = H3 at s3 k1 ⊢
          refine ⟨.ref a, rfl, .ref l1, rfl, .str x, rfl, x, "a", rfl, rfl, Nat.le_trans (show x.length + 1 ≤ 200000 by omega) (by decide), .str x, rfl, 1, rfl, ?_⟩
          dsimp only [tNoPart]
          refine ⟨x, rfl, Nat.le_trans hx5 (by decide), .str x, rfl, x, "aaaaaaaa", rfl, rfl, Nat.le_trans (show x.length + 8 ≤ 200000 by omega) (by decide), (by show 4 ≤ sizeLine; decide), fun l2 n2 => ?_⟩
          have s4 := same_new (o := .lst [.str (x ++ "a"), .str (Txt.slice x (some 1) none), .str (x ++ "aaaaaaaa"), .int 0]) n2
          refine ⟨l1, l2, _, _, rfl, rfl, s4 _ _ k1, upd_same, (by show 13 + 4 ≤ sizeLine; decide), fun lc nlc => ?_⟩
          have s5 := s4.trans (same_new (o := .lst ([.str "one", .str "house", .str "fig", .str "share", .str "least", .str "sum", .str "put", .str "told", .str "when", .str "where", .str "zz", .str "Zz", .str ""] ++ [.str (x ++ "a"), .str (Txt.slice x (some 1) none), .str (x ++ "aaaaaaaa"), .int 0])) nlc)
          have s25 := s3.trans s5
          refine ⟨a, lc, _, _, rfl, ((hh2.same (s3.trans s4)).ne nlc).symm, upd_same, (by show 0 < 17; decide), (by show 17 ≤ 1000; decide), hh2.same s25, by omega, fun H9 v9 b9 hh9 hv9 => ?_⟩
          refine q H9 v9 ((But.of s25).trans b9) (hh9.le (by omega)) ?_
          have happ : ∀ y : Str, (y.cps.toList.all fun c => decide (c < 16 ^ 8)) = true → ((x ++ y).cps.toList.all fun c => decide (c < 16 ^ 8)) = true := fun y hy => by
            show ((x.cps ++ y.cps).toList.all _) = true
            rw [Array.toList_append, List.all_append, hch, hy]
            rfl
          have hsz : ∀ y : Str, (x ++ y).cps.size = x.length + y.length := fun y => Array.size_append
          have hsl := Txt.slice_le x (some 1) none
          have hv9 : v9 ∈ ([.str "one", .str "house", .str "fig", .str "share", .str "least", .str "sum", .str "put", .str "told", .str "when", .str "where", .str "zz", .str "Zz", .str "", .str (x ++ "a"), .str (Txt.slice x (some 1) none), .str (x ++ "aaaaaaaa"), .int 0] : List V) := hv9
          simp only [List.mem_cons, List.not_mem_nil, or_false] at hv9
          rcases hv9 with rfl | rfl | rfl | rfl | rfl | rfl | rfl | rfl | rfl | rfl | rfl | rfl | rfl | rfl | rfl | rfl | rfl
          · exact gS (by decide) (by decide)
          · exact gS (by decide) (by decide)
          · exact gS (by decide) (by decide)
          · exact gS (by decide) (by decide)
          · exact gS (by decide) (by decide)
          · exact gS (by decide) (by decide)
          · exact gS (by decide) (by decide)
          · exact gS (by decide) (by decide)
          · exact gS (by decide) (by decide)
          · exact gS (by decide) (by decide)
          · exact gS (by decide) (by decide)
          · exact gS (by decide) (by decide)
          · exact gS (by decide) (by decide)
          · exact ⟨_, .str _, tm_str (happ _ (by decide)) (by rw [hsz]; show x.length + 1 ≤ _; omega)⟩
          · exact ⟨_, .str _, tm_str (slice_all hch) (by show (Txt.slice x (some 1) none).length ≤ _; omega)⟩
          · exact ⟨_, .str _, tm_str (happ _ (by decide)) (by rw [hsz]; show x.length + 8 ≤ _; omega)⟩
          · exact gI (by omega)
        | int i =>
          have hib : i.natAbs ≤ Bd := of_decide_eq_true (by have := ht.tm; unfold tame at this; exact this)
          have hlog : i.natAbs.log2 < 1920 := Nat.lt_trans (PySem.Flt.log2_lt_of (k := 139) (by decide) (Nat.lt_of_le_of_lt hib (Nat.lt_of_lt_of_le (Nat.lt_of_succ_lt hB2) (by decide)))) (by decide)
          refine iteFF rfl ⟨.int i, rfl, .int i, .ty "str", _, _, _, rfl, .ty _, Dq.tyx hdv2, kit_ty (kit_strB _), _, rfl, iteFF rfl ⟨.int i, rfl, .int i, .ty "int", _, _, _, rfl, .ty _, Dq.tyx hdv2, kit_ty (kit_int _), _, rfl, iteTT rfl ?_⟩⟩
          refine ⟨.ref a, rfl, .int i, rfl, i, 1, rfl, .inl rfl, .int i, rfl, i, 1, .inl ⟨rfl, .inl rfl⟩, .int i, rfl, 0, i, .inl ⟨rfl, .inl rfl⟩, .int i, rfl, .int i, (Str.ofString (toString i)), rfl, (if_pos hlog), 10, 13, rfl, rfl, ⟨by decide, by decide, by decide⟩, (by show 11 ≤ sizeLine; decide), fun l6 n6 => ?_⟩
          refine ⟨a, l6, _, _, rfl, (hh2.ne n6).symm, upd_same, (by show 0 < 11; decide), (by show 11 ≤ 1000; decide), hh2.new n6, by omega, fun H9 v9 b9 hh9 hv9 => ?_⟩
          refine q H9 v9 ((But.new n6).trans b9) (hh9.le (by omega)) ?_
          have e13 : (10 : Int) ^ (13 : Int).toNat = 10000000000000 := by decide
          dsimp only at hv9
          rw [e13] at hv9
          simp only [List.mem_cons, List.not_mem_nil, or_false] at hv9
          rcases hv9 with rfl | rfl | rfl | rfl | rfl | rfl | rfl | rfl | rfl | rfl | rfl
          · exact gI (by omega)
          · exact gI (by omega)
          · exact gI (by omega)
          · exact gI (by omega)
          · exact gB
          · exact gB
          · exact ⟨_, .str _, (Tm.sint (by omega)).mono (Nat.le_refl _) (by omega) (by omega)⟩
          · exact ⟨_, .non, Tm.non.mono (Nat.le_refl _) (by omega) (by omega)⟩
          · exact gI (by omega)
          · exact gI (by omega)
          · exact gI (by omega)
        | bl bb =>
          have hib : (b2 bb).natAbs ≤ 1 := by cases bb <;> decide
          refine iteFF rfl ⟨.bl bb, rfl, .bl bb, .ty "str", _, _, _, rfl, .ty _, Dq.tyx hdv2, kit_ty (kit_strB _), _, rfl, iteFF rfl ⟨.bl bb, rfl, .bl bb, .ty "int", _, _, _, rfl, .ty _, Dq.tyx hdv2, kit_ty (kit_int _), _, rfl, iteTT rfl ?_⟩⟩
          refine ⟨.ref a, rfl, .bl bb, rfl, b2 bb, 1, rfl, .inr ⟨bb, rfl, rfl⟩, .bl bb, rfl, b2 bb, 1, .inr ⟨bb, rfl, rfl, rfl⟩, .bl bb, rfl, 0, b2 bb, .inl ⟨rfl, .inr ⟨bb, rfl, rfl⟩⟩, .bl bb, rfl, .bl bb, (if bb = true then "True" else "False"), rfl, rfl, 10, 13, rfl, rfl, ⟨by decide, by decide, by decide⟩, (by show 11 ≤ sizeLine; decide), fun l6 n6 => ?_⟩
          refine ⟨a, l6, _, _, rfl, (hh2.ne n6).symm, upd_same, (by show 0 < 11; decide), (by show 11 ≤ 1000; decide), hh2.new n6, by omega, fun H9 v9 b9 hh9 hv9 => ?_⟩
          refine q H9 v9 ((But.new n6).trans b9) (hh9.le (by omega)) ?_
          have e13 : (10 : Int) ^ (13 : Int).toNat = 10000000000000 := by decide
          dsimp only at hv9
          rw [e13] at hv9
          simp only [List.mem_cons, List.not_mem_nil, or_false] at hv9
          rcases hv9 with rfl | rfl | rfl | rfl | rfl | rfl | rfl | rfl | rfl | rfl | rfl
          · exact gI (by omega)
          · exact gI (by omega)
          · exact gI (by omega)
          · exact gI (by omega)
          · exact gB
          · exact gB
          · exact gS (by cases bb <;> decide) (by cases bb <;> decide)
          · exact ⟨_, .non, Tm.non.mono (Nat.le_refl _) (by omega) (by omega)⟩
          · exact gI (by omega)
          · exact gI (by omega)
          · exact gI (by omega)
        | _ => exact iteFF rfl ⟨_, rfl, _, .ty "str", _, _, _, rfl, .ty _, Dq.tyx hdv2, kit_ty (kit_strB _), _, rfl, iteFF rfl ⟨_, rfl, _, .ty "int", _, _, _, rfl, .ty _, Dq.tyx hdv2, kit_ty (kit_int _), _, rfl, iteFF rfl ⟨.ref a, rfl, hodd _ (But.refl _ _) hh2⟩⟩⟩
end
end NG


namespace NG
open PySem PySem.Spec PyProof.Rows L2
/-! ### promises of the looks at things -/
def spIsNum (K : PySem.W.Frag) : Sp := fun vs H Q _ => ∃ (v : V) (d : PyData), vs = [v] ∧ Dq K H v d ∧ Q (.bl (isInt d)) H
def spInB (K : PySem.W.Frag) : Sp := fun vs H Q _ => ∃ (v : V) (lo hi : Int) (d : PyData), vs = [v, .int lo, .int hi] ∧ Dq K H v d ∧ Q (.bl (inD lo hi d)) H
def spFits (K : PySem.W.Frag) : Sp := fun vs H Q _ => ∃ (k : Kd) (v : V) (many : Int) (d : PyData), vs = [.str (kdn k), v, .int many] ∧ Dq K H v d ∧ ∀ H', Same H H' → Q (.bl (fitD many k d)) H'
def wdV : PyData → V
  | .tuple (.str x :: _) => .str x
  | _ => .non
def hasD (many : Int) : PyData → Bool
  | .tuple (.str x :: ds) => match weOf x with
    | some w => fitsD many (wsh w) ds
    | none => false
  | _ => false
theorem hasD_non {many : Int} : ∀ {d : PyData}, wdV d = .non → hasD many d = false
  | .tuple (.str _ :: _), h => by cases h
  | .tuple [], _ => rfl
  | .tuple (.none :: _), _ => rfl
  | .tuple (.bool _ :: _), _ => rfl
  | .tuple (.int _ :: _), _ => rfl
  | .tuple (.list _ :: _), _ => rfl
  | .tuple (.tuple _ :: _), _ => rfl
  | .tuple (.dict _ :: _), _ => rfl
  | .none, _ => rfl
  | .bool _, _ => rfl
  | .int _, _ => rfl
  | .str _, _ => rfl
  | .list _, _ => rfl
  | .dict _, _ => rfl
/-- no other words stand in the table -/
def Only11 (K : PySem.W.Frag) (a : Addr) : Prop := ∀ x, weOf x = none → PySem.W.nsIn K a x = some none
def spFirst (K : PySem.W.Frag) : Sp := fun vs H Q _ => ∃ (v : V) (d : PyData), vs = [v] ∧ Dq K H v d ∧ Q (wdV d) H
def spFitsSh (K : PySem.W.Frag) : Sp := fun vs H Q _ => ∃ (p q : Addr) (many : Int) (x : Str) (xs : List V) (ds : List PyData) (ks : List Kd), vs = [.ref p, .ref q, .int many] ∧ SqT K H p (.str x :: xs) ∧ DqAll K H xs ds ∧ (∀ H', SqT K H' q (ks.map fun k => V.str (kdn k))) ∧ ks.length ≤ 4 ∧ ∀ H', Same H H' → Q (.bl (fitsD many ks ds)) H'
def spHasSh (K : PySem.W.Frag) : Sp := fun vs H Q _ => ∃ (v : V) (many : Int) (d : PyData), vs = [v, .int many] ∧ Dq K H v d ∧ ∀ H', Same H H' → Q (.bl (hasD many d)) H'
def spPartsD (K : PySem.W.Frag) : Sp := fun vs H Q _ => ∃ (p : Addr) (w : We) (xs : List V) (ds : List PyData), vs = [.ref p] ∧ SqT K H p (.str (wen w) :: xs) ∧ DqAll K H xs ds ∧ ds.length = (wsh w).length ∧ ∀ H' l us, Same H H' → H l = none → H' l = some (.lst us) → DqAll K H' us (partsD (wsh w) ds) → Q (.ref l) H'
def spCntE (K : PySem.W.Frag) (n : Nat) : Sp := fun vs H Q _ => ∃ (v : V) (many : Int) (k : Nat) (d : PyData), vs = [v, .int many, .int (k : Int)] ∧ k < n ∧ Dq K H v d ∧ ∀ H', Same H H' → Q (.int (cntE many k d : Nat)) H'
theorem only11_of {K : PySem.W.Frag} {w : World} {d : Addr} {es : Array DictEntry} {n : Nat} (hl : K.lookup d = some ⟨.type "dict", none, .dict es n, #[]⟩) (hk : PySem.W.KeysLit w.params es.toList) (hx : ktx es.toList = [some ("fig" : Str), some ("reg" : Str), some ("share" : Str), some ("sum" : Str), some ("less" : Str), some ("times" : Str), some ("by" : Str), some ("least" : Str), some ("most" : Str), some ("when" : Str), some ("where" : Str)]) : Only11 K d := fun x h0 => nsIn_absent hl hk (fun h => by
  rw [hx] at h
  simp only [List.mem_cons, List.not_mem_nil, or_false, Option.some.injEq] at h
  rcases h with rfl | rfl | rfl | rfl | rfl | rfl | rfl | rfl | rfl | rfl | rfl <;> exact absurd h0 (by decide))
def spIsEx (K : PySem.W.Frag) : Sp := fun vs H Q _ => ∃ (v : V) (many : Int) (d : PyData), vs = [v, .int many] ∧ Dq K H v d ∧ ∀ H', Same H H' → Q (.bl (isEx many d)) H'
def spIsRegs (K : PySem.W.Frag) : Sp := fun vs H Q _ => ∃ (p : Addr) (xs : List V) (ds : List PyData), vs = [.ref p] ∧ SqT K H p xs ∧ DqAll K H xs ds ∧ ∀ H', Same H H' → Q (.bl (regsD ds)) H'
section
variable {P : Program} {w : World} {K : PySem.W.Frag} {mg : Str → Option Value} {base : Heap}
theorem ok_isnum {f : Addr} {fd : FuncData} (F : Fun K "is_number" "is_number" s_is_number f fd) (gF : mg "is_number" = some (.ref f)) (b : Binds K fd ["thing"] []) (B : Bl mg) (n_bool : mg "bool" = none) : Cal P w K mg base 1 "is_number" (spIsNum K) := by
  refine ⟨f, fd, _, F.ok sc_is_number (fun vs H Q E h => ?_) (fun cdv A outer s H vs Q E hr h => ?_), gF, F.kp, b⟩
  · obtain ⟨_, _, rfl, _⟩ := h
    rfl
  · obtain ⟨v, d, rfl, hd, q⟩ := h
    refine ⟨_, (pss_one (ps_ret (pe_and (pe_callB call_isi (by rfl) B.isinstance (by decide +kernel) (pa_cons (pv 0) (pa_cons (pe_bltn (v := .ty "int") (by rfl) B.int (by decide +kernel) rfl) pa_nil))) (pe_one (pe_not (pe_callB call_isi (by rfl) B.isinstance (by decide +kernel) (pa_cons (pv 0) (pa_cons (pe_bltn (v := .ty "bool") (by rfl) n_bool (by decide +kernel) rfl) pa_nil)))))))), ?_⟩
    refine ⟨v, rfl, v, .ty "int", _, _, _, rfl, .ty _, Dq.tyx hd, kit_ty (kit_int d), _, rfl, ?_⟩
    rw [← isInt_eq d] at q
    cases hk : kI d with
    | false =>
      rw [hk] at q
      exact iteFF rfl q
    | true =>
      rw [hk] at q
      exact iteTT rfl ⟨v, rfl, v, .ty "bool", _, _, _, rfl, .ty _, Dq.tyx hd, kit_ty (kit_bool d), _, rfl, q⟩
theorem ok_iswithin {f : Addr} {fd : FuncData} (F : Fun K "is_within" "is_within" s_is_within f fd) (gF : mg "is_within" = some (.ref f)) (b : Binds K fd ["thing", "low", "high"] []) (c_is_number : Cal P w K mg base 1 "is_number" (spIsNum K)) : Cal P w K mg base 2 "is_within" (spInB K) := by
  refine ⟨f, fd, _, F.ok sc_is_within (fun vs H Q E h => ?_) (fun cdv A outer s H vs Q E hr h => ?_), gF, F.kp, b⟩
  · obtain ⟨_, _, _, _, rfl, _⟩ := h
    rfl
  · obtain ⟨v, lo, hi, d, rfl, hd, q⟩ := h
    refine ⟨_, (pss_one (ps_ret (pe_and (pe_c c_is_number hr (by omega) (by rfl) (pa_cons (pv 0) pa_nil)) (pe_one (pe_chain op_le op_le (pv 1) (pv 0) (pv 2)))))), ?_⟩
    refine ⟨v, rfl, v, d, rfl, hd, _, rfl, ?_⟩
    cases hd with
    | int i =>
      refine iteTT rfl ⟨.int lo, rfl, .int i, rfl, _, _, rfl, rfl, _, rfl, ?_⟩
      have q : Q (.bl (decide (lo ≤ i) && decide (i ≤ hi))) H := q
      by_cases c : lo ≤ i
      · rw [decide_eq_true c] at q ⊢
        exact iteT ⟨.int hi, rfl, _, _, rfl, rfl, q⟩
      · rw [decide_eq_false c] at q ⊢
        exact iteF q
    | non => exact iteFF rfl q
    | bl _ => exact iteFF rfl q
    | str _ => exact iteFF rfl q
    | lst _ _ => exact iteFF rfl q
    | tup _ _ => exact iteFF rfl q
    | dic _ => exact iteFF rfl q
theorem ok_fits {f a_BOUNDS : Addr} {fd : FuncData} (F : Fun K "fits" "fits" s_fits f fd) (gF : mg "fits" = some (.ref f)) (b : Binds K fd ["kind", "thing", "many"] []) (mg_BOUNDS : mg "BOUNDS" = some (.ref a_BOUNDS)) (hN : TabN K w a_BOUNDS) (c_is_within : Cal P w K mg base 2 "is_within" (spInB K)) : Cal P w K mg base 3 "fits" (spFits K) := by
  refine ⟨f, fd, _, F.ok sc_fits (fun vs H Q E h => ?_) (fun cdv A outer s H vs Q E hr h => ?_), gF, F.kp, b⟩
  · obtain ⟨_, _, _, _, rfl, _⟩ := h
    rfl
  · obtain ⟨k, v, many, d, rfl, hd, q⟩ := h
    refine ⟨_, (pss_cons (ps_if (pt_cmpR op_eq (pv 0) pe_str (nomark _)) (pss_one (ps_ret pe_bl)) pss_nil) (pss_cons (ps_asg (pe_cut (pe_ifExp (pt_cmpR op_eq (pv 0) pe_str (nomark _)) (pe_tup (pa_cons pe_int (pa_cons (pe_op op_sub (pv 2) pe_int) pa_nil))) (pe_ix ix_kdict (pe_glob (v := .ref a_BOUNDS) (by rfl) mg_BOUNDS rfl) (pv 0) (fun _ _ => rfl)))) (pg_tup rfl (pgs_cons (pg_name (i := 3) sc_fits.nd rfl (.inl rfl)) (pgs_cons (pg_name (i := 4) sc_fits.nd rfl (.inl rfl)) pgs_nil)))) (pss_one (ps_ret (pe_c c_is_within hr (by omega) (by rfl) (pa_cons (pv 1) (pa_cons (pv 3) (pa_cons (pv 4) pa_nil)))))))), ?_⟩
    cases k with
    | part => exact ⟨_, rfl, rfl, _, rfl, iteTT (by decide) (q H (Same.refl _))⟩
    | sign =>
      refine ⟨_, rfl, rfl, _, rfl, iteFF (by decide) ⟨fun u H' => Same H H' ∧ ∃ bq, u = .ref bq ∧ SqT K H' bq [.int 0, .int (many - 1)], ⟨_, rfl, rfl, _, rfl, iteTT (by decide) ⟨_, rfl, _, _, rfl, rfl, (by show 2 ≤ sizeLine; decide), fun p np => ⟨same_new np, p, rfl, SqT.of upd_same⟩⟩⟩, ?_⟩⟩
      rintro u H1 ⟨sm, b1, rfl, hb1⟩
      exact ⟨b1, _, rfl, hb1, rfl, _, _, rfl, _, _, rfl, rfl, v, rfl, _, rfl, _, rfl, v, _, _, d, rfl, dq_same sm hd, q _ sm⟩
    | figure =>
      obtain ⟨bq, hkd, hsq⟩ := hN .figure (by decide) (by decide)
      refine ⟨_, rfl, rfl, _, rfl, iteFF (by decide) ⟨fun u H' => Same H H' ∧ ∃ bq, u = .ref bq ∧ SqT K H' bq [.int (bndE .figure).1, .int (bndE .figure).2], ⟨_, rfl, rfl, _, rfl, iteFF (by decide) ⟨_, rfl, a_BOUNDS, _, _, rfl, rfl, hkd, Same.refl _, bq, rfl, hsq _⟩⟩, ?_⟩⟩
      rintro u H1 ⟨sm, b1, rfl, hb1⟩
      exact ⟨b1, _, rfl, hb1, rfl, _, _, rfl, _, _, rfl, rfl, v, rfl, _, rfl, _, rfl, v, _, _, d, rfl, dq_same sm hd, q _ sm⟩
    | place =>
      obtain ⟨bq, hkd, hsq⟩ := hN .place (by decide) (by decide)
      refine ⟨_, rfl, rfl, _, rfl, iteFF (by decide) ⟨fun u H' => Same H H' ∧ ∃ bq, u = .ref bq ∧ SqT K H' bq [.int (bndE .place).1, .int (bndE .place).2], ⟨_, rfl, rfl, _, rfl, iteFF (by decide) ⟨_, rfl, a_BOUNDS, _, _, rfl, rfl, hkd, Same.refl _, bq, rfl, hsq _⟩⟩, ?_⟩⟩
      rintro u H1 ⟨sm, b1, rfl, hb1⟩
      exact ⟨b1, _, rfl, hb1, rfl, _, _, rfl, _, _, rfl, rfl, v, rfl, _, rfl, _, rfl, v, _, _, d, rfl, dq_same sm hd, q _ sm⟩
    | factor =>
      obtain ⟨bq, hkd, hsq⟩ := hN .factor (by decide) (by decide)
      refine ⟨_, rfl, rfl, _, rfl, iteFF (by decide) ⟨fun u H' => Same H H' ∧ ∃ bq, u = .ref bq ∧ SqT K H' bq [.int (bndE .factor).1, .int (bndE .factor).2], ⟨_, rfl, rfl, _, rfl, iteFF (by decide) ⟨_, rfl, a_BOUNDS, _, _, rfl, rfl, hkd, Same.refl _, bq, rfl, hsq _⟩⟩, ?_⟩⟩
      rintro u H1 ⟨sm, b1, rfl, hb1⟩
      exact ⟨b1, _, rfl, hb1, rfl, _, _, rfl, _, _, rfl, rfl, v, rfl, _, rfl, _, rfl, v, _, _, d, rfl, dq_same sm hd, q _ sm⟩
    | line =>
      obtain ⟨bq, hkd, hsq⟩ := hN .line (by decide) (by decide)
      refine ⟨_, rfl, rfl, _, rfl, iteFF (by decide) ⟨fun u H' => Same H H' ∧ ∃ bq, u = .ref bq ∧ SqT K H' bq [.int (bndE .line).1, .int (bndE .line).2], ⟨_, rfl, rfl, _, rfl, iteFF (by decide) ⟨_, rfl, a_BOUNDS, _, _, rfl, rfl, hkd, Same.refl _, bq, rfl, hsq _⟩⟩, ?_⟩⟩
      rintro u H1 ⟨sm, b1, rfl, hb1⟩
      exact ⟨b1, _, rfl, hb1, rfl, _, _, rfl, _, _, rfl, rfl, v, rfl, _, rfl, _, rfl, v, _, _, d, rfl, dq_same sm hd, q _ sm⟩
theorem kit_str (d : PyData) : kitB (tyd d) "str" = some (match d with | .str _ => true | _ => false) := by
  cases d with
  | none => exact (by decide +kernel : kitB "NoneType" "str" = some false)
  | bool _ => exact (by decide +kernel : kitB "bool" "str" = some false)
  | int _ => exact (by decide +kernel : kitB "int" "str" = some false)
  | str _ => exact (by decide +kernel : kitB "str" "str" = some true)
  | list _ => exact (by decide +kernel : kitB "list" "str" = some false)
  | tuple _ => exact (by decide +kernel : kitB "tuple" "str" = some false)
  | dict _ => exact (by decide +kernel : kitB "dict" "str" = some false)
theorem ok_firstword {f : Addr} {fd : FuncData} (F : Fun K "first_word" "first_word" s_first_word f fd) (gF : mg "first_word" = some (.ref f)) (b : Binds K fd ["thing"] []) (B : Bl mg) : Cal P w K mg base 1 "first_word" (spFirst K) := by
  refine ⟨f, fd, _, F.ok sc_first_word (fun vs H Q E h => ?_) (fun cdv A outer s H vs Q E hr h => ?_), gF, F.kp, b⟩
  · obtain ⟨_, _, rfl, _⟩ := h
    rfl
  · obtain ⟨v, d, rfl, hd, q⟩ := h
    refine ⟨_, (pss_cons (ps_if (PW.pt (pw_and (pt_val (pe_callB call_isi (by rfl) B.isinstance (by decide +kernel) (pa_cons (pv 0) (pa_cons (pe_bltn (v := .ty "tuple") (by rfl) B.tuple (by decide +kernel) rfl) pa_nil)))) (pw_and (pt_truth (pv 0) (by intro _; rfl)) (pw_and1 (pt_val (pe_callB call_isi (by rfl) B.isinstance (by decide +kernel) (pa_cons (pe_ix ix_tup (pv 0) pe_int (fun _ _ => rfl)) (pa_cons (pe_bltn (v := .ty "str") (by rfl) B.str (by decide +kernel) rfl) pa_nil)))))))) (pss_one (ps_ret (pe_ix ix_tup (pv 0) pe_int (fun _ _ => rfl)))) pss_nil) (pss_one (ps_ret pe_non))), ?_⟩
    cases hkt : kT d with
    | false =>
      have hw : wdV d = .non := by
        cases d <;> first | rfl | cases hkt
      rw [hw] at q
      exact ⟨v, rfl, v, .ty "tuple", _, _, false, rfl, .ty _, Dq.tyx hd, kit_ty (by rw [kit_tup, hkt]), _, rfl, iteFF rfl q⟩
    | true =>
      cases hd with
      | tup hp ha =>
        rename_i p xs ds
        refine ⟨.ref p, rfl, .ref p, .ty "tuple", _, _, true, rfl, .ty _, tyx_tup hp, kit_ty (show kitB "tuple" "tuple" = some true by decide +kernel), true, rfl, iteTT rfl ?_⟩
        cases ha with
        | nil => exact ⟨.ref p, rfl, false, .inr (.inl ⟨_, hp, rfl⟩), iteFF rfl q⟩
        | cons hx hr' =>
          rename_i x xs d0 ds
          refine ⟨.ref p, rfl, true, .inr (.inl ⟨_, hp, rfl⟩), iteTT rfl ?_⟩
          refine ⟨.ref p, rfl, p, _, 0, _, rfl, rfl, hp, at_of (j := 0) rfl rfl, x, .ty "str", _, _, _, rfl, .ty _, Dq.tyx hx, kit_ty (kit_str d0), _, rfl, ?_⟩
          cases hx with
          | str z => exact iteTT rfl ⟨.ref p, rfl, p, _, 0, _, rfl, rfl, hp, at_of (j := 0) rfl rfl, q⟩
          | _ => exact iteFF rfl q
      | _ => cases hkt
theorem cutT1 {x : V} {xs : List V} : cutV (x :: xs) (some 1) none = xs := by
  unfold cutV
  rw [show HT.sIx (x :: xs).length 0 (some 1) = min 1 (x :: xs).length from HT.sIx_nat _ 0 1, HT.sIx_none, List.length_cons, show min 1 (xs.length + 1) = 1 by omega]
  show List.take (xs.length + 1 - 1) xs = xs
  rw [Nat.add_sub_cancel, List.take_length]
theorem ok_fitsshape {f : Addr} {fd : FuncData} (F : Fun K "fits_shape" "fits_shape" s_fits_shape f fd) (gF : mg "fits_shape" = some (.ref f)) (b : Binds K fd ["thing", "shape", "many"] []) (B : Bl mg) (c_fits : Cal P w K mg base 3 "fits" (spFits K)) : Cal P w K mg base 4 "fits_shape" (spFitsSh K) := by
  refine ⟨f, fd, _, F.ok sc_fits_shape (fun vs H Q E h => ?_) (fun cdv A outer s H vs Q E hr h => ?_), gF, F.kp, b⟩
  · obtain ⟨_, _, _, _, _, _, _, rfl, _⟩ := h
    rfl
  · obtain ⟨p, sq, many, x, xs, ds, ks, rfl, hp, hds, hsq, hk4, q⟩ := h
    refine ⟨_, (pss_cons (ps_if (pt_cmpR op_ne (pe_callB call_len_seq (by rfl) B.len PySem.boot_len (pa_cons (pv 0) pa_nil)) (pe_op op_add (pe_callB call_len_seq (by rfl) B.len PySem.boot_len (pa_cons (pv 1) pa_nil)) pe_int) (nomark _)) (pss_one (ps_ret pe_bl)) pss_nil) (pss_one (ps_ret (pe_callB (cr_all rfl) (by rfl) B.all (by decide +kernel) (pa_cons (pe_lc (own := [("kind", 3), ("item", 4)]) rfl sc_fits_shape.nd (RZ.pi_zipA (by rfl) B.zip (pa_cons (pv 1) (pa_cons (pe_slice sl_tupA (pv 0) (po_some pe_int) po_none) pa_nil))) (blkOk_by (N := N_fits_shape) (sc := defScope s_fits_shape) (by decide +kernel)) (fun _ _ _ _ _ => pgtK (n := 2) K rfl (pgs_cons (pg_name (i := 3) sc_fits_shape.nd rfl (.inl rfl)) (pgs_cons (pg_name (i := 4) sc_fits_shape.nd rfl (.inl rfl)) pgs_nil))) (fun _ _ _ _ _ => pts_nil) (fun _ _ _ _ _ => pe_c c_fits hr (by omega) (by rfl) (pa_cons (pv 3) (pa_cons (pv 4) (pa_cons (pv 2) pa_nil))))) pa_nil))))), ?_⟩
    have hlx := dqall_len hds
    refine ⟨.ref p, rfl, p, _, rfl, .inr hp, .ref sq, rfl, sq, _, rfl, .inr (hsq _), _, _, rfl, rfl, rfl, _, rfl, ?_⟩
    by_cases c : ds.length = ks.length
    · refine iteFF (by simp [hlx, c]) ?_
      refine ⟨.ref sq, rfl, .ref p, rfl, 1, rfl, ?_⟩
      dsimp only [tNoPart]
      refine slA hp fun H1 c1 sm1 hc1 => ?_
      rw [cutT1] at hc1
      have hlk : (ks.map fun k => V.str (kdn k)).length = xs.length := by rw [List.length_map]; omega
      refine ⟨sq, c1, (ks.map fun k => V.str (kdn k)), xs, rfl, .inr ⟨hsq _, hc1, fun D nD => lc_it (walk_zipT hlk rfl) (fun i H' => Same H1 H' ∧ H' D = some (.lst (((List.zipWith (fitD many) ks ds).take i).map V.bl))) ⟨same_new nD, upd_same⟩ (fun i H' _ h => ⟨hsq _, same_sqt h.1 hc1⟩) ?_ ?_⟩⟩
      · rintro i y H2 H3 hi ⟨sm, hD⟩ ⟨T, k, it, rfl, nT, rfl, e1, e2⟩
        have e1 : (ks.map fun k => V.str (kdn k))[i]? = some k := e1
        have e2 : xs[i]? = some it := e2
        rw [List.getElem?_map] at e1
        cases hk : ks[i]? with
        | none => rw [hk] at e1; cases e1
        | some kk =>
          rw [hk] at e1
          have ek : V.str (kdn kk) = k := Option.some.inj e1
          subst ek
          obtain ⟨dd, hdd, hdp⟩ := dqall_get hds e2
          have sm2 := sm.trans (same_new (o := .tup [V.str (kdn kk), it]) nT)
          have hD2 := same_new (o := .tup [V.str (kdn kk), it]) nT _ _ hD
          refine ⟨T, _, rfl, SqT.of upd_same, rfl, _, _, rfl, _, _, rfl, rfl, rfl, tYes_in ⟨_, rfl, _, rfl, _, rfl, kk, it, many, dd, rfl, dq_same (sm1.trans sm2) hdp, fun H4 sm4 => ?_⟩⟩
          refine ⟨_, sm4 _ _ hD2, ?_, fun b' o eb => ?_, ?_⟩
          · rw [List.length_map, List.length_take]
            exact small1000 (by have : (List.zipWith (fitD many) ks ds).length ≤ 4 := by rw [List.length_zipWith]; omega
                                omega)
          · rw [upd_ne (ne_of_none eb nD)]
            exact sm4 _ _ (sm2 _ _ eb)
          · rw [upd_same, List.take_add_one, show (List.zipWith (fitD many) ks ds)[i]? = some (fitD many kk dd) by rw [List.getElem?_zipWith, hk, hdd], List.map_append]
            rfl
      · rintro H2 ⟨sm, hD⟩
        rw [List.take_of_length_le (by rw [List.length_zipWith]; omega)] at hD
        refine ⟨D, _, rfl, SqL.of hD, ?_⟩
        rw [← fitsD_zip c]
        exact q _ (sm1.trans sm)
    · refine iteTT (by simp [hlx]; omega) ?_
      have := q H (Same.refl _)
      rw [fitsD_ne c] at this
      exact this
theorem weOf_eq {x : Str} {w : We} (h : weOf x = some w) : x = wen w := by
  unfold weOf at h
  repeat' split at h
  all_goals first | (cases h; assumption) | cases h
theorem ok_hasshape {f a_SHAPES : Addr} {fd : FuncData} (F : Fun K "has_shape" "has_shape" s_has_shape f fd) (gF : mg "has_shape" = some (.ref f)) (b : Binds K fd ["thing", "many"] []) (mg_SHAPES : mg "SHAPES" = some (.ref a_SHAPES)) (hE : TabE K w a_SHAPES) (hK : KdAt K w a_SHAPES) (hO : Only11 K a_SHAPES) (c_first_word : Cal P w K mg base 1 "first_word" (spFirst K)) (c_fits_shape : Cal P w K mg base 4 "fits_shape" (spFitsSh K)) : Cal P w K mg base 5 "has_shape" (spHasSh K) := by
  refine ⟨f, fd, _, F.ok sc_has_shape (fun vs H Q E h => ?_) (fun cdv A outer s H vs Q E hr h => ?_), gF, F.kp, b⟩
  · obtain ⟨_, _, _, rfl, _⟩ := h
    rfl
  · obtain ⟨v, many, d, rfl, hd, q⟩ := h
    refine ⟨_, (pss_cons (ps_set (i := 2) sc_has_shape.nd rfl (.inl rfl) (pe_c c_first_word hr (by omega) (by rfl) (pa_cons (pv 0) pa_nil))) (pss_one (ps_ret (pe_and (pe_cmpR op_inKq (pv 2) (pe_glob (v := .ref a_SHAPES) (by rfl) mg_SHAPES rfl) (by rfl)) (pe_one (pe_c c_fits_shape hr (by omega) (by rfl) (pa_cons (pv 0) (pa_cons (pe_ix ix_kdict (pe_glob (v := .ref a_SHAPES) (by rfl) mg_SHAPES rfl) (pv 2) (fun _ _ => rfl)) (pa_cons (pv 1) pa_nil))))))))), ?_⟩
    refine ⟨v, rfl, v, d, rfl, hd, ?_⟩
    have bad := @hasD_non many d
    by_cases hw : wdV d = .non
    · rw [hw]
      refine ⟨_, rfl, a_SHAPES, rfl, hK, .inr ⟨rfl, _, rfl, iteFF rfl ?_⟩⟩
      have q := q H (Same.refl _)
      rw [bad hw] at q
      exact q
    · obtain ⟨x, ds, rfl⟩ : ∃ x ds, d = .tuple (.str x :: ds) := by
        unfold wdV at hw
        split at hw
        · exact ⟨_, _, rfl⟩
        · exact absurd rfl hw
      cases hd with
      | tup hp ha =>
        rename_i p xs0
        cases ha with
        | cons hx hds =>
          rename_i y xs
          cases hx
          cases hwo : weOf x with
          | none =>
            refine ⟨_, rfl, a_SHAPES, rfl, hK, .inl ⟨x, none, rfl, hO x hwo, _, rfl, iteFF rfl ?_⟩⟩
            have q := q H (Same.refl _)
            have e : hasD many (.tuple (.str x :: ds)) = false := by
              unfold hasD
              simp only [hwo]
            rw [e] at q
            exact q
          | some we =>
            have ex := weOf_eq hwo
            subst ex
            obtain ⟨sq, hkd, hsq⟩ := hE.2 we
            have hkd' := hkd
            obtain ⟨es, n, u, hl, hk, hns, ru⟩ := hkd'
            refine ⟨_, rfl, a_SHAPES, rfl, hK, .inl ⟨wen we, some u, rfl, hns, _, rfl, iteTT rfl ?_⟩⟩
            refine ⟨.ref p, rfl, _, rfl, a_SHAPES, _, .ref sq, rfl, rfl, hkd, _, rfl, p, sq, many, _, xs, ds, _, rfl, hp, hds, hsq, wsh_len we, fun H' sm => ?_⟩
            have q := q H' sm
            have e : hasD many (.tuple (.str (wen we) :: ds)) = fitsD many (wsh we) ds := by
              unfold hasD
              simp only [weOf_wen]
            rw [e] at q
            exact q
def pkK : List Kd → List V → List V
  | k :: ks, d :: ds => if k = .part then d :: pkK ks ds else pkK ks ds
  | _, _ => []
theorem pkK_len : ∀ (ks : List Kd) (ds : List V), (pkK ks ds).length ≤ ds.length
  | [], _ => Nat.zero_le _
  | _ :: _, [] => Nat.zero_le _
  | k :: ks, d :: ds => by
    have := pkK_len ks ds
    unfold pkK
    split <;> simp only [List.length_cons] <;> omega
theorem pkK_snoc : ∀ {ks : List Kd} {ds : List V} {i : Nat} {k : Kd} {d : V}, ks[i]? = some k → ds[i]? = some d → pkK (ks.take (i + 1)) (ds.take (i + 1)) = pkK (ks.take i) (ds.take i) ++ (if k = .part then [d] else [])
  | [], _, i, _, _, h, _ => by simp at h
  | _ :: _, [], i, _, _, _, h => by simp at h
  | k0 :: ks, d0 :: ds, 0, k, d, h, h2 => by
    have e1 : k0 = k := Option.some.inj h
    have e2 : d0 = d := Option.some.inj h2
    subst e1 e2
    simp [pkK]
  | k0 :: ks, d0 :: ds, i + 1, k, d, h, h2 => by
    have ih := pkK_snoc (ks := ks) (ds := ds) (i := i) h h2
    rw [List.take_succ_cons, List.take_succ_cons, List.take_succ_cons, List.take_succ_cons]
    unfold pkK
    split
    · rw [ih, List.cons_append]
    · exact ih
theorem pkK_dp {K : PySem.W.Frag} {H : Hp} : ∀ {ks : List Kd} {ds : List PyData} {xs : List V}, DqAll K H xs ds → DqAll K H (pkK ks xs) (partsD ks ds)
  | [], [], _, .nil => .nil
  | [], _ :: _, _, .cons _ _ => .nil
  | _ :: _, [], _, .nil => .nil
  | k :: ks, d :: ds, _, .cons a b => by
    unfold pkK partsD
    split
    · exact .cons a (pkK_dp b)
    · exact pkK_dp b
theorem ok_partsD {f a_SHAPES : Addr} {fd : FuncData} (F : Fun K "parts" "parts" s_parts f fd) (gF : mg "parts" = some (.ref f)) (b : Binds K fd ["expression"] []) (B : Bl mg) (mg_SHAPES : mg "SHAPES" = some (.ref a_SHAPES)) (hE : TabE K w a_SHAPES) : Cal P w K mg base 1 "parts" (spPartsD K) := by
  refine ⟨f, fd, _, F.ok sc_parts (fun vs H Q E h => ?_) (fun cdv A outer s H vs Q E hr h => ?_), gF, F.kp, b⟩
  · obtain ⟨_, _, _, _, rfl, _⟩ := h
    rfl
  · obtain ⟨p, x, xs, ds, rfl, hp, hds, hl, q⟩ := h
    obtain ⟨sq, hkd, hsq⟩ := hE.2 x
    have hlx := dqall_len hds
    have hl4 := wsh_len x
    refine ⟨_, (pss_cons (ps_set (i := 1) sc_parts.nd rfl (.inl rfl) (pe_ix ix_kdict (pe_glob (v := .ref a_SHAPES) (by rfl) mg_SHAPES rfl) (pe_ix ix_tup (pv 0) pe_int (fun _ _ => rfl)) (fun _ _ => rfl))) (pss_one (ps_ret (pe_lc (own := [("kind", 2), ("item", 3)]) rfl sc_parts.nd (RZ.pi_zipA (by rfl) B.zip (pa_cons (pv 1) (pa_cons (pe_slice sl_tup (pv 0) (po_some pe_int) po_none) pa_nil))) (blkOk_by (N := N_parts) (sc := defScope s_parts) (by decide +kernel)) (fun _ _ _ _ _ => pgtK (n := 2) K rfl (pgs_cons (pg_name (i := 2) sc_parts.nd rfl (.inl rfl)) (pgs_cons (pg_name (i := 3) sc_parts.nd rfl (.inl rfl)) pgs_nil))) (fun _ _ _ _ _ => pts_one (pt_cmpR op_eq (pv 2) pe_str (nomark _))) (fun _ _ _ _ _ => pv 3))))), ?_⟩
    refine ⟨.ref p, rfl, p, _, 0, _, rfl, rfl, hp, at_of (j := 0) rfl rfl, a_SHAPES, _, .ref sq, rfl, rfl, hkd, ?_⟩
    refine ⟨.ref sq, rfl, .ref p, rfl, 1, rfl, p, _, rfl, hp, ?_, fun c nc => ?_⟩
    · rw [show HT.sIx (V.str (wen x) :: xs).length 0 (some 1) = min 1 (V.str (wen x) :: xs).length from HT.sIx_nat _ 0 1, List.length_cons]
      have : 0 < (wsh x).length := by cases x <;> exact Nat.succ_pos _
      omega
    rw [cutT1]
    have smc : Same H (upd H c (.tup xs)) := same_new nc
    have hc : (upd H c (.tup xs)) c = some (.tup xs) := upd_same
    have hlk : ((wsh x).map fun k => V.str (kdn k)).length = xs.length := by rw [List.length_map]; omega
    refine ⟨sq, c, _, xs, rfl, .inr ⟨hsq _, SqT.of hc, fun D nD => lc_it (walk_zipT hlk rfl) (fun i H' => Same (upd H c (.tup xs)) H' ∧ H' D = some (.lst (pkK ((wsh x).take i) (xs.take i)))) ⟨same_new nD, upd_same⟩ (fun i H' _ h => ⟨hsq _, SqT.of (h.1 _ _ hc)⟩) ?_ ?_⟩⟩
    · rintro i y H1 H2 hi ⟨sm, hD⟩ ⟨T, k, it, rfl, nT, rfl, e1, e2⟩
      have e1 : ((wsh x).map fun k => V.str (kdn k))[i]? = some k := e1
      have e2 : xs[i]? = some it := e2
      rw [List.getElem?_map] at e1
      cases hk : (wsh x)[i]? with
      | none => rw [hk] at e1; cases e1
      | some kk =>
        rw [hk] at e1
        have ek : V.str (kdn kk) = k := Option.some.inj e1
        subst ek
        obtain ⟨dd, hdd, hdp⟩ := dqall_get hds e2
        have sT := same_new (o := .tup [V.str (kdn kk), it]) nT
        have sm2 := sm.trans sT
        have hD2 := sT _ _ hD
        refine ⟨T, _, rfl, SqT.of upd_same, rfl, _, _, rfl, _, _, rfl, rfl, rfl, .str (kdn kk), rfl, rfl, _, rfl, ?_⟩
        by_cases cq : kk = .part
        · subst cq
          refine iteTT (by decide) ⟨it, rfl, _, hD2, ?_, fun b' o eb => ?_, ?_⟩
          · refine small1000 (Nat.le_trans (pkK_len _ _) ?_)
            rw [List.length_take]
            omega
          · rw [upd_ne (ne_of_none eb nD)]
            exact sm2 _ _ eb
          · rw [upd_same, pkK_snoc hk e2, if_pos rfl]
        · refine iteFF (by cases kk <;> first | exact absurd rfl cq | decide) ⟨sm2, ?_⟩
          rw [hD2, pkK_snoc hk e2, if_neg cq, List.append_nil]
    · rintro H1 ⟨sm, hD⟩
      rw [List.take_of_length_le (by rw [← hlk, List.length_map]; exact Nat.le_refl _), List.take_length] at hD
      have smt := smc.trans sm
      exact q _ D _ smt (smc.free nD) hD (dqall_same smt (pkK_dp hds))
end
end NG

namespace NG
open PySem PySem.Spec PyProof.Rows L2
theorem addE_drop {l : List Nat} {t i j : Nat} (h : l[i]? = some j) : addE t (l.drop i) = if j = 0 then 0 else addE (t + j) (l.drop (i + 1)) := by
  have hi := (List.getElem?_eq_some_iff.mp h).1
  rw [List.drop_eq_getElem_cons hi, (List.getElem?_eq_some_iff.mp h).2]
  rfl
theorem cntE_has {many : Int} {k : Nat} : ∀ {d : PyData}, hasD many d = true → ∃ w ds, d = .tuple (.str (wen w) :: ds) ∧ fitsD many (wsh w) ds = true
  | .tuple (.str x :: ds), h => by
    unfold hasD at h
    cases hw : weOf x with
    | none => simp only [hw] at h; cases h
    | some w =>
      simp only [hw] at h
      exact ⟨w, ds, by rw [weOf_eq hw], h⟩
  | .tuple [], h => by cases h
  | .tuple (.none :: _), h => by cases h
  | .tuple (.bool _ :: _), h => by cases h
  | .tuple (.int _ :: _), h => by cases h
  | .tuple (.list _ :: _), h => by cases h
  | .tuple (.tuple _ :: _), h => by cases h
  | .tuple (.dict _ :: _), h => by cases h
  | .none, h => by cases h
  | .bool _, h => by cases h
  | .int _, h => by cases h
  | .str _, h => by cases h
  | .list _, h => by cases h
  | .dict _, h => by cases h
theorem cntE_not {many : Int} {k : Nat} : ∀ {d : PyData}, hasD many d = false → cntE many (k + 1) d = 0
  | .tuple (.str x :: ds), h => by
    unfold hasD at h
    unfold cntE
    cases hw : weOf x with
    | none => simp only [hw]
    | some w =>
      simp only [hw] at h ⊢
      rw [if_neg (by rw [h]; exact Bool.false_ne_true)]
  | .tuple [], h => rfl
  | .tuple (.none :: _), h => rfl
  | .tuple (.bool _ :: _), h => rfl
  | .tuple (.int _ :: _), h => rfl
  | .tuple (.list _ :: _), h => rfl
  | .tuple (.tuple _ :: _), h => rfl
  | .tuple (.dict _ :: _), h => rfl
  | .none, h => rfl
  | .bool _, h => rfl
  | .int _, h => rfl
  | .str _, h => rfl
  | .list _, h => rfl
  | .dict _, h => rfl
section
variable {P : Program} {w : World} {K : PySem.W.Frag} {mg : Str → Option Value} {base : Heap}
theorem ok_cntE {f : Addr} {fd : FuncData} (F : Fun K "count_parts" "count_parts" s_count_parts f fd) (gF : mg "count_parts" = some (.ref f)) (b : Binds K fd ["thing", "many", "deep"] []) (c_has_shape : Cal P w K mg base 5 "has_shape" (spHasSh K)) (c_parts : Cal P w K mg base 1 "parts" (spPartsD K)) : ∀ n, Cal P w K mg base (n + 6) "count_parts" (spCntE K n)
  | 0 => cal_never F gF b fun vs H Q E => by rintro ⟨_, _, k, _, _, hk, _⟩; omega
  | n + 1 => by
    have c_count_parts := ok_cntE F gF b c_has_shape c_parts n
    refine ⟨f, fd, _, F.ok sc_count_parts (fun vs H Q E h => ?_) (fun cdv A outer s H vs Q E hr h => ?_), gF, F.kp, b⟩
    · obtain ⟨_, _, _, _, rfl, _⟩ := h
      rfl
    · obtain ⟨v, many, k, d, rfl, hk, hd, q⟩ := h
      refine ⟨_, (pss_cons (ps_if (PW.pt (pw_or (pt_cmpR op_eq (pv 2) pe_int (nomark _)) (pw_or1 (pt_not (pt_val (pe_c c_has_shape hr (by omega) (by rfl) (pa_cons (pv 0) (pa_cons (pv 1) pa_nil)))))))) (pss_one (ps_ret pe_int)) pss_nil) (pss_cons (ps_set (i := 3) sc_count_parts.nd rfl (.inl rfl) pe_int) (pss_cons (ps_for PassesOwn.never rfl (pi_list (pe_c c_parts hr (by omega) (by rfl) (pa_cons (pv 0) pa_nil))) (pg_name (i := 4) sc_count_parts.nd rfl (.inl rfl)) (pss_cons (ps_set (i := 5) sc_count_parts.nd rfl (.inl rfl) (pe_c c_count_parts hr (by omega) (by rfl) (pa_cons (pv 4) (pa_cons (pv 1) (pa_cons (pe_op op_sub (pv 2) pe_int) pa_nil))))) (pss_cons (ps_if (pt_cmpR op_eq (pv 5) pe_int (nomark _)) (pss_one (ps_ret pe_int)) pss_nil) (pss_one (ps_aug (i := 3) sc_count_parts.nd rfl (.inl rfl) (pv 5) ip_add))))) (pss_one (ps_ret (pv 3)))))), ?_⟩
      cases k with
      | zero => exact ⟨_, rfl, rfl, _, rfl, iteTT (by rfl) (iteTT rfl (q _ (Same.refl _)))⟩
      | succ k =>
        refine ⟨_, rfl, rfl, _, rfl, iteFF (by rw [decide_eq_false (by intro e; cases e)]) ?_⟩
        refine ⟨_, rfl, _, rfl, v, many, d, rfl, hd, fun H1 sm1 => ⟨_, rfl, ?_⟩⟩
        cases hh : hasD many d with
        | false =>
          rw [cntE_not hh] at q
          exact iteTT rfl (q _ sm1)
        | true =>
          obtain ⟨x, ds, rfl, c⟩ := cntE_has (k := 0) hh
          cases hd with
          | @tup p xs0 _ hp ha =>
            cases ha with
            | @cons y xs _ _ hy hds =>
              cases hy
              rw [cntE_eq, if_pos c] at q
              refine iteFF rfl ?_
              refine ⟨_, rfl, p, x, xs, ds, rfl, same_sqt sm1 hp, dqall_same sm1 hds, fitsD_len c, fun H2 l us sm2 nl hl hus => ?_⟩
              have hlen := dqall_len hus
              refine ⟨l, rfl, ⟨_, SqL.of hl⟩, for_list (xs := us) (fun i σ H' => ∃ (t : Nat) (y4 y5 : Option V), σ = [some (.ref p), some (.int many), some (.int ((k + 1 : Nat) : Int)), some (.int (t : Int)), y4, y5] ∧ Same H2 H' ∧ addE 1 ((partsD (wsh x) ds).map (cntE many k)) = addE t (((partsD (wsh x) ds).map (cntE many k)).drop i)) ⟨1, none, none, rfl, Same.refl _, rfl⟩ (fun i σ H' _ h => ?_) ?_ ?_⟩
              · obtain ⟨_, _, _, _, sm, _⟩ := h
                exact SqL.of (sm _ _ hl)
              · rintro i y σ H3 hy ⟨t, y4, y5, rfl, sm3, e⟩
                obtain ⟨dd, hdd, hdp⟩ := dqall_get hus hy
                have hm : ((partsD (wsh x) ds).map (cntE many k))[i]? = some (cntE many k dd) := by rw [List.getElem?_map, hdd]; rfl
                rw [addE_drop hm] at e
                refine ⟨_, rfl, _, rfl, _, rfl, _, _, rfl, rfl, y, many, k, dd, ?_, by omega, dq_same sm3 hdp, fun H4 sm4 => ?_⟩
                · show [y, V.int many, V.int (((k + 1 : Nat) : Int) - 1)] = _
                  rw [show ((k + 1 : Nat) : Int) - 1 = (k : Int) by omega]
                by_cases c0 : cntE many k dd = 0
                · rw [if_pos c0] at e
                  rw [e] at q
                  exact ⟨_, rfl, rfl, _, rfl, iteTT (by rw [c0]; rfl) (q _ (((sm1.trans sm2).trans sm3).trans sm4))⟩
                · rw [if_neg c0] at e
                  refine ⟨_, rfl, rfl, _, rfl, iteFF (decide_eq_false fun e => c0 (by have := V.int.inj e; omega)) ?_⟩
                  exact ⟨_, rfl, _, rfl, _, _, rfl, rfl, t + cntE many k dd, _, _, rfl, sm3.trans sm4, e⟩
              · rintro σ H3 ⟨t, y4, y5, rfl, sm3, e⟩
                rw [List.drop_of_length_le (by rw [List.length_map, hlen]; exact Nat.le_refl _)] at e
                rw [e] at q
                exact ⟨_, rfl, q _ ((sm1.trans sm2).trans sm3)⟩
theorem fn_isex {f : Addr} {fd : FuncData} (F : Fun K "is_expression" "is_expression" s_is_expression f fd) {t1 t2 : Tok} (mg_MOST_DEEP_expressions : mg "MOST_DEEP_expressions" = some (.int 8 t1)) (mg_MOST_PARTS : mg "MOST_PARTS" = some (.int 40 t2)) (c_count_parts : Cal P w K mg base 15 "count_parts" (spCntE K 9)) : FnOk P w K mg base CX0 16 f fd ["thing", "many"] (spIsEx K) := by
  refine F.ok sc_is_expression (fun vs H Q E h => ?_) (fun cdv A outer s H vs Q E hr h => ?_)
  · obtain ⟨_, _, _, rfl, _⟩ := h
    rfl
  · obtain ⟨v, many, d, rfl, hd, q⟩ := h
    refine ⟨_, (pss_one (ps_ret (pe_chain op_le op_le pe_int (pe_c c_count_parts hr (by omega) (by rfl) (pa_cons (pv 0) (pa_cons (pv 1) (pa_cons (pe_glob (v := .int (8)) (by rfl) mg_MOST_DEEP_expressions ⟨_, rfl⟩) pa_nil)))) (pe_glob (v := .int (40)) (by rfl) mg_MOST_PARTS ⟨_, rfl⟩)))), ?_⟩
    refine ⟨_, rfl, _, rfl, v, many, 8, d, rfl, by decide, hd, fun H1 sm1 => ?_⟩
    have q := q H1 sm1
    unfold isEx at q
    refine ⟨_, _, rfl, rfl, _, rfl, ?_⟩
    by_cases c : 1 ≤ cntE many 8 d
    · rw [decide_eq_true c, Bool.true_and] at q
      refine iteTT (decide_eq_true (by omega)) ⟨_, _, rfl, rfl, ?_⟩
      show Q (.bl (decide (((cntE many 8 d : Nat) : Int) ≤ 40))) H1
      rw [show decide (((cntE many 8 d : Nat) : Int) ≤ 40) = decide (cntE many 8 d ≤ 40) by rw [decide_eq_decide]; omega]
      exact q
    · rw [decide_eq_false c, Bool.false_and] at q
      exact iteFF (decide_eq_false (by omega)) q
end
end NG

namespace NG
open PySem PySem.Spec PyProof.Rows L2
section
variable {P : Program} {w : World} {K : PySem.W.Frag} {mg : Str → Option Value} {base : Heap}
theorem ok_parts {f a_SHAPES : Addr} {fd : FuncData} (F : Fun K "parts" "parts" s_parts f fd) (gF : mg "parts" = some (.ref f)) (b : Binds K fd ["expression"] []) (B : Bl mg) (mg_SHAPES : mg "SHAPES" = some (.ref a_SHAPES)) (hSh : Shapes K w a_SHAPES) : Cal P w K mg base 1 "parts" (spParts K) := by
  refine ⟨f, fd, _, F.ok sc_parts (fun vs H Q E h => ?_) (fun cdv A outer s H vs Q E hr h => ?_), gF, F.kp, b⟩
  · obtain ⟨_, _, rfl, _⟩ := h
    rfl
  · obtain ⟨v, e, rfl, he, q⟩ := h
    obtain ⟨p, xs, rfl, hp, hl, hl4, hl0, hrow⟩ := he.lies
    obtain ⟨sq, hkd, hsq⟩ := hSh e
    refine ⟨_, (pss_cons (ps_set (i := 1) sc_parts.nd rfl (.inl rfl) (pe_ix ix_kdict (pe_glob (v := .ref a_SHAPES) (by rfl) mg_SHAPES rfl) (pe_ix ix_tup (pv 0) pe_int (fun _ _ => rfl)) (fun _ _ => rfl))) (pss_one (ps_ret (pe_lc (own := [("kind", 2), ("item", 3)]) rfl sc_parts.nd (RZ.pi_zipA (by rfl) B.zip (pa_cons (pv 1) (pa_cons (pe_slice sl_tup (pv 0) (po_some pe_int) po_none) pa_nil))) (blkOk_by (N := N_parts) (sc := defScope s_parts) (by decide +kernel)) (fun _ _ _ _ _ => pgtK (n := 2) K rfl (pgs_cons (pg_name (i := 2) sc_parts.nd rfl (.inl rfl)) (pgs_cons (pg_name (i := 3) sc_parts.nd rfl (.inl rfl)) pgs_nil))) (fun _ _ _ _ _ => pts_one (pt_cmpR op_eq (pv 2) pe_str (nomark _))) (fun _ _ _ _ _ => pv 3))))), ?_⟩
    refine ⟨.ref p, rfl, p, _, 0, _, rfl, rfl, hp, at_of (j := 0) rfl rfl, a_SHAPES, _, .ref sq, rfl, rfl, hkd, ?_⟩
    have hcut : cutV (V.str (wordOf e) :: xs) (some 1) none = xs := by
      unfold cutV
      rw [show HT.sIx (V.str (wordOf e) :: xs).length 0 (some 1) = min 1 (V.str (wordOf e) :: xs).length from HT.sIx_nat _ 0 1, HT.sIx_none, List.length_cons, show min 1 (xs.length + 1) = 1 by omega]
      show List.take (xs.length + 1 - 1) xs = xs
      rw [Nat.add_sub_cancel, List.take_length]
    refine ⟨.ref sq, rfl, .ref p, rfl, 1, rfl, p, _, rfl, hp, ?_, fun c nc => ?_⟩
    · rw [show HT.sIx (V.str (wordOf e) :: xs).length 0 (some 1) = min 1 (V.str (wordOf e) :: xs).length from HT.sIx_nat _ 0 1, List.length_cons]
      omega
    rw [hcut]
    have smc : Same H (upd H c (.tup xs)) := same_new nc
    have hc : (upd H c (.tup xs)) c = some (.tup xs) := upd_same
    have hlk : ((shapeOf e).map V.str).length = xs.length := by rw [List.length_map]; exact hl.symm
    refine ⟨sq, c, (shapeOf e).map V.str, xs, rfl, .inr ⟨hsq _, SqT.of hc, fun D nD => lc_it (walk_zipT hlk rfl) (fun i H' => Same (upd H c (.tup xs)) H' ∧ H' D = some (.lst (pk ((shapeOf e).take i) (xs.take i)))) ⟨same_new nD, upd_same⟩ (fun i H' _ h => ⟨hsq _, SqT.of (h.1 _ _ hc)⟩) ?_ ?_⟩⟩
    · rintro i x H1 H2 hi ⟨sm, hD⟩ ⟨T, k, it, rfl, nT, rfl, e1, e2⟩
      have e1 : ((shapeOf e).map V.str)[i]? = some k := e1
      have e2 : xs[i]? = some it := e2
      rw [List.getElem?_map] at e1
      cases hk : (shapeOf e)[i]? with
      | none => rw [hk] at e1; cases e1
      | some ks =>
        rw [hk] at e1
        have ek : V.str ks = k := Option.some.inj e1
        subst ek
        have sm2 := sm.trans (same_new (o := .tup [V.str ks, it]) nT)
        have hD2 := same_new (o := .tup [V.str ks, it]) nT _ _ hD
        refine ⟨T, _, rfl, SqT.of upd_same, rfl, _, _, rfl, _, _, rfl, rfl, rfl, .str ks, rfl, rfl, _, rfl, iteD (fun cq => ?_) (fun cq => ?_)⟩
        · refine ⟨it, rfl, _, hD2, ?_, fun b' o eb => ?_, ?_⟩
          · refine small1000 (Nat.le_trans (pk_len _ _) ?_)
            rw [List.length_take]
            omega
          · rw [upd_ne (ne_of_none eb nD)]
            exact sm2 _ _ eb
          · rw [upd_same, pk_snoc hk e2, if_pos cq]
        · refine ⟨sm2, ?_⟩
          rw [hD2, pk_snoc hk e2, if_neg cq, List.append_nil]
    · rintro H1 ⟨sm, hD⟩
      rw [List.take_of_length_le (by rw [hl]; exact Nat.le_refl _), List.take_length] at hD
      have smt := smc.trans sm
      exact q _ D _ smt (smc.free nD) hD (hrow.same smt)
theorem ok_joinS {f : Addr} {fd : FuncData} (F : Fun K "join_spans" "join_spans" s_join_spans f fd) (gF : mg "join_spans" = some (.ref f)) (b : Binds K fd ["word", "first", "second"] []) (B : Bl mg) : Cal P w K mg base 1 "join_spans" (spJoinS K) := by
  refine ⟨f, fd, _, F.ok sc_join_spans (fun vs H Q E h => ?_) (fun cdv A outer s H vs Q E hr h => ?_), gF, F.kp, b⟩
  · obtain ⟨_, _, _, _, _, rfl, _⟩ := h
    rfl
  · obtain ⟨e, _, _, ⟨x1, x2⟩, ⟨y1, y2⟩, rfl, ⟨px, rfl, hx⟩, ⟨py, rfl, hy⟩, q⟩ := h
    refine ⟨_, (pss_cons (ps_asg (pv 1) (pg_tup rfl (pgs_cons (pg_name (i := 3) sc_join_spans.nd rfl (.inl rfl)) (pgs_cons (pg_name (i := 4) sc_join_spans.nd rfl (.inl rfl)) pgs_nil)))) (pss_cons (ps_asg (pv 2) (pg_tup rfl (pgs_cons (pg_name (i := 5) sc_join_spans.nd rfl (.inl rfl)) (pgs_cons (pg_name (i := 6) sc_join_spans.nd rfl (.inl rfl)) pgs_nil)))) (pss_cons (ps_if (pt_cmpR op_eq (pv 0) pe_str (nomark _)) (pss_one (ps_ret (pe_tup (pa_cons (pe_op op_add (pv 3) (pv 5)) (pa_cons (pe_op op_add (pv 4) (pv 6)) pa_nil))))) pss_nil) (pss_cons (ps_if (pt_cmpR op_eq (pv 0) pe_str (nomark _)) (pss_one (ps_ret (pe_tup (pa_cons (pe_op op_sub (pv 3) (pv 6)) (pa_cons (pe_op op_sub (pv 4) (pv 5)) pa_nil))))) pss_nil) (pss_cons (ps_if (pt_cmpR op_eq (pv 0) pe_str (nomark _)) (pss_one (ps_ret (pe_tup (pa_cons (pe_callB (call_min2 rfl) (by rfl) B.min (by decide +kernel) (pa_cons (pv 3) (pa_cons (pv 5) pa_nil))) (pa_cons (pe_callB (call_min2 rfl) (by rfl) B.min (by decide +kernel) (pa_cons (pv 4) (pa_cons (pv 6) pa_nil))) pa_nil))))) pss_nil) (pss_cons (ps_if (pt_cmpR op_eq (pv 0) pe_str (nomark _)) (pss_one (ps_ret (pe_tup (pa_cons (pe_callB (call_max2 rfl) (by rfl) B.max (by decide +kernel) (pa_cons (pv 3) (pa_cons (pv 5) pa_nil))) (pa_cons (pe_callB (call_max2 rfl) (by rfl) B.max (by decide +kernel) (pa_cons (pv 4) (pa_cons (pv 6) pa_nil))) pa_nil))))) pss_nil) (pss_one (ps_ret (pe_tup (pa_cons (pe_callB (call_min2 rfl) (by rfl) B.min (by decide +kernel) (pa_cons (pv 3) (pa_cons (pv 5) pa_nil))) (pa_cons (pe_callB (call_max2 rfl) (by rfl) B.max (by decide +kernel) (pa_cons (pv 4) (pa_cons (pv 6) pa_nil))) pa_nil))))))))))), ?_⟩
    refine ⟨.ref px, rfl, px, _, rfl, hx, rfl, _, _, rfl, _, _, rfl, rfl, .ref py, rfl, py, _, rfl, hy, rfl, _, _, rfl, _, _, rfl, rfl, ?_⟩
    refine ⟨_, rfl, rfl, _, rfl, ?_⟩
    rcases q with ⟨o, a, bb, rfl, q⟩ | ⟨he, q⟩
    · cases o with
      | sum =>
        refine iteTT rfl ?_
        exact ⟨_, rfl, _, rfl, _, _, rfl, rfl, _, rfl, _, rfl, _, _, rfl, rfl, (by show 2 ≤ sizeLine; decide), fun p np => q _ _ (same_new np) ⟨p, rfl, SqT.of upd_same⟩⟩
      | less =>
        refine iteFF rfl ⟨_, rfl, rfl, _, rfl, iteTT rfl ?_⟩
        exact ⟨_, rfl, _, rfl, _, _, rfl, rfl, _, rfl, _, rfl, _, _, rfl, rfl, (by show 2 ≤ sizeLine; decide), fun p np => q _ _ (same_new np) ⟨p, rfl, SqT.of upd_same⟩⟩
      | least =>
        refine iteFF rfl ⟨_, rfl, rfl, _, rfl, iteFF rfl ⟨_, rfl, rfl, _, rfl, iteTT rfl ?_⟩⟩
        exact ⟨_, rfl, _, rfl, _, _, rfl, _, rfl, _, rfl, _, _, rfl, (by show 2 ≤ sizeLine; decide), fun p np => q _ _ (same_new np) ⟨p, rfl, SqT.of upd_same⟩⟩
      | most =>
        refine iteFF rfl ⟨_, rfl, rfl, _, rfl, iteFF rfl ⟨_, rfl, rfl, _, rfl, iteFF rfl ⟨_, rfl, rfl, _, rfl, iteTT rfl ?_⟩⟩⟩
        exact ⟨_, rfl, _, rfl, _, _, rfl, _, rfl, _, rfl, _, _, rfl, (by show 2 ≤ sizeLine; decide), fun p np => q _ _ (same_new np) ⟨p, rfl, SqT.of upd_same⟩⟩
    · have hw : wordOf e = "when" ∨ wordOf e = "where" := by
        rcases he with ⟨_, _, _, _, rfl⟩ | ⟨_, _, _, _, rfl⟩
        · exact .inl rfl
        · exact .inr rfl
      have nn : ∀ s : Str, s = "sum" ∨ s = "less" ∨ s = "least" ∨ s = "most" → decide (V.str (wordOf e) = V.str s) = false := fun s hs => by
        rcases hw with h | h <;> rw [h] <;> rcases hs with rfl | rfl | rfl | rfl <;> decide
      refine iteFF (nn _ (by simp)) ⟨_, rfl, rfl, _, rfl, iteFF (nn _ (by simp)) ⟨_, rfl, rfl, _, rfl, iteFF (nn _ (by simp)) ⟨_, rfl, rfl, _, rfl, iteFF (nn _ (by simp)) ?_⟩⟩⟩
      exact ⟨_, rfl, _, rfl, _, _, rfl, _, rfl, _, rfl, _, _, rfl, (by show 2 ≤ sizeLine; decide), fun p np => q _ _ (same_new np) ⟨p, rfl, SqT.of upd_same⟩⟩
end
end NG

namespace NG
open PySem PySem.Spec PyProof.Rows L2
section
variable {P : Program} {w : World} {K : PySem.W.Frag} {mg : Str → Option Value} {base : Heap}
theorem fn_span {f : Addr} {fd : FuncData} (F : Fun K "span" "span" s_span f fd) (gF : mg "span" = some (.ref f)) (b : Binds K fd ["expression"] []) (B : Bl mg) (c_parts : Cal P w K mg base 1 "parts" (spParts K)) (c_join_spans : Cal P w K mg base 1 "join_spans" (spJoinS K)) : ∀ n, FnOk P w K mg base CX0 (n + 2) f fd ["expression"] (spSpan K n) := by
  intro n
  induction n with
  | zero =>
    refine fn_never fun vs H Q E h => ?_
    obtain ⟨_, e, _, _, _, _, hd, _⟩ := h
    cases e <;> (unfold Ex.dep at hd; omega)
  | succ n ih =>
  have c_span : Cal P w K mg base (n + 2) "span" (spSpan K n) := ⟨f, fd, _, ih, gF, F.kp, b⟩
  refine F.ok sc_span (fun vs H Q E h => ?_) (fun cdv A outer s H vs Q E hr h => ?_)
  · obtain ⟨_, _, _, rfl, _⟩ := h
    rfl
  · obtain ⟨v, e, many, rfl, he, ho, hd, q⟩ := h
    refine ⟨_, (pss_cons (ps_set (i := 1) sc_span.nd rfl (.inl rfl) (pe_ix ix_tup (pv 0) pe_int (fun _ _ => rfl))) (pss_cons (ps_if (pt_cmpR op_eq (pv 1) pe_str (nomark _)) (pss_one (ps_ret (pe_tup (pa_cons (pe_ix ix_tup (pv 0) pe_int (fun _ _ => rfl)) (pa_cons (pe_ix ix_tup (pv 0) pe_int (fun _ _ => rfl)) pa_nil))))) pss_nil) (pss_cons (ps_if (pt_cmpR op_eq (pv 1) pe_str (nomark _)) (pss_one (ps_ret (pe_tup (pa_cons (pe_un un_neg pe_int) (pa_cons pe_int pa_nil))))) pss_nil) (pss_cons (ps_if (pt_cmpR op_eq (pv 1) pe_str (nomark _)) (pss_one (ps_ret (pe_tup (pa_cons pe_int (pa_cons pe_int pa_nil))))) pss_nil) (pss_cons (ps_setLc (i := 2) (own := [("part", 3)]) rfl sc_span.nd rfl rfl (sw_true rfl rfl rfl (by decide +kernel)) (pi_list (pe_c c_parts hr (by omega) (by rfl) (pa_cons (pv 0) pa_nil))) (blkOk_by (N := N_span) (sc := defScope s_span) (by decide +kernel)) (fun _ _ _ _ _ => pg_name (i := 3) sc_span.nd rfl (.inl rfl)) (fun _ _ _ _ _ => pts_nil) (fun _ _ _ _ _ => pe_c c_span hr (by omega) (by rfl) (pa_cons (pv 3) pa_nil))) (pss_cons (ps_if (pt_cmpR op_eq (pv 1) pe_str (nomark _)) (pss_cons (ps_setLc (i := 4) (own := [("end", 5)]) rfl sc_span.nd rfl rfl (sw_true rfl rfl rfl (by decide +kernel)) (pi_tup (pe_ix ix_list (pv 2) pe_int (fun _ _ => rfl))) (blkOk_by (N := N_span) (sc := defScope s_span) (by decide +kernel)) (fun _ _ _ _ _ => pg_name (i := 5) sc_span.nd rfl (.inl rfl)) (fun _ _ _ _ _ => pts_nil) (fun _ _ _ _ _ => pe_op op_mul (pe_ix (ixt K) (pv 0) pe_int (fun _ _ => rfl)) (pv 5))) (pss_one (ps_ret (pe_tup (pa_cons (pe_callB (cr_min rfl) (by rfl) B.min (by decide +kernel) (pa_cons (pv 4) pa_nil)) (pa_cons (pe_callB (cr_max rfl) (by rfl) B.max (by decide +kernel) (pa_cons (pv 4) pa_nil)) pa_nil)))))) pss_nil) (pss_cons (ps_if (pt_cmpR op_eq (pv 1) pe_str (nomark _)) (pss_cons (ps_set (i := 6) sc_span.nd rfl (.inl rfl) (pe_callB (cr_max rfl) (by rfl) B.max (by decide +kernel) (pa_cons (pe_lc (own := [("end", 5)]) rfl sc_span.nd (pi_tup (pe_ix ix_list (pv 2) pe_int (fun _ _ => rfl))) (blkOk_by (N := N_span) (sc := defScope s_span) (by decide +kernel)) (fun _ _ _ _ _ => pg_name (i := 5) sc_span.nd rfl (.inl rfl)) (fun _ _ _ _ _ => pts_nil) (fun _ _ _ _ _ => pe_callB call_abs (by rfl) B.abs (by decide +kernel) (pa_cons (pv 5) pa_nil))) pa_nil))) (pss_one (ps_ret (pe_tup (pa_cons (pe_op op_mul (pe_un un_neg pe_int) (pv 6)) (pa_cons (pe_op op_mul pe_int (pv 6)) pa_nil)))))) pss_nil) (pss_one (ps_ret (pe_c c_join_spans hr (by omega) (by rfl) (pa_cons (pv 1) (pa_cons (pe_ix ix_list (pv 2) pe_int (fun _ _ => rfl)) (pa_cons (pe_ix ix_list (pv 2) pe_int (fun _ _ => rfl)) pa_nil))))))))))))), ?_⟩
    obtain ⟨p, xs, rfl, hp, hl, hl4, hl0, hrow⟩ := he.lies
    refine ⟨.ref p, rfl, p, _, 0, _, rfl, rfl, hp, at_of (j := 0) rfl rfl, ?_⟩
    refine ⟨_, rfl, rfl, _, rfl, ?_⟩
    by_cases hleaf : e.kids = []
    · cases e with
      | fig c =>
        refine iteTT rfl ?_
        have hp : SqT K H p [.str "fig", .int c] := by
          obtain ⟨p', e', q'⟩ := he
          cases e'
          exact q'
        exact ⟨.ref p, rfl, p, _, 1, _, rfl, rfl, hp, rfl, .ref p, rfl, p, _, 1, _, rfl, rfl, hp, rfl, (by show 2 ≤ sizeLine; decide), fun t nt => q _ _ (same_new nt) ⟨t, rfl, SqT.of upd_same⟩⟩
      | reg i =>
        refine iteFF rfl ⟨_, rfl, rfl, _, rfl, iteTT rfl ?_⟩
        exact ⟨_, rfl, (by show 2 ≤ sizeLine; decide), fun t nt => q _ _ (same_new nt) ⟨t, rfl, SqT.of upd_same⟩⟩
      | share j =>
        refine iteFF rfl ⟨_, rfl, rfl, _, rfl, iteFF rfl ⟨_, rfl, rfl, _, rfl, iteTT rfl ?_⟩⟩
        exact ⟨(by show 2 ≤ sizeLine; decide), fun t nt => q _ _ (same_new nt) ⟨t, rfl, SqT.of upd_same⟩⟩
      | two o a b => cases hleaf
      | times f a => cases hleaf
      | «by» i a => cases hleaf
      | when i c a b => cases hleaf
      | whr i c a b => cases hleaf
    · have nn : ∀ s : Str, s = "fig" ∨ s = "reg" ∨ s = "share" → decide (V.str (wordOf e) = V.str s) = false := fun s hs => by
        cases e with
        | fig c => exact absurd rfl hleaf
        | reg c => exact absurd rfl hleaf
        | share c => exact absurd rfl hleaf
        | two o a b => rcases hs with rfl | rfl | rfl <;> exact wn_ne (by simp)
        | times f a => rcases hs with rfl | rfl | rfl <;> rfl
        | «by» i a => rcases hs with rfl | rfl | rfl <;> rfl
        | when i c a b => rcases hs with rfl | rfl | rfl <;> rfl
        | whr i c a b => rcases hs with rfl | rfl | rfl <;> rfl
      refine iteFF (nn _ (by simp)) ⟨_, rfl, rfl, _, rfl, iteFF (nn _ (by simp)) ⟨_, rfl, rfl, _, rfl, iteFF (nn _ (by simp)) ?_⟩⟩
      refine ⟨.ref p, rfl, .ref p, e, rfl, he, fun H1 l xs1 sm1 nl hl1 hrow1 => ⟨l, rfl, ⟨_, SqL.of hl1⟩, fun D nD => lc_list (xs := xs1) (fun i H' => Same H1 H' ∧ ∃ us, H' D = some (.lst us) ∧ SpsAt K H' us ((e.kids.take i).map spn)) ⟨same_new nD, [], upd_same, trivial⟩ (fun i H' _ h => SqL.of (h.1 _ _ hl1)) ?_ ?_⟩⟩
      · rintro i x H2 hx ⟨sm2, us, hD, hus⟩
        obtain ⟨k, hk, xk⟩ := hrow1.get' hx
        have hkm := List.mem_of_getElem? hk
        have hkd := kids_dep e k hkm
        refine ⟨rfl, tYes_in ?_⟩
        refine ⟨x, rfl, x, k, many, rfl, xk.same sm2, kids_ok e k ho hkm, by omega, fun H3 u sm3 hu => ?_⟩
        have hD3 := sm3 _ _ hD
        have hlen := hus.len
        rw [List.length_map, List.length_take] at hlen
        have hkl : e.kids.length ≤ 2 := by cases e <;> simp [Ex.kids]
        refine ⟨us, hD3, small1000 (by omega), fun b' o eb => ?_, us ++ [u], upd_same, ?_⟩
        · rw [upd_ne (ne_of_none eb nD)]
          exact sm3 _ _ (sm2 _ _ eb)
        · rw [List.take_add_one, hk, List.map_append]
          refine SpsAt.snoc (s := spn k) (v := u) ?_ ((hus.imp fun _ _ q => same_sqt sm3 q).imp fun _ _ q => put_sqt hD3 q)
          obtain ⟨pu, eu, qu⟩ := hu
          exact ⟨pu, eu, put_sqt hD3 qu⟩
      · rintro H2 ⟨sm2, us, hD, hus⟩
        rw [hrow1.len, List.take_length] at hus
        have sm02 := sm1.trans sm2
        clear hrow1 hl1 nD nl
        have hp2 := same_sqt sm02 hp
        refine ⟨_, rfl, rfl, _, rfl, ?_⟩
        cases e with
        | fig c => exact absurd rfl hleaf
        | reg c => exact absurd rfl hleaf
        | share c => exact absurd rfl hleaf
        | times fa a =>
          obtain ⟨⟨o1, o2⟩, oa⟩ := ho
          refine iteTT rfl ?_
          obtain ⟨pu, rfl, hu⟩ := hus.one
          obtain ⟨p', x', e', q', _⟩ := he
          cases e'
          have hpf := same_sqt sm02 q'
          refine ⟨.ref D, rfl, D, _, 0, _, rfl, rfl, SqL.of hD, rfl, pu, rfl, ⟨_, hu⟩, fun D2 nD2 => lc_tup (xs := [(spn a).1, (spn a).2].map V.int) (fun i H' => Same H2 H' ∧ H' D2 = some (.lst ((([(spn a).1, (spn a).2].take i).map (fa * ·)).map V.int))) ⟨same_new nD2, upd_same⟩ (fun i H' _ h => same_sqt h.1 hu) ?_ ?_⟩
          · rintro i v H3 hv ⟨sm3, hD2⟩
            obtain ⟨z, rfl, hz⟩ := int_at hv
            have hi2 : i < 2 := (List.getElem?_eq_some_iff.mp hz).1
            refine ⟨rfl, tYes_in ?_⟩
            refine ⟨.ref p, rfl, p, _, 1, _, rfl, rfl, same_sqt sm3 hpf, rfl, .int z, rfl, fa, z, rfl, rfl, .inl ⟨by omega, by omega⟩, _, hD2, ?_, fun b' o eb => ?_, ?_⟩
            · rw [List.length_map, List.length_map, List.length_take]
              exact small1000 (by omega)
            · rw [upd_ne (ne_of_none eb nD2)]
              exact sm3 _ _ eb
            · rw [upd_same, List.take_add_one, hz, List.map_append, List.map_append]
              rfl
          · rintro H3 ⟨sm3, hD2⟩
            refine ⟨.ref D2, rfl, D2, [fa * (spn a).1, fa * (spn a).2], rfl, SqL.of hD2, (by show 0 < 2; decide), fun m hm hle => ⟨.ref D2, rfl, D2, [fa * (spn a).1, fa * (spn a).2], rfl, SqL.of hD2, (by show 0 < 2; decide), fun M hM hge => ⟨(by show 2 ≤ sizeLine; decide), fun t nt => ?_⟩⟩⟩
            rw [mn_of hm hle, mx_of hM hge]
            exact q _ _ (sm02.trans (sm3.trans (same_new nt))) ⟨t, rfl, SqT.of upd_same⟩
        | «by» i a =>
          refine iteFF rfl ⟨_, rfl, rfl, _, rfl, iteTT rfl ?_⟩
          obtain ⟨pu, rfl, hu⟩ := hus.one
          refine ⟨.ref D, rfl, D, _, 0, _, rfl, rfl, SqL.of hD, rfl, pu, rfl, ⟨_, hu⟩, fun D2 nD2 => lc_tup (xs := [(spn a).1, (spn a).2].map V.int) (fun i H' => Same H2 H' ∧ H' D2 = some (.lst ((([(spn a).1, (spn a).2].take i).map ab).map V.int))) ⟨same_new nD2, upd_same⟩ (fun i H' _ h => same_sqt h.1 hu) ?_ ?_⟩
          · rintro i v H3 hv ⟨sm3, hD2⟩
            obtain ⟨z, rfl, hz⟩ := int_at hv
            have hi2 : i < 2 := (List.getElem?_eq_some_iff.mp hz).1
            refine ⟨rfl, tYes_in ?_⟩
            refine ⟨.int z, rfl, z, rfl, _, hD2, ?_, fun b' o eb => ?_, ?_⟩
            · rw [List.length_map, List.length_map, List.length_take]
              exact small1000 (by omega)
            · rw [upd_ne (ne_of_none eb nD2)]
              exact sm3 _ _ eb
            · rw [upd_same, List.take_add_one, hz, List.map_append, List.map_append]
              rfl
          · rintro H3 ⟨sm3, hD2⟩
            refine ⟨D2, [ab (spn a).1, ab (spn a).2], rfl, SqL.of hD2, (by show 0 < 2; decide), fun M hM hge => ?_⟩
            rw [mx_of hM hge]
            refine ⟨_, rfl, .int _, rfl, _, _, rfl, rfl, .inl ⟨by decide, by decide⟩, .int _, rfl, _, _, rfl, rfl, .inl ⟨by decide, by decide⟩, (by show 2 ≤ sizeLine; decide), fun t nt => ?_⟩
            exact q _ _ (sm02.trans (sm3.trans (same_new nt))) ⟨t, rfl, SqT.of upd_same⟩
        | two o a b =>
          refine iteFF (wn_ne (by simp)) ⟨_, rfl, rfl, _, rfl, iteFF (wn_ne (by simp)) ?_⟩
          obtain ⟨pu, pw, rfl, hu, hw⟩ := hus.pair
          refine ⟨_, rfl, .ref D, rfl, D, _, 0, _, rfl, rfl, SqL.of hD, rfl, .ref D, rfl, D, _, 1, _, rfl, rfl, SqL.of hD, rfl, .two o a b, _, _, spn a, spn b, rfl, ⟨pu, rfl, hu⟩, ⟨pw, rfl, hw⟩, .inl ⟨o, a, b, rfl, fun H3 v sm3 hv => ?_⟩⟩
          exact q _ _ (sm02.trans sm3) hv
        | when i c a b =>
          refine iteFF rfl ⟨_, rfl, rfl, _, rfl, iteFF rfl ?_⟩
          obtain ⟨pu, pw, rfl, hu, hw⟩ := hus.pair
          refine ⟨_, rfl, .ref D, rfl, D, _, 0, _, rfl, rfl, SqL.of hD, rfl, .ref D, rfl, D, _, 1, _, rfl, rfl, SqL.of hD, rfl, .when i c a b, _, _, spn a, spn b, rfl, ⟨pu, rfl, hu⟩, ⟨pw, rfl, hw⟩, .inr ⟨.inl ⟨i, c, a, b, rfl⟩, fun H3 v sm3 hv => ?_⟩⟩
          exact q _ _ (sm02.trans sm3) hv
        | whr i c a b =>
          refine iteFF rfl ⟨_, rfl, rfl, _, rfl, iteFF rfl ?_⟩
          obtain ⟨pu, pw, rfl, hu, hw⟩ := hus.pair
          refine ⟨_, rfl, .ref D, rfl, D, _, 0, _, rfl, rfl, SqL.of hD, rfl, .ref D, rfl, D, _, 1, _, rfl, rfl, SqL.of hD, rfl, .whr i c a b, _, _, spn a, spn b, rfl, ⟨pu, rfl, hu⟩, ⟨pw, rfl, hw⟩, .inr ⟨.inr ⟨i, c, a, b, rfl⟩, fun H3 v sm3 hv => ?_⟩⟩
          exact q _ _ (sm02.trans sm3) hv
theorem ok_span {f : Addr} {fd : FuncData} (F : Fun K "span" "span" s_span f fd) (gF : mg "span" = some (.ref f)) (b : Binds K fd ["expression"] []) (B : Bl mg) (c_parts : Cal P w K mg base 1 "parts" (spParts K)) (c_join_spans : Cal P w K mg base 1 "join_spans" (spJoinS K)) : ∀ n, Cal P w K mg base (n + 2) "span" (spSpan K n) := fun n => ⟨f, fd, _, fn_span F gF b B c_parts c_join_spans n, gF, F.kp, b⟩
end
end NG

namespace NG
open PySem PySem.Spec PyProof.Rows L2
def spPow2 : Sp := fun vs H Q _ => ∃ s : Nat, vs = [.int (s : Int)] ∧ s < 5 ∧ Q (.int (pw2 s)) H
def spBound (K : PySem.W.Frag) (n : Nat) : Sp := fun vs H Q _ => ∃ (dv : V) (D : Dbt) (many : Nat), vs = [dv] ∧ DbAt K H D dv ∧ 1 ≤ D.stakes.length ∧ D.stakes.length ≤ 3 ∧ (∀ e ∈ D.stakes, ExOk many e ∧ e.dep ≤ n) ∧ D.scale < 5 ∧ ∀ H', Same H H' → Q (.int (bndI D)) H'
theorem ends_snoc {es : List Ex} {i : Nat} {e : Ex} (h : es[i]? = some e) : endsI (es.take (i + 1)) = endsI (es.take i) ++ [ab (spn e).1, ab (spn e).2] := by
  unfold endsI
  rw [List.take_add_one, h, List.flatMap_append]
  simp
theorem ends_len : ∀ es : List Ex, (endsI es).length = 2 * es.length
  | [] => rfl
  | e :: es => by
    show ([ab (spn e).1, ab (spn e).2] ++ endsI es).length = _
    rw [List.length_append, ends_len es]
    show 2 + 2 * es.length = 2 * (es.length + 1)
    omega
section
variable {P : Program} {w : World} {K : PySem.W.Frag} {mg : Str → Option Value} {base : Heap}
theorem ok_pow2 {f : Addr} {fd : FuncData} (F : Fun K "power" "power" s_power f fd) (gF : mg "power" = some (.ref f)) (b : Binds K fd ["scale"] []) (B : Bl mg) : Cal P w K mg base 1 "power" spPow2 := by
  refine ⟨f, fd, _, F.ok sc_power (fun vs H Q E h => ?_) (fun cdv A outer s H vs Q E hr h => ?_), gF, F.kp, b⟩
  · obtain ⟨_, rfl, _⟩ := h
    rfl
  · obtain ⟨sc, rfl, hs, q⟩ := h
    refine ⟨_, (pss_one (ps_ret (pe_op op_shl pe_int (pe_callB (call_max2 rfl) (by rfl) B.max (by decide +kernel) (pa_cons pe_int (pa_cons (pv 0) pa_nil)))))), ?_⟩
    have : sc = 0 ∨ sc = 1 ∨ sc = 2 ∨ sc = 3 ∨ sc = 4 := by omega
    rcases this with rfl | rfl | rfl | rfl | rfl <;> exact ⟨_, rfl, _, _, rfl, _, _, rfl, rfl, ⟨by decide, by decide, by decide⟩, q⟩
end
end NG

namespace NG
open PySem PySem.Spec PyProof.Rows L2
/-! ### doubters of anything -/
mutual
theorem dp_of_dq {K : PySem.W.Frag} {H : Hp} : ∀ {d : PyData} {v : V}, d.hasDict = false → Dq K H v d → Dp K H v d
  | .none, _, _, .non => .non
  | .bool _, _, _, .bl b => .bl b
  | .int _, _, _, .int i => .int i
  | .str _, _, _, .str x => .str x
  | .list _, _, h, .lst q a => .lst q (dpall_of_dq (by simpa only [PyData.hasDict] using h) a)
  | .tuple _, _, h, .tup q a => .tup q (dpall_of_dq (by simpa only [PyData.hasDict] using h) a)
  | .dict _, _, h, .dic _ => by simp only [PyData.hasDict] at h; cases h
theorem dpall_of_dq {K : PySem.W.Frag} {H : Hp} : ∀ {ds : List PyData} {vs : List V}, PyData.hasDictAll ds = false → DqAll K H vs ds → DpAll K H vs ds
  | [], _, _, .nil => .nil
  | _ :: _, _, h, .cons a b => by
    simp only [PyData.hasDictAll, Bool.or_eq_false_iff] at h
    exact .cons (dp_of_dq h.1 a) (dpall_of_dq h.2 b)
end
theorem toD_nodict : ∀ e : Ex, (toD e).hasDict = false
  | .fig _ => by simp [toD, PyData.hasDict, PyData.hasDictAll]
  | .reg _ => by simp [toD, PyData.hasDict, PyData.hasDictAll]
  | .share _ => by simp [toD, PyData.hasDict, PyData.hasDictAll]
  | .two _ a b => by simp [toD, PyData.hasDict, PyData.hasDictAll, toD_nodict a, toD_nodict b]
  | .times _ a => by simp [toD, PyData.hasDict, PyData.hasDictAll, toD_nodict a]
  | .by _ a => by simp [toD, PyData.hasDict, PyData.hasDictAll, toD_nodict a]
  | .when _ _ a b => by simp [toD, PyData.hasDict, PyData.hasDictAll, toD_nodict a, toD_nodict b]
  | .whr _ _ a b => by simp [toD, PyData.hasDict, PyData.hasDictAll, toD_nodict a, toD_nodict b]
theorem ExAt.ofQ {K : PySem.W.Frag} {H : Hp} {e : Ex} {v : V} (h : Dq K H v (toD e)) : ExAt K H e v := ExAt.of (dp_of_dq (toD_nodict e) h)
def nameQ : PyData → Bool
  | .str z => nameD z
  | _ => false
def strOk : PyData → Prop
  | .str z => z.length ≤ 100000
  | _ => True
def dnOk : PyData → Prop
  | .tuple (x :: _) => strOk x
  | _ => True
def regsQ : PyData → Bool
  | .tuple ds => regsD ds
  | _ => false
def stakesQ (many sc : Nat) : PyData → Bool
  | .tuple ds => decide (ds.length = many) && ds.all (stakeD many sc)
  | _ => false
def behindsQ (many : Nat) : PyData → Bool
  | .tuple ds => decide (ds.length = many) && ds.all fun d => (cntB many 4 d).isSome
  | _ => false
def intQ : PyData → Int
  | .int i => i
  | _ => 0
def dbQl (many : Nat) : List PyData → Bool
  | [nm, sc, rg, st, bh] => nameQ nm && (inD 0 4 sc && (regsQ rg && (stakesQ many (intQ sc).toNat st && behindsQ many bh)))
  | _ => false
def dbQ (many : Nat) : PyData → Bool
  | .tuple ds => dbQl many ds
  | _ => false
theorem dbQl_len {many : Nat} : ∀ {ds : List PyData}, ds.length ≠ 5 → dbQl many ds = false
  | [], _ => rfl
  | [_], _ => rfl
  | [_, _], _ => rfl
  | [_, _, _], _ => rfl
  | [_, _, _, _], _ => rfl
  | [_, _, _, _, _], h => absurd rfl h
  | _ :: _ :: _ :: _ :: _ :: _ :: _, _ => rfl
theorem dq_five {K : PySem.W.Frag} {H : Hp} {ds : List PyData} {xs : List V} (h : DqAll K H xs ds) (c : ds.length = 5) : ∃ d0 d1 d2 d3 d4 v0 v1 v2 v3 v4, ds = [d0, d1, d2, d3, d4] ∧ xs = [v0, v1, v2, v3, v4] ∧ Dq K H v0 d0 ∧ Dq K H v1 d1 ∧ Dq K H v2 d2 ∧ Dq K H v3 d3 ∧ Dq K H v4 d4 := by
  cases h with
  | nil => cases c
  | cons h0 h =>
    cases h with
    | nil => cases c
    | cons h1 h =>
      cases h with
      | nil => cases c
      | cons h2 h =>
        cases h with
        | nil => cases c
        | cons h3 h =>
          cases h with
          | nil => cases c
          | cons h4 h =>
            cases h with
            | nil => exact ⟨_, _, _, _, _, _, _, _, _, _, rfl, rfl, h0, h1, h2, h3, h4⟩
            | cons _ _ => simp at c
def Only6 (K : PySem.W.Frag) (a : Addr) : Prop := ∀ x, wbOf x = none → PySem.W.nsIn K a x = some none
theorem only6_of {K : PySem.W.Frag} {w : World} {d : Addr} {es : Array DictEntry} {n : Nat} (hl : K.lookup d = some ⟨.type "dict", none, .dict es n, #[]⟩) (hk : PySem.W.KeysLit w.params es.toList) (hx : ktx es.toList = [some ("put" : Str), some ("add" : Str), some ("copy" : Str), some ("plus" : Str), some ("told" : Str), some ("when" : Str)]) : Only6 K d := fun x h0 => nsIn_absent hl hk (fun h => by
  rw [hx] at h
  simp only [List.mem_cons, List.not_mem_nil, or_false, Option.some.injEq] at h
  rcases h with rfl | rfl | rfl | rfl | rfl | rfl <;> exact absurd h0 (by decide))
theorem wbOf_eq {x : Str} {w : Wb} (h : wbOf x = some w) : x = wbn w := by
  unfold wbOf at h
  repeat' split at h
  all_goals first | (cases h; assumption) | cases h
theorem deedD_non {many : Int} {f : PyData → Option Nat} : ∀ {d : PyData}, wdV d = .non → deedD many f d = none
  | .tuple (.str _ :: _), h => by cases h
  | .tuple [], _ => rfl
  | .tuple (.none :: _), _ => rfl
  | .tuple (.bool _ :: _), _ => rfl
  | .tuple (.int _ :: _), _ => rfl
  | .tuple (.list _ :: _), _ => rfl
  | .tuple (.tuple _ :: _), _ => rfl
  | .tuple (.dict _ :: _), _ => rfl
  | .none, _ => rfl
  | .bool _, _ => rfl
  | .int _, _ => rfl
  | .str _, _ => rfl
  | .list _, _ => rfl
  | .dict _, _ => rfl
theorem addB_drop {l : List (Option Nat)} {t i : Nat} {j : Option Nat} (h : l[i]? = some j) : addB t (l.drop i) = j.bind fun n => addB (t + n) (l.drop (i + 1)) := by
  have hi := (List.getElem?_eq_some_iff.mp h).1
  rw [List.drop_eq_getElem_cons hi, (List.getElem?_eq_some_iff.mp h).2]
  cases j <;> rfl
theorem sumB_drop {l : List (Option Nat)} {t i : Nat} {j : Option Nat} (h : l[i]? = some j) : sumB t (l.drop i) = j.bind fun n => if 20 < t + n then none else sumB (t + n) (l.drop (i + 1)) := by
  have hi := (List.getElem?_eq_some_iff.mp h).1
  rw [List.drop_eq_getElem_cons hi, (List.getElem?_eq_some_iff.mp h).2]
  cases j <;> rfl
theorem cutT3 {x : V} {xs : List V} : cutV (x :: xs) (some 3) none = xs.drop 2 := by
  rw [show (3 : Int) = ((3 : Nat) : Int) from rfl, cut_from]
  rfl
def spIsName (K : PySem.W.Frag) : Sp := fun vs H Q _ => ∃ (v : V) (d : PyData), vs = [v] ∧ Dq K H v d ∧ strOk d ∧ ∀ H', Same H H' → Q (.bl (nameQ d)) H'
def spCntB (K : PySem.W.Frag) (n : Nat) : Sp := fun vs H Q _ => ∃ (v : V) (many : Int) (k : Nat) (d : PyData), vs = [v, .int many, .int (k : Int)] ∧ k < n ∧ Dq K H v d ∧ ∀ H', Same H H' → Q (optV (cntB many k d)) H'
def spDeed (K : PySem.W.Frag) (n : Nat) : Sp := fun vs H Q _ => ∃ (v : V) (many : Int) (k : Nat) (d : PyData), vs = [v, .int many, .int ((k : Int) + 1)] ∧ k < n ∧ Dq K H v d ∧ ∀ H', Same H H' → Q (optV (deedD many (cntB many k) d)) H'
def spIsRegsQ (K : PySem.W.Frag) : Sp := fun vs H Q _ => ∃ (v : V) (d : PyData), vs = [v] ∧ Dq K H v d ∧ ∀ H', Same H H' → Q (.bl (regsQ d)) H'
def spIsStake (K : PySem.W.Frag) : Sp := fun vs H Q _ => ∃ (v : V) (sc many : Nat) (d : PyData), vs = [v, .int (sc : Int), .int (many : Int)] ∧ sc < 5 ∧ Dq K H v d ∧ ∀ H', Same H H' → Q (.bl (stakeD many sc d)) H'
def spAreSt (K : PySem.W.Frag) : Sp := fun vs H Q _ => ∃ (v : V) (sc many : Nat) (d : PyData), vs = [v, .int (sc : Int), .int (many : Int)] ∧ many ≤ 3 ∧ sc < 5 ∧ Dq K H v d ∧ ∀ H', Same H H' → Q (.bl (stakesQ many sc d)) H'
def spAreBh (K : PySem.W.Frag) : Sp := fun vs H Q _ => ∃ (v : V) (many : Nat) (d : PyData), vs = [v, .int (many : Int)] ∧ many ≤ 3 ∧ Dq K H v d ∧ ∀ H', Same H H' → Q (.bl (behindsQ many d)) H'
def spIsDb (K : PySem.W.Frag) : Sp := fun vs H Q _ => ∃ (v : V) (many : Nat) (d : PyData), vs = [v, .int (many : Int)] ∧ many ≤ 3 ∧ Dq K H v d ∧ dnOk d ∧ ∀ H', Same H H' → Q (.bl (dbQ many d)) H'
section
variable {P : Program} {w : World} {K : PySem.W.Frag} {mg : Str → Option Value} {base : Heap}
theorem ok_isname {f : Addr} {fd : FuncData} (F : Fun K "is_name" "is_name" s_is_name f fd) (gF : mg "is_name" = some (.ref f)) (b : Binds K fd ["thing"] []) (B : Bl mg) {t1 t2 : Tok} (mg_LONGEST_NAME : mg "LONGEST_NAME" = some (.int 8 t1)) (mg_LETTERS : mg "LETTERS" = some (.str "abcdefghijklmnopqrstuvwxyz" t2)) : Cal P w K mg base 1 "is_name" (spIsName K) := by
  refine ⟨f, fd, _, F.ok sc_is_name (fun vs H Q E h => ?_) (fun cdv A outer s H vs Q E hr h => ?_), gF, F.kp, b⟩
  · obtain ⟨_, _, rfl, _⟩ := h
    rfl
  · obtain ⟨v, d, rfl, hd, hok, q⟩ := h
    refine ⟨_, (pss_cons (ps_if (PW.pt (pw_or (pt_not (pt_val (pe_callB call_isi (by rfl) B.isinstance (by decide +kernel) (pa_cons (pv 0) (pa_cons (pe_bltn (v := .ty "str") (by rfl) B.str (by decide +kernel) rfl) pa_nil))))) (pw_or1 (pt_not (pt_chain op_le op_le pe_int (pe_callB call_len_str (by rfl) B.len PySem.boot_len (pa_cons (pv 0) pa_nil)) (pe_glob (v := .int (8)) (by rfl) mg_LONGEST_NAME ⟨_, rfl⟩)))))) (pss_one (ps_ret pe_bl)) pss_nil) (pss_one (ps_ret (pe_callB (cr_all rfl) (by rfl) B.all (by decide +kernel) (pa_cons (pe_lc (own := [("letter", 1)]) rfl sc_is_name.nd (pi_str (pv 0)) (blkOk_by (N := N_is_name) (sc := defScope s_is_name) (by decide +kernel)) (fun _ _ _ _ _ => pg_name (i := 1) sc_is_name.nd rfl (.inl rfl)) (fun _ _ _ _ _ => pts_nil) (fun _ _ _ _ _ => pe_cmpR op_in_sign (pv 1) (pe_glob (v := .str "abcdefghijklmnopqrstuvwxyz") (by rfl) mg_LETTERS ⟨_, rfl⟩) (by rfl))) pa_nil))))), ?_⟩
    refine ⟨v, rfl, v, .ty "str", _, _, _, rfl, .ty _, Dq.tyx hd, kit_ty (kit_str d), _, rfl, ?_⟩
    cases hd with
    | str z =>
      have hz : z.length ≤ 100000 := hok
      refine iteFF rfl ?_
      refine ⟨_, rfl, z, rfl, Nat.le_trans hz (by decide), _, _, rfl, rfl, _, rfl, ?_⟩
      have q : ∀ H', Same H H' → Q (.bl (nameD z)) H' := q
      by_cases c1 : 1 ≤ z.length
      · refine iteTT (decide_eq_true (by omega)) ⟨_, _, rfl, rfl, _, rfl, ?_⟩
        by_cases c2 : z.length ≤ 8
        · rw [decide_eq_true (show ((z.length : Nat) : Int) ≤ 8 by omega)]
          refine iteFF rfl ?_
          refine ⟨_, rfl, z, rfl, fun D nD => lc_it walk_str (fun i H' => Same H H' ∧ H' D = some (.lst (((z.cps.toList.map fun c => decide (c ∈ ("abcdefghijklmnopqrstuvwxyz" : Str).cps.toList)).take i).map V.bl))) ⟨same_new nD, upd_same⟩ (fun i H' _ h => trivial) ?_ ?_⟩
          · rintro i y H2 H3 hi ⟨sm, hD⟩ ⟨rfl, c, hc, rfl⟩
            refine ⟨rfl, tYes_in ⟨_, rfl, c, _, rfl, rfl, _, hD, ?_, fun b' o eb => ?_, ?_⟩⟩
            · rw [List.length_map, List.length_take, List.length_map]
              exact small1000 (by have : z.cps.toList.length = z.length := Array.length_toList; omega)
            · rw [upd_ne (ne_of_none eb nD)]
              exact sm _ _ eb
            · rw [upd_same, List.take_add_one, List.getElem?_map, Array.getElem?_toList, hc, List.map_append]
              rfl
          · rintro H2 ⟨sm, hD⟩
            rw [List.take_of_length_le (by rw [List.length_map, Array.length_toList]; exact Nat.le_refl _)] at hD
            refine ⟨D, _, rfl, SqL.of hD, ?_⟩
            have := q H2 sm
            unfold nameD at this
            rw [decide_eq_true c1, decide_eq_true c2, Bool.true_and, Bool.true_and] at this
            rw [List.all_map]
            exact this
        · rw [decide_eq_false (show ¬ ((z.length : Nat) : Int) ≤ 8 by omega)]
          refine iteTT rfl ?_
          have := q H (Same.refl _)
          unfold nameD at this
          rw [decide_eq_true c1, decide_eq_false c2] at this
          exact this
      · refine iteFF (decide_eq_false (by omega)) ⟨_, rfl, iteTT rfl ?_⟩
        have := q H (Same.refl _)
        unfold nameD at this
        rw [decide_eq_false c1] at this
        exact this
    | _ => exact iteTT rfl (iteTT rfl (q _ (Same.refl _)))
theorem ok_deed {f a_DEEDS : Addr} {fd : FuncData} (F : Fun K "count_deed" "count_deed" s_count_deed f fd) (gF : mg "count_deed" = some (.ref f)) (b : Binds K fd ["thing", "many", "deep"] []) (mg_DEEDS : mg "DEEDS" = some (.ref a_DEEDS)) (hB : TabB K w a_DEEDS) (hBK : KdAt K w a_DEEDS) (hBO : Only6 K a_DEEDS) (c_first_word : Cal P w K mg base 1 "first_word" (spFirst K)) (c_fits_shape : Cal P w K mg base 4 "fits_shape" (spFitsSh K)) {n lv : Nat} (hlv : 4 ≤ lv) (c_count_deeds : Cal P w K mg base lv "count_deeds" (spCntB K n)) : Cal P w K mg base (lv + 1) "count_deed" (spDeed K n) := by
  refine ⟨f, fd, _, F.ok sc_count_deed (fun vs H Q E h => ?_) (fun cdv A outer s H vs Q E hr h => ?_), gF, F.kp, b⟩
  · obtain ⟨_, _, _, _, rfl, _⟩ := h
    rfl
  · obtain ⟨v, many, k, d, rfl, hk, hd, q⟩ := h
    refine ⟨_, (pss_cons (ps_set (i := 3) sc_count_deed.nd rfl (.inl rfl) (pe_c c_first_word hr (by omega) (by rfl) (pa_cons (pv 0) pa_nil))) (pss_cons (ps_if (PW.pt (pw_or (pt_cmpR op_ninKq (pv 3) (pe_glob (v := .ref a_DEEDS) (by rfl) mg_DEEDS rfl) (by rfl)) (pw_or1 (pt_not (pt_val (pe_c c_fits_shape hr (by omega) (by rfl) (pa_cons (pv 0) (pa_cons (pe_ix ix_kdict (pe_glob (v := .ref a_DEEDS) (by rfl) mg_DEEDS rfl) (pv 3) (fun _ _ => rfl)) (pa_cons (pv 1) pa_nil))))))))) (pss_one (ps_ret pe_non)) pss_nil) (pss_cons (ps_set (i := 4) sc_count_deed.nd rfl (.inl rfl) pe_int) (pss_cons (ps_for PassesOwn.never rfl (pi_tup (pe_slice sl_tupA (pv 0) (po_some pe_int) po_none)) (pg_name (i := 5) sc_count_deed.nd rfl (.inl rfl)) (pss_cons (ps_set (i := 6) sc_count_deed.nd rfl (.inl rfl) (pe_c c_count_deeds hr (by omega) (by rfl) (pa_cons (pv 5) (pa_cons (pv 1) (pa_cons (pe_op op_sub (pv 2) pe_int) pa_nil))))) (pss_cons (ps_if (pt_cmpR op_isN (pv 6) pe_non (nomark _)) (pss_one (ps_ret pe_non)) pss_nil) (pss_one (ps_aug (i := 4) sc_count_deed.nd rfl (.inl rfl) (pv 6) ip_add))))) (pss_one (ps_ret (pv 4))))))), ?_⟩
    refine ⟨v, rfl, v, d, rfl, hd, ?_⟩
    have bad := @deedD_non many (cntB many k) d
    by_cases hw : wdV d = .non
    · rw [hw]
      rw [bad hw] at q
      exact ⟨_, rfl, a_DEEDS, rfl, hBK, .inr ⟨rfl, _, rfl, iteTT rfl (iteTT rfl (q _ (Same.refl _)))⟩⟩
    · obtain ⟨x, es, rfl⟩ : ∃ x ds, d = .tuple (.str x :: ds) := by
        unfold wdV at hw
        split at hw
        · exact ⟨_, _, rfl⟩
        · exact absurd rfl hw
      cases hd with
      | tup hp ha =>
        rename_i p xs0
        cases ha with
        | cons hx hes =>
          rename_i y xs
          cases hx
          cases hwo : wbOf x with
          | none =>
            have e : deedD many (cntB many k) (.tuple (.str x :: es)) = none := by
              unfold deedD
              simp only [hwo]
            rw [e] at q
            exact ⟨_, rfl, a_DEEDS, rfl, hBK, .inl ⟨x, none, rfl, hBO x hwo, _, rfl, iteTT rfl (iteTT rfl (q _ (Same.refl _)))⟩⟩
          | some wb =>
            have ex := wbOf_eq hwo
            subst ex
            obtain ⟨sq, hkd, hsq⟩ := hB.2 wb
            have hkd' := hkd
            obtain ⟨es', n', u, hl, hkk, hns, ru⟩ := hkd'
            rw [deedD_eq] at q
            refine ⟨_, rfl, a_DEEDS, rfl, hBK, .inl ⟨wbn wb, some u, rfl, hns, _, rfl, iteFF rfl ?_⟩⟩
            refine ⟨_, rfl, _, rfl, a_DEEDS, _, .ref sq, rfl, rfl, hkd, _, rfl, p, sq, many, _, xs, es, _, rfl, hp, hes, hsq, wbsh_len wb, fun H1 sm1 => ⟨_, rfl, ?_⟩⟩
            by_cases c : fitsD many (wbsh wb) es = true
            · rw [if_pos c] at q
              rw [c]
              refine iteFF rfl ?_
              refine ⟨_, rfl, 3, rfl, ?_⟩
              dsimp only [tNoPart]
              refine slA (same_sqt sm1 hp) fun H2 c2 sm2 hc2 => ?_
              rw [cutT3] at hc2
              have sm12 := sm1.trans sm2
              have hus := dqall_drop (n := 2) (dqall_same sm12 hes)
              have hlen := dqall_len hus
              refine ⟨c2, rfl, ⟨_, hc2⟩, ?_⟩
              refine for_tup (K := K) (a := c2) (xs := xs.drop 2) (σ := [some (.ref p), some (.int many), some (.int ((k : Int) + 1)), some (.str (wbn wb)), some (.int 1), none, none]) (H := H2) (g := gName 5) (D := { nx := tRet (tVar 4) { nx := fun x H' => Q V.non H', rt := Q }, rt := Q }) (fun i σ H' => ∃ (t : Nat) (y5 y6 : Option V), σ = [some (.ref p), some (.int many), some (.int ((k : Int) + 1)), some (.str (wbn wb)), some (.int (t : Int)), y5, y6] ∧ Same H2 H' ∧ addB 1 ((es.drop 2).map (cntB many k)) = addB t (((es.drop 2).map (cntB many k)).drop i)) ⟨1, none, none, by rfl, Same.refl _, by rfl⟩ (fun i σ H' _ h => ?_) ?_ ?_
              · obtain ⟨_, _, _, _, sm, _⟩ := h
                exact same_sqt sm hc2
              · rintro i y σ H3 hy ⟨t, y5, y6, rfl, sm3, e⟩
                obtain ⟨dd, hdd, hdp⟩ := dqall_get hus hy
                have hm : ((es.drop 2).map (cntB many k))[i]? = some (cntB many k dd) := by rw [List.getElem?_map, hdd]; rfl
                rw [addB_drop hm] at e
                refine ⟨_, rfl, _, rfl, _, rfl, _, _, rfl, rfl, y, many, k, dd, ?_, hk, dq_same sm3 hdp, fun H4 sm4 => ?_⟩
                · show [y, V.int many, V.int ((k : Int) + 1 - 1)] = _
                  rw [show (k : Int) + 1 - 1 = (k : Int) by omega]
                cases hc0 : cntB many k dd with
                | none =>
                  rw [hc0] at e
                  rw [e] at q
                  exact ⟨_, rfl, rfl, _, rfl, iteTT rfl (q _ ((sm12.trans sm3).trans sm4))⟩
                | some j =>
                  rw [hc0] at e
                  exact ⟨_, rfl, rfl, _, rfl, iteFF rfl ⟨_, rfl, _, rfl, _, _, rfl, rfl, t + j, _, _, rfl, sm3.trans sm4, e⟩⟩
              · rintro σ H3 ⟨t, y5, y6, rfl, sm3, e⟩
                have hdr : ((es.drop 2).map (cntB many k)).drop (xs.drop 2).length = [] := List.drop_of_length_le (by rw [List.length_map, hlen]; exact Nat.le_refl _)
                rw [hdr] at e
                rw [e] at q
                exact ⟨_, rfl, q _ (sm12.trans sm3)⟩
            · rw [if_neg c] at q
              rw [Bool.not_eq_true] at c
              rw [c]
              exact iteTT rfl (q _ sm1)
theorem ok_deeds' {f g a_DEEDS : Addr} {fd gd : FuncData} (F : Fun K "count_deeds" "count_deeds" s_count_deeds f fd) (gF : mg "count_deeds" = some (.ref f)) (b : Binds K fd ["thing", "many", "deep"] []) (B : Bl mg) (G : Fun K "count_deed" "count_deed" s_count_deed g gd) (gG : mg "count_deed" = some (.ref g)) (bG : Binds K gd ["thing", "many", "deep"] []) (mg_DEEDS : mg "DEEDS" = some (.ref a_DEEDS)) (hB : TabB K w a_DEEDS) (hBK : KdAt K w a_DEEDS) (hBO : Only6 K a_DEEDS) {t1 : Tok} (mg_MOST_DEEDS : mg "MOST_DEEDS" = some (.int 20 t1)) (c_first_word : Cal P w K mg base 1 "first_word" (spFirst K)) (c_fits_shape : Cal P w K mg base 4 "fits_shape" (spFitsSh K)) : ∀ n, Cal P w K mg base (2 * n + 4) "count_deeds" (spCntB K n)
  | 0 => cal_never F gF b fun vs H Q E => by rintro ⟨_, _, k, _, _, hk, _⟩; omega
  | n + 1 => by
    have c_count_deed := ok_deed G gG bG mg_DEEDS hB hBK hBO c_first_word c_fits_shape (by omega) (ok_deeds' F gF b B G gG bG mg_DEEDS hB hBK hBO mg_MOST_DEEDS c_first_word c_fits_shape n)
    refine Cal.mono (j := 2 * n + 6) ⟨f, fd, _, F.ok sc_count_deeds (fun vs H Q E h => ?_) (fun cdv A outer s H vs Q E hr h => ?_), gF, F.kp, b⟩ (by omega)
    · obtain ⟨_, _, _, _, rfl, _⟩ := h
      rfl
    · obtain ⟨v, many, k, d, rfl, hk, hd, q⟩ := h
      refine ⟨_, (C8.pss_cut (ps_if (PW.pt (pw_or (pt_not (pt_val (pe_callB call_isi (by rfl) B.isinstance (by decide +kernel) (pa_cons (pv 0) (pa_cons (pe_bltn (v := .ty "tuple") (by rfl) B.tuple (by decide +kernel) rfl) pa_nil))))) (pw_or1 (PW.pt (pw_and (pt_truth (pv 0) (by intro _; rfl)) (pw_and1 (pt_cmpR op_eq (pv 2) pe_int (nomark _)))))))) (pss_one (ps_ret pe_non)) pss_nil) (pss_cons (ps_set (i := 3) sc_count_deeds.nd rfl (.inl rfl) pe_int) (pss_cons (ps_for PassesOwn.never rfl (pi_tup (pv 0)) (pg_name (i := 4) sc_count_deeds.nd rfl (.inl rfl)) (pss_cons (ps_set (i := 5) sc_count_deeds.nd rfl (.inl rfl) (pe_c c_count_deed hr (by omega) (by rfl) (pa_cons (pv 4) (pa_cons (pv 1) (pa_cons (pv 2) pa_nil))))) (pss_cons (ps_if (PW.pt (pw_or (pt_cmpR op_isN (pv 5) pe_non (nomark _)) (pw_or1 (pt_cmpR op_gt (pe_op op_add (pv 3) (pv 5)) (pe_glob (v := .int (20)) (by rfl) mg_MOST_DEEDS ⟨_, rfl⟩) (nomark _))))) (pss_one (ps_ret pe_non)) pss_nil) (pss_one (ps_aug (i := 3) sc_count_deeds.nd rfl (.inl rfl) (pv 5) ip_add))))) (pss_one (ps_ret (pv 3)))))), ?_⟩
      refine ⟨fun σ H' => σ = [some v, some (.int many), some (.int (k : Int)), none, none, none] ∧ H' = H ∧ ∃ p xs ds, v = .ref p ∧ d = .tuple ds ∧ SqT K H p xs ∧ DqAll K H xs ds ∧ (ds = [] ∨ ∃ k', k = k' + 1), ?_, ?_⟩
      · refine ⟨_, rfl, v, .ty "tuple", _, _, _, rfl, .ty _, Dq.tyx hd, kit_ty (kit_tup d), _, rfl, ?_⟩
        cases hd with
        | @tup p xs ds hp hds =>
          refine iteFF rfl ⟨_, rfl, !xs.isEmpty, .inr (.inl ⟨_, hp, rfl⟩), ?_⟩
          have hlx := dqall_len hds
          cases xs with
          | nil => exact iteFF rfl (iteFF rfl ⟨rfl, rfl, p, [], ds, rfl, rfl, hp, hds, .inl (List.eq_nil_of_length_eq_zero (by simpa using hlx.symm))⟩)
          | cons x xs =>
            refine iteTT rfl ⟨_, rfl, rfl, _, rfl, ?_⟩
            cases k with
            | zero =>
              cases ds with
              | nil => simp at hlx
              | cons d0 ds => exact iteTT (by rfl) (q _ (Same.refl _))
            | succ k' => exact iteFF (decide_eq_false (by intro e; cases e)) ⟨rfl, rfl, p, _, ds, rfl, rfl, hp, hds, .inr ⟨k', rfl⟩⟩
        | _ => exact iteTT rfl (iteTT rfl (by have := q _ (Same.refl _); cases k <;> exact this))
      · rintro σ H1 ⟨rfl, rfl, p, xs, ds, rfl, rfl, hp, hds, hor⟩
        have hlx := dqall_len hds
        refine ⟨_, rfl, p, rfl, ⟨_, hp⟩, for_tup (xs := xs) (fun i σ H' => ∃ (t : Nat) (y4 y5 : Option V), σ = [some (.ref p), some (.int many), some (.int (k : Int)), some (.int (t : Int)), y4, y5] ∧ Same H1 H' ∧ cntB many k (.tuple ds) = sumB t ((ds.map (deedD many (cntB many (k - 1)))).drop i)) ⟨0, none, none, rfl, Same.refl _, ?_⟩ (fun i σ H' _ h => ?_) ?_ ?_⟩
        · rw [List.drop_zero]
          rcases hor with rfl | ⟨k', rfl⟩
          · cases k <;> rfl
          · rfl
        · obtain ⟨_, _, _, _, sm, _⟩ := h
          exact same_sqt sm hp
        · rintro i y σ H3 hy ⟨t, y4, y5, rfl, sm3, e⟩
          obtain ⟨dd, hdd, hdp⟩ := dqall_get hds hy
          rcases hor with rfl | ⟨k', rfl⟩
          · simp at hdd
          have hm : (ds.map (deedD many (cntB many (k' + 1 - 1))))[i]? = some (deedD many (cntB many k') dd) := by rw [List.getElem?_map, hdd]; rfl
          rw [sumB_drop hm] at e
          refine ⟨_, rfl, _, rfl, _, rfl, y, many, k', dd, rfl, by omega, dq_same sm3 hdp, fun H4 sm4 => ?_⟩
          cases hc : deedD many (cntB many k') dd with
          | none =>
            rw [hc] at e
            rw [e] at q
            exact ⟨_, rfl, rfl, _, rfl, iteTT rfl (iteTT rfl (q _ (sm3.trans sm4)))⟩
          | some j =>
            rw [hc] at e
            dsimp only [Option.bind] at e
            refine ⟨_, rfl, rfl, _, rfl, iteFF rfl ⟨_, rfl, _, rfl, _, _, rfl, rfl, _, _, rfl, rfl, _, rfl, ?_⟩⟩
            by_cases c : 20 < t + j
            · rw [if_pos c] at e
              rw [e] at q
              exact iteTT (decide_eq_true (by omega)) (q _ (sm3.trans sm4))
            · rw [if_neg c] at e
              exact iteFF (decide_eq_false (by omega)) ⟨_, rfl, _, rfl, _, _, rfl, rfl, t + j, _, _, rfl, sm3.trans sm4, e⟩
        · rintro σ H3 ⟨t, y4, y5, rfl, sm3, e⟩
          rw [List.drop_of_length_le (by rw [List.length_map, hlx]; exact Nat.le_refl _)] at e
          rw [e] at q
          exact ⟨_, rfl, q _ sm3⟩
theorem ok_isregs {f a_BOUNDS : Addr} {fd : FuncData} (F : Fun K "is_registers" "is_registers" s_is_registers f fd) (gF : mg "is_registers" = some (.ref f)) (b : Binds K fd ["thing"] []) (B : Bl mg) (mg_BOUNDS : mg "BOUNDS" = some (.ref a_BOUNDS)) (hN : TabN K w a_BOUNDS) {t1 : Tok} (mg_HOW_MANY_REGISTERS : mg "HOW_MANY_REGISTERS" = some (.int 4 t1)) (c_is_within : Cal P w K mg base 2 "is_within" (spInB K)) : Cal P w K mg base 3 "is_registers" (spIsRegsQ K) := by
  refine ⟨f, fd, _, F.ok sc_is_registers (fun vs H Q E h => ?_) (fun cdv A outer s H vs Q E hr h => ?_), gF, F.kp, b⟩
  · obtain ⟨_, _, rfl, _⟩ := h
    rfl
  · obtain ⟨v, d, rfl, hd, q⟩ := h
    refine ⟨_, (pss_cons (ps_if (PW.pt (pw_or (pt_not (pt_val (pe_callB call_isi (by rfl) B.isinstance (by decide +kernel) (pa_cons (pv 0) (pa_cons (pe_bltn (v := .ty "tuple") (by rfl) B.tuple (by decide +kernel) rfl) pa_nil))))) (pw_or1 (pt_cmpR op_ne (pe_callB call_len_seq (by rfl) B.len PySem.boot_len (pa_cons (pv 0) pa_nil)) (pe_glob (v := .int (4)) (by rfl) mg_HOW_MANY_REGISTERS ⟨_, rfl⟩) (nomark _))))) (pss_one (ps_ret pe_bl)) pss_nil) (pss_cons (ps_asg (pe_ix ix_kdict (pe_glob (v := .ref a_BOUNDS) (by rfl) mg_BOUNDS rfl) pe_str (fun _ _ => rfl)) (pg_tup rfl (pgs_cons (pg_name (i := 1) sc_is_registers.nd rfl (.inr rfl)) (pgs_cons (pg_name (i := 2) sc_is_registers.nd rfl (.inr rfl)) pgs_nil)))) (pss_one (ps_ret (pe_callB (cr_all rfl) (by rfl) B.all (by decide +kernel) (pa_cons (pe_lc (own := [("number", 3)]) rfl sc_is_registers.nd (pi_tup (pv 0)) (blkOk_by (N := N_is_registers) (sc := defScope s_is_registers) (by decide +kernel)) (fun _ _ _ _ _ => pg_name (i := 3) sc_is_registers.nd rfl (.inl rfl)) (fun _ _ _ _ _ => pts_nil) (fun _ _ _ _ _ => pe_c c_is_within hr (by omega) (by rfl) (pa_cons (pv 3) (pa_cons (pv 1) (pa_cons (pv 2) pa_nil))))) pa_nil)))))), ?_⟩
    refine ⟨v, rfl, v, .ty "tuple", _, _, _, rfl, .ty _, Dq.tyx hd, kit_ty (kit_tup d), _, rfl, ?_⟩
    cases hd with
    | @tup p xs ds hp hds =>
      have hlx := dqall_len hds
      have q : ∀ H', Same H H' → Q (.bl (regsD ds)) H' := q
      refine iteFF rfl ⟨.ref p, rfl, p, _, rfl, .inr hp, rfl, _, rfl, ?_⟩
      by_cases c : ds.length = 4
      · refine iteFF (by rw [hlx, c]; rfl) ?_
        obtain ⟨qn, hkd, hq⟩ := hN .figure (by decide) (by decide)
        refine ⟨a_BOUNDS, _, .ref qn, rfl, rfl, hkd, qn, _, rfl, hq _, rfl, _, _, rfl, _, _, rfl, rfl, ?_⟩
        refine ⟨.ref p, rfl, p, rfl, ⟨_, hp⟩, fun D nD => lc_tup (xs := xs) (fun i H' => Same H H' ∧ H' D = some (.lst (((ds.map (inD (-1000) 1000)).take i).map V.bl))) ⟨same_new nD, upd_same⟩ (fun i H' _ h => same_sqt h.1 hp) ?_ ?_⟩
        · rintro i y H2 hy ⟨sm, hD⟩
          have hi := (List.getElem?_eq_some_iff.mp hy).1
          obtain ⟨dd, hdd, hdp⟩ := dqall_get hds hy
          refine ⟨rfl, tYes_in ⟨_, rfl, _, rfl, _, rfl, y, -1000, 1000, dd, rfl, dq_same sm hdp, _, hD, ?_, fun b' o eb => ?_, ?_⟩⟩
          · rw [List.length_map, List.length_take]
            exact small1000 (by omega)
          · rw [upd_ne (ne_of_none eb nD)]
            exact sm _ _ eb
          · rw [upd_same, List.take_add_one, List.getElem?_map, hdd, List.map_append]
            rfl
        · rintro H2 ⟨sm, hD⟩
          rw [List.take_of_length_le (by rw [List.length_map]; omega)] at hD
          refine ⟨D, _, rfl, SqL.of hD, ?_⟩
          have := q H2 sm
          unfold regsD at this
          rw [decide_eq_true c, Bool.true_and] at this
          rw [List.all_map]
          exact this
      · refine iteTT (by rw [hlx]; simp; omega) ?_
        have := q H (Same.refl _)
        unfold regsD at this
        rw [decide_eq_false c] at this
        exact this
    | _ => exact iteTT rfl (q _ (Same.refl _))
theorem ok_isstake {f : Addr} {fd : FuncData} (F : Fun K "is_stake" "is_stake" s_is_stake f fd) (gF : mg "is_stake" = some (.ref f)) (b : Binds K fd ["thing", "scale", "many"] []) {t1 : Tok} (mg_WIDEST : mg "WIDEST" = some (.int 500 t1)) (c_power : Cal P w K mg base 1 "power" spPow2) (c_is_expression : Cal P w K mg base 16 "is_expression" (spIsEx K)) {n : Nat} (hn : n ≤ 14) (h8 : 8 ≤ n) (c_span : Cal P w K mg base (n + 2) "span" (spSpan K n)) : Cal P w K mg base 17 "is_stake" (spIsStake K) := by
  refine ⟨f, fd, _, F.ok sc_is_stake (fun vs H Q E h => ?_) (fun cdv A outer s H vs Q E hr h => ?_), gF, F.kp, b⟩
  · obtain ⟨_, _, _, _, rfl, _⟩ := h
    rfl
  · obtain ⟨v, sc, many, d, rfl, hsc, hd, q⟩ := h
    refine ⟨_, (pss_cons (ps_if (pt_not (pt_val (pe_c c_is_expression hr (by omega) (by rfl) (pa_cons (pv 0) (pa_cons (pv 2) pa_nil))))) (pss_one (ps_ret pe_bl)) pss_nil) (pss_cons (ps_asg (pe_c c_span hr (by omega) (by rfl) (pa_cons (pv 0) pa_nil)) (pg_tup rfl (pgs_cons (pg_name (i := 3) sc_is_stake.nd rfl (.inl rfl)) (pgs_cons (pg_name (i := 4) sc_is_stake.nd rfl (.inl rfl)) pgs_nil)))) (pss_cons (ps_set (i := 5) sc_is_stake.nd rfl (.inl rfl) (pe_op op_mul (pe_glob (v := .int (500)) (by rfl) mg_WIDEST ⟨_, rfl⟩) (pe_c c_power hr (by omega) (by rfl) (pa_cons (pv 1) pa_nil)))) (pss_one (ps_ret (pe_and (pe_cmpR op_le (pe_un un_neg (pv 5)) (pv 3) (nomark _)) (pe_one (pe_cmpR op_le (pv 4) (pv 5) (nomark _))))))))), ?_⟩
    refine ⟨_, rfl, _, rfl, v, many, d, rfl, hd, fun H1 sm1 => ⟨_, rfl, ?_⟩⟩
    cases c : isEx many d with
    | false =>
      refine iteTT rfl ?_
      have := q H1 sm1
      unfold stakeD at this
      rw [c] at this
      exact this
    | true =>
      refine iteFF rfl ?_
      have hp : 0 < cntE many 8 d := by
        unfold isEx at c
        rw [Bool.and_eq_true, decide_eq_true_eq] at c
        omega
      obtain ⟨e1, e2, e3⟩ := exD_of hp
      have hE : ExAt K H1 (exD 8 d) v := ExAt.ofQ (by rw [e1]; exact dq_same sm1 hd)
      refine ⟨_, rfl, v, exD 8 d, many, rfl, hE, e2, by omega, fun H2 u sm2 hu => ?_⟩
      obtain ⟨pu, rfl, hpu⟩ := hu
      refine ⟨pu, _, rfl, hpu, rfl, _, _, rfl, _, _, rfl, rfl, ?_⟩
      have hp2 := pw2_bnd sc
      refine ⟨_, rfl, sc, rfl, hsc, 500, pw2 sc, rfl, rfl, .inl ⟨by decide, by decide⟩, _, rfl, _, rfl, _, rfl, _, _, rfl, rfl, _, rfl, ?_⟩
      have := q H2 (sm1.trans sm2)
      unfold stakeD at this
      rw [c, Bool.true_and] at this
      by_cases c1 : -(500 * pw2 sc) ≤ (spn (exD 8 d)).1
      · rw [decide_eq_true c1, Bool.true_and] at this
        exact iteTT (decide_eq_true c1) ⟨_, rfl, _, rfl, _, _, rfl, rfl, this⟩
      · rw [decide_eq_false c1, Bool.false_and] at this
        exact iteFF (decide_eq_false c1) this
theorem ok_arestakes {f : Addr} {fd : FuncData} (F : Fun K "are_stakes" "are_stakes" s_are_stakes f fd) (gF : mg "are_stakes" = some (.ref f)) (b : Binds K fd ["thing", "scale", "many"] []) (B : Bl mg) (c_is_stake : Cal P w K mg base 17 "is_stake" (spIsStake K)) : Cal P w K mg base 18 "are_stakes" (spAreSt K) := by
  refine ⟨f, fd, _, F.ok sc_are_stakes (fun vs H Q E h => ?_) (fun cdv A outer s H vs Q E hr h => ?_), gF, F.kp, b⟩
  · obtain ⟨_, _, _, _, rfl, _⟩ := h
    rfl
  · obtain ⟨v, sc, many, d, rfl, hm3, hsc, hd, q⟩ := h
    refine ⟨_, (pss_cons (ps_if (PW.pt (pw_or (pt_not (pt_val (pe_callB call_isi (by rfl) B.isinstance (by decide +kernel) (pa_cons (pv 0) (pa_cons (pe_bltn (v := .ty "tuple") (by rfl) B.tuple (by decide +kernel) rfl) pa_nil))))) (pw_or1 (pt_cmpR op_ne (pe_callB call_len_seq (by rfl) B.len PySem.boot_len (pa_cons (pv 0) pa_nil)) (pv 2) (nomark _))))) (pss_one (ps_ret pe_bl)) pss_nil) (pss_one (ps_ret (pe_callB (cr_all rfl) (by rfl) B.all (by decide +kernel) (pa_cons (pe_lc (own := [("stake", 3)]) rfl sc_are_stakes.nd (pi_tup (pv 0)) (blkOk_by (N := N_are_stakes) (sc := defScope s_are_stakes) (by decide +kernel)) (fun _ _ _ _ _ => pg_name (i := 3) sc_are_stakes.nd rfl (.inl rfl)) (fun _ _ _ _ _ => pts_nil) (fun _ _ _ _ _ => pe_c c_is_stake hr (by omega) (by rfl) (pa_cons (pv 3) (pa_cons (pv 1) (pa_cons (pv 2) pa_nil))))) pa_nil))))), ?_⟩
    refine ⟨v, rfl, v, .ty "tuple", _, _, _, rfl, .ty _, Dq.tyx hd, kit_ty (kit_tup d), _, rfl, ?_⟩
    cases hd with
    | @tup p xs ds hp hds =>
      have hlx := dqall_len hds
      have q : ∀ H', Same H H' → Q (.bl (decide (ds.length = many) && ds.all (stakeD many sc))) H' := q
      refine iteFF rfl ⟨.ref p, rfl, p, _, rfl, .inr hp, _, rfl, rfl, _, rfl, ?_⟩
      by_cases c : ds.length = many
      · refine iteFF (by simp [hlx, c]) ?_
        refine ⟨.ref p, rfl, p, rfl, ⟨_, hp⟩, fun D nD => lc_tup (xs := xs) (fun i H' => Same H H' ∧ H' D = some (.lst (((ds.map (stakeD many sc)).take i).map V.bl))) ⟨same_new nD, upd_same⟩ (fun i H' _ h => same_sqt h.1 hp) ?_ ?_⟩
        · rintro i y H2 hy ⟨sm, hD⟩
          have hi := (List.getElem?_eq_some_iff.mp hy).1
          obtain ⟨dd, hdd, hdp⟩ := dqall_get hds hy
          refine ⟨rfl, tYes_in ⟨_, rfl, _, rfl, _, rfl, y, sc, many, dd, rfl, hsc, dq_same sm hdp, fun H3 sm3 => ⟨_, sm3 _ _ hD, ?_, fun b' o eb => ?_, ?_⟩⟩⟩
          · rw [List.length_map, List.length_take]
            exact small1000 (by omega)
          · rw [upd_ne (ne_of_none eb nD)]
            exact sm3 _ _ (sm _ _ eb)
          · rw [upd_same, List.take_add_one, List.getElem?_map, hdd, List.map_append]
            rfl
        · rintro H2 ⟨sm, hD⟩
          rw [List.take_of_length_le (by rw [List.length_map]; omega)] at hD
          refine ⟨D, _, rfl, SqL.of hD, ?_⟩
          have := q H2 sm
          rw [decide_eq_true c, Bool.true_and] at this
          rw [List.all_map]
          exact this
      · refine iteTT (by simp [hlx]; omega) ?_
        have := q H (Same.refl _)
        rw [decide_eq_false c] at this
        exact this
    | _ => exact iteTT rfl (q _ (Same.refl _))
theorem ok_arebehinds {f : Addr} {fd : FuncData} (F : Fun K "are_behinds" "are_behinds" s_are_behinds f fd) (gF : mg "are_behinds" = some (.ref f)) (b : Binds K fd ["thing", "many"] []) (B : Bl mg) {t1 : Tok} (mg_MOST_DEEP_doubters : mg "MOST_DEEP_doubters" = some (.int 4 t1)) (c_count_deeds : Cal P w K mg base 14 "count_deeds" (spCntB K 5)) : Cal P w K mg base 15 "are_behinds" (spAreBh K) := by
  refine ⟨f, fd, _, F.ok sc_are_behinds (fun vs H Q E h => ?_) (fun cdv A outer s H vs Q E hr h => ?_), gF, F.kp, b⟩
  · obtain ⟨_, _, _, rfl, _⟩ := h
    rfl
  · obtain ⟨v, many, d, rfl, hm3, hd, q⟩ := h
    refine ⟨_, (pss_cons (ps_if (PW.pt (pw_or (pt_not (pt_val (pe_callB call_isi (by rfl) B.isinstance (by decide +kernel) (pa_cons (pv 0) (pa_cons (pe_bltn (v := .ty "tuple") (by rfl) B.tuple (by decide +kernel) rfl) pa_nil))))) (pw_or1 (pt_cmpR op_ne (pe_callB call_len_seq (by rfl) B.len PySem.boot_len (pa_cons (pv 0) pa_nil)) (pv 1) (nomark _))))) (pss_one (ps_ret pe_bl)) pss_nil) (pss_one (ps_ret (pe_callB (cr_all rfl) (by rfl) B.all (by decide +kernel) (pa_cons (pe_lc (own := [("deeds", 2)]) rfl sc_are_behinds.nd (pi_tup (pv 0)) (blkOk_by (N := N_are_behinds) (sc := defScope s_are_behinds) (by decide +kernel)) (fun _ _ _ _ _ => pg_name (i := 2) sc_are_behinds.nd rfl (.inl rfl)) (fun _ _ _ _ _ => pts_nil) (fun _ _ _ _ _ => pe_cmpR op_notN (pe_c c_count_deeds hr (by omega) (by rfl) (pa_cons (pv 2) (pa_cons (pv 1) (pa_cons (pe_glob (v := .int (4)) (by rfl) mg_MOST_DEEP_doubters ⟨_, rfl⟩) pa_nil)))) pe_non (nomark _))) pa_nil))))), ?_⟩
    refine ⟨v, rfl, v, .ty "tuple", _, _, _, rfl, .ty _, Dq.tyx hd, kit_ty (kit_tup d), _, rfl, ?_⟩
    cases hd with
    | @tup p xs ds hp hds =>
      have hlx := dqall_len hds
      have q : ∀ H', Same H H' → Q (.bl (decide (ds.length = many) && ds.all fun d => (cntB many 4 d).isSome)) H' := q
      refine iteFF rfl ⟨.ref p, rfl, p, _, rfl, .inr hp, _, rfl, rfl, _, rfl, ?_⟩
      by_cases c : ds.length = many
      · refine iteFF (by simp [hlx, c]) ?_
        refine ⟨.ref p, rfl, p, rfl, ⟨_, hp⟩, fun D nD => lc_tup (xs := xs) (fun i H' => Same H H' ∧ H' D = some (.lst (((ds.map fun d => (cntB many 4 d).isSome).take i).map V.bl))) ⟨same_new nD, upd_same⟩ (fun i H' _ h => same_sqt h.1 hp) ?_ ?_⟩
        · rintro i y H2 hy ⟨sm, hD⟩
          have hi := (List.getElem?_eq_some_iff.mp hy).1
          obtain ⟨dd, hdd, hdp⟩ := dqall_get hds hy
          refine ⟨rfl, tYes_in ⟨_, rfl, _, rfl, y, many, 4, dd, rfl, by decide, dq_same sm hdp, fun H3 sm3 => ⟨rfl, _, sm3 _ _ hD, ?_, fun b' o eb => ?_, ?_⟩⟩⟩
          · rw [List.length_map, List.length_take]
            exact small1000 (by omega)
          · rw [upd_ne (ne_of_none eb nD)]
            exact sm3 _ _ (sm _ _ eb)
          · rw [upd_same, List.take_add_one, List.getElem?_map, hdd, List.map_append]
            have e : (!decide (optV (cntB many 4 dd) = V.non)) = (cntB many 4 dd).isSome := by
              cases cntB many 4 dd with
              | none => rfl
              | some j => rfl
            show some (HO.lst (_ ++ [V.bl (!decide (optV (cntB many 4 dd) = V.non))])) = _
            rw [e]
            rfl
        · rintro H2 ⟨sm, hD⟩
          rw [List.take_of_length_le (by rw [List.length_map]; omega)] at hD
          refine ⟨D, _, rfl, SqL.of hD, ?_⟩
          have := q H2 sm
          rw [decide_eq_true c, Bool.true_and] at this
          rw [List.all_map]
          exact this
      · refine iteTT (by simp [hlx]; omega) ?_
        have := q H (Same.refl _)
        rw [decide_eq_false c] at this
        exact this
    | _ => exact iteTT rfl (q _ (Same.refl _))
theorem fn_isdb {f : Addr} {fd : FuncData} (F : Fun K "is_doubter" "is_doubter" s_is_doubter f fd) (B : Bl mg) {t1 : Tok} (mg_GREATEST_SCALE : mg "GREATEST_SCALE" = some (.int 4 t1)) (c_is_name : Cal P w K mg base 1 "is_name" (spIsName K)) (c_is_within : Cal P w K mg base 2 "is_within" (spInB K)) (c_is_registers : Cal P w K mg base 3 "is_registers" (spIsRegsQ K)) (c_are_stakes : Cal P w K mg base 18 "are_stakes" (spAreSt K)) (c_are_behinds : Cal P w K mg base 15 "are_behinds" (spAreBh K)) : FnOk P w K mg base CX0 19 f fd ["thing", "many"] (spIsDb K) := by
  refine F.ok sc_is_doubter (fun vs H Q E h => ?_) (fun cdv A outer s H vs Q E hr h => ?_)
  · obtain ⟨_, _, _, rfl, _⟩ := h
    rfl
  · obtain ⟨v, many, d, rfl, hm3, hd, hnm, q⟩ := h
    refine ⟨_, (pss_cons (ps_if (PW.pt (pw_or (pt_not (pt_val (pe_callB call_isi (by rfl) B.isinstance (by decide +kernel) (pa_cons (pv 0) (pa_cons (pe_bltn (v := .ty "tuple") (by rfl) B.tuple (by decide +kernel) rfl) pa_nil))))) (pw_or1 (pt_cmpR op_ne (pe_callB call_len_seq (by rfl) B.len PySem.boot_len (pa_cons (pv 0) pa_nil)) pe_int (nomark _))))) (pss_one (ps_ret pe_bl)) pss_nil) (pss_cons (ps_asg (pv 0) (pg_tup rfl (pgs_cons (pg_name (i := 2) sc_is_doubter.nd rfl (.inl rfl)) (pgs_cons (pg_name (i := 3) sc_is_doubter.nd rfl (.inl rfl)) (pgs_cons (pg_name (i := 4) sc_is_doubter.nd rfl (.inl rfl)) (pgs_cons (pg_name (i := 5) sc_is_doubter.nd rfl (.inl rfl)) (pgs_cons (pg_name (i := 6) sc_is_doubter.nd rfl (.inl rfl)) pgs_nil))))))) (pss_cons (ps_if (PW.pt (pw_or (pt_not (pt_val (pe_c c_is_name hr (by omega) (by rfl) (pa_cons (pv 2) pa_nil)))) (pw_or (pt_not (pt_val (pe_c c_is_within hr (by omega) (by rfl) (pa_cons (pv 3) (pa_cons pe_int (pa_cons (pe_glob (v := .int (4)) (by rfl) mg_GREATEST_SCALE ⟨_, rfl⟩) pa_nil)))))) (pw_or1 (pt_not (pt_val (pe_c c_is_registers hr (by omega) (by rfl) (pa_cons (pv 4) pa_nil)))))))) (pss_one (ps_ret pe_bl)) pss_nil) (pss_one (ps_ret (pe_and (pe_c c_are_stakes hr (by omega) (by rfl) (pa_cons (pv 5) (pa_cons (pv 3) (pa_cons (pv 1) pa_nil)))) (pe_one (pe_c c_are_behinds hr (by omega) (by rfl) (pa_cons (pv 6) (pa_cons (pv 1) pa_nil)))))))))), ?_⟩
    refine ⟨v, rfl, v, .ty "tuple", _, _, _, rfl, .ty _, Dq.tyx hd, kit_ty (kit_tup d), _, rfl, ?_⟩
    cases hd with
    | @tup p xs ds hp hds =>
      have hlx := dqall_len hds
      refine iteFF rfl ⟨.ref p, rfl, p, _, rfl, .inr hp, rfl, _, rfl, ?_⟩
      by_cases c : ds.length = 5
      · refine iteFF (by rw [hlx, c]; rfl) ?_
        obtain ⟨d0, d1, d2, d3, d4, v0, v1, v2, v3, v4, rfl, rfl, h0, h1, h2, h3, h4⟩ := dq_five hds c
        ·
          refine ⟨.ref p, rfl, p, _, rfl, hp, rfl, _, _, rfl, _, _, rfl, _, _, rfl, _, _, rfl, _, _, rfl, rfl, ?_⟩
          refine ⟨_, rfl, v0, d0, rfl, h0, hnm, fun H1 sm1 => ⟨_, rfl, ?_⟩⟩
          cases c1 : nameQ d0 with
          | false =>
            refine iteTT rfl (iteTT rfl ?_)
            have := q H1 sm1
            have e : dbQ many (.tuple [d0, d1, d2, d3, d4]) = false := by
              show (nameQ d0 && _) = false
              rw [c1, Bool.false_and]
            rw [e] at this
            exact this
          | true =>
            refine iteFF rfl ⟨_, rfl, v1, 0, 4, d1, rfl, dq_same sm1 h1, _, rfl, ?_⟩
            cases c2 : inD 0 4 d1 with
            | false =>
              refine iteTT rfl (iteTT rfl ?_)
              have := q H1 sm1
              have e : dbQ many (.tuple [d0, d1, d2, d3, d4]) = false := by
                show (nameQ d0 && (inD 0 4 d1 && _)) = false
                rw [c2, Bool.false_and, Bool.and_false]
              rw [e] at this
              exact this
            | true =>
              obtain ⟨sc', e, h0', h4'⟩ := inD_int c2
              subst e
              cases h1
              have eq0 : dbQ many (.tuple [d0, .int sc', d2, d3, d4]) = (regsQ d2 && (stakesQ many sc'.toNat d3 && behindsQ many d4)) := by
                show (nameQ d0 && (inD 0 4 (.int sc') && (regsQ d2 && (stakesQ many sc'.toNat d3 && behindsQ many d4)))) = _
                rw [c1, c2, Bool.true_and, Bool.true_and]
              rw [eq0] at q
              refine iteFF rfl ⟨_, rfl, v2, d2, rfl, dq_same sm1 h2, fun H2 sm2 => ⟨_, rfl, ?_⟩⟩
              have sm12 := sm1.trans sm2
              cases c3 : regsQ d2 with
              | false =>
                rw [c3] at q
                exact iteTT rfl (q _ sm12)
              | true =>
                rw [c3, Bool.true_and] at q
                refine iteFF rfl ?_
                obtain ⟨sn, hsn⟩ : ∃ sn : Nat, sc' = (sn : Int) := ⟨sc'.toNat, by omega⟩
                subst hsn
                rw [Int.toNat_natCast] at q
                refine ⟨_, rfl, _, rfl, _, rfl, v3, sn, many, d3, rfl, hm3, by omega, dq_same sm12 h3, fun H3 sm3 => ⟨_, rfl, ?_⟩⟩
                have sm123 := sm12.trans sm3
                cases c4 : stakesQ many sn d3 with
                | false =>
                  have := q _ sm123
                  rw [c4] at this
                  exact iteFF rfl this
                | true =>
                  refine iteTT rfl ⟨_, rfl, _, rfl, v4, many, d4, rfl, hm3, dq_same sm123 h4, fun H4 sm4 => ?_⟩
                  have := q _ (sm123.trans sm4)
                  rw [c4, Bool.true_and] at this
                  exact this
      · refine iteTT (by rw [hlx]; simp; omega) ?_
        have := q H (Same.refl _)
        have e : dbQ many (.tuple ds) = false := dbQl_len c
        rw [e] at this
        exact this
    | _ => exact iteTT rfl (q _ (Same.refl _))
end
end NG

namespace NG
open PySem PySem.Spec PyProof.Rows L2
section
variable {P : Program} {w : World} {K : PySem.W.Frag} {mg : Str → Option Value} {base : Heap}
theorem fn_leaves {f : Addr} {fd : FuncData} (F : Fun K "leaves" "leaves" s_leaves f fd) (gF : mg "leaves" = some (.ref f)) (b : Binds K fd ["expression"] []) (B : Bl mg) (c_parts : Cal P w K mg base 1 "parts" (spParts K)) : ∀ n, FnOk P w K mg base CX0 (n + 2) f fd ["expression"] (spCnt8 K lvs n) := by
  intro n
  induction n with
  | zero =>
    refine fn_never fun vs H Q E h => ?_
    obtain ⟨_, e, _, _, _, _, hd, _⟩ := h
    cases e <;> (unfold Ex.dep at hd; omega)
  | succ n ih =>
  have c_leaves : Cal P w K mg base (n + 2) "leaves" (spCnt8 K lvs n) := ⟨f, fd, _, ih, gF, F.kp, b⟩
  refine F.ok sc_leaves (fun vs H Q E h => ?_) (fun cdv A outer s H vs Q E hr h => ?_)
  · obtain ⟨_, _, _, rfl, _⟩ := h
    rfl
  · obtain ⟨v, e, many, rfl, he, ho, hd, hd6, q⟩ := h
    refine ⟨_, (pss_cons (ps_setLc (i := 1) (own := [("part", 2)]) rfl sc_leaves.nd rfl rfl (sw_true rfl rfl rfl (by decide +kernel)) (pi_list (pe_c c_parts hr (by omega) (by rfl) (pa_cons (pv 0) pa_nil))) (blkOk_by (N := N_leaves) (sc := defScope s_leaves) (by decide +kernel)) (fun _ _ _ _ _ => pg_name (i := 2) sc_leaves.nd rfl (.inl rfl)) (fun _ _ _ _ _ => pts_nil) (fun _ _ _ _ _ => pe_c c_leaves hr (by omega) (by rfl) (pa_cons (pv 2) pa_nil))) (pss_cons (ps_if (pt_not (pt_truth (pv 1) (by intro _; rfl))) (pss_one (ps_ret pe_int)) pss_nil) (pss_cons (ps_if (pt_cmpR op_eq (pe_callB call_len_seq (by rfl) B.len PySem.boot_len (pa_cons (pv 1) pa_nil)) pe_int (nomark _)) (pss_one (ps_ret (pe_ix ix_list (pv 1) pe_int (fun _ _ => rfl)))) pss_nil) (pss_cons (ps_asg (pv 1) (pg_unl rfl (pgs_cons (pg_name (i := 3) sc_leaves.nd rfl (.inl rfl)) (pgs_cons (pg_name (i := 4) sc_leaves.nd rfl (.inl rfl)) pgs_nil)))) (pss_cons (ps_if (pt_cmpR op_in_seq (pe_ix ix_tup (pv 0) pe_int (fun _ _ => rfl)) (pe_tup (pa_cons pe_str (pa_cons pe_str pa_nil))) (by rfl)) (pss_one (ps_ret (pe_op op_mul (pv 3) (pv 4)))) pss_nil) (pss_cons (ps_if (pt_cmpR op_eq (pe_ix ix_tup (pv 0) pe_int (fun _ _ => rfl)) pe_str (nomark _)) (pss_one (ps_ret (pe_callB (call_max2 rfl) (by rfl) B.max (by decide +kernel) (pa_cons (pv 3) (pa_cons (pv 4) pa_nil))))) pss_nil) (pss_one (ps_ret (pe_op op_add (pv 3) (pv 4)))))))))), ?_⟩
    obtain ⟨p, xs, rfl, hp, hl, hl4, hl0, hrow⟩ := he.lies
    refine ⟨.ref p, rfl, .ref p, e, rfl, he, fun H1 l xs1 sm1 nl hl1 hrow1 => ⟨l, rfl, ⟨_, SqL.of hl1⟩, fun D nD => lc_list (xs := xs1) (fun i H' => Same H1 H' ∧ H' D = some (.lst (((e.kids.take i).map lvs).map V.int))) ⟨same_new nD, upd_same⟩ (fun i H' _ h => SqL.of (h.1 _ _ hl1)) ?_ ?_⟩⟩
    · rintro i x H2 hx ⟨sm2, hD⟩
      obtain ⟨k, hk, xk⟩ := hrow1.get' hx
      have hkm := List.mem_of_getElem? hk
      have hkd := kids_dep e k hkm
      have hks := kids_size e k hkm
      refine ⟨rfl, tYes_in ?_⟩
      refine ⟨x, rfl, x, k, many, rfl, xk.same sm2, kids_ok e k ho hkm, by omega, by omega, fun H3 sm3 => ?_⟩
      have hD3 := sm3 _ _ hD
      have hkl : e.kids.length ≤ 2 := by cases e <;> simp [Ex.kids]
      refine ⟨_, hD3, ?_, fun b' o eb => ?_, ?_⟩
      · rw [List.length_map, List.length_map, List.length_take]
        exact small1000 (by omega)
      · rw [upd_ne (ne_of_none eb nD)]
        exact sm3 _ _ (sm2 _ _ eb)
      · rw [upd_same, List.take_add_one, hk, List.map_append, List.map_append]
        rfl
    · rintro H2 ⟨sm2, hD⟩
      rw [hrow1.len, List.take_length] at hD
      have sm02 := sm1.trans sm2
      clear hrow1 hl1 nD nl
      have hp2 := same_sqt sm02 hp
      refine ⟨.ref D, rfl, _, .inl ⟨_, SqL.of hD, rfl⟩, ?_⟩
      have kd := kids_dep e
      have ks := kids_size e
      cases e with
      | fig c => exact iteTT rfl (q _ sm02)
      | reg c => exact iteTT rfl (q _ sm02)
      | share c => exact iteTT rfl (q _ sm02)
      | times fa a =>
        refine iteFF rfl ⟨.ref D, rfl, D, _, rfl, .inl (SqL.of hD), rfl, _, rfl, iteTT rfl ?_⟩
        exact ⟨.ref D, rfl, D, _, 0, _, rfl, rfl, SqL.of hD, rfl, q _ sm02⟩
      | «by» i a =>
        refine iteFF rfl ⟨.ref D, rfl, D, _, rfl, .inl (SqL.of hD), rfl, _, rfl, iteTT rfl ?_⟩
        exact ⟨.ref D, rfl, D, _, 0, _, rfl, rfl, SqL.of hD, rfl, q _ sm02⟩
      | two o a b' =>
        refine iteFF rfl ⟨.ref D, rfl, D, _, rfl, .inl (SqL.of hD), rfl, _, rfl, iteFF rfl ?_⟩
        refine ⟨.ref D, rfl, D, _, rfl, SqL.of hD, rfl, _, _, rfl, _, _, rfl, rfl, ?_⟩
        refine ⟨.ref p, rfl, p, _, 0, _, rfl, rfl, hp2, at_of (j := 0) rfl rfl, (by show 2 ≤ sizeLine; decide), fun t nt => ⟨t, _, rfl, .inr (SqT.of upd_same), rfl, rfl, _, rfl, ?_⟩⟩
        have hda := kd a (by simp [Ex.kids])
        have hka := ks a (by simp [Ex.kids])
        have sm3 := sm02.trans (same_new (o := .tup [.str "sum", .str "less"]) nt)
        have hp3 := same_sqt (same_new (o := .tup [.str "sum", .str "less"]) nt) hp2
        cases o with
        | sum => exact iteTT rfl ⟨_, rfl, _, rfl, _, _, rfl, rfl, lvs_mul8 (by omega), q _ sm3⟩
        | less => exact iteTT rfl ⟨_, rfl, _, rfl, _, _, rfl, rfl, lvs_mul8 (by omega), q _ sm3⟩
        | least =>
          refine iteFF rfl ⟨.ref p, rfl, p, _, 0, _, rfl, rfl, hp3, at_of (j := 0) rfl rfl, rfl, _, rfl, iteFF rfl ?_⟩
          exact ⟨_, rfl, _, rfl, _, _, rfl, rfl, q _ sm3⟩
        | most =>
          refine iteFF rfl ⟨.ref p, rfl, p, _, 0, _, rfl, rfl, hp3, at_of (j := 0) rfl rfl, rfl, _, rfl, iteFF rfl ?_⟩
          exact ⟨_, rfl, _, rfl, _, _, rfl, rfl, q _ sm3⟩
      | when i c a b' =>
        refine iteFF rfl ⟨.ref D, rfl, D, _, rfl, .inl (SqL.of hD), rfl, _, rfl, iteFF rfl ?_⟩
        refine ⟨.ref D, rfl, D, _, rfl, SqL.of hD, rfl, _, _, rfl, _, _, rfl, rfl, ?_⟩
        refine ⟨.ref p, rfl, p, _, 0, _, rfl, rfl, hp2, at_of (j := 0) rfl rfl, (by show 2 ≤ sizeLine; decide), fun t nt => ⟨t, _, rfl, .inr (SqT.of upd_same), rfl, rfl, _, rfl, ?_⟩⟩
        have sm3 := sm02.trans (same_new (o := .tup [.str "sum", .str "less"]) nt)
        have hp3 := same_sqt (same_new (o := .tup [.str "sum", .str "less"]) nt) hp2
        refine iteFF rfl ⟨.ref p, rfl, p, _, 0, _, rfl, rfl, hp3, at_of (j := 0) rfl rfl, rfl, _, rfl, iteTT rfl ?_⟩
        exact ⟨_, rfl, _, rfl, _, _, rfl, q _ sm3⟩
      | whr i c a b' =>
        refine iteFF rfl ⟨.ref D, rfl, D, _, rfl, .inl (SqL.of hD), rfl, _, rfl, iteFF rfl ?_⟩
        refine ⟨.ref D, rfl, D, _, rfl, SqL.of hD, rfl, _, _, rfl, _, _, rfl, rfl, ?_⟩
        refine ⟨.ref p, rfl, p, _, 0, _, rfl, rfl, hp2, at_of (j := 0) rfl rfl, (by show 2 ≤ sizeLine; decide), fun t nt => ⟨t, _, rfl, .inr (SqT.of upd_same), rfl, rfl, _, rfl, ?_⟩⟩
        have sm3 := sm02.trans (same_new (o := .tup [.str "sum", .str "less"]) nt)
        have hp3 := same_sqt (same_new (o := .tup [.str "sum", .str "less"]) nt) hp2
        refine iteFF rfl ⟨.ref p, rfl, p, _, 0, _, rfl, rfl, hp3, at_of (j := 0) rfl rfl, rfl, _, rfl, iteFF rfl ?_⟩
        exact ⟨_, rfl, _, rfl, _, _, rfl, rfl, q _ sm3⟩
theorem ok_leaves {f : Addr} {fd : FuncData} (F : Fun K "leaves" "leaves" s_leaves f fd) (gF : mg "leaves" = some (.ref f)) (b : Binds K fd ["expression"] []) (B : Bl mg) (c_parts : Cal P w K mg base 1 "parts" (spParts K)) : ∀ n, Cal P w K mg base (n + 2) "leaves" (spCnt8 K lvs n) := fun n => ⟨f, fd, _, fn_leaves F gF b B c_parts n, gF, F.kp, b⟩
theorem fn_borders {f : Addr} {fd : FuncData} (F : Fun K "borders" "borders" s_borders f fd) (gF : mg "borders" = some (.ref f)) (b : Binds K fd ["expression"] []) (B : Bl mg) (c_parts : Cal P w K mg base 1 "parts" (spParts K)) (c_leaves' : ∀ n, Cal P w K mg base (n + 2) "leaves" (spCnt8 K lvs n)) : ∀ n, FnOk P w K mg base CX0 (n + 2) f fd ["expression"] (spCnt8 K bds n) := by
  intro n
  induction n with
  | zero =>
    refine fn_never fun vs H Q E h => ?_
    obtain ⟨_, e, _, _, _, _, hd, _⟩ := h
    cases e <;> (unfold Ex.dep at hd; omega)
  | succ n ih =>
  have c_borders : Cal P w K mg base (n + 2) "borders" (spCnt8 K bds n) := ⟨f, fd, _, ih, gF, F.kp, b⟩
  have c_leaves := c_leaves' n
  refine F.ok sc_borders (fun vs H Q E h => ?_) (fun cdv A outer s H vs Q E hr h => ?_)
  · obtain ⟨_, _, _, rfl, _⟩ := h
    rfl
  · obtain ⟨v, e, many, rfl, he, ho, hd, hd6, q⟩ := h
    refine ⟨_, (pss_cons (ps_setLc (i := 1) (own := [("part", 2)]) rfl sc_borders.nd rfl rfl (sw_true rfl rfl rfl (by decide +kernel)) (pi_list (pe_c c_parts hr (by omega) (by rfl) (pa_cons (pv 0) pa_nil))) (blkOk_by (N := N_borders) (sc := defScope s_borders) (by decide +kernel)) (fun _ _ _ _ _ => pg_name (i := 2) sc_borders.nd rfl (.inl rfl)) (fun _ _ _ _ _ => pts_nil) (fun _ _ _ _ _ => pe_c c_borders hr (by omega) (by rfl) (pa_cons (pv 2) pa_nil))) (pss_cons (ps_set (i := 3) sc_borders.nd rfl (.inl rfl) (pe_ix ix_tup (pv 0) pe_int (fun _ _ => rfl))) (pss_cons (ps_if (pt_cmpR op_eq (pv 3) pe_str (nomark _)) (pss_one (ps_ret (pe_callB (cr_max rfl) (by rfl) B.max (by decide +kernel) (pa_cons (pv 1) pa_nil)))) pss_nil) (pss_cons (ps_set (i := 4) sc_borders.nd rfl (.inl rfl) (pe_callB (cr_sum rfl) (by rfl) B.sum (by decide +kernel) (pa_cons (pv 1) pa_nil))) (pss_cons (ps_if (pt_cmpR op_eq (pv 3) pe_str (nomark _)) (pss_one (ps_ret (pe_op op_add (pv 4) pe_int))) pss_nil) (pss_cons (ps_if (pt_cmpR op_in_seq (pv 3) (pe_tup (pa_cons pe_str (pa_cons pe_str pa_nil))) (by rfl)) (pss_cons (ps_asg (pe_c c_parts hr (by omega) (by rfl) (pa_cons (pv 0) pa_nil)) (pg_unl rfl (pgs_cons (pg_name (i := 5) sc_borders.nd rfl (.inl rfl)) (pgs_cons (pg_name (i := 6) sc_borders.nd rfl (.inl rfl)) pgs_nil)))) (pss_one (ps_ret (pe_op op_add (pv 4) (pe_op op_mul (pe_c c_leaves hr (by omega) (by rfl) (pa_cons (pv 5) pa_nil)) (pe_c c_leaves hr (by omega) (by rfl) (pa_cons (pv 6) pa_nil))))))) pss_nil) (pss_one (ps_ret (pv 4))))))))), ?_⟩
    obtain ⟨p, xs, rfl, hp, hl, hl4, hl0, hrow⟩ := he.lies
    refine ⟨.ref p, rfl, .ref p, e, rfl, he, fun H1 l xs1 sm1 nl hl1 hrow1 => ⟨l, rfl, ⟨_, SqL.of hl1⟩, fun D nD => lc_list (xs := xs1) (fun i H' => Same H1 H' ∧ H' D = some (.lst (((e.kids.take i).map bds).map V.int))) ⟨same_new nD, upd_same⟩ (fun i H' _ h => SqL.of (h.1 _ _ hl1)) ?_ ?_⟩⟩
    · rintro i x H2 hx ⟨sm2, hD⟩
      obtain ⟨k, hk, xk⟩ := hrow1.get' hx
      have hkm := List.mem_of_getElem? hk
      have hkd := kids_dep e k hkm
      have hks := kids_size e k hkm
      refine ⟨rfl, tYes_in ?_⟩
      refine ⟨x, rfl, x, k, many, rfl, xk.same sm2, kids_ok e k ho hkm, by omega, by omega, fun H3 sm3 => ?_⟩
      have hD3 := sm3 _ _ hD
      have hkl : e.kids.length ≤ 2 := by cases e <;> simp [Ex.kids]
      refine ⟨_, hD3, ?_, fun b' o eb => ?_, ?_⟩
      · rw [List.length_map, List.length_map, List.length_take]
        exact small1000 (by omega)
      · rw [upd_ne (ne_of_none eb nD)]
        exact sm3 _ _ (sm2 _ _ eb)
      · rw [upd_same, List.take_add_one, hk, List.map_append, List.map_append]
        rfl
    · rintro H2 ⟨sm2, hD⟩
      rw [hrow1.len, List.take_length] at hD
      have sm02 := sm1.trans sm2
      clear hrow1 hl1 nD nl
      have hp2 := same_sqt sm02 hp
      have he2 := he.same sm02
      refine ⟨.ref p, rfl, p, _, 0, _, rfl, rfl, hp2, at_of (j := 0) rfl rfl, ?_⟩
      refine ⟨_, rfl, rfl, _, rfl, ?_⟩
      have kd := kids_dep e
      have ks := kids_size e
      have ko := kids_ok (many := many) e
      have pp := sm02
      have sum2 : ∀ x y : Int, [x, y].sum = x + y := fun x y => by simp
      cases e with
      | fig c =>
        refine iteFF rfl ⟨.ref D, rfl, D, [], rfl, SqL.of hD, ?_⟩
        refine ⟨_, rfl, rfl, _, rfl, iteFF rfl ⟨_, rfl, (by show 2 ≤ sizeLine; decide), fun t nt => ⟨t, _, rfl, .inr (SqT.of upd_same), rfl, rfl, _, rfl, iteFF rfl ?_⟩⟩⟩
        exact ⟨_, rfl, q _ (sm02.trans (same_new nt))⟩
      | reg c =>
        refine iteFF rfl ⟨.ref D, rfl, D, [], rfl, SqL.of hD, ?_⟩
        refine ⟨_, rfl, rfl, _, rfl, iteFF rfl ⟨_, rfl, (by show 2 ≤ sizeLine; decide), fun t nt => ⟨t, _, rfl, .inr (SqT.of upd_same), rfl, rfl, _, rfl, iteFF rfl ?_⟩⟩⟩
        exact ⟨_, rfl, q _ (sm02.trans (same_new nt))⟩
      | share c =>
        refine iteFF rfl ⟨.ref D, rfl, D, [], rfl, SqL.of hD, ?_⟩
        refine ⟨_, rfl, rfl, _, rfl, iteFF rfl ⟨_, rfl, (by show 2 ≤ sizeLine; decide), fun t nt => ⟨t, _, rfl, .inr (SqT.of upd_same), rfl, rfl, _, rfl, iteFF rfl ?_⟩⟩⟩
        exact ⟨_, rfl, q _ (sm02.trans (same_new nt))⟩
      | times fa a =>
        refine iteFF rfl ⟨.ref D, rfl, D, [bds a], rfl, SqL.of hD, ?_⟩
        rw [show [bds a].sum = bds a by simp]
        refine ⟨_, rfl, rfl, _, rfl, iteFF rfl ⟨_, rfl, (by show 2 ≤ sizeLine; decide), fun t nt => ⟨t, _, rfl, .inr (SqT.of upd_same), rfl, rfl, _, rfl, iteFF rfl ?_⟩⟩⟩
        exact ⟨_, rfl, q _ (sm02.trans (same_new nt))⟩
      | «by» i a =>
        refine iteFF rfl ⟨.ref D, rfl, D, [bds a], rfl, SqL.of hD, ?_⟩
        rw [show [bds a].sum = bds a by simp]
        refine ⟨_, rfl, rfl, _, rfl, iteFF rfl ⟨_, rfl, (by show 2 ≤ sizeLine; decide), fun t nt => ⟨t, _, rfl, .inr (SqT.of upd_same), rfl, rfl, _, rfl, iteFF rfl ?_⟩⟩⟩
        exact ⟨_, rfl, q _ (sm02.trans (same_new nt))⟩
      | when i c a b' =>
        refine iteTT rfl ⟨.ref D, rfl, D, [bds a, bds b'], rfl, SqL.of hD, (by show 0 < 2; decide), fun M hM hge => ?_⟩
        rw [mx_of hM hge]
        exact q _ sm02
      | whr i c a b' =>
        refine iteFF rfl ⟨.ref D, rfl, D, [bds a, bds b'], rfl, SqL.of hD, ?_⟩
        rw [sum2]
        exact ⟨_, rfl, rfl, _, rfl, iteTT rfl ⟨_, rfl, _, _, rfl, rfl, q _ sm02⟩⟩
      | two o a b' =>
        have hda := kd a (by simp [Ex.kids])
        have hka := ks a (by simp [Ex.kids])
        have hdb := kd b' (by simp [Ex.kids])
        have hkb := ks b' (by simp [Ex.kids])
        refine iteFF (wn_ne (by simp)) ⟨.ref D, rfl, D, [bds a, bds b'], rfl, SqL.of hD, ?_⟩
        rw [sum2]
        refine ⟨_, rfl, rfl, _, rfl, iteFF (wn_ne (by simp)) ⟨_, rfl, (by show 2 ≤ sizeLine; decide), fun t nt => ⟨t, _, rfl, .inr (SqT.of upd_same), rfl, rfl, _, rfl, ?_⟩⟩⟩
        have sm3 := sm02.trans (same_new (o := .tup [.str "least", .str "most"]) nt)
        have he3 := he2.same (same_new (o := .tup [.str "least", .str "most"]) nt)
        generalize upd H2 t (.tup [.str "least", .str "most"]) = H3 at sm3 he3
        cases o
        case sum => exact iteFF rfl ⟨_, rfl, q _ sm3⟩
        case less => exact iteFF rfl ⟨_, rfl, q _ sm3⟩
        all_goals
          refine iteTT rfl ?_
          refine ⟨.ref p, rfl, .ref p, _, rfl, he3, fun H4 l4 xs4 sm4 nl4 hl4 hrow4 => ?_⟩
          obtain ⟨u1, u2, rfl, e1, e2⟩ : ∃ u1 u2, xs4 = [u1, u2] ∧ ExAt K H4 a u1 ∧ ExAt K H4 b' u2 := by
            match xs4, hrow4 with
            | [u1, u2], ⟨x1, x2, _⟩ => exact ⟨u1, u2, rfl, x1, x2⟩
          refine ⟨l4, _, rfl, SqL.of hl4, rfl, _, _, rfl, _, _, rfl, rfl, ?_⟩
          refine ⟨_, rfl, u1, rfl, u1, a, many, rfl, e1, ko a ho (by simp [Ex.kids]), by omega, by omega, fun H5 sm5 => ?_⟩
          refine ⟨u2, rfl, u2, b', many, rfl, e2.same sm5, ko b' ho (by simp [Ex.kids]), by omega, by omega, fun H6 sm6 => ?_⟩
          refine ⟨_, _, rfl, rfl, lvs_mul8 (by omega), _, _, rfl, rfl, ?_⟩
          exact q _ (sm3.trans (sm4.trans (sm5.trans sm6)))
theorem ok_borders {f : Addr} {fd : FuncData} (F : Fun K "borders" "borders" s_borders f fd) (gF : mg "borders" = some (.ref f)) (b : Binds K fd ["expression"] []) (B : Bl mg) (c_parts : Cal P w K mg base 1 "parts" (spParts K)) (c_leaves' : ∀ n, Cal P w K mg base (n + 2) "leaves" (spCnt8 K lvs n)) : ∀ n, Cal P w K mg base (n + 2) "borders" (spCnt8 K bds n) := fun n => ⟨f, fd, _, fn_borders F gF b B c_parts c_leaves' n, gF, F.kp, b⟩
end
end NG

namespace NG
open PySem PySem.Spec PyProof.Rows L2
/-! ### ones, members as data -/
def natQ : PyData → Bool
  | .int i => decide (0 ≤ i)
  | _ => false
def oneQ (many : Nat) : List PyData → Bool
  | [db, rg, w, m, o, dy, g] => (inD 1 1000000000000 w && isInt g) && ((natQ m && (natQ o && natQ dy)) && (regsQ rg && dbQ many db))
  | _ => false
def oneP (many : Nat) : PyData → Bool
  | .tuple (.str x :: r) => decide (x = "one") && oneQ many r
  | _ => false
def msQ (c : Bool) (f : PyData → Bool) : PyData → Bool
  | .tuple ms => (!c || decide (ms.length ≤ 24)) && ms.all f
  | _ => false
def hsR (c : Bool) (f : PyData → Bool) : PyData → Bool
  | .tuple [_, nm, ms] => nameQ nm && msQ c f ms
  | _ => false
def isHw : PyData → Bool
  | .tuple (.str x :: _) => decide (x = "house")
  | _ => false
def memQ (c : Bool) (many : Nat) : Nat → PyData → Bool
  | 0, d => if isHw d = true then false else oneP many d
  | k + 1, d => if isHw d = true then hsR c (memQ c many k) d else oneP many d
theorem oneQ_len {many : Nat} : ∀ {ds : List PyData}, ds.length ≠ 7 → oneQ many ds = false
  | [], _ => rfl
  | [_], _ => rfl
  | [_, _], _ => rfl
  | [_, _, _], _ => rfl
  | [_, _, _, _], _ => rfl
  | [_, _, _, _, _], _ => rfl
  | [_, _, _, _, _, _], _ => rfl
  | [_, _, _, _, _, _, _], h => absurd rfl h
  | _ :: _ :: _ :: _ :: _ :: _ :: _ :: _ :: _, _ => rfl
theorem hsR_len {c : Bool} {f : PyData → Bool} : ∀ {ds : List PyData}, ds.length ≠ 3 → hsR c f (.tuple ds) = false
  | [], _ => rfl
  | [_], _ => rfl
  | [_, _], _ => rfl
  | [_, _, _], h => absurd rfl h
  | _ :: _ :: _ :: _ :: _, _ => rfl
theorem isInt_of {d : PyData} (h : isInt d = true) : ∃ i, d = .int i := by
  cases d <;> first | exact ⟨_, rfl⟩ | cases h
theorem natQ_of {d : PyData} (h : natQ d = true) : ∃ i, d = .int i ∧ 0 ≤ i := by
  cases d <;> first | exact ⟨_, rfl, of_decide_eq_true h⟩ | cases h
/-! ### data that are such, as members -/
theorem regsQ_of {d : PyData} (h : regsQ d = true) : ∃ rs, d = .tuple (rs.map PyData.int) ∧ RegOk rs := by
  cases d with
  | tuple ds =>
    have h : (decide (ds.length = 4) && ds.all (inD (-1000) 1000)) = true := h
    rw [Bool.and_eq_true, decide_eq_true_eq, List.all_eq_true] at h
    have : ∀ ds : List PyData, (∀ d ∈ ds, inD (-1000) 1000 d = true) → ∃ rs : List Int, ds = rs.map PyData.int ∧ ∀ x ∈ rs, -1000 ≤ x ∧ x ≤ 1000 := fun ds => by
      induction ds with
      | nil => exact fun _ => ⟨[], rfl, fun x hx => by cases hx⟩
      | cons d ds ih =>
        intro h
        obtain ⟨rs, rfl, h2⟩ := ih fun x hx => h x (List.mem_cons_of_mem _ hx)
        obtain ⟨i, rfl, i1, i2⟩ := inD_int (h d List.mem_cons_self)
        refine ⟨i :: rs, rfl, fun x hx => ?_⟩
        rcases List.mem_cons.mp hx with rfl | hx
        · exact ⟨i1, i2⟩
        · exact h2 x hx
    obtain ⟨rs, rfl, h2⟩ := this ds h.2
    exact ⟨rs, rfl, by simpa using h.1, h2⟩
  | _ => cases h
theorem dbQ_of {many : Nat} {d : PyData} (h : dbQ many d = true) : ∃ D, dbD D = d ∧ DbFit many D := by
  cases d with
  | tuple ds =>
    by_cases c : ds.length = 5
    · match ds, c with
      | [nm, sc, rg, st, bh], _ =>
        have h : (nameQ nm && (inD 0 4 sc && (regsQ rg && (stakesQ many (intQ sc).toNat st && behindsQ many bh)))) = true := h
        simp only [Bool.and_eq_true] at h
        obtain ⟨h1, h2, h3, h4, h5⟩ := h
        cases nm with
        | str z =>
          obtain ⟨s, rfl, s0, s4⟩ := inD_int h2
          obtain ⟨rs, rfl, hr⟩ := regsQ_of h3
          cases st with
          | tuple sts =>
            cases bh with
            | tuple bhs =>
              have h4 : (decide (sts.length = many) && sts.all (stakeD many s.toNat)) = true := h4
              have h5 : (decide (bhs.length = many) && bhs.all fun d => (cntB many 4 d).isSome) = true := h5
              rw [Bool.and_eq_true, decide_eq_true_eq, List.all_eq_true] at h4 h5
              have e1 : ∀ l : List PyData, (∀ d ∈ l, stakeD many s.toNat d = true) → (l.map (exD 8)).map toD = l ∧ ∀ e ∈ l.map (exD 8), ExOk many e ∧ e.dep ≤ 8 ∧ e.size ≤ 40 ∧ -(500 * pw2 s.toNat) ≤ (spn e).1 ∧ (spn e).2 ≤ 500 * pw2 s.toNat := fun l => by
                induction l with
                | nil => exact fun _ => ⟨rfl, fun e he => by cases he⟩
                | cons d l ih =>
                  intro h
                  obtain ⟨i1, i2⟩ := ih fun x hx => h x (List.mem_cons_of_mem _ hx)
                  have hd := h d List.mem_cons_self
                  unfold stakeD isEx at hd
                  simp only [Bool.and_eq_true, decide_eq_true_eq] at hd
                  obtain ⟨x1, x2, x3⟩ := exD_of (show 0 < cntE many 8 d by omega)
                  refine ⟨by rw [List.map_cons, List.map_cons, x1, i1], fun e he => ?_⟩
                  rw [List.map_cons] at he
                  rcases List.mem_cons.mp he with rfl | he
                  · refine ⟨x2, x3, ?_, hd.2.1, hd.2.2⟩
                    rw [← cntE_of x2 x3, x1]
                    exact hd.1.2
                  · exact i2 e he
              have e2 : ∀ l : List PyData, (∀ d ∈ l, (cntB many 4 d).isSome = true) → ∃ bs : List Ds, (bs.map fun d => PyData.tuple (dsD d)) = l ∧ ∀ d ∈ bs, DsOk many d ∧ d.dep ≤ 4 ∧ d.cnt ≤ 20 := fun l => by
                induction l with
                | nil => exact fun _ => ⟨[], rfl, fun e he => by cases he⟩
                | cons d l ih =>
                  intro h
                  obtain ⟨bs, i1, i2⟩ := ih fun x hx => h x (List.mem_cons_of_mem _ hx)
                  have hd := h d List.mem_cons_self
                  obtain ⟨n, hn⟩ := Option.isSome_iff_exists.mp hd
                  unfold cntB at hn
                  split at hn
                  · obtain ⟨D, d1, d2, d3, d4⟩ := ds_of 3 _ _ _ hn
                    have := sumB_le hn (by decide)
                    refine ⟨D :: bs, by rw [List.map_cons, d1, i1], fun e he => ?_⟩
                    rcases List.mem_cons.mp he with rfl | he
                    · exact ⟨d2, by omega, by omega⟩
                    · exact i2 e he
                  · cases hn
              obtain ⟨st1, st2⟩ := e1 sts h4.2
              obtain ⟨bs, bs1, bs2⟩ := e2 bhs h5.2
              refine ⟨⟨z, s.toNat, rs, sts.map (exD 8), bs⟩, ?_, ⟨h1, by show s.toNat < 5; omega, hr, by show (sts.map (exD 8)).length = many; rw [List.length_map]; exact h4.1, st2, ?_, bs2⟩⟩
              · show PyData.tuple [.str z, .int ((s.toNat : Nat) : Int), .tuple (rs.map PyData.int), .tuple ((sts.map (exD 8)).map toD), .tuple (bs.map fun d => .tuple (dsD d))] = _
                rw [st1, bs1, Int.toNat_of_nonneg s0]
              · show bs.length = many
                have : (bs.map fun d => PyData.tuple (dsD d)).length = bhs.length := by rw [bs1]
                rw [List.length_map] at this
                omega
            | _ => cases h5
          | _ => cases h4
        | _ => cases h1
    · rw [show dbQ many (.tuple ds) = dbQl many ds from rfl, dbQl_len c] at h
      cases h
  | _ => cases h
theorem dbQ_true' {many : Nat} {D : Dbt} (f : DbFit many D) : dbQ many (dbD D) = true := by
  have h := dbtD_true f
  unfold dbtD at h
  have e : dbQ many (dbD D) = (nameD D.name && (inD 0 4 (.int (D.scale : Int)) && (regsD (D.begins.map PyData.int) && ((decide ((D.stakes.map toD).length = many) && (D.stakes.map toD).all (stakeD many (D.scale : Int).toNat)) && (decide ((D.behinds.map fun d => PyData.tuple (dsD d)).length = many) && (D.behinds.map fun d => PyData.tuple (dsD d)).all fun d => (cntB many 4 d).isSome))))) := rfl
  rw [e]
  by_cases c : (nameD D.name && (decide (0 ≤ (D.scale : Int)) && decide ((D.scale : Int) ≤ 4)) && regsD (D.begins.map PyData.int)) = true
  · rw [if_pos c] at h
    rw [Bool.and_eq_true, Bool.and_eq_true] at c
    rw [h, c.1.1, c.2, show inD 0 4 (.int (D.scale : Int)) = (decide (0 ≤ (D.scale : Int)) && decide ((D.scale : Int) ≤ 4)) from rfl, c.1.2]
    rfl
  · rw [if_neg c] at h
    cases h
theorem regsQ_true {rs : List Int} (h : RegOk rs) : regsQ (.tuple (rs.map PyData.int)) = true := by
  show (decide ((rs.map PyData.int).length = 4) && (rs.map PyData.int).all (inD (-1000) 1000)) = true
  rw [Bool.and_eq_true, decide_eq_true_eq, List.length_map]
  refine ⟨h.1, all_map_of fun x hx => ?_⟩
  exact inD_of (h.2 x hx).1 (h.2 x hx).2
theorem one_true {many : Nat} {o : One} (h : OneFit many o) : oneP many (oneD o) = true := by
  show (decide (("one" : Str) = "one") && ((inD 1 1000000000000 (.int o.weight) && true) && ((decide (0 ≤ o.motes) && (decide (0 ≤ o.owed) && decide (0 ≤ o.days))) && (regsQ (.tuple (o.regs.map PyData.int)) && dbQ many (dbD o.dbt))))) = true
  rw [inD_of h.w1.1 h.w1.2, decide_eq_true h.m0, decide_eq_true h.o0, decide_eq_true h.d0, regsQ_true h.rg, dbQ_true' h.db]
  decide
theorem one_of {many : Nat} {d : PyData} (h : oneP many d = true) : ∃ o, oneD o = d ∧ OneFit many o := by
  match d, h with
  | .tuple (.str x :: r), h =>
    have h : (decide (x = "one") && oneQ many r) = true := h
    rw [Bool.and_eq_true, decide_eq_true_eq] at h
    obtain ⟨rfl, hq⟩ := h
    have h := hq
    by_cases c : r.length = 7
    · match r, c with
      | [db, rg, w, m, o, dy, g], _ =>
        have h : ((inD 1 1000000000000 w && isInt g) && ((natQ m && (natQ o && natQ dy)) && (regsQ rg && dbQ many db))) = true := h
        simp only [Bool.and_eq_true] at h
        obtain ⟨⟨h1, h2⟩, ⟨h3, h4, h5⟩, h6, h7⟩ := h
        obtain ⟨wv, rfl, w1, w2⟩ := inD_int h1
        obtain ⟨gv, rfl⟩ := isInt_of h2
        obtain ⟨mv, rfl, m0⟩ := natQ_of h3
        obtain ⟨ov, rfl, o0⟩ := natQ_of h4
        obtain ⟨dv, rfl, d0⟩ := natQ_of h5
        obtain ⟨rs, rfl, hr⟩ := regsQ_of h6
        obtain ⟨D, rfl, hD⟩ := dbQ_of h7
        exact ⟨⟨D, rs, wv, mv, ov, dv, gv⟩, rfl, hD, hr, ⟨w1, w2⟩, m0, o0, d0⟩
    · rw [oneQ_len c] at hq
      cases hq
def MkFit (many k : Nat) : Mk → Prop
  | .one o => OneFit many o
  | .house nm m => nameD nm = true ∧ m.all (OneFit many) ∧ m.nmq ∧ m.dep + 1 ≤ k
theorem ms_of {c : Bool} {many k : Nat} (h : ∀ d, memQ c many k d = true → ∃ mk, mkD mk = d ∧ MkFit many k mk) : ∀ ds : List PyData, (∀ d ∈ ds, memQ c many k d = true) → ∃ m, msD m = ds ∧ m.all (OneFit many) ∧ m.nmq ∧ m.dep ≤ k
  | [], _ => ⟨.nil, rfl, trivial, trivial, Nat.zero_le _⟩
  | d :: ds, hd => by
    obtain ⟨m, rfl, a, b, e⟩ := ms_of h ds fun x hx => hd x (List.mem_cons_of_mem _ hx)
    obtain ⟨mk, rfl, f⟩ := h d (hd d List.mem_cons_self)
    cases mk with
    | one o => exact ⟨.one o m, rfl, ⟨f, a⟩, b, e⟩
    | house nm m2 => exact ⟨.house nm m2 m, rfl, ⟨f.2.1, a⟩, ⟨f.1, f.2.2.1, b⟩, by show max (m2.dep + 1) m.dep ≤ k; have := f.2.2.2; omega⟩
theorem isHw_of {d : PyData} (h : isHw d = true) : ∃ r, d = .tuple (.str "house" :: r) := by
  match d, h with
  | .tuple (.str x :: r), h =>
    have : x = "house" := of_decide_eq_true h
    subst this
    exact ⟨r, rfl⟩
theorem mem_of {c : Bool} {many : Nat} : ∀ (k : Nat) (d : PyData), memQ c many k d = true → ∃ mk, mkD mk = d ∧ MkFit many k mk
  | 0, d, h => by
    unfold memQ at h
    split at h
    · cases h
    · obtain ⟨o, e, f⟩ := one_of h
      exact ⟨.one o, e, f⟩
  | k + 1, d, h => by
    unfold memQ at h
    split at h
    · rename_i hw
      obtain ⟨r, rfl⟩ := isHw_of hw
      by_cases hl : (PyData.str "house" :: r).length = 3
      · match r, hl with
        | [nm, ms], _ =>
          have h : (nameQ nm && msQ c (memQ c many k) ms) = true := h
          rw [Bool.and_eq_true] at h
          cases nm with
          | str z =>
            cases ms with
            | tuple ds =>
              have h2 : ((!c || decide (ds.length ≤ 24)) && ds.all (memQ c many k)) = true := h.2
              rw [Bool.and_eq_true, List.all_eq_true] at h2
              obtain ⟨m, rfl, a, b, e⟩ := ms_of (mem_of k) ds h2.2
              exact ⟨.house z m, rfl, h.1, a, b, by omega⟩
            | _ => cases h.2
          | _ => cases h.1
      · rw [hsR_len hl] at h
        cases h
    · obtain ⟨o, e, f⟩ := one_of h
      exact ⟨.one o, e, f⟩
theorem isHw_one (o : One) : isHw (oneD o) = false := by
  show decide (("one" : Str) = "house") = false
  decide
theorem msD_len : ∀ m : Ms, (msD m).length = m.len
  | .nil => rfl
  | .one _ r => by show (msD r).length + 1 = r.len + 1; rw [msD_len r]
  | .house _ _ r => by show (msD r).length + 1 = r.len + 1; rw [msD_len r]
theorem of_ms {c : Bool} {many : Nat} : ∀ {m : Ms} {k : Nat}, m.all (OneFit many) → m.nmq → m.dep ≤ k → (c = true → m.cnt ≤ 24) → ∀ d ∈ msD m, memQ c many k d = true
  | .nil, _, _, _, _, _, d, h => by cases h
  | .one o r, k, ⟨a, b⟩, n, e, cn, d, h => by
    rcases List.mem_cons.mp h with rfl | h
    · have := one_true a
      cases k <;> (unfold memQ; rw [isHw_one]; exact this)
    · exact of_ms b n e (fun hc => by have h : 1 + r.cnt ≤ 24 := cn hc; omega) d h
  | .house nm m r, k, ⟨a, b⟩, ⟨n1, n2, n3⟩, e, cn, d, h => by
    have e : max (m.dep + 1) r.dep ≤ k := e
    have cn : c = true → 1 + m.cnt + r.cnt ≤ 24 := cn
    rcases List.mem_cons.mp h with rfl | h
    · obtain ⟨k, rfl⟩ : ∃ k', k = k' + 1 := ⟨k - 1, by omega⟩
      have ih := of_ms (c := c) a n2 (show m.dep ≤ k by omega) (fun hc => by have := cn hc; omega)
      unfold memQ
      have hw : isHw (.tuple [.str "house", .str nm, .tuple (msD m)]) = true := by
        show decide (("house" : Str) = "house") = true
        decide
      rw [if_pos hw]
      show (nameD nm && ((!c || decide ((msD m).length ≤ 24)) && (msD m).all (memQ c many k))) = true
      rw [n1, List.all_eq_true.mpr ih, msD_len]
      cases c with
      | false => rfl
      | true =>
        have := cn rfl
        have := m.len_le
        rw [decide_eq_true (by omega)]
        rfl
    · exact of_ms b n3 (by omega) (fun hc => by have := cn hc; omega) d h
/-- what the answer is -/
def HsCase (d : PyData) (b : Bool) : Prop := (∃ many m, d = hsD many m ∧ 2 ≤ many ∧ many ≤ 3 ∧ MsFit many 3 m ∧ b = okCnt many m) ∨ ((¬ ∃ many m, d = hsD many m ∧ 2 ≤ many ∧ many ≤ 3 ∧ MsFit many 3 m) ∧ b = false)
end NG

namespace NG
open PySem PySem.Spec PyProof.Rows L2
def spWeight (K : PySem.W.Frag) : Sp := fun vs H Q _ => ∃ (v : V) (d : PyData), vs = [v] ∧ Dq K H v d ∧ Q (.bl (inD 1 1000000000000 d)) H
def spIsOne (K : PySem.W.Frag) : Sp := fun vs H Q _ => ∃ (v : V) (many : Nat) (d : PyData), vs = [v, .int (many : Int)] ∧ many ≤ 3 ∧ Dq K H v d ∧ d.weight ≤ 100000 ∧ ∀ H', Same H H' → Q (.bl (oneP many d)) H'
def spIsMem (K : PySem.W.Frag) (n : Nat) : Sp := fun vs H Q _ => ∃ (v : V) (many k : Nat) (d : PyData), vs = [v, .int (many : Int), .int (k : Int)] ∧ k ≤ n ∧ many ≤ 3 ∧ Dq K H v d ∧ d.weight ≤ 100000 ∧ ∀ H', Same H H' → Q (.bl (memQ true many k d)) H'
def spAreMem (K : PySem.W.Frag) (n : Nat) : Sp := fun vs H Q _ => ∃ (v : V) (many k : Nat) (d : PyData), vs = [v, .int (many : Int), .int (k : Int)] ∧ k < n ∧ many ≤ 3 ∧ Dq K H v d ∧ d.weight ≤ 100000 ∧ ∀ H', Same H H' → Q (.bl (msQ true (memQ true many k) d)) H'
theorem weight_in {d : PyData} : ∀ {ds : List PyData}, d ∈ ds → d.weight + 1 ≤ PyData.weightAll ds
  | e :: ds, h => by
    show d.weight + 1 ≤ e.weight + 1 + PyData.weightAll ds
    rcases List.mem_cons.mp h with rfl | h
    · omega
    · have := weight_in h
      omega
theorem weight_len : ∀ ds : List PyData, ds.length ≤ PyData.weightAll ds
  | [] => Nat.le_refl _
  | d :: ds => by
    have := weight_len ds
    show ds.length + 1 ≤ d.weight + 1 + PyData.weightAll ds
    omega
theorem strOk_w {d : PyData} (h : d.weight ≤ 100000) : strOk d := by
  cases d <;> first | exact h | trivial
theorem dnOk_w {d : PyData} (h : d.weight ≤ 100000) : dnOk d := by
  cases d with
  | tuple ds =>
    cases ds with
    | nil => trivial
    | cons x r =>
      have h1 : x.weight + 1 + PyData.weightAll r ≤ 100000 := h
      exact strOk_w (by omega)
  | _ => trivial
theorem dq_eight {K : PySem.W.Frag} {H : Hp} {ds : List PyData} {xs : List V} (h : DqAll K H xs ds) (c : ds.length = 7) : ∃ d0 d1 d2 d3 d4 d5 d6 v0 v1 v2 v3 v4 v5 v6, ds = [d0, d1, d2, d3, d4, d5, d6] ∧ xs = [v0, v1, v2, v3, v4, v5, v6] ∧ Dq K H v0 d0 ∧ Dq K H v1 d1 ∧ Dq K H v2 d2 ∧ Dq K H v3 d3 ∧ Dq K H v4 d4 ∧ Dq K H v5 d5 ∧ Dq K H v6 d6 := by
  match ds, c, h with
  | [d0, d1, d2, d3, d4, d5, d6], _, .cons h0 (.cons h1 (.cons h2 (.cons h3 (.cons h4 (.cons h5 (.cons h6 .nil)))))) => exact ⟨_, _, _, _, _, _, _, _, _, _, _, _, _, _, rfl, rfl, h0, h1, h2, h3, h4, h5, h6⟩
theorem two_of {x : PyData} {r : List PyData} (h : (x :: r).length = 3) : ∃ a b, r = [a, b] := by
  match r, h with
  | [a, b], _ => exact ⟨a, b, rfl⟩
theorem dq_three {K : PySem.W.Frag} {H : Hp} {a b c : PyData} {xs : List V} (h : DqAll K H xs [a, b, c]) : ∃ v0 v1 v2, xs = [v0, v1, v2] ∧ Dq K H v0 a ∧ Dq K H v1 b ∧ Dq K H v2 c := by
  cases h with
  | cons h0 h =>
    cases h with
    | cons h1 h =>
      cases h with
      | cons h2 h =>
        cases h
        exact ⟨_, _, _, rfl, h0, h1, h2⟩
theorem wdV_ne {d : PyData} (h : wdV d ≠ .str "one") {many : Nat} : oneP many d = false := by
  match d with
  | .tuple (.str x :: r) =>
    show (decide (x = "one") && _) = false
    rw [decide_eq_false (fun e => h (by rw [e]; rfl))]
    rfl
  | .tuple [] => rfl
  | .tuple (.none :: _) => rfl
  | .tuple (.bool _ :: _) => rfl
  | .tuple (.int _ :: _) => rfl
  | .tuple (.list _ :: _) => rfl
  | .tuple (.tuple _ :: _) => rfl
  | .tuple (.dict _ :: _) => rfl
  | .none => rfl
  | .bool _ => rfl
  | .int _ => rfl
  | .str _ => rfl
  | .list _ => rfl
  | .dict _ => rfl
theorem wdV_eq {d : PyData} {x : Str} (h : wdV d = .str x) : ∃ r, d = .tuple (.str x :: r) := by
  unfold wdV at h
  split at h
  · cases h
    exact ⟨_, rfl⟩
  · cases h
theorem isHw_wd {d : PyData} : isHw d = decide (wdV d = .str "house") := by
  by_cases c : wdV d = .str "house"
  · obtain ⟨r, rfl⟩ := wdV_eq c
    rw [decide_eq_true c]
    show decide (("house" : Str) = "house") = true
    decide
  · rw [decide_eq_false c]
    cases hw : isHw d with
    | false => rfl
    | true =>
      obtain ⟨r, rfl⟩ := isHw_of hw
      exact absurd rfl c
theorem scal_wd {d : PyData} {x : Str} : scal (wdV d) (.str x) = true := by
  unfold wdV
  split <;> rfl
section
variable {P : Program} {w : World} {K : PySem.W.Frag} {mg : Str → Option Value} {base : Heap}
theorem ok_weight {f : Addr} {fd : FuncData} (F : Fun K "is_weight" "is_weight" s_is_weight f fd) (gF : mg "is_weight" = some (.ref f)) (b : Binds K fd ["thing"] []) {t1 : Tok} (mg_MOST_WEIGHT : mg "MOST_WEIGHT" = some (.int 1000000000000 t1)) (c_is_within : Cal P w K mg base 2 "is_within" (spInB K)) : Cal P w K mg base 3 "is_weight" (spWeight K) := by
  refine ⟨f, fd, _, F.ok sc_is_weight (fun vs H Q E h => ?_) (fun cdv A outer s H vs Q E hr h => ?_), gF, F.kp, b⟩
  · obtain ⟨_, _, rfl, _⟩ := h
    rfl
  · obtain ⟨v, d, rfl, hd, q⟩ := h
    refine ⟨_, (pss_one (ps_ret (pe_c c_is_within hr (by omega) (by rfl) (pa_cons (pv 0) (pa_cons pe_int (pa_cons (pe_glob (v := .int (1000000000000)) (by rfl) mg_MOST_WEIGHT ⟨_, rfl⟩) pa_nil)))))), ?_⟩
    exact ⟨_, rfl, v, 1, 1000000000000, d, rfl, hd, q⟩
theorem ok_isone {f : Addr} {fd : FuncData} (F : Fun K "is_one" "is_one" s_is_one f fd) (gF : mg "is_one" = some (.ref f)) (b : Binds K fd ["thing", "many"] []) (B : Bl mg) (c_first_word : Cal P w K mg base 1 "first_word" (spFirst K)) (c_is_weight : Cal P w K mg base 3 "is_weight" (spWeight K)) (c_is_number : Cal P w K mg base 1 "is_number" (spIsNum K)) (c_is_registers : Cal P w K mg base 3 "is_registers" (spIsRegsQ K)) (c_is_doubter : Cal P w K mg base 19 "is_doubter" (spIsDb K)) : Cal P w K mg base 20 "is_one" (spIsOne K) := by
  refine ⟨f, fd, _, F.ok sc_is_one (fun vs H Q E h => ?_) (fun cdv A outer s H vs Q E hr h => ?_), gF, F.kp, b⟩
  · obtain ⟨_, _, _, rfl, _⟩ := h
    rfl
  · obtain ⟨v, many, d, rfl, hm3, hd, hw, q⟩ := h
    refine ⟨_, (pss_cons (ps_if (PW.pt (pw_or (pt_cmpR op_ne (pe_c c_first_word hr (by omega) (by rfl) (pa_cons (pv 0) pa_nil)) pe_str (nomark _)) (pw_or1 (pt_cmpR op_ne (pe_callB call_len_seq (by rfl) B.len PySem.boot_len (pa_cons (pv 0) pa_nil)) pe_int (nomark _))))) (pss_one (ps_ret pe_bl)) pss_nil) (pss_cons (ps_asg (pv 0) (pg_tup rfl (pgs_cons (pg_name (i := 2) sc_is_one.nd rfl (.inl rfl)) (pgs_cons (pg_name (i := 3) sc_is_one.nd rfl (.inl rfl)) (pgs_cons (pg_name (i := 4) sc_is_one.nd rfl (.inl rfl)) (pgs_cons (pg_name (i := 5) sc_is_one.nd rfl (.inl rfl)) (pgs_cons (pg_name (i := 6) sc_is_one.nd rfl (.inl rfl)) (pgs_cons (pg_name (i := 7) sc_is_one.nd rfl (.inl rfl)) (pgs_cons (pg_name (i := 8) sc_is_one.nd rfl (.inl rfl)) (pgs_cons (pg_name (i := 9) sc_is_one.nd rfl (.inl rfl)) pgs_nil)))))))))) (pss_cons (ps_if (PW.pt (pw_or (pt_not (pt_val (pe_c c_is_weight hr (by omega) (by rfl) (pa_cons (pv 5) pa_nil)))) (pw_or1 (pt_not (pt_val (pe_c c_is_number hr (by omega) (by rfl) (pa_cons (pv 9) pa_nil))))))) (pss_one (ps_ret pe_bl)) pss_nil) (pss_cons (ps_if (pt_not (pt_val (pe_callB (cr_all rfl) (by rfl) B.all (by decide +kernel) (pa_cons (pe_lc (own := [("number", 10)]) rfl sc_is_one.nd (pi_tup (pe_tup (pa_cons (pv 6) (pa_cons (pv 7) (pa_cons (pv 8) pa_nil))))) (blkOk_by (N := N_is_one) (sc := defScope s_is_one) (by decide +kernel)) (fun _ _ _ _ _ => pg_name (i := 10) sc_is_one.nd rfl (.inl rfl)) (fun _ _ _ _ _ => pts_nil) (fun _ _ _ _ _ => pe_and (pe_c c_is_number hr (by omega) (by rfl) (pa_cons (pv 10) pa_nil)) (pe_one (pe_cmpR op_ge (pv 10) pe_int (nomark _))))) pa_nil)))) (pss_one (ps_ret pe_bl)) pss_nil) (pss_one (ps_ret (pe_and (pe_c c_is_registers hr (by omega) (by rfl) (pa_cons (pv 4) pa_nil)) (pe_one (pe_c c_is_doubter hr (by omega) (by rfl) (pa_cons (pv 3) (pa_cons (pv 1) pa_nil))))))))))), ?_⟩
    refine ⟨v, rfl, v, d, rfl, hd, scal_wd, _, rfl, ?_⟩
    by_cases c : wdV d = .str "one"
    · obtain ⟨r, rfl⟩ := wdV_eq c
      refine iteFF (by rw [decide_eq_true c]; rfl) ?_
      cases hd with
      | @tup p xs ds hp hds =>
        cases hds with
        | cons h0 hr0 =>
          cases h0
          rename_i xs
          have hlx := dqall_len hr0
          refine ⟨.ref p, rfl, p, _, rfl, .inr hp, rfl, _, rfl, ?_⟩
          by_cases c7 : r.length = 7
          · refine iteFF (by rw [List.length_cons, hlx, c7]; rfl) ?_
            obtain ⟨d0, d1, d2, d3, d4, d5, d6, v0, v1, v2, v3, v4, v5, v6, rfl, rfl, h0, h1, h2, h3, h4, h5, h6⟩ := dq_eight hr0 c7
            have hwr : PyData.weightAll [PyData.str "one", d0, d1, d2, d3, d4, d5, d6] ≤ 100000 := hw
            have q : ∀ H', Same H H' → Q (.bl ((inD 1 1000000000000 d2 && isInt d6) && ((natQ d3 && (natQ d4 && natQ d5)) && (regsQ d1 && dbQ many d0)))) H' := q
            refine ⟨.ref p, rfl, p, _, rfl, hp, rfl, _, _, rfl, _, _, rfl, _, _, rfl, _, _, rfl, _, _, rfl, _, _, rfl, _, _, rfl, _, _, rfl, rfl, ?_⟩
            refine ⟨_, rfl, v2, d2, rfl, h2, _, rfl, ?_⟩
            cases c2 : inD 1 1000000000000 d2 with
            | false =>
              rw [c2] at q
              exact iteTT rfl (iteTT rfl (q _ (Same.refl _)))
            | true =>
              rw [c2, Bool.true_and] at q
              refine iteFF rfl ⟨_, rfl, v6, d6, rfl, h6, _, rfl, ?_⟩
              cases c6 : isInt d6 with
              | false =>
                rw [c6] at q
                exact iteTT rfl (q _ (Same.refl _))
              | true =>
                rw [c6, Bool.true_and] at q
                refine iteFF rfl ⟨_, rfl, _, rfl, _, rfl, (by show 3 ≤ sizeLine; decide), fun t nt => ?_⟩
                have st : Same H (upd H t (.tup [v3, v4, v5])) := same_new nt
                have et : (upd H t (.tup [v3, v4, v5])) t = some (.tup [v3, v4, v5]) := upd_same
                generalize upd H t (.tup [v3, v4, v5]) = H1 at st et ⊢
                have hda : DqAll K H1 [v3, v4, v5] [d3, d4, d5] := .cons (dq_same st h3) (.cons (dq_same st h4) (.cons (dq_same st h5) .nil))
                refine ⟨t, rfl, ⟨_, SqT.of et⟩, fun D nD => lc_tup (xs := [v3, v4, v5]) (fun i H' => Same H1 H' ∧ H' D = some (.lst ((([natQ d3, natQ d4, natQ d5]).take i).map V.bl))) ⟨same_new nD, upd_same⟩ (fun i H' _ h => same_sqt h.1 (SqT.of et)) ?_ ?_⟩
                · rintro i y H2 hy ⟨sm, hD⟩
                  have hi := (List.getElem?_eq_some_iff.mp hy).1
                  have hi : i < 3 := hi
                  obtain ⟨dd, hdd, hdp⟩ := dqall_get hda hy
                  have hn : [natQ d3, natQ d4, natQ d5][i]? = some (natQ dd) := by
                    have : [natQ d3, natQ d4, natQ d5] = [d3, d4, d5].map natQ := rfl
                    rw [this, List.getElem?_map, hdd]
                    rfl
                  refine ⟨rfl, tYes_in ⟨y, rfl, y, dd, rfl, dq_same sm hdp, ?_⟩⟩
                  have fin : ∀ H', H' = H2 → ∃ us, H' D = some (.lst us) ∧ us.length < sizeLine ∧ (Same H1 (upd H' D (.lst (us ++ [V.bl (natQ dd)]))) ∧ (upd H' D (.lst (us ++ [V.bl (natQ dd)]))) D = some (.lst ((([natQ d3, natQ d4, natQ d5]).take (i + 1)).map V.bl))) := fun H' e => by
                    subst e
                    refine ⟨_, hD, ?_, fun b' o eb => ?_, ?_⟩
                    · rw [List.length_map, List.length_take]
                      exact small1000 (by omega)
                    · rw [upd_ne (ne_of_none eb nD)]
                      exact sm _ _ eb
                    · rw [upd_same, List.take_add_one, hn, List.map_append]
                      rfl
                  cases dq_same sm hdp with
                  | int z => exact ⟨_, rfl, iteTT rfl ⟨_, rfl, _, _, rfl, rfl, fin _ rfl⟩⟩
                  | _ => exact ⟨_, rfl, iteFF rfl (fin _ rfl)⟩
                · rintro H2 ⟨sm, hD⟩
                  have hD : H2 D = some (.lst ([natQ d3, natQ d4, natQ d5].map V.bl)) := hD
                  refine ⟨D, _, rfl, SqL.of hD, ?_⟩
                  have sm2 := st.trans sm
                  have eq3 : ([natQ d3, natQ d4, natQ d5].all id) = (natQ d3 && (natQ d4 && natQ d5)) := by
                    simp [Bool.and_assoc]
                  rw [eq3]
                  refine ⟨_, rfl, ?_⟩
                  cases c3 : (natQ d3 && (natQ d4 && natQ d5)) with
                  | false =>
                    rw [c3] at q
                    exact iteTT rfl (q _ sm2)
                  | true =>
                    rw [c3, Bool.true_and] at q
                    refine iteFF rfl ⟨_, rfl, v1, d1, rfl, dq_same sm2 h1, fun H3 sm3 => ⟨_, rfl, ?_⟩⟩
                    cases c1 : regsQ d1 with
                    | false =>
                      rw [c1] at q
                      exact iteFF rfl (q _ (sm2.trans sm3))
                    | true =>
                      rw [c1, Bool.true_and] at q
                      have hw0 := weight_in (d := d0) (ds := [PyData.str "one", d0, d1, d2, d3, d4, d5, d6]) (by simp)
                      exact iteTT rfl ⟨_, rfl, _, rfl, v0, many, d0, rfl, hm3, dq_same (sm2.trans sm3) h0, dnOk_w (by omega), fun H4 sm4 => q _ ((sm2.trans sm3).trans sm4)⟩
          · refine iteTT (by rw [List.length_cons, hlx]; simp; omega) ?_
            have := q H (Same.refl _)
            have e : oneP many (.tuple (.str "one" :: r)) = false := by
              show (decide (("one" : Str) = "one") && oneQ many r) = false
              rw [oneQ_len c7, Bool.and_false]
            rw [e] at this
            exact this
    · refine iteTT (by rw [decide_eq_false c]; rfl) (iteTT rfl ?_)
      have := q H (Same.refl _)
      rw [wdV_ne c] at this
      exact this
end
end NG

namespace NG
open PySem PySem.Spec PyProof.Rows L2
section
variable {P : Program} {w : World} {K : PySem.W.Frag} {mg : Str → Option Value} {base : Heap}
theorem ok_ismem {f : Addr} {fd : FuncData} (F : Fun K "is_member" "is_member" s_is_member f fd) (gF : mg "is_member" = some (.ref f)) (b : Binds K fd ["thing", "many", "deep"] []) (B : Bl mg) (c_first_word : Cal P w K mg base 1 "first_word" (spFirst K)) (c_is_one : Cal P w K mg base 20 "is_one" (spIsOne K)) (c_is_name : Cal P w K mg base 1 "is_name" (spIsName K)) {n lv : Nat} (hlv : 20 ≤ lv) (c_are_members : Cal P w K mg base lv "are_members" (spAreMem K n)) : Cal P w K mg base (lv + 1) "is_member" (spIsMem K n) := by
  refine ⟨f, fd, _, F.ok sc_is_member (fun vs H Q E h => ?_) (fun cdv A outer s H vs Q E hr h => ?_), gF, F.kp, b⟩
  · obtain ⟨_, _, _, _, rfl, _⟩ := h
    rfl
  · obtain ⟨v, many, k, d, rfl, hk, hm3, hd, hw, q⟩ := h
    refine ⟨_, (pss_cons (ps_if (pt_cmpR op_ne (pe_c c_first_word hr (by omega) (by rfl) (pa_cons (pv 0) pa_nil)) pe_str (nomark _)) (pss_one (ps_ret (pe_c c_is_one hr (by omega) (by rfl) (pa_cons (pv 0) (pa_cons (pv 1) pa_nil))))) pss_nil) (pss_cons (ps_if (PW.pt (pw_or (pt_cmpR op_eq (pv 2) pe_int (nomark _)) (pw_or1 (pt_cmpR op_ne (pe_callB call_len_seq (by rfl) B.len PySem.boot_len (pa_cons (pv 0) pa_nil)) pe_int (nomark _))))) (pss_one (ps_ret pe_bl)) pss_nil) (pss_one (ps_ret (pe_and (pe_c c_is_name hr (by omega) (by rfl) (pa_cons (pe_ix ix_tup (pv 0) pe_int (fun _ _ => rfl)) pa_nil)) (pe_one (pe_c c_are_members hr (by omega) (by rfl) (pa_cons (pe_ix ix_tup (pv 0) pe_int (fun _ _ => rfl)) (pa_cons (pv 1) (pa_cons (pe_op op_sub (pv 2) pe_int) pa_nil)))))))))), ?_⟩
    refine ⟨v, rfl, v, d, rfl, hd, scal_wd, _, rfl, ?_⟩
    by_cases c : wdV d = .str "house"
    · have hh : isHw d = true := by rw [isHw_wd, decide_eq_true c]
      obtain ⟨r, rfl⟩ := wdV_eq c
      refine iteFF (by rw [decide_eq_true c]; rfl) ⟨_, rfl, rfl, _, rfl, ?_⟩
      cases k with
      | zero =>
        unfold memQ at q
        rw [if_pos hh] at q
        exact iteTT (by rfl) (iteTT rfl (q _ (Same.refl _)))
      | succ k =>
        unfold memQ at q
        rw [if_pos hh] at q
        refine iteFF (decide_eq_false (by intro e; cases e)) ?_
        cases hd with
        | @tup p xs ds hp hds =>
          have hlx := dqall_len hds
          refine ⟨.ref p, rfl, p, _, rfl, .inr hp, rfl, _, rfl, ?_⟩
          by_cases c3 : (PyData.str "house" :: r).length = 3
          · refine iteFF (by rw [hlx, c3]; rfl) ?_
            obtain ⟨nm, ms, rfl⟩ := two_of c3
            obtain ⟨v0, v1, v2, rfl, h0, h1, h2⟩ := dq_three hds
            ·
              have hwr : PyData.weightAll [PyData.str "house", nm, ms] ≤ 100000 := hw
              have w1 := weight_in (d := nm) (ds := [PyData.str "house", nm, ms]) (by simp)
              have w2 := weight_in (d := ms) (ds := [PyData.str "house", nm, ms]) (by simp)
              have q : ∀ H', Same H H' → Q (.bl (nameQ nm && msQ true (memQ true many k) ms)) H' := q
              refine ⟨.ref p, rfl, p, _, 1, _, rfl, rfl, hp, rfl, v1, nm, rfl, h1, strOk_w (by omega), fun H1 sm1 => ⟨_, rfl, ?_⟩⟩
              cases c1 : nameQ nm with
              | false =>
                rw [c1] at q
                exact iteFF rfl (q _ sm1)
              | true =>
                rw [c1, Bool.true_and] at q
                refine iteTT rfl ⟨.ref p, rfl, p, _, 2, _, rfl, rfl, same_sqt sm1 hp, rfl, .int (many : Int), rfl, _, rfl, _, _, rfl, rfl, v2, many, k, ms, ?_, by omega, hm3, dq_same sm1 h2, by omega, fun H2 sm2 => q _ (sm1.trans sm2)⟩
                show [v2, V.int (many : Int), V.int (((k + 1 : Nat) : Int) - 1)] = _
                rw [show ((k + 1 : Nat) : Int) - 1 = (k : Int) by omega]
          · refine iteTT (by rw [hlx]; simp at c3 ⊢; omega) ?_
            have := q H (Same.refl _)
            rw [hsR_len c3] at this
            exact this
    · have hh : isHw d = false := by rw [isHw_wd, decide_eq_false c]
      refine iteTT (by rw [decide_eq_false c]; rfl) ⟨v, rfl, .int (many : Int), rfl, v, many, d, rfl, hm3, hd, hw, fun H1 sm1 => ?_⟩
      have := q H1 sm1
      cases k <;> (unfold memQ at this; rw [if_neg (by rw [hh]; decide)] at this; exact this)
end
end NG

namespace NG
open PySem PySem.Spec PyProof.Rows L2
section
variable {P : Program} {w : World} {K : PySem.W.Frag} {mg : Str → Option Value} {base : Heap}
theorem ok_aremem {f f2 : Addr} {fd fd2 : FuncData} (F : Fun K "are_members" "are_members" s_are_members f fd) (gF : mg "are_members" = some (.ref f)) (b : Binds K fd ["thing", "many", "deep"] []) (B : Bl mg) (F2 : Fun K "is_member" "is_member" s_is_member f2 fd2) (gF2 : mg "is_member" = some (.ref f2)) (b2 : Binds K fd2 ["thing", "many", "deep"] []) {t1 t2 : Tok} (mg_MOST_ONES : mg "MOST_ONES" = some (.int 12 t1)) (mg_MOST_HOUSES : mg "MOST_HOUSES" = some (.int 12 t2)) (c_first_word : Cal P w K mg base 1 "first_word" (spFirst K)) (c_is_one : Cal P w K mg base 20 "is_one" (spIsOne K)) (c_is_name : Cal P w K mg base 1 "is_name" (spIsName K)) : ∀ n, Cal P w K mg base (20 + 2 * n) "are_members" (spAreMem K n) := by
  intro n
  induction n with
  | zero =>
    refine cal_never F gF b fun vs H Q E h => ?_
    obtain ⟨_, _, _, _, _, hk, _⟩ := h
    omega
  | succ n ih =>
  have c_is_member := ok_ismem F2 gF2 b2 B c_first_word c_is_one c_is_name (by omega) ih
  rw [show 20 + 2 * (n + 1) = 20 + 2 * n + 1 + 1 from by omega]
  refine ⟨f, fd, _, F.ok sc_are_members (fun vs H Q E h => ?_) (fun cdv A outer s H vs Q E hr h => ?_), gF, F.kp, b⟩
  · obtain ⟨_, _, _, _, rfl, _⟩ := h
    rfl
  · obtain ⟨v, many, k, d, rfl, hk, hm3, hd, hw, q⟩ := h
    refine ⟨_, (pss_cons (ps_if (PW.pt (pw_or (pt_not (pt_val (pe_callB call_isi (by rfl) B.isinstance (by decide +kernel) (pa_cons (pv 0) (pa_cons (pe_bltn (v := .ty "tuple") (by rfl) B.tuple (by decide +kernel) rfl) pa_nil))))) (pw_or1 (pt_cmpR op_gt (pe_callB call_len_seq (by rfl) B.len PySem.boot_len (pa_cons (pv 0) pa_nil)) (pe_op op_add (pe_glob (v := .int (12)) (by rfl) mg_MOST_ONES ⟨_, rfl⟩) (pe_glob (v := .int (12)) (by rfl) mg_MOST_HOUSES ⟨_, rfl⟩)) (nomark _))))) (pss_one (ps_ret pe_bl)) pss_nil) (pss_one (ps_ret (pe_callB (cr_all rfl) (by rfl) B.all (by decide +kernel) (pa_cons (pe_lc (own := [("member", 3)]) rfl sc_are_members.nd (pi_tup (pv 0)) (blkOk_by (N := N_are_members) (sc := defScope s_are_members) (by decide +kernel)) (fun _ _ _ _ _ => pg_name (i := 3) sc_are_members.nd rfl (.inl rfl)) (fun _ _ _ _ _ => pts_nil) (fun _ _ _ _ _ => pe_c c_is_member hr (by omega) (by rfl) (pa_cons (pv 3) (pa_cons (pv 1) (pa_cons (pv 2) pa_nil))))) pa_nil))))), ?_⟩
    refine ⟨v, rfl, v, .ty "tuple", _, _, _, rfl, .ty _, Dq.tyx hd, kit_ty (kit_tup d), _, rfl, ?_⟩
    cases hd with
    | @tup p xs ds hp hds =>
      have hlx := dqall_len hds
      have hwl : PyData.weightAll ds ≤ 100000 := hw
      have hll := weight_len ds
      have q : ∀ H', Same H H' → Q (.bl (decide (ds.length ≤ 24) && ds.all (memQ true many k))) H' := q
      refine iteFF rfl ⟨.ref p, rfl, p, _, rfl, .inr hp, _, _, rfl, rfl, _, _, rfl, rfl, _, rfl, ?_⟩
      by_cases c : ds.length ≤ 24
      · rw [decide_eq_true c, Bool.true_and] at q
        refine iteFF (decide_eq_false (by omega)) ?_
        refine ⟨.ref p, rfl, p, rfl, ⟨_, hp⟩, fun D nD => lc_tup (xs := xs) (fun i H' => Same H H' ∧ H' D = some (.lst (((ds.map (memQ true many k)).take i).map V.bl))) ⟨same_new nD, upd_same⟩ (fun i H' _ h => same_sqt h.1 hp) ?_ ?_⟩
        · rintro i y H2 hy ⟨sm, hD⟩
          have hi := (List.getElem?_eq_some_iff.mp hy).1
          obtain ⟨dd, hdd, hdp⟩ := dqall_get hds hy
          have hwd := weight_in (List.mem_of_getElem? hdd)
          refine ⟨rfl, tYes_in ⟨_, rfl, _, rfl, _, rfl, y, many, k, dd, rfl, by omega, hm3, dq_same sm hdp, by omega, fun H3 sm3 => ⟨_, sm3 _ _ hD, ?_, fun b' o eb => ?_, ?_⟩⟩⟩
          · rw [List.length_map, List.length_take]
            exact small1000 (by omega)
          · rw [upd_ne (ne_of_none eb nD)]
            exact sm3 _ _ (sm _ _ eb)
          · rw [upd_same, List.take_add_one, List.getElem?_map, hdd, List.map_append]
            rfl
        · rintro H2 ⟨sm, hD⟩
          rw [List.take_of_length_le (by rw [List.length_map]; omega)] at hD
          refine ⟨D, _, rfl, SqL.of hD, ?_⟩
          have := q H2 sm
          rw [List.all_map]
          exact this
      · rw [decide_eq_false c, Bool.false_and] at q
        exact iteTT (decide_eq_true (by omega)) (q _ (Same.refl _))
    | _ => exact iteTT rfl (iteTT rfl (q _ (Same.refl _)))
end
end NG

namespace NG
open PySem PySem.Spec PyProof.Rows L2
def spOneB (K : PySem.W.Frag) : Sp := fun vs H Q _ => ∃ (v : V) (o : One) (many : Nat), vs = [v] ∧ OneAt K H o v ∧ DbFit many o.dbt ∧ many ≤ 3 ∧ ∀ H', Same H H' → Q (.int (lnO o.dbt)) H'
def spCrowd (K : PySem.W.Frag) : Sp := fun vs H Q _ => ∃ (p pm : Addr) (xs : List V) (many : Nat) (m : Ms), vs = [.ref p] ∧ SqT K H p [.int (many : Int), .ref pm] ∧ SqT K H pm xs ∧ MsAt K H m xs ∧ 2 ≤ many ∧ many ≤ 3 ∧ MsFit many 3 m ∧ m.cnt ≤ 100000 ∧
  ∀ H' x, Same H H' → ((x = V.non ∧ okCnt many m = true) ∨ (∃ z, x = .str z ∧ okCnt many m = false)) → Q x H'
def spIsHouse (K : PySem.W.Frag) : Sp := fun vs H Q _ => ∃ (v : V) (d : PyData) (b : Bool), vs = [v] ∧ Dq K H v d ∧ d.weight ≤ 100000 ∧ HsCase d b ∧ ∀ H', Same H H' → Q (.bl b) H'
def onF (l : List (List Int × Mk)) : List One := (l.filter isOne).filterMap toOne
theorem onF_snoc {l : List (List Int × Mk)} {p : List Int} {o : One} : onF (l ++ [(p, .one o)]) = onF l ++ [o] := by
  unfold onF
  rw [List.filter_append, List.filterMap_append]
  rfl
theorem onF_snoc' {l : List (List Int × Mk)} {p : List Int} {nm : Str} {m : Ms} : onF (l ++ [(p, .house nm m)]) = onF l := by
  unfold onF
  rw [List.filter_append, List.filterMap_append]
  show _ ++ [] = _
  rw [List.append_nil]
def dpF (l : List (List Int × Mk)) : List Int := (l.filter fun x => !isOne x).map fun x => (x.1.length : Int)
theorem dpF_snoc' {l : List (List Int × Mk)} {p : List Int} {o : One} : dpF (l ++ [(p, .one o)]) = dpF l := by
  unfold dpF
  rw [List.filter_append, List.map_append]
  show _ ++ [] = _
  rw [List.append_nil]
theorem dpF_snoc {l : List (List Int × Mk)} {p : List Int} {nm : Str} {m : Ms} : dpF (l ++ [(p, .house nm m)]) = dpF l ++ [(p.length : Int)] := by
  unfold dpF
  rw [List.filter_append, List.map_append]
  rfl
theorem onF_len (l : List (List Int × Mk)) : (onF l).length ≤ l.length := Nat.le_trans (List.length_filterMap_le ..) (List.length_filter_le ..)
theorem dpF_len (l : List (List Int × Mk)) : (dpF l).length ≤ l.length := by
  unfold dpF
  rw [List.length_map]
  exact List.length_filter_le ..
theorem dq_two {K : PySem.W.Frag} {H : Hp} {ds : List PyData} {xs : List V} (h : DqAll K H xs ds) (c : ds.length = 2) : ∃ d0 d1 v0 v1, ds = [d0, d1] ∧ xs = [v0, v1] ∧ Dq K H v0 d0 ∧ Dq K H v1 d1 := by
  cases h with
  | nil => cases c
  | cons h0 h =>
    cases h with
    | nil => cases c
    | cons h1 h =>
      cases h with
      | nil => exact ⟨_, _, _, _, rfl, rfl, h0, h1⟩
      | cons _ _ => simp at c
theorem cnt_weight : ∀ m : Ms, m.cnt ≤ PyData.weightAll (msD m)
  | .nil => Nat.le_refl _
  | .one o r => by
    have := cnt_weight r
    show 1 + r.cnt ≤ (oneD o).weight + 1 + PyData.weightAll (msD r)
    omega
  | .house nm m r => by
    have h1 := cnt_weight m
    have h2 := cnt_weight r
    have e : (PyData.tuple [.str "house", .str nm, .tuple (msD m)]).weight = (PyData.str "house").weight + 1 + ((PyData.str nm).weight + 1 + (PyData.weightAll (msD m) + 1 + 0)) := rfl
    show 1 + m.cnt + r.cnt ≤ (PyData.tuple [.str "house", .str nm, .tuple (msD m)]).weight + 1 + PyData.weightAll (msD r)
    omega
section
variable {P : Program} {w : World} {K : PySem.W.Frag} {mg : Str → Option Value} {base : Heap}
theorem ok_oneB {f : Addr} {fd : FuncData} (F : Fun K "one_borders" "one_borders" s_one_borders f fd) (gF : mg "one_borders" = some (.ref f)) (b : Binds K fd ["one"] []) (B : Bl mg) (c_borders : Cal P w K mg base 10 "borders" (spCnt8 K bds 8)) : Cal P w K mg base 11 "one_borders" (spOneB K) := by
  refine ⟨f, fd, _, F.ok sc_one_borders (fun vs H Q E h => ?_) (fun cdv A outer s H vs Q E hr h => ?_), gF, F.kp, b⟩
  · obtain ⟨_, _, _, rfl, _⟩ := h
    rfl
  · obtain ⟨v, o, many, rfl, ⟨py, dv, rv, rfl, hpy, ⟨pd, vb, ps, pb, us, ws, rfl, hpd, hvb, hps, hus, hpb, hws⟩, hrv⟩, fit, hm3, q⟩ := h
    refine ⟨_, (pss_cons (ps_asg (pe_ix ix_tup (pv 0) pe_int (fun _ _ => rfl)) (pg_tup rfl (pgs_cons (pg_name (i := 1) sc_one_borders.nd rfl (.inl rfl)) (pgs_cons (pg_name (i := 2) sc_one_borders.nd rfl (.inl rfl)) (pgs_cons (pg_name (i := 3) sc_one_borders.nd rfl (.inl rfl)) (pgs_cons (pg_name (i := 4) sc_one_borders.nd rfl (.inl rfl)) (pgs_cons (pg_name (i := 5) sc_one_borders.nd rfl (.inl rfl)) pgs_nil))))))) (pss_one (ps_ret (pe_callB (cr_sum rfl) (by rfl) B.sum (by decide +kernel) (pa_cons (pe_lc (own := [("stake", 6)]) rfl sc_one_borders.nd (pi_tup (pv 4)) (blkOk_by (N := N_one_borders) (sc := defScope s_one_borders) (by decide +kernel)) (fun _ _ _ _ _ => pg_name (i := 6) sc_one_borders.nd rfl (.inl rfl)) (fun _ _ _ _ _ => pts_nil) (fun _ _ _ _ _ => pe_c c_borders hr (by omega) (by rfl) (pa_cons (pv 6) pa_nil))) pa_nil))))), ?_⟩
    have hul := hus.len
    have hsl := fit.sl
    refine ⟨.ref py, rfl, py, _, 1, _, rfl, rfl, hpy, rfl, pd, _, rfl, hpd, rfl, _, _, rfl, _, _, rfl, _, _, rfl, _, _, rfl, _, _, rfl, rfl, ?_⟩
    refine ⟨.ref ps, rfl, ps, rfl, ⟨_, hps⟩, fun D' nD => lc_tup (xs := us) (fun i H' => Same H H' ∧ H' D' = some (.lst (((o.dbt.stakes.take i).map bds).map V.int))) ⟨same_new nD, upd_same⟩ (fun i H' _ h => same_sqt h.1 hps) ?_ ?_⟩
    · rintro i x H1 hx ⟨sm1, hD1⟩
      have hil := (List.getElem?_eq_some_iff.mp hx).1
      obtain ⟨e, he, xe⟩ := hus.get' hx
      obtain ⟨oe, de, se, _⟩ := fit.st e (List.mem_of_getElem? he)
      refine ⟨rfl, tYes_in ?_⟩
      refine ⟨x, rfl, x, e, many, rfl, xe.same sm1, oe, de, se, fun H2 sm2 => ?_⟩
      refine ⟨_, sm2 _ _ hD1, ?_, fun b' o eb => ?_, ?_⟩
      · rw [List.length_map, List.length_map, List.length_take]
        exact small1000 (by omega)
      · rw [upd_ne (ne_of_none eb nD)]
        exact sm2 _ _ (sm1 _ _ eb)
      · rw [upd_same, List.take_add_one, he, List.map_append, List.map_append]
        rfl
    · rintro H1 ⟨sm1, hD1⟩
      rw [hul, List.take_length] at hD1
      exact ⟨D', _, rfl, SqL.of hD1, q _ sm1⟩
theorem ok_crowd {f a_MOST_BORDERS : Addr} {fd : FuncData} (F : Fun K "crowd" "crowd" s_crowd f fd) (gF : mg "crowd" = some (.ref f)) (b : Binds K fd ["house"] []) (B : Bl mg) {t1 t2 t3 : Tok} (mg_MOST_ONES : mg "MOST_ONES" = some (.int 12 t1)) (mg_MOST_HOUSES : mg "MOST_HOUSES" = some (.int 12 t2)) (mg_MOST_DEEP_houses : mg "MOST_DEEP_houses" = some (.int 3 t3)) (mg_MOST_BORDERS : mg "MOST_BORDERS" = some (.ref a_MOST_BORDERS)) (hMB : ∀ many : Nat, 2 ≤ many → many ≤ 3 → KDcI K w a_MOST_BORDERS (many : Int) (.int (roomI many))) (c_stands : Cal P w K mg base 5 "stands" (spStands8 K 4)) (c_one_borders : Cal P w K mg base 11 "one_borders" (spOneB K)) : Cal P w K mg base 12 "crowd" (spCrowd K) := by
  refine ⟨f, fd, _, F.ok sc_crowd (fun vs H Q E h => ?_) (fun cdv A outer s H vs Q E hr h => ?_), gF, F.kp, b⟩
  · obtain ⟨_, _, _, _, _, rfl, _⟩ := h
    rfl
  · obtain ⟨p, pm, xs, many, m, rfl, hp, hpm, hms, hm2, hm3, fit, hc, q⟩ := h
    refine ⟨_, (pss_cons (ps_asg (pv 0) (pg_tup rfl (pgs_cons (pg_name (i := 1) sc_crowd.nd rfl (.inl rfl)) (pgs_cons (pg_name (i := 2) sc_crowd.nd rfl (.inl rfl)) pgs_nil)))) (pss_cons (ps_set (i := 3) sc_crowd.nd rfl (.inl rfl) (pe_c c_stands hr (by omega) (by rfl) (pa_cons (pv 2) (pa_cons (pe_tup pa_nil) pa_nil)))) (pss_cons (ps_setLc (i := 4) (own := [("path", 5), ("member", 6)]) rfl sc_crowd.nd rfl rfl (sw_true rfl rfl rfl (by decide +kernel)) (pi_list (pv 3)) (blkOk_by (N := N_crowd) (sc := defScope s_crowd) (by decide +kernel)) (fun _ _ _ _ _ => pgtK (n := 2) K rfl (pgs_cons (pg_name (i := 5) sc_crowd.nd rfl (.inl rfl)) (pgs_cons (pg_name (i := 6) sc_crowd.nd rfl (.inl rfl)) pgs_nil))) (fun _ _ _ _ _ => pts_one (pt_cmpR op_eq (pe_ix (ixt K) (pv 6) pe_int (fun _ _ => rfl)) pe_str (nomark _))) (fun _ _ _ _ _ => pv 6)) (pss_cons (ps_setLc (i := 7) (own := [("path", 5), ("member", 6)]) rfl sc_crowd.nd rfl rfl (sw_true rfl rfl rfl (by decide +kernel)) (pi_list (pv 3)) (blkOk_by (N := N_crowd) (sc := defScope s_crowd) (by decide +kernel)) (fun _ _ _ _ _ => pgtK (n := 2) K rfl (pgs_cons (pg_name (i := 5) sc_crowd.nd rfl (.inl rfl)) (pgs_cons (pg_name (i := 6) sc_crowd.nd rfl (.inl rfl)) pgs_nil))) (fun _ _ _ _ _ => pts_one (pt_cmpR op_eq (pe_ix (ixt K) (pv 6) pe_int (fun _ _ => rfl)) pe_str (nomark _))) (fun _ _ _ _ _ => pe_callB (lenK K) (by rfl) B.len PySem.boot_len (pa_cons (pv 5) pa_nil))) (pss_cons (ps_if (pt_cmpR op_gt (pe_callB call_len_seq (by rfl) B.len PySem.boot_len (pa_cons (pv 4) pa_nil)) (pe_glob (v := .int (12)) (by rfl) mg_MOST_ONES ⟨_, rfl⟩) (nomark _)) (pss_one (ps_ret pe_str)) pss_nil) (pss_cons (ps_if (pt_cmpR op_gt (pe_callB call_len_seq (by rfl) B.len PySem.boot_len (pa_cons (pv 7) pa_nil)) (pe_glob (v := .int (12)) (by rfl) mg_MOST_HOUSES ⟨_, rfl⟩) (nomark _)) (pss_one (ps_ret pe_str)) pss_nil) (pss_cons (ps_if (pt_cmpR op_gt (pe_callBK (cr_maxDf K rfl) (by rfl) B.max (by decide +kernel) (pa_cons (pv 7) pa_nil) (pk_cons pe_int pk_nil)) (pe_glob (v := .int (3)) (by rfl) mg_MOST_DEEP_houses ⟨_, rfl⟩) (nomark _)) (pss_one (ps_ret pe_str)) pss_nil) (pss_cons (ps_if (pt_cmpR op_gt (pe_callB (cr_sum rfl) (by rfl) B.sum (by decide +kernel) (pa_cons (pe_lc (own := [("one", 8)]) rfl sc_crowd.nd (pi_list (pv 4)) (blkOk_by (N := N_crowd) (sc := defScope s_crowd) (by decide +kernel)) (fun _ _ _ _ _ => pg_name (i := 8) sc_crowd.nd rfl (.inl rfl)) (fun _ _ _ _ _ => pts_nil) (fun _ _ _ _ _ => pe_c c_one_borders hr (by omega) (by rfl) (pa_cons (pv 8) pa_nil))) pa_nil)) (pe_ix ix_kdI (pe_glob (v := .ref a_MOST_BORDERS) (by rfl) mg_MOST_BORDERS rfl) (pv 1) (fun _ _ => rfl)) (nomark _)) (pss_one (ps_ret pe_str)) pss_nil) (pss_one (ps_ret pe_non)))))))))), ?_⟩
    have hdp := fit.dp
    refine ⟨.ref p, rfl, p, _, rfl, hp, rfl, _, _, rfl, _, _, rfl, rfl, ?_⟩
    refine ⟨.ref pm, rfl, (by show 0 ≤ sizeLine; decide), fun t0 n0 => ?_⟩
    have s0 := same_new (o := .tup []) n0
    refine ⟨pm, t0, xs, m, [], rfl, same_sqt s0 hpm, hms.same s0, by omega, hc, SqT.of upd_same, by show 0 + m.dep ≤ 100; omega, fun H2 l us sm2 nl hl hpr => ?_⟩
    have sm02 := s0.trans sm2
    have hul : us.length = m.cnt := by rw [hpr.len, stdI_len]
    have hl0 : (stdI m [] 0).length = m.cnt := stdI_len ..
    refine ⟨.ref l, rfl, l, rfl, ⟨_, SqL.of hl⟩, fun D nD => lc_list (xs := us) (fun i H' => ∃ ws, Same H2 H' ∧ H' D = some (.lst ws) ∧ OnesAt K H' ws (onF ((stdI m [] 0).take i))) ⟨[], same_new nD, upd_same, trivial⟩ (fun i H' _ h => ?_) ?_ ?_⟩
    · obtain ⟨_, sm, _⟩ := h
      exact SqL.of (sm _ _ hl)
    · rintro i x H3 hx ⟨ws, sm3, hD3, hws⟩
      have hil := (List.getElem?_eq_some_iff.mp hx).1
      obtain ⟨it, hit, t, h, v, rfl, qt, qh, mk⟩ := hpr.get hx
      have qt := same_sqt sm3 qt
      have mk := mk.imp fun _ _ h => same_sqt sm3 h
      obtain ⟨py, ys, rfl, hpy⟩ := mk.wd
      have hwl : ws.length ≤ 100000 := by
        rw [hws.len]
        have := onF_len ((stdI m [] 0).take i)
        rw [List.length_take] at this
        omega
      refine ⟨t, _, rfl, qt, rfl, _, _, rfl, _, _, rfl, rfl, rfl, .ref py, rfl, py, _, 0, _, rfl, rfl, hpy, at_of (j := 0) rfl rfl, rfl, _, rfl, ?_⟩
      obtain ⟨pth, k⟩ := it
      cases k with
      | one o =>
        refine iteTT rfl ⟨.ref py, rfl, ws, hD3, small2e5 (by omega), ws ++ [.ref py], fun b' o eb => ?_, upd_same, ?_⟩
        · rw [upd_ne (ne_of_none eb nD)]
          exact sm3 _ _ eb
        · rw [List.take_add_one, hit]
          show OnesAt K _ _ (onF (_ ++ [(pth, .one o)]))
          rw [onF_snoc]
          exact OnesAt.app (hws.imp fun _ _ h => put_sqt hD3 h) ⟨(mk : OneAt K H3 o _).imp fun _ _ h => put_sqt hD3 h, trivial⟩
      | house nm m2 =>
        refine iteFF rfl ⟨ws, sm3, hD3, ?_⟩
        rw [List.take_add_one, hit]
        show OnesAt K _ _ (onF (_ ++ [(pth, .house nm m2)]))
        rw [onF_snoc']
        exact hws
    · rintro H3 ⟨ws, sm3, hD3, hws⟩
      rw [hpr.len, List.take_length, show onF (stdI m [] 0) = aoI m from ao_std ..] at hws
      have hl3 := sm3 _ _ hl
      have hpr3 := hpr.imp fun _ _ h => same_sqt sm3 h
      have sm03 := sm02.trans sm3
      refine ⟨.ref l, rfl, l, rfl, ⟨_, SqL.of hl3⟩, fun D2 nD2 => lc_list (xs := us) (fun i H' => Same H3 H' ∧ H' D2 = some (.lst ((dpF ((stdI m [] 0).take i)).map V.int))) ⟨same_new nD2, upd_same⟩ (fun i H' _ h => SqL.of (h.1 _ _ hl3)) ?_ ?_⟩
      · rintro i x H4 hx ⟨sm4, hD4⟩
        have hil := (List.getElem?_eq_some_iff.mp hx).1
        obtain ⟨it, hit, t, h, v, rfl, qt, qh, mk⟩ := hpr3.get hx
        have qt := same_sqt sm4 qt
        have qh := same_sqt sm4 qh
        have mk := mk.imp fun _ _ h => same_sqt sm4 h
        obtain ⟨py, ys, rfl, hpy⟩ := mk.wd
        have hwl : (dpF ((stdI m [] 0).take i)).length ≤ 100000 := by
          have := dpF_len ((stdI m [] 0).take i)
          rw [List.length_take] at this
          omega
        refine ⟨t, _, rfl, qt, rfl, _, _, rfl, _, _, rfl, rfl, rfl, .ref py, rfl, py, _, 0, _, rfl, rfl, hpy, at_of (j := 0) rfl rfl, rfl, _, rfl, ?_⟩
        obtain ⟨pth, k⟩ := it
        cases k with
        | one o =>
          refine iteFF rfl ⟨sm4, ?_⟩
          rw [List.take_add_one, hit]
          show _ = some (HO.lst ((dpF (_ ++ [(pth, .one o)])).map V.int))
          rw [dpF_snoc']
          exact hD4
        | house nm m2 =>
          refine iteTT rfl ⟨.ref h, rfl, h, _, rfl, .inr qh, _, hD4, small2e5 (by rw [List.length_map]; omega), fun b' o eb => ?_, ?_⟩
          · rw [upd_ne (ne_of_none eb nD2)]
            exact sm4 _ _ eb
          · rw [upd_same, List.take_add_one, hit]
            show _ = some (HO.lst ((dpF (_ ++ [(pth, .house nm m2)])).map V.int))
            rw [dpF_snoc, List.map_append, List.length_map]
            rfl
      · rintro H4 ⟨sm4, hD4⟩
        rw [hul, ← hl0, List.take_length] at hD4
        have hD34 := sm4 _ _ hD3
        have hws4 := hws.imp fun _ _ h => same_sqt sm4 h
        have sm04 := sm03.trans sm4
        have hno : ws.length = m.no := hws.len
        have hnl := m.no_le
        have hnh : (dpF (stdI m [] 0)).length = m.cnt - m.no := by
          unfold dpF
          rw [List.length_map]
          exact std_nh ..
        refine ⟨.ref D, rfl, D, _, rfl, .inl (SqL.of hD34), _, _, rfl, rfl, _, rfl, iteD (fun c1 => ?_) (fun c1 => ?_)⟩
        · refine q _ _ sm04 (.inr ⟨_, rfl, ?_⟩)
          unfold okCnt
          rw [decide_eq_false (show ¬ m.no < 13 by omega)]
          rfl
        refine ⟨.ref D2, rfl, D2, _, rfl, .inl (SqL.of hD4), _, _, rfl, rfl, _, rfl, iteD (fun c2 => ?_) (fun c2 => ?_)⟩
        · refine q _ _ sm04 (.inr ⟨_, rfl, ?_⟩)
          rw [List.length_map] at c2
          unfold okCnt
          rw [decide_eq_false (show ¬ m.cnt - m.no < 13 by omega), Bool.false_and, Bool.and_false]
        rw [List.length_map] at c2
        have hM3 : ∀ M ∈ dpF (stdI m [] 0), M ≤ 3 := fun M hM => by
          obtain ⟨x, hx, rfl⟩ := List.mem_map.mp hM
          obtain ⟨hx1, hx2⟩ := List.mem_filter.mp hx
          have := std_houses m [] 0 x hx1 (by simpa using hx2)
          have h0 : x.1.length ≤ 0 + m.dep := this
          omega
        refine ⟨.ref D2, rfl, D2, _, .int 0, rfl, rfl, SqL.of hD4, fun _ => ⟨_, _, rfl, rfl, _, rfl, iteFF rfl ?_⟩, fun M hM _ => ⟨_, _, rfl, rfl, _, rfl, iteFF (decide_eq_false (by have := hM3 M hM; omega)) ?_⟩⟩
        all_goals
          refine ⟨.ref D, rfl, D, rfl, ⟨_, SqL.of hD34⟩, fun D3 nD3 => lc_list (xs := ws) (fun i H' => Same H4 H' ∧ H' D3 = some (.lst ((((aoI m).take i).map fun o => lnO o.dbt).map V.int))) ⟨same_new nD3, upd_same⟩ (fun i H' _ h => SqL.of (h.1 _ _ hD34)) ?_ ?_⟩
          · rintro i x H5 hx ⟨sm5, hD5⟩
            have hil := (List.getElem?_eq_some_iff.mp hx).1
            obtain ⟨o, ho, xo⟩ := hws4.get hx
            have fo := (ao_all fit.al o (List.mem_of_getElem? ho)).db
            refine ⟨rfl, tYes_in ⟨x, rfl, x, o, many, rfl, xo.imp fun _ _ h => same_sqt sm5 h, fo, hm3, fun H6 sm6 => ⟨_, sm6 _ _ hD5, ?_, fun b' o eb => ?_, ?_⟩⟩⟩
            · rw [List.length_map, List.length_map, List.length_take]
              exact small2e5 (by omega)
            · rw [upd_ne (ne_of_none eb nD3)]
              exact sm6 _ _ (sm5 _ _ eb)
            · rw [upd_same, List.take_add_one, ho, List.map_append, List.map_append]
              rfl
          · rintro H5 ⟨sm5, hD5⟩
            rw [hno, show m.no = (aoI m).length from rfl, List.take_length] at hD5
            refine ⟨D3, _, rfl, SqL.of hD5, _, rfl, a_MOST_BORDERS, _, _, rfl, rfl, hMB many hm2 hm3, _, _, rfl, rfl, _, rfl, iteD (fun c3 => ?_) (fun c3 => ?_)⟩
            · refine q _ _ (sm04.trans sm5) (.inr ⟨_, rfl, ?_⟩)
              have c3 : roomI many < m.ln := c3
              unfold okCnt
              rw [decide_eq_false (show ¬ m.ln ≤ roomI many by omega), Bool.and_false, Bool.and_false]
            · refine q _ _ (sm04.trans sm5) (.inl ⟨rfl, ?_⟩)
              have c3 : ¬ roomI many < m.ln := c3
              unfold okCnt
              rw [decide_eq_true (show m.ln ≤ roomI many by omega), decide_eq_true (show m.no < 13 by omega), decide_eq_true (show m.cnt - m.no < 13 by omega)]
              rfl
theorem fn_ishouse {f : Addr} {fd : FuncData} (F : Fun K "is_house" "is_house" s_is_house f fd) (B : Bl mg) {t3 : Tok} (mg_MOST_DEEP_houses : mg "MOST_DEEP_houses" = some (.int 3 t3)) (c_is_within : Cal P w K mg base 2 "is_within" (spInB K)) (c_are_members : Cal P w K mg base 28 "are_members" (spAreMem K 4)) (c_crowd : Cal P w K mg base 12 "crowd" (spCrowd K)) : FnOk P w K mg base CX0 29 f fd ["thing"] (spIsHouse K) := by
  refine F.ok sc_is_house (fun vs H Q E h => ?_) (fun cdv A outer s H vs Q E hr h => ?_)
  · obtain ⟨_, _, _, rfl, _⟩ := h
    rfl
  · obtain ⟨v, d, b, rfl, hd, hw, hc, q⟩ := h
    refine ⟨_, (pss_cons (ps_if (PW.pt (pw_or (pt_not (pt_val (pe_callB call_isi (by rfl) B.isinstance (by decide +kernel) (pa_cons (pv 0) (pa_cons (pe_bltn (v := .ty "tuple") (by rfl) B.tuple (by decide +kernel) rfl) pa_nil))))) (pw_or1 (pt_cmpR op_ne (pe_callB call_len_seq (by rfl) B.len PySem.boot_len (pa_cons (pv 0) pa_nil)) pe_int (nomark _))))) (pss_one (ps_ret pe_bl)) pss_nil) (pss_cons (ps_asg (pv 0) (pg_tup rfl (pgs_cons (pg_name (i := 1) sc_is_house.nd rfl (.inl rfl)) (pgs_cons (pg_name (i := 2) sc_is_house.nd rfl (.inl rfl)) pgs_nil)))) (pss_cons (ps_if (PW.pt (pw_or (pt_not (pt_val (pe_c c_is_within hr (by omega) (by rfl) (pa_cons (pv 1) (pa_cons pe_int (pa_cons pe_int pa_nil)))))) (pw_or1 (pt_not (pt_val (pe_c c_are_members hr (by omega) (by rfl) (pa_cons (pv 2) (pa_cons (pv 1) (pa_cons (pe_glob (v := .int (3)) (by rfl) mg_MOST_DEEP_houses ⟨_, rfl⟩) pa_nil))))))))) (pss_one (ps_ret pe_bl)) pss_nil) (pss_one (ps_ret (pe_cmpR op_isN (pe_c c_crowd hr (by omega) (by rfl) (pa_cons (pv 0) pa_nil)) pe_non (nomark _))))))), ?_⟩
    refine ⟨v, rfl, v, .ty "tuple", _, _, _, rfl, .ty _, Dq.tyx hd, kit_ty (kit_tup d), _, rfl, ?_⟩
    have no : (¬ ∃ many m, d = hsD many m ∧ 2 ≤ many ∧ many ≤ 3 ∧ MsFit many 3 m) → b = false := fun h => by
      rcases hc with ⟨many, m, e, h2, h3, hf, _⟩ | ⟨_, e⟩
      · exact absurd ⟨many, m, e, h2, h3, hf⟩ h
      · exact e
    cases hd with
    | @tup p xs ds hp hds =>
      have hlx := dqall_len hds
      refine iteFF rfl ⟨.ref p, rfl, p, _, rfl, .inr hp, rfl, _, rfl, ?_⟩
      by_cases c : ds.length = 2
      · refine iteFF (by rw [hlx, c]; rfl) ?_
        obtain ⟨d0, d1, v0, v1, rfl, rfl, h0, h1⟩ := dq_two hds c
        have hwr : PyData.weightAll [d0, d1] ≤ 100000 := hw
        have w1 := weight_in (d := d1) (ds := [d0, d1]) (by simp)
        refine ⟨.ref p, rfl, p, _, rfl, hp, rfl, _, _, rfl, _, _, rfl, rfl, ?_⟩
        refine ⟨_, rfl, v0, 2, 3, d0, rfl, h0, _, rfl, ?_⟩
        cases c2 : inD 2 3 d0 with
        | false =>
          have e : b = false := no fun ⟨many, m, e, h2, h3, _⟩ => by
            have e0 : d0 = .int (many : Int) := (List.cons.inj (PyData.tuple.inj e)).1
            rw [e0, inD_of (by omega) (by omega)] at c2
            cases c2
          rw [e] at q
          exact iteTT rfl (iteTT rfl (q _ (Same.refl _)))
        | true =>
          obtain ⟨i, rfl, i2, i3⟩ := inD_int c2
          obtain ⟨many, rfl⟩ : ∃ n : Nat, i = (n : Int) := ⟨i.toNat, by omega⟩
          cases h0
          refine iteFF rfl ⟨_, rfl, _, rfl, v1, many, 3, d1, rfl, by decide, by omega, h1, by omega, fun H1 sm1 => ⟨_, rfl, ?_⟩⟩
          cases c3 : msQ true (memQ true many 3) d1 with
          | false =>
            have e : b = false := by
              rcases hc with ⟨many', m, e, h2, h3, hf, hb⟩ | ⟨_, e⟩
              · have e0 : PyData.int (many : Int) = .int (many' : Int) := (List.cons.inj (PyData.tuple.inj e)).1
                have e1 : d1 = .tuple (msD m) := (List.cons.inj (List.cons.inj (PyData.tuple.inj e)).2).1
                have e2 : many' = many := by have := PyData.int.inj e0; omega
                subst e2 e1
                rw [hb]
                by_cases c24 : m.cnt ≤ 24
                · have := of_ms (c := true) hf.al hf.nm hf.dp fun _ => c24
                  have e3 : msQ true (memQ true many' 3) (.tuple (msD m)) = true := by
                    show ((!true || decide ((msD m).length ≤ 24)) && (msD m).all (memQ true many' 3)) = true
                    have hl := m.len_le
                    rw [List.all_eq_true.mpr this, msD_len, decide_eq_true (by omega)]
                    rfl
                  rw [e3] at c3
                  cases c3
                · have hl := m.no_le
                  unfold okCnt
                  by_cases n13 : m.no < 13
                  · rw [decide_eq_false (show ¬ m.cnt - m.no < 13 by omega), Bool.false_and, Bool.and_false]
                  · rw [decide_eq_false n13, Bool.false_and]
              · exact e
            rw [e] at q
            exact iteTT rfl (q _ sm1)
          | true =>
            refine iteFF rfl ?_
            cases d1 with
            | tuple ms =>
              have c3 : ((!true || decide (ms.length ≤ 24)) && ms.all (memQ true many 3)) = true := c3
              rw [Bool.and_eq_true, List.all_eq_true] at c3
              obtain ⟨m0, rfl, a0, n0, dp0⟩ := ms_of (mem_of 3) ms c3.2
              obtain ⟨m, em, hf, hb⟩ : ∃ m, msD m0 = msD m ∧ MsFit many 3 m ∧ b = okCnt many m := by
                rcases hc with ⟨many', m, e, h2, h3, hf, hb⟩ | ⟨hn, _⟩
                · have e0 : PyData.int (many : Int) = .int (many' : Int) := (List.cons.inj (PyData.tuple.inj e)).1
                  have e1 : PyData.tuple (msD m0) = .tuple (msD m) := (List.cons.inj (List.cons.inj (PyData.tuple.inj e)).2).1
                  have e2 : many' = many := by have := PyData.int.inj e0; omega
                  subst e2
                  exact ⟨m, PyData.tuple.inj e1, hf, hb⟩
                · exact absurd ⟨many, m0, rfl, by omega, by omega, a0, n0, dp0⟩ hn
              rw [em] at h1 w1 hwr
              cases h1 with
              | @tup p1 xs1 ds1 hp1 hds1 =>
                have hms : MsAt K H1 m xs1 := MsAt.of (dpall_of_dq (ms_nodict m) (dqall_same sm1 hds1)) hf.al
                have hcw := cnt_weight m
                have hwm : PyData.weightAll (msD m) + 1 ≤ PyData.weightAll [.int (many : Int), .tuple (msD m)] := w1
                refine ⟨.ref p, rfl, p, p1, xs1, many, m, rfl, same_sqt sm1 hp, same_sqt sm1 hp1, hms, by omega, by omega, hf, by omega, fun H2 x sm2 hx => ?_⟩
                rw [← hb] at hx
                have := q H2 (sm1.trans sm2)
                rcases hx with ⟨rfl, hx⟩ | ⟨z, rfl, hx⟩
                · rw [hx] at this
                  exact ⟨rfl, this⟩
                · rw [hx] at this
                  exact ⟨rfl, this⟩
            | _ => cases c3
      · refine iteTT (by rw [hlx]; simp; omega) ?_
        have e : b = false := no fun ⟨many, m, e, _⟩ => by
          have := PyData.tuple.inj e
          subst this
          exact c rfl
        rw [e] at q
        exact q _ (Same.refl _)
    | _ =>
      have e : b = false := no fun ⟨many, m, e, _⟩ => by cases e
      rw [e] at q
      exact iteTT rfl (iteTT rfl (q _ (Same.refl _)))
end
end NG

namespace NG
open PySem PySem.Spec PyProof.Rows L2
def oV : Option Int → V
  | none => .non
  | some i => .int i
def loB : Option Int → Int → Bool
  | none, _ => true
  | some a, i => decide (a ≤ i)
def hiB : Option Int → Int → Bool
  | none, _ => true
  | some b, i => decide (i ≤ b)
def boQ (lo hi : Option Int) : PyData → Bool
  | .int i => loB lo i && hiB hi i
  | _ => false
theorem bo_in (a b : Int) (d : PyData) : boQ (some a) (some b) d = inD a b d := by cases d <;> rfl
theorem bo_any (d : PyData) : boQ none none d = isInt d := by cases d <;> rfl
theorem bo_nat (d : PyData) : boQ (some 0) none d = natQ d := by
  cases d <;> first | rfl | exact Bool.and_true _
def spLNum (K : PySem.W.Frag) : Sp := fun vs H Q _ => ∃ (v : V) (lo hi : Option Int) (d : PyData), vs = [v, oV lo, oV hi] ∧ Dq K H v d ∧ Q (.bl (boQ lo hi d)) H
def spLMem (K : PySem.W.Frag) (n : Nat) : Sp := fun vs H Q _ => ∃ (v : V) (many k : Nat) (d : PyData), vs = [v, .int (many : Int), .int (4 - (k : Int))] ∧ k < n ∧ k ≤ 3 ∧ many ≤ 3 ∧ Dq K H v d ∧ d.weight ≤ 100000 ∧ ∀ H', Same H H' → Q (.bl (memQ false many k d)) H'
theorem letter_in (c : Nat) : ((!decide ([c] < ("a" : Str).cps.toList)) && !decide (("z" : Str).cps.toList < [c])) = decide (c ∈ ("abcdefghijklmnopqrstuvwxyz" : Str).cps.toList) := by
  have e1 : ("a" : Str).cps.toList = [97] := rfl
  have e2 : ("z" : Str).cps.toList = [122] := rfl
  have e3 : ("abcdefghijklmnopqrstuvwxyz" : Str).cps.toList = List.range' 97 26 := by decide
  have l1 : ∀ a b : Nat, ([a] < [b]) ↔ a < b := fun a b => by
    rw [List.cons_lt_cons_iff]
    simp
  rw [e1, e2, e3]
  rw [Bool.eq_iff_iff]
  simp only [Bool.and_eq_true, Bool.not_eq_true', decide_eq_false_iff_not, decide_eq_true_eq, l1, List.mem_range'_1]
  omega
section
variable {P : Program} {w : World} {K : PySem.W.Frag} {mg : Str → Option Value} {base : Heap}
theorem ok_lnum {f : Addr} {fd : FuncData} (F : Fun K "_law_is_number" "_law_is_number" s_L_is_number f fd) (gF : mg "_law_is_number" = some (.ref f)) (b : Binds K fd ["_law_piece", "_law_low", "_law_high"] []) (B : Bl mg) (n_bool : mg "bool" = none) : Cal P w K mg base 1 "_law_is_number" (spLNum K) := by
  refine ⟨f, fd, _, F.ok sc_L_is_number (fun vs H Q E h => ?_) (fun cdv A outer s H vs Q E hr h => ?_), gF, F.kp, b⟩
  · obtain ⟨_, _, _, _, rfl, _⟩ := h
    rfl
  · obtain ⟨v, lo, hi, d, rfl, hd, q⟩ := h
    refine ⟨_, (pss_cons (ps_if (PW.pt (pw_or (pt_not (pt_val (pe_callB call_isi (by rfl) B.isinstance (by decide +kernel) (pa_cons (pv 0) (pa_cons (pe_bltn (v := .ty "int") (by rfl) B.int (by decide +kernel) rfl) pa_nil))))) (pw_or1 (pt_val (pe_callB call_isi (by rfl) B.isinstance (by decide +kernel) (pa_cons (pv 0) (pa_cons (pe_bltn (v := .ty "bool") (by rfl) n_bool (by decide +kernel) rfl) pa_nil))))))) (pss_one (ps_ret pe_bl)) pss_nil) (pss_one (ps_ret (pe_and (pe_or (pe_cmpR op_isN (pv 1) pe_non (nomark _)) (pe_one (pe_cmpR op_ge (pv 0) (pv 1) (nomark _)))) (pe_one (pe_or (pe_cmpR op_isN (pv 2) pe_non (nomark _)) (pe_one (pe_cmpR op_le (pv 0) (pv 2) (nomark _))))))))), ?_⟩
    refine ⟨v, rfl, v, .ty "int", _, _, _, rfl, .ty _, Dq.tyx hd, kit_ty (kit_int d), _, rfl, ?_⟩
    cases hd with
    | int x =>
      refine iteFF rfl ⟨.int x, rfl, .int x, .ty "bool", _, _, _, rfl, .ty _, Dq.tyx (H := H) (K := K) (.int x), kit_ty (kit_bool _), _, rfl, iteFF rfl ?_⟩
      cases lo with
      | none =>
        refine ⟨_, rfl, rfl, _, rfl, iteTT rfl ⟨_, rfl, iteTT rfl ?_⟩⟩
        cases hi with
        | none => exact ⟨_, rfl, rfl, _, rfl, iteTT rfl q⟩
        | some b2 => exact ⟨_, rfl, rfl, _, rfl, iteFF rfl ⟨_, rfl, _, rfl, _, _, rfl, rfl, q⟩⟩
      | some a =>
        have q : Q (.bl (decide (a ≤ x) && hiB hi x)) H := q
        refine ⟨_, rfl, rfl, _, rfl, iteFF rfl ⟨_, rfl, _, rfl, _, _, rfl, rfl, _, rfl, iteD (fun c => ?_) (fun c => ?_)⟩⟩
        · rw [decide_eq_true c, Bool.true_and] at q
          cases hi with
          | none => exact ⟨_, rfl, rfl, _, rfl, iteTT rfl q⟩
          | some b2 => exact ⟨_, rfl, rfl, _, rfl, iteFF rfl ⟨_, rfl, _, rfl, _, _, rfl, rfl, q⟩⟩
        · rw [decide_eq_false c, Bool.false_and] at q
          have e : V.bl (decide (a ≤ x)) = V.bl false := by rw [decide_eq_false c]
          exact e ▸ q
    | bl x => exact iteFF rfl ⟨.bl x, rfl, .bl x, .ty "bool", _, _, _, rfl, .ty _, Dq.tyx (H := H) (K := K) (.bl x), kit_ty (kit_bool _), _, rfl, iteTT rfl q⟩
    | _ => exact iteTT rfl (iteTT rfl q)
end
end NG

namespace NG
open PySem PySem.Spec PyProof.Rows L2
theorem kit_str' (d : PyData) : kitB (tyd d) "str" = some (match d with | .str _ => true | _ => false) := kit_str d
theorem sub3 {d3 d4 d5 : V} {d0 d1 d2 d6 : V} : cutV [d0, d1, d2, d6, d3, d4, d5, d6] (some 4) (some 7) = [d3, d4, d5] := rfl
section
variable {P : Program} {w : World} {K : PySem.W.Frag} {mg : Str → Option Value} {base : Heap}
theorem ok_lmem {f : Addr} {fd : FuncData} (F : Fun K "_law_is_member" "_law_is_member" s_L_is_member f fd) (gF : mg "_law_is_member" = some (.ref f)) (b : Binds K fd ["_law_piece", "_law_many", "_law_deep"] []) (B : Bl mg) (c_is_doubter : Cal P w K mg base 19 "is_doubter" (spIsDb K)) (c_L_is_number : Cal P w K mg base 1 "_law_is_number" (spLNum K)) : ∀ n, Cal P w K mg base (20 + n) "_law_is_member" (spLMem K n) := by
  intro n
  induction n with
  | zero =>
    refine cal_never F gF b fun vs H Q E h => ?_
    obtain ⟨_, _, _, _, _, hk, _⟩ := h
    omega
  | succ n c_L_is_member =>
  rw [show 20 + (n + 1) = 20 + n + 1 from by omega]
  refine ⟨f, fd, _, F.ok sc_L_is_member (fun vs H Q E h => ?_) (fun cdv A outer s H vs Q E hr h => ?_), gF, F.kp, b⟩
  · obtain ⟨_, _, _, _, rfl, _⟩ := h
    rfl
  · obtain ⟨v, many, k, d, rfl, hk, hk3, hm3, hd, hw, q⟩ := h
    refine ⟨_, (pss_cons (ps_if (PW.pt (pw_or (pt_not (pt_val (pe_callB call_isi (by rfl) B.isinstance (by decide +kernel) (pa_cons (pv 0) (pa_cons (pe_bltn (v := .ty "tuple") (by rfl) B.tuple (by decide +kernel) rfl) pa_nil))))) (pw_or (pt_cmpR (op_eqE hr.units) (pv 0) (pe_tup pa_nil) (nomark _)) (pw_or1 (pt_not (pt_val (pe_callB call_isi (by rfl) B.isinstance (by decide +kernel) (pa_cons (pe_ix ix_tup (pv 0) pe_int (fun _ _ => rfl)) (pa_cons (pe_bltn (v := .ty "str") (by rfl) B.str (by decide +kernel) rfl) pa_nil))))))))) (pss_one (ps_ret pe_bl)) pss_nil) (pss_cons (ps_if (pt_cmpR op_eq (pe_ix ix_tup (pv 0) pe_int (fun _ _ => rfl)) pe_str (nomark _)) (pss_cons (ps_if (PW.pt (pw_or (pt_cmpR op_ne (pe_callB call_len_seq (by rfl) B.len PySem.boot_len (pa_cons (pv 0) pa_nil)) pe_int (nomark _)) (pw_or (pt_cmpR op_gt (pv 2) pe_int (nomark _)) (pw_or (pt_not (pt_val (pe_callB call_isi (by rfl) B.isinstance (by decide +kernel) (pa_cons (pe_ix ix_tup (pv 0) pe_int (fun _ _ => rfl)) (pa_cons (pe_bltn (v := .ty "str") (by rfl) B.str (by decide +kernel) rfl) pa_nil))))) (pw_or1 (pt_not (pt_val (pe_callB call_isi (by rfl) B.isinstance (by decide +kernel) (pa_cons (pe_ix ix_tup (pv 0) pe_int (fun _ _ => rfl)) (pa_cons (pe_bltn (v := .ty "tuple") (by rfl) B.tuple (by decide +kernel) rfl) pa_nil)))))))))) (pss_one (ps_ret pe_bl)) pss_nil) (pss_cons (ps_if (PW.pt (pw_or (pt_not (pt_chain op_lt op_lt pe_int (pe_callB call_len_str (by rfl) B.len PySem.boot_len (pa_cons (pe_ix ix_tup (pv 0) pe_int (fun _ _ => rfl)) pa_nil)) pe_int)) (pw_or1 (pt_not (pt_val (pe_callB (cr_all rfl) (by rfl) B.all (by decide +kernel) (pa_cons (pe_lc (own := [("_law_mark", 3)]) rfl sc_L_is_member.nd (pi_str (pe_ix ix_tup (pv 0) pe_int (fun _ _ => rfl))) (blkOk_by (N := N_L_is_member) (sc := defScope s_L_is_member) (by decide +kernel)) (fun _ _ _ _ _ => pg_name (i := 3) sc_L_is_member.nd rfl (.inl rfl)) (fun _ _ _ _ _ => pts_nil) (fun _ _ _ _ _ => pe_chain op_le_str op_le_str pe_str (pv 3) pe_str)) pa_nil))))))) (pss_one (ps_ret pe_bl)) pss_nil) (pss_one (ps_ret (pe_callB (cr_all rfl) (by rfl) B.all (by decide +kernel) (pa_cons (pe_lc (own := [("_law_lodger", 4)]) rfl sc_L_is_member.nd (pi_tup (pe_ix ix_tup (pv 0) pe_int (fun _ _ => rfl))) (blkOk_by (N := N_L_is_member) (sc := defScope s_L_is_member) (by decide +kernel)) (fun _ _ _ _ _ => pg_name (i := 4) sc_L_is_member.nd rfl (.inl rfl)) (fun _ _ _ _ _ => pts_nil) (fun _ _ _ _ _ => pe_c c_L_is_member hr (by omega) (by rfl) (pa_cons (pv 4) (pa_cons (pv 1) (pa_cons (pe_op op_add (pv 2) pe_int) pa_nil))))) pa_nil)))))) pss_nil) (pss_cons (ps_if (PW.pt (pw_or (pt_cmpR op_ne (pe_ix ix_tup (pv 0) pe_int (fun _ _ => rfl)) pe_str (nomark _)) (pw_or (pt_cmpR op_ne (pe_callB call_len_seq (by rfl) B.len PySem.boot_len (pa_cons (pv 0) pa_nil)) pe_int (nomark _)) (pw_or (pt_not (pt_val (pe_c c_is_doubter hr (by omega) (by rfl) (pa_cons (pe_ix ix_tup (pv 0) pe_int (fun _ _ => rfl)) (pa_cons (pv 1) pa_nil))))) (pw_or1 (pt_not (pt_val (pe_callB call_isi (by rfl) B.isinstance (by decide +kernel) (pa_cons (pe_ix ix_tup (pv 0) pe_int (fun _ _ => rfl)) (pa_cons (pe_bltn (v := .ty "tuple") (by rfl) B.tuple (by decide +kernel) rfl) pa_nil)))))))))) (pss_one (ps_ret pe_bl)) pss_nil) (pss_cons (ps_if (PW.pt (pw_or (pt_cmpR op_ne (pe_callB call_len_seq (by rfl) B.len PySem.boot_len (pa_cons (pe_ix ix_tup (pv 0) pe_int (fun _ _ => rfl)) pa_nil)) pe_int (nomark _)) (pw_or1 (pt_not (pt_val (pe_callB (cr_all rfl) (by rfl) B.all (by decide +kernel) (pa_cons (pe_lc (own := [("_law_part", 5)]) rfl sc_L_is_member.nd (pi_tup (pe_ix ix_tup (pv 0) pe_int (fun _ _ => rfl))) (blkOk_by (N := N_L_is_member) (sc := defScope s_L_is_member) (by decide +kernel)) (fun _ _ _ _ _ => pg_name (i := 5) sc_L_is_member.nd rfl (.inl rfl)) (fun _ _ _ _ _ => pts_nil) (fun _ _ _ _ _ => pe_c c_L_is_number hr (by omega) (by rfl) (pa_cons (pv 5) (pa_cons (pe_un un_neg pe_int) (pa_cons pe_int pa_nil))))) pa_nil))))))) (pss_one (ps_ret pe_bl)) pss_nil) (pss_cons (ps_if (PW.pt (pw_or (pt_not (pt_val (pe_c c_L_is_number hr (by omega) (by rfl) (pa_cons (pe_ix ix_tup (pv 0) pe_int (fun _ _ => rfl)) (pa_cons pe_int (pa_cons (pe_op op_pow pe_int pe_int) pa_nil)))))) (pw_or1 (pt_not (pt_val (pe_c c_L_is_number hr (by omega) (by rfl) (pa_cons (pe_ix ix_tup (pv 0) pe_int (fun _ _ => rfl)) (pa_cons pe_non (pa_cons pe_non pa_nil))))))))) (pss_one (ps_ret pe_bl)) pss_nil) (pss_one (ps_ret (pe_callB (cr_all rfl) (by rfl) B.all (by decide +kernel) (pa_cons (pe_lc (own := [("_law_part", 5)]) rfl sc_L_is_member.nd (pi_tup (pe_slice sl_tupA (pv 0) (po_some pe_int) (po_some pe_int))) (blkOk_by (N := N_L_is_member) (sc := defScope s_L_is_member) (by decide +kernel)) (fun _ _ _ _ _ => pg_name (i := 5) sc_L_is_member.nd rfl (.inl rfl)) (fun _ _ _ _ _ => pts_nil) (fun _ _ _ _ _ => pe_c c_L_is_number hr (by omega) (by rfl) (pa_cons (pv 5) (pa_cons pe_int (pa_cons pe_non pa_nil))))) pa_nil))))))))), ?_⟩
    have one_le : 1 ≤ sizeLine := by decide
    refine ⟨v, rfl, v, .ty "tuple", _, _, _, rfl, .ty _, Dq.tyx hd, kit_ty (kit_tup d), _, rfl, ?_⟩
    have qf : (∀ {x r}, d ≠ .tuple (.str x :: r)) → Q (.bl false) H := fun h => by
      have := q H (Same.refl _)
      have e : memQ false many k d = false := by
        have e1 : isHw d = false := by
          cases e : isHw d with
          | false => rfl
          | true => obtain ⟨r, rfl⟩ := isHw_of e; exact absurd rfl h
        have e2 : oneP many d = false := wdV_ne (fun e => by obtain ⟨r, rfl⟩ := wdV_eq e; exact absurd rfl h)
        cases k <;> (unfold memQ; rw [e1]; exact e2)
      rw [e] at this
      exact this
    cases hd with
    | @tup p xs ds hp hds =>
      have hlx := dqall_len hds
      refine iteFF rfl ⟨_, rfl, (by show 0 ≤ sizeLine; decide), fun t nt => ?_⟩
      have st : Same H (upd H t (.tup [])) := same_new nt
      have et : (upd H t (.tup [])) t = some (.tup []) := upd_same
      generalize upd H t (.tup []) = H0 at st et ⊢
      have hp0 := same_sqt st hp
      refine ⟨p, t, xs, rfl, rfl, hp0, SqT.of et, _, rfl, ?_⟩
      have qf0 : (∀ {x r}, PyData.tuple ds ≠ .tuple (.str x :: r)) → Q (.bl false) H0 := fun h => by
        have := q H0 st
        have e : memQ false many k (.tuple ds) = false := by
          have e1 : isHw (.tuple ds) = false := by
            cases e : isHw (.tuple ds) with
            | false => rfl
            | true => obtain ⟨r, e3⟩ := isHw_of e; exact absurd e3 h
          have e2 : oneP many (.tuple ds) = false := wdV_ne (fun e => by obtain ⟨r, e3⟩ := wdV_eq e; exact absurd e3 h)
          cases k <;> (unfold memQ; rw [e1]; exact e2)
        rw [e] at this
        exact this
      cases hds with
      | nil => exact iteTT rfl (iteTT rfl (qf0 fun e => by cases e))
      | @cons x0 xs d0 ds h0 hr0 =>
        have h0 := dq_same st h0
        refine iteFF rfl ⟨.ref p, rfl, p, _, 0, _, rfl, rfl, hp0, at_of (j := 0) rfl rfl, x0, .ty "str", _, _, _, rfl, .ty _, Dq.tyx h0, kit_ty (kit_str d0), _, rfl, ?_⟩
        cases h0 with
        | str x =>
          have hr0 := dqall_same st hr0
          have hwr : (PyData.str x).weight + 1 + PyData.weightAll ds ≤ 100000 := hw
          refine iteFF rfl ⟨.ref p, rfl, p, _, 0, _, rfl, rfl, hp0, at_of (j := 0) rfl rfl, rfl, _, rfl, ?_⟩
          have hlx2 : xs.length = ds.length := dqall_len hr0
          by_cases c : x = "house"
          · subst c
            have hh : isHw (.tuple (.str "house" :: ds)) = true := by
              show decide (("house" : Str) = "house") = true
              decide
            have no : memQ false many k (.tuple (.str "house" :: ds)) = false → ∀ H', Same H H' → Q (.bl false) H' := fun e H' s => by
              have := q H' s
              rw [e] at this
              exact this
            refine iteTT rfl ⟨.ref p, rfl, p, _, rfl, .inr hp0, rfl, _, rfl, ?_⟩
            by_cases c2 : ds.length = 2
            · obtain ⟨nm, ms, v1, v2, rfl, rfl, h1, h2⟩ := dq_two hr0 c2
              refine iteFF rfl ⟨_, rfl, _, _, rfl, rfl, _, rfl, ?_⟩
              cases k with
              | zero =>
                refine iteTT (decide_eq_true (by omega)) (iteTT rfl (no ?_ _ st))
                unfold memQ
                rw [if_pos hh]
              | succ k =>
                have em : memQ false many (k + 1) (.tuple [.str "house", nm, ms]) = (nameQ nm && msQ false (memQ false many k) ms) := by
                  unfold memQ
                  rw [if_pos hh]
                  rfl
                rw [em] at q no
                refine iteFF (decide_eq_false (by omega)) ⟨.ref p, rfl, p, _, 1, _, rfl, rfl, hp0, at_of (j := 1) rfl rfl, v1, .ty "str", _, _, _, rfl, .ty _, Dq.tyx h1, kit_ty (kit_str nm), _, rfl, ?_⟩
                cases h1 with
                | str z =>
                  have hwz : z.cps.size + 1 + (ms.weight + 1 + 0) ≤ 100000 := by
                    have : (PyData.str ("house" : Str)).weight + 1 + (z.cps.size + 1 + (ms.weight + 1 + 0)) ≤ 100000 := hw
                    omega
                  refine iteFF rfl ⟨.ref p, rfl, p, _, 2, _, rfl, rfl, hp0, at_of (j := 2) rfl rfl, v2, .ty "tuple", _, _, _, rfl, .ty _, Dq.tyx h2, kit_ty (kit_tup ms), _, rfl, ?_⟩
                  cases h2 with
                  | @tup p2 xs2 ms hp2 hms2 =>
                    have hl2 := dqall_len hms2
                    have hlw := weight_len ms
                    have hwm : z.cps.size + 1 + (PyData.weightAll ms + 1 + 0) ≤ 100000 := hwz
                    refine iteFF rfl ⟨.ref p, rfl, p, _, 1, _, rfl, rfl, hp0, at_of (j := 1) rfl rfl, ?_⟩
                    have hnq : nameQ (.str z) = ((decide (1 ≤ z.length) && decide (z.length ≤ 8)) && (z.cps.toList.all fun c => decide (c ∈ ("abcdefghijklmnopqrstuvwxyz" : Str).cps.toList))) := rfl
                    have hz : z.length ≤ 100000 := by show z.cps.size ≤ 100000; omega
                    have q : ∀ H', Same H H' → Q (.bl (nameQ (.str z) && ((!false || decide (ms.length ≤ 24)) && ms.all (memQ false many k)))) H' := q
                    refine ⟨z, rfl, Nat.le_trans hz (by decide), _, _, rfl, rfl, _, rfl, ?_⟩
                    by_cases l1 : 1 ≤ z.length
                    · refine iteTT (decide_eq_true (by omega)) ⟨_, _, rfl, rfl, _, rfl, ?_⟩
                      by_cases l8 : z.length ≤ 8
                      · refine iteFF (by rw [decide_eq_true (show ((z.length : Nat) : Int) < 9 by omega)]; rfl) ?_
                        refine ⟨.ref p, rfl, p, _, 1, _, rfl, rfl, hp0, at_of (j := 1) rfl rfl, z, rfl, fun D nD => lc_it walk_str (fun i H' => Same H0 H' ∧ H' D = some (.lst (((z.cps.toList.map fun c => decide (c ∈ ("abcdefghijklmnopqrstuvwxyz" : Str).cps.toList)).take i).map V.bl))) ⟨same_new nD, upd_same⟩ (fun i H' _ h => trivial) ?_ ?_⟩
                        · rintro i y H2 H3 hi ⟨sm, hD⟩ ⟨rfl, c, hc, rfl⟩
                          have hlc := letter_in c
                          have hlen : (z.cps.toList.map fun c => decide (c ∈ ("abcdefghijklmnopqrstuvwxyz" : Str).cps.toList)).length ≤ 8 := by
                            rw [List.length_map]
                            have : z.cps.toList.length = z.length := Array.length_toList
                            omega
                          have fin : ∀ b : Bool, b = decide (c ∈ ("abcdefghijklmnopqrstuvwxyz" : Str).cps.toList) → ∃ us, H3 D = some (.lst us) ∧ us.length < sizeLine ∧ (Same H0 (upd H3 D (.lst (us ++ [V.bl b]))) ∧ (upd H3 D (.lst (us ++ [V.bl b]))) D = some (.lst (((z.cps.toList.map fun c => decide (c ∈ ("abcdefghijklmnopqrstuvwxyz" : Str).cps.toList)).take (i + 1)).map V.bl))) := fun b e => by
                            subst e
                            refine ⟨_, hD, ?_, fun b' o eb => ?_, ?_⟩
                            · rw [List.length_map, List.length_take]
                              exact small1000 (by omega)
                            · rw [upd_ne (ne_of_none eb nD)]
                              exact sm _ _ eb
                            · rw [upd_same, List.take_add_one, List.getElem?_map, Array.getElem?_toList, hc, List.map_append]
                              rfl
                          refine ⟨rfl, tYes_in ⟨_, rfl, _, _, rfl, rfl, _, rfl, ?_⟩⟩
                          cases ha : (!decide ([c] < ("a" : Str).cps.toList)) with
                          | false =>
                            rw [ha, Bool.false_and] at hlc
                            exact iteFF rfl (fin _ hlc)
                          | true =>
                            rw [ha, Bool.true_and] at hlc
                            exact iteTT rfl ⟨_, _, rfl, rfl, fin _ hlc⟩
                        · rintro H2 ⟨sm, hD⟩
                          rw [List.take_of_length_le (by rw [List.length_map, Array.length_toList]; exact Nat.le_refl _)] at hD
                          refine ⟨D, _, rfl, SqL.of hD, ?_⟩
                          have hnq2 : nameQ (.str z) = (z.cps.toList.map fun c => decide (c ∈ ("abcdefghijklmnopqrstuvwxyz" : Str).cps.toList)).all id := by
                            rw [hnq, decide_eq_true l1, decide_eq_true l8, List.all_map]
                            rfl
                          rw [← hnq2]
                          refine ⟨_, rfl, ?_⟩
                          have sm2 := st.trans sm
                          cases hb : nameQ (.str z) with
                          | false =>
                            rw [hb] at q
                            exact iteTT rfl (q _ sm2)
                          | true =>
                            rw [hb, Bool.true_and] at q
                            have q : ∀ H', Same H H' → Q (.bl (ms.all (memQ false many k))) H' := q
                            have hp22 := same_sqt sm hp2
                            refine iteFF rfl ⟨.ref p, rfl, p, _, 2, _, rfl, rfl, same_sqt sm hp0, at_of (j := 2) rfl rfl, p2, rfl, ⟨_, hp22⟩, fun D2 nD2 => lc_tup (xs := xs2) (fun i H' => Same H2 H' ∧ H' D2 = some (.lst (((ms.map (memQ false many k)).take i).map V.bl))) ⟨same_new nD2, upd_same⟩ (fun i H' _ h => same_sqt h.1 hp22) ?_ ?_⟩
                            · rintro i y H4 hy ⟨sm4, hD4⟩
                              have hi := (List.getElem?_eq_some_iff.mp hy).1
                              obtain ⟨dd, hdd, hdp⟩ := dqall_get hms2 hy
                              have hwd := weight_in (List.mem_of_getElem? hdd)
                              refine ⟨rfl, tYes_in ⟨_, rfl, _, rfl, _, rfl, _, _, rfl, rfl, y, many, k, dd, ?_, by omega, by omega, hm3, dq_same (sm.trans sm4) hdp, by omega, fun H5 sm5 => ⟨_, sm5 _ _ hD4, ?_, fun b' o eb => ?_, ?_⟩⟩⟩
                              · show [y, V.int (many : Int), V.int (4 - ((k + 1 : Nat) : Int) + 1)] = _
                                rw [show 4 - ((k + 1 : Nat) : Int) + 1 = 4 - (k : Int) by omega]
                              · rw [List.length_map, List.length_take]
                                exact small2e5 (by omega)
                              · rw [upd_ne (ne_of_none eb nD2)]
                                exact sm5 _ _ (sm4 _ _ eb)
                              · rw [upd_same, List.take_add_one, List.getElem?_map, hdd, List.map_append]
                                rfl
                            · rintro H4 ⟨sm4, hD4⟩
                              rw [List.take_of_length_le (by rw [List.length_map]; omega)] at hD4
                              refine ⟨D2, _, rfl, SqL.of hD4, ?_⟩
                              have := q H4 (sm2.trans sm4)
                              rw [List.all_map]
                              exact this
                      · have e : nameQ (.str z) = false := by rw [hnq, decide_eq_false l8, Bool.and_false, Bool.false_and]
                        rw [e, Bool.false_and] at q
                        exact iteTT (by rw [decide_eq_false (show ¬ ((z.length : Nat) : Int) < 9 by omega)]; rfl) (iteTT rfl (q _ st))
                    · have e : nameQ (.str z) = false := by rw [hnq, decide_eq_false l1, Bool.false_and, Bool.false_and]
                      rw [e, Bool.false_and] at q
                      refine iteFF (decide_eq_false (by omega)) ⟨_, rfl, iteTT rfl (iteTT rfl (q _ st))⟩
                  | _ =>
                    refine iteTT rfl (no ?_ _ st)
                    exact Bool.and_false _
                | _ => exact iteTT rfl (iteTT rfl (no rfl _ st))
            · refine iteTT (by rw [List.length_cons, hlx2]; simp; omega) (iteTT rfl (no ?_ _ st))
              cases k with
              | zero => unfold memQ; rw [if_pos hh]
              | succ k =>
                unfold memQ
                rw [if_pos hh]
                exact hsR_len (by rw [List.length_cons]; omega)
          · have hh : isHw (.tuple (.str x :: ds)) = false := decide_eq_false c
            have em : memQ false many k (.tuple (.str x :: ds)) = (decide (x = "one") && oneQ many ds) := by
              cases k <;> (unfold memQ; rw [hh]; rfl)
            rw [em] at q
            refine iteFF (by simp [c]) ⟨.ref p, rfl, p, _, 0, _, rfl, rfl, hp0, at_of (j := 0) rfl rfl, rfl, _, rfl, ?_⟩
            by_cases c1 : x = "one"
            · subst c1
              have q : ∀ H', Same H H' → Q (.bl (oneQ many ds)) H' := q
              refine iteFF rfl ⟨.ref p, rfl, p, _, rfl, .inr hp0, rfl, _, rfl, ?_⟩
              by_cases c7 : ds.length = 7
              · obtain ⟨d0, d1, d2, d3, d4, d5, d6, v0, v1, v2, v3, v4, v5, v6, rfl, rfl, h0, h1, h2, h3, h4, h5, h6⟩ := dq_eight hr0 c7
                have q : ∀ H', Same H H' → Q (.bl ((inD 1 1000000000000 d2 && isInt d6) && ((natQ d3 && (natQ d4 && natQ d5)) && (regsQ d1 && dbQ many d0)))) H' := q
                have w0 := weight_in (d := d0) (ds := [d0, d1, d2, d3, d4, d5, d6]) (by simp)
                refine iteFF rfl ⟨.ref p, rfl, p, _, 1, _, rfl, rfl, hp0, rfl, _, rfl, v0, many, d0, rfl, hm3, h0, dnOk_w (by omega), fun H1 sm1 => ⟨_, rfl, ?_⟩⟩
                have s1 := st.trans sm1
                have hp1 := same_sqt sm1 hp0
                cases e0 : dbQ many d0 with
                | false =>
                  rw [e0, Bool.and_false, Bool.and_false, Bool.and_false] at q
                  exact iteTT rfl (iteTT rfl (q _ s1))
                | true =>
                  rw [e0, Bool.and_true] at q
                  have h1 := dq_same sm1 h1
                  refine iteFF rfl ⟨.ref p, rfl, p, _, 2, _, rfl, rfl, hp1, rfl, v1, .ty "tuple", _, _, _, rfl, .ty _, Dq.tyx h1, kit_ty (kit_tup d1), _, rfl, ?_⟩
                  cases h1 with
                  | @tup p3 xs3 ds3 hp3 hds3 =>
                    have hl3 := dqall_len hds3
                    have hreg : regsQ (.tuple ds3) = (decide (ds3.length = 4) && ds3.all (inD (-1000) 1000)) := rfl
                    refine iteFF rfl ⟨.ref p, rfl, p, _, 2, _, rfl, rfl, hp1, rfl, p3, _, rfl, .inr hp3, rfl, _, rfl, ?_⟩
                    by_cases c4 : ds3.length = 4
                    · refine iteFF (by rw [hl3, c4]; rfl) ⟨.ref p, rfl, p, _, 2, _, rfl, rfl, hp1, rfl, p3, rfl, ⟨_, hp3⟩, fun D nD => lc_tup (xs := xs3) (fun i H' => Same H1 H' ∧ H' D = some (.lst (((ds3.map (inD (-1000) 1000)).take i).map V.bl))) ⟨same_new nD, upd_same⟩ (fun i H' _ h => same_sqt h.1 hp3) ?_ ?_⟩
                      · rintro i y H2 hy ⟨sm, hD⟩
                        have hi := (List.getElem?_eq_some_iff.mp hy).1
                        obtain ⟨dd, hdd, hdp⟩ := dqall_get hds3 hy
                        refine ⟨rfl, tYes_in ⟨_, rfl, _, rfl, y, some (-1000), some 1000, dd, rfl, dq_same sm hdp, _, hD, ?_, fun b' o eb => ?_, ?_⟩⟩
                        · rw [List.length_map, List.length_take]
                          exact small1000 (by omega)
                        · rw [upd_ne (ne_of_none eb nD)]
                          exact sm _ _ eb
                        · rw [bo_in, upd_same, List.take_add_one, List.getElem?_map, hdd, List.map_append]
                          rfl
                      · rintro H2 ⟨sm, hD⟩
                        rw [List.take_of_length_le (by rw [List.length_map]; omega)] at hD
                        refine ⟨D, _, rfl, SqL.of hD, ?_⟩
                        have s2 := s1.trans sm
                        have hp2 := same_sqt sm hp1
                        have smm := sm1.trans sm
                        have e1 : (ds3.map (inD (-1000) 1000)).all id = regsQ (.tuple ds3) := by
                          rw [hreg, decide_eq_true c4, List.all_map]
                          rfl
                        rw [e1]
                        refine ⟨_, rfl, ?_⟩
                        cases e2 : regsQ (.tuple ds3) with
                        | false =>
                          rw [e2, Bool.and_false, Bool.and_false] at q
                          exact iteTT rfl (q _ s2)
                        | true =>
                          rw [e2, Bool.and_true] at q
                          refine iteFF rfl ⟨.ref p, rfl, p, _, 3, _, rfl, rfl, hp2, rfl, 10, 12, rfl, rfl, ⟨by decide, by decide, by decide⟩, v2, some 1, some 1000000000000, d2, rfl, dq_same smm h2, _, rfl, ?_⟩
                          rw [bo_in]
                          cases e3 : inD 1 1000000000000 d2 with
                          | false =>
                            rw [e3] at q
                            exact iteTT rfl (iteTT rfl (q _ s2))
                          | true =>
                            rw [e3, Bool.true_and] at q
                            refine iteFF rfl ⟨.ref p, rfl, p, _, 7, _, rfl, rfl, hp2, rfl, v6, none, none, d6, rfl, dq_same smm h6, _, rfl, ?_⟩
                            rw [bo_any]
                            cases e4 : isInt d6 with
                            | false =>
                              rw [e4] at q
                              exact iteTT rfl (q _ s2)
                            | true =>
                              rw [e4, Bool.true_and] at q
                              refine iteFF rfl ⟨.ref p, rfl, 4, rfl, 7, rfl, ?_⟩
                              refine slA hp2 fun H3 t3 sm3 hp3' => ?_
                              have hp3' : SqT K H3 t3 [v3, v4, v5] := hp3'
                              have hda : DqAll K H3 [v3, v4, v5] [d3, d4, d5] := .cons (dq_same (smm.trans sm3) h3) (.cons (dq_same (smm.trans sm3) h4) (.cons (dq_same (smm.trans sm3) h5) .nil))
                              refine ⟨t3, rfl, ⟨_, hp3'⟩, fun D2 nD2 => lc_tup (xs := [v3, v4, v5]) (fun i H' => Same H3 H' ∧ H' D2 = some (.lst ((([natQ d3, natQ d4, natQ d5]).take i).map V.bl))) ⟨same_new nD2, upd_same⟩ (fun i H' _ h => same_sqt h.1 hp3') ?_ ?_⟩
                              · rintro i y H4 hy ⟨sm4, hD4⟩
                                have hi := (List.getElem?_eq_some_iff.mp hy).1
                                have hi : i < 3 := hi
                                obtain ⟨dd, hdd, hdp⟩ := dqall_get hda hy
                                have hn : [natQ d3, natQ d4, natQ d5][i]? = some (natQ dd) := by
                                  have : [natQ d3, natQ d4, natQ d5] = [d3, d4, d5].map natQ := rfl
                                  rw [this, List.getElem?_map, hdd]
                                  rfl
                                refine ⟨rfl, tYes_in ⟨_, rfl, y, some 0, none, dd, rfl, dq_same sm4 hdp, _, hD4, ?_, fun b' o eb => ?_, ?_⟩⟩
                                · rw [List.length_map, List.length_take]
                                  exact small1000 (by omega)
                                · rw [upd_ne (ne_of_none eb nD2)]
                                  exact sm4 _ _ eb
                                · rw [bo_nat, upd_same, List.take_add_one, hn, List.map_append]
                                  rfl
                              · rintro H4 ⟨sm4, hD4⟩
                                have hD4 : H4 D2 = some (.lst ([natQ d3, natQ d4, natQ d5].map V.bl)) := hD4
                                refine ⟨D2, _, rfl, SqL.of hD4, ?_⟩
                                have := q H4 ((s2.trans sm3).trans sm4)
                                have eq3 : ([natQ d3, natQ d4, natQ d5].all id) = (natQ d3 && (natQ d4 && natQ d5)) := by
                                  simp [Bool.and_assoc]
                                rw [eq3]
                                exact this
                    · rw [hreg, decide_eq_false c4, Bool.false_and, Bool.and_false, Bool.and_false] at q
                      exact iteTT (by rw [hl3]; simp; omega) (iteTT rfl (q _ s1))
                  | _ =>
                    have q : ∀ H', Same H H' → Q (.bl ((inD 1 1000000000000 d2 && isInt d6) && ((natQ d3 && (natQ d4 && natQ d5)) && false))) H' := q
                    rw [Bool.and_false, Bool.and_false] at q
                    exact iteTT rfl (q _ s1)
              · rw [oneQ_len c7] at q
                exact iteTT (by rw [List.length_cons, hlx2]; simp; omega) (iteTT rfl (q _ st))
            · rw [decide_eq_false c1, Bool.false_and] at q
              exact iteTT (by simp [c1]) (iteTT rfl (q _ st))
        | _ => exact iteTT rfl (qf0 fun e => by cases e)
    | _ => exact iteTT rfl (iteTT rfl (qf fun e => by cases e))
end
end NG

namespace NG
open PySem PySem.Spec PyProof.Rows L2
def MqsAt (K : PySem.W.Frag) (H : Hp) : List V → List (List Int × Mk) → Prop
  | [], [] => True
  | v :: vs, x :: xs => MkAt K H x.2 v ∧ MqsAt K H vs xs
  | _, _ => False
theorem MqsAt.imp {K : PySem.W.Frag} {H H' : Hp} (h : ∀ p xs, SqT K H p xs → SqT K H' p xs) : ∀ {vs : List V} {os : List (List Int × Mk)}, MqsAt K H vs os → MqsAt K H' vs os
  | [], [], _ => trivial
  | _ :: _, _ :: _, ⟨x, r⟩ => ⟨x.imp h, MqsAt.imp h r⟩
theorem MqsAt.len {K : PySem.W.Frag} {H : Hp} : ∀ {vs : List V} {os : List (List Int × Mk)}, MqsAt K H vs os → vs.length = os.length
  | [], [], _ => rfl
  | _ :: _, _ :: _, ⟨_, r⟩ => by rw [List.length_cons, List.length_cons, r.len]
theorem MqsAt.app {K : PySem.W.Frag} {H : Hp} : ∀ {us ws : List V} {xs ys : List (List Int × Mk)}, MqsAt K H us xs → MqsAt K H ws ys → MqsAt K H (us ++ ws) (xs ++ ys)
  | [], _, [], _, _, y => y
  | _ :: _, _, _ :: _, _, ⟨x, r⟩, y => ⟨x, MqsAt.app r y⟩
theorem MqsAt.get {K : PySem.W.Frag} {H : Hp} : ∀ {us : List V} {xs : List (List Int × Mk)} {i : Nat} {u : V}, MqsAt K H us xs → us[i]? = some u → ∃ x, xs[i]? = some x ∧ MkAt K H x.2 u
  | [], [], _, _, _, h => by simp at h
  | v :: us, x :: xs, 0, u, ⟨y, r⟩, h => by
    have : v = u := Option.some.inj h
    subst this
    exact ⟨x, rfl, y⟩
  | v :: us, x :: xs, i + 1, u, ⟨y, r⟩, h => MqsAt.get (i := i) r h
section
variable {P : Program} {w : World} {K : PySem.W.Frag} {mg : Str → Option Value} {base : Heap}
theorem ok_due {f : Addr} {fd : FuncData} (F : Fun K "_law_due" "_law_due" s_L_due f fd) (gF : mg "_law_due" = some (.ref f)) (b : Binds K fd ["_law_piece"] []) (B : Bl mg) (c_L_is_number : Cal P w K mg base 1 "_law_is_number" (spLNum K)) (c_L_is_member : Cal P w K mg base 24 "_law_is_member" (spLMem K 4)) (c_L_walk : Cal P w K mg base 5 "_law_walk" (spStands8 K 4)) (c_L_lines : Cal P w K mg base 10 "_law_lines" (spLines8 K 8)) : Cal P w K mg base 25 "_law_due" (spIsHouse K) := by
  refine ⟨f, fd, _, F.ok sc_L_due (fun vs H Q E h => ?_) (fun cdv A outer s H vs Q E hr h => ?_), gF, F.kp, b⟩
  · obtain ⟨_, _, _, rfl, _⟩ := h
    rfl
  · obtain ⟨v, d, b, rfl, hd, hw, hc, q⟩ := h
    refine ⟨_, (pss_cons (ps_if (PW.pt (pw_or (pt_not (pt_val (pe_callB call_isi (by rfl) B.isinstance (by decide +kernel) (pa_cons (pv 0) (pa_cons (pe_bltn (v := .ty "tuple") (by rfl) B.tuple (by decide +kernel) rfl) pa_nil))))) (pw_or (pt_cmpR op_ne (pe_callB call_len_seq (by rfl) B.len PySem.boot_len (pa_cons (pv 0) pa_nil)) pe_int (nomark _)) (pw_or1 (pt_not (pt_val (pe_c c_L_is_number hr (by omega) (by rfl) (pa_cons (pe_ix ix_tup (pv 0) pe_int (fun _ _ => rfl)) (pa_cons pe_int (pa_cons pe_int pa_nil)))))))))) (pss_one (ps_ret pe_bl)) pss_nil) (pss_cons (ps_if (PW.pt (pw_or (pt_not (pt_val (pe_callB call_isi (by rfl) B.isinstance (by decide +kernel) (pa_cons (pe_ix ix_tup (pv 0) pe_int (fun _ _ => rfl)) (pa_cons (pe_bltn (v := .ty "tuple") (by rfl) B.tuple (by decide +kernel) rfl) pa_nil))))) (pw_or1 (pt_not (pt_val (pe_callB (cr_all rfl) (by rfl) B.all (by decide +kernel) (pa_cons (pe_lc (own := [("_law_lodger", 1)]) rfl sc_L_due.nd (pi_tup (pe_ix ix_tup (pv 0) pe_int (fun _ _ => rfl))) (blkOk_by (N := N_L_due) (sc := defScope s_L_due) (by decide +kernel)) (fun _ _ _ _ _ => pg_name (i := 1) sc_L_due.nd rfl (.inl rfl)) (fun _ _ _ _ _ => pts_nil) (fun _ _ _ _ _ => pe_c c_L_is_member hr (by omega) (by rfl) (pa_cons (pv 1) (pa_cons (pe_ix (ixt K) (pv 0) pe_int (fun _ _ => rfl)) (pa_cons pe_int pa_nil))))) pa_nil))))))) (pss_one (ps_ret pe_bl)) pss_nil) (pss_cons (ps_setLc (i := 2) (own := [("_law_trail", 3), ("_law_lodger", 1)]) rfl sc_L_due.nd rfl rfl (sw_true rfl rfl rfl (by decide +kernel)) (pi_list (pe_c c_L_walk hr (by omega) (by rfl) (pa_cons (pe_ix ix_tup (pv 0) pe_int (fun _ _ => rfl)) (pa_cons (pe_tup pa_nil) pa_nil)))) (blkOk_by (N := N_L_due) (sc := defScope s_L_due) (by decide +kernel)) (fun _ _ _ _ _ => pgtK (n := 2) K rfl (pgs_cons (pg_name (i := 3) sc_L_due.nd rfl (.inl rfl)) (pgs_cons (pg_name (i := 1) sc_L_due.nd rfl (.inl rfl)) pgs_nil))) (fun _ _ _ _ _ => pts_nil) (fun _ _ _ _ _ => pv 1)) (pss_cons (ps_setLc (i := 4) (own := [("_law_lodger", 1)]) rfl sc_L_due.nd rfl rfl (sw_true rfl rfl rfl (by decide +kernel)) (pi_list (pv 2)) (blkOk_by (N := N_L_due) (sc := defScope s_L_due) (by decide +kernel)) (fun _ _ _ _ _ => pg_name (i := 1) sc_L_due.nd rfl (.inl rfl)) (fun _ _ _ _ _ => pts_one (pt_cmpR op_eq (pe_ix (ixt K) (pv 1) pe_int (fun _ _ => rfl)) pe_str (nomark _))) (fun _ _ _ _ _ => pv 1)) (pss_cons (ps_set (i := 5) sc_L_due.nd rfl (.inl rfl) (pe_callB (cr_sum rfl) (by rfl) B.sum (by decide +kernel) (pa_cons (pe_lc (own := [("_law_one_here", 6)]) rfl sc_L_due.nd (pi_list (pv 4)) (blkOk_by (N := N_L_due) (sc := defScope s_L_due) (by decide +kernel)) (fun _ _ _ _ _ => pg_name (i := 6) sc_L_due.nd rfl (.inl rfl)) (fun _ _ _ _ _ => pts_nil) (fun _ _ _ _ _ => pe_c c_L_lines hr (by omega) (by rfl) (pa_cons (pe_ix (ixt K) (pv 6) pe_int (fun _ _ => rfl)) pa_nil))) pa_nil))) (pss_one (ps_ret (pe_and (pe_cmpR op_lt (pe_callB call_len_seq (by rfl) B.len PySem.boot_len (pa_cons (pv 4) pa_nil)) pe_int (nomark _)) (pe_and (pe_cmpR op_lt (pe_op op_sub (pe_callB call_len_seq (by rfl) B.len PySem.boot_len (pa_cons (pv 2) pa_nil)) (pe_callB call_len_seq (by rfl) B.len PySem.boot_len (pa_cons (pv 4) pa_nil))) pe_int (nomark _)) (pe_one (pe_cmpR op_le (pv 5) (pe_dget (hu_of hr) (pe_disp (pps_cons pe_int pe_int (pps_cons pe_int pe_int pps_nil)) (by rfl) (by rfl) (by simp) (by decide)) (pe_ix ix_tup (pv 0) pe_int (fun _ _ => rfl)) (fun _ _ => rfl)) (nomark _)))))))))))), ?_⟩
    refine ⟨v, rfl, v, .ty "tuple", _, _, _, rfl, .ty _, Dq.tyx hd, kit_ty (kit_tup d), _, rfl, ?_⟩
    have no : (¬ ∃ many m, d = hsD many m ∧ 2 ≤ many ∧ many ≤ 3 ∧ MsFit many 3 m) → b = false := fun h => by
      rcases hc with ⟨many, m, e, h2, h3, hf, _⟩ | ⟨_, e⟩
      · exact absurd ⟨many, m, e, h2, h3, hf⟩ h
      · exact e
    cases hd with
    | @tup p xs ds hp hds =>
      have hlx := dqall_len hds
      refine iteFF rfl ⟨.ref p, rfl, p, _, rfl, .inr hp, rfl, _, rfl, ?_⟩
      by_cases c : ds.length = 2
      · refine iteFF (by rw [hlx, c]; rfl) ?_
        obtain ⟨d0, d1, v0, v1, rfl, rfl, h0, h1⟩ := dq_two hds c
        have hwr : PyData.weightAll [d0, d1] ≤ 100000 := hw
        have w1 := weight_in (d := d1) (ds := [d0, d1]) (by simp)
        refine ⟨.ref p, rfl, p, _, 0, _, rfl, rfl, hp, rfl, v0, some 2, some 3, d0, rfl, h0, _, rfl, ?_⟩
        rw [bo_in]
        cases c2 : inD 2 3 d0 with
        | false =>
          have e : b = false := no fun ⟨many, m, e, h2, h3, _⟩ => by
            have e0 : d0 = .int (many : Int) := (List.cons.inj (PyData.tuple.inj e)).1
            rw [e0, inD_of (by omega) (by omega)] at c2
            cases c2
          rw [e] at q
          exact iteTT rfl (q _ (Same.refl _))
        | true =>
          obtain ⟨i, rfl, i2, i3⟩ := inD_int c2
          obtain ⟨many, rfl⟩ : ∃ n : Nat, i = (n : Int) := ⟨i.toNat, by omega⟩
          cases h0
          refine iteFF rfl ⟨.ref p, rfl, p, _, 1, _, rfl, rfl, hp, rfl, v1, .ty "tuple", _, _, _, rfl, .ty _, Dq.tyx h1, kit_ty (kit_tup d1), _, rfl, ?_⟩
          cases h1 with
          | @tup p1 xs1 ms hp1 hms1 =>
            have hl1 := dqall_len hms1
            have hwm : PyData.weightAll ms + 1 ≤ PyData.weightAll [.int (many : Int), .tuple ms] := w1
            have hml := weight_len ms
            refine iteFF rfl ⟨.ref p, rfl, p, _, 1, _, rfl, rfl, hp, rfl, p1, rfl, ⟨_, hp1⟩, fun D nD => lc_tup (xs := xs1) (fun i H' => Same H H' ∧ H' D = some (.lst (((ms.map (memQ false many 3)).take i).map V.bl))) ⟨same_new nD, upd_same⟩ (fun i H' _ h => same_sqt h.1 hp1) ?_ ?_⟩
            · rintro i y H2 hy ⟨sm, hD⟩
              have hi := (List.getElem?_eq_some_iff.mp hy).1
              obtain ⟨dd, hdd, hdp⟩ := dqall_get hms1 hy
              have hwd := weight_in (List.mem_of_getElem? hdd)
              refine ⟨rfl, tYes_in ⟨_, rfl, .ref p, rfl, p, _, 0, _, rfl, rfl, same_sqt sm hp, rfl, y, many, 3, dd, rfl, by decide, by decide, by omega, dq_same sm hdp, by omega, fun H3 sm3 => ⟨_, sm3 _ _ hD, ?_, fun b' o eb => ?_, ?_⟩⟩⟩
              · rw [List.length_map, List.length_take]
                exact small2e5 (by omega)
              · rw [upd_ne (ne_of_none eb nD)]
                exact sm3 _ _ (sm _ _ eb)
              · rw [upd_same, List.take_add_one, List.getElem?_map, hdd, List.map_append]
                rfl
            · rintro H1 ⟨sm1, hD1⟩
              rw [List.take_of_length_le (by rw [List.length_map]; omega)] at hD1
              refine ⟨D, _, rfl, SqL.of hD1, ?_⟩
              refine ⟨_, rfl, ?_⟩
              rw [List.all_map]
              show if _ then _ else _
              cases c3 : ms.all (id ∘ memQ false many 3) with
              | false =>
                have c3 : ms.all (memQ false many 3) = false := c3
                have e : b = false := by
                  rcases hc with ⟨many', m, e, h2, h3, hf, hb⟩ | ⟨_, e⟩
                  · have e0 : PyData.int (many : Int) = .int (many' : Int) := (List.cons.inj (PyData.tuple.inj e)).1
                    have e1 : PyData.tuple ms = .tuple (msD m) := (List.cons.inj (List.cons.inj (PyData.tuple.inj e)).2).1
                    have e2 : many' = many := by have := PyData.int.inj e0; omega
                    have e1 := PyData.tuple.inj e1
                    subst e2 e1
                    have := of_ms (c := false) hf.al hf.nm hf.dp fun h => by cases h
                    rw [List.all_eq_true.mpr this] at c3
                    cases c3
                  · exact e
                rw [e] at q
                exact iteTT rfl (q _ sm1)
              | true =>
                have c3 : ms.all (memQ false many 3) = true := c3
                rw [List.all_eq_true] at c3
                obtain ⟨m0, rfl, a0, n0, dp0⟩ := ms_of (mem_of 3) ms c3
                obtain ⟨m, em, hf, hb⟩ : ∃ m, msD m0 = msD m ∧ MsFit many 3 m ∧ b = okCnt many m := by
                  rcases hc with ⟨many', m, e, h2, h3, hf, hb⟩ | ⟨hn, _⟩
                  · have e0 : PyData.int (many : Int) = .int (many' : Int) := (List.cons.inj (PyData.tuple.inj e)).1
                    have e1 : PyData.tuple (msD m0) = .tuple (msD m) := (List.cons.inj (List.cons.inj (PyData.tuple.inj e)).2).1
                    have e2 : many' = many := by have := PyData.int.inj e0; omega
                    subst e2
                    exact ⟨m, PyData.tuple.inj e1, hf, hb⟩
                  · exact absurd ⟨many, m0, rfl, by omega, by omega, a0, n0, dp0⟩ hn
                rw [em] at hms1 hwm hwr hml
                have hms : MsAt K H1 m xs1 := MsAt.of (dpall_of_dq (ms_nodict m) (dqall_same sm1 hms1)) hf.al
                have hcw := cnt_weight m
                have hdp := hf.dp
                refine iteFF rfl ⟨.ref p, rfl, p, _, 1, _, rfl, rfl, same_sqt sm1 hp, rfl, (by show 0 ≤ sizeLine; decide), fun t0 n0 => ?_⟩
                have s0 := same_new (o := .tup []) n0
                refine ⟨p1, t0, xs1, m, [], rfl, same_sqt s0 (same_sqt sm1 hp1), hms.same s0, by omega, by omega, SqT.of upd_same, by show 0 + m.dep ≤ 100; omega, fun H2 l us sm2 nl hl hpr => ?_⟩
                have sm02 := (sm1.trans s0).trans sm2
                have hul : us.length = m.cnt := by rw [hpr.len, stdI_len]
                have hl0 : (stdI m [] 0).length = m.cnt := stdI_len ..
                refine ⟨l, rfl, ⟨_, SqL.of hl⟩, fun D2 nD2 => lc_list (xs := us) (fun i H' => ∃ ws, Same H2 H' ∧ H' D2 = some (.lst ws) ∧ MqsAt K H' ws ((stdI m [] 0).take i)) ⟨[], same_new nD2, upd_same, trivial⟩ (fun i H' _ h => ?_) ?_ ?_⟩
                · obtain ⟨_, sm, _⟩ := h
                  exact SqL.of (sm _ _ hl)
                · rintro i x H3 hx ⟨ws, sm3, hD3, hws⟩
                  have hil := (List.getElem?_eq_some_iff.mp hx).1
                  obtain ⟨it, hit, t, h, v, rfl, qt, qh, mk⟩ := hpr.get hx
                  have qt := same_sqt sm3 qt
                  have mk := mk.imp fun _ _ h => same_sqt sm3 h
                  have hwl : ws.length ≤ 100000 := by
                    rw [hws.len, List.length_take]
                    omega
                  refine ⟨t, _, rfl, qt, rfl, _, _, rfl, _, _, rfl, rfl, rfl, tYes_in ⟨_, rfl, ws, hD3, small2e5 (by omega), ws ++ [v], fun b' o eb => ?_, upd_same, ?_⟩⟩
                  · rw [upd_ne (ne_of_none eb nD2)]
                    exact sm3 _ _ eb
                  · rw [List.take_add_one, hit]
                    exact MqsAt.app (hws.imp fun _ _ h => put_sqt hD3 h) ⟨mk.imp fun _ _ h => put_sqt hD3 h, trivial⟩
                · rintro H3 ⟨ws, sm3, hD3, hws⟩
                  rw [hul, ← hl0, List.take_length] at hws
                  have sm03 := sm02.trans sm3
                  have hwl : ws.length = m.cnt := by rw [hws.len, hl0]
                  refine ⟨.ref D2, rfl, D2, rfl, ⟨_, SqL.of hD3⟩, fun D3 nD3 => lc_list (xs := ws) (fun i H' => ∃ zs, Same H3 H' ∧ H' D3 = some (.lst zs) ∧ OnesAt K H' zs (onF ((stdI m [] 0).take i))) ⟨[], same_new nD3, upd_same, trivial⟩ (fun i H' _ h => ?_) ?_ ?_⟩
                  · obtain ⟨_, sm, _⟩ := h
                    exact SqL.of (sm _ _ hD3)
                  · rintro i x H4 hx ⟨zs, sm4, hD4, hzs⟩
                    have hil := (List.getElem?_eq_some_iff.mp hx).1
                    obtain ⟨it, hit, mk⟩ := hws.get hx
                    have mk := mk.imp fun _ _ h => same_sqt sm4 h
                    obtain ⟨py, ys, rfl, hpy⟩ := mk.wd
                    have hzl : zs.length ≤ 100000 := by
                      rw [hzs.len]
                      have := onF_len ((stdI m [] 0).take i)
                      rw [List.length_take] at this
                      omega
                    refine ⟨rfl, .ref py, rfl, py, _, 0, _, rfl, rfl, hpy, at_of (j := 0) rfl rfl, rfl, _, rfl, ?_⟩
                    obtain ⟨pth, k⟩ := it
                    cases k with
                    | one o =>
                      refine iteTT rfl ⟨.ref py, rfl, zs, hD4, small2e5 (by omega), zs ++ [.ref py], fun b' o eb => ?_, upd_same, ?_⟩
                      · rw [upd_ne (ne_of_none eb nD3)]
                        exact sm4 _ _ eb
                      · rw [List.take_add_one, hit]
                        show OnesAt K _ _ (onF (_ ++ [(pth, .one o)]))
                        rw [onF_snoc]
                        exact OnesAt.app (hzs.imp fun _ _ h => put_sqt hD4 h) ⟨(mk : OneAt K H4 o _).imp fun _ _ h => put_sqt hD4 h, trivial⟩
                    | house nm m2 =>
                      refine iteFF rfl ⟨zs, sm4, hD4, ?_⟩
                      rw [List.take_add_one, hit]
                      show OnesAt K _ _ (onF (_ ++ [(pth, .house nm m2)]))
                      rw [onF_snoc']
                      exact hzs
                  · rintro H4 ⟨zs, sm4, hD4, hzs⟩
                    rw [hwl, ← hl0, List.take_length, show onF (stdI m [] 0) = aoI m from ao_std ..] at hzs
                    have hno : zs.length = m.no := hzs.len
                    have hnl := m.no_le
                    have sm04 := sm03.trans sm4
                    refine ⟨.ref D3, rfl, D3, rfl, ⟨_, SqL.of hD4⟩, fun D4 nD4 => lc_list (xs := zs) (fun i H' => Same H4 H' ∧ H' D4 = some (.lst ((((aoI m).take i).map fun o => lnO o.dbt).map V.int))) ⟨same_new nD4, upd_same⟩ (fun i H' _ h => SqL.of (h.1 _ _ hD4)) ?_ ?_⟩
                    · rintro i x H5 hx ⟨sm5, hD5⟩
                      have hil := (List.getElem?_eq_some_iff.mp hx).1
                      obtain ⟨o, ho, xo⟩ := hzs.get hx
                      have fo := (ao_all hf.al o (List.mem_of_getElem? ho)).db
                      obtain ⟨py, dv, rv, rfl, hpy, hdv, _⟩ := xo.imp fun _ _ h => same_sqt sm5 h
                      refine ⟨rfl, tYes_in ⟨.ref py, rfl, py, _, 1, _, rfl, rfl, hpy, rfl, dv, o.dbt, many, rfl, hdv, by have := fo.sl; omega, fun e he => ⟨(fo.st e he).1, (fo.st e he).2.1, (fo.st e he).2.2.1⟩, fun H6 sm6 => ⟨_, sm6 _ _ hD5, ?_, fun b' o eb => ?_, ?_⟩⟩⟩
                      · rw [List.length_map, List.length_map, List.length_take]
                        exact small2e5 (by omega)
                      · rw [upd_ne (ne_of_none eb nD4)]
                        exact sm6 _ _ (sm5 _ _ eb)
                      · rw [upd_same, List.take_add_one, ho, List.map_append, List.map_append]
                        rfl
                    · rintro H5 ⟨sm5, hD5⟩
                      rw [hno, show m.no = (aoI m).length from rfl, List.take_length] at hD5
                      refine ⟨D4, _, rfl, SqL.of hD5, ?_⟩
                      have hD45 := sm5 _ _ hD4
                      have hD35 := sm5 _ _ (sm4 _ _ hD3)
                      have sm05 := sm04.trans sm5
                      rw [hb] at q
                      have q : ∀ H', Same H H' → Q (.bl (decide (m.no < 13) && (decide (m.cnt - m.no < 13) && decide (m.ln ≤ roomI many)))) H' := q
                      refine ⟨.ref D3, rfl, D3, _, rfl, .inl (SqL.of hD45), _, _, rfl, rfl, _, rfl, iteD (fun c5 => ?_) (fun c5 => ?_)⟩
                      · rw [decide_eq_true (show m.no < 13 by omega), Bool.true_and] at q
                        refine ⟨.ref D2, rfl, D2, _, rfl, .inl (SqL.of hD35), .ref D3, rfl, D3, _, rfl, .inl (SqL.of hD45), _, _, rfl, rfl, _, _, rfl, rfl, _, rfl, iteD (fun c6 => ?_) (fun c6 => ?_)⟩
                        · rw [decide_eq_true (show m.cnt - m.no < 13 by omega), Bool.true_and] at q
                          refine ⟨_, rfl, ?_⟩
                          refine fun dp ndp => ⟨upd_same, [(Sum.inl 2, .int 400), (Sum.inl 3, .int 60)], rfl, (by show 2 ≤ 15; decide), ?_⟩
                          have smD : Same H5 (upd (upd H5 dp (HO.dK [])) dp (HO.dK (mergeK [] [(Sum.inl 2, V.int 400), (Sum.inl 3, V.int 60)]))) := fun b' ob eb => by
                            rw [upd_ne (ne_of_none eb ndp), upd_ne (ne_of_none eb ndp)]
                            exact eb
                          have hrm : DGet (upd (upd H5 dp (HO.dK [])) dp (HO.dK (mergeK [] [(Sum.inl 2, V.int 400), (Sum.inl 3, V.int 60)]))) dp (V.int (many : Int)) (some (.int (roomI many))) := by
                            have : many = 2 ∨ many = 3 := by omega
                            rcases this with rfl | rfl
                            · exact .inl ⟨_, Sum.inl 2, .inl upd_same, rfl, rfl⟩
                            · exact .inl ⟨_, Sum.inl 3, .inl upd_same, rfl, rfl⟩
                          refine ⟨.ref p, rfl, p, _, 0, _, rfl, rfl, same_sqt (sm05.trans smD) hp, rfl, dp, .int (roomI many), rfl, hrm, _, _, rfl, rfl, ?_⟩
                          exact q _ (sm05.trans smD)
                        · rw [decide_eq_false (show ¬ m.cnt - m.no < 13 by omega), Bool.false_and] at q
                          exact q _ sm05
                      · rw [decide_eq_false (show ¬ m.no < 13 by omega), Bool.false_and] at q
                        exact q _ sm05
          | _ =>
            have e : b = false := no fun ⟨many, m, e, _⟩ => by
              have e1 := (List.cons.inj (List.cons.inj (PyData.tuple.inj e)).2).1
              cases e1
            rw [e] at q
            exact iteTT rfl (iteTT rfl (q _ (Same.refl _)))
      · refine iteTT (by rw [hlx]; simp; omega) ?_
        have e : b = false := no fun ⟨many, m, e, _⟩ => by
          have := PyData.tuple.inj e
          subst this
          exact c rfl
        rw [e] at q
        exact iteTT rfl (q _ (Same.refl _))
    | _ =>
      have e : b = false := no fun ⟨many, m, e, _⟩ => by cases e
      rw [e] at q
      exact iteTT rfl (iteTT rfl (q _ (Same.refl _)))
end
end NG

namespace NG
open PySem PySem.Spec PyProof.Rows L2
def spRight (K : PySem.W.Frag) : Sp := fun vs H Q _ => ∃ (a : Addr) (n : Nat), vs = [.ref a] ∧ HandAt H a n ∧ n ≤ 10 ∧ ∀ H', But a H H' → Q (.bl true) H'
def spLaw (K : PySem.W.Frag) : Sp := fun vs H Q _ => ∃ (a : Addr) (ns : List Int), vs = [.ref a] ∧ SqL K H a (ns.map V.int) ∧ ns.length ≤ 63 ∧ ∀ H', Q (.bl true) H'
theorem hsCase_any (d : PyData) : ∃ b, HsCase d b := by
  by_cases h : ∃ many m, d = hsD many m ∧ 2 ≤ many ∧ many ≤ 3 ∧ MsFit many 3 m
  · obtain ⟨many, m, e, h2, h3, hf⟩ := h
    exact ⟨okCnt many m, .inl ⟨many, m, e, h2, h3, hf, rfl⟩⟩
  · exact ⟨false, .inr ⟨h, rfl⟩⟩
theorem HsAt.dq {K : PySem.W.Frag} {H : Hp} {many : Nat} {m : Ms} {v : V} (h : HsAt K H many m v) : Dq K H v (hsD many m) := by
  obtain ⟨p, pm, xs, rfl, q1, q2, q3⟩ := h
  exact .tup q1 (.cons (.int _) (.cons (.tup q2 (dqall_of q3.dps)) .nil))
section
variable {P : Program} {w : World} {K : PySem.W.Frag} {mg : Str → Option Value} {base : Heap}
theorem ok_right {f : Addr} {fd : FuncData} (F : Fun K "_law_right" "_law_right" s_L_right f fd) (gF : mg "_law_right" = some (.ref f)) (b : Binds K fd ["_law_hand_here"] []) (B : Bl mg) (n_bool : mg "bool" = none) (c_L_take : Cal P w K mg base 1 "_law_take" spTake) (c_L_rich : Cal P w K mg base 12 "_law_rich" (spRichN K)) (c_is_house : Cal P w K mg base 29 "is_house" (spIsHouse K)) (k_is_house : CalK P w K mg base 29 "is_house" ["thing"] (spIsHouse K)) (c_L_bent : Cal P w K mg base 11 "_law_bent" (spBent K 8)) (c_L_odd : Cal P w K mg base 3 "_law_odd" (spOdd K)) (c_L_due : Cal P w K mg base 25 "_law_due" (spIsHouse K)) : CalG P w K mg base 30 "_law_right" (spRight K) := by
  refine ⟨f, fd, _, fnG F sc_L_right (fun vs H Q E h => ?_) (fun cdv A outer s H vs Q hg hr h => ?_), gF, F.kp, b⟩
  · obtain ⟨_, _, rfl, _⟩ := h
    rfl
  · obtain ⟨a, n, rfl, hh, hn, q⟩ := h
    refine ⟨_, (pss_cons (ps_set (i := 1) sc_L_right.nd rfl (.inl rfl) (pe_op op_add pe_int (pe_c c_L_take hr (by omega) (by rfl) (pa_cons (pv 0) (pa_cons pe_int pa_nil))))) (pss_cons (ps_set (i := 2) sc_L_right.nd rfl (.inl rfl) (pe_op op_add pe_int (pe_c c_L_take hr (by omega) (by rfl) (pa_cons (pv 0) (pa_cons pe_int pa_nil))))) (pss_cons (ps_set (i := 3) sc_L_right.nd rfl (.inl rfl) (pe_c c_L_rich hr (by omega) (by rfl) (pa_cons (pv 0) (pa_cons (pv 2) (pa_cons pe_int (pa_cons pe_bl pa_nil)))))) (pss_cons (ps_if (PW.pt (pw_or (pt_cmpR op_isnot_bl (pe_c c_is_house hr (by omega) (by rfl) (pa_cons (pv 3) pa_nil)) pe_bl (nomark _)) (pw_or1 (pt_cmpR op_isnot_bl (pe_kw k_is_house hg hr (by omega) (by rfl) (pk_cons (pv 3) pk_nil)) pe_bl (nomark _))))) (pss_one (ps_ret pe_bl)) pss_nil) (pss_cons (ps_for PassesOwn.never rfl (pi_range1 rfl B.range (pa_cons pe_int pa_nil)) (pg_name (i := 4) sc_L_right.nd rfl (.inl rfl)) (pss_cons (ps_set (i := 5) sc_L_right.nd rfl (.inl rfl) (pe_cut (pe_ifExp (pt_cmpR op_lt (pv 4) pe_int (nomark _)) (pe_c c_L_bent hr (by omega) (by rfl) (pa_cons (pv 0) (pa_cons (pv 3) (pa_cons (pv 1) pa_nil)))) (pe_c c_L_odd hr (by omega) (by rfl) (pa_cons (pv 0) pa_nil))))) (C8.pss_cut (ps_if (PW.pt (pw_and (pt_cmpR op_eq (pe_op op_mod (pv 4) pe_int) pe_int (nomark _)) (pw_and (pt_val (pe_callB call_isi (by rfl) B.isinstance (by decide +kernel) (pa_cons (pv 5) (pa_cons (pe_bltn (v := .ty "tuple") (by rfl) B.tuple (by decide +kernel) rfl) pa_nil)))) (pw_and1 (pt_cmpR (op_neE hr.units) (pv 5) (pe_tup pa_nil) (nomark _)))))) (pss_one (ps_set (i := 5) sc_L_right.nd rfl (.inl rfl) (pe_c c_L_bent hr (by omega) (by rfl) (pa_cons (pv 0) (pa_cons (pv 5) (pa_cons pe_int pa_nil)))))) pss_nil) (pss_cons (ps_par (i := 6) (j := 7) rfl sc_L_right.nd rfl rfl (by decide) rfl rfl (pa_cons (pe_callB (cr_reprQ hg hr.units) (by rfl) B.repr (by decide +kernel) (pa_cons (pv 5) pa_nil)) (pa_cons (pe_c c_is_house hr (by omega) (by rfl) (pa_cons (pv 5) pa_nil)) pa_nil)) (by rfl)) (pss_one (ps_if (PW.pt (pw_or (pt_not (pt_val (pe_callB call_isi (by rfl) B.isinstance (by decide +kernel) (pa_cons (pv 7) (pa_cons (pe_bltn (v := .ty "bool") (by rfl) n_bool (by decide +kernel) rfl) pa_nil))))) (pw_or (pt_cmpR (op_neD hr.units) (pv 7) (pe_c c_L_due hr (by omega) (by rfl) (pa_cons (pv 5) pa_nil)) (nomark _)) (pw_or1 (pt_cmpR op_ne (pe_callB (cr_reprQ hg hr.units) (by rfl) B.repr (by decide +kernel) (pa_cons (pv 5) pa_nil)) (pv 6) (nomark _)))))) (pss_one (ps_ret pe_bl)) pss_nil)))))) (pss_one (ps_ret pe_bl))))))), ?_⟩
    refine ⟨.ref a, rfl, a, 7, n, rfl, by decide, by decide, hh, by omega, fun H1 r b1 hh1 r0 r1 => ⟨_, _, rfl, rfl, ?_⟩⟩
    refine ⟨.ref a, rfl, a, 2, _, rfl, by decide, by decide, hh1, by omega, fun H2 r2 b2 hh2 r20 r21 => ⟨_, _, rfl, rfl, ?_⟩⟩
    obtain ⟨many, hm⟩ : ∃ m : Nat, 2 + r2 = (m : Int) := ⟨(2 + r2).toNat, by omega⟩
    obtain ⟨deep, hdp⟩ : ∃ m : Nat, 1 + r = (m : Int) := ⟨(1 + r).toNat, by omega⟩
    have hm2 : 2 ≤ many := by omega
    have hm3 : many ≤ 3 := by omega
    have hdeep : deep ≤ 7 := by omega
    refine ⟨.ref a, rfl, _, rfl, a, many, _, true, (by show [V.ref a, V.int (2 + r2), V.int 2, V.bl true] = _; rw [hm]), hm2, hm3, hh2, by omega, fun H3 v m b3 hh3 hH hok => ?_⟩
    have b03 := (b1.trans b2).trans b3
    have hh3 : HandAt H3 a 4020 := hh3.le (by omega)
    have tr3 : Tr a [] 4020 H3 := ⟨hh3, fun x hx => by cases hx⟩
    have hdq : Dq K (hideL [a] H3) v (hsD many m) := (hH.imp fun _ _ h => hideL_sqt tr3 h).dq
    have htm := tm_house hm3 hok
    have hcase : HsCase (hsD many m) true := .inl ⟨many, m, rfl, hm2, hm3, hok.ok.fit, hok.good.symm⟩
    have hdq3 := dq_same hideL_same hdq
    have e39 : (10 : Nat) ^ 31 + 3 < 10 ^ 39 := by decide
    refine ⟨v, rfl, v, _, true, rfl, hdq3, Nat.le_trans htm.wt (by decide), hcase, fun H4 s4 => ⟨true, true, rfl, rfl, _, rfl, iteFF rfl ?_⟩⟩
    refine ⟨v, rfl, rfl, v, _, true, rfl, dq_same s4 hdq3, Nat.le_trans htm.wt (by decide), hcase, fun H5 s5 => ⟨true, true, rfl, rfl, _, rfl, iteFF rfl ?_⟩⟩
    have s35 := s4.trans s5
    have hdq5 := dq_same (hideL_same2 s35) hdq
    have tr5 := tr3.same s35
    have b05 := b03.trans (But.of s35)
    clear hdq hdq3 tr3 b03 s4 s5
    refine ⟨_, rfl, by decide, by decide, ?_⟩
    refine for_range (n := 10) (fun t σ H' => ∃ y4 y5 y6 y7, σ = [some (.ref a), some (.int (1 + r)), some (.int (2 + r2)), some v, y4, y5, y6, y7] ∧ But a H5 H' ∧ HandAt H' a (4020 + 700 * t)) ⟨_, _, _, _, rfl, But.refl _ _, tr5.hand⟩ ?_ ?_
    · rintro t σ H6 ht ⟨y4, y5, y6, y7, rfl, b6, hh6⟩
      have ht10 : t < 10 := ht
      have tr6 := tr5.but b6 hh6
      have hdq6 := dq_same (hideL_but b6) hdq5
      refine ⟨fun v' H' => ∃ d, But a H6 H' ∧ HandAt H' a (4020 + 700 * t + 330) ∧ Dq K (hideL [a] H') v' d ∧ Tm (10 ^ 31 + 1) 42200 30 d, ?_, ?_⟩
      · refine ⟨_, rfl, _, _, rfl, rfl, _, rfl, iteD (fun c => ?_) (fun c => ?_)⟩
        · exact ⟨.ref a, rfl, v, rfl, .int (1 + r), rfl, a, v, hsD many m, deep, 10 ^ 31, 20700, 17, _, [], (by show [V.ref a, v, V.int (1 + r)] = _; rw [hdp]), by omega, hdq6, htm, Nat.le_refl _, by omega, Nat.le_trans htm.wt (by decide), tr6, by omega, fun H' v' d' b' hh' g1 g2 => ⟨d', b', hh'.le (by omega), g1, g2.mono (Nat.le_refl _) (by omega) (by omega)⟩⟩
        · exact ⟨.ref a, rfl, a, 10 ^ 31, _, [], rfl, Nat.le_refl _, by omega, tr6, by omega, fun H' v' d' b' hh' g1 g2 => ⟨d', b', hh'.le (by omega), g1, g2.mono (by omega) (by omega) (by omega)⟩⟩
      · rintro v7 H7 ⟨d7, b7, hh7, hd7, ht7⟩
        have tr7 := tr6.but b7 hh7
        have hdv7 := dq_same hideL_same hd7
        refine ⟨fun σ H' => ∃ v8 d8, σ = [some (.ref a), some (.int (1 + r)), some (.int (2 + r2)), some v, some (.int (0 + (t : Int))), some v8, y6, y7] ∧ But a H6 H' ∧ HandAt H' a (4020 + 700 * t + 660) ∧ Dq K (hideL [a] H') v8 d8 ∧ Tm (10 ^ 31 + 2) 85200 33 d8, ?_, ?_⟩
        · have keep : ∀ Hc, Same H7 Hc → ∃ v8 d8, [some (V.ref a), some (.int (1 + r)), some (.int (2 + r2)), some v, some (.int (0 + (t : Int))), some v7, y6, y7] = [some (.ref a), some (.int (1 + r)), some (.int (2 + r2)), some v, some (.int (0 + (t : Int))), some v8, y6, y7] ∧ But a H6 Hc ∧ HandAt Hc a (4020 + 700 * t + 660) ∧ Dq K (hideL [a] Hc) v8 d8 ∧ Tm (10 ^ 31 + 2) 85200 33 d8 := fun Hc s => ⟨v7, d7, rfl, b7.trans (But.of s), (hh7.same s).le (by omega), dq_same (hideL_same2 s) hd7, ht7.mono (by omega) (by omega) (by omega)⟩
          refine ⟨_, rfl, _, _, rfl, rfl, (show (0 : Int) < 3 by decide), rfl, _, rfl, iteD (fun c => ?_) (fun c => ?_)⟩
          · refine ⟨v7, rfl, v7, .ty "tuple", _, _, _, rfl, .ty _, Dq.tyx hdv7, kit_ty (kit_tup d7), _, rfl, ?_⟩
            cases hd7 with
            | @tup p xs ds h1 h2 =>
              have hp : SqT K H7 p xs := same_sqt hideL_same h1
              refine iteTT rfl ⟨.ref p, rfl, (by show 0 ≤ sizeLine; decide), fun t0 nt0 => ⟨p, t0, xs, rfl, rfl, same_sqt (same_new nt0) hp, SqT.of upd_same, _, rfl, ?_⟩⟩
              have s1 : Same H7 (upd H7 t0 (.tup [])) := same_new nt0
              generalize upd H7 t0 (.tup []) = H8 at s1 ⊢
              have hd8 : Dq K (hideL [a] H8) (.ref p) (.tuple ds) := dq_same (hideL_same2 s1) (.tup h1 h2)
              have tr8 := tr7.same s1
              cases hxe : xs.isEmpty with
              | false => exact iteTT rfl ⟨.ref a, rfl, .ref p, rfl, a, .ref p, _, 2, 10 ^ 31 + 1, 42200, 30, _, [], rfl, by decide, hd8, ht7, by omega, by omega, Nat.le_trans ht7.wt (by decide), tr8, by omega, fun H' v' d' b' hh' g1 g2 => ⟨v', d', rfl, (b7.trans (But.of s1)).trans b', hh'.le (by omega), g1, g2.mono (Nat.le_refl _) (by omega) (by omega)⟩⟩
              | true => exact iteFF rfl (keep _ s1)
            | _ => exact iteFF rfl (keep _ (Same.refl _))
          · exact keep _ (Same.refl _)
        · rintro σ H8 ⟨v8, d8, rfl, b8, hh8, hd8, ht8⟩
          have hdv8 := dq_same hideL_same hd8
          have hsd := ht8.shh (by omega)
          obtain ⟨bq, hcb⟩ := hsCase_any d8
          have hw8 : d8.weight ≤ 100000 := Nat.le_trans ht8.wt (by decide)
          refine ⟨v8, rfl, v8, d8, rfl, hdv8, hsd.sh, Nat.le_trans hsd.dp (by decide), hsd.fits (by decide), ?_⟩
          refine ⟨v8, rfl, v8, d8, bq, rfl, hdv8, hw8, hcb, fun H9 s9 => ?_⟩
          have hdv9 := dq_same s9 hdv8
          refine ⟨_, _, rfl, .bl bq, rfl, .bl bq, .ty "bool", _, _, _, rfl, .ty _, Dq.tyx (H := H9) (K := K) (.bl bq), kit_ty (kit_bool _), _, rfl, iteFF rfl ?_⟩
          refine ⟨.bl bq, rfl, v8, rfl, v8, d8, bq, rfl, hdv9, hw8, hcb, fun H10 s10 => ⟨.bool bq, .bool bq, .bl _, .bl _, rfl, rfl, _, rfl, iteFF (by cases bq <;> rfl) ?_⟩⟩
          have s810 := s9.trans s10
          refine ⟨v8, rfl, v8, d8, rfl, dq_same s10 hdv9, hsd.sh, Nat.le_trans hsd.dp (by decide), hsd.fits (by decide), .str d8.shown, rfl, rfl, _, rfl, iteFF (by simp) ?_⟩
          exact ⟨_, _, _, _, rfl, (b6.trans b8).trans (But.of s810), (hh8.same s810).le (by omega)⟩
    · rintro σ H6 ⟨y4, y5, y6, y7, rfl, b6, hh6⟩
      exact q H6 (b05.trans b6)
theorem ok_law {f : Addr} {fd : FuncData} (F : Fun K "law" "law" s_law f fd) (B : Bl mg) (c_L_hand : Cal P w K mg base 1 "_law_hand" (spHand K)) (c_L_right : CalG P w K mg base 30 "_law_right" (spRight K)) : FnG P w K mg base 31 f fd ["_law_script"] (spLaw K) := by
  refine fnG F sc_law (fun vs H Q E h => ?_) (fun cdv A outer s H vs Q hg hr h => ?_)
  · obtain ⟨_, _, rfl, _⟩ := h
    rfl
  · obtain ⟨sc, ns, rfl, hS, hl, q⟩ := h
    refine ⟨_, (pss_one (ps_ret (pe_callB (cr_all rfl) (by rfl) B.all (by decide +kernel) (pa_cons (pe_lc (own := [("_law_k", 1)]) rfl sc_law.nd (pi_range1 rfl B.range (pa_cons (pe_op op_add pe_int (pe_callB (call_min2 rfl) (by rfl) B.min (by decide +kernel) (pa_cons pe_int (pa_cons (pe_callB call_len_seq (by rfl) B.len PySem.boot_len (pa_cons (pv 0) pa_nil)) pa_nil)))) pa_nil)) (blkOk_by (N := N_law) (sc := defScope s_law) (by decide +kernel)) (fun _ _ _ _ _ => pg_name (i := 1) sc_law.nd rfl (.inl rfl)) (fun _ _ _ _ _ => pts_nil) (fun _ _ _ _ _ => pe_g c_L_right hg hr (by omega) (by rfl) (pa_cons (pe_c c_L_hand hr (by omega) (by rfl) (pa_cons (pv 0) (pa_cons (pv 1) pa_nil))) pa_nil))) pa_nil)))), ?_⟩
    have hb : ∀ z : Int, (if z < 3 then z else 3) ≤ 3 := fun z => by split <;> omega
    have hb0 : ∀ z : Int, 0 ≤ z → 0 ≤ (if z < 3 then z else 3) := fun z hz => by split <;> omega
    have h3 := hb (((ns.map V.int).length : Nat) : Int)
    have h4 := hb0 (((ns.map V.int).length : Nat) : Int) (by omega)
    refine ⟨.ref sc, rfl, sc, _, rfl, .inl hS, _, _, rfl, _, _, rfl, rfl, _, rfl, by omega, by omega, fun D nD => lc_range (fun i H' => Same H H' ∧ H' D = some (.lst ((List.replicate i true).map V.bl))) ⟨same_new nD, upd_same⟩ ?_ ?_⟩
    · rintro i H1 hi ⟨sm1, hD1⟩
      have hi4 : i < 4 := by omega
      refine ⟨rfl, tYes_in ?_⟩
      refine ⟨.ref sc, rfl, .int (0 + (i : Int)), rfl, sc, _, ns, rfl, by omega, by omega, sm1.seq hS, fun p g sd np g0 sd0 => ?_⟩
      have hh1 : HandAt (upd H1 p (.lst [.int g, .int sd, .int 0])) p 0 := ⟨g, sd, 0, upd_same, g0, sd0, by decide, by decide⟩
      have b1 : But p H1 (upd H1 p (.lst [.int g, .int sd, .int 0])) := But.put
      generalize upd H1 p (.lst [.int g, .int sd, .int 0]) = H2 at hh1 b1
      refine ⟨p, 0, rfl, hh1, by decide, fun H3 b3 => ?_⟩
      have b13 := b1.trans b3
      have sm13 := b13.same np
      have hD3 := sm13 _ _ hD1
      refine ⟨_, hD3, ?_, fun b' o eb => ?_, ?_⟩
      · rw [List.length_map, List.length_replicate]
        exact small1000 (by omega)
      · rw [upd_ne (ne_of_none eb nD)]
        exact sm13 _ _ (sm1 _ _ eb)
      · rw [upd_same, List.replicate_succ', List.map_append]
        rfl
    · rintro H1 ⟨sm1, hD1⟩
      refine ⟨D, _, rfl, SqL.of hD1, ?_⟩
      rw [show ∀ m, (List.replicate m true).all id = true from fun m => by simp]
      exact q _
end
end NG

namespace NG
open PySem PySem.Spec PyProof.Rows L2
theorem all_mk {l : PySem.W.OpenLaw} {w : World} {K : PySem.W.Frag} {h : Heap} {mg : Str → Option Value} {fa f_is_number f_is_within f_fits f_first_word f_fits_shape f_has_shape f_is_registers f_parts f_count_parts f_is_expression f_join_spans f_span f_leaves f_borders f_is_name f_power f_count_deed f_count_deeds f_is_stake f_are_stakes f_are_behinds f_is_doubter f_is_weight f_is_one f_is_member f_are_members f_stands f_one_borders f_crowd f_is_house f_L_hand f_L_take f_L_of f_L_name f_L_figure f_L_registers f_L_leaf f_L_expression f_L_stake f_L_deeds f_L_doubter f_L_counted f_L_lines f_L_one f_L_house f_L_all_ones f_L_walk f_L_rich f_L_is_number f_L_is_member f_L_due f_L_odd f_L_bent f_L_right f_law : Addr} (X : K.In h) (G : h.Ns mainGlobals mg) (hfa : mg "law" = some (.ref fa))
    {od_is_number an_is_number od_is_within an_is_within od_fits an_fits od_first_word an_first_word od_fits_shape an_fits_shape od_has_shape an_has_shape od_is_registers an_is_registers od_parts an_parts od_count_parts an_count_parts od_is_expression an_is_expression od_join_spans an_join_spans od_span an_span od_leaves an_leaves od_borders an_borders od_is_name an_is_name od_power an_power od_count_deed an_count_deed od_count_deeds an_count_deeds od_is_stake an_is_stake od_are_stakes an_are_stakes od_are_behinds an_are_behinds od_is_doubter an_is_doubter od_is_weight an_is_weight od_is_one an_is_one od_is_member an_is_member od_are_members an_are_members od_stands an_stands od_one_borders an_one_borders od_crowd an_crowd od_is_house an_is_house od_L_hand an_L_hand od_L_take an_L_take od_L_of an_L_of od_L_name an_L_name od_L_figure an_L_figure od_L_registers an_L_registers od_L_leaf an_L_leaf od_L_expression an_L_expression od_L_stake an_L_stake od_L_deeds an_L_deeds od_L_doubter an_L_doubter od_L_counted an_L_counted od_L_lines an_L_lines od_L_one an_L_one od_L_house an_L_house od_L_all_ones an_L_all_ones od_L_walk an_L_walk od_L_rich an_L_rich od_L_is_number an_L_is_number od_L_is_member an_L_is_member od_L_due an_L_due od_L_odd an_L_odd od_L_bent an_L_bent od_L_right an_L_right od_law an_law : Option Addr} {sl_is_number sl_is_within sl_fits sl_first_word sl_fits_shape sl_has_shape sl_is_registers sl_parts sl_count_parts sl_is_expression sl_join_spans sl_span sl_leaves sl_borders sl_is_name sl_power sl_count_deed sl_count_deeds sl_is_stake sl_are_stakes sl_are_behinds sl_is_doubter sl_is_weight sl_is_one sl_is_member sl_are_members sl_stands sl_one_borders sl_crowd sl_is_house sl_L_hand sl_L_take sl_L_of sl_L_name sl_L_figure sl_L_registers sl_L_leaf sl_L_expression sl_L_stake sl_L_deeds sl_L_doubter sl_L_counted sl_L_lines sl_L_one sl_L_house sl_L_all_ones sl_L_walk sl_L_rich sl_L_is_number sl_L_is_member sl_L_due sl_L_odd sl_L_bent sl_L_right sl_law : Array (Option Value)} {oc_is_number kV_is_number dc_is_number pm_is_number cd_is_number ct_is_number oc_is_within kV_is_within dc_is_within pm_is_within cd_is_within ct_is_within oc_fits kV_fits dc_fits pm_fits cd_fits ct_fits oc_first_word kV_first_word dc_first_word pm_first_word cd_first_word ct_first_word oc_fits_shape kV_fits_shape dc_fits_shape pm_fits_shape cd_fits_shape ct_fits_shape oc_has_shape kV_has_shape dc_has_shape pm_has_shape cd_has_shape ct_has_shape oc_is_registers kV_is_registers dc_is_registers pm_is_registers cd_is_registers ct_is_registers oc_parts kV_parts dc_parts pm_parts cd_parts ct_parts oc_count_parts kV_count_parts dc_count_parts pm_count_parts cd_count_parts ct_count_parts oc_is_expression kV_is_expression dc_is_expression pm_is_expression cd_is_expression ct_is_expression oc_join_spans kV_join_spans dc_join_spans pm_join_spans cd_join_spans ct_join_spans oc_span kV_span dc_span pm_span cd_span ct_span oc_leaves kV_leaves dc_leaves pm_leaves cd_leaves ct_leaves oc_borders kV_borders dc_borders pm_borders cd_borders ct_borders oc_is_name kV_is_name dc_is_name pm_is_name cd_is_name ct_is_name oc_power kV_power dc_power pm_power cd_power ct_power oc_count_deed kV_count_deed dc_count_deed pm_count_deed cd_count_deed ct_count_deed oc_count_deeds kV_count_deeds dc_count_deeds pm_count_deeds cd_count_deeds ct_count_deeds oc_is_stake kV_is_stake dc_is_stake pm_is_stake cd_is_stake ct_is_stake oc_are_stakes kV_are_stakes dc_are_stakes pm_are_stakes cd_are_stakes ct_are_stakes oc_are_behinds kV_are_behinds dc_are_behinds pm_are_behinds cd_are_behinds ct_are_behinds oc_is_doubter kV_is_doubter dc_is_doubter pm_is_doubter cd_is_doubter ct_is_doubter oc_is_weight kV_is_weight dc_is_weight pm_is_weight cd_is_weight ct_is_weight oc_is_one kV_is_one dc_is_one pm_is_one cd_is_one ct_is_one oc_is_member kV_is_member dc_is_member pm_is_member cd_is_member ct_is_member oc_are_members kV_are_members dc_are_members pm_are_members cd_are_members ct_are_members oc_stands kV_stands dc_stands pm_stands cd_stands ct_stands oc_one_borders kV_one_borders dc_one_borders pm_one_borders cd_one_borders ct_one_borders oc_crowd kV_crowd dc_crowd pm_crowd cd_crowd ct_crowd oc_is_house kV_is_house dc_is_house pm_is_house cd_is_house ct_is_house oc_L_hand kV_L_hand dc_L_hand pm_L_hand cd_L_hand ct_L_hand oc_L_take kV_L_take dc_L_take pm_L_take cd_L_take ct_L_take oc_L_of kV_L_of dc_L_of pm_L_of cd_L_of ct_L_of oc_L_name kV_L_name dc_L_name pm_L_name cd_L_name ct_L_name oc_L_figure kV_L_figure dc_L_figure pm_L_figure cd_L_figure ct_L_figure oc_L_registers kV_L_registers dc_L_registers pm_L_registers cd_L_registers ct_L_registers oc_L_leaf kV_L_leaf dc_L_leaf pm_L_leaf cd_L_leaf ct_L_leaf oc_L_expression kV_L_expression dc_L_expression pm_L_expression cd_L_expression ct_L_expression oc_L_stake kV_L_stake dc_L_stake pm_L_stake cd_L_stake ct_L_stake oc_L_deeds kV_L_deeds dc_L_deeds pm_L_deeds cd_L_deeds ct_L_deeds oc_L_doubter kV_L_doubter dc_L_doubter pm_L_doubter cd_L_doubter ct_L_doubter oc_L_counted kV_L_counted dc_L_counted pm_L_counted cd_L_counted ct_L_counted oc_L_lines kV_L_lines dc_L_lines pm_L_lines cd_L_lines ct_L_lines oc_L_one kV_L_one dc_L_one pm_L_one cd_L_one ct_L_one oc_L_house kV_L_house dc_L_house pm_L_house cd_L_house ct_L_house oc_L_all_ones kV_L_all_ones dc_L_all_ones pm_L_all_ones cd_L_all_ones ct_L_all_ones oc_L_walk kV_L_walk dc_L_walk pm_L_walk cd_L_walk ct_L_walk oc_L_rich kV_L_rich dc_L_rich pm_L_rich cd_L_rich ct_L_rich oc_L_is_number kV_L_is_number dc_L_is_number pm_L_is_number cd_L_is_number ct_L_is_number oc_L_is_member kV_L_is_member dc_L_is_member pm_L_is_member cd_L_is_member ct_L_is_member oc_L_due kV_L_due dc_L_due pm_L_due cd_L_due ct_L_due oc_L_odd kV_L_odd dc_L_odd pm_L_odd cd_L_odd ct_L_odd oc_L_bent kV_L_bent dc_L_bent pm_L_bent cd_L_bent ct_L_bent oc_L_right kV_L_right dc_L_right pm_L_right cd_L_right ct_L_right oc_law kV_law dc_law pm_law cd_law ct_law : Value}
    (a_is_number : PySem.W.nsIn K mainGlobals "is_number" = some (some (.ref f_is_number))) (l_is_number : K.lookup f_is_number = some ⟨oc_is_number, od_is_number, .func (PySem.W.fnOf "is_number" "is_number" (defArgs s_is_number) (defBody s_is_number) (defScope s_is_number) .none kV_is_number dc_is_number pm_is_number an_is_number cd_is_number ct_is_number), sl_is_number⟩) (c_is_number : PySem.W.codeIn K cd_is_number "is_number" = true) (k_is_number : PySem.W.keepIn K (.ref f_is_number) = true)
    (a_is_within : PySem.W.nsIn K mainGlobals "is_within" = some (some (.ref f_is_within))) (l_is_within : K.lookup f_is_within = some ⟨oc_is_within, od_is_within, .func (PySem.W.fnOf "is_within" "is_within" (defArgs s_is_within) (defBody s_is_within) (defScope s_is_within) .none kV_is_within dc_is_within pm_is_within an_is_within cd_is_within ct_is_within), sl_is_within⟩) (c_is_within : PySem.W.codeIn K cd_is_within "is_within" = true) (k_is_within : PySem.W.keepIn K (.ref f_is_within) = true)
    (a_fits : PySem.W.nsIn K mainGlobals "fits" = some (some (.ref f_fits))) (l_fits : K.lookup f_fits = some ⟨oc_fits, od_fits, .func (PySem.W.fnOf "fits" "fits" (defArgs s_fits) (defBody s_fits) (defScope s_fits) .none kV_fits dc_fits pm_fits an_fits cd_fits ct_fits), sl_fits⟩) (c_fits : PySem.W.codeIn K cd_fits "fits" = true) (k_fits : PySem.W.keepIn K (.ref f_fits) = true)
    (a_first_word : PySem.W.nsIn K mainGlobals "first_word" = some (some (.ref f_first_word))) (l_first_word : K.lookup f_first_word = some ⟨oc_first_word, od_first_word, .func (PySem.W.fnOf "first_word" "first_word" (defArgs s_first_word) (defBody s_first_word) (defScope s_first_word) .none kV_first_word dc_first_word pm_first_word an_first_word cd_first_word ct_first_word), sl_first_word⟩) (c_first_word : PySem.W.codeIn K cd_first_word "first_word" = true) (k_first_word : PySem.W.keepIn K (.ref f_first_word) = true)
    (a_fits_shape : PySem.W.nsIn K mainGlobals "fits_shape" = some (some (.ref f_fits_shape))) (l_fits_shape : K.lookup f_fits_shape = some ⟨oc_fits_shape, od_fits_shape, .func (PySem.W.fnOf "fits_shape" "fits_shape" (defArgs s_fits_shape) (defBody s_fits_shape) (defScope s_fits_shape) .none kV_fits_shape dc_fits_shape pm_fits_shape an_fits_shape cd_fits_shape ct_fits_shape), sl_fits_shape⟩) (c_fits_shape : PySem.W.codeIn K cd_fits_shape "fits_shape" = true) (k_fits_shape : PySem.W.keepIn K (.ref f_fits_shape) = true)
    (a_has_shape : PySem.W.nsIn K mainGlobals "has_shape" = some (some (.ref f_has_shape))) (l_has_shape : K.lookup f_has_shape = some ⟨oc_has_shape, od_has_shape, .func (PySem.W.fnOf "has_shape" "has_shape" (defArgs s_has_shape) (defBody s_has_shape) (defScope s_has_shape) .none kV_has_shape dc_has_shape pm_has_shape an_has_shape cd_has_shape ct_has_shape), sl_has_shape⟩) (c_has_shape : PySem.W.codeIn K cd_has_shape "has_shape" = true) (k_has_shape : PySem.W.keepIn K (.ref f_has_shape) = true)
    (a_is_registers : PySem.W.nsIn K mainGlobals "is_registers" = some (some (.ref f_is_registers))) (l_is_registers : K.lookup f_is_registers = some ⟨oc_is_registers, od_is_registers, .func (PySem.W.fnOf "is_registers" "is_registers" (defArgs s_is_registers) (defBody s_is_registers) (defScope s_is_registers) .none kV_is_registers dc_is_registers pm_is_registers an_is_registers cd_is_registers ct_is_registers), sl_is_registers⟩) (c_is_registers : PySem.W.codeIn K cd_is_registers "is_registers" = true) (k_is_registers : PySem.W.keepIn K (.ref f_is_registers) = true)
    (a_parts : PySem.W.nsIn K mainGlobals "parts" = some (some (.ref f_parts))) (l_parts : K.lookup f_parts = some ⟨oc_parts, od_parts, .func (PySem.W.fnOf "parts" "parts" (defArgs s_parts) (defBody s_parts) (defScope s_parts) .none kV_parts dc_parts pm_parts an_parts cd_parts ct_parts), sl_parts⟩) (c_parts : PySem.W.codeIn K cd_parts "parts" = true) (k_parts : PySem.W.keepIn K (.ref f_parts) = true)
    (a_count_parts : PySem.W.nsIn K mainGlobals "count_parts" = some (some (.ref f_count_parts))) (l_count_parts : K.lookup f_count_parts = some ⟨oc_count_parts, od_count_parts, .func (PySem.W.fnOf "count_parts" "count_parts" (defArgs s_count_parts) (defBody s_count_parts) (defScope s_count_parts) .none kV_count_parts dc_count_parts pm_count_parts an_count_parts cd_count_parts ct_count_parts), sl_count_parts⟩) (c_count_parts : PySem.W.codeIn K cd_count_parts "count_parts" = true) (k_count_parts : PySem.W.keepIn K (.ref f_count_parts) = true)
    (a_is_expression : PySem.W.nsIn K mainGlobals "is_expression" = some (some (.ref f_is_expression))) (l_is_expression : K.lookup f_is_expression = some ⟨oc_is_expression, od_is_expression, .func (PySem.W.fnOf "is_expression" "is_expression" (defArgs s_is_expression) (defBody s_is_expression) (defScope s_is_expression) .none kV_is_expression dc_is_expression pm_is_expression an_is_expression cd_is_expression ct_is_expression), sl_is_expression⟩) (c_is_expression : PySem.W.codeIn K cd_is_expression "is_expression" = true) (k_is_expression : PySem.W.keepIn K (.ref f_is_expression) = true)
    (a_join_spans : PySem.W.nsIn K mainGlobals "join_spans" = some (some (.ref f_join_spans))) (l_join_spans : K.lookup f_join_spans = some ⟨oc_join_spans, od_join_spans, .func (PySem.W.fnOf "join_spans" "join_spans" (defArgs s_join_spans) (defBody s_join_spans) (defScope s_join_spans) .none kV_join_spans dc_join_spans pm_join_spans an_join_spans cd_join_spans ct_join_spans), sl_join_spans⟩) (c_join_spans : PySem.W.codeIn K cd_join_spans "join_spans" = true) (k_join_spans : PySem.W.keepIn K (.ref f_join_spans) = true)
    (a_span : PySem.W.nsIn K mainGlobals "span" = some (some (.ref f_span))) (l_span : K.lookup f_span = some ⟨oc_span, od_span, .func (PySem.W.fnOf "span" "span" (defArgs s_span) (defBody s_span) (defScope s_span) .none kV_span dc_span pm_span an_span cd_span ct_span), sl_span⟩) (c_span : PySem.W.codeIn K cd_span "span" = true) (k_span : PySem.W.keepIn K (.ref f_span) = true)
    (a_leaves : PySem.W.nsIn K mainGlobals "leaves" = some (some (.ref f_leaves))) (l_leaves : K.lookup f_leaves = some ⟨oc_leaves, od_leaves, .func (PySem.W.fnOf "leaves" "leaves" (defArgs s_leaves) (defBody s_leaves) (defScope s_leaves) .none kV_leaves dc_leaves pm_leaves an_leaves cd_leaves ct_leaves), sl_leaves⟩) (c_leaves : PySem.W.codeIn K cd_leaves "leaves" = true) (k_leaves : PySem.W.keepIn K (.ref f_leaves) = true)
    (a_borders : PySem.W.nsIn K mainGlobals "borders" = some (some (.ref f_borders))) (l_borders : K.lookup f_borders = some ⟨oc_borders, od_borders, .func (PySem.W.fnOf "borders" "borders" (defArgs s_borders) (defBody s_borders) (defScope s_borders) .none kV_borders dc_borders pm_borders an_borders cd_borders ct_borders), sl_borders⟩) (c_borders : PySem.W.codeIn K cd_borders "borders" = true) (k_borders : PySem.W.keepIn K (.ref f_borders) = true)
    (a_is_name : PySem.W.nsIn K mainGlobals "is_name" = some (some (.ref f_is_name))) (l_is_name : K.lookup f_is_name = some ⟨oc_is_name, od_is_name, .func (PySem.W.fnOf "is_name" "is_name" (defArgs s_is_name) (defBody s_is_name) (defScope s_is_name) .none kV_is_name dc_is_name pm_is_name an_is_name cd_is_name ct_is_name), sl_is_name⟩) (c_is_name : PySem.W.codeIn K cd_is_name "is_name" = true) (k_is_name : PySem.W.keepIn K (.ref f_is_name) = true)
    (a_power : PySem.W.nsIn K mainGlobals "power" = some (some (.ref f_power))) (l_power : K.lookup f_power = some ⟨oc_power, od_power, .func (PySem.W.fnOf "power" "power" (defArgs s_power) (defBody s_power) (defScope s_power) .none kV_power dc_power pm_power an_power cd_power ct_power), sl_power⟩) (c_power : PySem.W.codeIn K cd_power "power" = true) (k_power : PySem.W.keepIn K (.ref f_power) = true)
    (a_count_deed : PySem.W.nsIn K mainGlobals "count_deed" = some (some (.ref f_count_deed))) (l_count_deed : K.lookup f_count_deed = some ⟨oc_count_deed, od_count_deed, .func (PySem.W.fnOf "count_deed" "count_deed" (defArgs s_count_deed) (defBody s_count_deed) (defScope s_count_deed) .none kV_count_deed dc_count_deed pm_count_deed an_count_deed cd_count_deed ct_count_deed), sl_count_deed⟩) (c_count_deed : PySem.W.codeIn K cd_count_deed "count_deed" = true) (k_count_deed : PySem.W.keepIn K (.ref f_count_deed) = true)
    (a_count_deeds : PySem.W.nsIn K mainGlobals "count_deeds" = some (some (.ref f_count_deeds))) (l_count_deeds : K.lookup f_count_deeds = some ⟨oc_count_deeds, od_count_deeds, .func (PySem.W.fnOf "count_deeds" "count_deeds" (defArgs s_count_deeds) (defBody s_count_deeds) (defScope s_count_deeds) .none kV_count_deeds dc_count_deeds pm_count_deeds an_count_deeds cd_count_deeds ct_count_deeds), sl_count_deeds⟩) (c_count_deeds : PySem.W.codeIn K cd_count_deeds "count_deeds" = true) (k_count_deeds : PySem.W.keepIn K (.ref f_count_deeds) = true)
    (a_is_stake : PySem.W.nsIn K mainGlobals "is_stake" = some (some (.ref f_is_stake))) (l_is_stake : K.lookup f_is_stake = some ⟨oc_is_stake, od_is_stake, .func (PySem.W.fnOf "is_stake" "is_stake" (defArgs s_is_stake) (defBody s_is_stake) (defScope s_is_stake) .none kV_is_stake dc_is_stake pm_is_stake an_is_stake cd_is_stake ct_is_stake), sl_is_stake⟩) (c_is_stake : PySem.W.codeIn K cd_is_stake "is_stake" = true) (k_is_stake : PySem.W.keepIn K (.ref f_is_stake) = true)
    (a_are_stakes : PySem.W.nsIn K mainGlobals "are_stakes" = some (some (.ref f_are_stakes))) (l_are_stakes : K.lookup f_are_stakes = some ⟨oc_are_stakes, od_are_stakes, .func (PySem.W.fnOf "are_stakes" "are_stakes" (defArgs s_are_stakes) (defBody s_are_stakes) (defScope s_are_stakes) .none kV_are_stakes dc_are_stakes pm_are_stakes an_are_stakes cd_are_stakes ct_are_stakes), sl_are_stakes⟩) (c_are_stakes : PySem.W.codeIn K cd_are_stakes "are_stakes" = true) (k_are_stakes : PySem.W.keepIn K (.ref f_are_stakes) = true)
    (a_are_behinds : PySem.W.nsIn K mainGlobals "are_behinds" = some (some (.ref f_are_behinds))) (l_are_behinds : K.lookup f_are_behinds = some ⟨oc_are_behinds, od_are_behinds, .func (PySem.W.fnOf "are_behinds" "are_behinds" (defArgs s_are_behinds) (defBody s_are_behinds) (defScope s_are_behinds) .none kV_are_behinds dc_are_behinds pm_are_behinds an_are_behinds cd_are_behinds ct_are_behinds), sl_are_behinds⟩) (c_are_behinds : PySem.W.codeIn K cd_are_behinds "are_behinds" = true) (k_are_behinds : PySem.W.keepIn K (.ref f_are_behinds) = true)
    (a_is_doubter : PySem.W.nsIn K mainGlobals "is_doubter" = some (some (.ref f_is_doubter))) (l_is_doubter : K.lookup f_is_doubter = some ⟨oc_is_doubter, od_is_doubter, .func (PySem.W.fnOf "is_doubter" "is_doubter" (defArgs s_is_doubter) (defBody s_is_doubter) (defScope s_is_doubter) .none kV_is_doubter dc_is_doubter pm_is_doubter an_is_doubter cd_is_doubter ct_is_doubter), sl_is_doubter⟩) (c_is_doubter : PySem.W.codeIn K cd_is_doubter "is_doubter" = true) (k_is_doubter : PySem.W.keepIn K (.ref f_is_doubter) = true)
    (a_is_weight : PySem.W.nsIn K mainGlobals "is_weight" = some (some (.ref f_is_weight))) (l_is_weight : K.lookup f_is_weight = some ⟨oc_is_weight, od_is_weight, .func (PySem.W.fnOf "is_weight" "is_weight" (defArgs s_is_weight) (defBody s_is_weight) (defScope s_is_weight) .none kV_is_weight dc_is_weight pm_is_weight an_is_weight cd_is_weight ct_is_weight), sl_is_weight⟩) (c_is_weight : PySem.W.codeIn K cd_is_weight "is_weight" = true) (k_is_weight : PySem.W.keepIn K (.ref f_is_weight) = true)
    (a_is_one : PySem.W.nsIn K mainGlobals "is_one" = some (some (.ref f_is_one))) (l_is_one : K.lookup f_is_one = some ⟨oc_is_one, od_is_one, .func (PySem.W.fnOf "is_one" "is_one" (defArgs s_is_one) (defBody s_is_one) (defScope s_is_one) .none kV_is_one dc_is_one pm_is_one an_is_one cd_is_one ct_is_one), sl_is_one⟩) (c_is_one : PySem.W.codeIn K cd_is_one "is_one" = true) (k_is_one : PySem.W.keepIn K (.ref f_is_one) = true)
    (a_is_member : PySem.W.nsIn K mainGlobals "is_member" = some (some (.ref f_is_member))) (l_is_member : K.lookup f_is_member = some ⟨oc_is_member, od_is_member, .func (PySem.W.fnOf "is_member" "is_member" (defArgs s_is_member) (defBody s_is_member) (defScope s_is_member) .none kV_is_member dc_is_member pm_is_member an_is_member cd_is_member ct_is_member), sl_is_member⟩) (c_is_member : PySem.W.codeIn K cd_is_member "is_member" = true) (k_is_member : PySem.W.keepIn K (.ref f_is_member) = true)
    (a_are_members : PySem.W.nsIn K mainGlobals "are_members" = some (some (.ref f_are_members))) (l_are_members : K.lookup f_are_members = some ⟨oc_are_members, od_are_members, .func (PySem.W.fnOf "are_members" "are_members" (defArgs s_are_members) (defBody s_are_members) (defScope s_are_members) .none kV_are_members dc_are_members pm_are_members an_are_members cd_are_members ct_are_members), sl_are_members⟩) (c_are_members : PySem.W.codeIn K cd_are_members "are_members" = true) (k_are_members : PySem.W.keepIn K (.ref f_are_members) = true)
    (a_stands : PySem.W.nsIn K mainGlobals "stands" = some (some (.ref f_stands))) (l_stands : K.lookup f_stands = some ⟨oc_stands, od_stands, .func (PySem.W.fnOf "stands" "stands" (defArgs s_stands) (defBody s_stands) (defScope s_stands) .none kV_stands dc_stands pm_stands an_stands cd_stands ct_stands), sl_stands⟩) (c_stands : PySem.W.codeIn K cd_stands "stands" = true) (k_stands : PySem.W.keepIn K (.ref f_stands) = true)
    (a_one_borders : PySem.W.nsIn K mainGlobals "one_borders" = some (some (.ref f_one_borders))) (l_one_borders : K.lookup f_one_borders = some ⟨oc_one_borders, od_one_borders, .func (PySem.W.fnOf "one_borders" "one_borders" (defArgs s_one_borders) (defBody s_one_borders) (defScope s_one_borders) .none kV_one_borders dc_one_borders pm_one_borders an_one_borders cd_one_borders ct_one_borders), sl_one_borders⟩) (c_one_borders : PySem.W.codeIn K cd_one_borders "one_borders" = true) (k_one_borders : PySem.W.keepIn K (.ref f_one_borders) = true)
    (a_crowd : PySem.W.nsIn K mainGlobals "crowd" = some (some (.ref f_crowd))) (l_crowd : K.lookup f_crowd = some ⟨oc_crowd, od_crowd, .func (PySem.W.fnOf "crowd" "crowd" (defArgs s_crowd) (defBody s_crowd) (defScope s_crowd) .none kV_crowd dc_crowd pm_crowd an_crowd cd_crowd ct_crowd), sl_crowd⟩) (c_crowd : PySem.W.codeIn K cd_crowd "crowd" = true) (k_crowd : PySem.W.keepIn K (.ref f_crowd) = true)
    (a_is_house : PySem.W.nsIn K mainGlobals "is_house" = some (some (.ref f_is_house))) (l_is_house : K.lookup f_is_house = some ⟨oc_is_house, od_is_house, .func (PySem.W.fnOf "is_house" "is_house" (defArgs s_is_house) (defBody s_is_house) (defScope s_is_house) .none kV_is_house dc_is_house pm_is_house an_is_house cd_is_house ct_is_house), sl_is_house⟩) (c_is_house : PySem.W.codeIn K cd_is_house "is_house" = true) (k_is_house : PySem.W.keepIn K (.ref f_is_house) = true)
    (a_L_hand : PySem.W.nsIn K mainGlobals "_law_hand" = some (some (.ref f_L_hand))) (l_L_hand : K.lookup f_L_hand = some ⟨oc_L_hand, od_L_hand, .func (PySem.W.fnOf "_law_hand" "_law_hand" (defArgs s_L_hand) (defBody s_L_hand) (defScope s_L_hand) .none kV_L_hand dc_L_hand pm_L_hand an_L_hand cd_L_hand ct_L_hand), sl_L_hand⟩) (c_L_hand : PySem.W.codeIn K cd_L_hand "_law_hand" = true) (k_L_hand : PySem.W.keepIn K (.ref f_L_hand) = true)
    (a_L_take : PySem.W.nsIn K mainGlobals "_law_take" = some (some (.ref f_L_take))) (l_L_take : K.lookup f_L_take = some ⟨oc_L_take, od_L_take, .func (PySem.W.fnOf "_law_take" "_law_take" (defArgs s_L_take) (defBody s_L_take) (defScope s_L_take) .none kV_L_take dc_L_take pm_L_take an_L_take cd_L_take ct_L_take), sl_L_take⟩) (c_L_take : PySem.W.codeIn K cd_L_take "_law_take" = true) (k_L_take : PySem.W.keepIn K (.ref f_L_take) = true)
    (a_L_of : PySem.W.nsIn K mainGlobals "_law_of" = some (some (.ref f_L_of))) (l_L_of : K.lookup f_L_of = some ⟨oc_L_of, od_L_of, .func (PySem.W.fnOf "_law_of" "_law_of" (defArgs s_L_of) (defBody s_L_of) (defScope s_L_of) .none kV_L_of dc_L_of pm_L_of an_L_of cd_L_of ct_L_of), sl_L_of⟩) (c_L_of : PySem.W.codeIn K cd_L_of "_law_of" = true) (k_L_of : PySem.W.keepIn K (.ref f_L_of) = true)
    (a_L_name : PySem.W.nsIn K mainGlobals "_law_name" = some (some (.ref f_L_name))) (l_L_name : K.lookup f_L_name = some ⟨oc_L_name, od_L_name, .func (PySem.W.fnOf "_law_name" "_law_name" (defArgs s_L_name) (defBody s_L_name) (defScope s_L_name) .none kV_L_name dc_L_name pm_L_name an_L_name cd_L_name ct_L_name), sl_L_name⟩) (c_L_name : PySem.W.codeIn K cd_L_name "_law_name" = true) (k_L_name : PySem.W.keepIn K (.ref f_L_name) = true)
    (a_L_figure : PySem.W.nsIn K mainGlobals "_law_figure" = some (some (.ref f_L_figure))) (l_L_figure : K.lookup f_L_figure = some ⟨oc_L_figure, od_L_figure, .func (PySem.W.fnOf "_law_figure" "_law_figure" (defArgs s_L_figure) (defBody s_L_figure) (defScope s_L_figure) .none kV_L_figure dc_L_figure pm_L_figure an_L_figure cd_L_figure ct_L_figure), sl_L_figure⟩) (c_L_figure : PySem.W.codeIn K cd_L_figure "_law_figure" = true) (k_L_figure : PySem.W.keepIn K (.ref f_L_figure) = true)
    (a_L_registers : PySem.W.nsIn K mainGlobals "_law_registers" = some (some (.ref f_L_registers))) (l_L_registers : K.lookup f_L_registers = some ⟨oc_L_registers, od_L_registers, .func (PySem.W.fnOf "_law_registers" "_law_registers" (defArgs s_L_registers) (defBody s_L_registers) (defScope s_L_registers) .none kV_L_registers dc_L_registers pm_L_registers an_L_registers cd_L_registers ct_L_registers), sl_L_registers⟩) (c_L_registers : PySem.W.codeIn K cd_L_registers "_law_registers" = true) (k_L_registers : PySem.W.keepIn K (.ref f_L_registers) = true)
    (a_L_leaf : PySem.W.nsIn K mainGlobals "_law_leaf" = some (some (.ref f_L_leaf))) (l_L_leaf : K.lookup f_L_leaf = some ⟨oc_L_leaf, od_L_leaf, .func (PySem.W.fnOf "_law_leaf" "_law_leaf" (defArgs s_L_leaf) (defBody s_L_leaf) (defScope s_L_leaf) .none kV_L_leaf dc_L_leaf pm_L_leaf an_L_leaf cd_L_leaf ct_L_leaf), sl_L_leaf⟩) (c_L_leaf : PySem.W.codeIn K cd_L_leaf "_law_leaf" = true) (k_L_leaf : PySem.W.keepIn K (.ref f_L_leaf) = true)
    (a_L_expression : PySem.W.nsIn K mainGlobals "_law_expression" = some (some (.ref f_L_expression))) (l_L_expression : K.lookup f_L_expression = some ⟨oc_L_expression, od_L_expression, .func (PySem.W.fnOf "_law_expression" "_law_expression" (defArgs s_L_expression) (defBody s_L_expression) (defScope s_L_expression) .none kV_L_expression dc_L_expression pm_L_expression an_L_expression cd_L_expression ct_L_expression), sl_L_expression⟩) (c_L_expression : PySem.W.codeIn K cd_L_expression "_law_expression" = true) (k_L_expression : PySem.W.keepIn K (.ref f_L_expression) = true)
    (a_L_stake : PySem.W.nsIn K mainGlobals "_law_stake" = some (some (.ref f_L_stake))) (l_L_stake : K.lookup f_L_stake = some ⟨oc_L_stake, od_L_stake, .func (PySem.W.fnOf "_law_stake" "_law_stake" (defArgs s_L_stake) (defBody s_L_stake) (defScope s_L_stake) .none kV_L_stake dc_L_stake pm_L_stake an_L_stake cd_L_stake ct_L_stake), sl_L_stake⟩) (c_L_stake : PySem.W.codeIn K cd_L_stake "_law_stake" = true) (k_L_stake : PySem.W.keepIn K (.ref f_L_stake) = true)
    (a_L_deeds : PySem.W.nsIn K mainGlobals "_law_deeds" = some (some (.ref f_L_deeds))) (l_L_deeds : K.lookup f_L_deeds = some ⟨oc_L_deeds, od_L_deeds, .func (PySem.W.fnOf "_law_deeds" "_law_deeds" (defArgs s_L_deeds) (defBody s_L_deeds) (defScope s_L_deeds) .none kV_L_deeds dc_L_deeds pm_L_deeds an_L_deeds cd_L_deeds ct_L_deeds), sl_L_deeds⟩) (c_L_deeds : PySem.W.codeIn K cd_L_deeds "_law_deeds" = true) (k_L_deeds : PySem.W.keepIn K (.ref f_L_deeds) = true)
    (a_L_doubter : PySem.W.nsIn K mainGlobals "_law_doubter" = some (some (.ref f_L_doubter))) (l_L_doubter : K.lookup f_L_doubter = some ⟨oc_L_doubter, od_L_doubter, .func (PySem.W.fnOf "_law_doubter" "_law_doubter" (defArgs s_L_doubter) (defBody s_L_doubter) (defScope s_L_doubter) .none kV_L_doubter dc_L_doubter pm_L_doubter an_L_doubter cd_L_doubter ct_L_doubter), sl_L_doubter⟩) (c_L_doubter : PySem.W.codeIn K cd_L_doubter "_law_doubter" = true) (k_L_doubter : PySem.W.keepIn K (.ref f_L_doubter) = true)
    (a_L_counted : PySem.W.nsIn K mainGlobals "_law_counted" = some (some (.ref f_L_counted))) (l_L_counted : K.lookup f_L_counted = some ⟨oc_L_counted, od_L_counted, .func (PySem.W.fnOf "_law_counted" "_law_counted" (defArgs s_L_counted) (defBody s_L_counted) (defScope s_L_counted) .none kV_L_counted dc_L_counted pm_L_counted an_L_counted cd_L_counted ct_L_counted), sl_L_counted⟩) (c_L_counted : PySem.W.codeIn K cd_L_counted "_law_counted" = true) (k_L_counted : PySem.W.keepIn K (.ref f_L_counted) = true)
    (a_L_lines : PySem.W.nsIn K mainGlobals "_law_lines" = some (some (.ref f_L_lines))) (l_L_lines : K.lookup f_L_lines = some ⟨oc_L_lines, od_L_lines, .func (PySem.W.fnOf "_law_lines" "_law_lines" (defArgs s_L_lines) (defBody s_L_lines) (defScope s_L_lines) .none kV_L_lines dc_L_lines pm_L_lines an_L_lines cd_L_lines ct_L_lines), sl_L_lines⟩) (c_L_lines : PySem.W.codeIn K cd_L_lines "_law_lines" = true) (k_L_lines : PySem.W.keepIn K (.ref f_L_lines) = true)
    (a_L_one : PySem.W.nsIn K mainGlobals "_law_one" = some (some (.ref f_L_one))) (l_L_one : K.lookup f_L_one = some ⟨oc_L_one, od_L_one, .func (PySem.W.fnOf "_law_one" "_law_one" (defArgs s_L_one) (defBody s_L_one) (defScope s_L_one) .none kV_L_one dc_L_one pm_L_one an_L_one cd_L_one ct_L_one), sl_L_one⟩) (c_L_one : PySem.W.codeIn K cd_L_one "_law_one" = true) (k_L_one : PySem.W.keepIn K (.ref f_L_one) = true)
    (a_L_house : PySem.W.nsIn K mainGlobals "_law_house" = some (some (.ref f_L_house))) (l_L_house : K.lookup f_L_house = some ⟨oc_L_house, od_L_house, .func (PySem.W.fnOf "_law_house" "_law_house" (defArgs s_L_house) (defBody s_L_house) (defScope s_L_house) .none kV_L_house dc_L_house pm_L_house an_L_house cd_L_house ct_L_house), sl_L_house⟩) (c_L_house : PySem.W.codeIn K cd_L_house "_law_house" = true) (k_L_house : PySem.W.keepIn K (.ref f_L_house) = true)
    (a_L_all_ones : PySem.W.nsIn K mainGlobals "_law_all_ones" = some (some (.ref f_L_all_ones))) (l_L_all_ones : K.lookup f_L_all_ones = some ⟨oc_L_all_ones, od_L_all_ones, .func (PySem.W.fnOf "_law_all_ones" "_law_all_ones" (defArgs s_L_all_ones) (defBody s_L_all_ones) (defScope s_L_all_ones) .none kV_L_all_ones dc_L_all_ones pm_L_all_ones an_L_all_ones cd_L_all_ones ct_L_all_ones), sl_L_all_ones⟩) (c_L_all_ones : PySem.W.codeIn K cd_L_all_ones "_law_all_ones" = true) (k_L_all_ones : PySem.W.keepIn K (.ref f_L_all_ones) = true)
    (a_L_walk : PySem.W.nsIn K mainGlobals "_law_walk" = some (some (.ref f_L_walk))) (l_L_walk : K.lookup f_L_walk = some ⟨oc_L_walk, od_L_walk, .func (PySem.W.fnOf "_law_walk" "_law_walk" (defArgs s_L_walk) (defBody s_L_walk) (defScope s_L_walk) .none kV_L_walk dc_L_walk pm_L_walk an_L_walk cd_L_walk ct_L_walk), sl_L_walk⟩) (c_L_walk : PySem.W.codeIn K cd_L_walk "_law_walk" = true) (k_L_walk : PySem.W.keepIn K (.ref f_L_walk) = true)
    (a_L_rich : PySem.W.nsIn K mainGlobals "_law_rich" = some (some (.ref f_L_rich))) (l_L_rich : K.lookup f_L_rich = some ⟨oc_L_rich, od_L_rich, .func (PySem.W.fnOf "_law_rich" "_law_rich" (defArgs s_L_rich) (defBody s_L_rich) (defScope s_L_rich) .none kV_L_rich dc_L_rich pm_L_rich an_L_rich cd_L_rich ct_L_rich), sl_L_rich⟩) (c_L_rich : PySem.W.codeIn K cd_L_rich "_law_rich" = true) (k_L_rich : PySem.W.keepIn K (.ref f_L_rich) = true)
    (a_L_is_number : PySem.W.nsIn K mainGlobals "_law_is_number" = some (some (.ref f_L_is_number))) (l_L_is_number : K.lookup f_L_is_number = some ⟨oc_L_is_number, od_L_is_number, .func (PySem.W.fnOf "_law_is_number" "_law_is_number" (defArgs s_L_is_number) (defBody s_L_is_number) (defScope s_L_is_number) .none kV_L_is_number dc_L_is_number pm_L_is_number an_L_is_number cd_L_is_number ct_L_is_number), sl_L_is_number⟩) (c_L_is_number : PySem.W.codeIn K cd_L_is_number "_law_is_number" = true) (k_L_is_number : PySem.W.keepIn K (.ref f_L_is_number) = true)
    (a_L_is_member : PySem.W.nsIn K mainGlobals "_law_is_member" = some (some (.ref f_L_is_member))) (l_L_is_member : K.lookup f_L_is_member = some ⟨oc_L_is_member, od_L_is_member, .func (PySem.W.fnOf "_law_is_member" "_law_is_member" (defArgs s_L_is_member) (defBody s_L_is_member) (defScope s_L_is_member) .none kV_L_is_member dc_L_is_member pm_L_is_member an_L_is_member cd_L_is_member ct_L_is_member), sl_L_is_member⟩) (c_L_is_member : PySem.W.codeIn K cd_L_is_member "_law_is_member" = true) (k_L_is_member : PySem.W.keepIn K (.ref f_L_is_member) = true)
    (a_L_due : PySem.W.nsIn K mainGlobals "_law_due" = some (some (.ref f_L_due))) (l_L_due : K.lookup f_L_due = some ⟨oc_L_due, od_L_due, .func (PySem.W.fnOf "_law_due" "_law_due" (defArgs s_L_due) (defBody s_L_due) (defScope s_L_due) .none kV_L_due dc_L_due pm_L_due an_L_due cd_L_due ct_L_due), sl_L_due⟩) (c_L_due : PySem.W.codeIn K cd_L_due "_law_due" = true) (k_L_due : PySem.W.keepIn K (.ref f_L_due) = true)
    (a_L_odd : PySem.W.nsIn K mainGlobals "_law_odd" = some (some (.ref f_L_odd))) (l_L_odd : K.lookup f_L_odd = some ⟨oc_L_odd, od_L_odd, .func (PySem.W.fnOf "_law_odd" "_law_odd" (defArgs s_L_odd) (defBody s_L_odd) (defScope s_L_odd) .none kV_L_odd dc_L_odd pm_L_odd an_L_odd cd_L_odd ct_L_odd), sl_L_odd⟩) (c_L_odd : PySem.W.codeIn K cd_L_odd "_law_odd" = true) (k_L_odd : PySem.W.keepIn K (.ref f_L_odd) = true)
    (a_L_bent : PySem.W.nsIn K mainGlobals "_law_bent" = some (some (.ref f_L_bent))) (l_L_bent : K.lookup f_L_bent = some ⟨oc_L_bent, od_L_bent, .func (PySem.W.fnOf "_law_bent" "_law_bent" (defArgs s_L_bent) (defBody s_L_bent) (defScope s_L_bent) .none kV_L_bent dc_L_bent pm_L_bent an_L_bent cd_L_bent ct_L_bent), sl_L_bent⟩) (c_L_bent : PySem.W.codeIn K cd_L_bent "_law_bent" = true) (k_L_bent : PySem.W.keepIn K (.ref f_L_bent) = true)
    (a_L_right : PySem.W.nsIn K mainGlobals "_law_right" = some (some (.ref f_L_right))) (l_L_right : K.lookup f_L_right = some ⟨oc_L_right, od_L_right, .func (PySem.W.fnOf "_law_right" "_law_right" (defArgs s_L_right) (defBody s_L_right) (defScope s_L_right) .none kV_L_right dc_L_right pm_L_right an_L_right cd_L_right ct_L_right), sl_L_right⟩) (c_L_right : PySem.W.codeIn K cd_L_right "_law_right" = true) (k_L_right : PySem.W.keepIn K (.ref f_L_right) = true)
    (a_law : PySem.W.nsIn K mainGlobals "law" = some (some (.ref f_law))) (l_law : K.lookup f_law = some ⟨oc_law, od_law, .func (PySem.W.fnOf "law" "law" (defArgs s_law) (defBody s_law) (defScope s_law) .none kV_law dc_law pm_law an_law cd_law ct_law), sl_law⟩) (c_law : PySem.W.codeIn K cd_law "law" = true) (k_law : PySem.W.keepIn K (.ref f_law) = true)
    {d_S : Addr} {es_S : Array DictEntry} {n_S : Nat} (a_S : PySem.W.nsIn K mainGlobals "SHAPES" = some (some (.ref d_S))) (l_S : K.lookup d_S = some ⟨.type "dict", none, .dict es_S n_S, #[]⟩) (k_S : PySem.W.KeysLit w.params es_S.toList)
    (w_S : (d_S == sysModules) = false)
    (x_S : ktx es_S.toList = [some ("fig" : Str), some ("reg" : Str), some ("share" : Str), some ("sum" : Str), some ("less" : Str), some ("times" : Str), some ("by" : Str), some ("least" : Str), some ("most" : Str), some ("when" : Str), some ("where" : Str)])
    {q_fig : Addr} {tod_fig : Option Addr} {its_fig : Array Value} {tm_fig : Nat} {tsl_fig : Array (Option Value)} (n_fig : PySem.W.nsIn K d_S "fig" = some (some (.ref q_fig))) (t_fig : K.lookup q_fig = some ⟨.type "tuple", tod_fig, .seq its_fig tm_fig, tsl_fig⟩) (v_fig : Vals [.str "figure"] its_fig.toList)
    {q_reg : Addr} {tod_reg : Option Addr} {its_reg : Array Value} {tm_reg : Nat} {tsl_reg : Array (Option Value)} (n_reg : PySem.W.nsIn K d_S "reg" = some (some (.ref q_reg))) (t_reg : K.lookup q_reg = some ⟨.type "tuple", tod_reg, .seq its_reg tm_reg, tsl_reg⟩) (v_reg : Vals [.str "place"] its_reg.toList)
    {q_share : Addr} {tod_share : Option Addr} {its_share : Array Value} {tm_share : Nat} {tsl_share : Array (Option Value)} (n_share : PySem.W.nsIn K d_S "share" = some (some (.ref q_share))) (t_share : K.lookup q_share = some ⟨.type "tuple", tod_share, .seq its_share tm_share, tsl_share⟩) (v_share : Vals [.str "sign"] its_share.toList)
    {q_sum : Addr} {tod_sum : Option Addr} {its_sum : Array Value} {tm_sum : Nat} {tsl_sum : Array (Option Value)} (n_sum : PySem.W.nsIn K d_S "sum" = some (some (.ref q_sum))) (t_sum : K.lookup q_sum = some ⟨.type "tuple", tod_sum, .seq its_sum tm_sum, tsl_sum⟩) (v_sum : Vals [.str "part", .str "part"] its_sum.toList)
    {q_less : Addr} {tod_less : Option Addr} {its_less : Array Value} {tm_less : Nat} {tsl_less : Array (Option Value)} (n_less : PySem.W.nsIn K d_S "less" = some (some (.ref q_less))) (t_less : K.lookup q_less = some ⟨.type "tuple", tod_less, .seq its_less tm_less, tsl_less⟩) (v_less : Vals [.str "part", .str "part"] its_less.toList)
    {q_times : Addr} {tod_times : Option Addr} {its_times : Array Value} {tm_times : Nat} {tsl_times : Array (Option Value)} (n_times : PySem.W.nsIn K d_S "times" = some (some (.ref q_times))) (t_times : K.lookup q_times = some ⟨.type "tuple", tod_times, .seq its_times tm_times, tsl_times⟩) (v_times : Vals [.str "factor", .str "part"] its_times.toList)
    {q_by : Addr} {tod_by : Option Addr} {its_by : Array Value} {tm_by : Nat} {tsl_by : Array (Option Value)} (n_by : PySem.W.nsIn K d_S "by" = some (some (.ref q_by))) (t_by : K.lookup q_by = some ⟨.type "tuple", tod_by, .seq its_by tm_by, tsl_by⟩) (v_by : Vals [.str "place", .str "part"] its_by.toList)
    {q_least : Addr} {tod_least : Option Addr} {its_least : Array Value} {tm_least : Nat} {tsl_least : Array (Option Value)} (n_least : PySem.W.nsIn K d_S "least" = some (some (.ref q_least))) (t_least : K.lookup q_least = some ⟨.type "tuple", tod_least, .seq its_least tm_least, tsl_least⟩) (v_least : Vals [.str "part", .str "part"] its_least.toList)
    {q_most : Addr} {tod_most : Option Addr} {its_most : Array Value} {tm_most : Nat} {tsl_most : Array (Option Value)} (n_most : PySem.W.nsIn K d_S "most" = some (some (.ref q_most))) (t_most : K.lookup q_most = some ⟨.type "tuple", tod_most, .seq its_most tm_most, tsl_most⟩) (v_most : Vals [.str "part", .str "part"] its_most.toList)
    {q_when : Addr} {tod_when : Option Addr} {its_when : Array Value} {tm_when : Nat} {tsl_when : Array (Option Value)} (n_when : PySem.W.nsIn K d_S "when" = some (some (.ref q_when))) (t_when : K.lookup q_when = some ⟨.type "tuple", tod_when, .seq its_when tm_when, tsl_when⟩) (v_when : Vals [.str "place", .str "figure", .str "part", .str "part"] its_when.toList)
    {q_where : Addr} {tod_where : Option Addr} {its_where : Array Value} {tm_where : Nat} {tsl_where : Array (Option Value)} (n_where : PySem.W.nsIn K d_S "where" = some (some (.ref q_where))) (t_where : K.lookup q_where = some ⟨.type "tuple", tod_where, .seq its_where tm_where, tsl_where⟩) (v_where : Vals [.str "sign", .str "line", .str "part", .str "part"] its_where.toList)
    {d_DEEDS : Addr} {es_DEEDS : Array DictEntry} {n_DEEDS : Nat} (a_DEEDS : PySem.W.nsIn K mainGlobals "DEEDS" = some (some (.ref d_DEEDS))) (l_DEEDS : K.lookup d_DEEDS = some ⟨.type "dict", none, .dict es_DEEDS n_DEEDS, #[]⟩) (k_DEEDS : PySem.W.KeysLit w.params es_DEEDS.toList) (w_DEEDS : (d_DEEDS == sysModules) = false)
    (x_DEEDS : ktx es_DEEDS.toList = [some ("put" : Str), some ("add" : Str), some ("copy" : Str), some ("plus" : Str), some ("told" : Str), some ("when" : Str)])
    {q_DEEDS_put : Addr} {tod_DEEDS_put : Option Addr} {its_DEEDS_put : Array Value} {tm_DEEDS_put : Nat} {tsl_DEEDS_put : Array (Option Value)} (n_DEEDS_put : PySem.W.nsIn K d_DEEDS "put" = some (some (.ref q_DEEDS_put))) (t_DEEDS_put : K.lookup q_DEEDS_put = some ⟨.type "tuple", tod_DEEDS_put, .seq its_DEEDS_put tm_DEEDS_put, tsl_DEEDS_put⟩) (v_DEEDS_put : Vals [.str "place", .str "figure"] its_DEEDS_put.toList)
    {q_DEEDS_add : Addr} {tod_DEEDS_add : Option Addr} {its_DEEDS_add : Array Value} {tm_DEEDS_add : Nat} {tsl_DEEDS_add : Array (Option Value)} (n_DEEDS_add : PySem.W.nsIn K d_DEEDS "add" = some (some (.ref q_DEEDS_add))) (t_DEEDS_add : K.lookup q_DEEDS_add = some ⟨.type "tuple", tod_DEEDS_add, .seq its_DEEDS_add tm_DEEDS_add, tsl_DEEDS_add⟩) (v_DEEDS_add : Vals [.str "place", .str "figure"] its_DEEDS_add.toList)
    {q_DEEDS_copy : Addr} {tod_DEEDS_copy : Option Addr} {its_DEEDS_copy : Array Value} {tm_DEEDS_copy : Nat} {tsl_DEEDS_copy : Array (Option Value)} (n_DEEDS_copy : PySem.W.nsIn K d_DEEDS "copy" = some (some (.ref q_DEEDS_copy))) (t_DEEDS_copy : K.lookup q_DEEDS_copy = some ⟨.type "tuple", tod_DEEDS_copy, .seq its_DEEDS_copy tm_DEEDS_copy, tsl_DEEDS_copy⟩) (v_DEEDS_copy : Vals [.str "place", .str "place"] its_DEEDS_copy.toList)
    {q_DEEDS_plus : Addr} {tod_DEEDS_plus : Option Addr} {its_DEEDS_plus : Array Value} {tm_DEEDS_plus : Nat} {tsl_DEEDS_plus : Array (Option Value)} (n_DEEDS_plus : PySem.W.nsIn K d_DEEDS "plus" = some (some (.ref q_DEEDS_plus))) (t_DEEDS_plus : K.lookup q_DEEDS_plus = some ⟨.type "tuple", tod_DEEDS_plus, .seq its_DEEDS_plus tm_DEEDS_plus, tsl_DEEDS_plus⟩) (v_DEEDS_plus : Vals [.str "place", .str "place"] its_DEEDS_plus.toList)
    {q_DEEDS_told : Addr} {tod_DEEDS_told : Option Addr} {its_DEEDS_told : Array Value} {tm_DEEDS_told : Nat} {tsl_DEEDS_told : Array (Option Value)} (n_DEEDS_told : PySem.W.nsIn K d_DEEDS "told" = some (some (.ref q_DEEDS_told))) (t_DEEDS_told : K.lookup q_DEEDS_told = some ⟨.type "tuple", tod_DEEDS_told, .seq its_DEEDS_told tm_DEEDS_told, tsl_DEEDS_told⟩) (v_DEEDS_told : Vals [.str "place", .str "sign"] its_DEEDS_told.toList)
    {q_DEEDS_when : Addr} {tod_DEEDS_when : Option Addr} {its_DEEDS_when : Array Value} {tm_DEEDS_when : Nat} {tsl_DEEDS_when : Array (Option Value)} (n_DEEDS_when : PySem.W.nsIn K d_DEEDS "when" = some (some (.ref q_DEEDS_when))) (t_DEEDS_when : K.lookup q_DEEDS_when = some ⟨.type "tuple", tod_DEEDS_when, .seq its_DEEDS_when tm_DEEDS_when, tsl_DEEDS_when⟩) (v_DEEDS_when : Vals [.str "place", .str "figure", .str "part", .str "part"] its_DEEDS_when.toList)
    {d_BOUNDS : Addr} {es_BOUNDS : Array DictEntry} {n_BOUNDS : Nat} (a_BOUNDS : PySem.W.nsIn K mainGlobals "BOUNDS" = some (some (.ref d_BOUNDS))) (l_BOUNDS : K.lookup d_BOUNDS = some ⟨.type "dict", none, .dict es_BOUNDS n_BOUNDS, #[]⟩) (k_BOUNDS : PySem.W.KeysLit w.params es_BOUNDS.toList) (w_BOUNDS : (d_BOUNDS == sysModules) = false)
    {q_BOUNDS_figure : Addr} {tod_BOUNDS_figure : Option Addr} {its_BOUNDS_figure : Array Value} {tm_BOUNDS_figure : Nat} {tsl_BOUNDS_figure : Array (Option Value)} (n_BOUNDS_figure : PySem.W.nsIn K d_BOUNDS "figure" = some (some (.ref q_BOUNDS_figure))) (t_BOUNDS_figure : K.lookup q_BOUNDS_figure = some ⟨.type "tuple", tod_BOUNDS_figure, .seq its_BOUNDS_figure tm_BOUNDS_figure, tsl_BOUNDS_figure⟩) (v_BOUNDS_figure : Vals [.int (-1000), .int (1000)] its_BOUNDS_figure.toList)
    {q_BOUNDS_place : Addr} {tod_BOUNDS_place : Option Addr} {its_BOUNDS_place : Array Value} {tm_BOUNDS_place : Nat} {tsl_BOUNDS_place : Array (Option Value)} (n_BOUNDS_place : PySem.W.nsIn K d_BOUNDS "place" = some (some (.ref q_BOUNDS_place))) (t_BOUNDS_place : K.lookup q_BOUNDS_place = some ⟨.type "tuple", tod_BOUNDS_place, .seq its_BOUNDS_place tm_BOUNDS_place, tsl_BOUNDS_place⟩) (v_BOUNDS_place : Vals [.int (0), .int (3)] its_BOUNDS_place.toList)
    {q_BOUNDS_factor : Addr} {tod_BOUNDS_factor : Option Addr} {its_BOUNDS_factor : Array Value} {tm_BOUNDS_factor : Nat} {tsl_BOUNDS_factor : Array (Option Value)} (n_BOUNDS_factor : PySem.W.nsIn K d_BOUNDS "factor" = some (some (.ref q_BOUNDS_factor))) (t_BOUNDS_factor : K.lookup q_BOUNDS_factor = some ⟨.type "tuple", tod_BOUNDS_factor, .seq its_BOUNDS_factor tm_BOUNDS_factor, tsl_BOUNDS_factor⟩) (v_BOUNDS_factor : Vals [.int (-9), .int (9)] its_BOUNDS_factor.toList)
    {q_BOUNDS_line : Addr} {tod_BOUNDS_line : Option Addr} {its_BOUNDS_line : Array Value} {tm_BOUNDS_line : Nat} {tsl_BOUNDS_line : Array (Option Value)} (n_BOUNDS_line : PySem.W.nsIn K d_BOUNDS "line" = some (some (.ref q_BOUNDS_line))) (t_BOUNDS_line : K.lookup q_BOUNDS_line = some ⟨.type "tuple", tod_BOUNDS_line, .seq its_BOUNDS_line tm_BOUNDS_line, tsl_BOUNDS_line⟩) (v_BOUNDS_line : Vals [.int (1), .int (1000)] its_BOUNDS_line.toList)
    {d_MOST_BORDERS : Addr} {es_MOST_BORDERS : Array DictEntry} {n_MOST_BORDERS : Nat} (a_MOST_BORDERS : PySem.W.nsIn K mainGlobals "MOST_BORDERS" = some (some (.ref d_MOST_BORDERS))) (l_MOST_BORDERS : K.lookup d_MOST_BORDERS = some ⟨.type "dict", none, .dict es_MOST_BORDERS n_MOST_BORDERS, #[]⟩) (k_MOST_BORDERS : ∀ e ∈ es_MOST_BORDERS.toList, ∃ k : Key, keyIs k e.key = true ∧ e.hash = keyH w k)
    {u_MOST_BORDERS_2 : Value} (f_MOST_BORDERS_2 : (es_MOST_BORDERS.find? fun e => keyIs (Sum.inl 2) e.key).map (·.val) = some u_MOST_BORDERS_2) (v_MOST_BORDERS_2 : RelV (.int 400) u_MOST_BORDERS_2)
    {u_MOST_BORDERS_3 : Value} (f_MOST_BORDERS_3 : (es_MOST_BORDERS.find? fun e => keyIs (Sum.inl 3) e.key).map (·.val) = some u_MOST_BORDERS_3) (v_MOST_BORDERS_3 : RelV (.int 60) u_MOST_BORDERS_3)
    {t_GREATEST_SCALE : Tok} (i_GREATEST_SCALE : PySem.W.nsIn K mainGlobals "GREATEST_SCALE" = some (some (.int (4) t_GREATEST_SCALE)))
    {t_MOST_PARTS : Tok} (i_MOST_PARTS : PySem.W.nsIn K mainGlobals "MOST_PARTS" = some (some (.int (40) t_MOST_PARTS)))
    {t_MOST_DEEP_expressions : Tok} (i_MOST_DEEP_expressions : PySem.W.nsIn K mainGlobals "MOST_DEEP_expressions" = some (some (.int (8) t_MOST_DEEP_expressions)))
    {t_MOST_DEEP_doubters : Tok} (i_MOST_DEEP_doubters : PySem.W.nsIn K mainGlobals "MOST_DEEP_doubters" = some (some (.int (4) t_MOST_DEEP_doubters)))
    {t_HOW_MANY_REGISTERS : Tok} (i_HOW_MANY_REGISTERS : PySem.W.nsIn K mainGlobals "HOW_MANY_REGISTERS" = some (some (.int (4) t_HOW_MANY_REGISTERS)))
    {t_LONGEST_NAME : Tok} (i_LONGEST_NAME : PySem.W.nsIn K mainGlobals "LONGEST_NAME" = some (some (.int (8) t_LONGEST_NAME)))
    {t_MOST_DEEDS : Tok} (i_MOST_DEEDS : PySem.W.nsIn K mainGlobals "MOST_DEEDS" = some (some (.int (20) t_MOST_DEEDS)))
    {t_WIDEST : Tok} (i_WIDEST : PySem.W.nsIn K mainGlobals "WIDEST" = some (some (.int (500) t_WIDEST)))
    {t_MOST_ONES : Tok} (i_MOST_ONES : PySem.W.nsIn K mainGlobals "MOST_ONES" = some (some (.int (12) t_MOST_ONES)))
    {t_MOST_HOUSES : Tok} (i_MOST_HOUSES : PySem.W.nsIn K mainGlobals "MOST_HOUSES" = some (some (.int (12) t_MOST_HOUSES)))
    {t_MOST_DEEP_houses : Tok} (i_MOST_DEEP_houses : PySem.W.nsIn K mainGlobals "MOST_DEEP_houses" = some (some (.int (3) t_MOST_DEEP_houses)))
    {t_MOST_WEIGHT : Tok} (i_MOST_WEIGHT : PySem.W.nsIn K mainGlobals "MOST_WEIGHT" = some (some (.int (1000000000000) t_MOST_WEIGHT)))
    {t_LETTERS : Tok} (i_LETTERS : PySem.W.nsIn K mainGlobals "LETTERS" = some (some (.str "abcdefghijklmnopqrstuvwxyz" t_LETTERS)))
    (z_len : PySem.W.nsIn K mainGlobals "len" = some none)
    (z_sum : PySem.W.nsIn K mainGlobals "sum" = some none)
    (z_max : PySem.W.nsIn K mainGlobals "max" = some none)
    (z_min : PySem.W.nsIn K mainGlobals "min" = some none)
    (z_abs : PySem.W.nsIn K mainGlobals "abs" = some none)
    (z_int : PySem.W.nsIn K mainGlobals "int" = some none)
    (z_tuple : PySem.W.nsIn K mainGlobals "tuple" = some none)
    (z_range : PySem.W.nsIn K mainGlobals "range" = some none)
    (z_sorted : PySem.W.nsIn K mainGlobals "sorted" = some none)
    (z_zip : PySem.W.nsIn K mainGlobals "zip" = some none)
    (z_isinstance : PySem.W.nsIn K mainGlobals "isinstance" = some none)
    (z_list : PySem.W.nsIn K mainGlobals "list" = some none)
    (z_all : PySem.W.nsIn K mainGlobals "all" = some none)
    (z_repr : PySem.W.nsIn K mainGlobals "repr" = some none)
    (z_str : PySem.W.nsIn K mainGlobals "str" = some none)
    (z_enumerate : PySem.W.nsIn K mainGlobals "enumerate" = some none)
    (z_bool : PySem.W.nsIn K mainGlobals "bool" = some none)
    : ∃ fd : FuncData, (∀ (s : Shared) (v : Value), BindsTo s fd ⟨[v], []⟩ [("_law_script", v)]) ∧ ∀ base : Heap, K.In base → base.Ns mainGlobals mg → FnG l.prog w K mg base 31 fa fd ["_law_script"] (spLaw K) := by
  have e := hfa.symm.trans (PySem.W.mg_of X G a_law)
  cases e
  have F_is_number := fun_mk (st := s_is_number) l_is_number c_is_number k_is_number
  have g_is_number := PySem.W.mg_of X G a_is_number
  have b_is_number := F_is_number.binds (ps := ["thing"]) fun _ _ _ _ _ _ us hl => match us, hl with | [_], _ => rfl
  have F_is_within := fun_mk (st := s_is_within) l_is_within c_is_within k_is_within
  have g_is_within := PySem.W.mg_of X G a_is_within
  have b_is_within := F_is_within.binds (ps := ["thing", "low", "high"]) fun _ _ _ _ _ _ us hl => match us, hl with | [_, _, _], _ => rfl
  have F_fits := fun_mk (st := s_fits) l_fits c_fits k_fits
  have g_fits := PySem.W.mg_of X G a_fits
  have b_fits := F_fits.binds (ps := ["kind", "thing", "many"]) fun _ _ _ _ _ _ us hl => match us, hl with | [_, _, _], _ => rfl
  have F_first_word := fun_mk (st := s_first_word) l_first_word c_first_word k_first_word
  have g_first_word := PySem.W.mg_of X G a_first_word
  have b_first_word := F_first_word.binds (ps := ["thing"]) fun _ _ _ _ _ _ us hl => match us, hl with | [_], _ => rfl
  have F_fits_shape := fun_mk (st := s_fits_shape) l_fits_shape c_fits_shape k_fits_shape
  have g_fits_shape := PySem.W.mg_of X G a_fits_shape
  have b_fits_shape := F_fits_shape.binds (ps := ["thing", "shape", "many"]) fun _ _ _ _ _ _ us hl => match us, hl with | [_, _, _], _ => rfl
  have F_has_shape := fun_mk (st := s_has_shape) l_has_shape c_has_shape k_has_shape
  have g_has_shape := PySem.W.mg_of X G a_has_shape
  have b_has_shape := F_has_shape.binds (ps := ["thing", "many"]) fun _ _ _ _ _ _ us hl => match us, hl with | [_, _], _ => rfl
  have F_is_registers := fun_mk (st := s_is_registers) l_is_registers c_is_registers k_is_registers
  have g_is_registers := PySem.W.mg_of X G a_is_registers
  have b_is_registers := F_is_registers.binds (ps := ["thing"]) fun _ _ _ _ _ _ us hl => match us, hl with | [_], _ => rfl
  have F_parts := fun_mk (st := s_parts) l_parts c_parts k_parts
  have g_parts := PySem.W.mg_of X G a_parts
  have b_parts := F_parts.binds (ps := ["expression"]) fun _ _ _ _ _ _ us hl => match us, hl with | [_], _ => rfl
  have F_count_parts := fun_mk (st := s_count_parts) l_count_parts c_count_parts k_count_parts
  have g_count_parts := PySem.W.mg_of X G a_count_parts
  have b_count_parts := F_count_parts.binds (ps := ["thing", "many", "deep"]) fun _ _ _ _ _ _ us hl => match us, hl with | [_, _, _], _ => rfl
  have F_is_expression := fun_mk (st := s_is_expression) l_is_expression c_is_expression k_is_expression
  have g_is_expression := PySem.W.mg_of X G a_is_expression
  have b_is_expression := F_is_expression.binds (ps := ["thing", "many"]) fun _ _ _ _ _ _ us hl => match us, hl with | [_, _], _ => rfl
  have F_join_spans := fun_mk (st := s_join_spans) l_join_spans c_join_spans k_join_spans
  have g_join_spans := PySem.W.mg_of X G a_join_spans
  have b_join_spans := F_join_spans.binds (ps := ["word", "first", "second"]) fun _ _ _ _ _ _ us hl => match us, hl with | [_, _, _], _ => rfl
  have F_span := fun_mk (st := s_span) l_span c_span k_span
  have g_span := PySem.W.mg_of X G a_span
  have b_span := F_span.binds (ps := ["expression"]) fun _ _ _ _ _ _ us hl => match us, hl with | [_], _ => rfl
  have F_leaves := fun_mk (st := s_leaves) l_leaves c_leaves k_leaves
  have g_leaves := PySem.W.mg_of X G a_leaves
  have b_leaves := F_leaves.binds (ps := ["expression"]) fun _ _ _ _ _ _ us hl => match us, hl with | [_], _ => rfl
  have F_borders := fun_mk (st := s_borders) l_borders c_borders k_borders
  have g_borders := PySem.W.mg_of X G a_borders
  have b_borders := F_borders.binds (ps := ["expression"]) fun _ _ _ _ _ _ us hl => match us, hl with | [_], _ => rfl
  have F_is_name := fun_mk (st := s_is_name) l_is_name c_is_name k_is_name
  have g_is_name := PySem.W.mg_of X G a_is_name
  have b_is_name := F_is_name.binds (ps := ["thing"]) fun _ _ _ _ _ _ us hl => match us, hl with | [_], _ => rfl
  have F_power := fun_mk (st := s_power) l_power c_power k_power
  have g_power := PySem.W.mg_of X G a_power
  have b_power := F_power.binds (ps := ["scale"]) fun _ _ _ _ _ _ us hl => match us, hl with | [_], _ => rfl
  have F_count_deed := fun_mk (st := s_count_deed) l_count_deed c_count_deed k_count_deed
  have g_count_deed := PySem.W.mg_of X G a_count_deed
  have b_count_deed := F_count_deed.binds (ps := ["thing", "many", "deep"]) fun _ _ _ _ _ _ us hl => match us, hl with | [_, _, _], _ => rfl
  have F_count_deeds := fun_mk (st := s_count_deeds) l_count_deeds c_count_deeds k_count_deeds
  have g_count_deeds := PySem.W.mg_of X G a_count_deeds
  have b_count_deeds := F_count_deeds.binds (ps := ["thing", "many", "deep"]) fun _ _ _ _ _ _ us hl => match us, hl with | [_, _, _], _ => rfl
  have F_is_stake := fun_mk (st := s_is_stake) l_is_stake c_is_stake k_is_stake
  have g_is_stake := PySem.W.mg_of X G a_is_stake
  have b_is_stake := F_is_stake.binds (ps := ["thing", "scale", "many"]) fun _ _ _ _ _ _ us hl => match us, hl with | [_, _, _], _ => rfl
  have F_are_stakes := fun_mk (st := s_are_stakes) l_are_stakes c_are_stakes k_are_stakes
  have g_are_stakes := PySem.W.mg_of X G a_are_stakes
  have b_are_stakes := F_are_stakes.binds (ps := ["thing", "scale", "many"]) fun _ _ _ _ _ _ us hl => match us, hl with | [_, _, _], _ => rfl
  have F_are_behinds := fun_mk (st := s_are_behinds) l_are_behinds c_are_behinds k_are_behinds
  have g_are_behinds := PySem.W.mg_of X G a_are_behinds
  have b_are_behinds := F_are_behinds.binds (ps := ["thing", "many"]) fun _ _ _ _ _ _ us hl => match us, hl with | [_, _], _ => rfl
  have F_is_doubter := fun_mk (st := s_is_doubter) l_is_doubter c_is_doubter k_is_doubter
  have g_is_doubter := PySem.W.mg_of X G a_is_doubter
  have b_is_doubter := F_is_doubter.binds (ps := ["thing", "many"]) fun _ _ _ _ _ _ us hl => match us, hl with | [_, _], _ => rfl
  have F_is_weight := fun_mk (st := s_is_weight) l_is_weight c_is_weight k_is_weight
  have g_is_weight := PySem.W.mg_of X G a_is_weight
  have b_is_weight := F_is_weight.binds (ps := ["thing"]) fun _ _ _ _ _ _ us hl => match us, hl with | [_], _ => rfl
  have F_is_one := fun_mk (st := s_is_one) l_is_one c_is_one k_is_one
  have g_is_one := PySem.W.mg_of X G a_is_one
  have b_is_one := F_is_one.binds (ps := ["thing", "many"]) fun _ _ _ _ _ _ us hl => match us, hl with | [_, _], _ => rfl
  have F_is_member := fun_mk (st := s_is_member) l_is_member c_is_member k_is_member
  have g_is_member := PySem.W.mg_of X G a_is_member
  have b_is_member := F_is_member.binds (ps := ["thing", "many", "deep"]) fun _ _ _ _ _ _ us hl => match us, hl with | [_, _, _], _ => rfl
  have F_are_members := fun_mk (st := s_are_members) l_are_members c_are_members k_are_members
  have g_are_members := PySem.W.mg_of X G a_are_members
  have b_are_members := F_are_members.binds (ps := ["thing", "many", "deep"]) fun _ _ _ _ _ _ us hl => match us, hl with | [_, _, _], _ => rfl
  have F_stands := fun_mk (st := s_stands) l_stands c_stands k_stands
  have g_stands := PySem.W.mg_of X G a_stands
  have b_stands := F_stands.binds (ps := ["members", "path"]) fun _ _ _ _ _ _ us hl => match us, hl with | [_, _], _ => rfl
  have F_one_borders := fun_mk (st := s_one_borders) l_one_borders c_one_borders k_one_borders
  have g_one_borders := PySem.W.mg_of X G a_one_borders
  have b_one_borders := F_one_borders.binds (ps := ["one"]) fun _ _ _ _ _ _ us hl => match us, hl with | [_], _ => rfl
  have F_crowd := fun_mk (st := s_crowd) l_crowd c_crowd k_crowd
  have g_crowd := PySem.W.mg_of X G a_crowd
  have b_crowd := F_crowd.binds (ps := ["house"]) fun _ _ _ _ _ _ us hl => match us, hl with | [_], _ => rfl
  have F_is_house := fun_mk (st := s_is_house) l_is_house c_is_house k_is_house
  have g_is_house := PySem.W.mg_of X G a_is_house
  have b_is_house := F_is_house.binds (ps := ["thing"]) fun _ _ _ _ _ _ us hl => match us, hl with | [_], _ => rfl
  have F_L_hand := fun_mk (st := s_L_hand) l_L_hand c_L_hand k_L_hand
  have g_L_hand := PySem.W.mg_of X G a_L_hand
  have b_L_hand := F_L_hand.binds (ps := ["_law_script", "_law_k"]) fun _ _ _ _ _ _ us hl => match us, hl with | [_, _], _ => rfl
  have F_L_take := fun_mk (st := s_L_take) l_L_take c_L_take k_L_take
  have g_L_take := PySem.W.mg_of X G a_L_take
  have b_L_take := F_L_take.binds (ps := ["_law_hand_here", "_law_many"]) fun _ _ _ _ _ _ us hl => match us, hl with | [_, _], _ => rfl
  have F_L_of := fun_mk (st := s_L_of) l_L_of c_L_of k_L_of
  have g_L_of := PySem.W.mg_of X G a_L_of
  have b_L_of := F_L_of.binds (ps := ["_law_hand_here", "_law_some"]) fun _ _ _ _ _ _ us hl => match us, hl with | [_, _], _ => rfl
  have F_L_name := fun_mk (st := s_L_name) l_L_name c_L_name k_L_name
  have g_L_name := PySem.W.mg_of X G a_L_name
  have b_L_name := F_L_name.binds (ps := ["_law_hand_here"]) fun _ _ _ _ _ _ us hl => match us, hl with | [_], _ => rfl
  have F_L_figure := fun_mk (st := s_L_figure) l_L_figure c_L_figure k_L_figure
  have g_L_figure := PySem.W.mg_of X G a_L_figure
  have b_L_figure := F_L_figure.binds (ps := ["_law_hand_here"]) fun _ _ _ _ _ _ us hl => match us, hl with | [_], _ => rfl
  have F_L_registers := fun_mk (st := s_L_registers) l_L_registers c_L_registers k_L_registers
  have g_L_registers := PySem.W.mg_of X G a_L_registers
  have b_L_registers := F_L_registers.binds (ps := ["_law_hand_here"]) fun _ _ _ _ _ _ us hl => match us, hl with | [_], _ => rfl
  have F_L_leaf := fun_mk (st := s_L_leaf) l_L_leaf c_L_leaf k_L_leaf
  have g_L_leaf := PySem.W.mg_of X G a_L_leaf
  have b_L_leaf := F_L_leaf.binds (ps := ["_law_hand_here", "_law_many"]) fun _ _ _ _ _ _ us hl => match us, hl with | [_, _], _ => rfl
  have F_L_expression := fun_mk (st := s_L_expression) l_L_expression c_L_expression k_L_expression
  have g_L_expression := PySem.W.mg_of X G a_L_expression
  have b_L_expression := F_L_expression.binds (ps := ["_law_hand_here", "_law_many", "_law_level", "_law_jumps"]) fun _ _ _ _ _ _ us hl => match us, hl with | [_, _, _, _], _ => rfl
  have F_L_stake := fun_mk (st := s_L_stake) l_L_stake c_L_stake k_L_stake
  have g_L_stake := PySem.W.mg_of X G a_L_stake
  have b_L_stake := F_L_stake.binds (ps := ["_law_hand_here", "_law_many", "_law_level", "_law_jumps"]) fun _ _ _ _ _ _ us hl => match us, hl with | [_, _, _, _], _ => rfl
  have F_L_deeds := fun_mk (st := s_L_deeds) l_L_deeds c_L_deeds k_L_deeds
  have g_L_deeds := PySem.W.mg_of X G a_L_deeds
  have b_L_deeds := F_L_deeds.binds (ps := ["_law_hand_here", "_law_many", "_law_deep"]) fun _ _ _ _ _ _ us hl => match us, hl with | [_, _, _], _ => rfl
  have F_L_doubter := fun_mk (st := s_L_doubter) l_L_doubter c_L_doubter k_L_doubter
  have g_L_doubter := PySem.W.mg_of X G a_L_doubter
  have b_L_doubter := F_L_doubter.binds (ps := ["_law_hand_here", "_law_many", "_law_level", "_law_jumps"]) fun _ _ _ _ _ _ us hl => match us, hl with | [_, _, _, _], _ => rfl
  have F_L_counted := fun_mk (st := s_L_counted) l_L_counted c_L_counted k_L_counted
  have g_L_counted := PySem.W.mg_of X G a_L_counted
  have b_L_counted := F_L_counted.binds (ps := ["_law_expression_here"]) fun _ _ _ _ _ _ us hl => match us, hl with | [_], _ => rfl
  have F_L_lines := fun_mk (st := s_L_lines) l_L_lines c_L_lines k_L_lines
  have g_L_lines := PySem.W.mg_of X G a_L_lines
  have b_L_lines := F_L_lines.binds (ps := ["_law_doubter_here"]) fun _ _ _ _ _ _ us hl => match us, hl with | [_], _ => rfl
  have F_L_one := fun_mk (st := s_L_one) l_L_one c_L_one k_L_one
  have g_L_one := PySem.W.mg_of X G a_L_one
  have b_L_one := F_L_one.binds (ps := ["_law_hand_here", "_law_doubter_here"]) fun _ _ _ _ _ _ us hl => match us, hl with | [_, _], _ => rfl
  have F_L_house := fun_mk (st := s_L_house) l_L_house c_L_house k_L_house
  have g_L_house := PySem.W.mg_of X G a_L_house
  have b_L_house := F_L_house.binds (ps := ["_law_hand_here", "_law_many", "_law_most", "_law_level", "_law_jumps"]) fun _ _ _ _ _ _ us hl => match us, hl with | [_, _, _, _, _], _ => rfl
  have F_L_all_ones := fun_mk (st := s_L_all_ones) l_L_all_ones c_L_all_ones k_L_all_ones
  have g_L_all_ones := PySem.W.mg_of X G a_L_all_ones
  have b_L_all_ones := F_L_all_ones.binds (ps := ["_law_members"]) fun _ _ _ _ _ _ us hl => match us, hl with | [_], _ => rfl
  have F_L_walk := fun_mk (st := s_L_walk) l_L_walk c_L_walk k_L_walk
  have g_L_walk := PySem.W.mg_of X G a_L_walk
  have b_L_walk := F_L_walk.binds (ps := ["_law_members", "_law_trail"]) fun _ _ _ _ _ _ us hl => match us, hl with | [_, _], _ => rfl
  have F_L_rich := fun_mk (st := s_L_rich) l_L_rich c_L_rich k_L_rich
  have g_L_rich := PySem.W.mg_of X G a_L_rich
  have b_L_rich := F_L_rich.binds (ps := ["_law_hand_here", "_law_many", "_law_level", "_law_jumps"]) fun _ _ _ _ _ _ us hl => match us, hl with | [_, _, _, _], _ => rfl
  have F_L_is_number := fun_mk (st := s_L_is_number) l_L_is_number c_L_is_number k_L_is_number
  have g_L_is_number := PySem.W.mg_of X G a_L_is_number
  have b_L_is_number := F_L_is_number.binds (ps := ["_law_piece", "_law_low", "_law_high"]) fun _ _ _ _ _ _ us hl => match us, hl with | [_, _, _], _ => rfl
  have F_L_is_member := fun_mk (st := s_L_is_member) l_L_is_member c_L_is_member k_L_is_member
  have g_L_is_member := PySem.W.mg_of X G a_L_is_member
  have b_L_is_member := F_L_is_member.binds (ps := ["_law_piece", "_law_many", "_law_deep"]) fun _ _ _ _ _ _ us hl => match us, hl with | [_, _, _], _ => rfl
  have F_L_due := fun_mk (st := s_L_due) l_L_due c_L_due k_L_due
  have g_L_due := PySem.W.mg_of X G a_L_due
  have b_L_due := F_L_due.binds (ps := ["_law_piece"]) fun _ _ _ _ _ _ us hl => match us, hl with | [_], _ => rfl
  have F_L_odd := fun_mk (st := s_L_odd) l_L_odd c_L_odd k_L_odd
  have g_L_odd := PySem.W.mg_of X G a_L_odd
  have b_L_odd := F_L_odd.binds (ps := ["_law_hand_here"]) fun _ _ _ _ _ _ us hl => match us, hl with | [_], _ => rfl
  have F_L_bent := fun_mk (st := s_L_bent) l_L_bent c_L_bent k_L_bent
  have g_L_bent := PySem.W.mg_of X G a_L_bent
  have b_L_bent := F_L_bent.binds (ps := ["_law_hand_here", "_law_piece", "_law_deep"]) fun _ _ _ _ _ _ us hl => match us, hl with | [_, _, _], _ => rfl
  have F_L_right := fun_mk (st := s_L_right) l_L_right c_L_right k_L_right
  have g_L_right := PySem.W.mg_of X G a_L_right
  have b_L_right := F_L_right.binds (ps := ["_law_hand_here"]) fun _ _ _ _ _ _ us hl => match us, hl with | [_], _ => rfl
  have F_law := fun_mk (st := s_law) l_law c_law k_law
  have g_law := PySem.W.mg_of X G a_law
  have B : Bl mg := ⟨PySem.W.mg_none_of X G z_len, PySem.W.mg_none_of X G z_sum, PySem.W.mg_none_of X G z_max, PySem.W.mg_none_of X G z_min, PySem.W.mg_none_of X G z_abs, PySem.W.mg_none_of X G z_int, PySem.W.mg_none_of X G z_tuple, PySem.W.mg_none_of X G z_range, PySem.W.mg_none_of X G z_sorted, PySem.W.mg_none_of X G z_zip, PySem.W.mg_none_of X G z_isinstance, PySem.W.mg_none_of X G z_list, PySem.W.mg_none_of X G z_all, PySem.W.mg_none_of X G z_repr, PySem.W.mg_none_of X G z_str, PySem.W.mg_none_of X G z_enumerate⟩
  have n_bool := PySem.W.mg_none_of X G z_bool
  have mg_GREATEST_SCALE := PySem.W.mg_of X G i_GREATEST_SCALE
  have mg_MOST_PARTS := PySem.W.mg_of X G i_MOST_PARTS
  have mg_MOST_DEEP_expressions := PySem.W.mg_of X G i_MOST_DEEP_expressions
  have mg_MOST_DEEP_doubters := PySem.W.mg_of X G i_MOST_DEEP_doubters
  have mg_HOW_MANY_REGISTERS := PySem.W.mg_of X G i_HOW_MANY_REGISTERS
  have mg_LONGEST_NAME := PySem.W.mg_of X G i_LONGEST_NAME
  have mg_MOST_DEEDS := PySem.W.mg_of X G i_MOST_DEEDS
  have mg_WIDEST := PySem.W.mg_of X G i_WIDEST
  have mg_MOST_ONES := PySem.W.mg_of X G i_MOST_ONES
  have mg_MOST_HOUSES := PySem.W.mg_of X G i_MOST_HOUSES
  have mg_MOST_DEEP_houses := PySem.W.mg_of X G i_MOST_DEEP_houses
  have mg_MOST_WEIGHT := PySem.W.mg_of X G i_MOST_WEIGHT
  have mg_LETTERS := PySem.W.mg_of X G i_LETTERS
  have mg_DEEDS := PySem.W.mg_of X G a_DEEDS
  have hB : TabB K w d_DEEDS := by
    have mk : ∀ (x : Str) (q : Addr) (od : Option Addr) (its : Array Value) (m : Nat) (sl : Array (Option Value)) (ks : List Kd), ks.length ≤ 4 → PySem.W.nsIn K d_DEEDS x = some (some (.ref q)) → K.lookup q = some ⟨.type "tuple", od, .seq its m, sl⟩ → Vals (ks.map fun k => V.str (kdn k)) its.toList → ∃ q, KDct K w d_DEEDS x (.ref q) ∧ ∀ H, SqT K H q (ks.map fun k => V.str (kdn k)) := fun x q od its m sl ks hk h1 h2 h3 => ⟨q, ⟨es_DEEDS, n_DEEDS, _, l_DEEDS, k_DEEDS, h1, rfl⟩, fun H => .inr ⟨_, its, m, h2, rfl, rfl, by
      have h := h3.length
      have e2 : its.toList.length = its.size := Array.length_toList
      have e3 : (ks.map fun k => V.str (kdn k)).length = ks.length := List.length_map _
      exact Nat.le_of_lt (small1000 (by omega)), h3⟩⟩
    refine ⟨w_DEEDS, fun e => ?_⟩
    cases e with
    | when => exact mk _ _ _ _ _ _ [.place, .figure, .part, .part] (by decide) n_DEEDS_when t_DEEDS_when v_DEEDS_when
    | op o =>
      cases o with
      | put => exact mk _ _ _ _ _ _ [.place, .figure] (by decide) n_DEEDS_put t_DEEDS_put v_DEEDS_put
      | add => exact mk _ _ _ _ _ _ [.place, .figure] (by decide) n_DEEDS_add t_DEEDS_add v_DEEDS_add
      | copy => exact mk _ _ _ _ _ _ [.place, .place] (by decide) n_DEEDS_copy t_DEEDS_copy v_DEEDS_copy
      | plus => exact mk _ _ _ _ _ _ [.place, .place] (by decide) n_DEEDS_plus t_DEEDS_plus v_DEEDS_plus
      | told => exact mk _ _ _ _ _ _ [.place, .sign] (by decide) n_DEEDS_told t_DEEDS_told v_DEEDS_told
  have hBK : KdAt K w d_DEEDS := ⟨es_DEEDS, n_DEEDS, l_DEEDS, k_DEEDS, w_DEEDS⟩
  have hBO : Only6 K d_DEEDS := only6_of l_DEEDS k_DEEDS x_DEEDS
  have mg_BOUNDS := PySem.W.mg_of X G a_BOUNDS
  have hN : TabN K w d_BOUNDS := by
    have mk : ∀ (x : Str) (q : Addr) (od : Option Addr) (its : Array Value) (m : Nat) (sl : Array (Option Value)) (lo hi : Int), PySem.W.nsIn K d_BOUNDS x = some (some (.ref q)) → K.lookup q = some ⟨.type "tuple", od, .seq its m, sl⟩ → Vals [.int lo, .int hi] its.toList → ∃ q, KDct K w d_BOUNDS x (.ref q) ∧ ∀ H, SqT K H q [.int lo, .int hi] := fun x q od its m sl lo hi h1 h2 h3 => ⟨q, ⟨es_BOUNDS, n_BOUNDS, _, l_BOUNDS, k_BOUNDS, h1, rfl⟩, fun H => .inr ⟨_, its, m, h2, rfl, rfl, by
      have h := h3.length
      have e2 : its.toList.length = its.size := Array.length_toList
      simp only [List.length_cons, List.length_nil] at h
      exact Nat.le_of_lt (small1000 (by omega)), h3⟩⟩
    intro k h1 h2
    cases k with
    | part => exact absurd rfl h1
    | sign => exact absurd rfl h2
    | figure => exact mk _ _ _ _ _ _ _ _ n_BOUNDS_figure t_BOUNDS_figure v_BOUNDS_figure
    | place => exact mk _ _ _ _ _ _ _ _ n_BOUNDS_place t_BOUNDS_place v_BOUNDS_place
    | factor => exact mk _ _ _ _ _ _ _ _ n_BOUNDS_factor t_BOUNDS_factor v_BOUNDS_factor
    | line => exact mk _ _ _ _ _ _ _ _ n_BOUNDS_line t_BOUNDS_line v_BOUNDS_line
  have mg_MOST_BORDERS := PySem.W.mg_of X G a_MOST_BORDERS
  have h_MOST_BORDERS_2 : KDcI K w d_MOST_BORDERS 2 (.int 400) := ⟨es_MOST_BORDERS, n_MOST_BORDERS, u_MOST_BORDERS_2, l_MOST_BORDERS, k_MOST_BORDERS, f_MOST_BORDERS_2, v_MOST_BORDERS_2⟩
  have h_MOST_BORDERS_3 : KDcI K w d_MOST_BORDERS 3 (.int 60) := ⟨es_MOST_BORDERS, n_MOST_BORDERS, u_MOST_BORDERS_3, l_MOST_BORDERS, k_MOST_BORDERS, f_MOST_BORDERS_3, v_MOST_BORDERS_3⟩
  have mg_SHAPES := PySem.W.mg_of X G a_S
  have hSh : Shapes K w d_S := by
    have mk : ∀ (x : Str) (q : Addr) (od : Option Addr) (its : Array Value) (m : Nat) (sl : Array (Option Value)) (ks : List Str), ks.length ≤ 4 → PySem.W.nsIn K d_S x = some (some (.ref q)) → K.lookup q = some ⟨.type "tuple", od, .seq its m, sl⟩ → Vals (ks.map V.str) its.toList → ∃ q, KDct K w d_S x (.ref q) ∧ ∀ H, SqT K H q (ks.map V.str) := fun x q od its m sl ks hk h1 h2 h3 => ⟨q, ⟨es_S, n_S, _, l_S, k_S, h1, rfl⟩, fun H => .inr ⟨_, its, m, h2, rfl, rfl, by
      have h := h3.length
      have e2 : its.toList.length = its.size := Array.length_toList
      have e3 : (ks.map V.str).length = ks.length := List.length_map _
      exact Nat.le_of_lt (small1000 (by omega)), h3⟩⟩
    intro e
    cases e with
    | fig _ => exact mk _ _ _ _ _ _ ["figure"] (by decide) n_fig t_fig v_fig
    | reg _ => exact mk _ _ _ _ _ _ ["place"] (by decide) n_reg t_reg v_reg
    | share _ => exact mk _ _ _ _ _ _ ["sign"] (by decide) n_share t_share v_share
    | times _ _ => exact mk _ _ _ _ _ _ ["factor", "part"] (by decide) n_times t_times v_times
    | «by» _ _ => exact mk _ _ _ _ _ _ ["place", "part"] (by decide) n_by t_by v_by
    | when _ _ _ _ => exact mk _ _ _ _ _ _ ["place", "figure", "part", "part"] (by decide) n_when t_when v_when
    | whr _ _ _ _ => exact mk _ _ _ _ _ _ ["sign", "line", "part", "part"] (by decide) n_where t_where v_where
    | two o _ _ =>
      cases o with
      | sum => exact mk _ _ _ _ _ _ ["part", "part"] (by decide) n_sum t_sum v_sum
      | less => exact mk _ _ _ _ _ _ ["part", "part"] (by decide) n_less t_less v_less
      | least => exact mk _ _ _ _ _ _ ["part", "part"] (by decide) n_least t_least v_least
      | most => exact mk _ _ _ _ _ _ ["part", "part"] (by decide) n_most t_most v_most
  have hE : TabE K w d_S := TabE.of hSh w_S
  have hK : KdAt K w d_S := ⟨es_S, n_S, l_S, k_S, w_S⟩
  have hO : Only11 K d_S := only11_of l_S k_S x_S
  refine ⟨PySem.W.fnOf "law" "law" (defArgs s_law) (defBody s_law) (defScope s_law) .none kV_law dc_law pm_law an_law cd_law ct_law, fun s v => .of_eq rfl, fun base _ _ => ?_⟩
  have c_hand := ok_hand (P := l.prog) (w := w) (base := base) F_L_hand g_L_hand b_L_hand B
  have c_take := ok_take (P := l.prog) (w := w) (base := base) F_L_take g_L_take b_L_take
  have c_of := ok_of F_L_of g_L_of b_L_of B c_take
  have c_figure := ok_figure F_L_figure g_L_figure b_L_figure B c_take c_of
  have c_regs := ok_regs F_L_registers g_L_registers b_L_registers B c_figure
  have c_leaf := ok_leaf F_L_leaf g_L_leaf b_L_leaf B c_take c_figure
  have c_expr := ok_expr F_L_expression g_L_expression b_L_expression B c_take c_of c_figure c_leaf 3
  have c_lname := ok_lname F_L_name g_L_name b_L_name B c_take c_of
  have c_Lstake := ok_stake F_L_stake g_L_stake b_L_stake B c_take c_of (m := 3) c_expr
  have c_Ldeeds := ok_deeds F_L_deeds g_L_deeds b_L_deeds B c_take c_of c_figure 2
  have c_Ldoubter := ok_doubter F_L_doubter g_L_doubter b_L_doubter B c_take c_lname c_regs (m := 3) c_Lstake c_Ldeeds
  have c_counted := ok_counted (P := l.prog) (w := w) (base := base) F_L_counted g_L_counted b_L_counted B 8
  have c_lines := ok_lines F_L_lines g_L_lines b_L_lines B (n := 8) c_counted
  have c_one := ok_one F_L_one g_L_one b_L_one B c_take c_of c_regs
  have c_house := ok_house F_L_house g_L_house b_L_house B c_take c_of c_Ldoubter c_lines c_lname c_one
  have c_allones := ok_allones (P := l.prog) (w := w) (base := base) F_L_all_ones g_L_all_ones b_L_all_ones B 8
  have c_walk := ok_walk (P := l.prog) (w := w) (base := base) F_L_walk g_L_walk b_L_walk B 4
  have c_rich := ok_rich F_L_rich g_L_rich b_L_rich B c_Ldoubter c_lines c_one c_house c_allones
  have c_isnum := ok_isnum (P := l.prog) (w := w) (base := base) F_is_number g_is_number b_is_number B n_bool
  have c_within := ok_iswithin F_is_within g_is_within b_is_within c_isnum
  have c_fits := ok_fits F_fits g_fits b_fits mg_BOUNDS hN c_within
  have c_first := ok_firstword (P := l.prog) (w := w) (base := base) F_first_word g_first_word b_first_word B
  have c_fitssh := ok_fitsshape F_fits_shape g_fits_shape b_fits_shape B c_fits
  have c_hassh := ok_hasshape F_has_shape g_has_shape b_has_shape mg_SHAPES hE hK hO c_first c_fitssh
  have c_isregs := ok_isregs F_is_registers g_is_registers b_is_registers B mg_BOUNDS hN mg_HOW_MANY_REGISTERS c_within
  have c_parts := ok_parts (P := l.prog) (w := w) (base := base) F_parts g_parts b_parts B mg_SHAPES hSh
  have c_partsD := ok_partsD (P := l.prog) (w := w) (base := base) F_parts g_parts b_parts B mg_SHAPES hE
  have c_cntE := ok_cntE F_count_parts g_count_parts b_count_parts c_hassh c_partsD 9
  have f_isex' := fn_isex F_is_expression mg_MOST_DEEP_expressions mg_MOST_PARTS c_cntE
  have c_isex : (Cal l.prog w K mg base 16 "is_expression" (spIsEx K)) := ⟨_, _, _, f_isex', g_is_expression, F_is_expression.kp, b_is_expression⟩
  have c_isname := ok_isname (P := l.prog) (w := w) (base := base) F_is_name g_is_name b_is_name B mg_LONGEST_NAME mg_LETTERS
  have c_deeds := ok_deeds' F_count_deeds g_count_deeds b_count_deeds B F_count_deed g_count_deed b_count_deed mg_DEEDS hB hBK hBO mg_MOST_DEEDS c_first c_fitssh 5
  have c_pow := ok_pow2 (P := l.prog) (w := w) (base := base) F_power g_power b_power B
  have c_joinS := ok_joinS (P := l.prog) (w := w) (base := base) F_join_spans g_join_spans b_join_spans B
  have c_span := ok_span F_span g_span b_span B c_parts c_joinS 8
  have c_isstake := ok_isstake F_is_stake g_is_stake b_is_stake mg_WIDEST c_pow c_isex (n := 8) (by decide) (by decide) c_span
  have c_arest := ok_arestakes F_are_stakes g_are_stakes b_are_stakes B c_isstake
  have c_arebh := ok_arebehinds F_are_behinds g_are_behinds b_are_behinds B mg_MOST_DEEP_doubters c_deeds
  have f_isdb' := fn_isdb F_is_doubter B mg_GREATEST_SCALE c_isname c_within c_isregs c_arest c_arebh
  have c_isdb : (Cal l.prog w K mg base 19 "is_doubter" (spIsDb K)) := ⟨_, _, _, f_isdb', g_is_doubter, F_is_doubter.kp, b_is_doubter⟩
  have c_leaves : (∀ n, Cal l.prog w K mg base (n+2) "leaves" (spCnt8 K lvs n)) := ok_leaves F_leaves g_leaves b_leaves B c_parts
  have c_borders := ok_borders F_borders g_borders b_borders B c_parts c_leaves 8
  have c_weight := ok_weight F_is_weight g_is_weight b_is_weight mg_MOST_WEIGHT c_within
  have c_isone := ok_isone F_is_one g_is_one b_is_one B c_first c_weight c_isnum c_isregs c_isdb
  have c_aremem := ok_aremem F_are_members g_are_members b_are_members B F_is_member g_is_member b_is_member mg_MOST_ONES mg_MOST_HOUSES c_first c_isone c_isname 4
  have c_stands := ok_stands (P := l.prog) (w := w) (base := base) F_stands g_stands b_stands B 4
  have c_oneB := ok_oneB F_one_borders g_one_borders b_one_borders B c_borders
  have hMB : (∀ many : Nat, 2 ≤ many → many ≤ 3 → KDcI K w d_MOST_BORDERS (many : Int) (.int (roomI many))) := fun many h2 h3 => by rcases (show many = 2 ∨ many = 3 by omega) with rfl | rfl <;> first | exact h_MOST_BORDERS_2 | exact h_MOST_BORDERS_3
  have c_crowd := ok_crowd F_crowd g_crowd b_crowd B mg_MOST_ONES mg_MOST_HOUSES mg_MOST_DEEP_houses mg_MOST_BORDERS hMB c_stands c_oneB
  have f_ishouse' := fn_ishouse F_is_house B mg_MOST_DEEP_houses c_within c_aremem c_crowd
  have c_ishouse : (Cal l.prog w K mg base 29 "is_house" (spIsHouse K)) := ⟨_, _, _, f_ishouse', g_is_house, F_is_house.kp, b_is_house⟩
  have k_ishouse : (CalK l.prog w K mg base 29 "is_house" ["thing"] (spIsHouse K)) := ⟨_, _, FnG.of f_ishouse', g_is_house, F_is_house.kp, fun s ws hl => match ws, hl with | [_], _ => .of_eq rfl⟩
  have c_lnum := ok_lnum (P := l.prog) (w := w) (base := base) F_L_is_number g_L_is_number b_L_is_number B n_bool
  have c_lmem := ok_lmem F_L_is_member g_L_is_member b_L_is_member B c_isdb c_lnum 4
  have c_due := ok_due F_L_due g_L_due b_L_due B c_lnum c_lmem c_walk c_lines
  have c_odd := ok_odd F_L_odd g_L_odd b_L_odd B c_take c_of
  have c_bent := ok_bent F_L_bent g_L_bent b_L_bent B c_take c_of c_odd 8
  have c_right := ok_right F_L_right g_L_right b_L_right B n_bool c_take c_rich c_ishouse k_ishouse c_bent c_odd c_due
  exact ok_law F_law B c_hand c_right
end NG

open PySem PySem.W PyProof.Rows
set_option maxHeartbeats 0 in
theorem PySem.Challenge.cw_nonegrowsrich_k27_houses_of_anything_holds : PySem.Challenge.rw_nonegrowsrich_k27_houses_of_anything.Holds := by
  w_on; o_law; k_head; (case hw => w_witness2)
  k_fill
  refine NG.walkG (l := PySem.Challenge.rw_nonegrowsrich_k27_houses_of_anything) (n := 63) (k := 31) (x := "_law_script") (sp := fun w => NG.spLaw _) rfl (by decide) rfl ⟨rfl, by decide, by decide⟩ (fun w h Y => PySem.W.kIn_of Y) ?F (fun _ _ a ns hl _ hS => ⟨a, ns, rfl, hS, hl, fun _ => rfl⟩) 
  case F =>
    intro w mg fa h KX G hmg
    refine' NG.all_mk KX G hmg ?a_is_number ?l_is_number ?c_is_number ?k_is_number ?a_is_within ?l_is_within ?c_is_within ?k_is_within ?a_fits ?l_fits ?c_fits ?k_fits ?a_first_word ?l_first_word ?c_first_word ?k_first_word ?a_fits_shape ?l_fits_shape ?c_fits_shape ?k_fits_shape ?a_has_shape ?l_has_shape ?c_has_shape ?k_has_shape ?a_is_registers ?l_is_registers ?c_is_registers ?k_is_registers ?a_parts ?l_parts ?c_parts ?k_parts ?a_count_parts ?l_count_parts ?c_count_parts ?k_count_parts ?a_is_expression ?l_is_expression ?c_is_expression ?k_is_expression ?a_join_spans ?l_join_spans ?c_join_spans ?k_join_spans ?a_span ?l_span ?c_span ?k_span ?a_leaves ?l_leaves ?c_leaves ?k_leaves ?a_borders ?l_borders ?c_borders ?k_borders ?a_is_name ?l_is_name ?c_is_name ?k_is_name ?a_power ?l_power ?c_power ?k_power ?a_count_deed ?l_count_deed ?c_count_deed ?k_count_deed ?a_count_deeds ?l_count_deeds ?c_count_deeds ?k_count_deeds ?a_is_stake ?l_is_stake ?c_is_stake ?k_is_stake ?a_are_stakes ?l_are_stakes ?c_are_stakes ?k_are_stakes ?a_are_behinds ?l_are_behinds ?c_are_behinds ?k_are_behinds ?a_is_doubter ?l_is_doubter ?c_is_doubter ?k_is_doubter ?a_is_weight ?l_is_weight ?c_is_weight ?k_is_weight ?a_is_one ?l_is_one ?c_is_one ?k_is_one ?a_is_member ?l_is_member ?c_is_member ?k_is_member ?a_are_members ?l_are_members ?c_are_members ?k_are_members ?a_stands ?l_stands ?c_stands ?k_stands ?a_one_borders ?l_one_borders ?c_one_borders ?k_one_borders ?a_crowd ?l_crowd ?c_crowd ?k_crowd ?a_is_house ?l_is_house ?c_is_house ?k_is_house ?a_L_hand ?l_L_hand ?c_L_hand ?k_L_hand ?a_L_take ?l_L_take ?c_L_take ?k_L_take ?a_L_of ?l_L_of ?c_L_of ?k_L_of ?a_L_name ?l_L_name ?c_L_name ?k_L_name ?a_L_figure ?l_L_figure ?c_L_figure ?k_L_figure ?a_L_registers ?l_L_registers ?c_L_registers ?k_L_registers ?a_L_leaf ?l_L_leaf ?c_L_leaf ?k_L_leaf ?a_L_expression ?l_L_expression ?c_L_expression ?k_L_expression ?a_L_stake ?l_L_stake ?c_L_stake ?k_L_stake ?a_L_deeds ?l_L_deeds ?c_L_deeds ?k_L_deeds ?a_L_doubter ?l_L_doubter ?c_L_doubter ?k_L_doubter ?a_L_counted ?l_L_counted ?c_L_counted ?k_L_counted ?a_L_lines ?l_L_lines ?c_L_lines ?k_L_lines ?a_L_one ?l_L_one ?c_L_one ?k_L_one ?a_L_house ?l_L_house ?c_L_house ?k_L_house ?a_L_all_ones ?l_L_all_ones ?c_L_all_ones ?k_L_all_ones ?a_L_walk ?l_L_walk ?c_L_walk ?k_L_walk ?a_L_rich ?l_L_rich ?c_L_rich ?k_L_rich ?a_L_is_number ?l_L_is_number ?c_L_is_number ?k_L_is_number ?a_L_is_member ?l_L_is_member ?c_L_is_member ?k_L_is_member ?a_L_due ?l_L_due ?c_L_due ?k_L_due ?a_L_odd ?l_L_odd ?c_L_odd ?k_L_odd ?a_L_bent ?l_L_bent ?c_L_bent ?k_L_bent ?a_L_right ?l_L_right ?c_L_right ?k_L_right ?a_law ?l_law ?c_law ?k_law ?a_S ?l_S ?k_S ?w_S ?x_S ?n_fig ?t_fig ?v_fig ?n_reg ?t_reg ?v_reg ?n_share ?t_share ?v_share ?n_sum ?t_sum ?v_sum ?n_less ?t_less ?v_less ?n_times ?t_times ?v_times ?n_by ?t_by ?v_by ?n_least ?t_least ?v_least ?n_most ?t_most ?v_most ?n_when ?t_when ?v_when ?n_where ?t_where ?v_where ?a_DEEDS ?l_DEEDS ?k_DEEDS ?w_DEEDS ?x_DEEDS ?n_DEEDS_put ?t_DEEDS_put ?v_DEEDS_put ?n_DEEDS_add ?t_DEEDS_add ?v_DEEDS_add ?n_DEEDS_copy ?t_DEEDS_copy ?v_DEEDS_copy ?n_DEEDS_plus ?t_DEEDS_plus ?v_DEEDS_plus ?n_DEEDS_told ?t_DEEDS_told ?v_DEEDS_told ?n_DEEDS_when ?t_DEEDS_when ?v_DEEDS_when ?a_BOUNDS ?l_BOUNDS ?k_BOUNDS ?w_BOUNDS ?n_BOUNDS_figure ?t_BOUNDS_figure ?v_BOUNDS_figure ?n_BOUNDS_place ?t_BOUNDS_place ?v_BOUNDS_place ?n_BOUNDS_factor ?t_BOUNDS_factor ?v_BOUNDS_factor ?n_BOUNDS_line ?t_BOUNDS_line ?v_BOUNDS_line ?a_MOST_BORDERS ?l_MOST_BORDERS ?k_MOST_BORDERS ?f_MOST_BORDERS_2 ?v_MOST_BORDERS_2 ?f_MOST_BORDERS_3 ?v_MOST_BORDERS_3 ?i_GREATEST_SCALE ?i_MOST_PARTS ?i_MOST_DEEP_expressions ?i_MOST_DEEP_doubters ?i_HOW_MANY_REGISTERS ?i_LONGEST_NAME ?i_MOST_DEEDS ?i_WIDEST ?i_MOST_ONES ?i_MOST_HOUSES ?i_MOST_DEEP_houses ?i_MOST_WEIGHT ?i_LETTERS ?z_len ?z_sum ?z_max ?z_min ?z_abs ?z_int ?z_tuple ?z_range ?z_sorted ?z_zip ?z_isinstance ?z_list ?z_all ?z_repr ?z_str ?z_enumerate ?z_bool
    (case a_is_number => k_is); (case l_is_number => k_is); (case c_is_number => k_is); (case k_is_number => k_is); (case a_is_within => k_is); (case l_is_within => k_is); (case c_is_within => k_is); (case k_is_within => k_is); (case a_fits => k_is); (case l_fits => k_is); (case c_fits => k_is); (case k_fits => k_is); (case a_first_word => k_is); (case l_first_word => k_is); (case c_first_word => k_is); (case k_first_word => k_is); (case a_fits_shape => k_is); (case l_fits_shape => k_is); (case c_fits_shape => k_is); (case k_fits_shape => k_is); (case a_has_shape => k_is); (case l_has_shape => k_is); (case c_has_shape => k_is); (case k_has_shape => k_is); (case a_is_registers => k_is); (case l_is_registers => k_is); (case c_is_registers => k_is); (case k_is_registers => k_is); (case a_parts => k_is); (case l_parts => k_is); (case c_parts => k_is); (case k_parts => k_is); (case a_count_parts => k_is); (case l_count_parts => k_is); (case c_count_parts => k_is); (case k_count_parts => k_is); (case a_is_expression => k_is); (case l_is_expression => k_is); (case c_is_expression => k_is); (case k_is_expression => k_is); (case a_join_spans => k_is); (case l_join_spans => k_is); (case c_join_spans => k_is); (case k_join_spans => k_is); (case a_span => k_is); (case l_span => k_is); (case c_span => k_is); (case k_span => k_is); (case a_leaves => k_is); (case l_leaves => k_is); (case c_leaves => k_is); (case k_leaves => k_is); (case a_borders => k_is); (case l_borders => k_is); (case c_borders => k_is); (case k_borders => k_is); (case a_is_name => k_is); (case l_is_name => k_is); (case c_is_name => k_is); (case k_is_name => k_is); (case a_power => k_is); (case l_power => k_is); (case c_power => k_is); (case k_power => k_is); (case a_count_deed => k_is); (case l_count_deed => k_is); (case c_count_deed => k_is); (case k_count_deed => k_is); (case a_count_deeds => k_is); (case l_count_deeds => k_is); (case c_count_deeds => k_is); (case k_count_deeds => k_is); (case a_is_stake => k_is); (case l_is_stake => k_is); (case c_is_stake => k_is); (case k_is_stake => k_is); (case a_are_stakes => k_is); (case l_are_stakes => k_is); (case c_are_stakes => k_is); (case k_are_stakes => k_is); (case a_are_behinds => k_is); (case l_are_behinds => k_is); (case c_are_behinds => k_is); (case k_are_behinds => k_is); (case a_is_doubter => k_is); (case l_is_doubter => k_is); (case c_is_doubter => k_is); (case k_is_doubter => k_is); (case a_is_weight => k_is); (case l_is_weight => k_is); (case c_is_weight => k_is); (case k_is_weight => k_is); (case a_is_one => k_is); (case l_is_one => k_is); (case c_is_one => k_is); (case k_is_one => k_is); (case a_is_member => k_is); (case l_is_member => k_is); (case c_is_member => k_is); (case k_is_member => k_is); (case a_are_members => k_is); (case l_are_members => k_is); (case c_are_members => k_is); (case k_are_members => k_is); (case a_stands => k_is); (case l_stands => k_is); (case c_stands => k_is); (case k_stands => k_is); (case a_one_borders => k_is); (case l_one_borders => k_is); (case c_one_borders => k_is); (case k_one_borders => k_is); (case a_crowd => k_is); (case l_crowd => k_is); (case c_crowd => k_is); (case k_crowd => k_is); (case a_is_house => k_is); (case l_is_house => k_is); (case c_is_house => k_is); (case k_is_house => k_is); (case a_L_hand => k_is); (case l_L_hand => k_is); (case c_L_hand => k_is); (case k_L_hand => k_is); (case a_L_take => k_is); (case l_L_take => k_is); (case c_L_take => k_is); (case k_L_take => k_is); (case a_L_of => k_is); (case l_L_of => k_is); (case c_L_of => k_is); (case k_L_of => k_is); (case a_L_name => k_is); (case l_L_name => k_is); (case c_L_name => k_is); (case k_L_name => k_is); (case a_L_figure => k_is); (case l_L_figure => k_is); (case c_L_figure => k_is); (case k_L_figure => k_is); (case a_L_registers => k_is); (case l_L_registers => k_is); (case c_L_registers => k_is); (case k_L_registers => k_is); (case a_L_leaf => k_is); (case l_L_leaf => k_is); (case c_L_leaf => k_is); (case k_L_leaf => k_is); (case a_L_expression => k_is); (case l_L_expression => k_is); (case c_L_expression => k_is); (case k_L_expression => k_is); (case a_L_stake => k_is); (case l_L_stake => k_is); (case c_L_stake => k_is); (case k_L_stake => k_is); (case a_L_deeds => k_is); (case l_L_deeds => k_is); (case c_L_deeds => k_is); (case k_L_deeds => k_is); (case a_L_doubter => k_is); (case l_L_doubter => k_is); (case c_L_doubter => k_is); (case k_L_doubter => k_is); (case a_L_counted => k_is); (case l_L_counted => k_is); (case c_L_counted => k_is); (case k_L_counted => k_is); (case a_L_lines => k_is); (case l_L_lines => k_is); (case c_L_lines => k_is); (case k_L_lines => k_is); (case a_L_one => k_is); (case l_L_one => k_is); (case c_L_one => k_is); (case k_L_one => k_is); (case a_L_house => k_is); (case l_L_house => k_is); (case c_L_house => k_is); (case k_L_house => k_is); (case a_L_all_ones => k_is); (case l_L_all_ones => k_is); (case c_L_all_ones => k_is); (case k_L_all_ones => k_is); (case a_L_walk => k_is); (case l_L_walk => k_is); (case c_L_walk => k_is); (case k_L_walk => k_is); (case a_L_rich => k_is); (case l_L_rich => k_is); (case c_L_rich => k_is); (case k_L_rich => k_is); (case a_L_is_number => k_is); (case l_L_is_number => k_is); (case c_L_is_number => k_is); (case k_L_is_number => k_is); (case a_L_is_member => k_is); (case l_L_is_member => k_is); (case c_L_is_member => k_is); (case k_L_is_member => k_is); (case a_L_due => k_is); (case l_L_due => k_is); (case c_L_due => k_is); (case k_L_due => k_is); (case a_L_odd => k_is); (case l_L_odd => k_is); (case c_L_odd => k_is); (case k_L_odd => k_is); (case a_L_bent => k_is); (case l_L_bent => k_is); (case c_L_bent => k_is); (case k_L_bent => k_is); (case a_L_right => k_is); (case l_L_right => k_is); (case c_L_right => k_is); (case k_L_right => k_is); (case a_law => k_is); (case l_law => k_is); (case c_law => k_is); (case k_law => k_is); (case a_S => k_is); (case l_S => k_is); (case n_fig => k_is); (case t_fig => k_is); (case n_reg => k_is); (case t_reg => k_is); (case n_share => k_is); (case t_share => k_is); (case n_sum => k_is); (case t_sum => k_is); (case n_less => k_is); (case t_less => k_is); (case n_times => k_is); (case t_times => k_is); (case n_by => k_is); (case t_by => k_is); (case n_least => k_is); (case t_least => k_is); (case n_most => k_is); (case t_most => k_is); (case n_when => k_is); (case t_when => k_is); (case n_where => k_is); (case t_where => k_is); (case a_DEEDS => k_is); (case l_DEEDS => k_is); (case n_DEEDS_put => k_is); (case t_DEEDS_put => k_is); (case n_DEEDS_add => k_is); (case t_DEEDS_add => k_is); (case n_DEEDS_copy => k_is); (case t_DEEDS_copy => k_is); (case n_DEEDS_plus => k_is); (case t_DEEDS_plus => k_is); (case n_DEEDS_told => k_is); (case t_DEEDS_told => k_is); (case n_DEEDS_when => k_is); (case t_DEEDS_when => k_is); (case a_BOUNDS => k_is); (case l_BOUNDS => k_is); (case n_BOUNDS_figure => k_is); (case t_BOUNDS_figure => k_is); (case n_BOUNDS_place => k_is); (case t_BOUNDS_place => k_is); (case n_BOUNDS_factor => k_is); (case t_BOUNDS_factor => k_is); (case n_BOUNDS_line => k_is); (case t_BOUNDS_line => k_is); (case a_MOST_BORDERS => k_is); (case l_MOST_BORDERS => k_is); (case i_GREATEST_SCALE => k_is); (case i_MOST_PARTS => k_is); (case i_MOST_DEEP_expressions => k_is); (case i_MOST_DEEP_doubters => k_is); (case i_HOW_MANY_REGISTERS => k_is); (case i_LONGEST_NAME => k_is); (case i_MOST_DEEDS => k_is); (case i_WIDEST => k_is); (case i_MOST_ONES => k_is); (case i_MOST_HOUSES => k_is); (case i_MOST_DEEP_houses => k_is); (case i_MOST_WEIGHT => k_is); (case i_LETTERS => k_is); (case z_len => k_is); (case z_sum => k_is); (case z_max => k_is); (case z_min => k_is); (case z_abs => k_is); (case z_int => k_is); (case z_tuple => k_is); (case z_range => k_is); (case z_sorted => k_is); (case z_zip => k_is); (case z_isinstance => k_is); (case z_list => k_is); (case z_all => k_is); (case z_repr => k_is); (case z_str => k_is); (case z_enumerate => k_is); (case z_bool => k_is)
    (case k_S => repeat (first | exact trivial | refine ⟨⟨_, _, rfl, rfl⟩, ?_⟩))
    (case w_S => first | rfl | decide)
    (case x_S => first | rfl | decide +kernel)
    (case v_fig => exact .cons ⟨_, rfl⟩ (.nil))
    (case v_reg => exact .cons ⟨_, rfl⟩ (.nil))
    (case v_share => exact .cons ⟨_, rfl⟩ (.nil))
    (case v_sum => exact .cons ⟨_, rfl⟩ (.cons ⟨_, rfl⟩ (.nil)))
    (case v_less => exact .cons ⟨_, rfl⟩ (.cons ⟨_, rfl⟩ (.nil)))
    (case v_times => exact .cons ⟨_, rfl⟩ (.cons ⟨_, rfl⟩ (.nil)))
    (case v_by => exact .cons ⟨_, rfl⟩ (.cons ⟨_, rfl⟩ (.nil)))
    (case v_least => exact .cons ⟨_, rfl⟩ (.cons ⟨_, rfl⟩ (.nil)))
    (case v_most => exact .cons ⟨_, rfl⟩ (.cons ⟨_, rfl⟩ (.nil)))
    (case v_when => exact .cons ⟨_, rfl⟩ (.cons ⟨_, rfl⟩ (.cons ⟨_, rfl⟩ (.cons ⟨_, rfl⟩ (.nil)))))
    (case v_where => exact .cons ⟨_, rfl⟩ (.cons ⟨_, rfl⟩ (.cons ⟨_, rfl⟩ (.cons ⟨_, rfl⟩ (.nil)))))
    (case k_DEEDS => repeat (first | exact trivial | refine ⟨⟨_, _, rfl, rfl⟩, ?_⟩))
    (case w_DEEDS => first | rfl | decide)
    (case x_DEEDS => first | rfl | decide +kernel)
    (case v_DEEDS_put => exact .cons ⟨_, rfl⟩ (.cons ⟨_, rfl⟩ (.nil)))
    (case v_DEEDS_add => exact .cons ⟨_, rfl⟩ (.cons ⟨_, rfl⟩ (.nil)))
    (case v_DEEDS_copy => exact .cons ⟨_, rfl⟩ (.cons ⟨_, rfl⟩ (.nil)))
    (case v_DEEDS_plus => exact .cons ⟨_, rfl⟩ (.cons ⟨_, rfl⟩ (.nil)))
    (case v_DEEDS_told => exact .cons ⟨_, rfl⟩ (.cons ⟨_, rfl⟩ (.nil)))
    (case v_DEEDS_when => exact .cons ⟨_, rfl⟩ (.cons ⟨_, rfl⟩ (.cons ⟨_, rfl⟩ (.cons ⟨_, rfl⟩ (.nil)))))
    (case k_BOUNDS => repeat (first | exact trivial | refine ⟨⟨_, _, rfl, rfl⟩, ?_⟩))
    (case w_BOUNDS => first | rfl | decide)
    (case v_BOUNDS_figure => exact .cons ⟨_, rfl⟩ (.cons ⟨_, rfl⟩ (.nil)))
    (case v_BOUNDS_place => exact .cons ⟨_, rfl⟩ (.cons ⟨_, rfl⟩ (.nil)))
    (case v_BOUNDS_factor => exact .cons ⟨_, rfl⟩ (.cons ⟨_, rfl⟩ (.nil)))
    (case v_BOUNDS_line => exact .cons ⟨_, rfl⟩ (.cons ⟨_, rfl⟩ (.nil)))
    (case k_MOST_BORDERS => intro e he; (rcases List.mem_cons.mp he with rfl | he; (exact ⟨Sum.inl 2, rfl, rfl⟩)); (rcases List.mem_cons.mp he with rfl | he; (exact ⟨Sum.inl 3, rfl, rfl⟩)); cases he)
    (case f_MOST_BORDERS_2 => rfl)
    (case v_MOST_BORDERS_2 => exact ⟨_, rfl⟩)
    (case f_MOST_BORDERS_3 => rfl)
    (case v_MOST_BORDERS_3 => exact ⟨_, rfl⟩)

