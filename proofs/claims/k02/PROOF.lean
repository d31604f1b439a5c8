import PyProof.Rows.All
import Wide.All
import OpenK.AllK
import Wide.FinOn
import HandS.Base
import HandS.Call
import HandS.List
import HandS.Comp
import HandS.Ends
import HandS.Dict
import HandS.Iter
import HandS.Text
import HandS.Words
import HandS.WordsList
import HandS.WordsDict
import HandS.Conv
import HandS.Codes
import HandS.Wide
import HandS.Style
import KE.KTupSum
import HandS.Walk
import HandS.More
import HandS.Zip
import HandS.IsInst
import HandS.NoneIn
import PyProof.ReprRoads
import PyProof.ReprLen
import KE.KRevSl
import HandS.DeepEq
import HandS.TupAny
import HandS.TupMul
import KE.GoesMore
import KE.GoesEnum
import HandS.Sort
import PyProof.FactsAll.tuple_2
import HandS.RaiseMore
import HandS.TupLe
import KE.DataMinMax
import HandS.WideBits
import HandS.Flt
import KE.KEqNest
import PyProof.Rows.IntBool
import HandS.DictTup
import HandS.TupLen
import KE.KDictPairs
import KE.KDictCopyH
import PySem.Challenge.RW_nonegrowsrich_k02_whole_each_row_one_sha
set_option Elab.async false
set_option linter.all false
set_option maxRecDepth 100000
set_option maxHeartbeats 4000000
namespace NG
open PySem PySem.Spec PyProof.Rows L2

/-! ### sum of a tuple -/
theorem cr_sumT {X : Cx} (hc : X.calm = true) : CallR X (.builtin "sum") (fun vs H Q => ∃ (a : Addr) (ns : List Int), vs = [V.ref a] ∧ SqT X.K H a (ns.map V.int) ∧ Q (.int ns.sum) H) := by
  intro pins s σ H vs us Q I r h
  obtain ⟨a, ns, rfl, hs, q⟩ := h
  obtain ⟨its, rv, hl, _⟩ := I.tuple hs
  rw [Vals.ref1 r]
  have hi := rv.ints
  obtain ⟨xs, e⟩ := hi.allInts.items
  have hn : numsOf (intItems xs).toList = ns := by rw [← e]; exact hi.numsOf
  rw [nums_intItems] at hn
  rw [e] at hl
  refine PySem.W.ktm_sumG (I.ok.hd hc) hl fun h' tk t' hk => ?_
  rw [preSum_eq, List.take_of_length_le (by simp), hn]
  exact ⟨.int _, H, I.kept hk, ⟨_, rfl⟩, q⟩

/-! ### rules whose reading names the written part, for a comprehension's block -/
theorem ixl {X : Cx} (K : PySem.W.Frag) (h : X.K = K := by rfl) : IxR X (rIxL K) := by
  subst h
  exact ix_list
theorem ixt {X : Cx} (K : PySem.W.Frag) (h : X.K = K := by rfl) : IxR X (rIxT K) := by
  subst h
  exact ix_tup
theorem lenK {X : Cx} (K : PySem.W.Frag) (h : X.K = K := by rfl) : CallR X (.builtin "len") (fun xs H Q => ∃ p ys, xs = [.ref p] ∧ (SqL K H p ys ∨ SqT K H p ys) ∧ Q (.int ys.length) H) := by
  subst h
  exact call_len_seq
theorem sumT {X : Cx} (K : PySem.W.Frag) (hc : X.calm = true) (h : X.K = K := by rfl) : CallR X (.builtin "sum") (fun vs H Q => ∃ (a : Addr) (ns : List Int), vs = [V.ref a] ∧ SqT K H a (ns.map V.int) ∧ Q (.int ns.sum) H) := by
  subst h
  exact cr_sumT hc
theorem sumL {X : Cx} (K : PySem.W.Frag) (hc : X.calm = true) (h : X.K = K := by rfl) : CallR X (.builtin "sum") (rSum K) := by
  subst h
  exact cr_sum hc

/-! ### short words -/
theorem iteFF {c : Bool} {A B : Prop} (hc : c = false) (h : B) : if c = true then A else B := by
  subst hc
  exact iteF h
theorem iteTT {c : Bool} {A B : Prop} (hc : c = true) (h : A) : if c = true then A else B := by
  subst hc
  exact iteT h
theorem iteD {p : Prop} [Decidable p] {A B : Prop} (h1 : p → A) (h2 : ¬ p → B) : if decide p = true then A else B := by
  by_cases h : p
  · rw [decide_eq_true h]
    exact iteT (h1 h)
  · rw [decide_eq_false h]
    exact iteF (h2 h)
theorem at_mem {xs : List V} {i : Int} (h0 : 0 ≤ i) (h1 : i < xs.length) : ∃ v, atI xs i = some v ∧ v ∈ xs := by
  have hj : i.toNat < xs.length := by omega
  refine ⟨xs[i.toNat], ?_, List.getElem_mem hj⟩
  exact at_of (j := i.toNat) (by omega) (List.getElem?_eq_getElem hj)
theorem at_int {ns : List Int} {i : Int} (h0 : 0 ≤ i) (h1 : i < ns.length) : atI (ns.map V.int) i = some (.int (ns.getD i.toNat 0)) := by
  have hj : i.toNat < ns.length := by omega
  refine at_of (j := i.toNat) (by omega) ?_
  rw [List.getElem?_map, List.getElem?_eq_getElem hj, List.getD_eq_getElem?_getD, List.getElem?_eq_getElem hj]
  rfl

/-- an expression, with a word behind it -/
def tCutE (t : TE) : TE := fun σ H Q => ∃ M : VK, t σ H M ∧ ∀ v H', M v H' → Q v H'
theorem pe_cut {X : Cx} {e : Expr} {t : TE} (h : PE X e t) : PE X e (tCutE t) :=
  ⟨fun pins s σ H Q I ⟨M, hm, hq⟩ => thn (h.run pins s σ H M I hm) fun u s1 ⟨x, H1, I1, r, q⟩ => ⟨x, H1, I1, r, hq _ _ q⟩⟩

/-! ### heaps: all but one object is as it was -/
def But (a : Addr) (H H' : Hp) : Prop := ∀ b o, b ≠ a → H b = some o → H' b = some o
theorem But.refl (a : Addr) (H : Hp) : But a H H := fun _ _ _ h => h
theorem But.trans {a : Addr} {H H1 H2 : Hp} (x : But a H H1) (y : But a H1 H2) : But a H H2 := fun b o n h => y b o n (x b o n h)
theorem But.of {a : Addr} {H H' : Hp} (x : Same H H') : But a H H' := fun b o _ h => x b o h
theorem But.new {a p : Addr} {H : Hp} {o : HO} (h : H p = none) : But a H (upd H p o) := fun b u _ e => by
  rw [upd_ne (ne_of_none e h)]
  exact e
theorem But.put {a : Addr} {H : Hp} {o : HO} : But a H (upd H a o) := fun b u n e => by
  rw [upd_ne n]
  exact e
theorem But.same {a : Addr} {H H' : Hp} (x : But a H H') (h : H a = none) : Same H H' := fun b o e => x b o (ne_of_none e h) e
theorem same_new {p : Addr} {H : Hp} {o : HO} (h : H p = none) : Same H (upd H p o) := fun b u e => by
  rw [upd_ne (ne_of_none e h)]
  exact e
theorem But.free {a b : Addr} {H H' : Hp} {o : HO} (x : But a H H') (h : H a = some o) (n : H' b = none) (n2 : H' a ≠ none) : H b = none := by
  cases q : H b with
  | none => rfl
  | some u =>
    by_cases e : b = a
    · subst e
      exact absurd n n2
    · rw [x b u e q] at n
      cases n
theorem But.sqt {a p : Addr} {H H' : Hp} {K : PySem.W.Frag} {l xs : List V} (x : But a H H') (h : H a = some (.lst l)) (q : SqT K H p xs) : SqT K H' p xs := by
  rcases q with (q | ⟨o, q⟩) | q
  · exact .inl (.inl (x _ _ (ne_of q h (by intro z; cases z)) q))
  · exact .inl (.inr ⟨o, x _ _ (ne_of q h (by intro z; cases z)) q⟩)
  · exact .inr q
theorem same_sqt {p : Addr} {H H' : Hp} {K : PySem.W.Frag} {xs : List V} (x : Same H H') (q : SqT K H p xs) : SqT K H' p xs := by
  rcases q with (q | ⟨o, q⟩) | q
  · exact .inl (.inl (x _ _ q))
  · exact .inl (.inr ⟨o, x _ _ q⟩)
  · exact .inr q

/-! ### the hand -/
def HandAt (H : Hp) (a : Addr) (n : Nat) : Prop := ∃ g s m : Int, H a = some (.lst [.int g, .int s, .int m]) ∧ 0 ≤ g ∧ 0 ≤ s ∧ 0 ≤ m ∧ m ≤ n
theorem HandAt.le {H : Hp} {a : Addr} {n k : Nat} (h : HandAt H a n) (l : n ≤ k) : HandAt H a k := by
  obtain ⟨g, s, m, e, h1, h2, h3, h4⟩ := h
  exact ⟨g, s, m, e, h1, h2, h3, by omega⟩
theorem HandAt.new {H : Hp} {a p : Addr} {n : Nat} {o : HO} (h : HandAt H a n) (hp : H p = none) : HandAt (upd H p o) a n := by
  obtain ⟨g, s, m, e, h1, h2, h3, h4⟩ := h
  exact ⟨g, s, m, by rw [upd_ne (ne_of_none e hp)]; exact e, h1, h2, h3, h4⟩
theorem HandAt.put {H : Hp} {a p : Addr} {n : Nat} {o : HO} (h : HandAt H a n) (hp : p ≠ a) : HandAt (upd H p o) a n := by
  obtain ⟨g, s, m, e, h1, h2, h3, h4⟩ := h
  exact ⟨g, s, m, by rw [upd_ne (Ne.symm hp)]; exact e, h1, h2, h3, h4⟩
theorem HandAt.ne {H : Hp} {a p : Addr} {n : Nat} (h : HandAt H a n) (hp : H p = none) : p ≠ a := by
  obtain ⟨g, s, m, e, _⟩ := h
  exact (ne_of_none e hp).symm
theorem HandAt.some {H : Hp} {a : Addr} {n : Nat} (h : HandAt H a n) : ∃ l, H a = some (.lst l) := by
  obtain ⟨g, s, m, e, _⟩ := h
  exact ⟨_, e⟩
theorem But.sq {a p : Addr} {H H' : Hp} {K : PySem.W.Frag} {n : Nat} {xs : List V} (x : But a H H') (h : HandAt H a n) (q : SqT K H p xs) : SqT K H' p xs := by
  obtain ⟨l, e⟩ := h.some
  exact x.sqt e q

structure Bl (mg : Str → Option Value) : Prop where
  len : mg "len" = none
  sum : mg "sum" = none
  max : mg "max" = none
  min : mg "min" = none
  abs : mg "abs" = none
  int : mg "int" = none
  tuple : mg "tuple" = none
  range : mg "range" = none
  sorted : mg "sorted" = none
  zip : mg "zip" = none
  isinstance : mg "isinstance" = none
  list : mg "list" = none
  all : mg "all" = none
  repr : mg "repr" = none
  str : mg "str" = none
  enumerate : mg "enumerate" = none

/-! ### a def that may be called by its name -/
structure Cal (P : Program) (w : World) (K : PySem.W.Frag) (mg : Str → Option Value) (base : Heap) (k : Nat) (x : Str) (sp : Sp) : Prop where
  ex : ∃ (f : Addr) (fd : FuncData) (ps : List Str), FnOk P w K mg base CX0 k f fd ps sp ∧ mg x = some (.ref f) ∧ PySem.W.keepIn K (.ref f) = true ∧ Binds K fd ps []
section
variable {X : Cx} {k j : Nat} {x : Str} {sp : Sp} {p pos : Pos} {e : Expr} {es : List Expr} {t : TA}
theorem pe_c (c : Cal X.prog X.w X.K X.mg X.base k x sp) (hr : Room j X.A) (hk : k ≤ j) (hg : Gl X x) (ha : PA X (e :: es) t)
    (hdb : (x == ("__debug__" : Str)) = false := by decide) (he : starEach (e :: es) X.env = (false, eval e X.env) :: starEach es X.env := by rfl) (hpl : (backTo pos (starEach es X.env)).any (·.1) = false := by rfl) :
    PE X (.Call (.Name x p) (e :: es) [] pos) (tCall sp [] E0 t) := by
  obtain ⟨f, fd, ps, F, hm, kp, b⟩ := c.ex
  exact pe_call F (hr.mono hk) hg hm kp b .nil pass0 ha hdb he hpl
end
theorem Cal.mono {P : Program} {w : World} {K : PySem.W.Frag} {mg : Str → Option Value} {base : Heap} {j k : Nat} {x : Str} {sp : Sp} (c : Cal P w K mg base j x sp) (h : j ≤ k) : Cal P w K mg base k x sp := by
  obtain ⟨f, fd, ps, F, r⟩ := c.ex
  exact ⟨f, fd, ps, F.mono h, r⟩

/-! ### promises of the draws -/
def spTake : Sp := fun vs H Q _ => ∃ (a : Addr) (many : Int) (n : Nat), vs = [.ref a, .int many] ∧ 0 < many ∧ many < 2 ^ 62 ∧ HandAt H a n ∧ n ≤ 1000000000 ∧
  ∀ H' r, But a H H' → HandAt H' a (n + 1) → 0 ≤ r → r < many → Q (.int r) H'
def spHand (K : PySem.W.Frag) : Sp := fun vs H Q _ => ∃ (a : Addr) (k : Int) (ns : List Int), vs = [.ref a, .int k] ∧ 0 ≤ k ∧ k < 1000 ∧ SqL K H a (ns.map V.int) ∧
  ∀ p g s, H p = none → 0 ≤ g → 0 ≤ s → Q (.ref p) (upd H p (.lst [.int g, .int s, .int 0]))
/-- an item of a list that is given -/
def spOf (K : PySem.W.Frag) : Sp := fun vs H Q _ => ∃ (a b : Addr) (xs : List V) (n : Nat), vs = [.ref a, .ref b] ∧ a ≠ b ∧ H b = some (.lst xs) ∧ 0 < xs.length ∧ xs.length ≤ 1000 ∧ HandAt H a n ∧ n ≤ 1000000000 ∧
  ∀ H' v, But a H H' → HandAt H' a (n + 1) → v ∈ xs → Q v H'
def spFigure : Sp := fun vs H Q _ => ∃ (a : Addr) (n : Nat), vs = [.ref a] ∧ HandAt H a n ∧ n ≤ 999999990 ∧
  ∀ H' c, But a H H' → HandAt H' a (n + 3) → -1000 ≤ c → c ≤ 1000 → Q (.int c) H'
end NG

namespace NG
open PySem PySem.Spec PyProof.Rows L2

/-! ### expressions -/
inductive W4 where
  | sum | less | least | most
  deriving DecidableEq
def wn : W4 → Str
  | .sum => "sum"
  | .less => "less"
  | .least => "least"
  | .most => "most"
inductive Ex where
  | fig (c : Int) | reg (i : Nat) | share (j : Nat)
  | two (w : W4) (a b : Ex)
  | times (f : Int) (a : Ex) | by (i : Nat) (a : Ex)
  | when (i : Nat) (c : Int) (a b : Ex) | whr (j : Nat) (c : Int) (a b : Ex)
def ExAt (K : PySem.W.Frag) (H : Hp) : Ex → V → Prop
  | .fig c, v => ∃ p, v = .ref p ∧ SqT K H p [.str "fig", .int c]
  | .reg i, v => ∃ p, v = .ref p ∧ SqT K H p [.str "reg", .int (i : Int)]
  | .share j, v => ∃ p, v = .ref p ∧ SqT K H p [.str "share", .int (j : Int)]
  | .two w a b, v => ∃ p x y, v = .ref p ∧ SqT K H p [.str (wn w), x, y] ∧ ExAt K H a x ∧ ExAt K H b y
  | .times f a, v => ∃ p x, v = .ref p ∧ SqT K H p [.str "times", .int f, x] ∧ ExAt K H a x
  | .by i a, v => ∃ p x, v = .ref p ∧ SqT K H p [.str "by", .int (i : Int), x] ∧ ExAt K H a x
  | .when i c a b, v => ∃ p x y, v = .ref p ∧ SqT K H p [.str "when", .int (i : Int), .int c, x, y] ∧ ExAt K H a x ∧ ExAt K H b y
  | .whr j c a b, v => ∃ p x y, v = .ref p ∧ SqT K H p [.str "where", .int (j : Int), .int c, x, y] ∧ ExAt K H a x ∧ ExAt K H b y
theorem ExAt.imp {K : PySem.W.Frag} {H H' : Hp} (h : ∀ p xs, SqT K H p xs → SqT K H' p xs) : ∀ {e : Ex} {v : V}, ExAt K H e v → ExAt K H' e v
  | .fig _, _, ⟨p, e, q⟩ => ⟨p, e, h _ _ q⟩
  | .reg _, _, ⟨p, e, q⟩ => ⟨p, e, h _ _ q⟩
  | .share _, _, ⟨p, e, q⟩ => ⟨p, e, h _ _ q⟩
  | .two _ _ _, _, ⟨p, x, y, e, q, a, b⟩ => ⟨p, x, y, e, h _ _ q, ExAt.imp h a, ExAt.imp h b⟩
  | .times _ _, _, ⟨p, x, e, q, a⟩ => ⟨p, x, e, h _ _ q, ExAt.imp h a⟩
  | .by _ _, _, ⟨p, x, e, q, a⟩ => ⟨p, x, e, h _ _ q, ExAt.imp h a⟩
  | .when _ _ _ _, _, ⟨p, x, y, e, q, a, b⟩ => ⟨p, x, y, e, h _ _ q, ExAt.imp h a, ExAt.imp h b⟩
  | .whr _ _ _ _, _, ⟨p, x, y, e, q, a, b⟩ => ⟨p, x, y, e, h _ _ q, ExAt.imp h a, ExAt.imp h b⟩
theorem ExAt.but {K : PySem.W.Frag} {H H' : Hp} {a : Addr} {n : Nat} {e : Ex} {v : V} (x : ExAt K H e v) (b : But a H H') (h : HandAt H a n) : ExAt K H' e v := x.imp fun _ _ q => b.sq h q
theorem ExAt.same {K : PySem.W.Frag} {H H' : Hp} {e : Ex} {v : V} (x : ExAt K H e v) (b : Same H H') : ExAt K H' e v := x.imp fun _ _ q => same_sqt b q
theorem ExAt.new {K : PySem.W.Frag} {H : Hp} {p : Addr} {o : HO} {e : Ex} {v : V} (x : ExAt K H e v) (n : H p = none) : ExAt K (upd H p o) e v := x.same (same_new n)
def ExOk (many : Nat) : Ex → Prop
  | .fig c => -1000 ≤ c ∧ c ≤ 1000
  | .reg i => i < 4
  | .share j => j < many
  | .two _ a b => ExOk many a ∧ ExOk many b
  | .times f a => (-9 ≤ f ∧ f ≤ 9) ∧ ExOk many a
  | .by i a => i < 4 ∧ ExOk many a
  | .when i c a b => i < 4 ∧ (-1000 ≤ c ∧ c ≤ 1000) ∧ ExOk many a ∧ ExOk many b
  | .whr j c a b => j < many ∧ (1 ≤ c ∧ c ≤ 1000) ∧ ExOk many a ∧ ExOk many b
def Ex.dep : Ex → Nat
  | .fig _ => 1
  | .reg _ => 1
  | .share _ => 1
  | .two _ a b => max a.dep b.dep + 1
  | .times _ a => a.dep + 1
  | .by _ a => a.dep + 1
  | .when _ _ a b => max a.dep b.dep + 1
  | .whr _ _ a b => max a.dep b.dep + 1
def jw : W4 → Int → Int → Int
  | .sum, x, y => x + y
  | .less, x, y => x - y
  | .least, x, y => if y < x then y else x
  | .most, x, y => if y > x then y else x
def wo (rs ss : List Int) : Ex → Int
  | .fig c => c * ss.sum
  | .reg i => rs.getD i 0 * ss.sum
  | .share j => 1000 * ss.getD j 0
  | .two w a b => jw w (wo rs ss a) (wo rs ss b)
  | .times f a => f * wo rs ss a
  | .by i a => rs.getD i 0 * wo rs ss a
  | .when i c a b => if rs.getD i 0 < c then wo rs ss a else wo rs ss b
  | .whr j c a b => if 1000 * ss.getD j 0 < c * ss.sum then wo rs ss a else wo rs ss b
theorem at_nth {ns : List Int} {i : Nat} (h : i < ns.length) : atI (ns.map V.int) (i : Int) = some (.int (ns.getD i 0)) := at_int (by omega) (by omega)

def RegsAt (K : PySem.W.Frag) (H : Hp) (rs : List Int) (v : V) : Prop := ∃ p, v = .ref p ∧ SqT K H p (rs.map V.int) ∧ rs.length = 4 ∧ ∀ x ∈ rs, -1000 ≤ x ∧ x ≤ 1000
def ShAt (K : PySem.W.Frag) (H : Hp) (many : Nat) (ss : List Int) (v : V) : Prop := ∃ p, v = .ref p ∧ SqT K H p (ss.map V.int) ∧ ss.length = many ∧ (∀ x ∈ ss, 0 ≤ x ∧ x < 2 ^ 50) ∧ 0 < ss.sum ∧ ss.sum < 2 ^ 60
theorem RegsAt.imp {K : PySem.W.Frag} {H H' : Hp} {rs : List Int} {v : V} (r : RegsAt K H rs v) (h : ∀ p xs, SqT K H p xs → SqT K H' p xs) : RegsAt K H' rs v := by
  obtain ⟨p, e, q, l⟩ := r
  exact ⟨p, e, h _ _ q, l⟩
theorem ShAt.imp {K : PySem.W.Frag} {H H' : Hp} {many : Nat} {rs : List Int} {v : V} (r : ShAt K H many rs v) (h : ∀ p xs, SqT K H p xs → SqT K H' p xs) : ShAt K H' many rs v := by
  obtain ⟨p, e, q, l⟩ := r
  exact ⟨p, e, h _ _ q, l⟩
theorem getD_mem {ns : List Int} {i : Nat} (h : i < ns.length) : ns.getD i 0 ∈ ns := by
  rw [List.getD_eq_getElem?_getD, List.getElem?_eq_getElem h]
  exact List.getElem_mem h

/-! ### promises -/
def spWorth (K : PySem.W.Frag) (n : Nat) : Sp := fun vs H Q _ => ∃ (v r s : V) (e : Ex) (many : Nat) (rs ss : List Int), vs = [v, r, s] ∧ ExAt K H e v ∧ ExOk many e ∧ e.dep ≤ n ∧ RegsAt K H rs r ∧ ShAt K H many ss s ∧ Q (.int (wo rs ss e)) H
def spJoinW : Sp := fun vs H Q _ => ∃ (w : W4) (x y : Int), vs = [.str (wn w), .int x, .int y] ∧ Q (.int (jw w x y)) H
def spLed (K : PySem.W.Frag) : Sp := fun vs H Q _ => ∃ (p : Addr) (r x y : V) (i : Nat) (c : Int) (rs : List Int), vs = [.ref p, r] ∧ SqT K H p [.str "when", .int (i : Int), .int c, x, y] ∧ i < 4 ∧ RegsAt K H rs r ∧ Q (if rs.getD i 0 < c then x else y) H
def spSide (K : PySem.W.Frag) : Sp := fun vs H Q _ => ∃ (p : Addr) (s x y : V) (many j : Nat) (c : Int) (ss : List Int), vs = [.ref p, s] ∧ SqT K H p [.str "where", .int (j : Int), .int c, x, y] ∧ j < many ∧ (1 ≤ c ∧ c ≤ 1000) ∧ ShAt K H many ss s ∧ Q (if 1000 * ss.getD j 0 < c * ss.sum then x else y) H
def spMills (K : PySem.W.Frag) : Sp := fun vs H Q _ => ∃ (s : V) (many j : Nat) (ss : List Int), vs = [s, .int (j : Int)] ∧ ShAt K H many ss s ∧ j < many ∧ Q (.int (1000 * ss.getD j 0 / ss.sum)) H
def cost : Nat → Nat
  | 0 => 6
  | n + 1 => 2 * cost n + 20
theorem cost_ge (l : Nat) : 6 ≤ cost l := by
  cases l with
  | zero => exact Nat.le_refl _
  | succ l =>
    unfold cost
    omega
def spLeaf (K : PySem.W.Frag) : Sp := fun vs H Q _ => ∃ (a : Addr) (many n : Nat), vs = [.ref a, .int (many : Int)] ∧ 1 ≤ many ∧ many ≤ 1000 ∧ HandAt H a n ∧ n ≤ 999999000 ∧
  ∀ H' v e, But a H H' → HandAt H' a (n + 5) → ExAt K H' e v → ExOk many e → e.dep ≤ 1 → Q v H'
def spExpr (K : PySem.W.Frag) (m : Nat) : Sp := fun vs H Q _ => ∃ (a : Addr) (many l n : Nat), vs = [.ref a, .int (many : Int), .int (l : Int), .int 1] ∧ l < m ∧ 1 ≤ many ∧ many ≤ 1000 ∧ HandAt H a n ∧ n + cost l ≤ 999999000 ∧
  ∀ H' v e, But a H H' → HandAt H' a (n + cost l) → ExAt K H' e v → ExOk many e → e.dep ≤ l + 1 → Q v H'
theorem cal_never {P : Program} {w : World} {K : PySem.W.Frag} {mg : Str → Option Value} {base : Heap} {k : Nat} {x qual : Str} {st : Stmt} {f : Addr} {fd : FuncData} {ps : List Str} {sp : Sp} (F : Fun K x qual st f fd) (gF : mg x = some (.ref f)) (b : Binds K fd ps []) (h : ∀ vs H Q E, ¬ sp vs H Q E) : Cal P w K mg base k x sp :=
  ⟨f, fd, ps, ⟨fun vs H Q E q => absurd q (h _ _ _ _), fun A outer s H args us vs Q E _ _ _ _ q => absurd q (h _ _ _ _)⟩, gF, F.kp, b⟩
theorem fn_never {P : Program} {w : World} {K : PySem.W.Frag} {mg : Str → Option Value} {base : Heap} {k : Nat} {f : Addr} {fd : FuncData} {ps : List Str} {sp : Sp} (h : ∀ vs H Q E, ¬ sp vs H Q E) : FnOk P w K mg base CX0 k f fd ps sp :=
  ⟨fun vs H Q E q => absurd q (h _ _ _ _), fun A outer s H args us vs Q E _ _ _ _ q => absurd q (h _ _ _ _)⟩
end NG

namespace NG
open PySem PySem.Spec PyProof.Rows L2

/-! ### the greatest that divides all -/
def gf (g : Nat) (x : Int) : Nat := Nat.gcd g x.toNat
def gl (ns : List Int) : Nat := ns.foldl gf 0
theorem gl_step {ns : List Int} {i : Nat} {x : Int} (h : ns[i]? = some x) : gl (ns.take (i + 1)) = Nat.gcd (gl (ns.take i)) x.toNat := by
  unfold gl
  rw [List.take_add_one, h, List.foldl_append]
  rfl
theorem gf_dvd : ∀ (ns : List Int) (g : Nat), ns.foldl gf g ∣ g ∧ ∀ x ∈ ns, ns.foldl gf g ∣ x.toNat
  | [], g => ⟨Nat.dvd_refl _, fun x h => by cases h⟩
  | y :: ns, g => by
    obtain ⟨h1, h2⟩ := gf_dvd ns (gf g y)
    refine ⟨Nat.dvd_trans h1 (Nat.gcd_dvd_left _ _), fun x hx => ?_⟩
    rcases List.mem_cons.mp hx with rfl | hx
    · exact Nat.dvd_trans h1 (Nat.gcd_dvd_right _ _)
    · exact h2 x hx
theorem gl_dvd {ns : List Int} {x : Int} (h : x ∈ ns) : gl ns ∣ x.toNat := (gf_dvd ns 0).2 x h
theorem gl_pos {ns : List Int} {x : Int} (h : x ∈ ns) (p : 0 < x) : 0 < gl ns := Nat.pos_of_dvd_of_pos (gl_dvd h) (by omega)
theorem sum_nonneg : ∀ {ms : List Int}, (∀ x ∈ ms, 0 ≤ x) → 0 ≤ ms.sum
  | [], _ => by simp
  | y :: ms, h => by
    have := sum_nonneg (ms := ms) fun x hx => h x (List.mem_cons_of_mem _ hx)
    have := h y List.mem_cons_self
    rw [List.sum_cons]
    omega
theorem sum_pos : ∀ {ms : List Int} {x : Int}, (∀ x ∈ ms, 0 ≤ x) → x ∈ ms → 0 < x → 0 < ms.sum
  | y :: ms, x, h, hx, p => by
    have h1 := sum_nonneg (ms := ms) fun x hx => h x (List.mem_cons_of_mem _ hx)
    have h2 := h y List.mem_cons_self
    rw [List.sum_cons]
    rcases List.mem_cons.mp hx with rfl | hx
    · omega
    · have := sum_pos (ms := ms) (fun x hx => h x (List.mem_cons_of_mem _ hx)) hx p
      omega
theorem sum_le {B : Int} : ∀ {ms : List Int}, (∀ x ∈ ms, x ≤ B) → ms.sum ≤ ms.length * B
  | [], _ => by simp
  | y :: ms, h => by
    have h1 := sum_le (ms := ms) fun x hx => h x (List.mem_cons_of_mem _ hx)
    have h2 := h y List.mem_cons_self
    rw [List.sum_cons, List.length_cons, Int.natCast_succ, Int.add_mul]
    omega
theorem div_le_self' {x : Int} {g : Nat} (h : 0 ≤ x) : x / (g : Int) ≤ x := Int.ediv_le_self _ h
/-- what lowest makes -/
def low (ns : List Int) : List Int := ns.map fun x => x / (gl ns : Int)
theorem low_sh {ns : List Int} (hb : ∀ x ∈ ns, 0 ≤ x ∧ x < 2 ^ 50) (hl : ns.length ≤ 1000) {y : Int} (hy : y ∈ ns) (py : 0 < y) :
    (∀ x ∈ low ns, 0 ≤ x ∧ x < 2 ^ 50) ∧ 0 < (low ns).sum ∧ (low ns).sum < 2 ^ 60 := by
  have hg := gl_pos hy py
  have h1 : ∀ x ∈ low ns, 0 ≤ x ∧ x < 2 ^ 50 := fun x hx => by
    obtain ⟨z, hz, rfl⟩ := List.mem_map.mp hx
    have h2 := hb z hz
    exact ⟨Int.ediv_nonneg h2.1 (by omega), Int.lt_of_le_of_lt (div_le_self' h2.1) h2.2⟩
  refine ⟨h1, ?_, ?_⟩
  · refine sum_pos (x := y / (gl ns : Int)) (fun x hx => (h1 x hx).1) (List.mem_map.mpr ⟨y, hy, rfl⟩) ?_
    have hd : (gl ns : Nat) ≤ y.toNat := Nat.le_of_dvd (by omega) (gl_dvd hy)
    exact Int.ediv_pos_of_pos_of_dvd py (by omega) (by
      have : ((gl ns : Nat) : Int) ∣ ((y.toNat : Nat) : Int) := Int.natCast_dvd_natCast.mpr (gl_dvd hy)
      rwa [Int.toNat_of_nonneg (by omega)] at this)
  · have h3 := sum_le (B := 2 ^ 50) (ms := low ns) fun x hx => Int.le_of_lt (h1 x hx).2
    have h4 : (low ns).length ≤ 1000 := by
      unfold low
      rw [List.length_map]
      exact hl
    have h5 : ((low ns).length : Int) * 2 ^ 50 ≤ 1000 * 2 ^ 50 := Int.mul_le_mul_of_nonneg_right (by omega) (by decide)
    have h6 : (1000 : Int) * 2 ^ 50 < 2 ^ 60 := by decide
    omega
theorem gcd_turn {u v : Nat} : Nat.gcd v (u % v) = Nat.gcd u v := by
  rw [Nat.gcd_comm v, ← Nat.gcd_rec, Nat.gcd_comm]
theorem ixN_of {n : Nat} {r : Int} (h0 : 0 ≤ r) (h1 : r < n) : ixN n r = some r.toNat := by
  unfold ixN
  rw [if_pos h0, if_pos h1]

theorem tYes_in {σ : L2.St} {H : Hp} {A B : Hp → Prop} (h : A H) : tYes σ H (fun b H3 => if b = true then A H3 else B H3) := by
  show if true = true then A H else B H
  exact iteT h

/-! ### promises -/
def spLow (K : PySem.W.Frag) : Sp := fun vs H Q _ => ∃ (p : Addr) (ns : List Int) (y : Int), vs = [.ref p] ∧ H p = some (.lst (ns.map V.int)) ∧ (∀ x ∈ ns, 0 ≤ x ∧ x < 2 ^ 50) ∧ ns.length ≤ 1000 ∧ y ∈ ns ∧ 0 < y ∧
  ∀ H' v ms, Same H H' → ShAt K H' ns.length ms v → Q v H'
def spShares (K : PySem.W.Frag) : Sp := fun vs H Q _ => ∃ (a : Addr) (many n : Nat), vs = [.ref a, .int (many : Int)] ∧ 1 ≤ many ∧ many ≤ 3 ∧ HandAt H a n ∧ n ≤ 999998000 ∧
  ∀ H' v ms, But a H H' → HandAt H' a (n + 20) → ShAt K H' many ms v → Q v H'
def spRegs (K : PySem.W.Frag) : Sp := fun vs H Q _ => ∃ (a : Addr) (n : Nat), vs = [.ref a] ∧ HandAt H a n ∧ n ≤ 999998000 ∧
  ∀ H' v rs, But a H H' → HandAt H' a (n + 12) → RegsAt K H' rs v → Q v H'
def spAsked (K : PySem.W.Frag) : Sp := fun vs H Q _ => ∃ (a : Addr) (many n : Nat), vs = [.ref a, .int (many : Int)] ∧ 2 ≤ many ∧ many ≤ 3 ∧ HandAt H a n ∧ n ≤ 999997000 ∧
  ∀ H' v ms, But a H H' → HandAt H' a (n + 25) → ShAt K H' many ms v → Q v H'
end NG

namespace NG
open PySem PySem.Spec PyProof.Rows L2
/-! ### rows of expressions -/
def RowsAt (K : PySem.W.Frag) (H : Hp) : List V → List Ex → Prop
  | [], [] => True
  | v :: vs, e :: es => ExAt K H e v ∧ RowsAt K H vs es
  | _, _ => False
theorem RowsAt.imp {K : PySem.W.Frag} {H H' : Hp} (h : ∀ p xs, SqT K H p xs → SqT K H' p xs) : ∀ {vs : List V} {es : List Ex}, RowsAt K H vs es → RowsAt K H' vs es
  | [], [], _ => trivial
  | _ :: _, _ :: _, ⟨x, r⟩ => ⟨x.imp h, RowsAt.imp h r⟩
theorem RowsAt.same {K : PySem.W.Frag} {H H' : Hp} {vs : List V} {es : List Ex} (r : RowsAt K H vs es) (s : Same H H') : RowsAt K H' vs es := r.imp fun _ _ q => same_sqt s q
theorem RowsAt.len {K : PySem.W.Frag} {H : Hp} : ∀ {vs : List V} {es : List Ex}, RowsAt K H vs es → vs.length = es.length
  | [], [], _ => rfl
  | _ :: _, _ :: _, ⟨_, r⟩ => by rw [List.length_cons, List.length_cons, r.len]
theorem RowsAt.snoc {K : PySem.W.Frag} {H : Hp} {v : V} {e : Ex} (x : ExAt K H e v) : ∀ {vs : List V} {es : List Ex}, RowsAt K H vs es → RowsAt K H (vs ++ [v]) (es ++ [e])
  | [], [], _ => ⟨x, trivial⟩
  | _ :: _, _ :: _, ⟨y, r⟩ => ⟨y, RowsAt.snoc x r⟩
theorem RowsAt.get {K : PySem.W.Frag} {H : Hp} : ∀ {vs : List V} {es : List Ex} {k : Nat} {e : Ex}, RowsAt K H vs es → es[k]? = some e → ∃ v, vs[k]? = some v ∧ ExAt K H e v
  | [], [], _, _, _, h => by simp at h
  | v :: vs, e' :: es, 0, e, ⟨x, r⟩, h => by
    have : e' = e := Option.some.inj h
    subst this
    exact ⟨v, rfl, x⟩
  | v :: vs, e' :: es, k + 1, e, ⟨x, r⟩, h => RowsAt.get (k := k) r h
def pairUp : List Ex → List Ex
  | a :: b :: r => .two .sum a b :: pairUp r
  | _ => []
theorem pairUp_get : ∀ {es : List Ex} {k : Nat} {a b : Ex}, es[2 * k]? = some a → es[2 * k + 1]? = some b → (pairUp es)[k]? = some (.two .sum a b)
  | [], k, _, _, h, _ => by simp at h
  | [_], k, _, _, _, h => by
    have := (List.getElem?_eq_some_iff.mp h).1
    rw [List.length_singleton] at this
    omega
  | x :: y :: r, 0, a, b, h, h2 => by
    have e1 : x = a := Option.some.inj h
    have e2 : y = b := Option.some.inj h2
    rw [← e1, ← e2]
    rfl
  | x :: y :: r, k + 1, a, b, h, h2 => by
    have h : r[2 * k]? = some a := h
    have h2 : r[2 * k + 1]? = some b := h2
    exact pairUp_get (es := r) (k := k) h h2
theorem pairUp_sum (rs ss : List Int) : ∀ {es : List Ex} {k : Nat}, es.length = 2 * k → ((pairUp es).map (wo rs ss)).sum = (es.map (wo rs ss)).sum ∧ (pairUp es).length = k
  | [], k, h => by
    rw [List.length_nil] at h
    exact ⟨rfl, by show 0 = k; omega⟩
  | [_], k, h => by
    rw [List.length_singleton] at h
    omega
  | x :: y :: r, k, h => by
    rw [List.length_cons, List.length_cons] at h
    obtain ⟨h1, h2⟩ := pairUp_sum rs ss (es := r) (k := k - 1) (by omega)
    refine ⟨?_, ?_⟩
    · show (wo rs ss (.two .sum x y) :: (pairUp r).map (wo rs ss)).sum = (wo rs ss x :: wo rs ss y :: r.map (wo rs ss)).sum
      rw [List.sum_cons, List.sum_cons, List.sum_cons, h1]
      show wo rs ss x + wo rs ss y + _ = _
      omega
    · show (pairUp r).length + 1 = k
      omega
theorem pairUp_ok {many d : Nat} : ∀ {es : List Ex}, (∀ e ∈ es, ExOk many e ∧ e.dep ≤ d) → ∀ e ∈ pairUp es, ExOk many e ∧ e.dep ≤ d + 1
  | [], _, e, h => by cases h
  | [_], _, e, h => by cases h
  | x :: y :: r, h, e, he => by
    have hx := h x List.mem_cons_self
    have hy := h y (List.mem_cons_of_mem _ List.mem_cons_self)
    rcases List.mem_cons.mp he with rfl | he
    · refine ⟨⟨hx.1, hy.1⟩, ?_⟩
      show max x.dep y.dep + 1 ≤ d + 1
      omega
    · exact pairUp_ok (es := r) (fun e he => h e (List.mem_cons_of_mem _ (List.mem_cons_of_mem _ he))) e he
def whn (j : Nat) (z : Int) : Ex := .whr j z (.fig 0) (.fig 1)
theorem count_sum (rs ss : List Int) (j : Nat) (h0 : 0 < ss.sum) : ∀ fs : List Int, ((fs.map (whn j)).map (wo rs ss)).sum = ((fs.filter fun z => decide (z ≤ 1000 * ss.getD j 0 / ss.sum)).length : Int) * ss.sum
  | [] => by simp
  | z :: fs => by
    have ih := count_sum rs ss j h0 fs
    have hm : 1000 * ss.getD j 0 / ss.sum < z ↔ 1000 * ss.getD j 0 < z * ss.sum := Int.ediv_lt_iff_lt_mul h0
    show (wo rs ss (whn j z) :: (fs.map (whn j)).map (wo rs ss)).sum = _
    rw [List.sum_cons, ih]
    show (if 1000 * ss.getD j 0 < z * ss.sum then 0 * ss.sum else 1 * ss.sum) + _ = _
    by_cases c : z ≤ 1000 * ss.getD j 0 / ss.sum
    · rw [List.filter_cons_of_pos (by rw [decide_eq_true c]), if_neg (fun q => by have := hm.mpr q; omega), List.length_cons, Int.natCast_succ, Int.add_mul]
      omega
    · rw [List.filter_cons_of_neg (by rw [decide_eq_false c]; exact Bool.false_ne_true), if_pos (hm.mp (by omega))]
      omega
def spCount (K : PySem.W.Frag) : Sp := fun vs H Q _ => ∃ (a : Addr) (many n : Nat) (s : V) (ss : List Int), vs = [.ref a, .int (many : Int), s] ∧ 2 ≤ many ∧ many ≤ 3 ∧ HandAt H a n ∧ n ≤ 999990000 ∧ ShAt K H many ss s ∧
  ∀ H', But a H H' → HandAt H' a (n + 10) → Q (.bl true) H'
end NG

namespace NG
open PySem PySem.Spec PyProof.Rows L2

/-! ### more rules -/
theorem pgtK {X : Cx} (K : PySem.W.Frag) {es : List Expr} {k : Nat} {t : TGs} {n : Nat} {pos : Pos} (hc : X.calm = true) (h : PGs X es t)
    (hn : (assignEach es X.env).length = n := by rfl) (hst : (assignEach es X.env).findIdx? (·.1) = none := by rfl) (hK : X.K = K := by rfl) : PG X (.Tuple es k pos) (gTup K n t) := by
  subst hK
  exact pg_tup hc h hn hst
theorem inK {X : Cx} (K : PySem.W.Frag) (h : X.K = K := by rfl) : OpR X (compareOp .In) (rIn K false) := by
  subst h
  exact op_in_seq
theorem isiK {X : Cx} (K : PySem.W.Frag) (h : X.K = K := by rfl) : CallR X (.builtin "isinstance") (rIsi K) := by
  subst h
  exact call_isi
theorem walk_zipT {K : PySem.W.Frag} {a b : Addr} {xs ys : List V} {n : Nat} (hx : xs.length = n) (hy : ys.length = n) : Walk (RZ.ItzT K a b) n (fun H => SqT K H a xs ∧ SqT K H b ys) (YPair (fun i => xs[i]?) (fun i => ys[i]?)) := by
  refine ⟨fun i H hi q => ?_, fun H q => ⟨xs, ys, q.1, q.2, .inl (by omega)⟩, fun i H v H' hi q y => ?_⟩
  · exact ⟨xs, ys, xs[i]'(by omega), ys[i]'(by omega), q.1, q.2, List.getElem?_eq_getElem _, List.getElem?_eq_getElem _⟩
  · obtain ⟨T, x, z, h1, h2, h3, h4, h5⟩ := y
    exact ⟨T, x, z, h1, h2, h3, h4 xs q.1, h5 ys q.2⟩
def tChain3 (r r' r'' : R2) (ta tb tc td : TE) : TT := fun σ H Q => ta σ H fun x H1 => tb σ H1 fun y H2 => r x y H2 fun z H3 => ∃ k, z = .bl k ∧
  (if k = true then tc σ H3 fun u H4 => r' y u H4 fun z' H5 => ∃ k', z' = .bl k' ∧ (if k' = true then td σ H5 fun v H6 => r'' u v H6 fun z'' H7 => ∃ k'', z'' = .bl k'' ∧ Q k'' H7 else Q false H5) else Q false H3)
theorem pt_chain3 {X : Cx} {a b c d : Expr} {ta tb tc td : TE} {pos : Pos} {o1 o2 o3 : CmpOp} {r1 r2 r3 : R2} (h1 : OpR X (compareOp o1) r1) (h2 : OpR X (compareOp o2) r2) (h3 : OpR X (compareOp o3) r3) (ha : PE X a ta) (hb : PE X b tb) (hc : PE X c tc) (hd : PE X d td)
    (hm : lastMarks [o1, o2, o3] [b, c, d] = false := by with_unfolding_all rfl) : PT X (.Compare a [o1, o2, o3] [b, c, d] pos) (tChain3 r1 r2 r3 ta tb tc td) := by
  refine ⟨fun pins s σ H Q I h => isTrue_chain (thn (ha.run pins s σ H _ I h) fun v1 s1 ⟨x, H1, I1, e1, q1⟩ => test_link (thn (hb.run pins s1 σ H1 _ I1 q1) fun v2 s2 ⟨y, H2, I2, e2, q2⟩ => thn (h1 pins s2 σ H2 x y v1 v2 _ I2 e1 e2 q2) fun v3 s3 ⟨z, H3, I3, e3, k, ek, q3⟩ => ?_)) hm⟩
  subst ek
  cases e3
  refine wpAny_truthy_bool ?_
  cases k with
  | false => exact ite_ff ⟨H3, I3, q3⟩
  | true =>
    refine ite_tt (test_link (thn (hc.run pins s3 σ H3 _ I3 q3) fun v4 s4 ⟨u, H4, I4, e4, q4⟩ => thn (h2 pins s4 σ H4 y u v2 v4 _ I4 e2 e4 q4) fun v5 s5 ⟨z', H5, I5, e5, k', ek', q5⟩ => ?_))
    subst ek'
    cases e5
    refine wpAny_truthy_bool ?_
    cases k' with
    | false => exact ite_ff ⟨H5, I5, q5⟩
    | true =>
      refine ite_tt (test_last (thn (hd.run pins s5 σ H5 _ I5 q5) fun v6 s6 ⟨v, H6, I6, e6, q6⟩ => thn (h3 pins s6 σ H6 u v v4 v6 _ I6 e4 e6 q6) fun v7 s7 ⟨z'', H7, I7, e7, k'', ek'', q7⟩ => ?_))
      subst ek''
      cases e7
      exact wpAny_truthy_bool ⟨H7, I7, q7⟩

/-! ### the shapes of words -/
def shapeOf : Ex → List Str
  | .fig _ => ["figure"]
  | .reg _ => ["place"]
  | .share _ => ["sign"]
  | .two _ _ _ => ["part", "part"]
  | .times _ _ => ["factor", "part"]
  | .by _ _ => ["place", "part"]
  | .when _ _ _ _ => ["place", "figure", "part", "part"]
  | .whr _ _ _ _ => ["sign", "line", "part", "part"]
def wordOf : Ex → Str
  | .fig _ => "fig"
  | .reg _ => "reg"
  | .share _ => "share"
  | .two w _ _ => wn w
  | .times _ _ => "times"
  | .by _ _ => "by"
  | .when _ _ _ _ => "when"
  | .whr _ _ _ _ => "where"
def Shapes (K : PySem.W.Frag) (w : World) (d : Addr) : Prop := ∀ e : Ex, ∃ q, KDct K w d (wordOf e) (.ref q) ∧ ∀ H, SqT K H q ((shapeOf e).map V.str)
def Ex.kids : Ex → List Ex
  | .fig _ => []
  | .reg _ => []
  | .share _ => []
  | .two _ a b => [a, b]
  | .times _ a => [a]
  | .by _ a => [a]
  | .when _ _ a b => [a, b]
  | .whr _ _ a b => [a, b]
/-- the items whose kind is a part -/
def pk : List Str → List V → List V
  | k :: ks, v :: vs => if V.str k = V.str "part" then v :: pk ks vs else pk ks vs
  | _, _ => []
theorem pk_snoc : ∀ {ks : List Str} {vs : List V} {i : Nat} {k : Str} {v : V}, ks[i]? = some k → vs[i]? = some v → pk (ks.take (i + 1)) (vs.take (i + 1)) = pk (ks.take i) (vs.take i) ++ (if V.str k = V.str "part" then [v] else [])
  | [], _, i, _, _, h, _ => by simp at h
  | _ :: _, [], i, _, _, _, h => by simp at h
  | k0 :: ks, v0 :: vs, 0, k, v, h, h2 => by
    have e1 : k0 = k := Option.some.inj h
    have e2 : v0 = v := Option.some.inj h2
    subst e1 e2
    show (if V.str k0 = V.str "part" then v0 :: pk (ks.take 0) (vs.take 0) else pk (ks.take 0) (vs.take 0)) = _
    split <;> rfl
  | k0 :: ks, v0 :: vs, i + 1, k, v, h, h2 => by
    have ih := pk_snoc (ks := ks) (vs := vs) (i := i) h h2
    show (if V.str k0 = V.str "part" then v0 :: pk (ks.take (i + 1)) (vs.take (i + 1)) else pk (ks.take (i + 1)) (vs.take (i + 1))) = (if V.str k0 = V.str "part" then v0 :: pk (ks.take i) (vs.take i) else pk (ks.take i) (vs.take i)) ++ _
    rw [ih]
    split <;> rfl
/-- how an expression lies: its word, then what belongs there -/
theorem ExAt.lies {K : PySem.W.Frag} {H : Hp} : ∀ {e : Ex} {v : V}, ExAt K H e v → ∃ (p : Addr) (xs : List V), v = .ref p ∧ SqT K H p (.str (wordOf e) :: xs) ∧ xs.length = (shapeOf e).length ∧ xs.length ≤ 4 ∧ 0 < xs.length ∧ RowsAt K H (pk (shapeOf e) xs) e.kids
  | .fig _, _, ⟨p, e, q⟩ => ⟨p, _, e, q, rfl, by simp, by simp, trivial⟩
  | .reg _, _, ⟨p, e, q⟩ => ⟨p, _, e, q, rfl, by simp, by simp, trivial⟩
  | .share _, _, ⟨p, e, q⟩ => ⟨p, _, e, q, rfl, by simp, by simp, trivial⟩
  | .two _ _ _, _, ⟨p, x, y, e, q, a, b⟩ => ⟨p, _, e, q, rfl, by simp, by simp, a, b, trivial⟩
  | .times _ _, _, ⟨p, x, e, q, a⟩ => ⟨p, _, e, q, rfl, by simp, by simp, a, trivial⟩
  | .by _ _, _, ⟨p, x, e, q, a⟩ => ⟨p, _, e, q, rfl, by simp, by simp, a, trivial⟩
  | .when _ _ _ _, _, ⟨p, x, y, e, q, a, b⟩ => ⟨p, _, e, q, rfl, by simp, by simp, a, b, trivial⟩
  | .whr _ _ _ _, _, ⟨p, x, y, e, q, a, b⟩ => ⟨p, _, e, q, rfl, by simp, by simp, a, b, trivial⟩
theorem pk_len : ∀ (ks : List Str) (vs : List V), (pk ks vs).length ≤ vs.length
  | [], vs => by
    unfold pk
    exact Nat.zero_le _
  | _ :: _, [] => Nat.le_refl _
  | k :: ks, v :: vs => by
    have := pk_len ks vs
    unfold pk
    split
    · rw [List.length_cons, List.length_cons]
      omega
    · rw [List.length_cons]
      omega

/-! ### spans -/
def mn (x y : Int) : Int := if y < x then y else x
def mx (x y : Int) : Int := if y > x then y else x
theorem mn_le (x y : Int) : mn x y ≤ x ∧ mn x y ≤ y := by unfold mn; split <;> omega
theorem le_mx (x y : Int) : x ≤ mx x y ∧ y ≤ mx x y := by unfold mx; split <;> omega
theorem mn_or (x y : Int) : mn x y = x ∨ mn x y = y := by unfold mn; split <;> simp
theorem mx_or (x y : Int) : mx x y = x ∨ mx x y = y := by unfold mx; split <;> simp
def ab (x : Int) : Int := if x < 0 then -x else x
def js : W4 → Int × Int → Int × Int → Int × Int
  | .sum, x, y => (x.1 + y.1, x.2 + y.2)
  | .less, x, y => (x.1 - y.2, x.2 - y.1)
  | .least, x, y => (mn x.1 y.1, mn x.2 y.2)
  | .most, x, y => (mx x.1 y.1, mx x.2 y.2)
def spn : Ex → Int × Int
  | .fig c => (c, c)
  | .reg _ => (-1000, 1000)
  | .share _ => (0, 1000)
  | .two w a b => js w (spn a) (spn b)
  | .times f a => (mn (f * (spn a).1) (f * (spn a).2), mx (f * (spn a).1) (f * (spn a).2))
  | .by _ a => (-1000 * mx (ab (spn a).1) (ab (spn a).2), 1000 * mx (ab (spn a).1) (ab (spn a).2))
  | .when _ _ a b => (mn (spn a).1 (spn b).1, mx (spn a).2 (spn b).2)
  | .whr _ _ a b => (mn (spn a).1 (spn b).1, mx (spn a).2 (spn b).2)
def SpAt (K : PySem.W.Frag) (H : Hp) (s : Int × Int) (v : V) : Prop := ∃ p, v = .ref p ∧ SqT K H p [.int s.1, .int s.2]
def SpsAt (K : PySem.W.Frag) (H : Hp) : List V → List (Int × Int) → Prop
  | [], [] => True
  | v :: vs, s :: ss => SpAt K H s v ∧ SpsAt K H vs ss
  | _, _ => False
theorem SpsAt.imp {K : PySem.W.Frag} {H H' : Hp} (h : ∀ p xs, SqT K H p xs → SqT K H' p xs) : ∀ {vs : List V} {ss : List (Int × Int)}, SpsAt K H vs ss → SpsAt K H' vs ss
  | [], [], _ => trivial
  | _ :: _, _ :: _, ⟨⟨p, e, q⟩, r⟩ => ⟨⟨p, e, h _ _ q⟩, SpsAt.imp h r⟩
theorem SpsAt.snoc {K : PySem.W.Frag} {H : Hp} {v : V} {s : Int × Int} (x : SpAt K H s v) : ∀ {vs : List V} {ss : List (Int × Int)}, SpsAt K H vs ss → SpsAt K H (vs ++ [v]) (ss ++ [s])
  | [], [], _ => ⟨x, trivial⟩
  | _ :: _, _ :: _, ⟨y, r⟩ => ⟨y, SpsAt.snoc x r⟩
theorem SpsAt.len {K : PySem.W.Frag} {H : Hp} : ∀ {vs : List V} {ss : List (Int × Int)}, SpsAt K H vs ss → vs.length = ss.length
  | [], [], _ => rfl
  | _ :: _, _ :: _, ⟨_, r⟩ => by rw [List.length_cons, List.length_cons, r.len]

theorem int_at {ns : List Int} {i : Nat} {v : V} (h : (ns.map V.int)[i]? = some v) : ∃ z : Int, v = .int z ∧ ns[i]? = some z := by
  rw [List.getElem?_map] at h
  cases e : ns[i]? with
  | none => rw [e] at h; cases h
  | some z => rw [e] at h; exact ⟨z, (Option.some.inj h).symm, rfl⟩
theorem SpsAt.one {K : PySem.W.Frag} {H : Hp} {us : List V} {s : Int × Int} (h : SpsAt K H us [s]) : ∃ p, us = [.ref p] ∧ SqT K H p [.int s.1, .int s.2] := by
  cases us with
  | nil => exact h.elim
  | cons u r =>
    cases r with
    | nil =>
      obtain ⟨⟨p, e, q⟩, _⟩ := h
      exact ⟨p, by rw [e], q⟩
    | cons _ _ => exact h.2.elim
theorem SpsAt.pair {K : PySem.W.Frag} {H : Hp} {us : List V} {s t : Int × Int} (h : SpsAt K H us [s, t]) : ∃ p q, us = [.ref p, .ref q] ∧ SqT K H p [.int s.1, .int s.2] ∧ SqT K H q [.int t.1, .int t.2] := by
  cases us with
  | nil => exact h.elim
  | cons u r =>
    obtain ⟨⟨p, e, q⟩, h2⟩ := h
    obtain ⟨p2, e2, q2⟩ := SpsAt.one h2
    exact ⟨p, p2, by rw [e, e2], q, q2⟩
theorem put_sqt {K : PySem.W.Frag} {H : Hp} {D p : Addr} {us us' xs : List V} (h : H D = some (.lst us)) (q : SqT K H p xs) : SqT K (upd H D (.lst us')) p xs := by
  rcases q with (q | ⟨o, q⟩) | q
  · exact .inl (.inl (by rw [upd_ne (ne_of q h (by intro z; cases z))]; exact q))
  · exact .inl (.inr ⟨o, by rw [upd_ne (ne_of q h (by intro z; cases z))]; exact q⟩)
  · exact .inr q
theorem RowsAt.get' {K : PySem.W.Frag} {H : Hp} : ∀ {vs : List V} {es : List Ex} {k : Nat} {v : V}, RowsAt K H vs es → vs[k]? = some v → ∃ e, es[k]? = some e ∧ ExAt K H e v
  | [], [], _, _, _, h => by simp at h
  | v' :: vs, e :: es, 0, v, ⟨x, r⟩, h => by
    have : v' = v := Option.some.inj h
    subst this
    exact ⟨e, rfl, x⟩
  | v' :: vs, e :: es, k + 1, v, ⟨x, r⟩, h => RowsAt.get' (k := k) r h
theorem mn_of {m a b : Int} (h : m ∈ [a, b]) (hl : ∀ y ∈ [a, b], m ≤ y) : m = mn a b := by
  have h1 := hl a (by simp)
  have h2 := hl b (by simp)
  simp only [List.mem_cons, List.not_mem_nil, or_false] at h
  unfold mn
  split <;> omega
theorem mx_of {m a b : Int} (h : m ∈ [a, b]) (hl : ∀ y ∈ [a, b], y ≤ m) : m = mx a b := by
  have h1 := hl a (by simp)
  have h2 := hl b (by simp)
  simp only [List.mem_cons, List.not_mem_nil, or_false] at h
  unfold mx
  split <;> omega

/-! ### promises -/
def spParts (K : PySem.W.Frag) : Sp := fun vs H Q _ => ∃ (v : V) (e : Ex), vs = [v] ∧ ExAt K H e v ∧ ∀ H' p xs, Same H H' → H p = none → H' p = some (.lst xs) → RowsAt K H' xs e.kids → Q (.ref p) H'
def spJoinS (K : PySem.W.Frag) : Sp := fun vs H Q _ => ∃ (e : Ex) (x y : V) (s t : Int × Int), vs = [.str (wordOf e), x, y] ∧ SpAt K H s x ∧ SpAt K H t y ∧
  ((∃ w a b, e = .two w a b ∧ ∀ H' v, Same H H' → SpAt K H' (js w s t) v → Q v H') ∨ ((∃ i c a b, e = .when i c a b) ∨ (∃ i c a b, e = .whr i c a b)) ∧ ∀ H' v, Same H H' → SpAt K H' (mn s.1 t.1, mx s.2 t.2) v → Q v H')
def spSpan (K : PySem.W.Frag) (n : Nat) : Sp := fun vs H Q _ => ∃ (v : V) (e : Ex) (many : Nat), vs = [v] ∧ ExAt K H e v ∧ ExOk many e ∧ e.dep ≤ n ∧ ∀ H' u, Same H H' → SpAt K H' (spn e) u → Q u H'
theorem kids_dep : ∀ (e : Ex) (k : Ex), k ∈ e.kids → k.dep + 1 ≤ e.dep
  | .fig _, k, h => by cases h
  | .reg _, k, h => by cases h
  | .share _, k, h => by cases h
  | .two w0 a b, k, h => by
    simp only [Ex.kids, List.mem_cons, List.not_mem_nil, or_false] at h
    have e : Ex.dep (.two w0 a b) = max a.dep b.dep + 1 := rfl
    rw [e]
    rcases h with rfl | rfl <;> omega
  | .times _ a, k, h => by
    simp only [Ex.kids, List.mem_cons, List.not_mem_nil, or_false] at h
    subst h
    exact Nat.le_refl _
  | .by _ a, k, h => by
    simp only [Ex.kids, List.mem_cons, List.not_mem_nil, or_false] at h
    subst h
    exact Nat.le_refl _
  | .when i0 c0 a b, k, h => by
    simp only [Ex.kids, List.mem_cons, List.not_mem_nil, or_false] at h
    have e : Ex.dep (.when i0 c0 a b) = max a.dep b.dep + 1 := rfl
    rw [e]
    rcases h with rfl | rfl <;> omega
  | .whr i0 c0 a b, k, h => by
    simp only [Ex.kids, List.mem_cons, List.not_mem_nil, or_false] at h
    have e : Ex.dep (.whr i0 c0 a b) = max a.dep b.dep + 1 := rfl
    rw [e]
    rcases h with rfl | rfl <;> omega
theorem kids_ok {many : Nat} : ∀ (e : Ex) (k : Ex), ExOk many e → k ∈ e.kids → ExOk many k
  | .fig _, k, _, h => by cases h
  | .reg _, k, _, h => by cases h
  | .share _, k, _, h => by cases h
  | .two _ a b, k, o, h => by
    simp only [Ex.kids, List.mem_cons, List.not_mem_nil, or_false] at h
    rcases h with rfl | rfl
    · exact o.1
    · exact o.2
  | .times _ a, k, o, h => by
    simp only [Ex.kids, List.mem_cons, List.not_mem_nil, or_false] at h
    subst h
    exact o.2
  | .by _ a, k, o, h => by
    simp only [Ex.kids, List.mem_cons, List.not_mem_nil, or_false] at h
    subst h
    exact o.2
  | .when _ _ a b, k, o, h => by
    simp only [Ex.kids, List.mem_cons, List.not_mem_nil, or_false] at h
    rcases h with rfl | rfl
    · exact o.2.2.1
    · exact o.2.2.2
  | .whr _ _ a b, k, o, h => by
    simp only [Ex.kids, List.mem_cons, List.not_mem_nil, or_false] at h
    rcases h with rfl | rfl
    · exact o.2.2.1
    · exact o.2.2.2
end NG

namespace NG
open PySem PySem.Spec PyProof.Rows L2
/-! ### what stands around an expression -/
inductive Cx1 where
  | l (w : W4) (x : Ex) | r (w : W4) (x : Ex) | times (f : Int) | by (i : Nat)
  | whenL (i : Nat) (c : Int) (x : Ex) | whenR (i : Nat) (c : Int) (x : Ex) | whrL (j : Nat) (c : Int) (x : Ex) | whrR (j : Nat) (c : Int) (x : Ex)
def Cx1.put : Cx1 → Ex → Ex
  | .l w x, e => .two w e x
  | .r w x, e => .two w x e
  | .times f, e => .times f e
  | .by i, e => .by i e
  | .whenL i c x, e => .when i c e x
  | .whenR i c x, e => .when i c x e
  | .whrL j c x, e => .whr j c e x
  | .whrR j c x, e => .whr j c x e
def Cx1.lay (u : V) : Cx1 → List V × List V
  | .l w _ => ([.str (wn w)], [u])
  | .r w _ => ([.str (wn w), u], [])
  | .times f => ([.str "times", .int f], [])
  | .by i => ([.str "by", .int (i : Int)], [])
  | .whenL i c _ => ([.str "when", .int (i : Int), .int c], [u])
  | .whenR i c _ => ([.str "when", .int (i : Int), .int c, u], [])
  | .whrL j c _ => ([.str "where", .int (j : Int), .int c], [u])
  | .whrR j c _ => ([.str "where", .int (j : Int), .int c, u], [])
def Cx1.leaf (K : PySem.W.Frag) (H : Hp) (u : V) : Cx1 → Prop
  | .l _ x => ExAt K H x u
  | .r _ x => ExAt K H x u
  | .times _ => True
  | .by _ => True
  | .whenL _ _ x => ExAt K H x u
  | .whenR _ _ x => ExAt K H x u
  | .whrL _ _ x => ExAt K H x u
  | .whrR _ _ x => ExAt K H x u
def Cx1.ok (many : Nat) : Cx1 → Prop
  | .l _ x => ExOk many x ∧ x.dep ≤ 1
  | .r _ x => ExOk many x ∧ x.dep ≤ 1
  | .times f => -9 ≤ f ∧ f ≤ 9
  | .by i => i < 4
  | .whenL i c x => i < 4 ∧ (-1000 ≤ c ∧ c ≤ 1000) ∧ ExOk many x ∧ x.dep ≤ 1
  | .whenR i c x => i < 4 ∧ (-1000 ≤ c ∧ c ≤ 1000) ∧ ExOk many x ∧ x.dep ≤ 1
  | .whrL j c x => j < many ∧ (1 ≤ c ∧ c ≤ 1000) ∧ ExOk many x ∧ x.dep ≤ 1
  | .whrR j c x => j < many ∧ (1 ≤ c ∧ c ≤ 1000) ∧ ExOk many x ∧ x.dep ≤ 1
def CtxAt (K : PySem.W.Frag) (H : Hp) (c : Cx1) (v : V) : Prop := ∃ (p pa pr : Addr) (u : V), v = .ref p ∧ SqT K H p [.ref pa, .ref pr] ∧ SqT K H pa (c.lay u).1 ∧ SqT K H pr (c.lay u).2 ∧ c.leaf K H u
theorem CtxAt.imp {K : PySem.W.Frag} {H H' : Hp} {c : Cx1} {v : V} (x : CtxAt K H c v) (h : ∀ p xs, SqT K H p xs → SqT K H' p xs) : CtxAt K H' c v := by
  obtain ⟨p, pa, pr, u, e, q1, q2, q3, lf⟩ := x
  refine ⟨p, pa, pr, u, e, h _ _ q1, h _ _ q2, h _ _ q3, ?_⟩
  cases c with
  | l w x => exact ExAt.imp h lf
  | r w x => exact ExAt.imp h lf
  | times f => trivial
  | «by» i => trivial
  | whenL i c x => exact ExAt.imp h lf
  | whenR i c x => exact ExAt.imp h lf
  | whrL i c x => exact ExAt.imp h lf
  | whrR i c x => exact ExAt.imp h lf
def CtxsAt (K : PySem.W.Frag) (H : Hp) : List V → List Cx1 → Prop
  | [], [] => True
  | v :: vs, c :: cs => CtxAt K H c v ∧ CtxsAt K H vs cs
  | _, _ => False
theorem CtxsAt.imp {K : PySem.W.Frag} {H H' : Hp} (h : ∀ p xs, SqT K H p xs → SqT K H' p xs) : ∀ {vs : List V} {cs : List Cx1}, CtxsAt K H vs cs → CtxsAt K H' vs cs
  | [], [], _ => trivial
  | _ :: _, _ :: _, ⟨x, r⟩ => ⟨x.imp h, CtxsAt.imp h r⟩
theorem CtxsAt.len {K : PySem.W.Frag} {H : Hp} : ∀ {vs : List V} {cs : List Cx1}, CtxsAt K H vs cs → vs.length = cs.length
  | [], [], _ => rfl
  | _ :: _, _ :: _, ⟨_, r⟩ => by rw [List.length_cons, List.length_cons, r.len]
theorem CtxsAt.snoc {K : PySem.W.Frag} {H : Hp} {v : V} {c : Cx1} (x : CtxAt K H c v) : ∀ {vs : List V} {cs : List Cx1}, CtxsAt K H vs cs → CtxsAt K H (vs ++ [v]) (cs ++ [c])
  | [], [], _ => ⟨x, trivial⟩
  | _ :: _, _ :: _, ⟨y, r⟩ => ⟨y, CtxsAt.snoc x r⟩
theorem CtxsAt.get' {K : PySem.W.Frag} {H : Hp} : ∀ {vs : List V} {cs : List Cx1} {k : Nat} {v : V}, CtxsAt K H vs cs → vs[k]? = some v → ∃ c, cs[k]? = some c ∧ CtxAt K H c v
  | [], [], _, _, _, h => by simp at h
  | v' :: vs, e :: es, 0, v, ⟨x, r⟩, h => by
    have : v' = v := Option.some.inj h
    subst this
    exact ⟨e, rfl, x⟩
  | v' :: vs, e :: es, k + 1, v, ⟨x, r⟩, h => CtxsAt.get' (k := k) r h
theorem put_at {K : PySem.W.Frag} {H : Hp} {c : Cx1} {u v : V} {e : Ex} {p : Addr} (hp : SqT K H p ((c.lay u).1 ++ [v] ++ (c.lay u).2)) (lf : c.leaf K H u) (he : ExAt K H e v) : ExAt K H (c.put e) (.ref p) := by
  cases c with
  | l w x => exact ⟨p, v, u, rfl, hp, he, lf⟩
  | r w x => exact ⟨p, u, v, rfl, hp, lf, he⟩
  | times f => exact ⟨p, v, rfl, hp, he⟩
  | «by» i => exact ⟨p, v, rfl, hp, he⟩
  | whenL i c x => exact ⟨p, v, u, rfl, hp, he, lf⟩
  | whenR i c x => exact ⟨p, u, v, rfl, hp, lf, he⟩
  | whrL i c x => exact ⟨p, v, u, rfl, hp, he, lf⟩
  | whrR i c x => exact ⟨p, u, v, rfl, hp, lf, he⟩
theorem put_ok {many : Nat} {c : Cx1} {e : Ex} (o : c.ok many) (oe : ExOk many e) : ExOk many (c.put e) := by
  cases c with
  | l w x => exact ⟨oe, o.1⟩
  | r w x => exact ⟨o.1, oe⟩
  | times f => exact ⟨o, oe⟩
  | «by» i => exact ⟨o, oe⟩
  | whenL i c x => exact ⟨o.1, o.2.1, oe, o.2.2.1⟩
  | whenR i c x => exact ⟨o.1, o.2.1, o.2.2.1, oe⟩
  | whrL i c x => exact ⟨o.1, o.2.1, oe, o.2.2.1⟩
  | whrR i c x => exact ⟨o.1, o.2.1, o.2.2.1, oe⟩
theorem dep_pos (e : Ex) : 1 ≤ e.dep := by cases e <;> (unfold Ex.dep; omega)
theorem put_dep {many : Nat} {c : Cx1} {e : Ex} (o : c.ok many) : (c.put e).dep ≤ e.dep + 1 := by
  have he := dep_pos e
  cases c with
  | l w x => show max e.dep x.dep + 1 ≤ _; have := o.2; omega
  | r w x => show max x.dep e.dep + 1 ≤ _; have := o.2; omega
  | times f => exact Nat.le_refl _
  | «by» i => exact Nat.le_refl _
  | whenL i c x => show max e.dep x.dep + 1 ≤ _; have := o.2.2.2; omega
  | whenR i c x => show max x.dep e.dep + 1 ≤ _; have := o.2.2.2; omega
  | whrL i c x => show max e.dep x.dep + 1 ≤ _; have := o.2.2.2; omega
  | whrR i c x => show max x.dep e.dep + 1 ≤ _; have := o.2.2.2; omega
def putAll (cs : List Cx1) (e : Ex) : Ex := cs.foldl (fun e c => c.put e) e
theorem putAll_ok {many : Nat} : ∀ {cs : List Cx1} {e : Ex}, (∀ c ∈ cs, c.ok many) → ExOk many e → ExOk many (putAll cs e)
  | [], _, _, h => h
  | c :: cs, e, o, h => putAll_ok (cs := cs) (e := c.put e) (fun c' h' => o c' (List.mem_cons_of_mem _ h')) (put_ok (o c List.mem_cons_self) h)
theorem putAll_dep {many : Nat} : ∀ {cs : List Cx1} {e : Ex}, (∀ c ∈ cs, c.ok many) → (putAll cs e).dep ≤ e.dep + cs.length
  | [], _, _ => Nat.le_refl _
  | c :: cs, e, o => by
    have h1 := putAll_dep (cs := cs) (e := c.put e) (fun c' h' => o c' (List.mem_cons_of_mem _ h'))
    have h2 := put_dep (e := e) (o c List.mem_cons_self)
    show (putAll cs (c.put e)).dep ≤ _
    rw [List.length_cons]
    omega
def fac1 (rs : List Int) (F : Int) : Cx1 → Int
  | .times f => F * f
  | .by i => F * rs.getD i 0
  | .r .less _ => 0 - F
  | _ => F
def fac (rs : List Int) (cs : List Cx1) : Int := cs.foldl (fac1 rs) 1

/-! ### a greater part put in -/
def Btw (d m : Int) : Prop := (0 ≤ d ∧ d ≤ m) ∨ (m ≤ d ∧ d ≤ 0)
theorem btw_mul {f d m : Int} (h : Btw d m) : Btw (f * d) (f * m) := by
  rcases Int.le_total 0 f with hf | hf
  · rcases h with ⟨h1, h2⟩ | ⟨h1, h2⟩
    · exact .inl ⟨Int.mul_nonneg hf h1, Int.mul_le_mul_of_nonneg_left h2 hf⟩
    · exact .inr ⟨Int.mul_le_mul_of_nonneg_left h1 hf, Int.mul_nonpos_of_nonneg_of_nonpos hf h2⟩
  · rcases h with ⟨h1, h2⟩ | ⟨h1, h2⟩
    · exact .inr ⟨Int.mul_le_mul_of_nonpos_left hf h2, Int.mul_nonpos_of_nonpos_of_nonneg hf h1⟩
    · exact .inl ⟨Int.mul_nonneg_of_nonpos_of_nonpos hf h2, Int.mul_le_mul_of_nonpos_left hf h1⟩
theorem btw_zero {m : Int} : Btw 0 m := by
  unfold Btw
  omega
theorem btw_jw {d m x y z : Int} (w : W4) (h : Btw d m) (e : d = y - x) (hw : w ≠ .less) : Btw (jw w y z - jw w x z) m := by
  unfold Btw at *
  cases w with
  | sum => simp only [jw]; omega
  | less => exact absurd rfl hw
  | least => simp only [jw]; split <;> split <;> omega
  | most => simp only [jw]; split <;> split <;> omega
theorem btw_jw' {d m x y z : Int} (w : W4) (h : Btw d m) (e : d = y - x) (hw : w ≠ .less) : Btw (jw w z y - jw w z x) m := by
  unfold Btw at *
  cases w with
  | sum => simp only [jw]; omega
  | less => exact absurd rfl hw
  | least => simp only [jw]; split <;> split <;> omega
  | most => simp only [jw]; split <;> split <;> omega
theorem btw_step {rs ss : List Int} {c : Cx1} {e1 e2 : Ex} {F P : Int} (h : Btw (wo rs ss e2 - wo rs ss e1) (F * P)) : Btw (wo rs ss (c.put e2) - wo rs ss (c.put e1)) (fac1 rs F c * P) := by
  cases c with
  | l w x =>
    cases w with
    | less =>
      show Btw ((wo rs ss e2 - wo rs ss x) - (wo rs ss e1 - wo rs ss x)) (F * P)
      rw [show (wo rs ss e2 - wo rs ss x) - (wo rs ss e1 - wo rs ss x) = wo rs ss e2 - wo rs ss e1 by omega]
      exact h
    | sum => exact btw_jw .sum h rfl (by simp)
    | least => exact btw_jw .least h rfl (by simp)
    | most => exact btw_jw .most h rfl (by simp)
  | r w x =>
    cases w with
    | less =>
      show Btw ((wo rs ss x - wo rs ss e2) - (wo rs ss x - wo rs ss e1)) ((0 - F) * P)
      rw [Int.sub_mul, Int.zero_mul]
      unfold Btw at *
      omega
    | sum => exact btw_jw' .sum h rfl (by simp)
    | least => exact btw_jw' .least h rfl (by simp)
    | most => exact btw_jw' .most h rfl (by simp)
  | times f =>
    show Btw (f * wo rs ss e2 - f * wo rs ss e1) (F * f * P)
    rw [← Int.mul_sub, Int.mul_comm F f, Int.mul_assoc]
    exact btw_mul h
  | «by» i =>
    show Btw (rs.getD i 0 * wo rs ss e2 - rs.getD i 0 * wo rs ss e1) (F * rs.getD i 0 * P)
    rw [← Int.mul_sub, Int.mul_comm F, Int.mul_assoc]
    exact btw_mul h
  | whenL i c x =>
    show Btw ((if rs.getD i 0 < c then wo rs ss e2 else wo rs ss x) - (if rs.getD i 0 < c then wo rs ss e1 else wo rs ss x)) (F * P)
    split
    · exact h
    · rw [Int.sub_self]
      exact btw_zero
  | whenR i c x =>
    show Btw ((if rs.getD i 0 < c then wo rs ss x else wo rs ss e2) - (if rs.getD i 0 < c then wo rs ss x else wo rs ss e1)) (F * P)
    split
    · rw [Int.sub_self]
      exact btw_zero
    · exact h
  | whrL j c x =>
    show Btw ((if 1000 * ss.getD j 0 < c * ss.sum then wo rs ss e2 else wo rs ss x) - (if 1000 * ss.getD j 0 < c * ss.sum then wo rs ss e1 else wo rs ss x)) (F * P)
    split
    · exact h
    · rw [Int.sub_self]
      exact btw_zero
  | whrR j c x =>
    show Btw ((if 1000 * ss.getD j 0 < c * ss.sum then wo rs ss x else wo rs ss e2) - (if 1000 * ss.getD j 0 < c * ss.sum then wo rs ss x else wo rs ss e1)) (F * P)
    split
    · rw [Int.sub_self]
      exact btw_zero
    · exact h
theorem btw_all {rs ss : List Int} {P : Int} : ∀ {cs : List Cx1} {e1 e2 : Ex} {F : Int}, Btw (wo rs ss e2 - wo rs ss e1) (F * P) → Btw (wo rs ss (putAll cs e2) - wo rs ss (putAll cs e1)) (cs.foldl (fac1 rs) F * P)
  | [], _, _, _, h => h
  | c :: cs, e1, e2, F, h => btw_all (cs := cs) (e1 := c.put e1) (e2 := c.put e2) (F := fac1 rs F c) (btw_step h)
theorem moved {rs ss : List Int} {cs : List Cx1} {e : Ex} {p : Int} (h : 0 ≤ p * ss.sum) : Btw (wo rs ss (putAll cs (.two .sum e (.fig p))) - wo rs ss (putAll cs e)) (fac rs cs * p * ss.sum) := by
  rw [Int.mul_assoc]
  refine btw_all (F := 1) ?_
  show Btw (wo rs ss e + p * ss.sum - wo rs ss e) (1 * (p * ss.sum))
  rw [Int.one_mul]
  unfold Btw
  omega

/-! ### worths lie in their spans -/
theorem le_sum : ∀ {ss : List Int} {j : Nat}, (∀ x ∈ ss, 0 ≤ x) → j < ss.length → ss.getD j 0 ≤ ss.sum
  | [], _, _, h => by simp at h
  | x :: ss, 0, h, _ => by
    have := sum_nonneg (ms := ss) fun y hy => h y (List.mem_cons_of_mem _ hy)
    show x ≤ (x :: ss).sum
    rw [List.sum_cons]
    omega
  | x :: ss, j + 1, h, hj => by
    have h1 := le_sum (ss := ss) (j := j) (fun y hy => h y (List.mem_cons_of_mem _ hy)) (by simpa using hj)
    have h2 := h x List.mem_cons_self
    show ss.getD j 0 ≤ (x :: ss).sum
    rw [List.sum_cons]
    omega
theorem spn_le : ∀ e : Ex, (spn e).1 ≤ (spn e).2
  | .fig _ => Int.le_refl _
  | .reg _ => by
    show (-1000 : Int) ≤ 1000
    decide
  | .share _ => by
    show (0 : Int) ≤ 1000
    decide
  | .two w a b => by
    have ha := spn_le a
    have hb := spn_le b
    show (js w (spn a) (spn b)).1 ≤ (js w (spn a) (spn b)).2
    cases w with
    | sum => show _ + _ ≤ _ + _; omega
    | less => show _ - _ ≤ _ - _; omega
    | least => show mn _ _ ≤ mn _ _; unfold mn; split <;> split <;> omega
    | most => show mx _ _ ≤ mx _ _; unfold mx; split <;> split <;> omega
  | .times f a => by
    show mn _ _ ≤ mx _ _
    unfold mn mx
    split <;> split <;> omega
  | .by _ a => by
    have h1 : 0 ≤ ab (spn a).1 := by unfold ab; split <;> omega
    have h2 := le_mx (ab (spn a).1) (ab (spn a).2)
    show -1000 * _ ≤ 1000 * _
    omega
  | .when _ _ a b => by
    have ha := spn_le a
    have h1 := mn_le (spn a).1 (spn b).1
    have h2 := le_mx (spn a).2 (spn b).2
    show mn _ _ ≤ mx _ _
    omega
  | .whr _ _ a b => by
    have ha := spn_le a
    have h1 := mn_le (spn a).1 (spn b).1
    have h2 := le_mx (spn a).2 (spn b).2
    show mn _ _ ≤ mx _ _
    omega
theorem mulr_le {a b n : Int} (h : a ≤ b) (hn : 0 ≤ n) : a * n ≤ b * n := Int.mul_le_mul_of_nonneg_right h hn
theorem in_span {many : Nat} {rs ss : List Int} (hr : rs.length = 4) (hrb : ∀ x ∈ rs, -1000 ≤ x ∧ x ≤ 1000) (hs : ss.length = many) (hsb : ∀ x ∈ ss, 0 ≤ x) : ∀ e : Ex, ExOk many e → (spn e).1 * ss.sum ≤ wo rs ss e ∧ wo rs ss e ≤ (spn e).2 * ss.sum
  | .fig c, _ => ⟨Int.le_refl _, Int.le_refl _⟩
  | .reg i, o => by
    have hn := sum_nonneg hsb
    have h := hrb _ (getD_mem (ns := rs) (i := i) (by rw [hr]; exact o))
    exact ⟨mulr_le h.1 hn, mulr_le h.2 hn⟩
  | .share j, o => by
    have o : j < many := o
    have h1 := le_sum (j := j) hsb (by omega)
    have h2 := hsb _ (getD_mem (ns := ss) (i := j) (by omega))
    show 0 * ss.sum ≤ 1000 * ss.getD j 0 ∧ 1000 * ss.getD j 0 ≤ 1000 * ss.sum
    omega
  | .two w a b, o => by
    have ha := in_span hr hrb hs hsb a o.1
    have hb := in_span hr hrb hs hsb b o.2
    have hn := sum_nonneg hsb
    show (js w (spn a) (spn b)).1 * ss.sum ≤ jw w (wo rs ss a) (wo rs ss b) ∧ jw w (wo rs ss a) (wo rs ss b) ≤ (js w (spn a) (spn b)).2 * ss.sum
    cases w with
    | sum =>
      show ((spn a).1 + (spn b).1) * ss.sum ≤ wo rs ss a + wo rs ss b ∧ wo rs ss a + wo rs ss b ≤ ((spn a).2 + (spn b).2) * ss.sum
      rw [Int.add_mul, Int.add_mul]
      omega
    | less =>
      show ((spn a).1 - (spn b).2) * ss.sum ≤ wo rs ss a - wo rs ss b ∧ wo rs ss a - wo rs ss b ≤ ((spn a).2 - (spn b).1) * ss.sum
      rw [Int.sub_mul, Int.sub_mul]
      omega
    | least =>
      have h1 := mn_le (spn a).1 (spn b).1
      have h3 := mulr_le h1.1 hn
      have h4 := mulr_le h1.2 hn
      have h5 := mn_or (spn a).2 (spn b).2
      show mn (spn a).1 (spn b).1 * ss.sum ≤ (if wo rs ss b < wo rs ss a then wo rs ss b else wo rs ss a) ∧ (if wo rs ss b < wo rs ss a then wo rs ss b else wo rs ss a) ≤ mn (spn a).2 (spn b).2 * ss.sum
      rcases h5 with h5 | h5 <;> rw [h5] <;> split <;> omega
    | most =>
      have h1 := le_mx (spn a).2 (spn b).2
      have h3 := mulr_le h1.1 hn
      have h4 := mulr_le h1.2 hn
      have h5 := mx_or (spn a).1 (spn b).1
      show mx (spn a).1 (spn b).1 * ss.sum ≤ (if wo rs ss b > wo rs ss a then wo rs ss b else wo rs ss a) ∧ (if wo rs ss b > wo rs ss a then wo rs ss b else wo rs ss a) ≤ mx (spn a).2 (spn b).2 * ss.sum
      rcases h5 with h5 | h5 <;> rw [h5] <;> split <;> omega
  | .times f a, o => by
    have ha := in_span hr hrb hs hsb a o.2
    have hn := sum_nonneg hsb
    have m1 := mn_le (f * (spn a).1) (f * (spn a).2)
    have m2 := le_mx (f * (spn a).1) (f * (spn a).2)
    have n1 := mulr_le m1.1 hn
    have n2 := mulr_le m1.2 hn
    have n3 := mulr_le m2.1 hn
    have n4 := mulr_le m2.2 hn
    rw [Int.mul_assoc] at n1 n2 n3 n4
    show mn _ _ * ss.sum ≤ f * wo rs ss a ∧ f * wo rs ss a ≤ mx _ _ * ss.sum
    rcases Int.le_total 0 f with hf | hf
    · have p1 := Int.mul_le_mul_of_nonneg_left ha.1 hf
      have p2 := Int.mul_le_mul_of_nonneg_left ha.2 hf
      omega
    · have p1 := Int.mul_le_mul_of_nonpos_left hf ha.1
      have p2 := Int.mul_le_mul_of_nonpos_left hf ha.2
      omega
  | .by i a, o => by
    have ha := in_span hr hrb hs hsb a o.2
    have hn := sum_nonneg hsb
    have hg := hrb _ (getD_mem (ns := rs) (i := i) (by rw [hr]; exact o.1))
    generalize ht : mx (ab (spn a).1) (ab (spn a).2) = t
    have t1 : -t ≤ (spn a).1 ∧ (spn a).2 ≤ t := by
      have h2 := le_mx (ab (spn a).1) (ab (spn a).2)
      rw [ht] at h2
      have h3 : -(spn a).1 ≤ ab (spn a).1 := by unfold ab; split <;> omega
      have h4 : (spn a).2 ≤ ab (spn a).2 := by unfold ab; split <;> omega
      omega
    have w1 : -(t * ss.sum) ≤ wo rs ss a := by
      have := mulr_le t1.1 hn
      rw [Int.neg_mul] at this
      omega
    have w2 : wo rs ss a ≤ t * ss.sum := by
      have := mulr_le t1.2 hn
      omega
    show (-1000 * mx (ab (spn a).1) (ab (spn a).2)) * ss.sum ≤ rs.getD i 0 * wo rs ss a ∧ rs.getD i 0 * wo rs ss a ≤ (1000 * mx (ab (spn a).1) (ab (spn a).2)) * ss.sum
    rw [ht, Int.mul_assoc, Int.mul_assoc]
    generalize rs.getD i 0 = g at *
    generalize t * ss.sum = T at *
    generalize wo rs ss a = x at *
    have hT : 0 ≤ T := by omega
    rcases Int.le_total 0 g with hgn | hgn
    · have p1 := Int.mul_le_mul_of_nonneg_left w1 hgn
      have p2 := Int.mul_le_mul_of_nonneg_left w2 hgn
      have p3 := Int.mul_le_mul_of_nonneg_right hg.2 hT
      rw [Int.mul_neg] at p1
      omega
    · have p1 := Int.mul_le_mul_of_nonpos_left hgn w1
      have p2 := Int.mul_le_mul_of_nonpos_left hgn w2
      have p3 := Int.mul_le_mul_of_nonneg_right hg.1 hT
      rw [Int.mul_neg] at p1
      omega
  | .when i c a b, o => by
    have ha := in_span hr hrb hs hsb a o.2.2.1
    have hb := in_span hr hrb hs hsb b o.2.2.2
    have hn := sum_nonneg hsb
    have m1 := mn_le (spn a).1 (spn b).1
    have m2 := le_mx (spn a).2 (spn b).2
    have n1 := mulr_le m1.1 hn
    have n2 := mulr_le m1.2 hn
    have n3 := mulr_le m2.1 hn
    have n4 := mulr_le m2.2 hn
    show mn _ _ * ss.sum ≤ (if rs.getD i 0 < c then wo rs ss a else wo rs ss b) ∧ (if rs.getD i 0 < c then wo rs ss a else wo rs ss b) ≤ mx _ _ * ss.sum
    split <;> omega
  | .whr j c a b, o => by
    have ha := in_span hr hrb hs hsb a o.2.2.1
    have hb := in_span hr hrb hs hsb b o.2.2.2
    have hn := sum_nonneg hsb
    have m1 := mn_le (spn a).1 (spn b).1
    have m2 := le_mx (spn a).2 (spn b).2
    have n1 := mulr_le m1.1 hn
    have n2 := mulr_le m1.2 hn
    have n3 := mulr_le m2.1 hn
    have n4 := mulr_le m2.2 hn
    show mn _ _ * ss.sum ≤ (if 1000 * ss.getD j 0 < c * ss.sum then wo rs ss a else wo rs ss b) ∧ (if 1000 * ss.getD j 0 < c * ss.sum then wo rs ss a else wo rs ss b) ≤ mx _ _ * ss.sum
    split <;> omega

/-! ### promises -/
def spAround (K : PySem.W.Frag) : Sp := fun vs H Q _ => ∃ (a : Addr) (many n : Nat), vs = [.ref a, .int (many : Int)] ∧ 2 ≤ many ∧ many ≤ 3 ∧ HandAt H a n ∧ n ≤ 999998000 ∧
  ∀ H' p xs cs, But a H H' → HandAt H' a (n + 90) → p ≠ a → H' p = some (.lst xs) → CtxsAt K H' xs cs → (∀ c ∈ cs, c.ok many) → cs.length ≤ 4 → Q (.ref p) H'
def spPut (K : PySem.W.Frag) : Sp := fun vs H Q _ => ∃ (p : Addr) (v : V) (xs : List V) (cs : List Cx1) (e : Ex), vs = [.ref p, v] ∧ H p = some (.lst xs) ∧ CtxsAt K H xs cs ∧ ExAt K H e v ∧ ∀ H' u, Same H H' → ExAt K H' (putAll cs e) u → Q u H'
def spFac (K : PySem.W.Frag) (many : Nat) : Sp := fun vs H Q _ => ∃ (p : Addr) (r : V) (xs : List V) (cs : List Cx1) (rs : List Int), vs = [.ref p, r] ∧ H p = some (.lst xs) ∧ CtxsAt K H xs cs ∧ (∀ c ∈ cs, c.ok many) ∧ RegsAt K H rs r ∧ Q (.int (fac rs cs)) H
end NG

namespace NG
open PySem PySem.Spec PyProof.Rows L2

/-! ### promises that are kept while no repr is under way -/
structure FnG (P : Program) (w : World) (K : PySem.W.Frag) (mg : Str → Option Value) (base : Heap) (k : Nat) (f : Addr) (fd : FuncData) (ps : List Str) (sp : Sp) : Prop where
  len : ∀ vs H Q E, sp vs H Q E → vs.length = ps.length
  run : ∀ (A : Around) (outer : List Env) (s : Shared) (H : Hp) (args : Args) (us : List Value) (vs : List V) (Q : VK), A.guards = some [] → Room k A → Env0 P w K mg base A outer s H → BindsTo s fd args (ps.zip us) → Vals vs us → sp vs H Q E0 →
    codeAny (model P w) A (.call (.ref f) args) (CR CX0 outer P w H s Q E0) s
theorem FnG.of {P : Program} {w : World} {K : PySem.W.Frag} {mg : Str → Option Value} {base : Heap} {k : Nat} {f : Addr} {fd : FuncData} {ps : List Str} {sp : Sp} (F : FnOk P w K mg base CX0 k f fd ps sp) : FnG P w K mg base k f fd ps sp :=
  ⟨F.len, fun A outer s H args us vs Q _ hr he hb hv hs => F.run A outer s H args us vs Q E0 hr he hb hv hs⟩
theorem fnG {P : Program} {w : World} {K : PySem.W.Frag} {mg : Str → Option Value} {base : Heap} {x qual : Str} {st : Stmt} {f : Addr} {fd : FuncData} {N ps : List Str} {k : Nat} {sp : Sp} (F : Fun K x qual st f fd) (S : FnScope N ps (defScope st)) (len : ∀ vs H Q E, sp vs H Q E → vs.length = ps.length)
    (walk : ∀ (cdv : Value) (A : Around) (outer : List Env) (s : Shared) (H : Hp) (vs : List V) (Q : VK), A.guards = some [] → Room k (A.deeper (envOfC qual (defScope st) s.heap.objs.size f cdv)) → sp vs H Q E0 →
      ∃ t, PSs (cxOf CX0 P w K mg base N qual (defScope st) f cdv A outer s H E0).nox (defBody st) t ∧ t { nx := fun _ H' => Q .non H', rt := Q } (start N vs) H) : FnG P w K mg base (k + 1) f fd ps sp := by
  obtain ⟨oc, od, kV, doc, pm, an, cdv, ct, osl, rfl, lk, hcd⟩ := F.ex
  refine ⟨len, fun A outer s H args us vs Q hg hr e0 bd rv hs => ?_⟩
  have inK : K.In s.heap := e0.mod.kin.keeps fun b o e => (e0.bs b o e).1
  have nolim : s.heap.NoLimit := e0.mod.nolimit.keeps fun b o e => (e0.bs b o e).1
  refine codeAny_call_function hr.depth (inK _ _ lk) rfl S.co S.gen rfl (PySem.W.codeRec_of inK hcd) (bd _ _ _ _ ?_)
  refine wpAny_newFunctionEnv_cells S.kind (fun y hy => ?_) fun env he s1 ic => ?_
  · obtain ⟨n, v⟩ := y
    rcases S.par n (List.of_mem_zip hy).1 with z | z
    · exact .inl z
    · exact .inr ⟨z, PySem.W.cellsFrom_some _ _ _ (.inl z)⟩
  subst he
  refine ⟨nolim.keeps ic.toInCall.keep, codeAny_func ?_⟩
  obtain ⟨t, ht, hq⟩ := walk cdv A outer s H vs Q hg (hr.deeper _) hs
  have I := inv_start (CX := CX0) (E := E0) S hr.hd e0 (len _ _ _ _ hs) rv ic
  refine wpAny_mono (ht.nox.run [] s1 (start N vs) H _ I hq) (fun fl s' hf => ?_) fun e s' hf => hf
  match fl, hf with
  | .ret u, ⟨v, σ', H', J, r, q⟩ => exact ⟨v, H', J.os, J.bare, J.base, J.hok, r, q⟩
  | .next, ⟨σ', H', J, q⟩ => exact ⟨.non, H', J.os, J.bare, J.base, J.hok, rfl, q⟩
  | .brk, ⟨_, _, _, q⟩ => exact q.elim
  | .cont, ⟨_, _, _, q⟩ => exact q.elim

structure CalG (P : Program) (w : World) (K : PySem.W.Frag) (mg : Str → Option Value) (base : Heap) (k : Nat) (x : Str) (sp : Sp) : Prop where
  ex : ∃ (f : Addr) (fd : FuncData) (ps : List Str), FnG P w K mg base k f fd ps sp ∧ mg x = some (.ref f) ∧ PySem.W.keepIn K (.ref f) = true ∧ Binds K fd ps []
theorem Cal.g {P : Program} {w : World} {K : PySem.W.Frag} {mg : Str → Option Value} {base : Heap} {k : Nat} {x : Str} {sp : Sp} (c : Cal P w K mg base k x sp) : CalG P w K mg base k x sp := by
  obtain ⟨f, fd, ps, F, r⟩ := c.ex
  exact ⟨f, fd, ps, .of F, r⟩
section
variable {X : Cx} {k j : Nat} {x : Str} {sp : Sp} {p pos : Pos} {e : Expr} {es : List Expr} {t : TA}
theorem pe_g (c : CalG X.prog X.w X.K X.mg X.base k x sp) (hgd : X.A.guards = some []) (hr : Room j X.A) (hk : k ≤ j) (hg : Gl X x) (ha : PA X (e :: es) t)
    (hdb : (x == ("__debug__" : Str)) = false := by decide) (he : starEach (e :: es) X.env = (false, eval e X.env) :: starEach es X.env := by rfl) (hpl : (backTo pos (starEach es X.env)).any (·.1) = false := by rfl) :
    PE X (.Call (.Name x p) (e :: es) [] pos) (tCall sp [] E0 t) := by
  obtain ⟨f, fd, ps, F, hm, kp, b⟩ := c.ex
  refine ⟨fun pins s σ H Q I h => wpAny_Call_Name_kw (ld_glob I hg hm ?_ hdb)⟩
  refine PySem.W.callWith_K (h₀ := X.base) I.ok.mod.kin kp (thn (ha.run pos pins s σ H _ I h) fun us s1 ⟨vs, H1, I1, r, q⟩ => ⟨I1.kIn, ?_⟩) he hpl
  have q : sp (vs ++ []) H1 Q E0 := q
  rw [List.append_nil] at q
  have hl : (us ++ []).length = ps.length := by
    rw [List.append_nil, ← r.length]
    exact F.len _ _ _ _ q
  have bd := b s1 us I1.kIn hl
  rw [List.append_nil] at bd
  refine wpAny_call (codeAny_mono (F.run X.A X.stack s1 H1 ⟨us, []⟩ us vs Q hgd (hr.mono hk) I1.env0 bd r q) fun res s' hq => ?_)
  match res, hq with
  | .ok (.ret u), hq => exact I1.after hq
  | .ok .next, hq => exact False.elim hq
  | .ok .brk, hq => exact False.elim hq
  | .ok .cont, hq => exact False.elim hq
  | .error e, hq => exact False.elim hq
end

/-! ### the law's call -/
theorem lawG {P : Program} {w : World} {K : PySem.W.Frag} {mg mb : Str → Option Value} {k : Nat} {fa a : Addr} {fd : FuncData} {x : Str} {sp : Sp} {st : Shared} {vs : List Value} {ns : List Int}
    (inK : K.In st.heap) (gl : st.heap.Ns mainGlobals mg) (bl : st.heap.Ns builtinsNs mb) (blt : ∀ y : Str, y ≠ "__name__" → mb y = bootBuiltins y) (lim : st.heap.NoLimit) (gens : st.gens = #[])
    (at0 : st.heap.get? a = some { cls := .type "list", data := .seq vs.toArray }) (hint : IntsAre vs ns) (short : ns.length ≤ sizeLine) (room : Room k callerA)
    (F : ∀ base : Heap, K.In base → base.Ns mainGlobals mg → FnG P w K mg base k fa fd [x] sp) (bind : ∀ (s : Shared) (u : Value), BindsTo s fd ⟨[u], []⟩ [(x, u)])
    (prom : ∀ H : Hp, Only H → SqL K H a (ns.map V.int) → sp [.ref a] H (fun v _ => v = .bl true) E0) :
    codeAny (model P w) callerA (.call (.ref fa) ⟨[.ref a], []⟩) (fun r s' => r = .ok (.ret (.bool true)) ∧ OldK st.heap s'.heap ∧ s'.os = st.os ∧ AllBare s'.gens) st := by
  have rel := vals_ints hint
  have go : ∀ H : Hp, Only H → SqL K H a (ns.map V.int) → HOk P w H st.heap → (∀ b, H b ≠ none → b = a ∧ K.lookup b = none) →
      codeAny (model P w) callerA (.call (.ref fa) ⟨[.ref a], []⟩) (fun r s' => r = .ok (.ret (.bool true)) ∧ OldK st.heap s'.heap ∧ s'.os = st.os ∧ AllBare s'.gens) st := by
    intro H on sq ok sole
    have dicts : ∀ {b : Addr} {o : Obj} {es : Array DictEntry} {ep : Nat}, st.heap.get? b = some o → o.data = .dict es ep → H b = none := by
      intro b o es ep e d
      by_cases z : H b = none
      · exact z
      · obtain ⟨rfl, _⟩ := sole b z
        rw [at0] at e
        cases e
        cases d
    have names : ∀ {b : Addr} {m : Str → Option Value}, st.heap.Ns b m → (hidT st.heap H).Ns b m := by
      rintro b m ⟨o, es, ep, e, d, r⟩
      exact ⟨o, es, ep, hidT_get e (dicts e d), d, r⟩
    have kin : K.In (hidT st.heap H) := by
      intro b o e
      refine hidT_get (inK b o e) ?_
      by_cases z : H b = none
      · exact z
      · rw [(sole b z).2] at e
        cases e
    have md : Mod K mg (hidT st.heap H) := by
      obtain ⟨mc, l1, l2⟩ := lim
      exact ⟨kin, names gl, ⟨mb, names bl, blt⟩, ⟨mc, names l1, l2⟩⟩
    have env : Env0 P w K mg (hidT st.heap H) callerA [] st H :=
      ⟨rfl, md, fun b o e => of_hidT e, Nat.le_of_eq (hidT_size _ _), trivial, fun b z => absurd (show b ∈ ([] : List Addr) from z) (by simp), ok, .of_eq gens⟩
    refine codeAny_mono ((F _ kin (names gl)).run callerA [] st H ⟨[.ref a], []⟩ [.ref a] [.ref a] _ rfl room env (bind st (.ref a)) (.cons rfl .nil) (prom H on sq)) fun res s' hq => ?_
    match res, hq with
    | .ok .next, hq => exact False.elim hq
    | .ok .brk, hq => exact False.elim hq
    | .ok .cont, hq => exact False.elim hq
    | .error e, hq => exact False.elim hq
    | .ok (.ret u), ⟨v, H', os, bare, un, ok', r, q⟩ =>
      have q : v = .bl true := q
      subst q
      have r : u = Value.bool true := r
      subst r
      refine ⟨rfl, OldK.of_keep fun b o e => ?_, os, bare⟩
      by_cases z : H b = none
      · exact un.keep b o e z (fun y => absurd (show b ∈ ([] : List Addr) from y) (by simp)) (by simp)
      · rcases on b with y | ⟨ob, xs, y⟩
        · exact absurd y z
        · obtain ⟨p1, _⟩ := ok b _ y
          obtain ⟨p2, _⟩ := ok' b _ (un.frzs b ob _ y)
          rw [e] at p1
          cases p1
          exact p2
  by_cases hk : K.lookup a = none
  · refine go (upd (fun _ => none) a (.frz { cls := .type "list", data := .seq vs.toArray } (.lst (ns.map V.int)))) (fun b => ?_) (.inl (.inr ⟨_, upd_same⟩)) (fun b u z => ?_) (fun b z => ?_)
    · by_cases hb : b = a
      · subst hb
        exact .inr ⟨_, _, upd_same⟩
      · exact .inl (upd_ne hb)
    · by_cases hb : b = a
      · subst hb
        rw [upd_same] at z
        cases z
        exact ⟨at0, by rw [List.length_map]; exact short, vs, _, rel, at0⟩
      · rw [upd_ne hb] at z
        cases z
    · by_cases hb : b = a
      · subst hb
        exact ⟨rfl, hk⟩
      · exact absurd (upd_ne hb) z
  · obtain ⟨o, ho⟩ := Option.ne_none_iff_exists'.mp hk
    have e := inK a o ho
    rw [at0] at e
    cases e
    refine go (fun _ => none) (fun _ => .inl rfl) (.inr ⟨_, vs.toArray, _, ho, rfl, rfl, rfl, ?_, by simpa using rel⟩) (fun b u z => by cases z) (fun b z => absurd rfl z)
    rw [List.size_toArray, hint.length]
    exact short
theorem walkG {l : PySem.W.OpenLaw} {n k : Nat} {q : Program} {loose : List Str} {XP : (Str → Option Value) → Heap → Prop} {YP : World → Heap → Prop} {d : DefRec} {K : Params → PySem.W.Frag} {sp : World → Sp} {x : Str}
    (hn : l.most = some n) (hn2 : n ≤ sizeLine) (hdf : d.params.defaults = []) (hr : Room k callerA) (hY : ∀ (w : World) (h : Heap), YP w h → (K w.params).In h)
    (F : ∀ (w : World) (mg : Str → Option Value) (fa : Addr) (h : Heap), (K w.params).In h → h.Ns mainGlobals mg → mg d.name = some (.ref fa) →
      ∃ fd : FuncData, (∀ (s : Shared) (u : Value), BindsTo s fd ⟨[u], []⟩ [(x, u)]) ∧ ∀ base : Heap, (K w.params).In base → base.Ns mainGlobals mg → FnG l.prog w (K w.params) mg base k fa fd [x] (sp w))
    (hsp : ∀ (w : World) (H : Hp) (a : Addr) (ns : List Int), ns.length ≤ n → Only H → SqL (K w.params) H a (ns.map V.int) → sp w [.ref a] H (fun v _ => v = .bl true) E0) :
    PySem.W.WalkO q loose XP YP l.row.toRowW d [] (fun f vs => PySem.call f vs) := by
  refine Att.attach_call hn hdf fun w s0 s1 mg mb fa o pm cd doc a vs ns G Y _ _ _ hmg hobj hints hlen hg => ?_
  have inK := hY w _ Y
  obtain ⟨fd, hb, hF⟩ := F w mg fa _ inK G.T.g hmg
  exact lawG inK G.T.g G.T.b G.T.builtins G.T.nolimit hg hobj hints (Nat.le_trans hlen hn2) hr hF hb fun H on sq => hsp w H a ns hlen on sq

/-! ### repr -/
mutual
theorem Dp_nodict {K : PySem.W.Frag} {H : Hp} : ∀ {d : PyData} {v : V}, Dp K H v d → d.hasDict = false
  | .none, _, _ => by simp only [PyData.hasDict]
  | .bool _, _, _ => by simp only [PyData.hasDict]
  | .int _, _, _ => by simp only [PyData.hasDict]
  | .str _, _, _ => by simp only [PyData.hasDict]
  | .list ds, _, h => by
    cases h with
    | lst _ h => simp only [PyData.hasDict, DpAll_nodict h]
  | .tuple ds, _, h => by
    cases h with
    | tup _ h => simp only [PyData.hasDict, DpAll_nodict h]
  | .dict _, _, h => by cases h
theorem DpAll_nodict {K : PySem.W.Frag} {H : Hp} : ∀ {ds : List PyData} {vs : List V}, DpAll K H vs ds → PyData.hasDictAll ds = false
  | [], _, _ => by simp only [PyData.hasDictAll]
  | d :: ds, _, h => by
    cases h with
    | cons h1 h2 => simp only [PyData.hasDictAll, Dp_nodict h1, DpAll_nodict h2, Bool.or_self]
end
def rRepr (K : PySem.W.Frag) : List V → Hp → VK → Prop := fun vs H Q => ∃ (p : Addr) (d : PyData), vs = [.ref p] ∧ Dp K H (.ref p) d ∧ d.showable = true ∧ d.depth ≤ 60 ∧ d.shown.length ≤ sizeLine ∧ Q (.str d.shown) H
theorem cr_repr {X : Cx} (hg : X.A.guards = some []) (hu : X.A.units + 64 < cLine) : CallR X (.builtin "repr") (rRepr X.K) := by
  intro pins s σ H vs us Q I r h
  obtain ⟨p, d, rfl, hd, hs, hz, hl, q⟩ := h
  rw [Vals.ref1 r]
  obtain ⟨as, rd⟩ := Dp.reads I d (.ref p) (.ref p) hd rfl
  exact repr_of_reads' rd hs (PyData.noDict_hsm (Dp_nodict hd)) hg (by omega) (fun _ _ e => e) (fun h' u tk hk => ⟨.str _, H, I.kept hk, ⟨_, rfl⟩, q⟩) hl
end NG

namespace NG
open PySem PySem.Spec PyProof.Rows L2

/-! ### xs[::-1] -/
theorem pe_revL {X : Cx} {e st : Expr} {te ts : TE} {pos p2 : Pos} (he : PE X e te) (hs : PE X st ts) : PE X (.Subscript e (.Slice none none (some st) p2) pos)
    (fun σ H Q => te σ H fun x H1 => ts σ H1 fun y H2 => y = .int (-1) ∧ ∃ a xs, x = .ref a ∧ SqL X.K H2 a xs ∧ ∀ p, H2 p = none → Q (.ref p) (upd H2 p (.lst xs.reverse))) := by
  refine ⟨fun pins s σ H Q I h => ?_⟩
  refine Subscript_ (thn (he.run pins s σ H _ I h) fun v s1 ⟨x, H1, I1, r1, q1⟩ => ?_)
  refine wpAny_Slice ?_
  rw [evalPart_none]
  refine wpAny_pure (wpAny_pure ?_)
  rw [evalPart_some]
  refine thn (hs.run pins s1 σ H1 _ I1 q1) fun vk s2 ⟨y, H2, I2, r2, q2⟩ => ?_
  obtain ⟨rfl, a, xs, rfl, hx, q⟩ := q2
  obtain ⟨t, rfl⟩ := r2
  cases r1
  obtain ⟨its, rv, ht, hz⟩ := I2.list hx
  have I3 : Inv X pins σ H2 { s2 with heap := s2.heap.push { cls := .type "slice", data := .fields #[.none, .none, .int (-1) t] } } := I2.kept (t' := s2.toks) fun b ob q => Heap.get?_push_of_some _ q
  obtain ⟨its', rv', ht', _⟩ := I3.list hx
  have hl := rv'.length
  refine tail_any (ops := [.ref a, .ref s2.heap.objs.size]) ht'.isList.typeIs slot_list_getitem.lookup ?_ (by with_unfolding_all rfl)
  refine wpAny_getItem_list_slice ht'.isList (Heap.IsSliceOf.new ..) .none .none (.int (-1) t) (by decide) ?_ (by rw [List.size_toArray]; omega)
  rw [PySem.W.krv_pick]
  refine ⟨.ref _, _, I3.laid (t' := s2.toks) (o := .lst xs.reverse) (fun b ob q => Heap.get?_push_of_some _ q) (Nat.le_refl _) ?_, rfl, q _ (I3.hok.fresh (Nat.le_refl _))⟩
  refine ⟨by rw [List.length_reverse]; exact hz, its'.reverse, 0, ?_, Heap.get?_push_size _ rfl⟩
  have rev : ∀ {xs : List V} {us : List Value}, Vals xs us → Vals xs.reverse us.reverse := by
    intro xs us r
    induction r with
    | nil => exact .nil
    | cons h t ih =>
      rw [List.reverse_cons, List.reverse_cons]
      exact ih.append (.cons h .nil)
  exact rev rv'

/-! ### calls by keywords alone, handed in from the last parameter to the first -/
theorem Vals.rev {xs : List V} {us : List Value} (r : Vals xs us) : Vals xs.reverse us.reverse := by
  induction r with
  | nil => exact .nil
  | cons h t ih =>
    rw [List.reverse_cons, List.reverse_cons]
    exact ih.append (.cons h .nil)
structure CalK (P : Program) (w : World) (K : PySem.W.Frag) (mg : Str → Option Value) (base : Heap) (k : Nat) (x : Str) (ks : List Str) (sp : Sp) : Prop where
  ex : ∃ (f : Addr) (fd : FuncData), FnG P w K mg base k f fd ks.reverse sp ∧ mg x = some (.ref f) ∧ PySem.W.keepIn K (.ref f) = true ∧ ∀ (s : Shared) (ws : List Value), ws.length = ks.length → BindsTo s fd ⟨[], ks.zip ws⟩ (ks.reverse.zip ws.reverse)
section
variable {X : Cx} {k j : Nat} {x : Str} {ks : List Str} {sp : Sp} {p pos : Pos} {kws : List Keyword} {tk : TA}
theorem pe_kw (c : CalK X.prog X.w X.K X.mg X.base k x ks sp) (hgd : X.A.guards = some []) (hr : Room j X.A) (hk : k ≤ j) (hg : Gl X x) (hkw : PK X kws tk) (hall : (backToKw pos (keywordEach kws X.env)).all (·.1.isSome) = true := by rfl) (hks : (backToKw pos (keywordEach kws X.env)).filterMap (·.1) = ks := by rfl)
    (hdb : (x == ("__debug__" : Str)) = false := by decide) (hpl : ((backTo pos (starEach [] X.env)).any (·.1) || (backToKw pos (keywordEach kws X.env)).any (·.1.isNone)) = false := by rfl) :
    PE X (.Call (.Name x p) [] kws pos) (fun σ H Q => tk σ H fun zs H2 => zs.length = ks.length ∧ sp zs.reverse H2 Q E0) := by
  obtain ⟨f, fd, F, hm, kp, b⟩ := c.ex
  refine ⟨fun pins s σ H Q I h => wpAny_Call_Name_kw (ld_glob I hg hm ?_ hdb)⟩
  refine PySem.W.callWith_KW0 (h₀ := X.base) I.ok.mod.kin kp hall (thn (hkw.run pos pins s σ H _ I h) fun ws s2 ⟨zs, H2, I2, rz, hl, q⟩ => ⟨I2.kIn, ?_⟩) hpl
  rw [hks]
  refine wpAny_call (codeAny_mono (F.run X.A X.stack s2 H2 ⟨[], ks.zip ws⟩ ws.reverse zs.reverse Q hgd (hr.mono hk) I2.env0 (b s2 ws (by rw [← rz.length]; exact hl)) (Vals.rev rz) q) fun res s' hq => ?_)
  match res, hq with
  | .ok (.ret u), hq => exact I2.after hq
  | .ok .next, hq => exact False.elim hq
  | .ok .brk, hq => exact False.elim hq
  | .ok .cont, hq => exact False.elim hq
  | .error e, hq => exact False.elim hq
end

/-! ### an expression as its items -/
inductive Itm where
  | s (x : Str) | i (c : Int) | k (e : Ex)
def ItAt (K : PySem.W.Frag) (H : Hp) : Itm → V → Prop
  | .s x, v => v = .str x
  | .i c, v => v = .int c
  | .k e, v => ExAt K H e v
def ItsAt (K : PySem.W.Frag) (H : Hp) : List V → List Itm → Prop
  | [], [] => True
  | v :: vs, t :: ts => ItAt K H t v ∧ ItsAt K H vs ts
  | _, _ => False
def Ex.items : Ex → List Itm
  | .fig c => [.s "fig", .i c]
  | .reg i => [.s "reg", .i (i : Int)]
  | .share j => [.s "share", .i (j : Int)]
  | .two w a b => [.s (wn w), .k a, .k b]
  | .times f a => [.s "times", .i f, .k a]
  | .by i a => [.s "by", .i (i : Int), .k a]
  | .when i c a b => [.s "when", .i (i : Int), .i c, .k a, .k b]
  | .whr j c a b => [.s "where", .i (j : Int), .i c, .k a, .k b]
def kidsI : List Itm → List Ex
  | [] => []
  | .k e :: r => e :: kidsI r
  | .s _ :: r => kidsI r
  | .i _ :: r => kidsI r
theorem kidsI_items (e : Ex) : kidsI e.items = e.kids := by cases e <;> rfl
theorem kidsI_append : ∀ (l r : List Itm), kidsI (l ++ r) = kidsI l ++ kidsI r
  | [], r => rfl
  | .k e :: l, r => by
    show e :: kidsI (l ++ r) = e :: (kidsI l ++ kidsI r)
    rw [kidsI_append l r]
  | .s _ :: l, r => kidsI_append l r
  | .i _ :: l, r => kidsI_append l r
theorem ExAt.its {K : PySem.W.Frag} {H : Hp} : ∀ {e : Ex} {v : V}, ExAt K H e v → ∃ p xs, v = .ref p ∧ SqT K H p xs ∧ ItsAt K H xs e.items
  | .fig _, _, ⟨p, e, q⟩ => ⟨p, _, e, q, rfl, rfl, trivial⟩
  | .reg _, _, ⟨p, e, q⟩ => ⟨p, _, e, q, rfl, rfl, trivial⟩
  | .share _, _, ⟨p, e, q⟩ => ⟨p, _, e, q, rfl, rfl, trivial⟩
  | .two _ _ _, _, ⟨p, x, y, e, q, a, b⟩ => ⟨p, _, e, q, rfl, a, b, trivial⟩
  | .times _ _, _, ⟨p, x, e, q, a⟩ => ⟨p, _, e, q, rfl, rfl, a, trivial⟩
  | .by _ _, _, ⟨p, x, e, q, a⟩ => ⟨p, _, e, q, rfl, rfl, a, trivial⟩
  | .when _ _ _ _, _, ⟨p, x, y, e, q, a, b⟩ => ⟨p, _, e, q, rfl, rfl, rfl, a, b, trivial⟩
  | .whr _ _ _ _, _, ⟨p, x, y, e, q, a, b⟩ => ⟨p, _, e, q, rfl, rfl, rfl, a, b, trivial⟩
theorem ItsAt.get {K : PySem.W.Frag} {H : Hp} : ∀ {vs : List V} {ts : List Itm} {k : Nat} {v : V}, ItsAt K H vs ts → vs[k]? = some v → ∃ t, ts[k]? = some t ∧ ItAt K H t v
  | [], [], _, _, _, h => by simp at h
  | v' :: vs, t :: ts, 0, v, ⟨x, r⟩, h => by
    have : v' = v := Option.some.inj h
    subst this
    exact ⟨t, rfl, x⟩
  | v' :: vs, t :: ts, k + 1, v, ⟨x, r⟩, h => ItsAt.get (k := k) r h
theorem ItsAt.len {K : PySem.W.Frag} {H : Hp} : ∀ {vs : List V} {ts : List Itm}, ItsAt K H vs ts → vs.length = ts.length
  | [], [], _ => rfl
  | _ :: _, _ :: _, ⟨_, r⟩ => by rw [List.length_cons, List.length_cons, r.len]
theorem tyx_tup {K : PySem.W.Frag} {H : Hp} {p : Addr} {xs : List V} (h : SqT K H p xs) : TyX K H (.ref p) (.type "tuple") := by
  rcases h with (h | ⟨o, h⟩) | ⟨o, its, n, h1, h2, _⟩
  · exact .base (.tup h)
  · exact .fTuple h
  · exact .kTuple h1 h2
def Itm.isK : Itm → Bool
  | .k _ => true
  | _ => false
theorem isi_item {K : PySem.W.Frag} {H : Hp} {t : Itm} {v : V} (h : ItAt K H t v) : ∃ ty, TyX K H v ty ∧ PySem.W.kitOne K ty (.type "tuple") = some t.isK := by
  cases t with
  | s x =>
    have h : v = .str x := h
    subst h
    exact ⟨_, .base (.str x), kit_ty (show kitB "str" "tuple" = some false by decide +kernel)⟩
  | i c =>
    have h : v = .int c := h
    subst h
    exact ⟨_, .base (.int c), kit_ty (show kitB "int" "tuple" = some false by decide +kernel)⟩
  | k e =>
    obtain ⟨p, xs, rfl, hp, _⟩ := ExAt.its h
    exact ⟨_, tyx_tup hp, kit_ty (show kitB "tuple" "tuple" = some true by decide +kernel)⟩

/-! ### as data, for repr -/
def toI : Itm → (Ex → PyData) → PyData
  | .s x, _ => .str x
  | .i c, _ => .int c
  | .k e, f => f e
def toD : Ex → PyData
  | .fig c => .tuple [.str "fig", .int c]
  | .reg i => .tuple [.str "reg", .int (i : Int)]
  | .share j => .tuple [.str "share", .int (j : Int)]
  | .two w a b => .tuple [.str (wn w), toD a, toD b]
  | .times f a => .tuple [.str "times", .int f, toD a]
  | .by i a => .tuple [.str "by", .int (i : Int), toD a]
  | .when i c a b => .tuple [.str "when", .int (i : Int), .int c, toD a, toD b]
  | .whr j c a b => .tuple [.str "where", .int (j : Int), .int c, toD a, toD b]
theorem ExAt.dp {K : PySem.W.Frag} {H : Hp} : ∀ {e : Ex} {v : V}, ExAt K H e v → Dp K H v (toD e)
  | .fig _, _, ⟨p, e, q⟩ => by subst e; exact .tup q (.cons (.str _) (.cons (.int _) .nil))
  | .reg _, _, ⟨p, e, q⟩ => by subst e; exact .tup q (.cons (.str _) (.cons (.int _) .nil))
  | .share _, _, ⟨p, e, q⟩ => by subst e; exact .tup q (.cons (.str _) (.cons (.int _) .nil))
  | .two _ _ _, _, ⟨p, x, y, e, q, a, b⟩ => by subst e; exact .tup q (.cons (.str _) (.cons a.dp (.cons b.dp .nil)))
  | .times _ _, _, ⟨p, x, e, q, a⟩ => by subst e; exact .tup q (.cons (.str _) (.cons (.int _) (.cons a.dp .nil)))
  | .by _ _, _, ⟨p, x, e, q, a⟩ => by subst e; exact .tup q (.cons (.str _) (.cons (.int _) (.cons a.dp .nil)))
  | .when _ _ _ _, _, ⟨p, x, y, e, q, a, b⟩ => by subst e; exact .tup q (.cons (.str _) (.cons (.int _) (.cons (.int _) (.cons a.dp (.cons b.dp .nil)))))
  | .whr _ _ _ _, _, ⟨p, x, y, e, q, a, b⟩ => by subst e; exact .tup q (.cons (.str _) (.cons (.int _) (.cons (.int _) (.cons a.dp (.cons b.dp .nil)))))
/-- short enough to be shown: every number below 2 ^ 600, every sign small -/
structure Shw (d : PyData) (w k : Nat) : Prop where
  sh : d.showable = true
  lf : d.leavesShort 700 = true
  wt : d.weight ≤ w
  dp : d.depth ≤ k
theorem log_of {i : Int} (h : i.natAbs < 2 ^ 600) : i.natAbs.log2 < 600 := PySem.Flt.log2_lt_of (by decide) h
theorem Shw.int {i : Int} (h : i.natAbs < 2 ^ 600) : Shw (.int i) 601 0 := by
  have hl := log_of h
  refine ⟨?_, ?_, ?_, Nat.le_refl _⟩
  · show decide (i.natAbs.log2 < 1920) = true
    exact decide_eq_true (by omega)
  · show decide ((PyData.shown (.int i)).length ≤ 700) = true
    refine decide_eq_true ?_
    have e := int_text_length_le (k := 600) (by decide) hl
    show (Str.ofString (toString i)).length ≤ 700
    rw [PySem.ofString_length]
    omega
  · show (if i == 0 then 0 else i.natAbs.log2 + 1) ≤ 601
    split <;> omega
theorem Shw.small {i : Int} (h : i.natAbs < 2 ^ 15) : Shw (.int i) 15 0 := by
  have hl : i.natAbs.log2 < 15 := PySem.Flt.log2_lt_of (by decide) h
  have h6 := Shw.int (i := i) (Nat.lt_of_lt_of_le h (Nat.pow_le_pow_right (by decide) (by decide)))
  refine ⟨h6.sh, h6.lf, ?_, Nat.le_refl _⟩
  show (if i == 0 then 0 else i.natAbs.log2 + 1) ≤ 15
  split <;> omega
theorem Shw.str {x : Str} (h : (x.cps.toList.all fun c => decide (c < 16 ^ 8)) = true) (hl : x.cps.size ≤ 10) : Shw (.str x) 10 0 := ⟨rfl, h, hl, Nat.le_refl _⟩
structure ShwAll (ds : List PyData) (w k : Nat) : Prop where
  sh : PyData.showableAll ds = true
  lf : PyData.leavesShortAll 700 ds = true
  wt : PyData.weightAll ds ≤ w
  dp : PyData.depthAll ds ≤ k
theorem ShwAll.nil {k : Nat} : ShwAll [] 0 k := ⟨rfl, rfl, Nat.le_refl _, Nat.zero_le _⟩
theorem ShwAll.cons {d : PyData} {ds : List PyData} {w1 w2 k1 k2 k : Nat} (h1 : Shw d w1 k1) (h2 : ShwAll ds w2 k2) (hk1 : k1 ≤ k) (hk2 : k2 ≤ k) : ShwAll (d :: ds) (w1 + 1 + w2) k := by
  refine ⟨?_, ?_, ?_, ?_⟩
  · show (d.showable && PyData.showableAll ds) = true
    rw [h1.sh, h2.sh]
    rfl
  · show (d.leavesShort 700 && PyData.leavesShortAll 700 ds) = true
    rw [h1.lf, h2.lf]
    rfl
  · show d.weight + 1 + PyData.weightAll ds ≤ _
    have := h1.wt
    have := h2.wt
    omega
  · show max d.depth (PyData.depthAll ds) ≤ k
    have := h1.dp
    have := h2.dp
    omega
theorem ShwAll.tup {ds : List PyData} {w k : Nat} (h : ShwAll ds w k) : Shw (.tuple ds) w (k + 1) := ⟨h.sh, h.lf, h.wt, by show PyData.depthAll ds + 1 ≤ k + 1; have := h.dp; omega⟩
theorem ShwAll.lst {ds : List PyData} {w k : Nat} (h : ShwAll ds w k) : Shw (.list ds) w (k + 1) := ⟨h.sh, h.lf, h.wt, by show PyData.depthAll ds + 1 ≤ k + 1; have := h.dp; omega⟩
theorem Shw.mono {d : PyData} {w w' k k' : Nat} (h : Shw d w k) (hw : w ≤ w') (hk : k ≤ k') : Shw d w' k' := ⟨h.sh, h.lf, Nat.le_trans h.wt hw, Nat.le_trans h.dp hk⟩
theorem Shw.fits {d : PyData} {w k : Nat} (h : Shw d w k) (hw : w ≤ 20000) : d.shown.length ≤ sizeLine := by
  have := PyData.shown_le 700 (by decide) d h.lf
  have := h.wt
  have e : sizeLine = 16777216 := by decide
  omega
def wgt : Nat → Nat
  | 0 => 0
  | n + 1 => 2 * wgt n + 60
theorem wgt_mono : ∀ {m n : Nat}, m ≤ n → wgt m ≤ wgt n
  | 0, _, _ => Nat.zero_le _
  | m + 1, 0, h => absurd h (by omega)
  | m + 1, n + 1, h => by
    have := wgt_mono (m := m) (n := n) (by omega)
    show 2 * wgt m + 60 ≤ 2 * wgt n + 60
    omega
theorem shw_ex {many : Nat} (hm : many ≤ 1000) : ∀ {e : Ex}, ExOk many e → Shw (toD e) (wgt e.dep) e.dep
  | .fig c, o => (ShwAll.tup (.cons (.str (by decide) (by decide)) (.cons (.small (by have := o.1; have := o.2; omega)) .nil (Nat.le_refl 0) (Nat.le_refl 0)) (Nat.le_refl 0) (Nat.le_refl 0))).mono (show _ ≤ wgt 1 by decide) (show 0 + 1 ≤ 1 by decide)
  | .reg i, o => by
    have o : i < 4 := o
    exact (ShwAll.tup (.cons (.str (by decide) (by decide)) (.cons (.small (by omega)) .nil (Nat.le_refl 0) (Nat.le_refl 0)) (Nat.le_refl 0) (Nat.le_refl 0))).mono (show _ ≤ wgt 1 by decide) (show 0 + 1 ≤ 1 by decide)
  | .share j, o => by
    have o : j < many := o
    exact (ShwAll.tup (.cons (.str (by decide) (by decide)) (.cons (.small (by omega)) .nil (Nat.le_refl 0) (Nat.le_refl 0)) (Nat.le_refl 0) (Nat.le_refl 0))).mono (show _ ≤ wgt 1 by decide) (show 0 + 1 ≤ 1 by decide)
  | .two w a b, o => by
    have ha := shw_ex hm (e := a) o.1
    have hb := shw_ex hm (e := b) o.2
    have hw : Shw (.str (wn w)) 10 0 := by cases w <;> exact .str (by decide) (by decide)
    have h1 := wgt_mono (Nat.le_max_left a.dep b.dep)
    have h2 := wgt_mono (Nat.le_max_right a.dep b.dep)
    refine (ShwAll.tup (.cons hw (.cons ha (.cons hb .nil (Nat.le_refl _) (Nat.zero_le _)) (Nat.le_max_left a.dep b.dep) (Nat.le_max_right a.dep b.dep)) (Nat.zero_le _) (Nat.le_refl _))).mono ?_ (Nat.le_refl _)
    show 10 + 1 + (wgt a.dep + 1 + (wgt b.dep + 1 + 0)) ≤ 2 * wgt (max a.dep b.dep) + 60
    omega
  | .times f a, o => by
    have ha := shw_ex hm (e := a) o.2
    refine (ShwAll.tup (.cons (.str (by decide) (by decide)) (.cons (.small (by have := o.1; omega)) (.cons ha .nil (Nat.le_refl _) (Nat.zero_le _)) (Nat.zero_le _) (Nat.le_refl _)) (Nat.zero_le _) (Nat.le_refl _))).mono ?_ (Nat.le_refl _)
    show 10 + 1 + (15 + 1 + (wgt a.dep + 1 + 0)) ≤ 2 * wgt a.dep + 60
    omega
  | .by i a, o => by
    have ha := shw_ex hm (e := a) o.2
    refine (ShwAll.tup (.cons (.str (by decide) (by decide)) (.cons (.small (by have := o.1; omega)) (.cons ha .nil (Nat.le_refl _) (Nat.zero_le _)) (Nat.zero_le _) (Nat.le_refl _)) (Nat.zero_le _) (Nat.le_refl _))).mono ?_ (Nat.le_refl _)
    show 10 + 1 + (15 + 1 + (wgt a.dep + 1 + 0)) ≤ 2 * wgt a.dep + 60
    omega
  | .when i c a b, o => by
    have ha := shw_ex hm (e := a) o.2.2.1
    have hb := shw_ex hm (e := b) o.2.2.2
    have h1 := wgt_mono (Nat.le_max_left a.dep b.dep)
    have h2 := wgt_mono (Nat.le_max_right a.dep b.dep)
    refine (ShwAll.tup (.cons (.str (by decide) (by decide)) (.cons (.small (by have := o.1; omega)) (.cons (.small (by have := o.2.1; omega)) (.cons ha (.cons hb .nil (Nat.le_refl _) (Nat.zero_le _)) (Nat.le_max_left a.dep b.dep) (Nat.le_max_right a.dep b.dep)) (Nat.zero_le _) (Nat.le_refl _)) (Nat.zero_le _) (Nat.le_refl _)) (Nat.zero_le _) (Nat.le_refl _))).mono ?_ (Nat.le_refl _)
    show 10 + 1 + (15 + 1 + (15 + 1 + (wgt a.dep + 1 + (wgt b.dep + 1 + 0)))) ≤ 2 * wgt (max a.dep b.dep) + 60
    omega
  | .whr i c a b, o => by
    have ha := shw_ex hm (e := a) o.2.2.1
    have hb := shw_ex hm (e := b) o.2.2.2
    have h1 := wgt_mono (Nat.le_max_left a.dep b.dep)
    have h2 := wgt_mono (Nat.le_max_right a.dep b.dep)
    refine (ShwAll.tup (.cons (.str (by decide) (by decide)) (.cons (.small (by have := o.1; omega)) (.cons (.small (by have := o.2.1; omega)) (.cons ha (.cons hb .nil (Nat.le_refl _) (Nat.zero_le _)) (Nat.le_max_left a.dep b.dep) (Nat.le_max_right a.dep b.dep)) (Nat.zero_le _) (Nat.le_refl _)) (Nat.zero_le _) (Nat.le_refl _)) (Nat.zero_le _) (Nat.le_refl _))).mono ?_ (Nat.le_refl _)
    show 10 + 1 + (15 + 1 + (15 + 1 + (wgt a.dep + 1 + (wgt b.dep + 1 + 0)))) ≤ 2 * wgt (max a.dep b.dep) + 60
    omega
/-- numbers of spans and worths stay below 2 ^ 600 -/
theorem spn_bnd : ∀ {many : Nat} {e : Ex}, ExOk many e → (spn e).1.natAbs ≤ 1000 * 2000 ^ e.dep ∧ (spn e).2.natAbs ≤ 1000 * 2000 ^ e.dep := by
  intro many e
  have up : ∀ {m n : Nat}, m ≤ n → 1000 * 2000 ^ m ≤ 1000 * 2000 ^ n := fun h => Nat.mul_le_mul_left _ (Nat.pow_le_pow_right (by decide) h)
  have nx : ∀ n : Nat, 1000 * 2000 ^ (n + 1) = 2000 * (1000 * 2000 ^ n) := fun n => by rw [Nat.pow_succ]; omega
  induction e with
  | fig c =>
    intro o
    have := o.1
    have := o.2
    show c.natAbs ≤ 1000 * 2000 ^ 1 ∧ c.natAbs ≤ 1000 * 2000 ^ 1
    omega
  | reg i =>
    intro o
    show (-1000 : Int).natAbs ≤ 1000 * 2000 ^ 1 ∧ (1000 : Int).natAbs ≤ 1000 * 2000 ^ 1
    decide
  | share j =>
    intro o
    show (0 : Int).natAbs ≤ 1000 * 2000 ^ 1 ∧ (1000 : Int).natAbs ≤ 1000 * 2000 ^ 1
    decide
  | two w a b iha ihb =>
    intro o
    have ha := iha o.1
    have hb := ihb o.2
    have h1 := up (Nat.le_max_left a.dep b.dep)
    have h2 := up (Nat.le_max_right a.dep b.dep)
    show (js w (spn a) (spn b)).1.natAbs ≤ 1000 * 2000 ^ (max a.dep b.dep + 1) ∧ (js w (spn a) (spn b)).2.natAbs ≤ 1000 * 2000 ^ (max a.dep b.dep + 1)
    rw [nx]
    cases w with
    | sum => simp only [js]; omega
    | less => simp only [js]; omega
    | least => simp only [js, mn]; split <;> split <;> omega
    | most => simp only [js, mx]; split <;> split <;> omega
  | times f a ih =>
    intro o
    have ha := ih o.2
    have hf : f.natAbs ≤ 9 := by have := o.1; omega
    have m1 : (f * (spn a).1).natAbs ≤ 9 * (1000 * 2000 ^ a.dep) := by rw [Int.natAbs_mul]; exact Nat.mul_le_mul hf ha.1
    have m2 : (f * (spn a).2).natAbs ≤ 9 * (1000 * 2000 ^ a.dep) := by rw [Int.natAbs_mul]; exact Nat.mul_le_mul hf ha.2
    show (mn _ _).natAbs ≤ 1000 * 2000 ^ (a.dep + 1) ∧ (mx _ _).natAbs ≤ 1000 * 2000 ^ (a.dep + 1)
    rw [nx]
    unfold mn mx
    split <;> split <;> omega
  | «by» i a ih =>
    intro o
    have ha := ih o.2
    have m1 : (mx (ab (spn a).1) (ab (spn a).2)).natAbs ≤ 1000 * 2000 ^ a.dep := by
      unfold mx ab
      repeat' split
      all_goals omega
    show (-1000 * mx _ _).natAbs ≤ 1000 * 2000 ^ (a.dep + 1) ∧ (1000 * mx _ _).natAbs ≤ 1000 * 2000 ^ (a.dep + 1)
    rw [nx]
    omega
  | when i c a b iha ihb =>
    intro o
    have ha := iha o.2.2.1
    have hb := ihb o.2.2.2
    have h1 := up (Nat.le_max_left a.dep b.dep)
    have h2 := up (Nat.le_max_right a.dep b.dep)
    show (mn _ _).natAbs ≤ 1000 * 2000 ^ (max a.dep b.dep + 1) ∧ (mx _ _).natAbs ≤ 1000 * 2000 ^ (max a.dep b.dep + 1)
    rw [nx]
    unfold mn mx
    split <;> split <;> omega
  | whr i c a b iha ihb =>
    intro o
    have ha := iha o.2.2.1
    have hb := ihb o.2.2.2
    have h1 := up (Nat.le_max_left a.dep b.dep)
    have h2 := up (Nat.le_max_right a.dep b.dep)
    show (mn _ _).natAbs ≤ 1000 * 2000 ^ (max a.dep b.dep + 1) ∧ (mx _ _).natAbs ≤ 1000 * 2000 ^ (max a.dep b.dep + 1)
    rw [nx]
    unfold mn mx
    split <;> split <;> omega
theorem bnd_600 {d : Nat} {x : Int} (hd : d ≤ 10) (h : x.natAbs ≤ 1000 * 2000 ^ d) : x.natAbs < 2 ^ 300 := by
  have h1 : 1000 * 2000 ^ d ≤ 1000 * 2000 ^ 10 := Nat.mul_le_mul_left _ (Nat.pow_le_pow_right (by decide) hd)
  have h2 : (1000 * 2000 ^ 10 : Nat) < 2 ^ 300 := by decide
  omega
end NG

namespace NG
open PySem PySem.Spec PyProof.Rows L2

/-! ### leaves and borders -/
def lvs : Ex → Int
  | .fig _ => 1
  | .reg _ => 1
  | .share _ => 1
  | .two .sum a b => lvs a * lvs b
  | .two .less a b => lvs a * lvs b
  | .two .least a b => lvs a + lvs b
  | .two .most a b => lvs a + lvs b
  | .times _ a => lvs a
  | .by _ a => lvs a
  | .when _ _ a b => mx (lvs a) (lvs b)
  | .whr _ _ a b => lvs a + lvs b
def bds : Ex → Int
  | .fig _ => 0
  | .reg _ => 0
  | .share _ => 0
  | .two .sum a b => bds a + bds b
  | .two .less a b => bds a + bds b
  | .two .least a b => bds a + bds b + lvs a * lvs b
  | .two .most a b => bds a + bds b + lvs a * lvs b
  | .times _ a => bds a
  | .by _ a => bds a
  | .when _ _ a b => mx (bds a) (bds b)
  | .whr _ _ a b => bds a + bds b + 1
def bnd : Nat → Nat
  | 0 => 1
  | n + 1 => bnd n * bnd n + 2 * bnd n
theorem bnd_pos : ∀ n, 1 ≤ bnd n
  | 0 => Nat.le_refl _
  | n + 1 => by
    have := bnd_pos n
    show 1 ≤ bnd n * bnd n + 2 * bnd n
    omega
theorem bnd_up : ∀ {m n : Nat}, m ≤ n → bnd m ≤ bnd n := by
  intro m n h
  induction h with
  | refl => exact Nat.le_refl _
  | step _ ih =>
    refine Nat.le_trans ih ?_
    show _ ≤ bnd _ * bnd _ + 2 * bnd _
    omega
theorem lb_bnd : ∀ e : Ex, (lvs e).natAbs ≤ bnd e.dep ∧ (bds e).natAbs ≤ bnd e.dep := by
  intro e
  have pm : ∀ {x y : Int} {B : Nat}, x.natAbs ≤ B → y.natAbs ≤ B → (x * y).natAbs ≤ B * B := fun hx hy => by rw [Int.natAbs_mul]; exact Nat.mul_le_mul hx hy
  induction e with
  | fig c => exact ⟨by show 1 ≤ bnd 1; exact bnd_pos 1, Nat.zero_le _⟩
  | reg c => exact ⟨by show 1 ≤ bnd 1; exact bnd_pos 1, Nat.zero_le _⟩
  | share c => exact ⟨by show 1 ≤ bnd 1; exact bnd_pos 1, Nat.zero_le _⟩
  | two w a b iha ihb =>
    have h1 := bnd_up (Nat.le_max_left a.dep b.dep)
    have h2 := bnd_up (Nat.le_max_right a.dep b.dep)
    have hm := pm (Nat.le_trans iha.1 h1) (Nat.le_trans ihb.1 h2)
    show (lvs (.two w a b)).natAbs ≤ bnd (max a.dep b.dep) * bnd (max a.dep b.dep) + 2 * bnd (max a.dep b.dep) ∧ (bds (.two w a b)).natAbs ≤ bnd (max a.dep b.dep) * bnd (max a.dep b.dep) + 2 * bnd (max a.dep b.dep)
    cases w <;> simp only [lvs, bds] <;> omega
  | times f a ih =>
    show (lvs a).natAbs ≤ bnd a.dep * bnd a.dep + 2 * bnd a.dep ∧ (bds a).natAbs ≤ bnd a.dep * bnd a.dep + 2 * bnd a.dep
    omega
  | «by» i a ih =>
    show (lvs a).natAbs ≤ bnd a.dep * bnd a.dep + 2 * bnd a.dep ∧ (bds a).natAbs ≤ bnd a.dep * bnd a.dep + 2 * bnd a.dep
    omega
  | when i c a b iha ihb =>
    have h1 := bnd_up (Nat.le_max_left a.dep b.dep)
    have h2 := bnd_up (Nat.le_max_right a.dep b.dep)
    show (mx (lvs a) (lvs b)).natAbs ≤ bnd (max a.dep b.dep) * bnd (max a.dep b.dep) + 2 * bnd (max a.dep b.dep) ∧ (mx (bds a) (bds b)).natAbs ≤ bnd (max a.dep b.dep) * bnd (max a.dep b.dep) + 2 * bnd (max a.dep b.dep)
    unfold mx
    split <;> split <;> omega
  | whr i c a b iha ihb =>
    have h1 := bnd_up (Nat.le_max_left a.dep b.dep)
    have h2 := bnd_up (Nat.le_max_right a.dep b.dep)
    have h3 := bnd_pos (max a.dep b.dep)
    have h4 : bnd (max a.dep b.dep) ≤ bnd (max a.dep b.dep) * bnd (max a.dep b.dep) := Nat.le_mul_of_pos_left _ h3
    show (lvs a + lvs b).natAbs ≤ bnd (max a.dep b.dep) * bnd (max a.dep b.dep) + 2 * bnd (max a.dep b.dep) ∧ (bds a + bds b + 1).natAbs ≤ bnd (max a.dep b.dep) * bnd (max a.dep b.dep) + 2 * bnd (max a.dep b.dep)
    omega
theorem lvs_mul {e : Ex} {y : Int} (h : e.dep ≤ 5) : CMul (lvs e) y := by
  have h1 := (lb_bnd e).1
  have h2 := bnd_up h
  have h3 : bnd 5 < 2 ^ 64 := by decide
  exact .inl ⟨by omega, by omega⟩
theorem lb_600 {e : Ex} (h : e.dep ≤ 6) : (lvs e).natAbs < 2 ^ 600 ∧ (bds e).natAbs < 2 ^ 600 := by
  have h1 := lb_bnd e
  have h2 := bnd_up h
  have h3 : bnd 6 < 2 ^ 600 := by decide
  omega
def spCnt (K : PySem.W.Frag) (f : Ex → Int) (n : Nat) : Sp := fun vs H Q _ => ∃ (v : V) (e : Ex) (many : Nat), vs = [v] ∧ ExAt K H e v ∧ ExOk many e ∧ e.dep ≤ n ∧ e.dep ≤ 6 ∧ ∀ H', Same H H' → Q (.int (f e)) H'
def spLB (K : PySem.W.Frag) (n : Nat) : Sp := fun vs H Q _ => ∃ (v : V) (e : Ex) (many : Nat), vs = [v] ∧ ExAt K H e v ∧ ExOk many e ∧ e.dep ≤ n ∧ e.dep ≤ 6 ∧ ∀ H' u, Same H H' → SpAt K H' (lvs e, bds e) u → Q u H'

/-! ### the law's own reading -/
def Ex.rest : Ex → List Itm
  | .fig c => [.i c]
  | .reg i => [.i (i : Int)]
  | .share j => [.i (j : Int)]
  | .two _ a b => [.k a, .k b]
  | .times f a => [.i f, .k a]
  | .by i a => [.i (i : Int), .k a]
  | .when i c a b => [.i (i : Int), .i c, .k a, .k b]
  | .whr j c a b => [.i (j : Int), .i c, .k a, .k b]
theorem kidsI_rest (e : Ex) : kidsI e.rest = e.kids := by cases e <;> rfl
theorem rest_len (e : Ex) : e.rest.length ≤ 4 := by cases e <;> simp [Ex.rest]
theorem ItsAt.imp {K : PySem.W.Frag} {H H' : Hp} (sm : Same H H') : ∀ {vs : List V} {ts : List Itm}, ItsAt K H vs ts → ItsAt K H' vs ts
  | [], [], _ => trivial
  | _ :: _, .s _ :: _, ⟨x, r⟩ => ⟨x, r.imp sm⟩
  | _ :: _, .i _ :: _, ⟨x, r⟩ => ⟨x, r.imp sm⟩
  | _ :: _, .k e :: _, ⟨x, r⟩ => ⟨ExAt.same (e := e) x sm, r.imp sm⟩
theorem ExAt.rst {K : PySem.W.Frag} {H : Hp} : ∀ {e : Ex} {v : V}, ExAt K H e v → ∃ p xs, v = .ref p ∧ SqT K H p (.str (wordOf e) :: xs) ∧ 0 < xs.length ∧ ItsAt K H xs e.rest
  | .fig _, _, ⟨p, e, q⟩ => ⟨p, _, e, q, by simp, rfl, trivial⟩
  | .reg _, _, ⟨p, e, q⟩ => ⟨p, _, e, q, by simp, rfl, trivial⟩
  | .share _, _, ⟨p, e, q⟩ => ⟨p, _, e, q, by simp, rfl, trivial⟩
  | .two _ _ _, _, ⟨p, x, y, e, q, a, b⟩ => ⟨p, _, e, q, by simp, a, b, trivial⟩
  | .times _ _, _, ⟨p, x, e, q, a⟩ => ⟨p, _, e, q, by simp, rfl, a, trivial⟩
  | .by _ _, _, ⟨p, x, e, q, a⟩ => ⟨p, _, e, q, by simp, rfl, a, trivial⟩
  | .when _ _ _ _, _, ⟨p, x, y, e, q, a, b⟩ => ⟨p, _, e, q, by simp, rfl, rfl, a, b, trivial⟩
  | .whr _ _ _ _, _, ⟨p, x, y, e, q, a, b⟩ => ⟨p, _, e, q, by simp, rfl, rfl, a, b, trivial⟩
theorem cut1 {x : V} {xs : List V} : cutV (x :: xs) (some 1) none = xs := by
  unfold cutV
  rw [show HT.sIx (x :: xs).length 0 (some 1) = min 1 (x :: xs).length from HT.sIx_nat _ 0 1, HT.sIx_none, List.length_cons, show min 1 (xs.length + 1) = 1 by omega]
  show List.take (xs.length + 1 - 1) xs = xs
  rw [Nat.add_sub_cancel, List.take_length]
theorem cut1w {x : V} {xs : List V} (h : 0 < xs.length) : ¬ (HT.sIx (x :: xs).length 0 (some 1) = 0 ∧ HT.sIx (x :: xs).length (x :: xs).length none = (x :: xs).length) := by
  rw [show HT.sIx (x :: xs).length 0 (some 1) = min 1 (x :: xs).length from HT.sIx_nat _ 0 1, List.length_cons]
  omega
theorem kidsI_snoc {ts : List Itm} {i : Nat} {t : Itm} (h : ts[i]? = some t) : kidsI (ts.take (i + 1)) = kidsI (ts.take i) ++ kidsI [t] := by
  rw [List.take_add_one, h, kidsI_append]
  rfl
theorem mem_kidsI {e : Ex} : ∀ {ts : List Itm}, Itm.k e ∈ ts → e ∈ kidsI ts
  | .k e' :: r, h => by
    rcases List.mem_cons.mp h with h | h
    · cases h
      exact List.mem_cons_self
    · exact List.mem_cons_of_mem _ (mem_kidsI h)
  | .s _ :: r, h => by
    rcases List.mem_cons.mp h with h | h
    · cases h
    · exact mem_kidsI (ts := r) h
  | .i _ :: r, h => by
    rcases List.mem_cons.mp h with h | h
    · cases h
    · exact mem_kidsI (ts := r) h
theorem sort2 {ns : List Int} {a b : Int} (hp : ns.Perm [a, b]) (hs : ns.Pairwise (· ≤ ·)) : ns = [mn a b, mx a b] := by
  have hl := hp.length_eq
  match ns, hl with
  | [x, y], _ =>
    have hxy : x ≤ y := by simpa using hs
    have h1 : x = a ∨ x = b := by simpa using hp.mem_iff (a := x)
    have h2 : y = a ∨ y = b := by simpa using hp.mem_iff (a := y)
    have h3 : a = x ∨ a = y := by simpa using (hp.mem_iff (a := a)).mpr (by simp)
    have h4 : b = x ∨ b = y := by simpa using (hp.mem_iff (a := b)).mpr (by simp)
    have e1 : x = mn a b := by unfold mn; split <;> omega
    have e2 : y = mx a b := by unfold mx; split <;> omega
    rw [e1, e2]
theorem far_eq {lo hi : Int} (h : lo ≤ hi) : (if (0 - lo) > hi then (0 - lo) else hi) = mx (ab lo) (ab hi) := by
  unfold mx ab
  repeat' split
  all_goals omega
end NG

namespace NG
open PySem PySem.Spec PyProof.Rows L2
/-! ### rows of expressions as data -/
theorem lay_ex : ∀ e : Ex, (toD e).canLay0 = true
  | .fig _ => by
    show (PyData.canLay0 (.str "fig") && (true && true)) = true
    decide +kernel
  | .reg _ => by
    show (PyData.canLay0 (.str "reg") && (true && true)) = true
    decide +kernel
  | .share _ => by
    show (PyData.canLay0 (.str "share") && (true && true)) = true
    decide +kernel
  | .two w a b => by
    have ha := lay_ex a
    have hb := lay_ex b
    show (PyData.canLay0 (.str (wn w)) && (PyData.canLay0 (toD a) && (PyData.canLay0 (toD b) && true))) = true
    rw [ha, hb]
    cases w <;> decide +kernel
  | .times _ a => by
    have ha := lay_ex a
    show (PyData.canLay0 (.str "times") && (true && (PyData.canLay0 (toD a) && true))) = true
    rw [ha]
    decide +kernel
  | .by _ a => by
    have ha := lay_ex a
    show (PyData.canLay0 (.str "by") && (true && (PyData.canLay0 (toD a) && true))) = true
    rw [ha]
    decide +kernel
  | .when _ _ a b => by
    have ha := lay_ex a
    have hb := lay_ex b
    show (PyData.canLay0 (.str "when") && (true && (true && (PyData.canLay0 (toD a) && (PyData.canLay0 (toD b) && true))))) = true
    rw [ha, hb]
    decide +kernel
  | .whr _ _ a b => by
    have ha := lay_ex a
    have hb := lay_ex b
    show (PyData.canLay0 (.str "where") && (true && (true && (PyData.canLay0 (toD a) && (PyData.canLay0 (toD b) && true))))) = true
    rw [ha, hb]
    decide +kernel
theorem depth_ex : ∀ e : Ex, (toD e).depth ≤ e.dep
  | .fig _ => Nat.le_refl _
  | .reg _ => Nat.le_refl _
  | .share _ => Nat.le_refl _
  | .two w a b => by
    have ha := depth_ex a
    have hb := depth_ex b
    show max 0 (max (toD a).depth (max (toD b).depth 0)) + 1 ≤ max a.dep b.dep + 1
    omega
  | .times _ a => by
    have ha := depth_ex a
    show max 0 (max 0 (max (toD a).depth 0)) + 1 ≤ a.dep + 1
    omega
  | .by _ a => by
    have ha := depth_ex a
    show max 0 (max 0 (max (toD a).depth 0)) + 1 ≤ a.dep + 1
    omega
  | .when _ _ a b => by
    have ha := depth_ex a
    have hb := depth_ex b
    show max 0 (max 0 (max 0 (max (toD a).depth (max (toD b).depth 0)))) + 1 ≤ max a.dep b.dep + 1
    omega
  | .whr _ _ a b => by
    have ha := depth_ex a
    have hb := depth_ex b
    show max 0 (max 0 (max 0 (max (toD a).depth (max (toD b).depth 0)))) + 1 ≤ max a.dep b.dep + 1
    omega
theorem shaped_rows {es : List Ex} (h : ∀ e ∈ es, e.dep ≤ 40) : SeqAt.shaped (.list (es.map toD)) = true := by
  have h1 : PyData.canLayAll0 (es.map toD) = true := by
    clear h
    induction es with
    | nil => rfl
    | cons e r ih =>
      show ((toD e).canLay0 && PyData.canLayAll0 (r.map toD)) = true
      rw [lay_ex e, ih]
      rfl
  have h2 : PyData.depthAll (es.map toD) ≤ 40 := by
    clear h1
    induction es with
    | nil => exact Nat.zero_le _
    | cons e r ih =>
      have a := depth_ex e
      have b := h e (by simp)
      have c := ih fun x hx => h x (List.mem_cons_of_mem _ hx)
      show max (toD e).depth (PyData.depthAll (r.map toD)) ≤ 40
      omega
  show (PyData.canLayAll0 (es.map toD) && decide (PyData.depthAll (es.map toD) + 1 ≤ 64)) = true
  rw [h1, decide_eq_true (by omega)]
  rfl
theorem RowsAt.dps {K : PySem.W.Frag} {H : Hp} : ∀ {vs : List V} {es : List Ex}, RowsAt K H vs es → DpAll K H vs (es.map toD)
  | [], [], _ => .nil
  | _ :: _, _ :: _, ⟨x, r⟩ => .cons x.dp r.dps
theorem RowsAt.append {K : PySem.W.Frag} {H : Hp} : ∀ {vs ws : List V} {es fs : List Ex}, RowsAt K H vs es → RowsAt K H ws fs → RowsAt K H (vs ++ ws) (es ++ fs)
  | [], _, [], _, _, r => r
  | _ :: _, _, _ :: _, _, ⟨x, q⟩, r => ⟨x, q.append r⟩
theorem RowsAt.mem {K : PySem.W.Frag} {H : Hp} : ∀ {vs : List V} {es : List Ex} {v : V}, RowsAt K H vs es → v ∈ vs → ∃ e ∈ es, ExAt K H e v
  | v' :: vs, e :: es, v, ⟨x, r⟩, h => by
    rcases List.mem_cons.mp h with h | h
    · subst h
      exact ⟨e, by simp, x⟩
    · obtain ⟨e', h1, h2⟩ := r.mem h
      exact ⟨e', List.mem_cons_of_mem _ h1, h2⟩
/-! ### slices of lists -/
theorem cut_take {xs : List V} {j : Nat} : cutV xs none (some (j : Int)) = xs.take j := by
  unfold cutV
  rw [HT.sIx_none, HT.sIx_nat, List.drop_zero, Nat.sub_zero]
  by_cases h : j ≤ xs.length
  · rw [Nat.min_eq_left h]
  · rw [Nat.min_eq_right (by omega), List.take_length, List.take_of_length_le (by omega)]
theorem cut_drop {xs : List V} {j : Nat} : cutV xs (some (j : Int)) none = xs.drop j := by
  unfold cutV
  rw [HT.sIx_none, HT.sIx_nat]
  by_cases h : j ≤ xs.length
  · rw [Nat.min_eq_left h, List.take_of_length_le (by rw [List.length_drop]; exact Nat.le_refl _)]
  · rw [Nat.min_eq_right (by omega), Nat.sub_self, List.take_zero, List.drop_of_length_le (by omega)]
/-! ### words within -/
def spWords (K : PySem.W.Frag) (n : Nat) : Sp := fun vs H Q _ => ∃ (v : V) (x : Str) (e : Ex) (many : Nat), vs = [v, .str x] ∧ ExAt K H e v ∧ ExOk many e ∧ e.dep ≤ n ∧ e.dep ≤ 6 ∧
  ∀ H' l us es, Same H H' → H l = none → H' l = some (.lst us) → RowsAt K H' us es → es.length ≤ 3 ^ n → (∀ e' ∈ es, ExOk many e' ∧ wordOf e' = x ∧ e'.dep ≤ e.dep) → Q (.ref l) H'
def spBorder (K : PySem.W.Frag) : Sp := fun vs H Q _ => ∃ (a : Addr) (v : V) (e : Ex) (many n : Nat), vs = [.ref a, v, .int (many : Int)] ∧ ExAt K H e v ∧ ExOk many e ∧ e.dep ≤ 5 ∧ 2 ≤ many ∧ many ≤ 3 ∧ HandAt H a n ∧ n ≤ 999997000 ∧
  ∀ H' u ms, But a H H' → HandAt H' a (n + 20) → ShAt K H' many ms u → Q u H'
def spNear (K : PySem.W.Frag) : Sp := fun vs H Q _ => ∃ (a : Addr) (v : V) (e : Ex) (many n : Nat), vs = [.ref a, v] ∧ ExAt K H e v ∧ ExOk many e ∧ e.dep ≤ 5 ∧ HandAt H a n ∧ n ≤ 999997000 ∧
  ∀ H' u rs, But a H H' → HandAt H' a (n + 15) → RegsAt K H' rs u → Q u H'
theorem is_whr {e : Ex} (h : wordOf e = "where") : ∃ j c a b, e = .whr j c a b := by
  cases e with
  | whr j c a b => exact ⟨j, c, a, b, rfl⟩
  | two w a b => cases w <;> exact absurd h (of_decide_eq_false rfl)
  | fig _ => exact absurd h (of_decide_eq_false rfl)
  | reg _ => exact absurd h (of_decide_eq_false rfl)
  | share _ => exact absurd h (of_decide_eq_false rfl)
  | times _ _ => exact absurd h (of_decide_eq_false rfl)
  | «by» _ _ => exact absurd h (of_decide_eq_false rfl)
  | when _ _ _ _ => exact absurd h (of_decide_eq_false rfl)
theorem is_when {e : Ex} (h : wordOf e = "when") : ∃ j c a b, e = .when j c a b := by
  cases e with
  | when j c a b => exact ⟨j, c, a, b, rfl⟩
  | two w a b => cases w <;> exact absurd h (of_decide_eq_false rfl)
  | fig _ => exact absurd h (of_decide_eq_false rfl)
  | reg _ => exact absurd h (of_decide_eq_false rfl)
  | share _ => exact absurd h (of_decide_eq_false rfl)
  | times _ _ => exact absurd h (of_decide_eq_false rfl)
  | «by» _ _ => exact absurd h (of_decide_eq_false rfl)
  | whr _ _ _ _ => exact absurd h (of_decide_eq_false rfl)
end NG

namespace NG
open PySem PySem.Spec PyProof.Rows L2
/-! ### tuples put together and cut, whatever they hold -/
theorem catA {K : PySem.W.Frag} {H : Hp} {a b : Addr} {xs ys : List V} {Q : VK} (ha : SqT K H a xs) (hb : SqT K H b ys) (hl : xs.length + ys.length ≤ sizeLine) (q : ∀ H' p, Same H H' → SqT K H' p (xs ++ ys) → Q (.ref p) H') : rCatA K (.ref a) (.ref b) H Q := by
  refine ⟨a, b, xs, ys, rfl, rfl, ha, hb, hl, fun h => ?_, fun _ h => ?_, fun _ _ p np => ?_⟩
  · subst h
    exact q H b (Same.refl _) hb
  · subst h
    exact q H a (Same.refl _) (by rw [List.append_nil]; exact ha)
  · exact q _ p (same_new np) (SqT.of upd_same)
theorem cutV_whole {xs : List V} {lo hi : Option Int} (h : HT.sIx xs.length 0 lo = 0 ∧ HT.sIx xs.length xs.length hi = xs.length) : cutV xs lo hi = xs := by
  unfold cutV
  rw [h.1, h.2, List.drop_zero, Nat.sub_zero, List.take_length]
theorem slA {K : PySem.W.Frag} {H : Hp} {a : Addr} {xs : List V} {lo hi : Option Int} {Q : VK} (ha : SqT K H a xs) (q : ∀ H' p, Same H H' → SqT K H' p (cutV xs lo hi) → Q (.ref p) H') : rSlA K (.ref a) lo hi H Q := by
  refine ⟨a, xs, rfl, ha, fun h => ?_, fun _ p np => ?_⟩
  · exact q H a (Same.refl _) (by rw [cutV_whole h]; exact ha)
  · exact q _ p (same_new np) (SqT.of upd_same)
theorem HandAt.same {H H' : Hp} {a : Addr} {n : Nat} (h : HandAt H a n) (s : Same H H') : HandAt H' a n := by
  obtain ⟨g, sd, m, e, z⟩ := h
  exact ⟨g, sd, m, s _ _ e, z⟩

/-! ### deeds -/
inductive D5 where
  | put | add | copy | plus | told
  deriving DecidableEq
def dn : D5 → Str
  | .put => "put"
  | .add => "add"
  | .copy => "copy"
  | .plus => "plus"
  | .told => "told"
inductive Ds where
  | nil
  | op (w : D5) (i : Nat) (x : Int) (r : Ds)
  | when (i : Nat) (c : Int) (a b r : Ds)
def DsAt (K : PySem.W.Frag) (H : Hp) : Ds → List V → Prop
  | .nil, vs => vs = []
  | .op w i x r, vs => ∃ p us, vs = .ref p :: us ∧ SqT K H p [.str (dn w), .int (i : Int), .int x] ∧ DsAt K H r us
  | .when i c a b r, vs => ∃ p pa pb xa xb us, vs = .ref p :: us ∧ SqT K H p [.str "when", .int (i : Int), .int c, .ref pa, .ref pb] ∧ SqT K H pa xa ∧ DsAt K H a xa ∧ SqT K H pb xb ∧ DsAt K H b xb ∧ DsAt K H r us
theorem DsAt.imp {K : PySem.W.Frag} {H H' : Hp} (h : ∀ p xs, SqT K H p xs → SqT K H' p xs) : ∀ {d : Ds} {vs : List V}, DsAt K H d vs → DsAt K H' d vs
  | .nil, _, e => e
  | .op _ _ _ _, _, ⟨p, us, e, q, r⟩ => ⟨p, us, e, h _ _ q, DsAt.imp h r⟩
  | .when _ _ _ _ _, _, ⟨p, pa, pb, xa, xb, us, e, q, qa, a, qb, b, r⟩ => ⟨p, pa, pb, xa, xb, us, e, h _ _ q, h _ _ qa, DsAt.imp h a, h _ _ qb, DsAt.imp h b, DsAt.imp h r⟩
theorem DsAt.same {K : PySem.W.Frag} {H H' : Hp} {d : Ds} {vs : List V} (x : DsAt K H d vs) (s : Same H H') : DsAt K H' d vs := x.imp fun _ _ q => same_sqt s q
def Ds.app : Ds → Ds → Ds
  | .nil, e => e
  | .op w i x r, e => .op w i x (r.app e)
  | .when i c a b r, e => .when i c a b (r.app e)
theorem DsAt.app {K : PySem.W.Frag} {H : Hp} : ∀ {d e : Ds} {vs ws : List V}, DsAt K H d vs → DsAt K H e ws → DsAt K H (d.app e) (vs ++ ws)
  | .nil, _, _, _, e, y => by
    subst e
    exact y
  | .op _ _ _ _, _, _, _, ⟨p, us, e, q, r⟩, y => by
    subst e
    exact ⟨p, _, rfl, q, DsAt.app r y⟩
  | .when _ _ _ _ _, _, _, _, ⟨p, pa, pb, xa, xb, us, e, q, qa, a, qb, b, r⟩, y => by
    subst e
    exact ⟨p, pa, pb, xa, xb, _, rfl, q, qa, a, qb, b, DsAt.app r y⟩
def Ds.cnt : Ds → Nat
  | .nil => 0
  | .op _ _ _ r => 1 + r.cnt
  | .when _ _ a b r => 1 + (a.cnt + b.cnt) + r.cnt
def Ds.len : Ds → Nat
  | .nil => 0
  | .op _ _ _ r => r.len + 1
  | .when _ _ _ _ r => r.len + 1
def Ds.dep : Ds → Nat
  | .nil => 0
  | .op _ _ _ r => max 1 r.dep
  | .when _ _ a b r => max (max a.dep b.dep + 1) r.dep
theorem Ds.len_le : ∀ d : Ds, d.len ≤ d.cnt
  | .nil => Nat.le_refl _
  | .op _ _ _ r => by have := r.len_le; show r.len + 1 ≤ 1 + r.cnt; omega
  | .when _ _ a b r => by have := r.len_le; show r.len + 1 ≤ 1 + (a.cnt + b.cnt) + r.cnt; omega
theorem DsAt.len {K : PySem.W.Frag} {H : Hp} : ∀ {d : Ds} {vs : List V}, DsAt K H d vs → vs.length = d.len
  | .nil, _, e => by subst e; rfl
  | .op _ _ _ _, _, ⟨p, us, e, q, r⟩ => by subst e; rw [List.length_cons, r.len]; rfl
  | .when _ _ _ _ _, _, ⟨p, pa, pb, xa, xb, us, e, q, qa, a, qb, b, r⟩ => by subst e; rw [List.length_cons, r.len]; rfl
theorem Ds.cnt_app : ∀ d e : Ds, (d.app e).cnt = d.cnt + e.cnt
  | .nil, e => by show e.cnt = 0 + e.cnt; omega
  | .op _ _ _ r, e => by show 1 + (r.app e).cnt = 1 + r.cnt + e.cnt; rw [Ds.cnt_app r e]; omega
  | .when _ _ a b r, e => by show 1 + (a.cnt + b.cnt) + (r.app e).cnt = 1 + (a.cnt + b.cnt) + r.cnt + e.cnt; rw [Ds.cnt_app r e]; omega
theorem Ds.dep_app : ∀ d e : Ds, (d.app e).dep = max d.dep e.dep
  | .nil, e => by show e.dep = max 0 e.dep; omega
  | .op _ _ _ r, e => by show max 1 (r.app e).dep = max (max 1 r.dep) e.dep; rw [Ds.dep_app r e]; omega
  | .when _ _ a b r, e => by show max (max a.dep b.dep + 1) (r.app e).dep = max (max (max a.dep b.dep + 1) r.dep) e.dep; rw [Ds.dep_app r e]; omega
def xok (many : Nat) : D5 → Int → Prop
  | .put, x => -1000 ≤ x ∧ x ≤ 1000
  | .add, x => -1000 ≤ x ∧ x ≤ 1000
  | .copy, x => 0 ≤ x ∧ x < 4
  | .plus, x => 0 ≤ x ∧ x < 4
  | .told, x => 0 ≤ x ∧ x < many
theorem xok_small {many : Nat} (hm : many ≤ 1000) : ∀ {w : D5} {x : Int}, xok many w x → -1000 ≤ x ∧ x ≤ 1000
  | .put, _, h => h
  | .add, _, h => h
  | .copy, _, h => by have := h.1; have := h.2; constructor <;> omega
  | .plus, _, h => by have := h.1; have := h.2; constructor <;> omega
  | .told, _, h => by have := h.1; have := h.2; constructor <;> omega
def DsOk (many : Nat) : Ds → Prop
  | .nil => True
  | .op w i x r => i < 4 ∧ xok many w x ∧ DsOk many r
  | .when i c a b r => i < 4 ∧ (-1000 ≤ c ∧ c ≤ 1000) ∧ DsOk many a ∧ DsOk many b ∧ DsOk many r
theorem DsOk.app {many : Nat} : ∀ {d e : Ds}, DsOk many d → DsOk many e → DsOk many (d.app e)
  | .nil, _, _, y => y
  | .op _ _ _ _, _, ⟨h1, h2, h3⟩, y => ⟨h1, h2, DsOk.app h3 y⟩
  | .when _ _ _ _ _, _, ⟨h1, h2, h3, h4, h5⟩, y => ⟨h1, h2, h3, h4, DsOk.app h5 y⟩
def cl (n : Int) : Int := mx (-1000) (mn 1000 n)
theorem cl_in (n : Int) : -1000 ≤ cl n ∧ cl n ≤ 1000 := by
  unfold cl mx mn
  repeat' split
  all_goals omega
def hb (ss : List Int) : D5 → Nat → Int → List Int → Int
  | .put, _, x, _ => x
  | .add, i, x, rs => rs.getD i 0 + x
  | .copy, _, x, rs => rs.getD x.toNat 0
  | .plus, i, x, rs => rs.getD i 0 + rs.getD x.toNat 0
  | .told, _, x, _ => 1000 * ss.getD x.toNat 0 / ss.sum
def ap (ss : List Int) : Ds → List Int → List Int
  | .nil, rs => rs
  | .op w i x r, rs => ap ss r (rs.set i (cl (hb ss w i x rs)))
  | .when i c a b r, rs => ap ss r (if rs.getD i 0 < c then ap ss a rs else ap ss b rs)
def RegOk (rs : List Int) : Prop := rs.length = 4 ∧ ∀ x ∈ rs, -1000 ≤ x ∧ x ≤ 1000
theorem RegOk.set {rs : List Int} (h : RegOk rs) (i : Nat) (n : Int) : RegOk (rs.set i (cl n)) := by
  refine ⟨by rw [List.length_set]; exact h.1, fun x hx => ?_⟩
  rcases List.mem_or_eq_of_mem_set hx with hx | rfl
  · exact h.2 x hx
  · exact cl_in n
theorem RegOk.ap {ss : List Int} : ∀ {d : Ds} {rs : List Int}, RegOk rs → RegOk (ap ss d rs)
  | .nil, _, h => h
  | .op w i x r, rs, h => RegOk.ap (d := r) (h.set i _)
  | .when i c a b r, rs, h => by
    show RegOk (NG.ap ss r (if rs.getD i 0 < c then NG.ap ss a rs else NG.ap ss b rs))
    refine RegOk.ap (d := r) ?_
    split
    · exact RegOk.ap (d := a) h
    · exact RegOk.ap (d := b) h
theorem RegsAt.ok {K : PySem.W.Frag} {H : Hp} {rs : List Int} {v : V} (h : RegsAt K H rs v) : RegOk rs := by
  obtain ⟨p, _, _, l, b⟩ := h
  exact ⟨l, b⟩
theorem RegsAt.same {K : PySem.W.Frag} {H H' : Hp} {rs : List Int} {v : V} (h : RegsAt K H rs v) (s : Same H H') : RegsAt K H' rs v := h.imp fun _ _ q => same_sqt s q
theorem ShAt.same {K : PySem.W.Frag} {H H' : Hp} {many : Nat} {rs : List Int} {v : V} (h : ShAt K H many rs v) (s : Same H H') : ShAt K H' many rs v := h.imp fun _ _ q => same_sqt s q
/-! ### rows of deeds, doubters -/
def BhAt (K : PySem.W.Frag) (H : Hp) : List V → List Ds → Prop
  | [], [] => True
  | v :: vs, d :: ds => (∃ p xs, v = .ref p ∧ SqT K H p xs ∧ DsAt K H d xs) ∧ BhAt K H vs ds
  | _, _ => False
theorem BhAt.imp {K : PySem.W.Frag} {H H' : Hp} (h : ∀ p xs, SqT K H p xs → SqT K H' p xs) : ∀ {vs : List V} {es : List Ds}, BhAt K H vs es → BhAt K H' vs es
  | [], [], _ => trivial
  | _ :: _, _ :: _, ⟨⟨p, xs, e, q, x⟩, r⟩ => ⟨⟨p, xs, e, h _ _ q, x.imp h⟩, BhAt.imp h r⟩
theorem BhAt.same {K : PySem.W.Frag} {H H' : Hp} {vs : List V} {es : List Ds} (r : BhAt K H vs es) (s : Same H H') : BhAt K H' vs es := r.imp fun _ _ q => same_sqt s q
theorem BhAt.len {K : PySem.W.Frag} {H : Hp} : ∀ {vs : List V} {es : List Ds}, BhAt K H vs es → vs.length = es.length
  | [], [], _ => rfl
  | _ :: _, _ :: _, ⟨_, r⟩ => by rw [List.length_cons, List.length_cons, r.len]
theorem BhAt.snoc {K : PySem.W.Frag} {H : Hp} {p : Addr} {xs : List V} {d : Ds} (q : SqT K H p xs) (x : DsAt K H d xs) : ∀ {vs : List V} {es : List Ds}, BhAt K H vs es → BhAt K H (vs ++ [.ref p]) (es ++ [d])
  | [], [], _ => ⟨⟨p, xs, rfl, q, x⟩, trivial⟩
  | _ :: _, _ :: _, ⟨y, r⟩ => ⟨y, BhAt.snoc q x r⟩
theorem BhAt.get {K : PySem.W.Frag} {H : Hp} : ∀ {vs : List V} {es : List Ds} {k : Nat} {d : Ds}, BhAt K H vs es → es[k]? = some d → ∃ p xs, vs[k]? = some (.ref p) ∧ SqT K H p xs ∧ DsAt K H d xs
  | [], [], _, _, _, h => by simp at h
  | v :: vs, e' :: es, 0, e, ⟨⟨p, xs, e1, q, x⟩, r⟩, h => by
    have : e' = e := Option.some.inj h
    subst this
    exact ⟨p, xs, by rw [e1]; rfl, q, x⟩
  | v :: vs, e' :: es, k + 1, e, ⟨x, r⟩, h => BhAt.get (k := k) r h
structure Dbt where
  name : Str
  scale : Nat
  begins : List Int
  stakes : List Ex
  behinds : List Ds
def DbAt (K : PySem.W.Frag) (H : Hp) (D : Dbt) (v : V) : Prop := ∃ (p : Addr) (vb : V) (ps pb : Addr) (us ws : List V), v = .ref p ∧ SqT K H p [.str D.name, .int (D.scale : Int), vb, .ref ps, .ref pb] ∧ RegsAt K H D.begins vb ∧ SqT K H ps us ∧ RowsAt K H us D.stakes ∧ SqT K H pb ws ∧ BhAt K H ws D.behinds
theorem DbAt.imp {K : PySem.W.Frag} {H H' : Hp} {D : Dbt} {v : V} (x : DbAt K H D v) (h : ∀ p xs, SqT K H p xs → SqT K H' p xs) : DbAt K H' D v := by
  obtain ⟨p, vb, ps, pb, us, ws, e, q, r, q1, r1, q2, r2⟩ := x
  exact ⟨p, vb, ps, pb, us, ws, e, h _ _ q, r.imp h, h _ _ q1, r1.imp h, h _ _ q2, r2.imp h⟩
theorem DbAt.same {K : PySem.W.Frag} {H H' : Hp} {D : Dbt} {v : V} (x : DbAt K H D v) (s : Same H H') : DbAt K H' D v := x.imp fun _ _ q => same_sqt s q
/-- names, scale, registers, stakes of a depth, deeds of a depth and a number -/
structure DbOk (many dE dD cD : Nat) (D : Dbt) : Prop where
  nm : D.name = "a" ∨ D.name = "doubter" ∨ D.name = "sceptics" ∨ D.name = "zz"
  sc : D.scale < 5
  rg : RegOk D.begins
  sl : D.stakes.length = many
  st : ∀ e ∈ D.stakes, ExOk many e ∧ e.dep ≤ dE
  bl : D.behinds.length = many
  bh : ∀ d ∈ D.behinds, DsOk many d ∧ d.dep ≤ dD ∧ d.cnt ≤ cD
/-! ### as data -/
def dsD : Ds → List PyData
  | .nil => []
  | .op w i x r => .tuple [.str (dn w), .int (i : Int), .int x] :: dsD r
  | .when i c a b r => .tuple [.str "when", .int (i : Int), .int c, .tuple (dsD a), .tuple (dsD b)] :: dsD r
theorem DsAt.dps {K : PySem.W.Frag} {H : Hp} : ∀ {d : Ds} {vs : List V}, DsAt K H d vs → DpAll K H vs (dsD d)
  | .nil, _, e => by subst e; exact .nil
  | .op _ _ _ _, _, ⟨p, us, e, q, r⟩ => by subst e; exact .cons (.tup q (.cons (.str _) (.cons (.int _) (.cons (.int _) .nil)))) r.dps
  | .when _ _ _ _ _, _, ⟨p, pa, pb, xa, xb, us, e, q, qa, a, qb, b, r⟩ => by subst e; exact .cons (.tup q (.cons (.str _) (.cons (.int _) (.cons (.int _) (.cons (.tup qa a.dps) (.cons (.tup qb b.dps) .nil)))))) r.dps
theorem BhAt.dps {K : PySem.W.Frag} {H : Hp} : ∀ {vs : List V} {es : List Ds}, BhAt K H vs es → DpAll K H vs (es.map fun d => .tuple (dsD d))
  | [], [], _ => .nil
  | _ :: _, _ :: _, ⟨⟨p, xs, e, q, x⟩, r⟩ => by subst e; exact .cons (.tup q x.dps) r.dps
def dbD (D : Dbt) : PyData := .tuple [.str D.name, .int (D.scale : Int), .tuple (D.begins.map PyData.int), .tuple (D.stakes.map toD), .tuple (D.behinds.map fun d => .tuple (dsD d))]
theorem dp_ints {K : PySem.W.Frag} {H : Hp} : ∀ ns : List Int, DpAll K H (ns.map V.int) (ns.map PyData.int)
  | [] => .nil
  | n :: r => .cons (.int n) (dp_ints r)
theorem DbAt.dp {K : PySem.W.Frag} {H : Hp} {D : Dbt} {v : V} (x : DbAt K H D v) : Dp K H v (dbD D) := by
  obtain ⟨p, vb, ps, pb, us, ws, e, q, ⟨pr, e2, r, _⟩, q1, r1, q2, r2⟩ := x
  subst e e2
  exact .tup q (.cons (.str _) (.cons (.int _) (.cons (.tup r (dp_ints _)) (.cons (.tup q1 r1.dps) (.cons (.tup q2 r2.dps) .nil)))))
theorem shw_smalls : ∀ {ns : List Int}, (∀ x ∈ ns, -1000 ≤ x ∧ x ≤ 1000) → ShwAll (ns.map PyData.int) (16 * ns.length) 0
  | [], _ => ShwAll.nil
  | n :: r, h => by
    have h0 := h n (by simp)
    have h1 := Shw.small (i := n) (by omega)
    have h2 := shw_smalls (ns := r) fun x hx => h x (List.mem_cons_of_mem _ hx)
    have h3 := ShwAll.cons h1 h2 (Nat.le_refl 0) (Nat.le_refl 0)
    refine ⟨h3.sh, h3.lf, Nat.le_trans h3.wt ?_, h3.dp⟩
    rw [List.length_cons]
    omega
theorem shw_ds {many : Nat} (hm : many ≤ 1000) : ∀ {d : Ds}, DsOk many d → ShwAll (dsD d) (60 * d.cnt) (2 * d.dep)
  | .nil, _ => ShwAll.nil
  | .op w i x r, ⟨o1, o2, o3⟩ => by
    have hr := shw_ds hm (d := r) o3
    have hx := xok_small hm o2
    have hw : Shw (.str (dn w)) 10 0 := by cases w <;> exact .str (by decide) (by decide)
    have h1 := ShwAll.tup (.cons hw (.cons (.small (i := (i : Int)) (by omega)) (.cons (.small (i := x) (by omega)) .nil (Nat.le_refl 0) (Nat.le_refl 0)) (Nat.le_refl 0) (Nat.le_refl 0)) (Nat.le_refl 0) (Nat.le_refl 0))
    have h2 := ShwAll.cons h1 hr (k := 2 * max 1 r.dep) (by omega) (by omega)
    refine ⟨h2.sh, h2.lf, Nat.le_trans h2.wt ?_, h2.dp⟩
    show 10 + 1 + (15 + 1 + (15 + 1 + 0)) + 1 + 60 * r.cnt ≤ 60 * (1 + r.cnt)
    omega
  | .when i c a b r, ⟨o1, o2, o3, o4, o5⟩ => by
    have ha := (shw_ds hm (d := a) o3).tup
    have hb := (shw_ds hm (d := b) o4).tup
    have hr := shw_ds hm (d := r) o5
    have h1 := ShwAll.tup (.cons (.str (x := "when") (by decide) (by decide)) (.cons (.small (i := (i : Int)) (by omega)) (.cons (.small (i := c) (by omega)) (.cons ha (.cons hb .nil (k := 2 * max a.dep b.dep + 1) (by omega) (Nat.zero_le _)) (by omega) (Nat.le_refl _)) (Nat.zero_le _) (Nat.le_refl _)) (Nat.zero_le _) (Nat.le_refl _)) (Nat.zero_le _) (Nat.le_refl _))
    have h2 := ShwAll.cons h1 hr (k := 2 * max (max a.dep b.dep + 1) r.dep) (by omega) (by omega)
    refine ⟨h2.sh, h2.lf, Nat.le_trans h2.wt ?_, h2.dp⟩
    show 10 + 1 + (15 + 1 + (15 + 1 + (60 * a.cnt + 1 + (60 * b.cnt + 1 + 0)))) + 1 + 60 * r.cnt ≤ 60 * (1 + (a.cnt + b.cnt) + r.cnt)
    omega
theorem shw_list {α : Type} {f : α → PyData} {w k : Nat} : ∀ {xs : List α}, (∀ x ∈ xs, Shw (f x) w k) → ShwAll (xs.map f) ((w + 1) * xs.length) k
  | [], _ => ShwAll.nil
  | n :: r, h => by
    have h1 := h n (by simp)
    have h2 := shw_list (xs := r) fun x hx => h x (List.mem_cons_of_mem _ hx)
    have h3 := ShwAll.cons h1 h2 (Nat.le_refl k) (Nat.le_refl k)
    refine ⟨h3.sh, h3.lf, Nat.le_trans h3.wt ?_, h3.dp⟩
    rw [List.length_cons, Nat.mul_add]
    omega
/-- a doubter's weight -/
theorem shw_db {many dE dD cD : Nat} {D : Dbt} (hm : many ≤ 3) (hE : dE ≤ 8) (hD : dD ≤ 8) (o : DbOk many dE dD cD D) : Shw (dbD D) (120 + 3 * wgt dE + 180 * cD) 20 := by
  have h0 : Shw (.str D.name) 10 0 := by rcases o.nm with e | e | e | e <;> rw [e] <;> exact .str (by decide) (by decide)
  have h1 : Shw (.int (D.scale : Int)) 15 0 := .small (by have := o.sc; omega)
  have h2 := (shw_smalls o.rg.2).tup
  have h3 := (shw_list (f := toD) (w := wgt dE) (k := dE) fun e he => (shw_ex (many := many) (by omega) (o.st e he).1).mono (wgt_mono (o.st e he).2) (o.st e he).2).tup
  have h4 := (shw_list (f := fun d => PyData.tuple (dsD d)) (w := 60 * cD) (k := 2 * dD + 1) fun d hd => ((shw_ds (many := many) (by omega) (o.bh d hd).1).tup).mono (Nat.mul_le_mul_left _ (o.bh d hd).2.2) (by have := (o.bh d hd).2.1; omega)).tup
  have h5 := ShwAll.tup (.cons h0 (.cons h1 (.cons h2 (.cons h3 (.cons h4 (ShwAll.nil (k := 0)) (k := 18) (by omega) (by omega)) (by omega) (Nat.le_refl 18)) (by omega) (Nat.le_refl 18)) (by omega) (Nat.le_refl 18)) (by omega) (Nat.le_refl 18))
  refine h5.mono ?_ (by decide)
  rw [o.sl, o.bl, o.rg.1]
  have a1 : (wgt dE + 1) * many ≤ (wgt dE + 1) * 3 := Nat.mul_le_mul_left _ hm
  have a2 : (60 * cD + 1) * many ≤ (60 * cD + 1) * 3 := Nat.mul_le_mul_left _ hm
  omega
/-! ### promises -/
def spExprJ (K : PySem.W.Frag) (m : Nat) : Sp := fun vs H Q _ => ∃ (a : Addr) (many l n j : Nat), vs = [.ref a, .int (many : Int), .int (l : Int), .int (j : Int)] ∧ j ≤ 1 ∧ l < m ∧ 1 ≤ many ∧ many ≤ 1000 ∧ HandAt H a n ∧ n + cost l ≤ 999999000 ∧
  ∀ H' v e, But a H H' → HandAt H' a (n + cost l) → ExAt K H' e v → ExOk many e → e.dep ≤ l + 1 → Q v H'
/-- a stake: cut to its far -/
def spStake (K : PySem.W.Frag) (m : Nat) : Sp := fun vs H Q _ => ∃ (a : Addr) (many l n j : Nat), vs = [.ref a, .int (many : Int), .int (l : Int), .int (j : Int)] ∧ j ≤ 1 ∧ l < m ∧ 1 ≤ many ∧ many ≤ 1000 ∧ HandAt H a n ∧ n + cost l ≤ 999998000 ∧
  ∀ H' v e, But a H H' → HandAt H' a (n + cost l + 3) → ExAt K H' e v → ExOk many e → e.dep ≤ l + 3 → (∃ c : Int, e = .fig c ∧ -500 ≤ c ∧ c ≤ 500) ∨ (∃ (c : Int) (e' : Ex), e = .two .least (.fig c) (.two .most (.fig (-c)) e') ∧ 1 ≤ c ∧ c ≤ 500 ∧ ExOk many e' ∧ e'.dep ≤ l + 1) → Q v H'
def dB : Nat → Nat
  | 0 => 20
  | n + 1 => 2 * dB n + 30
def dC : Nat → Nat
  | 0 => 3
  | n + 1 => 2 * dC n + 4
theorem dC_ge (n : Nat) : 3 ≤ dC n := by
  cases n with
  | zero => exact Nat.le_refl _
  | succ n => show 3 ≤ 2 * dC n + 4; omega
theorem dB_ge (n : Nat) : 20 ≤ dB n := by
  cases n with
  | zero => exact Nat.le_refl _
  | succ n => show 20 ≤ 2 * dB n + 30; omega
def spDeeds (K : PySem.W.Frag) (m : Nat) : Sp := fun vs H Q _ => ∃ (a : Addr) (many l n : Nat), vs = [.ref a, .int (many : Int), .int (l : Int)] ∧ l < m ∧ l ≤ 3 ∧ 1 ≤ many ∧ many ≤ 1000 ∧ HandAt H a n ∧ n + dB l ≤ 999998000 ∧
  ∀ H' p xs d, But a H H' → HandAt H' a (n + dB l) → SqT K H' p xs → DsAt K H' d xs → DsOk many d → d.dep ≤ l + 1 → d.cnt ≤ dC l → Q (.ref p) H'
def StOk (many l : Nat) (e : Ex) : Prop := (∃ c : Int, e = .fig c ∧ -500 ≤ c ∧ c ≤ 500) ∨ (∃ (c : Int) (e' : Ex), e = .two .least (.fig c) (.two .most (.fig (-c)) e') ∧ 1 ≤ c ∧ c ≤ 500 ∧ ExOk many e' ∧ e'.dep ≤ l + 1)
def spDoubter (K : PySem.W.Frag) (m : Nat) : Sp := fun vs H Q _ => ∃ (a : Addr) (many l n j : Nat), vs = [.ref a, .int (many : Int), .int (l : Int), .int (j : Int)] ∧ j ≤ 1 ∧ l < m ∧ l ≤ 5 ∧ 1 ≤ many ∧ many ≤ 3 ∧ HandAt H a n ∧ n ≤ 999990000 ∧
  ∀ H' v D, But a H H' → HandAt H' a (n + 3 * cost l + 300) → DbAt K H' D v → DbOk many (l + 3) 2 10 D → (∀ e ∈ D.stakes, StOk many l e) → Q v H'
end NG

namespace NG
open PySem PySem.Spec PyProof.Rows L2
/-! ### zip of a list with a tuple -/
def ItLT (K : PySem.W.Frag) (a b : Addr) : It :=
  ⟨fun i H => ∃ (us ws : List V) (u v : V), SqL K H a us ∧ SqT K H b ws ∧ us[i]? = some u ∧ ws[i]? = some v,
   fun i H r H' => ∃ (T : Addr) (u v : V), r = .ref T ∧ H T = none ∧ H' = upd H T (.tup [u, v]) ∧ (∀ us, SqL K H a us → us[i]? = some u) ∧ ∀ ws, SqT K H b ws → ws[i]? = some v,
   fun i H => ∃ us ws : List V, SqL K H a us ∧ SqT K H b ws ∧ us.length = i ∧ ws.length = i⟩
theorem turn_LT {P : Program} {w : World} {K : PySem.W.Frag} {es : List Expr} {k : Nat} {ps : Pos} {a b z TI TO i1 i2 : Addr} (S : ZipSep2 z TI TO i1 i2 [i1, a] [i2, b]) (na : a ≠ i1) (nb : b ≠ i2) :
    Turn P w K (.Tuple es k ps) (ItLT K a b) [z, TI, TO, i1, i2] z (fun i h => IsZip h z TI TO .none ∧ IsTupOf2 h TI (.ref i1) (.ref i2) ∧ (∃ c d, IsTupOf2 h TO c d) ∧ h.IsListIter i1 a i ∧ h.IsTupleIter i2 b i) := by
  have five : ∀ {c : Addr}, c ∈ [z, TI, TO, i1, i2] → c = z ∨ c = TI ∨ c = TO ∨ c = i1 ∨ c = i2 := fun h => by simpa using h
  have lives : ∀ (i : Nat) (h : Heap), (IsZip h z TI TO .none ∧ IsTupOf2 h TI (.ref i1) (.ref i2) ∧ (∃ c d, IsTupOf2 h TO c d) ∧ h.IsListIter i1 a i ∧ h.IsTupleIter i2 b i) → ∀ c ∈ [z, TI, TO, i1, i2], ∃ o, h.get? c = some o ∧ ∀ v, o.data ≠ .cell v := fun i h st c hc => by
    obtain ⟨s1, s2, ⟨x, y, s3⟩, ⟨o4, s4, _, d4⟩, ⟨o5, s5, _, d5⟩⟩ := st
    rcases five hc with rfl | rfl | rfl | rfl | rfl
    · exact ⟨_, s1, fun v q => nomatch q⟩
    · exact ⟨_, s2, fun v q => nomatch q⟩
    · exact ⟨_, s3, fun v q => nomatch q⟩
    · exact ⟨o4, s4, fun v q => by rw [d4] at q; exact nomatch q⟩
    · exact ⟨o5, s5, fun v q => by rw [d5] at q; exact nomatch q⟩
  refine ⟨List.mem_cons_self, lives, fun i h h' st kp => ?_, fun X eP ew eK hc i pins s σ H E I hf st hg => ?_, fun X eP ew eK hc i pins s σ H E I hf st hg => ?_, fun A i s Q E st q => wpAny_pyIter_zip st.1 q⟩
  · obtain ⟨s1, s2, ⟨x, y, s3⟩, s4, s5⟩ := st
    exact ⟨kp _ (by simp) _ s1, kp _ (by simp) _ s2, ⟨x, y, kp _ (by simp) _ s3⟩, s4.at fun o q => kp _ (by simp) o q, s5.at fun o q => kp _ (by simp) o q⟩
  · cases eP
    cases ew
    cases eK
    have lv := lives i _ st
    obtain ⟨s1, s2, s3, s4, s5⟩ := st
    obtain ⟨us, ws, u, v, qa, qb, hu, hv⟩ := hg
    obtain ⟨la, ra, pa, _⟩ := I.list qa
    obtain ⟨lb, rb, pb, _⟩ := I.tuple qb
    obtain ⟨u', eu, ru⟩ := ra.get hu
    obtain ⟨v', ev', rv⟩ := rb.get hv
    have W := WalksT.zipD2 (A := X.A) S (Draws.list (prog := X.prog) (w := X.w) (A := X.A.in1) (I.ok.hd hc) i1 a na la.toArray) (Draws.tuple (A := X.A.in1) (I.ok.hd hc) i2 b nb lb.toArray)
    have il : i < la.length := (List.getElem?_eq_some_iff.mp eu).1
    have ir : i < lb.length := (List.getElem?_eq_some_iff.mp ev').1
    refine W.item i s _ E (by rw [List.size_toArray, List.size_toArray]; omega) ⟨s1, s2, s3, ⟨s4, pa.isList⟩, ⟨s5, pb⟩⟩ fun T vals h1 tk pv hT tT mid k1 => ⟨_, rfl, ?_⟩
    have apT := W.apart i T h1 mid
    refine W.go es k ps i T _ _ _ mid fun h2 st2 k2 => ?_
    obtain ⟨x1, x2, e1, e2, rfl⟩ := pv
    have f1 : x1 = u' := by
      have := e1.symm.trans (show la.toArray[i]? = some u' by simpa using eu)
      exact Option.some.inj this
    have f2 : x2 = v' := by
      have := e2.symm.trans (show lb.toArray[i]? = some v' by simpa using ev')
      exact Option.some.inj this
    subst f1 f2
    obtain ⟨z1, z2, z3, ⟨z4, _⟩, ⟨z5, _⟩⟩ := st2
    have tT2 : h2.IsTuple T #[x1, x2] := tT.at fun o e => k2 T o apT e
    have in5 : ∀ c, c ∉ [z, TI, TO, i1, i2] → c ∉ [z, TO, i1, i2] := fun c h m => h (by
      rcases (by simpa using m : c = z ∨ c = TO ∨ c = i1 ∨ c = i2) with rfl | rfl | rfl | rfl <;> simp)
    have J := I.turnedNew (h' := h2) (t' := tk) (ch := [z, TI, TO, i1, i2]) (T := T) (ob := .tup [u, v]) (fun c o hb' q => k2 c o (in5 c hb') (k1 c o (in5 c hb') q)) hf hT ⟨(by show 2 ≤ sizeLine; decide), [x1, x2], .cons ru (.cons rv .nil), tT2⟩
    refine ⟨.ref T, _, J, rfl, ⟨T, u, v, rfl, I.hok.fresh hT, rfl, fun l hl => ?_, fun l hl => ?_⟩, ⟨z1, z2, z3, z4, z5⟩, fun c hcm => ?_⟩
    · rw [I.list_inj hl qa]
      exact hu
    · rw [I.tuple_inj hl qb]
      exact hv
    · obtain ⟨o, ho, _⟩ := lv c hcm
      have lt := Heap.lt_size ho
      rw [upd_ne (Nat.ne_of_lt (Nat.lt_of_lt_of_le lt hT))]
      exact (hf c hcm).1
  · cases eP
    cases ew
    cases eK
    obtain ⟨s1, s2, s3, s4, s5⟩ := st
    obtain ⟨us, ws, qa, qb, e1, e2⟩ := hg
    obtain ⟨la, ra, pa, _⟩ := I.list qa
    obtain ⟨lb, rb, pb, _⟩ := I.tuple qb
    have W := WalksT.zipD2 (A := X.A) S (Draws.list (prog := X.prog) (w := X.w) (A := X.A.in1) (I.ok.hd hc) i1 a na la.toArray) (Draws.tuple (A := X.A.in1) (I.ok.hd hc) i2 b nb lb.toArray)
    have l1 := ra.length
    have l2 := rb.length
    have en : min la.toArray.size lb.toArray.size = i := by
      rw [List.size_toArray, List.size_toArray]
      omega
    rw [en] at W
    refine W.done s _ E ⟨s1, s2, s3, ⟨s4, pa.isList⟩, ⟨s5, pb⟩⟩ fun h1 tk k1 => ⟨rfl, ?_⟩
    exact I.turnedL (t' := tk) (ch := [z, TI, TO, i1, i2]) (fun c o hb' q => k1 c o (fun m => hb' (by rcases (by simpa using m : c = z ∨ c = TO ∨ c = i1 ∨ c = i2) with rfl | rfl | rfl | rfl <;> simp)) q) hf
def iZipLT (K : PySem.W.Frag) (ta : TA) : TI := fun σ H R => ta σ H fun vs H1 => ∃ a b us ws, vs = [.ref a, .ref b] ∧ SqL K H1 a us ∧ SqT K H1 b ws ∧ R (ItLT K a b) H1
theorem pi_zipLT {X : Cx} {e e2 : Expr} {ta : TA} {p pos tpos : Pos} {elts : List Expr} {kk : Nat} (hg : Gl X "zip") (hm : X.mg "zip" = none) (ha : PA X [e, e2] ta)
    (hs : starEach [e, e2] X.env = (false, eval e X.env) :: starEach [e2] X.env := by rfl) (hpl : (backTo pos (starEach [e2] X.env)).any (·.1) = false := by rfl) : PI X (.Tuple elts kk tpos) (.Call (.Name "zip" p) [e, e2] [] pos) (iZipLT X.K ta) := by
  refine ⟨fun pins s σ H R I h => Call_ (ld_blt I hg hm PyProof.Rows.boot_zip (PyProof.Rows.callWith_type1 (thn (ha.run pos pins s σ H _ I h) fun us s1 ⟨vs, H1, I1, r1, q1⟩ => ?_) hs hpl))⟩
  obtain ⟨a, b, ul, wl, rfl, qa, qb, q⟩ := q1
  obtain ⟨v1, v2, rfl, t1, t2⟩ := vals2 r1
  cases t1
  cases t2
  obtain ⟨la, ra, pa, _⟩ := I1.list qa
  obtain ⟨lb, rb, pb, _⟩ := I1.tuple qb
  obtain ⟨ob, hob, _⟩ := id pb
  have lt1 : a < s1.heap.objs.size := pa.lt
  have lt2 : b < s1.heap.objs.size := Heap.lt_size hob
  refine zip_begins2 (begins_list a la.toArray) (begins_tuple b lb.toArray) pa.isList pb fun h' hz hTI hTO g1 g2 hsz hk => wpAny_pyIter_zip hz ?_
  have J : Inv X pins σ H1 { s1 with heap := h' } := I1.kept (t' := s1.toks) hk
  have S := zip_sep2 (N := s1.heap.objs.size) (fp1 := [a]) (fp2 := [b]) (fun c hc => by rw [List.mem_singleton.mp hc]; exact lt1) (fun c hc => by rw [List.mem_singleton.mp hc]; exact lt2)
  refine ⟨_, _, _, _, H1, rfl, J, turn_LT S (Nat.ne_of_lt lt1) (Nat.ne_of_lt (Nat.lt_succ_of_lt lt2)), ⟨hz, hTI, ⟨_, _, hTO⟩, ⟨_, g1, rfl, rfl⟩, ⟨_, g2, rfl, rfl⟩⟩, fun c hcm => ?_, q⟩
  have le : s1.heap.objs.size ≤ c := by
    rcases (by simpa using hcm : c = s1.heap.objs.size + 4 ∨ c = s1.heap.objs.size + 2 ∨ c = s1.heap.objs.size + 3 ∨ c = s1.heap.objs.size ∨ c = s1.heap.objs.size + 1) with e | e | e | e | e <;> (rw [e]; first | exact Nat.le_refl _ | exact Nat.le_add_right _ _)
  exact I1.fpOk le (I1.hok.fresh le)
theorem walk_LT {K : PySem.W.Frag} {a b : Addr} {us ws : List V} {n : Nat} (hx : us.length = n) (hy : ws.length = n) : Walk (ItLT K a b) n (fun H => SqL K H a us ∧ SqT K H b ws) (YPair (fun i => us[i]?) (fun i => ws[i]?)) := by
  refine ⟨fun i H hi q => ⟨us, ws, us[i]'(by omega), ws[i]'(by omega), q.1, q.2, List.getElem?_eq_getElem _, List.getElem?_eq_getElem _⟩, fun H q => ⟨us, ws, q.1, q.2, hx, hy⟩, fun i H v H' hi q y => ?_⟩
  obtain ⟨T, x, z, h1, h2, h3, h4, h5⟩ := y
  exact ⟨T, x, z, h1, h2, h3, h4 us q.1, h5 ws q.2⟩
end NG

namespace NG
open PySem PySem.Spec PyProof.Rows L2
/-! ### enumerate of a tuple -/
set_option maxHeartbeats 1000000 in
theorem enum_new1 {v : Value} {ob : Obj} {Hv : Heap → Prop} (B : Begins v ob Hv) :
    Meets (Builtin.«enumerate.__new__» ⟨[.type "enumerate", v], []⟩) (fun _ R st => Hv st.heap ∧ R (.ok (.ret (.ref (st.heap.push ob).objs.size))) { st with heap := (st.heap.push ob).push { cls := .type "enumerate", data := .fields #[.none, .bool false, .ref st.heap.objs.size, rawInt 0, .none, .none] } }) := by
  refine .of_wp fun pr wl A R st h => ?_
  obtain ⟨hp, g, d, tk, os⟩ := st
  obtain ⟨hv, hR⟩ := h
  have se := sub_enumerate
  have qi : ∀ {A' : Around} {E : Value → Shared → Prop} {Q : Value → Shared → Prop}, Q (.ref hp.objs.size) ⟨hp.push ob, g, d, tk, os⟩ → wpAny (model pr wl) A' (pyIter v) Q E ⟨hp, g, d, tk, os⟩ := fun q => B.iter pr wl _ _ ⟨hp, g, d, tk, os⟩ _ hv q
  wp_walk using qi
  refine wpAny_stack_any fun sk => wpAny_pure ?_
  split
  · rename_i c _ _ _ _ _
    cases (c == Value.type "enumerate")
    all_goals
      wp_walk using qi
      exact ⟨_, rfl, hR⟩
  · wp_walk using qi
    exact ⟨_, rfl, hR⟩
theorem enum_call1 {pr : Program} {wl : World} {A : Around} {E : Value → Shared → Prop} {st : Shared} {v : Value} {ob : Obj} {Hv : Heap → Prop} {Q : Value → Shared → Prop} (B : Begins v ob Hv) (hv : Hv st.heap)
    (hQ : ∀ h', IsEnum h' (st.heap.objs.size + 1) st.heap.objs.size 0 .none → h'.get? st.heap.objs.size = some ob → (∀ b o, st.heap.get? b = some o → h'.get? b = some o) → Q (.ref (st.heap.objs.size + 1)) { st with heap := h' }) : wpAny (model pr wl) A (call (.type "enumerate") [v]) Q E st := by
  refine callType_new F.called_enumerate (by decide) (F.typeCall_enumerate_1 _) (F.newCall_enumerate_1 _) (fun x => F.args_object_init_2 x _) F.entry_enumerate_new (enum_new1 B) ⟨hv, ?_⟩
  have sz : (st.heap.push ob).objs.size = st.heap.objs.size + 1 := Heap.size_push ..
  show _ ∧ _
  rw [sz]
  have ie : IsEnum ((st.heap.push ob).push { cls := .type "enumerate", data := .fields #[.none, .bool false, .ref st.heap.objs.size, rawInt 0, .none, .none] }) (st.heap.objs.size + 1) st.heap.objs.size 0 .none := by
    have t := Heap.get?_push_size (st.heap.push ob) (o := { cls := .type "enumerate", data := .fields #[.none, .bool false, .ref st.heap.objs.size, rawInt 0, .none, .none] }) rfl
    rw [sz] at t
    exact t
  exact ⟨⟨_, ie, rfl⟩, hQ _ ie (Heap.get?_push_of_some _ (Heap.get?_push_size _ B.free)) fun b o x => Heap.get?_push_of_some _ (Heap.get?_push_of_some _ x)⟩
def ItEn (K : PySem.W.Frag) (a : Addr) : It :=
  ⟨fun i H => ∃ (ws : List V) (v : V), SqT K H a ws ∧ ws[i]? = some v,
   fun i H r H' => ∃ (T : Addr) (v : V), r = .ref T ∧ H T = none ∧ H' = upd H T (.tup [.int (i : Nat), v]) ∧ ∀ ws, SqT K H a ws → ws[i]? = some v,
   fun i H => ∃ ws : List V, SqT K H a ws ∧ ws.length = i⟩
theorem turn_En {P : Program} {w : World} {K : PySem.W.Frag} {es : List Expr} {k : Nat} {ps : Pos} {a e it : Addr} (ne : e ≠ it) (nea : e ≠ a) (na : a ≠ it) :
    Turn P w K (.Tuple es k ps) (ItEn K a) [e, it] e (fun i h => (∃ old, IsEnum h e it ((i : Nat) : Int) old) ∧ h.IsTupleIter it a i) := by
  have two : ∀ {c : Addr}, c ∈ [e, it] → c = e ∨ c = it := fun h => by simpa using h
  have lives : ∀ (i : Nat) (h : Heap), ((∃ old, IsEnum h e it ((i : Nat) : Int) old) ∧ h.IsTupleIter it a i) → ∀ c ∈ [e, it], ∃ o, h.get? c = some o ∧ ∀ v, o.data ≠ .cell v := fun i h st c hc => by
    obtain ⟨⟨old, s1⟩, ⟨o5, s5, _, d5⟩⟩ := st
    rcases two hc with rfl | rfl
    · exact ⟨_, s1, fun v q => nomatch q⟩
    · exact ⟨o5, s5, fun v q => by rw [d5] at q; exact nomatch q⟩
  have hef : e ∉ [it, a] := fun m => by
    rcases (by simpa using m : e = it ∨ e = a) with q | q
    · exact ne q
    · exact nea q
  refine ⟨List.mem_cons_self, lives, fun i h h' st kp => ?_, fun X eP ew eK hc i pins s σ H E I hf st hg => ?_, fun X eP ew eK hc i pins s σ H E I hf st hg => ?_, fun A i s Q E st q => let ⟨⟨_, z⟩, _⟩ := st; wpAny_pyIter_enum z q⟩
  · obtain ⟨⟨old, s1⟩, s5⟩ := st
    exact ⟨⟨old, kp _ (by simp) _ s1⟩, s5.at fun o q => kp _ (by simp) o q⟩
  · cases eP
    cases ew
    cases eK
    have lv := lives i _ st
    obtain ⟨s1, s5⟩ := st
    obtain ⟨ws, v, qb, hv⟩ := hg
    obtain ⟨lb, rb, pb, _⟩ := I.tuple qb
    obtain ⟨v', ev', rv⟩ := rb.get hv
    have W := WalksT.enumerateD (A := X.A) (Draws.tuple (prog := X.prog) (w := X.w) (A := X.A.in1) (I.ok.hd hc) it a na lb.toArray) e ne hef List.mem_cons_self
    have ir : i < lb.length := (List.getElem?_eq_some_iff.mp ev').1
    refine W.item i s _ E (by rw [List.size_toArray]; omega) ⟨s1, s5, pb⟩ fun T vals h1 tk pv hT tT mid k1 => ⟨_, rfl, ?_⟩
    have apT := W.apart i T h1 mid
    refine W.go es k ps i T _ _ _ mid fun h2 st2 k2 => ?_
    obtain ⟨t2, x2, e2, rfl⟩ := pv
    have f2 : x2 = v' := by
      have := e2.symm.trans (show lb.toArray[i]? = some v' by simpa using ev')
      exact Option.some.inj this
    subst f2
    obtain ⟨z1, z5, _⟩ := st2
    have tT2 : h2.IsTuple T #[.int i t2, x2] := tT.at fun o e => k2 T o apT e
    have J := I.turnedNew (h' := h2) (t' := tk) (ch := [e, it]) (T := T) (ob := .tup [.int (i : Nat), v]) (fun c o hb' q => k2 c o hb' (k1 c o hb' q)) hf hT ⟨(by show 2 ≤ sizeLine; decide), [.int i t2, x2], .cons ⟨_, rfl⟩ (.cons rv .nil), tT2⟩
    refine ⟨.ref T, _, J, rfl, ⟨T, v, rfl, I.hok.fresh hT, rfl, fun l hl => ?_⟩, ⟨z1, z5⟩, fun c hcm => ?_⟩
    · rw [I.tuple_inj hl qb]
      exact hv
    · obtain ⟨o, ho, _⟩ := lv c hcm
      have lt := Heap.lt_size ho
      rw [upd_ne (Nat.ne_of_lt (Nat.lt_of_lt_of_le lt hT))]
      exact (hf c hcm).1
  · cases eP
    cases ew
    cases eK
    obtain ⟨s1, s5⟩ := st
    obtain ⟨ws, qb, e2⟩ := hg
    obtain ⟨lb, rb, pb, _⟩ := I.tuple qb
    have W := WalksT.enumerateD (A := X.A) (Draws.tuple (prog := X.prog) (w := X.w) (A := X.A.in1) (I.ok.hd hc) it a na lb.toArray) e ne hef List.mem_cons_self
    have l2 := rb.length
    have en : lb.toArray.size = i := by
      rw [List.size_toArray]
      omega
    rw [en] at W
    refine W.done s _ E ⟨s1, s5, pb⟩ fun h1 tk k1 => ⟨rfl, ?_⟩
    exact I.turnedL (t' := tk) (ch := [e, it]) (fun c o hb' q => k1 c o hb' q) hf
def iEnT (K : PySem.W.Frag) (ta : TA) : TI := fun σ H R => ta σ H fun vs H1 => ∃ a ws, vs = [.ref a] ∧ SqT K H1 a ws ∧ R (ItEn K a) H1
theorem pi_enumT {X : Cx} {x : Expr} {ta : TA} {p pos tpos : Pos} {elts : List Expr} {kk : Nat} (hg : Gl X "enumerate") (hm : X.mg "enumerate" = none) (ha : PA X [x] ta)
    (hs : starEach [x] X.env = [(false, eval x X.env)] := by rfl) : PI X (.Tuple elts kk tpos) (.Call (.Name "enumerate" p) [x] [] pos) (iEnT X.K ta) := by
  refine ⟨fun pins s σ H R I h => Call_ (ld_blt I hg hm boot_enumerate (PyProof.Rows.callWith_type1 (thn (ha.run pos pins s σ H _ I h) fun us s1 ⟨vs, H1, I1, r1, q1⟩ => ?_) hs rfl))⟩
  obtain ⟨a, wl, rfl, qb, q⟩ := q1
  rw [Vals.ref1 r1]
  obtain ⟨lb, rb, pb, _⟩ := I1.tuple qb
  obtain ⟨ob, hob, _⟩ := id pb
  have lt2 : a < s1.heap.objs.size := Heap.lt_size hob
  refine enum_call1 (begins_tuple a lb.toArray) pb fun h' he g2 hk => wpAny_pyIter_enum he ?_
  have J : Inv X pins σ H1 { s1 with heap := h' } := I1.kept (t' := s1.toks) hk
  refine ⟨_, _, _, _, H1, rfl, J, turn_En (a := a) (e := s1.heap.objs.size + 1) (it := s1.heap.objs.size) (Nat.succ_ne_self _) (Nat.ne_of_gt (Nat.lt_succ_of_lt lt2)) (Nat.ne_of_lt lt2), ⟨⟨.none, he⟩, ⟨_, g2, rfl, rfl⟩⟩, fun c hcm => ?_, q⟩
  have le : s1.heap.objs.size ≤ c := by
    rcases (by simpa using hcm : c = s1.heap.objs.size + 1 ∨ c = s1.heap.objs.size) with e | e <;> (rw [e]; first | exact Nat.le_refl _ | exact Nat.le_add_right _ _)
  exact I1.fpOk le (I1.hok.fresh le)
theorem walk_En {K : PySem.W.Frag} {a : Addr} {ws : List V} {n : Nat} (hy : ws.length = n) : Walk (ItEn K a) n (fun H => SqT K H a ws) (YPair (fun i => some (.int (i : Nat))) (fun i => ws[i]?)) := by
  refine ⟨fun i H hi q => ⟨ws, ws[i]'(by omega), q, List.getElem?_eq_getElem _⟩, fun H q => ⟨ws, q, hy⟩, fun i H v H' hi q y => ?_⟩
  obtain ⟨T, z, h1, h2, h3, h4⟩ := y
  exact ⟨T, .int (i : Nat), z, h1, h2, h3, rfl, h4 ws q⟩
end NG

namespace NG
open PySem PySem.Spec PyProof.Rows L2
/-! ### the same with a truth for jumps -/
def spExprB (K : PySem.W.Frag) (m : Nat) : Sp := fun vs H Q _ => ∃ (a : Addr) (many l n : Nat) (j : Bool), vs = [.ref a, .int (many : Int), .int (l : Int), .bl j] ∧ True ∧ l < m ∧ 1 ≤ many ∧ many ≤ 1000 ∧ HandAt H a n ∧ n + cost l ≤ 999999000 ∧
  ∀ H' v e, But a H H' → HandAt H' a (n + cost l) → ExAt K H' e v → ExOk many e → e.dep ≤ l + 1 → Q v H'
/-- a stake: cut to its far -/
def spStakeB (K : PySem.W.Frag) (m : Nat) : Sp := fun vs H Q _ => ∃ (a : Addr) (many l n : Nat) (j : Bool), vs = [.ref a, .int (many : Int), .int (l : Int), .bl j] ∧ True ∧ l < m ∧ 1 ≤ many ∧ many ≤ 1000 ∧ HandAt H a n ∧ n + cost l ≤ 999998000 ∧
  ∀ H' v e, But a H H' → HandAt H' a (n + cost l + 3) → ExAt K H' e v → ExOk many e → e.dep ≤ l + 3 → (∃ c : Int, e = .fig c ∧ -500 ≤ c ∧ c ≤ 500) ∨ (∃ (c : Int) (e' : Ex), e = .two .least (.fig c) (.two .most (.fig (-c)) e') ∧ 1 ≤ c ∧ c ≤ 500 ∧ ExOk many e' ∧ e'.dep ≤ l + 1) → Q v H'
def spDoubterB (K : PySem.W.Frag) (m : Nat) : Sp := fun vs H Q _ => ∃ (a : Addr) (many l n : Nat) (j : Bool), vs = [.ref a, .int (many : Int), .int (l : Int), .bl j] ∧ True ∧ l < m ∧ l ≤ 5 ∧ 1 ≤ many ∧ many ≤ 3 ∧ HandAt H a n ∧ n ≤ 999990000 ∧
  ∀ H' v D, But a H H' → HandAt H' a (n + 3 * cost l + 300) → DbAt K H' D v → DbOk many (l + 3) 2 10 D → (∀ e ∈ D.stakes, StOk many l e) → Q v H'
end NG

namespace NG
open PySem PySem.Spec PyProof.Rows L2
/-! ### a tuple so many times, any number of times -/
theorem mul_itself (l : Addr) (its : Array Value) (n : Nat) (dd : Option Addr) (sl : Array (Option Value)) (x : Int) (u : Tok) (c0 : (decide (x < -(2 ^ 63)) || decide (x ≥ 2 ^ 63)) = false) (c1 : (its.isEmpty || x == 1) = true) :
    Meets (Builtin.«tuple.__mul__» ⟨[.ref l, .int x u], []⟩) (fun _ R st => st.heap.get? l = some { cls := .type "tuple", dict := dd, data := .seq its n, slots := sl } ∧ R (.ok (.ret (Value.ref l))) st) := by
  refine .of_wp fun pr wl A R st h => ?_
  obtain ⟨hp, g, d, tk, os⟩ := st
  obtain ⟨hl, hR⟩ := h
  have f1 := AutoSeq1.idx_int
  wp_walk using wpAny_loadPart' hl
  repeat (first
    | (refine wpAny_ite_false (decide_eq_false (by rw [c0]; exact Bool.false_ne_true)) ?_; wp_walk using wpAny_loadPart' hl)
    | (refine wpAny_ite_true (decide_eq_true c1) ?_; wp_walk using wpAny_loadPart' hl))
  exact ⟨_, rfl, hR⟩
theorem mul_none (l : Addr) (its : Array Value) (n : Nat) (dd : Option Addr) (sl : Array (Option Value)) (x : Int) (u : Tok) (c0 : (decide (x < -(2 ^ 63)) || decide (x ≥ 2 ^ 63)) = false) (c1 : (its.isEmpty || x == 1) = false) (c2 : (decide (x ≤ 0) || its.isEmpty) = true) :
    Meets (Builtin.«tuple.__mul__» ⟨[.ref l, .int x u], []⟩) (fun _ R st => st.heap.get? l = some { cls := .type "tuple", dict := dd, data := .seq its n, slots := sl } ∧ R (.ok (.ret (Value.ref st.heap.objs.size))) { st with heap := st.heap.push { cls := Value.type "tuple", data := Data.seq #[] } }) := by
  refine .of_wp fun pr wl A R st h => ?_
  obtain ⟨hp, g, d, tk, os⟩ := st
  obtain ⟨hl, hR⟩ := h
  have f1 := AutoSeq1.idx_int
  wp_walk using wpAny_loadPart' hl
  repeat (first
    | (refine wpAny_ite_false (decide_eq_false (by rw [c0]; exact Bool.false_ne_true)) ?_; wp_walk using wpAny_loadPart' hl)
    | (refine wpAny_ite_false (decide_eq_false (by rw [c1]; exact Bool.false_ne_true)) ?_; wp_walk using wpAny_loadPart' hl)
    | (refine wpAny_ite_true (decide_eq_true c2) ?_; wp_walk using wpAny_loadPart' hl))
  exact ⟨_, rfl, hR⟩
def rRepA (K : PySem.W.Frag) : R2 := fun x y H Q => ∃ l k xs, x = .ref l ∧ y = .int k ∧ SqT K H l xs ∧ -1000 ≤ k ∧ k ≤ 1000 ∧ xs.length ≤ 1000 ∧ ∀ H' p, Same H H' → SqT K H' p (List.replicate k.toNat xs).flatten → Q (.ref p) H'
theorem op_repA {X : Cx} : OpR X (binaryOp .Mult) (rRepA X.K) := by
  intro pins s σ H x y v u Q I rx ry h
  obtain ⟨l, k, xs, rfl, rfl, hT, h0, h2, hz, q⟩ := h
  by_cases hbig : xs ≠ [] ∧ 2 ≤ k
  · exact op_repT pins s σ H _ _ v u Q I rx ry ⟨l, k, xs, rfl, rfl, hT, hbig.1, hbig.2, h2, hz, fun p np => q _ p (same_new np) (SqT.of upd_same)⟩
  · have rx0 := rx
    cases rx
    obtain ⟨t, rfl⟩ := ry
    obtain ⟨its, r, ⟨⟨cls, dd, data, sl⟩, ho, hc, n, hd⟩, hs⟩ := I.tuple hT
    simp only at hc hd
    subst hc hd
    have hle : its.length = xs.length := r.length.symm
    have c0 : (decide (k < -(2 ^ 63)) || decide (k ≥ 2 ^ 63)) = false := by
      rw [decide_eq_false (by omega), decide_eq_false (by omega)]
      rfl
    by_cases hone : xs = [] ∨ k = 1
    · have c1 : (its.toArray.isEmpty || k == 1) = true := by
        rcases hone with e | e
        · rw [e] at hle
          have : its = [] := List.eq_nil_of_length_eq_zero hle
          rw [this]
          rfl
        · rw [e]
          simp
      have e1 : (List.replicate k.toNat xs).flatten = xs := by
        rcases hone with e | e
        · rw [e]
          simp
        · rw [e]
          simp
      refine wpAny_binaryOp_repeat_ref (T := "tuple") (U := "int") (by decide) ⟨_, ho, rfl⟩ (fun s' => typeIs_int s' k t) noFill_tuple_mul F.fills_int_mul F.slot_int_rmul repeat_tuple F.slot_int_index.lookup
        (call_meets F.slot_int_rmul (typeIs_int s k t) F.entry_int_rmul (F.args_int_rmul_2 _ _) (int_rmul_tuple k t l its.toArray n dd sl) ⟨ho, rfl, ⟨_, ho, rfl⟩, call_meets F.slot_tuple_mul ⟨_, ho, rfl⟩ F.entry_tuple_mul (F.args_tuple_mul_2 _ _) (mul_itself l its.toArray n dd sl k t c0 c1) ⟨ho, ?_⟩⟩)
      exact ⟨.ref l, H, I, rfl, q H l (Same.refl _) (by rw [e1]; exact hT)⟩
    · have hk0 : k ≤ 0 := by
        have h1 : ¬ xs = [] := fun z => hone (.inl z)
        have h2 : ¬ k = 1 := fun z => hone (.inr z)
        have h3 : ¬ 2 ≤ k := fun z => hbig ⟨h1, z⟩
        omega
      have hn : its ≠ [] := fun e => hone (.inl (by
        rw [e] at hle
        exact List.eq_nil_of_length_eq_zero hle.symm))
      have hi : its.toArray.isEmpty = false := by
        cases its with
        | nil => exact absurd rfl hn
        | cons a b => rfl
      have c1 : (its.toArray.isEmpty || k == 1) = false := by
        rw [hi, Bool.false_or]
        exact beq_eq_false_iff_ne.mpr (by omega)
      have c2 : (decide (k ≤ 0) || its.toArray.isEmpty) = true := by
        rw [decide_eq_true hk0]
        rfl
      have e0 : (List.replicate k.toNat xs).flatten = [] := by
        rw [show k.toNat = 0 by omega]
        rfl
      refine wpAny_binaryOp_repeat_ref (T := "tuple") (U := "int") (by decide) ⟨_, ho, rfl⟩ (fun s' => typeIs_int s' k t) noFill_tuple_mul F.fills_int_mul F.slot_int_rmul repeat_tuple F.slot_int_index.lookup
        (call_meets F.slot_int_rmul (typeIs_int s k t) F.entry_int_rmul (F.args_int_rmul_2 _ _) (int_rmul_tuple k t l its.toArray n dd sl) ⟨ho, rfl, ⟨_, ho, rfl⟩, call_meets F.slot_tuple_mul ⟨_, ho, rfl⟩ F.entry_tuple_mul (F.args_tuple_mul_2 _ _) (mul_none l its.toArray n dd sl k t c0 c1 c2) ⟨ho, ?_⟩⟩)
      have np : H s.heap.objs.size = none := I.hok.fresh (Nat.le_refl _)
      refine ⟨.ref s.heap.objs.size, _, I.laid (t' := s.toks) (o := .tup []) (fun b ob q => Heap.get?_push_of_some _ q) (Nat.le_refl _) ?_, rfl, q _ _ (same_new np) (by rw [e0]; exact SqT.of upd_same)⟩
      exact ⟨Nat.zero_le _, [], .nil, IsTup.new _ _⟩
end NG

namespace NG
open PySem PySem.Spec PyProof.Rows L2
/-! ### what is shown, of small numbers -/
structure Shh (d : PyData) (w k : Nat) : Prop where
  sh : d.showable = true
  lf : d.leavesShort 70 = true
  wt : d.weight ≤ w
  dp : d.depth ≤ k
structure ShhAll (ds : List PyData) (w k : Nat) : Prop where
  sh : PyData.showableAll ds = true
  lf : PyData.leavesShortAll 70 ds = true
  wt : PyData.weightAll ds ≤ w
  dp : PyData.depthAll ds ≤ k
theorem Shw.hh {d : PyData} {w k : Nat} (h : Shw d w k) (l : d.leavesShort 70 = true) : Shh d w k := ⟨h.sh, l, h.wt, h.dp⟩
theorem int60 {i : Int} (h : i.natAbs < 2 ^ 60) : PyData.leavesShort 70 (.int i) = true := by
  have hl : i.natAbs.log2 < 60 := PySem.Flt.log2_lt_of (by decide) h
  show decide ((PyData.shown (.int i)).length ≤ 70) = true
  refine decide_eq_true ?_
  have e := int_text_length_le (k := 60) (by decide) hl
  show (Str.ofString (toString i)).length ≤ 70
  rw [PySem.ofString_length]
  omega
theorem Shh.int {i : Int} (h : i.natAbs < 2 ^ 60) : Shh (.int i) 60 0 := by
  have hl : i.natAbs.log2 < 60 := PySem.Flt.log2_lt_of (by decide) h
  have h6 := Shw.int (i := i) (Nat.lt_of_lt_of_le h (Nat.pow_le_pow_right (by decide) (by decide)))
  refine ⟨h6.sh, int60 h, ?_, Nat.le_refl _⟩
  show (if i == 0 then 0 else i.natAbs.log2 + 1) ≤ 60
  split <;> omega
theorem Shh.str {x : Str} (h : (x.cps.toList.all fun c => decide (c < 16 ^ 8)) = true) (hl : x.cps.size ≤ 10) : Shh (.str x) 10 0 := ⟨rfl, h, hl, Nat.le_refl _⟩
theorem ShhAll.nil {k : Nat} : ShhAll [] 0 k := ⟨rfl, rfl, Nat.le_refl _, Nat.zero_le _⟩
theorem ShhAll.cons {d : PyData} {ds : List PyData} {w1 w2 k1 k2 k : Nat} (h1 : Shh d w1 k1) (h2 : ShhAll ds w2 k2) (hk1 : k1 ≤ k) (hk2 : k2 ≤ k) : ShhAll (d :: ds) (w1 + 1 + w2) k := by
  refine ⟨?_, ?_, ?_, ?_⟩
  · show (d.showable && PyData.showableAll ds) = true
    rw [h1.sh, h2.sh]
    rfl
  · show (d.leavesShort 70 && PyData.leavesShortAll 70 ds) = true
    rw [h1.lf, h2.lf]
    rfl
  · show d.weight + 1 + PyData.weightAll ds ≤ _
    have a := h1.wt
    have b := h2.wt
    omega
  · show max d.depth (PyData.depthAll ds) ≤ k
    have a := h1.dp
    have b := h2.dp
    omega
theorem ShhAll.tup {ds : List PyData} {w k : Nat} (h : ShhAll ds w k) : Shh (.tuple ds) w (k + 1) := ⟨h.sh, h.lf, h.wt, by show PyData.depthAll ds + 1 ≤ k + 1; have := h.dp; omega⟩
theorem ShhAll.lst {ds : List PyData} {w k : Nat} (h : ShhAll ds w k) : Shh (.list ds) w (k + 1) := ⟨h.sh, h.lf, h.wt, by show PyData.depthAll ds + 1 ≤ k + 1; have := h.dp; omega⟩
theorem Shh.mono {d : PyData} {w w' k k' : Nat} (h : Shh d w k) (hw : w ≤ w') (hk : k ≤ k') : Shh d w' k' := ⟨h.sh, h.lf, Nat.le_trans h.wt hw, Nat.le_trans h.dp hk⟩
theorem ShhAll.mono {d : List PyData} {w w' k k' : Nat} (h : ShhAll d w k) (hw : w ≤ w') (hk : k ≤ k') : ShhAll d w' k' := ⟨h.sh, h.lf, Nat.le_trans h.wt hw, Nat.le_trans h.dp hk⟩
theorem Shh.fits {d : PyData} {w k : Nat} (h : Shh d w k) (hw : w ≤ 230000) : d.shown.length ≤ sizeLine := by
  have := PyData.shown_le 70 (by decide) d h.lf
  have := h.wt
  have e : sizeLine = 16777216 := by decide
  omega
theorem ShhAll.app {es : List PyData} {w2 k : Nat} : ∀ {ds : List PyData} {w1 : Nat}, ShhAll ds w1 k → ShhAll es w2 k → ShhAll (ds ++ es) (w1 + w2) k
  | [], w1, _, h2 => h2.mono (by omega) (Nat.le_refl _)
  | d :: ds, w1, h1, h2 => by
    have s1 : (d.showable && PyData.showableAll ds) = true := h1.sh
    have s2 : (d.leavesShort 70 && PyData.leavesShortAll 70 ds) = true := h1.lf
    have s3 : d.weight + 1 + PyData.weightAll ds ≤ w1 := h1.wt
    have s4 : max d.depth (PyData.depthAll ds) ≤ k := h1.dp
    have s1 := Bool.and_eq_true_iff.mp s1
    have s2 := Bool.and_eq_true_iff.mp s2
    have hd : Shh d d.weight k := ⟨s1.1, s2.1, Nat.le_refl _, by omega⟩
    have hr : ShhAll ds (PyData.weightAll ds) k := ⟨s1.2, s2.2, Nat.le_refl _, by omega⟩
    exact (ShhAll.cons hd (ShhAll.app hr h2) (Nat.le_refl _) (Nat.le_refl _)).mono (by omega) (Nat.le_refl _)
theorem lf_and {d : PyData} {ds : List PyData} (h : d.leavesShort 70 = true) (t : PyData.leavesShortAll 70 ds = true) : PyData.leavesShortAll 70 (d :: ds) = true := by
  show (d.leavesShort 70 && PyData.leavesShortAll 70 ds) = true
  rw [h, t]
  rfl
theorem lf_ex {many : Nat} (hm : many ≤ 1000) : ∀ {e : Ex}, ExOk many e → (toD e).leavesShort 70 = true
  | .fig c, o => lf_and (d := .str "fig") (by decide) (lf_and (int60 (by have := o.1; have := o.2; omega)) rfl)
  | .reg i, o => lf_and (d := .str "reg") (by decide) (lf_and (int60 (by have o : i < 4 := o; omega)) rfl)
  | .share j, o => lf_and (d := .str "share") (by decide) (lf_and (int60 (by have o : j < many := o; omega)) rfl)
  | .two w a b, o => lf_and (d := .str (wn w)) (by cases w <;> decide) (lf_and (lf_ex hm o.1) (lf_and (lf_ex hm o.2) rfl))
  | .times f a, o => lf_and (d := .str "times") (by decide) (lf_and (int60 (by have := o.1.1; have := o.1.2; omega)) (lf_and (lf_ex hm o.2) rfl))
  | .by i a, o => lf_and (d := .str "by") (by decide) (lf_and (int60 (by have := o.1; omega)) (lf_and (lf_ex hm o.2) rfl))
  | .when i c a b, o => lf_and (d := .str "when") (by decide) (lf_and (int60 (by have := o.1; omega)) (lf_and (int60 (by have := o.2.1.1; have := o.2.1.2; omega)) (lf_and (lf_ex hm o.2.2.1) (lf_and (lf_ex hm o.2.2.2) rfl))))
  | .whr j c a b, o => lf_and (d := .str "where") (by decide) (lf_and (int60 (by have := o.1; omega)) (lf_and (int60 (by have := o.2.1.1; have := o.2.1.2; omega)) (lf_and (lf_ex hm o.2.2.1) (lf_and (lf_ex hm o.2.2.2) rfl))))
theorem lf_ds {many : Nat} (hm : many ≤ 1000) : ∀ {d : Ds}, DsOk many d → PyData.leavesShortAll 70 (dsD d) = true
  | .nil, _ => rfl
  | .op w i x r, o => lf_and (d := .tuple [.str (dn w), .int (i : Int), .int x]) (lf_and (d := .str (dn w)) (by cases w <;> decide) (lf_and (int60 (by have := o.1; omega)) (lf_and (int60 (by have := xok_small hm o.2.1; omega)) rfl))) (lf_ds hm o.2.2)
  | .when i c a b r, o => lf_and (d := .tuple [.str "when", .int (i : Int), .int c, .tuple (dsD a), .tuple (dsD b)]) (lf_and (d := .str "when") (by decide) (lf_and (int60 (by have := o.1; omega)) (lf_and (int60 (by have := o.2.1.1; have := o.2.1.2; omega)) (lf_and (d := .tuple (dsD a)) (lf_ds hm o.2.2.1) (lf_and (d := .tuple (dsD b)) (lf_ds hm o.2.2.2.1) rfl))))) (lf_ds hm o.2.2.2.2)
theorem lf_list {α : Type} {f : α → PyData} : ∀ {xs : List α}, (∀ x ∈ xs, (f x).leavesShort 70 = true) → PyData.leavesShortAll 70 (xs.map f) = true
  | [], _ => rfl
  | x :: r, h => lf_and (h x (by simp)) (lf_list fun y hy => h y (List.mem_cons_of_mem _ hy))
theorem lf_db {many dE dD cD : Nat} {D : Dbt} (hm : many ≤ 1000) (o : DbOk many dE dD cD D) : (dbD D).leavesShort 70 = true := by
  refine lf_and (d := .str D.name) (by rcases o.nm with e | e | e | e <;> rw [e] <;> decide) (lf_and (int60 (by have := o.sc; omega)) (lf_and (d := .tuple (D.begins.map PyData.int)) (lf_list fun x hx => int60 (by have := o.rg.2 x hx; omega)) (lf_and (d := .tuple (D.stakes.map toD)) (lf_list fun e he => lf_ex hm (o.st e he).1) (lf_and (d := .tuple (D.behinds.map fun d => .tuple (dsD d))) (lf_list fun d hd => ?_) rfl))))
  exact lf_ds hm (o.bh d hd).1
end NG

namespace NG
open PySem PySem.Spec PyProof.Rows L2
/-! ### ones, members -/
structure One where
  dbt : Dbt
  regs : List Int
  weight : Int
  motes : Int
  owed : Int
  days : Int
  got : Int
def OneAt (K : PySem.W.Frag) (H : Hp) (o : One) (v : V) : Prop := ∃ (p : Addr) (dv rv : V), v = .ref p ∧ SqT K H p [.str "one", dv, rv, .int o.weight, .int o.motes, .int o.owed, .int o.days, .int o.got] ∧ DbAt K H o.dbt dv ∧ RegsAt K H o.regs rv
theorem OneAt.imp {K : PySem.W.Frag} {H H' : Hp} {o : One} {v : V} (x : OneAt K H o v) (h : ∀ p xs, SqT K H p xs → SqT K H' p xs) : OneAt K H' o v := by
  obtain ⟨p, dv, rv, e, q, d, r⟩ := x
  exact ⟨p, dv, rv, e, h _ _ q, d.imp h, r.imp h⟩
def oneD (o : One) : PyData := .tuple [.str "one", dbD o.dbt, .tuple (o.regs.map PyData.int), .int o.weight, .int o.motes, .int o.owed, .int o.days, .int o.got]
theorem OneAt.dp {K : PySem.W.Frag} {H : Hp} {o : One} {v : V} (x : OneAt K H o v) : Dp K H v (oneD o) := by
  obtain ⟨p, dv, rv, e, q, d, ⟨pr, e2, r, _⟩⟩ := x
  subst e e2
  exact .tup q (.cons (.str _) (.cons d.dp (.cons (.tup r (dp_ints _)) (.cons (.int _) (.cons (.int _) (.cons (.int _) (.cons (.int _) (.cons (.int _) .nil))))))))
structure OneOk (many dE dD cD : Nat) (o : One) : Prop where
  db : DbOk many dE dD cD o.dbt
  rg : RegOk o.regs
  w1 : 1 ≤ o.weight ∧ o.weight ≤ 1000000000000
  m1 : 0 ≤ o.motes ∧ o.motes ≤ 3000000000000
  o1 : 0 ≤ o.owed ∧ o.owed ≤ 99
  d1 : 0 ≤ o.days ∧ o.days ≤ 40
  g1 : -5000000000 ≤ o.got ∧ o.got ≤ 5000000000
theorem shh_one {many dE dD cD : Nat} {o : One} (hm : many ≤ 3) (hE : dE ≤ 8) (hD : dD ≤ 8) (h : OneOk many dE dD cD o) : Shh (oneD o) (600 + 3 * wgt dE + 180 * cD) 22 := by
  have h1 : Shh (.str "one") 10 0 := .str (by decide) (by decide)
  have h2 := (shw_db hm hE hD h.db).hh (lf_db (by omega) h.db)
  have h3 : Shh (.tuple (o.regs.map PyData.int)) (16 * o.regs.length) 1 := ((shw_smalls h.rg.2).tup).hh (lf_list fun x hx => int60 (by have := h.rg.2 x hx; omega))
  have i1 : Shh (.int o.weight) 60 0 := .int (by have := h.w1; omega)
  have i2 : Shh (.int o.motes) 60 0 := .int (by have := h.m1; omega)
  have i3 : Shh (.int o.owed) 60 0 := .int (by have := h.o1; omega)
  have i4 : Shh (.int o.days) 60 0 := .int (by have := h.d1; omega)
  have i5 : Shh (.int o.got) 60 0 := .int (by have := h.g1; omega)
  have hl := h.rg.1
  rw [hl] at h3
  have z : ShhAll [PyData.str "one", dbD o.dbt, .tuple (o.regs.map PyData.int), .int o.weight, .int o.motes, .int o.owed, .int o.days, .int o.got] _ 21 := .cons h1 (.cons h2 (.cons h3 (.cons i1 (.cons i2 (.cons i3 (.cons i4 (.cons i5 (ShhAll.nil (k := 0)) (k := 21) (by omega) (by omega)) (by omega) (Nat.le_refl _)) (by omega) (Nat.le_refl _)) (by omega) (Nat.le_refl _)) (by omega) (Nat.le_refl _)) (by omega) (Nat.le_refl _)) (by omega) (Nat.le_refl _)) (by omega) (Nat.le_refl _)
  exact z.tup.mono (by omega) (by omega)
inductive Ms where
  | nil
  | one (o : One) (r : Ms)
  | house (nm : Str) (m r : Ms)
inductive Mk where
  | one (o : One)
  | house (nm : Str) (m : Ms)
def MsAt (K : PySem.W.Frag) (H : Hp) : Ms → List V → Prop
  | .nil, vs => vs = []
  | .one o r, vs => ∃ v us, vs = v :: us ∧ OneAt K H o v ∧ MsAt K H r us
  | .house nm m r, vs => ∃ p pm xs us, vs = .ref p :: us ∧ SqT K H p [.str "house", .str nm, .ref pm] ∧ SqT K H pm xs ∧ MsAt K H m xs ∧ MsAt K H r us
theorem MsAt.imp {K : PySem.W.Frag} {H H' : Hp} (h : ∀ p xs, SqT K H p xs → SqT K H' p xs) : ∀ {m : Ms} {vs : List V}, MsAt K H m vs → MsAt K H' m vs
  | .nil, _, e => e
  | .one _ _, _, ⟨v, us, e, q, r⟩ => ⟨v, us, e, q.imp h, MsAt.imp h r⟩
  | .house _ _ _, _, ⟨p, pm, xs, us, e, q, qm, m, r⟩ => ⟨p, pm, xs, us, e, h _ _ q, h _ _ qm, MsAt.imp h m, MsAt.imp h r⟩
theorem MsAt.same {K : PySem.W.Frag} {H H' : Hp} {m : Ms} {vs : List V} (x : MsAt K H m vs) (s : Same H H') : MsAt K H' m vs := x.imp fun _ _ q => same_sqt s q
def MkAt (K : PySem.W.Frag) (H : Hp) : Mk → V → Prop
  | .one o, v => OneAt K H o v
  | .house nm m, v => ∃ p pm xs, v = .ref p ∧ SqT K H p [.str "house", .str nm, .ref pm] ∧ SqT K H pm xs ∧ MsAt K H m xs
theorem MkAt.imp {K : PySem.W.Frag} {H H' : Hp} (h : ∀ p xs, SqT K H p xs → SqT K H' p xs) : ∀ {m : Mk} {v : V}, MkAt K H m v → MkAt K H' m v
  | .one _, _, x => OneAt.imp x h
  | .house _ _, _, ⟨p, pm, xs, e, q, qm, m⟩ => ⟨p, pm, xs, e, h _ _ q, h _ _ qm, m.imp h⟩
def msD : Ms → List PyData
  | .nil => []
  | .one o r => oneD o :: msD r
  | .house nm m r => .tuple [.str "house", .str nm, .tuple (msD m)] :: msD r
def mkD : Mk → PyData
  | .one o => oneD o
  | .house nm m => .tuple [.str "house", .str nm, .tuple (msD m)]
theorem MsAt.dps {K : PySem.W.Frag} {H : Hp} : ∀ {m : Ms} {vs : List V}, MsAt K H m vs → DpAll K H vs (msD m)
  | .nil, _, e => by subst e; exact .nil
  | .one _ _, _, ⟨v, us, e, q, r⟩ => by subst e; exact .cons q.dp r.dps
  | .house _ _ _, _, ⟨p, pm, xs, us, e, q, qm, m, r⟩ => by subst e; exact .cons (.tup q (.cons (.str _) (.cons (.str _) (.cons (.tup qm m.dps) .nil)))) r.dps
theorem MkAt.dp {K : PySem.W.Frag} {H : Hp} : ∀ {m : Mk} {v : V}, MkAt K H m v → Dp K H v (mkD m)
  | .one _, _, x => OneAt.dp x
  | .house _ _, _, ⟨p, pm, xs, e, q, qm, m⟩ => by subst e; exact .tup q (.cons (.str _) (.cons (.str _) (.cons (.tup qm m.dps) .nil)))
theorem MkAt.ref {K : PySem.W.Frag} {H : Hp} : ∀ {m : Mk} {v : V}, MkAt K H m v → ∃ p, v = .ref p
  | .one _, _, ⟨p, _, _, e, _⟩ => ⟨p, e⟩
  | .house _ _, _, ⟨p, _, _, e, _⟩ => ⟨p, e⟩
def mkW : Mk → Str
  | .one _ => "one"
  | .house _ _ => "house"
/-- the word ahead -/
theorem MkAt.wd {K : PySem.W.Frag} {H : Hp} : ∀ {m : Mk} {v : V}, MkAt K H m v → ∃ p xs, v = .ref p ∧ SqT K H p (.str (mkW m) :: xs)
  | .one _, _, ⟨p, _, _, e, q, _⟩ => ⟨p, _, e, q⟩
  | .house _ _, _, ⟨p, _, _, e, q, _⟩ => ⟨p, _, e, q⟩
def Ms.cnt : Ms → Nat
  | .nil => 0
  | .one _ r => 1 + r.cnt
  | .house _ m r => 1 + m.cnt + r.cnt
def Ms.len : Ms → Nat
  | .nil => 0
  | .one _ r => r.len + 1
  | .house _ _ r => r.len + 1
def Ms.dep : Ms → Nat
  | .nil => 0
  | .one _ r => r.dep
  | .house _ m r => max (m.dep + 1) r.dep
theorem Ms.len_le : ∀ m : Ms, m.len ≤ m.cnt
  | .nil => Nat.le_refl _
  | .one _ r => by have := r.len_le; show r.len + 1 ≤ 1 + r.cnt; omega
  | .house _ m r => by have := r.len_le; show r.len + 1 ≤ 1 + m.cnt + r.cnt; omega
theorem MsAt.len {K : PySem.W.Frag} {H : Hp} : ∀ {m : Ms} {vs : List V}, MsAt K H m vs → vs.length = m.len
  | .nil, _, e => by subst e; rfl
  | .one _ _, _, ⟨v, us, e, q, r⟩ => by subst e; rw [List.length_cons, r.len]; rfl
  | .house _ _ _, _, ⟨p, pm, xs, us, e, q, qm, m, r⟩ => by subst e; rw [List.length_cons, r.len]; rfl
def Ms.app : Ms → Ms → Ms
  | .nil, e => e
  | .one o r, e => .one o (r.app e)
  | .house nm m r, e => .house nm m (r.app e)
theorem MsAt.app {K : PySem.W.Frag} {H : Hp} : ∀ {d e : Ms} {vs ws : List V}, MsAt K H d vs → MsAt K H e ws → MsAt K H (d.app e) (vs ++ ws)
  | .nil, _, _, _, e, y => by subst e; exact y
  | .one _ _, _, _, _, ⟨v, us, e, q, r⟩, y => by subst e; exact ⟨v, _, rfl, q, MsAt.app r y⟩
  | .house _ _ _, _, _, _, ⟨p, pm, xs, us, e, q, qm, m, r⟩, y => by subst e; exact ⟨p, pm, xs, _, rfl, q, qm, m, MsAt.app r y⟩
theorem Ms.cnt_app : ∀ d e : Ms, (d.app e).cnt = d.cnt + e.cnt
  | .nil, e => by show e.cnt = 0 + e.cnt; omega
  | .one _ r, e => by show 1 + (r.app e).cnt = 1 + r.cnt + e.cnt; rw [Ms.cnt_app r e]; omega
  | .house _ m r, e => by show 1 + m.cnt + (r.app e).cnt = 1 + m.cnt + r.cnt + e.cnt; rw [Ms.cnt_app r e]; omega
theorem Ms.dep_app : ∀ d e : Ms, (d.app e).dep = max d.dep e.dep
  | .nil, e => by show e.dep = max 0 e.dep; omega
  | .one _ r, e => Ms.dep_app r e
  | .house _ m r, e => by show max (m.dep + 1) (r.app e).dep = max (max (m.dep + 1) r.dep) e.dep; rw [Ms.dep_app r e]; omega
/-- each one in it -/
def Ms.all (P : One → Prop) : Ms → Prop
  | .nil => True
  | .one o r => P o ∧ r.all P
  | .house _ m r => m.all P ∧ r.all P
theorem Ms.all_app {P : One → Prop} : ∀ {d e : Ms}, d.all P → e.all P → (d.app e).all P
  | .nil, _, _, y => y
  | .one _ _, _, ⟨a, b⟩, y => ⟨a, Ms.all_app b y⟩
  | .house _ _ _, _, ⟨a, b⟩, y => ⟨a, Ms.all_app b y⟩
def nmOk (nm : Str) : Prop := (nm.cps.toList.all fun c => decide (c < 16 ^ 8)) = true ∧ nm.cps.size ≤ 10
def Ms.nms : Ms → Prop
  | .nil => True
  | .one _ r => r.nms
  | .house nm m r => nmOk nm ∧ m.nms ∧ r.nms
theorem Ms.nms_app : ∀ {d e : Ms}, d.nms → e.nms → (d.app e).nms
  | .nil, _, _, y => y
  | .one _ r, _, a, y => Ms.nms_app (d := r) a y
  | .house _ _ _, _, ⟨n, a, b⟩, y => ⟨n, a, Ms.nms_app b y⟩
def Ms.tl : Ms → Ms
  | .nil => .nil
  | .one _ r => r
  | .house _ _ r => r
def Ms.hd : Ms → Option Mk
  | .nil => none
  | .one o _ => some (.one o)
  | .house nm m _ => some (.house nm m)
def Ms.drop : Nat → Ms → Ms
  | 0, d => d
  | n + 1, d => (d.drop n).tl
theorem MsAt.tl {K : PySem.W.Frag} {H : Hp} : ∀ {d : Ms} {vs : List V}, MsAt K H d vs → MsAt K H d.tl (vs.drop 1)
  | .nil, _, e => by subst e; rfl
  | .one _ _, _, ⟨v, us, e, q, r⟩ => by subst e; exact r
  | .house _ _ _, _, ⟨p, pm, xs, us, e, q, qm, m, r⟩ => by subst e; exact r
theorem MsAt.drop {K : PySem.W.Frag} {H : Hp} {d : Ms} {vs : List V} (h : MsAt K H d vs) : ∀ n, MsAt K H (d.drop n) (vs.drop n)
  | 0 => h
  | n + 1 => by
    have := (MsAt.drop h n).tl
    rw [List.drop_drop] at this
    exact this
theorem MsAt.head {K : PySem.W.Frag} {H : Hp} : ∀ {d : Ms} {v : V} {us : List V}, MsAt K H d (v :: us) → ∃ k, d.hd = some k ∧ MkAt K H k v
  | .one o _, _, _, ⟨v, us, e, q, r⟩ => by cases e; exact ⟨.one o, rfl, q⟩
  | .house nm m _, _, _, ⟨p, pm, xs, us, e, q, qm, mm, r⟩ => by cases e; exact ⟨.house nm m, rfl, p, pm, xs, rfl, q, qm, mm⟩
theorem MsAt.nth {K : PySem.W.Frag} {H : Hp} {d : Ms} {vs : List V} {i : Nat} {v : V} (h : MsAt K H d vs) (hi : vs[i]? = some v) : ∃ k, (d.drop i).hd = some k ∧ MkAt K H k v := by
  have hil := (List.getElem?_eq_some_iff.mp hi).1
  have hd := h.drop i
  rw [List.drop_eq_getElem_cons hil, (List.getElem?_eq_some_iff.mp hi).2] at hd
  exact hd.head
theorem Ms.dep_tl : ∀ d : Ms, d.tl.dep ≤ d.dep
  | .nil => Nat.le_refl _
  | .one _ r => Nat.le_refl _
  | .house _ m r => by show r.dep ≤ max (m.dep + 1) r.dep; omega
theorem Ms.dep_drop (d : Ms) : ∀ n, (d.drop n).dep ≤ d.dep
  | 0 => Nat.le_refl _
  | n + 1 => Nat.le_trans (Ms.dep_tl _) (Ms.dep_drop d n)
theorem Ms.cnt_tl : ∀ d : Ms, d.tl.cnt ≤ d.cnt
  | .nil => Nat.le_refl _
  | .one _ r => by show r.cnt ≤ 1 + r.cnt; omega
  | .house _ m r => by show r.cnt ≤ 1 + m.cnt + r.cnt; omega
theorem Ms.cnt_drop (d : Ms) : ∀ n, (d.drop n).cnt ≤ d.cnt
  | 0 => Nat.le_refl _
  | n + 1 => Nat.le_trans (Ms.cnt_tl _) (Ms.cnt_drop d n)
/-- a house ahead lies deeper, is smaller -/
theorem Ms.hd_house {d : Ms} {nm : Str} {m : Ms} (h : d.hd = some (.house nm m)) : m.dep + 1 ≤ d.dep ∧ m.cnt + 1 ≤ d.cnt := by
  cases d with
  | nil => cases h
  | one o r => cases h
  | house n2 m2 r =>
    cases h
    exact ⟨by show m.dep + 1 ≤ max (m.dep + 1) r.dep; omega, by show m.cnt + 1 ≤ 1 + m.cnt + r.cnt; omega⟩
/-! ### all that stand, with their paths -/
def stdI : Ms → List Int → Int → List (List Int × Mk)
  | .nil, _, _ => []
  | .one o r, path, i => (path ++ [i], .one o) :: stdI r path (i + 1)
  | .house nm m r, path, i => (path ++ [i], .house nm m) :: (stdI m (path ++ [i]) 0 ++ stdI r path (i + 1))
def stdH : Option Mk → List Int → Int → List (List Int × Mk)
  | none, _, _ => []
  | some (.one o), path, i => [(path ++ [i], .one o)]
  | some (.house nm m), path, i => (path ++ [i], .house nm m) :: stdI m (path ++ [i]) 0
theorem stdI_step : ∀ (d : Ms) (path : List Int) (i : Int), stdI d path i = stdH d.hd path i ++ stdI d.tl path (i + 1)
  | .nil, _, _ => rfl
  | .one _ _, _, _ => rfl
  | .house _ _ _, _, _ => rfl
theorem stdI_len : ∀ (d : Ms) (path : List Int) (i : Int), (stdI d path i).length = d.cnt
  | .nil, _, _ => rfl
  | .one _ r, path, i => by show (stdI r path (i + 1)).length + 1 = 1 + r.cnt; rw [stdI_len r]; omega
  | .house _ m r, path, i => by show (stdI m (path ++ [i]) 0 ++ stdI r path (i + 1)).length + 1 = 1 + m.cnt + r.cnt; rw [List.length_append, stdI_len m, stdI_len r]; omega
def PrAt (K : PySem.W.Frag) (H : Hp) (x : List Int × Mk) (u : V) : Prop := ∃ (t h : Addr) (v : V), u = .ref t ∧ SqT K H t [.ref h, v] ∧ SqT K H h (x.1.map V.int) ∧ MkAt K H x.2 v
theorem PrAt.imp {K : PySem.W.Frag} {H H' : Hp} (h : ∀ p xs, SqT K H p xs → SqT K H' p xs) {x : List Int × Mk} {u : V} (y : PrAt K H x u) : PrAt K H' x u := by
  obtain ⟨t, q, v, e, a, b, c⟩ := y
  exact ⟨t, q, v, e, h _ _ a, h _ _ b, c.imp h⟩
def PrsAt (K : PySem.W.Frag) (H : Hp) : List V → List (List Int × Mk) → Prop
  | [], [] => True
  | u :: us, x :: xs => PrAt K H x u ∧ PrsAt K H us xs
  | _, _ => False
theorem PrsAt.imp {K : PySem.W.Frag} {H H' : Hp} (h : ∀ p xs, SqT K H p xs → SqT K H' p xs) : ∀ {us : List V} {xs : List (List Int × Mk)}, PrsAt K H us xs → PrsAt K H' us xs
  | [], [], _ => trivial
  | _ :: _, _ :: _, ⟨x, r⟩ => ⟨x.imp h, PrsAt.imp h r⟩
theorem PrsAt.app {K : PySem.W.Frag} {H : Hp} : ∀ {us ws : List V} {xs ys : List (List Int × Mk)}, PrsAt K H us xs → PrsAt K H ws ys → PrsAt K H (us ++ ws) (xs ++ ys)
  | [], _, [], _, _, y => y
  | _ :: _, _, _ :: _, _, ⟨x, r⟩, y => ⟨x, PrsAt.app r y⟩
theorem PrsAt.len {K : PySem.W.Frag} {H : Hp} : ∀ {us : List V} {xs : List (List Int × Mk)}, PrsAt K H us xs → us.length = xs.length
  | [], [], _ => rfl
  | _ :: _, _ :: _, ⟨_, r⟩ => by rw [List.length_cons, List.length_cons, r.len]
theorem PrsAt.get {K : PySem.W.Frag} {H : Hp} : ∀ {us : List V} {xs : List (List Int × Mk)} {i : Nat} {u : V}, PrsAt K H us xs → us[i]? = some u → ∃ x, xs[i]? = some x ∧ PrAt K H x u
  | [], [], _, _, _, h => by simp at h
  | v :: us, x :: xs, 0, u, ⟨y, r⟩, h => by
    have : v = u := Option.some.inj h
    subst this
    exact ⟨x, rfl, y⟩
  | v :: us, x :: xs, i + 1, u, ⟨y, r⟩, h => PrsAt.get (i := i) r h
def prD (x : List Int × Mk) : PyData := .tuple [.tuple (x.1.map PyData.int), mkD x.2]
theorem PrAt.dp {K : PySem.W.Frag} {H : Hp} {x : List Int × Mk} {u : V} (y : PrAt K H x u) : Dp K H u (prD x) := by
  obtain ⟨t, q, v, e, a, b, c⟩ := y
  subst e
  exact .tup a (.cons (.tup b (dp_ints _)) (.cons c.dp .nil))
theorem PrsAt.dps {K : PySem.W.Frag} {H : Hp} : ∀ {us : List V} {xs : List (List Int × Mk)}, PrsAt K H us xs → DpAll K H us (xs.map prD)
  | [], [], _ => .nil
  | _ :: _, _ :: _, ⟨x, r⟩ => .cons x.dp r.dps
def isOne (x : List Int × Mk) : Bool := match x.2 with
  | .one _ => true
  | .house _ _ => false
def toOne (x : List Int × Mk) : Option One := match x.2 with
  | .one o => some o
  | .house _ _ => none
def onesI (m : Ms) : List (List Int × Mk) := (stdI m [] 0).filter isOne
def aoI : Ms → List One
  | .nil => []
  | .one o r => o :: aoI r
  | .house _ m r => aoI m ++ aoI r
theorem ao_std : ∀ (d : Ms) (path : List Int) (i : Int), ((stdI d path i).filter isOne).filterMap toOne = aoI d
  | .nil, _, _ => rfl
  | .one o r, path, i => by
    show (((path ++ [i], Mk.one o) :: stdI r path (i + 1)).filter isOne).filterMap toOne = o :: aoI r
    rw [List.filter_cons_of_pos (by rfl), List.filterMap_cons_some (b := o) (by rfl), ao_std r]
  | .house nm m r, path, i => by
    show (((path ++ [i], Mk.house nm m) :: (stdI m (path ++ [i]) 0 ++ stdI r path (i + 1))).filter isOne).filterMap toOne = aoI m ++ aoI r
    rw [List.filter_cons_of_neg (by intro h; cases h), List.filter_append, List.filterMap_append, ao_std m, ao_std r]
theorem ones_map : ∀ {xs : List (List Int × Mk)}, (∀ x ∈ xs, isOne x = true) → (xs.filterMap toOne).length = xs.length
  | [], _ => rfl
  | (p, .one o) :: r, h => by
    rw [List.filterMap_cons_some (b := o) (by rfl), List.length_cons, List.length_cons, ones_map fun x hx => h x (List.mem_cons_of_mem _ hx)]
  | (p, .house nm m) :: r, h => by
    have := h (p, .house nm m) (by simp)
    cases this
theorem ones_len (m : Ms) : (onesI m).length = (aoI m).length := by
  have h := ones_map (xs := onesI m) fun x hx => (List.mem_filter.mp hx).2
  rw [← h]
  unfold onesI
  rw [ao_std]
def motesI (m : Ms) : Int := ((aoI m).map (·.motes)).sum
theorem ao_len : ∀ d : Ms, (aoI d).length ≤ d.cnt
  | .nil => Nat.le_refl _
  | .one _ r => by have := ao_len r; show (aoI r).length + 1 ≤ 1 + r.cnt; omega
  | .house _ m r => by have := ao_len m; have := ao_len r; show (aoI m ++ aoI r).length ≤ 1 + m.cnt + r.cnt; rw [List.length_append]; omega
theorem ao_all {P : One → Prop} : ∀ {d : Ms}, d.all P → ∀ o ∈ aoI d, P o
  | .nil, _, o, h => by cases h
  | .one _ r, ⟨a, b⟩, o, h => by
    rcases List.mem_cons.mp h with rfl | h
    · exact a
    · exact ao_all b o h
  | .house _ m r, ⟨a, b⟩, o, h => by
    rcases List.mem_append.mp h with h | h
    · exact ao_all a o h
    · exact ao_all b o h
theorem ao_app : ∀ d e : Ms, aoI (d.app e) = aoI d ++ aoI e
  | .nil, e => rfl
  | .one o r, e => by show o :: aoI (r.app e) = o :: (aoI r ++ aoI e); rw [ao_app r e]
  | .house _ m r, e => by show aoI m ++ aoI (r.app e) = aoI m ++ aoI r ++ aoI e; rw [ao_app r e, List.append_assoc]
/-! ### promises -/
def spStands (K : PySem.W.Frag) (n : Nat) : Sp := fun vs H Q _ => ∃ (p q : Addr) (xs : List V) (m : Ms) (path : List Int), vs = [.ref p, .ref q] ∧ SqT K H p xs ∧ MsAt K H m xs ∧ m.dep < n ∧ m.cnt ≤ 300 ∧ SqT K H q (path.map V.int) ∧ path.length + m.dep ≤ 100 ∧
  ∀ H' l us, Same H H' → H l = none → H' l = some (.lst us) → PrsAt K H' us (stdI m path 0) → Q (.ref l) H'
def spOnes (K : PySem.W.Frag) (n : Nat) : Sp := fun vs H Q _ => ∃ (p pm : Addr) (xs : List V) (many : Int) (m : Ms), vs = [.ref p] ∧ SqT K H p [.int many, .ref pm] ∧ SqT K H pm xs ∧ MsAt K H m xs ∧ m.dep < n ∧ m.cnt ≤ 300 ∧ m.dep ≤ 50 ∧
  ∀ H' t us, Same H H' → SqT K H' t us → PrsAt K H' us (onesI m) → Q (.ref t) H'
def spMotes (K : PySem.W.Frag) (n : Nat) : Sp := fun vs H Q _ => ∃ (p pm : Addr) (xs : List V) (many : Int) (m : Ms), vs = [.ref p] ∧ SqT K H p [.int many, .ref pm] ∧ SqT K H pm xs ∧ MsAt K H m xs ∧ m.dep < n ∧ m.cnt ≤ 300 ∧ m.dep ≤ 50 ∧
  ∀ H', Same H H' → Q (.int (motesI m)) H'
end NG

namespace NG
open PySem PySem.Spec PyProof.Rows L2
theorem reprK {X : Cx} (K : PySem.W.Frag) (hg : X.A.guards = some []) (hu : X.A.units + 64 < cLine) (h : X.K = K := by rfl) : CallR X (.builtin "repr") (rRepr K) := by
  subst h
  exact cr_repr hg hu
/-! ### what is shown of members -/
theorem shh_list {α : Type} {f : α → PyData} {w k : Nat} : ∀ {xs : List α}, (∀ x ∈ xs, Shh (f x) w k) → ShhAll (xs.map f) ((w + 1) * xs.length) k
  | [], _ => ShhAll.nil
  | n :: r, h => by
    have h1 := h n (by simp)
    have h2 := shh_list (xs := r) fun x hx => h x (List.mem_cons_of_mem _ hx)
    refine (ShhAll.cons h1 h2 (Nat.le_refl k) (Nat.le_refl k)).mono ?_ (Nat.le_refl k)
    rw [List.length_cons, Nat.mul_add]
    omega
theorem shh_ms {many dE dD cD : Nat} (hm : many ≤ 3) (hE : dE ≤ 8) (hD : dD ≤ 8) : ∀ {m : Ms}, m.all (OneOk many dE dD cD) → m.nms → ShhAll (msD m) ((700 + 3 * wgt dE + 180 * cD) * m.cnt) (22 + 2 * m.dep)
  | .nil, _, _ => ShhAll.nil
  | .one o r, a, n => by
    have h1 := shh_one hm hE hD a.1
    have h2 := shh_ms hm hE hD (m := r) a.2 n
    refine (ShhAll.cons h1 h2 (k := 22 + 2 * r.dep) (by omega) (Nat.le_refl _)).mono ?_ (Nat.le_refl _)
    show _ ≤ (700 + 3 * wgt dE + 180 * cD) * (1 + r.cnt)
    rw [Nat.mul_add, Nat.mul_one]
    omega
  | .house nm m r, a, n => by
    have h1 := (shh_ms hm hE hD (m := m) a.1 n.2.1).tup
    have h2 := shh_ms hm hE hD (m := r) a.2 n.2.2
    have s1 : Shh (.str "house") 10 0 := .str (by decide) (by decide)
    have s2 : Shh (.str nm) 10 0 := .str n.1.1 n.1.2
    have h3 := (ShhAll.cons s1 (.cons s2 (.cons h1 (ShhAll.nil (k := 0)) (k := 23 + 2 * m.dep) (by omega) (by omega)) (by omega) (Nat.le_refl _)) (by omega) (Nat.le_refl _)).tup
    refine (ShhAll.cons h3 h2 (k := 22 + 2 * max (m.dep + 1) r.dep) (by omega) (by omega)).mono ?_ (Nat.le_refl _)
    show _ ≤ (700 + 3 * wgt dE + 180 * cD) * (1 + m.cnt + r.cnt)
    rw [Nat.mul_add, Nat.mul_add, Nat.mul_one]
    omega
theorem std_path : ∀ (d : Ms) (path : List Int) (i : Int), 0 ≤ i → i + (d.cnt : Int) ≤ 300 → ∀ x ∈ stdI d path i, x.1.length ≤ path.length + d.dep + 1 ∧ ∀ e ∈ x.1, e ∈ path ∨ (0 ≤ e ∧ e ≤ 300)
  | .nil, _, _, _, _, x, h => by cases h
  | .one o r, path, i, i0, i1, x, h => by
    have i1 : i + ((1 + r.cnt : Nat) : Int) ≤ 300 := i1
    have h : x ∈ (path ++ [i], Mk.one o) :: stdI r path (i + 1) := h
    rcases List.mem_cons.mp h with rfl | h
    · refine ⟨by rw [List.length_append]; show path.length + 1 ≤ _; omega, fun e he => ?_⟩
      rcases List.mem_append.mp he with he | he
      · exact .inl he
      · rw [List.mem_singleton.mp he]
        exact .inr ⟨i0, by omega⟩
    · exact std_path r path (i + 1) (by omega) (by omega) x h
  | .house nm m r, path, i, i0, i1, x, h => by
    have i1 : i + ((1 + m.cnt + r.cnt : Nat) : Int) ≤ 300 := i1
    have h : x ∈ (path ++ [i], Mk.house nm m) :: (stdI m (path ++ [i]) 0 ++ stdI r path (i + 1)) := h
    show x.1.length ≤ path.length + max (m.dep + 1) r.dep + 1 ∧ _
    rcases List.mem_cons.mp h with rfl | h
    · refine ⟨by rw [List.length_append]; show path.length + 1 ≤ _; omega, fun e he => ?_⟩
      rcases List.mem_append.mp he with he | he
      · exact .inl he
      · rw [List.mem_singleton.mp he]
        exact .inr ⟨i0, by omega⟩
    · rcases List.mem_append.mp h with h | h
      · obtain ⟨h1, h2⟩ := std_path m (path ++ [i]) 0 (by decide) (by omega) x h
        refine ⟨by rw [List.length_append] at h1; have h1 : x.1.length ≤ path.length + 1 + m.dep + 1 := h1; omega, fun e he => ?_⟩
        rcases h2 e he with he | he
        · rcases List.mem_append.mp he with he | he
          · exact .inl he
          · rw [List.mem_singleton.mp he]
            exact .inr ⟨i0, by omega⟩
        · exact .inr he
      · obtain ⟨h1, h2⟩ := std_path r path (i + 1) (by omega) (by omega) x h
        exact ⟨by omega, h2⟩
theorem std_all {P : One → Prop} : ∀ (d : Ms) (path : List Int) (i : Int), d.all P → ∀ x ∈ stdI d path i, ∀ o, x.2 = .one o → P o
  | .nil, _, _, _, x, h, _, _ => by cases h
  | .one o r, path, i, a, x, h, o2, e => by
    have h : x ∈ (path ++ [i], Mk.one o) :: stdI r path (i + 1) := h
    rcases List.mem_cons.mp h with rfl | h
    · cases e
      exact a.1
    · exact std_all r path (i + 1) a.2 x h o2 e
  | .house nm m r, path, i, a, x, h, o2, e => by
    have h : x ∈ (path ++ [i], Mk.house nm m) :: (stdI m (path ++ [i]) 0 ++ stdI r path (i + 1)) := h
    rcases List.mem_cons.mp h with rfl | h
    · cases e
    · rcases List.mem_append.mp h with h | h
      · exact std_all m (path ++ [i]) 0 a.1 x h o2 e
      · exact std_all r path (i + 1) a.2 x h o2 e
theorem std_house : ∀ (d : Ms) (path : List Int) (i : Int), ∀ x ∈ stdI d path i, ∀ nm m2, x.2 = .house nm m2 → m2.dep + 1 ≤ d.dep ∧ m2.cnt + 1 ≤ d.cnt
  | .nil, _, _, x, h, _, _, _ => by cases h
  | .one o r, path, i, x, h, nm, m2, e => by
    have h : x ∈ (path ++ [i], Mk.one o) :: stdI r path (i + 1) := h
    rcases List.mem_cons.mp h with rfl | h
    · cases e
    · obtain ⟨h1, h2⟩ := std_house r path (i + 1) x h nm m2 e
      exact ⟨h1, by show m2.cnt + 1 ≤ 1 + r.cnt; omega⟩
  | .house nm m r, path, i, x, h, nm2, m2, e => by
    have h : x ∈ (path ++ [i], Mk.house nm m) :: (stdI m (path ++ [i]) 0 ++ stdI r path (i + 1)) := h
    show m2.dep + 1 ≤ max (m.dep + 1) r.dep ∧ m2.cnt + 1 ≤ 1 + m.cnt + r.cnt
    rcases List.mem_cons.mp h with rfl | h
    · cases e
      exact ⟨by omega, by omega⟩
    · rcases List.mem_append.mp h with h | h
      · obtain ⟨h1, h2⟩ := std_house m (path ++ [i]) 0 x h nm2 m2 e
        exact ⟨by omega, by omega⟩
      · obtain ⟨h1, h2⟩ := std_house r path (i + 1) x h nm2 m2 e
        exact ⟨by omega, by omega⟩
/-- a pair of a path and a one, as shown -/
theorem shh_pr {many dE dD cD : Nat} {m : Ms} (hm : many ≤ 3) (hE : dE ≤ 8) (hD : dD ≤ 8) (a : m.all (OneOk many dE dD cD)) (hc : m.cnt ≤ 300) (hd : m.dep ≤ 20) : ∀ x ∈ onesI m, ∃ o, x.2 = .one o ∧ OneOk many dE dD cD o ∧ Shh (prD x) (1000 + 3 * wgt dE + 180 * cD) 23 := fun x hx => by
  obtain ⟨h1, h2⟩ := List.mem_filter.mp hx
  obtain ⟨p1, p2⟩ := std_path m [] 0 (by decide) (by omega) x h1
  obtain ⟨pth, k⟩ := x
  cases k with
  | house nm m2 => cases h2
  | one o =>
    have ho := std_all m [] 0 a _ h1 o rfl
    refine ⟨o, rfl, ho, ?_⟩
    have hb : ∀ e ∈ pth, -1000 ≤ e ∧ e ≤ 1000 := fun e he => by
      rcases p2 e he with z | z
      · cases z
      · omega
    have s1 : Shh (.tuple (pth.map PyData.int)) (16 * pth.length) 1 := ((shw_smalls hb).tup).hh (lf_list fun e he => int60 (by have := hb e he; omega))
    have s2 := shh_one hm hE hD ho
    have pl : pth.length ≤ 21 := by
      have p1 : pth.length ≤ 0 + m.dep + 1 := p1
      omega
    exact ((ShhAll.cons s1 (.cons s2 (ShhAll.nil (k := 0)) (k := 22) (by omega) (by omega)) (by omega) (Nat.le_refl _)).tup).mono (by omega) (by omega)
theorem shh_ones {many dE dD cD : Nat} {m : Ms} (hm : many ≤ 3) (hE : dE ≤ 8) (hD : dD ≤ 8) (a : m.all (OneOk many dE dD cD)) (hc : m.cnt ≤ 300) (hd : m.dep ≤ 20) : Shh (.tuple ((onesI m).map prD)) ((1001 + 3 * wgt dE + 180 * cD) * m.cnt) 24 := by
  have h := shh_list (f := prD) (xs := onesI m) (w := 1000 + 3 * wgt dE + 180 * cD) (k := 23) fun x hx => by
    obtain ⟨o, _, _, h⟩ := shh_pr hm hE hD a hc hd x hx
    exact h
  refine h.tup.mono (Nat.mul_le_mul (by omega) ?_) (by decide)
  rw [ones_len]
  exact ao_len m
theorem motes_bnd {many dE dD cD : Nat} {m : Ms} (a : m.all (OneOk many dE dD cD)) (hc : m.cnt ≤ 300) : (motesI m).natAbs.log2 < 1920 := by
  have h0 : ∀ x ∈ (aoI m).map One.motes, 0 ≤ x ∧ x ≤ 3000000000000 := fun x hx => by
    obtain ⟨o, ho, rfl⟩ := List.mem_map.mp hx
    exact (ao_all a o ho).m1
  have h1 := sum_nonneg (ms := (aoI m).map One.motes) fun x hx => (h0 x hx).1
  have h2 := sum_le (B := 3000000000000) (ms := (aoI m).map One.motes) fun x hx => (h0 x hx).2
  rw [List.length_map] at h2
  have h3 := ao_len m
  have h4 : ((aoI m).length : Int) * 3000000000000 ≤ 300 * 3000000000000 := Int.mul_le_mul_of_nonneg_right (by omega) (by decide)
  have h5 : (motesI m).natAbs < 2 ^ 60 := by
    show (((aoI m).map One.motes).sum).natAbs < 2 ^ 60
    omega
  have := PySem.Flt.log2_lt_of (k := 60) (by decide) h5
  omega
theorem w3 : wgt 3 = 420 := rfl
theorem shh_house {many : Nat} {m : Ms} (hm : many ≤ 3) (a : m.all (OneOk many 3 2 10)) (n : m.nms) (hc : m.cnt ≤ 40) (hd : m.dep ≤ 6) : Shh (.tuple [.int (many : Int), .tuple (msD m)]) 200000 60 := by
  have h1 := (shh_ms hm (by decide) (by decide) a n).tup
  rw [w3] at h1
  have h2 : Shh (.int (many : Int)) 60 0 := .int (by omega)
  have h3 := (ShhAll.cons h2 (.cons h1 (ShhAll.nil (k := 0)) (k := 35) (by omega) (by omega)) (by omega) (Nat.le_refl _)).tup
  exact h3.mono (by omega) (by omega)
theorem shh_ones' {many : Nat} {m : Ms} (hm : many ≤ 3) (a : m.all (OneOk many 3 2 10)) (hc : m.cnt ≤ 40) (hd : m.dep ≤ 6) : Shh (.tuple ((onesI m).map prD)) 200000 60 := by
  have h := shh_ones hm (by decide) (by decide) a (by omega) (by omega)
  rw [w3] at h
  exact h.mono (by omega) (by omega)
theorem shh_one' {many : Nat} {o : One} (hm : many ≤ 3) (a : OneOk many 3 2 10 o) : Shh (oneD o) 200000 60 := by
  have h := shh_one hm (by decide) (by decide) a
  rw [w3] at h
  exact h.mono (by omega) (by omega)
def ofOnes : List One → Ms
  | [] => .nil
  | o :: r => .one o (ofOnes r)
theorem ofOnes_cnt : ∀ os, (ofOnes os).cnt = os.length
  | [] => rfl
  | o :: r => by show 1 + (ofOnes r).cnt = r.length + 1; rw [ofOnes_cnt r]; omega
theorem ofOnes_dep : ∀ os, (ofOnes os).dep = 0
  | [] => rfl
  | o :: r => ofOnes_dep r
theorem ofOnes_nms : ∀ os, (ofOnes os).nms
  | [] => trivial
  | o :: r => ofOnes_nms r
theorem ofOnes_all {P : One → Prop} : ∀ {os : List One}, (∀ o ∈ os, P o) → (ofOnes os).all P
  | [], _ => trivial
  | o :: r, h => ⟨h o (by simp), ofOnes_all fun x hx => h x (List.mem_cons_of_mem _ hx)⟩
end NG

namespace NG
open PySem PySem.Spec PyProof.Rows L2
/-! ### xs[i] read ahead of xs[i] += .. -/
theorem get_neg {X : Cx} : PGet X (fun o i H Q => ∃ (p : Addr) (xs : List V) (k : Int) (z : V), o = .ref p ∧ i = .int k ∧ k < 0 ∧ SqL X.K H p xs ∧ atI xs k = some z ∧ Q z H) := by
  intro pins s σ H o i ov iv Q I ro ri h
  obtain ⟨p, xs, k, z, rfl, rfl, hk, hq, he, q⟩ := h
  cases ro
  obtain ⟨t, rfl⟩ := ri
  obtain ⟨its, r, pl, hz⟩ := I.list hq
  obtain ⟨j, h1, h2, h3, h4, h5⟩ := atI_get he
  obtain ⟨w, ew, rw'⟩ := r.get h2
  have hl := r.length
  have hn := line63
  have hj : (k + (its.toArray.size : Int)).toNat = j := by
    rw [seqIndex_neg (by omega) h4] at h1
    rw [List.size_toArray, ← hl]
    exact Option.some.inj h1
  exact wpAny_getItem_list_neg pl.isList hk (by rw [List.size_toArray]; omega) (by omega) (by rw [hj]; simpa using ew) ⟨z, H, I, rw', q⟩
theorem slAK {X : Cx} (K : PySem.W.Frag) (h : X.K = K := by rfl) : SlR X (rSlA K) := by
  subst h
  exact sl_tupA
theorem catAK {X : Cx} (K : PySem.W.Frag) (h : X.K = K := by rfl) : OpR X (binaryOp .Add) (rCatA K) := by
  subst h
  exact op_catA
theorem pilK {X : Cx} (K : PySem.W.Frag) {tg l : Expr} {tl : TE} (hl : PE X l tl) (h : X.K = K := by rfl) : PI X tg l (iList K tl) := by
  subst h
  exact pi_list hl
theorem pitK {X : Cx} (K : PySem.W.Frag) {tg l : Expr} {tl : TE} (hl : PE X l tl) (h : X.K = K := by rfl) : PI X tg l (iTup K tl) := by
  subst h
  exact pi_tup hl
end NG

namespace NG
open PySem PySem.Spec PyProof.Rows L2
/-! ### zip of a tuple with a list -/
def ItTL (K : PySem.W.Frag) (a b : Addr) : It :=
  ⟨fun i H => ∃ (us ws : List V) (u v : V), SqT K H a us ∧ SqL K H b ws ∧ us[i]? = some u ∧ ws[i]? = some v,
   fun i H r H' => ∃ (T : Addr) (u v : V), r = .ref T ∧ H T = none ∧ H' = upd H T (.tup [u, v]) ∧ (∀ us, SqT K H a us → us[i]? = some u) ∧ ∀ ws, SqL K H b ws → ws[i]? = some v,
   fun i H => ∃ us ws : List V, SqT K H a us ∧ SqL K H b ws ∧ us.length = i ∧ ws.length = i⟩
theorem turn_TL {P : Program} {w : World} {K : PySem.W.Frag} {es : List Expr} {k : Nat} {ps : Pos} {a b z TI TO i1 i2 : Addr} (S : ZipSep2 z TI TO i1 i2 [i1, a] [i2, b]) (na : a ≠ i1) (nb : b ≠ i2) :
    Turn P w K (.Tuple es k ps) (ItTL K a b) [z, TI, TO, i1, i2] z (fun i h => IsZip h z TI TO .none ∧ IsTupOf2 h TI (.ref i1) (.ref i2) ∧ (∃ c d, IsTupOf2 h TO c d) ∧ h.IsTupleIter i1 a i ∧ h.IsListIter i2 b i) := by
  have five : ∀ {c : Addr}, c ∈ [z, TI, TO, i1, i2] → c = z ∨ c = TI ∨ c = TO ∨ c = i1 ∨ c = i2 := fun h => by simpa using h
  have lives : ∀ (i : Nat) (h : Heap), (IsZip h z TI TO .none ∧ IsTupOf2 h TI (.ref i1) (.ref i2) ∧ (∃ c d, IsTupOf2 h TO c d) ∧ h.IsTupleIter i1 a i ∧ h.IsListIter i2 b i) → ∀ c ∈ [z, TI, TO, i1, i2], ∃ o, h.get? c = some o ∧ ∀ v, o.data ≠ .cell v := fun i h st c hc => by
    obtain ⟨s1, s2, ⟨x, y, s3⟩, ⟨o4, s4, _, d4⟩, ⟨o5, s5, _, d5⟩⟩ := st
    rcases five hc with rfl | rfl | rfl | rfl | rfl
    · exact ⟨_, s1, fun v q => nomatch q⟩
    · exact ⟨_, s2, fun v q => nomatch q⟩
    · exact ⟨_, s3, fun v q => nomatch q⟩
    · exact ⟨o4, s4, fun v q => by rw [d4] at q; exact nomatch q⟩
    · exact ⟨o5, s5, fun v q => by rw [d5] at q; exact nomatch q⟩
  refine ⟨List.mem_cons_self, lives, fun i h h' st kp => ?_, fun X eP ew eK hc i pins s σ H E I hf st hg => ?_, fun X eP ew eK hc i pins s σ H E I hf st hg => ?_, fun A i s Q E st q => wpAny_pyIter_zip st.1 q⟩
  · obtain ⟨s1, s2, ⟨x, y, s3⟩, s4, s5⟩ := st
    exact ⟨kp _ (by simp) _ s1, kp _ (by simp) _ s2, ⟨x, y, kp _ (by simp) _ s3⟩, s4.at fun o q => kp _ (by simp) o q, s5.at fun o q => kp _ (by simp) o q⟩
  · cases eP
    cases ew
    cases eK
    have lv := lives i _ st
    obtain ⟨s1, s2, s3, s4, s5⟩ := st
    obtain ⟨us, ws, u, v, qa, qb, hu, hv⟩ := hg
    obtain ⟨la, ra, pa, _⟩ := I.tuple qa
    obtain ⟨lb, rb, pb, _⟩ := I.list qb
    obtain ⟨u', eu, ru⟩ := ra.get hu
    obtain ⟨v', ev', rv⟩ := rb.get hv
    have W := WalksT.zipD2 (A := X.A) S (Draws.tuple (A := X.A.in1) (I.ok.hd hc) i1 a na la.toArray) (Draws.list (prog := X.prog) (w := X.w) (A := X.A.in1) (I.ok.hd hc) i2 b nb lb.toArray)
    have il : i < la.length := (List.getElem?_eq_some_iff.mp eu).1
    have ir : i < lb.length := (List.getElem?_eq_some_iff.mp ev').1
    refine W.item i s _ E (by rw [List.size_toArray, List.size_toArray]; omega) ⟨s1, s2, s3, ⟨s4, pa⟩, ⟨s5, pb.isList⟩⟩ fun T vals h1 tk pv hT tT mid k1 => ⟨_, rfl, ?_⟩
    have apT := W.apart i T h1 mid
    refine W.go es k ps i T _ _ _ mid fun h2 st2 k2 => ?_
    obtain ⟨x1, x2, e1, e2, rfl⟩ := pv
    have f1 : x1 = u' := by
      have := e1.symm.trans (show la.toArray[i]? = some u' by simpa using eu)
      exact Option.some.inj this
    have f2 : x2 = v' := by
      have := e2.symm.trans (show lb.toArray[i]? = some v' by simpa using ev')
      exact Option.some.inj this
    subst f1 f2
    obtain ⟨z1, z2, z3, ⟨z4, _⟩, ⟨z5, _⟩⟩ := st2
    have tT2 : h2.IsTuple T #[x1, x2] := tT.at fun o e => k2 T o apT e
    have in5 : ∀ c, c ∉ [z, TI, TO, i1, i2] → c ∉ [z, TO, i1, i2] := fun c h m => h (by
      rcases (by simpa using m : c = z ∨ c = TO ∨ c = i1 ∨ c = i2) with rfl | rfl | rfl | rfl <;> simp)
    have J := I.turnedNew (h' := h2) (t' := tk) (ch := [z, TI, TO, i1, i2]) (T := T) (ob := .tup [u, v]) (fun c o hb' q => k2 c o (in5 c hb') (k1 c o (in5 c hb') q)) hf hT ⟨(by show 2 ≤ sizeLine; decide), [x1, x2], .cons ru (.cons rv .nil), tT2⟩
    refine ⟨.ref T, _, J, rfl, ⟨T, u, v, rfl, I.hok.fresh hT, rfl, fun l hl => ?_, fun l hl => ?_⟩, ⟨z1, z2, z3, z4, z5⟩, fun c hcm => ?_⟩
    · rw [I.tuple_inj hl qa]
      exact hu
    · rw [I.list_inj hl qb]
      exact hv
    · obtain ⟨o, ho, _⟩ := lv c hcm
      have lt := Heap.lt_size ho
      rw [upd_ne (Nat.ne_of_lt (Nat.lt_of_lt_of_le lt hT))]
      exact (hf c hcm).1
  · cases eP
    cases ew
    cases eK
    obtain ⟨s1, s2, s3, s4, s5⟩ := st
    obtain ⟨us, ws, qa, qb, e1, e2⟩ := hg
    obtain ⟨la, ra, pa, _⟩ := I.tuple qa
    obtain ⟨lb, rb, pb, _⟩ := I.list qb
    have W := WalksT.zipD2 (A := X.A) S (Draws.tuple (A := X.A.in1) (I.ok.hd hc) i1 a na la.toArray) (Draws.list (prog := X.prog) (w := X.w) (A := X.A.in1) (I.ok.hd hc) i2 b nb lb.toArray)
    have l1 := ra.length
    have l2 := rb.length
    have en : min la.toArray.size lb.toArray.size = i := by
      rw [List.size_toArray, List.size_toArray]
      omega
    rw [en] at W
    refine W.done s _ E ⟨s1, s2, s3, ⟨s4, pa⟩, ⟨s5, pb.isList⟩⟩ fun h1 tk k1 => ⟨rfl, ?_⟩
    exact I.turnedL (t' := tk) (ch := [z, TI, TO, i1, i2]) (fun c o hb' q => k1 c o (fun m => hb' (by rcases (by simpa using m : c = z ∨ c = TO ∨ c = i1 ∨ c = i2) with rfl | rfl | rfl | rfl <;> simp)) q) hf
def iZipTL (K : PySem.W.Frag) (ta : TA) : TI := fun σ H R => ta σ H fun vs H1 => ∃ a b us ws, vs = [.ref a, .ref b] ∧ SqT K H1 a us ∧ SqL K H1 b ws ∧ R (ItTL K a b) H1
theorem pi_zipTL {X : Cx} {e e2 : Expr} {ta : TA} {p pos tpos : Pos} {elts : List Expr} {kk : Nat} (hg : Gl X "zip") (hm : X.mg "zip" = none) (ha : PA X [e, e2] ta)
    (hs : starEach [e, e2] X.env = (false, eval e X.env) :: starEach [e2] X.env := by rfl) (hpl : (backTo pos (starEach [e2] X.env)).any (·.1) = false := by rfl) : PI X (.Tuple elts kk tpos) (.Call (.Name "zip" p) [e, e2] [] pos) (iZipTL X.K ta) := by
  refine ⟨fun pins s σ H R I h => Call_ (ld_blt I hg hm PyProof.Rows.boot_zip (PyProof.Rows.callWith_type1 (thn (ha.run pos pins s σ H _ I h) fun us s1 ⟨vs, H1, I1, r1, q1⟩ => ?_) hs hpl))⟩
  obtain ⟨a, b, ul, wl, rfl, qa, qb, q⟩ := q1
  obtain ⟨v1, v2, rfl, t1, t2⟩ := vals2 r1
  cases t1
  cases t2
  obtain ⟨la, ra, pa, _⟩ := I1.tuple qa
  obtain ⟨lb, rb, pb, _⟩ := I1.list qb
  obtain ⟨ob, hob, _⟩ := id pa
  have lt1 : a < s1.heap.objs.size := Heap.lt_size hob
  have lt2 : b < s1.heap.objs.size := pb.lt
  refine zip_begins2 (begins_tuple a la.toArray) (begins_list b lb.toArray) pa pb.isList fun h' hz hTI hTO g1 g2 hsz hk => wpAny_pyIter_zip hz ?_
  have J : Inv X pins σ H1 { s1 with heap := h' } := I1.kept (t' := s1.toks) hk
  have S := zip_sep2 (N := s1.heap.objs.size) (fp1 := [a]) (fp2 := [b]) (fun c hc => by rw [List.mem_singleton.mp hc]; exact lt1) (fun c hc => by rw [List.mem_singleton.mp hc]; exact lt2)
  refine ⟨_, _, _, _, H1, rfl, J, turn_TL S (Nat.ne_of_lt lt1) (Nat.ne_of_lt (Nat.lt_succ_of_lt lt2)), ⟨hz, hTI, ⟨_, _, hTO⟩, ⟨_, g1, rfl, rfl⟩, ⟨_, g2, rfl, rfl⟩⟩, fun c hcm => ?_, q⟩
  have le : s1.heap.objs.size ≤ c := by
    rcases (by simpa using hcm : c = s1.heap.objs.size + 4 ∨ c = s1.heap.objs.size + 2 ∨ c = s1.heap.objs.size + 3 ∨ c = s1.heap.objs.size ∨ c = s1.heap.objs.size + 1) with e | e | e | e | e <;> (rw [e]; first | exact Nat.le_refl _ | exact Nat.le_add_right _ _)
  exact I1.fpOk le (I1.hok.fresh le)
theorem walk_TL {K : PySem.W.Frag} {a b : Addr} {us ws : List V} {n : Nat} (hx : us.length = n) (hy : ws.length = n) : Walk (ItTL K a b) n (fun H => SqT K H a us ∧ SqL K H b ws) (YPair (fun i => us[i]?) (fun i => ws[i]?)) := by
  refine ⟨fun i H hi q => ⟨us, ws, us[i]'(by omega), ws[i]'(by omega), q.1, q.2, List.getElem?_eq_getElem _, List.getElem?_eq_getElem _⟩, fun H q => ⟨us, ws, q.1, q.2, hx, hy⟩, fun i H v H' hi q y => ?_⟩
  obtain ⟨T, x, z, h1, h2, h3, h4, h5⟩ := y
  exact ⟨T, x, z, h1, h2, h3, h4 us q.1, h5 ws q.2⟩
theorem tupK {X : Cx} (K : PySem.W.Frag) {a : Expr} {ta : TE} {p pos : Pos} (hg : Gl X "tuple") (hm : X.mg "tuple" = none) (ha : PE X a ta) (na : starEach [a] X.env = (false, eval a X.env) :: starEach [] X.env := by rfl) (h : X.K = K := by rfl) :
    PE X (.Call (.Name "tuple" p) [a] [] pos) (tThen ta (kTup K)) := by
  subst h
  exact pe_tupleOf hg hm ha na
/-! ### max of a tuple of ints -/
def rMaxT (K : PySem.W.Frag) : List V → Hp → VK → Prop := fun vs H Q => ∃ (a : Addr) (n : Int) (ns : List Int), vs = [V.ref a] ∧ SqT K H a ((n :: ns).map V.int) ∧ Q (.int (ns.foldl max n)) H
theorem depth_ints : ∀ ns : List Int, PyData.depthAll (ns.map PyData.int) = 0
  | [] => rfl
  | n :: r => by
    rw [List.map_cons]
    show max (PyData.depth (.int n)) (PyData.depthAll (r.map PyData.int)) = 0
    rw [depth_ints r]
    rfl
theorem cr_maxT {X : Cx} (hc : X.calm = true) (hu : X.A.units + 64 < cLine) : CallR X (.builtin "max") (rMaxT X.K) := by
  intro pins s σ H vs us Q I r h
  obtain ⟨a, n, ns, rfl, hs, q⟩ := h
  obtain ⟨its, rv, p, _⟩ := I.tuple hs
  rw [Vals.ref1 r]
  obtain ⟨as, hr⟩ := Dp.readsAll I ((n :: ns).map PyData.int) _ its (dp_ints (n :: ns)) rv
  rw [List.map_cons] at hr
  have al : PySem.W.AlikeAll (PyData.int n :: ns.map PyData.int) := ⟨fun x hx y hy => by
    rw [← List.map_cons (f := PyData.int)] at hx hy
    obtain ⟨i, _, rfl⟩ := List.mem_map.mp hx
    obtain ⟨j, _, rfl⟩ := List.mem_map.mp hy
    rfl, fun x hx => by
    rw [← List.map_cons (f := PyData.int)] at hx
    obtain ⟨i, _, rfl⟩ := List.mem_map.mp hx
    exact fun e => nomatch e⟩
  refine PySem.W.max_tuple_data (I.ok.hd hc) p (by simpa using hr) al (by rw [← List.map_cons (f := PyData.int), depth_ints]; omega) fun i v h' tk bs _ rd hk => ?_
  rw [PySem.W.maxD_ints] at rd
  cases rd
  exact ⟨.int _, H, I.kept hk, ⟨_, rfl⟩, q⟩
theorem foldl_max_spec : ∀ (ns : List Int) (n : Int), (n ≤ ns.foldl max n ∧ ∀ x ∈ ns, x ≤ ns.foldl max n) ∧ (ns.foldl max n = n ∨ ns.foldl max n ∈ ns)
  | [], n => ⟨⟨Int.le_refl _, fun _ h => absurd h (by simp)⟩, .inl rfl⟩
  | k :: r, n => by
    rw [List.foldl_cons]
    obtain ⟨⟨h1, h2⟩, h3⟩ := foldl_max_spec r (max n k)
    have e1 : n ≤ max n k := Int.le_max_left ..
    have e2 : k ≤ max n k := Int.le_max_right ..
    refine ⟨⟨Int.le_trans e1 h1, fun x hx => ?_⟩, ?_⟩
    · rcases List.mem_cons.mp hx with rfl | hx
      · exact Int.le_trans e2 h1
      · exact h2 x hx
    · rcases h3 with h3 | h3
      · rw [h3]
        by_cases c : n ≤ k
        · rw [Int.max_eq_right c]
          exact .inr (by simp)
        · rw [Int.max_eq_left (by omega)]
          exact .inl rfl
      · exact .inr (List.mem_cons_of_mem _ h3)
/-! ### gains -/
def dotI (ss ps : List Int) : Int := (List.zipWith (· * ·) ss ps).sum
def gainI (ss ps : List Int) (p : Int) : Int := ss.sum * p - dotI ss ps
def rightI (ss ps : List Int) (g : Int) : Bool := (List.zipWith (fun s p => (s == 0 || p == g)) ss ps).all id
theorem dot_lin (c d : Int) : ∀ ss ps : List Int, ss.length = ps.length → dotI ss (ps.map fun p => c * p - d) = c * dotI ss ps - d * ss.sum
  | [], [], _ => by simp [dotI]
  | s :: ss, p :: ps, h => by
    have ih := dot_lin c d ss ps (by simpa using h)
    unfold dotI at ih ⊢
    rw [List.map_cons, List.zipWith_cons_cons, List.zipWith_cons_cons, List.sum_cons, List.sum_cons, List.sum_cons, ih, Int.mul_add, Int.mul_add]
    have e1 : s * (c * p - d) = c * (s * p) - d * s := by rw [Int.mul_sub, Int.mul_left_comm, Int.mul_comm s d]
    omega
theorem gains_nought (ss ps : List Int) (h : ss.length = ps.length) : dotI ss (ps.map (gainI ss ps)) = 0 := by
  show dotI ss (ps.map fun p => ss.sum * p - dotI ss ps) = 0
  rw [dot_lin _ _ _ _ h, Int.mul_comm]
  omega
theorem dot_gap (g : Int) : ∀ ss ps : List Int, ss.length = ps.length → (∀ s ∈ ss, 0 ≤ s) → (∀ p ∈ ps, p ≤ g) → dotI ss ps ≤ ss.sum * g ∧ (dotI ss ps = ss.sum * g ↔ rightI ss ps g = true)
  | [], [], _, _, _ => by simp [dotI, rightI]
  | s :: ss, p :: ps, h, hs, hp => by
    obtain ⟨i1, i2⟩ := dot_gap g ss ps (by simpa using h) (fun x hx => hs x (List.mem_cons_of_mem _ hx)) (fun x hx => hp x (List.mem_cons_of_mem _ hx))
    have s0 := hs s (by simp)
    have p0 := hp p (by simp)
    have e : (List.zipWith (fun x1 x2 => x1 * x2) (s :: ss) (p :: ps)).sum = s * p + dotI ss ps := by
      rw [List.zipWith_cons_cons, List.sum_cons]
      rfl
    have er : rightI (s :: ss) (p :: ps) g = ((s == 0 || p == g) && rightI ss ps g) := rfl
    have m : s * p ≤ s * g := Int.mul_le_mul_of_nonneg_left p0 s0
    have es : (s :: ss).sum * g = s * g + ss.sum * g := by rw [List.sum_cons, Int.add_mul]
    have ed : dotI (s :: ss) (p :: ps) = s * p + dotI ss ps := e
    rw [es, ed, er]
    refine ⟨by omega, ?_⟩
    have eq : s * p = s * g ↔ (s == 0 || p == g) = true := by
      rw [Bool.or_eq_true, beq_iff_eq, beq_iff_eq]
      constructor
      · intro q
        by_cases z : s = 0
        · exact .inl z
        · exact .inr (Int.eq_of_mul_eq_mul_left z q)
      · rintro (rfl | rfl)
        · rw [Int.zero_mul, Int.zero_mul]
        · rfl
    rw [Bool.and_eq_true, ← i2, ← eq]
    omega
/-- who is right: just where the greatest gain is at most 0 -/
theorem right_iff {ss ps : List Int} {g m : Int} (h : ss.length = ps.length) (hs : ∀ s ∈ ss, 0 ≤ s) (h0 : 0 < ss.sum) (hg : g ∈ ps) (hp : ∀ p ∈ ps, p ≤ g) (hm : m ∈ ps.map (gainI ss ps)) (hx : ∀ y ∈ ps.map (gainI ss ps), y ≤ m) : rightI ss ps g = decide (m ≤ 0) := by
  obtain ⟨g1, g2⟩ := dot_gap g ss ps h hs hp
  obtain ⟨p, hpm, rfl⟩ := List.mem_map.mp hm
  have k1 := hx (gainI ss ps g) (List.mem_map_of_mem hg)
  have k2 : ss.sum * p ≤ ss.sum * g := Int.mul_le_mul_of_nonneg_left (hp p hpm) (Int.le_of_lt h0)
  unfold gainI at k1 ⊢
  rw [Bool.eq_iff_iff, ← g2, decide_eq_true_iff]
  constructor
  · intro e
    omega
  · intro e
    omega
end NG

namespace NG
open PySem PySem.Spec PyProof.Rows L2
/-! ### rough numbers -/
def bl (n : Nat) : Nat := if n = 0 then 0 else n.log2 + 1
theorem bl_eq (n : Nat) : Builtin.Int.intBits (n : Int) = bl n := by
  unfold Builtin.Int.intBits bl
  rw [Int.natAbs_natCast]
  by_cases h : n = 0
  · subst h
    rfl
  · rw [if_neg h, if_neg (by simpa using h)]
theorem lt_bl (n : Nat) : n < 2 ^ bl n := by
  unfold bl
  by_cases h : n = 0
  · subst h
    decide
  · rw [if_neg h]
    exact Nat.lt_log2_self
theorem bl_le {n k : Nat} (h : n < 2 ^ k) : bl n ≤ k := by
  unfold bl
  by_cases h0 : n = 0
  · rw [if_pos h0]
    exact Nat.zero_le _
  · rw [if_neg h0]
    exact (Nat.log2_lt h0).mpr h
theorem pow_bl {n : Nat} (h : n ≠ 0) : 2 ^ (bl n - 1) ≤ n ∧ 1 ≤ bl n := by
  unfold bl
  rw [if_neg h]
  exact ⟨Nat.log2_self_le h, by omega⟩
def cd (h s : Nat) : Nat := (h + 2 ^ s - 1) / 2 ^ s
theorem cd_cast (h s : Nat) : -(-(h : Int) / 2 ^ s) = ((cd h s : Nat) : Int) := by
  have hp : 0 < 2 ^ s := Nat.pow_pos (by decide)
  have e : (2 : Int) ^ s = ((2 ^ s : Nat) : Int) := by push_cast; rfl
  rw [e]
  unfold cd
  generalize 2 ^ s = p at hp
  have d1 := Nat.div_add_mod (h + p - 1) p
  have d2 := Nat.mod_lt (h + p - 1) hp
  generalize (h + p - 1) / p = q at *
  generalize (h + p - 1) % p = r at *
  have key : -(h : Int) / (p : Int) = -(q : Int) := by
    have a1 : -(q : Int) ≤ -(h : Int) / (p : Int) := by
      rw [Int.le_ediv_iff_mul_le (by omega)]
      have : (h : Int) ≤ (q : Int) * (p : Int) := by
        have z : h ≤ p * q := by omega
        have z2 : ((p * q : Nat) : Int) = (q : Int) * (p : Int) := by push_cast; exact Int.mul_comm _ _
        omega
      rw [Int.neg_mul]
      omega
    have a2 : -(h : Int) / (p : Int) < -(q : Int) + 1 := by
      rw [Int.ediv_lt_iff_lt_mul (by omega), Int.add_mul, Int.neg_mul, Int.one_mul]
      have z2 : ((p * q : Nat) : Int) = (q : Int) * (p : Int) := by push_cast; exact Int.mul_comm _ _
      omega
    omega
  rw [key]
  omega
abbrev Rg := Nat × Nat × Nat
structure Rgh (L bits x : Nat) (r : Rg) : Prop where
  lo : r.1 * 2 ^ r.2.2 ≤ x
  hi : x ≤ r.2.1 * 2 ^ r.2.2
  le : r.1 ≤ r.2.1
  sz : r.2.1 ≤ 2 ^ bits
  ex : L ≤ bits → r = (x, x, 0)
def trimR (lo hi sh bits : Nat) : Rg := (lo / 2 ^ (bl hi - bits), cd hi (bl hi - bits), sh + (bl hi - bits))
theorem trim_ok {L bits x lo hi sh : Nat} (h1 : lo * 2 ^ sh ≤ x) (h2 : x ≤ hi * 2 ^ sh) (h3 : lo ≤ hi) (hx : x < 2 ^ L) (ex : L ≤ bits → lo = x ∧ hi = x ∧ sh = 0) : Rgh L bits x (trimR lo hi sh bits) := by
  unfold trimR
  have hb := lt_bl hi
  generalize hs : bl hi - bits = s
  have hp : 0 < 2 ^ s := Nat.pow_pos (by decide)
  have d1 := Nat.div_add_mod (hi + 2 ^ s - 1) (2 ^ s)
  have d2 := Nat.mod_lt (hi + 2 ^ s - 1) hp
  have hc : hi ≤ cd hi s * 2 ^ s := by
    unfold cd
    rw [Nat.mul_comm]
    omega
  refine ⟨?_, ?_, ?_, ?_, ?_⟩
  · show lo / 2 ^ s * 2 ^ (sh + s) ≤ x
    rw [Nat.add_comm, Nat.pow_add, ← Nat.mul_assoc]
    exact Nat.le_trans (Nat.mul_le_mul_right _ (Nat.div_mul_le_self lo (2 ^ s))) h1
  · show x ≤ cd hi s * 2 ^ (sh + s)
    rw [Nat.add_comm, Nat.pow_add, ← Nat.mul_assoc]
    exact Nat.le_trans h2 (Nat.mul_le_mul_right _ hc)
  · show lo / 2 ^ s ≤ cd hi s
    exact Nat.div_le_div_right (by omega)
  · show cd hi s ≤ 2 ^ bits
    have : hi < 2 ^ bits * 2 ^ s := by
      rw [← Nat.pow_add]
      exact Nat.lt_of_lt_of_le hb (Nat.pow_le_pow_right (by decide) (by omega))
    unfold cd
    rw [← Nat.lt_succ_iff, Nat.div_lt_iff_lt_mul hp, Nat.succ_mul]
    omega
  · intro hL
    obtain ⟨rfl, rfl, rfl⟩ := ex hL
    have := bl_le hx
    have e0 : s = 0 := by omega
    subst e0
    unfold cd
    simp
def timesR (a b : Rg) (bits : Nat) : Rg := trimR (a.1 * b.1) (a.2.1 * b.2.1) (a.2.2 + b.2.2) bits
theorem times_ok {L bits x y : Nat} {a b : Rg} (ha : Rgh L bits x a) (hb : Rgh L bits y b) (h : x * y < 2 ^ L) : Rgh L bits (x * y) (timesR a b bits) := by
  refine trim_ok ?_ ?_ (Nat.mul_le_mul ha.le hb.le) h ?_
  · rw [Nat.pow_add, show a.1 * b.1 * (2 ^ a.2.2 * 2 ^ b.2.2) = (a.1 * 2 ^ a.2.2) * (b.1 * 2 ^ b.2.2) by grind]
    exact Nat.mul_le_mul ha.lo hb.lo
  · rw [Nat.pow_add, show a.2.1 * b.2.1 * (2 ^ a.2.2 * 2 ^ b.2.2) = (a.2.1 * 2 ^ a.2.2) * (b.2.1 * 2 ^ b.2.2) by grind]
    exact Nat.mul_le_mul ha.hi hb.hi
  · intro hL
    rw [ha.ex hL, hb.ex hL]
    exact ⟨rfl, rfl, rfl⟩
theorem one_ok {L bits : Nat} : Rgh L bits 1 (1, 1, 0) := ⟨by decide, by decide, by decide, Nat.pow_pos (by decide), fun _ => rfl⟩
theorem plain_ok {L bits x : Nat} (h : x < 2 ^ L) : Rgh L bits x (trimR x x 0 bits) := trim_ok (by simp) (by simp) (Nat.le_refl _) h fun _ => ⟨rfl, rfl, rfl⟩
/-- n * 2 ^ s > m * 2 ^ t -/
def abv (n s m t : Nat) : Bool := decide (m * 2 ^ t < n * 2 ^ s)
theorem abv_zero {n s m t : Nat} (h : n = 0 ∨ m = 0) : abv n s m t = decide (m < n) := by
  unfold abv
  have hs : 0 < 2 ^ s := Nat.pow_pos (by decide)
  rcases h with rfl | rfl
  · rw [decide_eq_false (by omega), decide_eq_false (by omega)]
  · by_cases hn : n = 0
    · subst hn
      rw [decide_eq_false (by omega), decide_eq_false (by omega)]
    · have : 0 < n * 2 ^ s := Nat.mul_pos (by omega) hs
      rw [decide_eq_true (by omega), decide_eq_true (by omega)]
theorem abv_size {n s m t : Nat} (hn : n ≠ 0) (hm : m ≠ 0) (h : bl n + s ≠ bl m + t) : abv n s m t = decide (bl m + t < bl n + s) := by
  have key : ∀ {n s m t : Nat}, n ≠ 0 → bl m + t < bl n + s → m * 2 ^ t < n * 2 ^ s := fun {n s m t} hn h => by
    have h1 := lt_bl m
    obtain ⟨h2, h3⟩ := pow_bl hn
    have a1 : m * 2 ^ t < 2 ^ (bl m + t) := by
      rw [Nat.pow_add]
      exact (Nat.mul_lt_mul_right (Nat.pow_pos (by decide))).mpr h1
    have a2 : 2 ^ (bl n - 1 + s) ≤ n * 2 ^ s := by
      rw [Nat.pow_add]
      exact Nat.mul_le_mul_right _ h2
    have a3 : (2 : Nat) ^ (bl m + t) ≤ 2 ^ (bl n - 1 + s) := Nat.pow_le_pow_right (by decide) (by omega)
    omega
  unfold abv
  by_cases c : bl m + t < bl n + s
  · rw [decide_eq_true (key hn c), decide_eq_true c]
  · have := key (n := m) (s := t) (m := n) (t := s) hm (by omega)
    rw [decide_eq_false (by omega), decide_eq_false c]
theorem abv_shift {n s m t : Nat} : abv n s m t = decide (m * 2 ^ (t - min s t) < n * 2 ^ (s - min s t)) := by
  unfold abv
  have e : ∀ a k l : Nat, l ≤ k → a * 2 ^ k = a * 2 ^ (k - l) * 2 ^ l := fun a k l h => by
    rw [Nat.mul_assoc, ← Nat.pow_add, Nat.sub_add_cancel h]
  rw [e m t (min s t) (Nat.min_le_right _ _), e n s (min s t) (Nat.min_le_left _ _)]
  have hp : 0 < 2 ^ min s t := Nat.pow_pos (by decide)
  rw [decide_eq_decide]
  exact Nat.mul_lt_mul_right hp
def cmpR (a b : Rg) : Int := if abv a.1 a.2.2 b.2.1 b.2.2 = true then 1 else if abv a.2.1 a.2.2 b.1 b.2.2 = true then 0 else -1
theorem cmp_ok {L bits x y : Nat} {a b : Rg} (ha : Rgh L bits x a) (hb : Rgh L bits y b) : (cmpR a b = 1 ∧ y < x) ∨ (cmpR a b = -1 ∧ x ≤ y) ∨ (cmpR a b = 0 ∧ bits < L) := by
  unfold cmpR
  by_cases c : abv a.1 a.2.2 b.2.1 b.2.2 = true
  · rw [if_pos c]
    unfold abv at c
    have c := of_decide_eq_true c
    have := ha.lo
    have := hb.hi
    exact .inl ⟨rfl, by omega⟩
  · rw [if_neg c]
    by_cases d : abv a.2.1 a.2.2 b.1 b.2.2 = true
    · rw [if_pos d]
      refine .inr (.inr ⟨rfl, ?_⟩)
      by_cases hL : L ≤ bits
      · rw [ha.ex hL, hb.ex hL] at c d
        exact absurd d c
      · omega
    · rw [if_neg d]
      unfold abv at d
      have d : ¬ (b.1 * 2 ^ b.2.2 < a.2.1 * 2 ^ a.2.2) := fun z => d (decide_eq_true z)
      have := ha.hi
      have := hb.lo
      exact .inr (.inl ⟨rfl, by omega⟩)

/-! ### the greatest off -/
def tkN (far days w j : Nat) : Nat := (500 + far) ^ j * (500 - far) ^ (2 * days - j) * (w * w)
def gvN (days held : Nat) : Nat := 500 ^ (2 * days) * (held * held)
def bornN (far days w held j : Nat) : Bool := decide (tkN far days w j ≤ gvN days held)
theorem tk_up {far days w j : Nat} (h : j < 2 * days) : tkN far days w j ≤ tkN far days w (j + 1) := by
  unfold tkN
  refine Nat.mul_le_mul_right _ ?_
  rw [show 2 * days - j = 2 * days - (j + 1) + 1 by omega, Nat.pow_succ, Nat.pow_succ]
  rw [show (500 + far) ^ j * ((500 - far) ^ (2 * days - (j + 1)) * (500 - far)) = (500 + far) ^ j * (500 - far) * (500 - far) ^ (2 * days - (j + 1)) by grind]
  exact Nat.mul_le_mul_right _ (Nat.mul_le_mul_left _ (by omega))
theorem tk_mono {far days w i : Nat} : ∀ {k : Nat}, i + k ≤ 2 * days → tkN far days w i ≤ tkN far days w (i + k)
  | 0, _ => Nat.le_refl _
  | k + 1, h => Nat.le_trans (tk_mono (k := k) (by omega)) (tk_up (by omega))
theorem born_down {far days w held i j : Nat} (hij : i ≤ j) (hj : j ≤ 2 * days) (h : bornN far days w held j = true) : bornN far days w held i = true := by
  unfold bornN at *
  have h := of_decide_eq_true h
  have := tk_mono (far := far) (days := days) (w := w) (i := i) (k := j - i) (by omega)
  rw [show i + (j - i) = j by omega] at this
  exact decide_eq_true (by omega)
def lastJ (P : Nat → Bool) : Nat → Option Nat
  | 0 => none
  | n + 1 => if P n = true then some n else lastJ P n
theorem lastJ_none {P : Nat → Bool} : ∀ {n : Nat}, (∀ j, j < n → P j = false) → lastJ P n = none
  | 0, _ => rfl
  | n + 1, h => by
    unfold lastJ
    rw [if_neg (by rw [h n (by omega)]; exact Bool.false_ne_true)]
    exact lastJ_none fun j hj => h j (by omega)
theorem lastJ_some {P : Nat → Bool} {l : Nat} (hl : P l = true) : ∀ {n : Nat}, l < n → (∀ j, l < j → j < n → P j = false) → lastJ P n = some l
  | 0, h, _ => by omega
  | n + 1, h, hj => by
    unfold lastJ
    by_cases e : l = n
    · subst e
      rw [if_pos hl]
    · rw [if_neg (by rw [hj n (by omega) (by omega)]; exact Bool.false_ne_true)]
      exact lastJ_some hl (by omega) fun j h1 h2 => hj j h1 (by omega)
def moI (far days w held : Nat) : Option Nat := lastJ (bornN far days w held) (2 * days + 1)
def moV (days : Nat) : Option Nat → V
  | none => .non
  | some j => .int ((j : Int) - (days : Int))
theorem mo_none {far days w held : Nat} (h : bornN far days w held 0 = false) : moI far days w held = none := lastJ_none fun j hj => by
  by_cases c : bornN far days w held j = true
  · rw [born_down (Nat.zero_le j) (by omega) c] at h
    cases h
  · simpa using c
theorem mo_some {far days w held l : Nat} (hl : l ≤ 2 * days) (h : bornN far days w held l = true) (hn : l = 2 * days ∨ bornN far days w held (l + 1) = false) : moI far days w held = some l := by
  refine lastJ_some h (by omega) fun j h1 h2 => ?_
  rcases hn with e | e
  · omega
  · by_cases c : bornN far days w held j = true
    · rw [born_down (i := l + 1) (by omega) (by omega) c] at e
      cases e
    · simpa using c
/-! ### sizes -/
theorem pow_size {b e k : Nat} (hb : b < 2 ^ k) : b ^ e ≤ 2 ^ (k * e) := by
  rw [Nat.pow_mul]
  exact Nat.pow_le_pow_left (Nat.le_of_lt hb) e
def LL : Nat := 25000
theorem pw_size {b e : Nat} (hb : b < 1024) (he : e ≤ 2000) : b ^ e ≤ 2 ^ 20000 := by
  have h := pow_size (b := b) (e := e) (k := 10) hb
  exact Nat.le_trans h (Nat.pow_le_pow_right (by decide) (by omega))
theorem size_lt {a b : Nat} (h : a < b) : (2 : Nat) ^ a < 2 ^ b := Nat.pow_lt_pow_right (by decide) h
theorem pw_LL {b e : Nat} (hb : b < 1024) (he : e ≤ 2000) : b ^ e < 2 ^ LL := Nat.lt_of_le_of_lt (pw_size hb he) (size_lt (by decide))

/-! ### on the heap -/
def RgAt (K : PySem.W.Frag) (H : Hp) (r : Rg) (v : V) : Prop := ∃ p, v = .ref p ∧ SqT K H p [.int (r.1 : Int), .int (r.2.1 : Int), .int (r.2.2 : Int)]
theorem RgAt.same {K : PySem.W.Frag} {H H' : Hp} {x : Rg} {v : V} (r : RgAt K H x v) (s : Same H H') : RgAt K H' x v := by
  obtain ⟨p, e, q⟩ := r
  exact ⟨p, e, same_sqt s q⟩
def spTrim (K : PySem.W.Frag) : Sp := fun vs H Q _ => ∃ lo hi sh bits : Nat, vs = [.int (lo : Int), .int (hi : Int), .int (sh : Int), .int (bits : Int)] ∧ ∀ H' v, Same H H' → RgAt K H' (trimR lo hi sh bits) v → Q v H'
def spTimes (K : PySem.W.Frag) : Sp := fun vs H Q _ => ∃ (u v : V) (a b : Rg) (bits : Nat), vs = [u, v, .int (bits : Int)] ∧ RgAt K H a u ∧ RgAt K H b v ∧ bits ≤ 200000 ∧ a.1 ≤ a.2.1 ∧ b.1 ≤ b.2.1 ∧ a.2.1 ≤ 2 ^ bits ∧ b.2.1 ≤ 2 ^ bits ∧ ∀ H' v, Same H H' → RgAt K H' (timesR a b bits) v → Q v H'
def spRPower (K : PySem.W.Frag) : Sp := fun vs H Q _ => ∃ b e bits : Nat, vs = [.int (b : Int), .int (e : Int), .int (bits : Int)] ∧ b < 1024 ∧ e ≤ 1000 ∧ bits ≤ 200000 ∧ ∀ H' v r, Same H H' → RgAt K H' r v → Rgh LL bits (b ^ e) r → Q v H'
def spAbove : Sp := fun vs H Q _ => ∃ n s m t : Nat, vs = [.int (n : Int), .int (s : Int), .int (m : Int), .int (t : Int)] ∧ n < 2 ^ 300000 ∧ m < 2 ^ 300000 ∧ Q (.bl (abv n s m t)) H
def spCompared (K : PySem.W.Frag) : Sp := fun vs H Q _ => ∃ (u v : V) (a b : Rg), vs = [u, v] ∧ RgAt K H a u ∧ RgAt K H b v ∧ a.1 ≤ a.2.1 ∧ b.1 ≤ b.2.1 ∧ a.2.1 < 2 ^ 300000 ∧ b.2.1 < 2 ^ 300000 ∧ Q (.int (cmpR a b)) H
structure OffOk (far days w held : Nat) : Prop where
  f : far ≤ 500
  d : days ≤ 500
  w : w < 2 ^ 64
  h : held < 2 ^ 64
def spWithin (K : PySem.W.Frag) : Sp := fun vs H Q _ => ∃ far days w held j bits : Nat, vs = [.int (far : Int), .int (days : Int), .int (w : Int), .int (held : Int), .int ((j : Int) - (days : Int)), .int (bits : Int)] ∧ OffOk far days w held ∧ j ≤ 2 * days ∧ bits ≤ 200000 ∧
  ∀ H' c, Same H H' → ((c = 1 ∧ bornN far days w held j = false) ∨ (c = -1 ∧ bornN far days w held j = true) ∨ (c = 0 ∧ bits < LL)) → Q (.int c) H'
def spSureIn (K : PySem.W.Frag) : Sp := fun vs H Q _ => ∃ far days w held j : Nat, vs = [.int (far : Int), .int (days : Int), .int (w : Int), .int (held : Int), .int ((j : Int) - (days : Int))] ∧ OffOk far days w held ∧ j ≤ 2 * days ∧
  ∀ H', Same H H' → Q (.bl (bornN far days w held j)) H'
def spMostOff (K : PySem.W.Frag) : Sp := fun vs H Q _ => ∃ far days w held : Nat, vs = [.int (far : Int), .int (days : Int), .int (w : Int), .int (held : Int)] ∧ OffOk far days w held ∧ ∀ H', Same H H' → Q (moV days (moI far days w held)) H'
end NG

namespace NG
open PySem PySem.Spec PyProof.Rows L2
/-! ### comprehensions of two for -/
theorem lc2_tup {K : PySem.W.Frag} {a : Addr} {xs : List V} {g : TG} {tt : TT} {B : L2.St → Hp → (Hp → Prop) → Prop} {vs : List Nat} {σ : L2.St} {H1 : Hp} {D : Addr} {Qd : Hp → Prop} (Pv : Nat → Hp → Prop) (h0 : Pv 0 (upd H1 D (.lst []))) (hl : ∀ i H, i ≤ xs.length → Pv i H → SqT K H a xs)
    (hs : ∀ i x H, xs[i]? = some x → Pv i H → g x (wipe σ vs) H fun σ2 H2 => wipe σ2 vs = wipe σ vs ∧ tt σ2 H2 fun b H3 => if b = true then B σ2 H3 (Pv (i + 1)) else Pv (i + 1) H3) (hd : ∀ H, Pv xs.length H → Qd H) :
    ∃ W : Nat → Nat → Hp → Prop, (∃ m, W 0 m (upd H1 D (.lst []))) ∧ ∀ i m H, W i m H →
      ((Itt K a).stop i H ∧ Qd H) ∨ ((Itt K a).go i H ∧ ∃ Nx : Hp → Prop, (∀ H', Nx H' → ∃ m', m' < m ∧ W (i + 1) m' H') ∧ ∀ x H', (Itt K a).yld i H x H' → g x (wipe σ vs) H' fun σ2 H2 => wipe σ2 vs = wipe σ vs ∧ tt σ2 H2 fun b H3 =>
        if b = true then B σ2 H3 Nx else Nx H3) := by
  refine ⟨fun i m H => m = xs.length - i ∧ i ≤ xs.length ∧ Pv i H, ⟨xs.length, by simp, Nat.zero_le _, h0⟩, ?_⟩
  rintro i m H ⟨rfl, hi, p⟩
  have q := hl i H hi p
  by_cases hlt : i < xs.length
  · refine .inr ⟨⟨xs, xs[i], q, by simp [hlt]⟩, Pv (i + 1), fun H' p' => ⟨xs.length - (i + 1), by omega, rfl, hlt, p'⟩, fun x H' y => ?_⟩
    obtain ⟨e, y⟩ := y
    subst e
    exact hs i x _ (y xs q) p
  · have e : i = xs.length := by omega
    subst e
    exact .inl ⟨⟨xs, q, Nat.le_refl _⟩, hd H p⟩
theorem in_tup {K : PySem.W.Frag} {a : Addr} {xs : List V} {g : TG} {tt : TT} {te : TE} {vs : List Nat} {σ : L2.St} {H1 : Hp} {D : Addr} {Qd : Hp → Prop} (Pv : Nat → Hp → Prop) (h0 : Pv 0 H1) (hl : ∀ i H, i ≤ xs.length → Pv i H → SqT K H a xs)
    (hs : ∀ i x H, xs[i]? = some x → Pv i H → g x (wipe σ vs) H fun σ2 H2 => wipe σ2 vs = wipe σ vs ∧ tt σ2 H2 fun b H3 =>
      if b = true then te σ2 H3 fun y H4 => ∃ acc, H4 D = some (.lst acc) ∧ acc.length < sizeLine ∧ Pv (i + 1) (upd H4 D (.lst (acc ++ [y]))) else Pv (i + 1) H3) (hd : ∀ H, Pv xs.length H → Qd H) :
    ∃ W : Nat → Nat → Hp → Prop, (∃ m, W 0 m H1) ∧ ∀ i m H, W i m H →
      ((Itt K a).stop i H ∧ Qd H) ∨ ((Itt K a).go i H ∧ ∃ Nx : Hp → Prop, (∀ H', Nx H' → ∃ m', m' < m ∧ W (i + 1) m' H') ∧ ∀ x H', (Itt K a).yld i H x H' → g x (wipe σ vs) H' fun σ2 H2 => wipe σ2 vs = wipe σ vs ∧ tt σ2 H2 fun b H3 =>
        if b = true then te σ2 H3 fun y H4 => ∃ acc, H4 D = some (.lst acc) ∧ acc.length < sizeLine ∧ Nx (upd H4 D (.lst (acc ++ [y]))) else Nx H3) := by
  refine ⟨fun i m H => m = xs.length - i ∧ i ≤ xs.length ∧ Pv i H, ⟨xs.length, by simp, Nat.zero_le _, h0⟩, ?_⟩
  rintro i m H ⟨rfl, hi, p⟩
  have q := hl i H hi p
  by_cases hlt : i < xs.length
  · refine .inr ⟨⟨xs, xs[i], q, by simp [hlt]⟩, Pv (i + 1), fun H' p' => ⟨xs.length - (i + 1), by omega, rfl, hlt, p'⟩, fun x H' y => ?_⟩
    obtain ⟨e, y⟩ := y
    subst e
    exact hs i x _ (y xs q) p
  · have e : i = xs.length := by omega
    subst e
    exact .inl ⟨⟨xs, q, Nat.le_refl _⟩, hd H p⟩
/-! ### max of three ints -/
theorem cr_max3 {X : Cx} (hc : X.calm = true) : CallR X (.builtin "max") (fun xs H Q => ∃ i j k : Int, xs = [.int i, .int j, .int k] ∧ Q (.int (mx (mx i j) k)) H) := by
  intro pins s σ H xs us Q I r h
  obtain ⟨i, j, k, rfl, q⟩ := h
  refine call_max3Nu hc pins s σ H _ us Q I r ⟨_, _, _, _, rfl, ?_, q⟩
  have e2 : ∀ a b : Int, nuMax2 (.int a) (.int b) = some (.int (mx a b)) := fun a b => by
    show (some (decide (a < b))).map (fun c => if c = true then V.int b else V.int a) = _
    unfold mx
    by_cases c : a < b
    · rw [decide_eq_true c, if_pos c]
      rfl
    · rw [decide_eq_false c, if_neg c]
      rfl
  show (nuMax2 (.int i) (.int j)).bind _ = _
  rw [e2]
  show nuMax2 (.int (mx i j)) (.int k) = _
  rw [e2]
/-! ### bounds of doubters -/
def farS (a : Int) (e : Ex) : Int := mx (mx a (ab (spn e).1)) (ab (spn e).2)
def farI (es : List Ex) : Int := es.foldl farS 0
def endsI (es : List Ex) : List Int := es.flatMap fun e => [ab (spn e).1, ab (spn e).2]
theorem ab_nn (x : Int) : 0 ≤ ab x := by unfold ab; split <;> omega
theorem farF_ge : ∀ (es : List Ex) (a : Int), a ≤ es.foldl farS a ∧ ∀ x ∈ endsI es, x ≤ es.foldl farS a
  | [], a => ⟨Int.le_refl _, fun x h => by cases h⟩
  | e :: es, a => by
    obtain ⟨h1, h2⟩ := farF_ge es (farS a e)
    have k1 := le_mx a (ab (spn e).1)
    have k2 := le_mx (mx a (ab (spn e).1)) (ab (spn e).2)
    have k3 : farS a e = mx (mx a (ab (spn e).1)) (ab (spn e).2) := rfl
    refine ⟨?_, fun x hx => ?_⟩
    · show a ≤ es.foldl farS (farS a e)
      omega
    · show x ≤ es.foldl farS (farS a e)
      have hx : x ∈ [ab (spn e).1, ab (spn e).2] ++ endsI es := hx
      rcases List.mem_append.mp hx with hx | hx
      · simp only [List.mem_cons, List.not_mem_nil, or_false] at hx
        rcases hx with rfl | rfl <;> omega
      · exact h2 x hx
theorem farF_or : ∀ (es : List Ex) (a : Int), es.foldl farS a = a ∨ es.foldl farS a ∈ endsI es
  | [], a => .inl rfl
  | e :: es, a => by
    show es.foldl farS (farS a e) = a ∨ es.foldl farS (farS a e) ∈ [ab (spn e).1, ab (spn e).2] ++ endsI es
    rcases farF_or es (farS a e) with h | h
    · rw [h]
      unfold farS
      rcases mx_or (mx a (ab (spn e).1)) (ab (spn e).2) with z | z
      · rw [z]
        rcases mx_or a (ab (spn e).1) with y | y
        · exact .inl y
        · rw [y]
          exact .inr (List.mem_append_left _ (by simp))
      · rw [z]
        exact .inr (List.mem_append_left _ (by simp))
    · exact .inr (List.mem_append_right _ h)
theorem far_max {es : List Ex} {m : Int} (h0 : es ≠ []) (hm : m ∈ endsI es) (hx : ∀ y ∈ endsI es, y ≤ m) : m = farI es := by
  obtain ⟨h1, h2⟩ := farF_ge es 0
  have k := h2 m hm
  have nn : ∀ y ∈ endsI es, 0 ≤ y := fun y hy => by
    obtain ⟨e, _, hy⟩ := List.mem_flatMap.mp hy
    simp only [List.mem_cons, List.not_mem_nil, or_false] at hy
    rcases hy with rfl | rfl <;> exact ab_nn _
  have k2 := nn m hm
  unfold farI
  rcases farF_or es 0 with h | h
  · omega
  · have := hx _ h
    omega
def pw2 : Nat → Int
  | 0 => 1
  | 1 => 2
  | 2 => 4
  | 3 => 8
  | _ => 16
theorem pw2_bnd (s : Nat) : 1 ≤ pw2 s ∧ pw2 s ≤ 16 := by
  match s with
  | 0 => decide
  | 1 => decide
  | 2 => decide
  | 3 => decide
  | _ + 4 => show (1 : Int) ≤ 16 ∧ (16 : Int) ≤ 16; decide
def bndI (D : Dbt) : Int := mx 1 ((farI D.stakes + pw2 D.scale - 1) / pw2 D.scale)
theorem st_ends {many l : Nat} {e : Ex} (h : StOk many l e) : ab (spn e).1 ≤ 500 ∧ ab (spn e).2 ≤ 500 := by
  have k : ∀ {x : Int}, -500 ≤ x → x ≤ 500 → ab x ≤ 500 := fun h1 h2 => by unfold ab; split <;> omega
  rcases h with ⟨c, rfl, h1, h2⟩ | ⟨c, e', rfl, h1, h2, _⟩
  · exact ⟨k h1 h2, k h1 h2⟩
  · have z : ∀ y : Int, -500 ≤ mn c (mx (-c) y) ∧ mn c (mx (-c) y) ≤ 500 := fun y => by
      unfold mn mx
      split <;> split <;> omega
    exact ⟨k (z _).1 (z _).2, k (z _).1 (z _).2⟩
theorem far_500 {many l : Nat} {es : List Ex} (h : ∀ e ∈ es, StOk many l e) : 0 ≤ farI es ∧ farI es ≤ 500 := by
  refine ⟨(farF_ge es 0).1, ?_⟩
  unfold farI
  rcases farF_or es 0 with k | k
  · omega
  · obtain ⟨e, he, hy⟩ := List.mem_flatMap.mp k
    have := st_ends (h e he)
    simp only [List.mem_cons, List.not_mem_nil, or_false] at hy
    rcases hy with hy | hy <;> omega
theorem bnd_500 {many l : Nat} {D : Dbt} (h : ∀ e ∈ D.stakes, StOk many l e) : 1 ≤ bndI D ∧ bndI D ≤ 500 := by
  have h1 := far_500 h
  have h2 := pw2_bnd D.scale
  unfold bndI
  have h3 : (farI D.stakes + pw2 D.scale - 1) / pw2 D.scale ≤ 500 := by
    have : (farI D.stakes + pw2 D.scale - 1) / pw2 D.scale < 501 := by
      rw [Int.ediv_lt_iff_lt_mul (by omega)]
      omega
    omega
  unfold mx
  split <;> omega
end NG

namespace NG
open PySem PySem.Spec PyProof.Rows L2
/-! ### a statement that is never reached -/
theorem ps_dead {X : Cx} {st : Stmt} : PS X st (fun _ _ _ => False) := ⟨fun _ _ _ _ _ _ h => h.elim⟩
/-! ### min of a tuple of ints -/
def rMinT (K : PySem.W.Frag) : List V → Hp → VK → Prop := fun vs H Q => ∃ (a : Addr) (n : Int) (ns : List Int), vs = [V.ref a] ∧ SqT K H a ((n :: ns).map V.int) ∧ Q (.int (ns.foldl min n)) H
theorem cr_minT {X : Cx} (hc : X.calm = true) (hu : X.A.units + 64 < cLine) : CallR X (.builtin "min") (rMinT X.K) := by
  intro pins s σ H vs us Q I r h
  obtain ⟨a, n, ns, rfl, hs, q⟩ := h
  obtain ⟨its, rv, p, _⟩ := I.tuple hs
  rw [Vals.ref1 r]
  obtain ⟨as, hr⟩ := Dp.readsAll I ((n :: ns).map PyData.int) _ its (dp_ints (n :: ns)) rv
  rw [List.map_cons] at hr
  have al : PySem.W.AlikeAll (PyData.int n :: ns.map PyData.int) := ⟨fun x hx y hy => by
    rw [← List.map_cons (f := PyData.int)] at hx hy
    obtain ⟨i, _, rfl⟩ := List.mem_map.mp hx
    obtain ⟨j, _, rfl⟩ := List.mem_map.mp hy
    rfl, fun x hx => by
    rw [← List.map_cons (f := PyData.int)] at hx
    obtain ⟨i, _, rfl⟩ := List.mem_map.mp hx
    exact fun e => nomatch e⟩
  refine PySem.W.min_tuple_data (I.ok.hd hc) p (by simpa using hr) al (by rw [← List.map_cons (f := PyData.int), depth_ints]; omega) fun i v h' tk bs _ rd hk => ?_
  rw [PySem.W.minD_ints] at rd
  cases rd
  exact ⟨.int _, H, I.kept hk, ⟨_, rfl⟩, q⟩
/-! ### days of ones -/
def wsI (ss : List Int) (o : One) : List Int := o.dbt.stakes.map (wo o.regs ss)
def fullI (ss : List Int) (o : One) : Int := 1000 * pw2 o.dbt.scale * ss.sum * ss.sum
def winI (ss : List Int) (j : Nat) (o : One) : Int := ss.sum * (wsI ss o).getD j 0 - dotI ss (wsI ss o)
def alikeI : List Int → Bool
  | [] => true
  | n :: ns => decide (ns.foldl min n = ns.foldl max n)
theorem alike_eq (n : Int) (ns : List Int) : (ns.foldl min n == ns.foldl max n) = alikeI (n :: ns) := by
  show _ = decide (ns.foldl min n = ns.foldl max n)
  rw [Bool.eq_iff_iff]
  simp
def dayO (rg : List Int → Ds → List Int → List Int) (ss : List Int) (j : Nat) (o : One) : One :=
  ⟨o.dbt, rg ss (o.dbt.behinds.getD j .nil) o.regs, o.weight, o.motes * (fullI ss o + winI ss j o) / fullI ss o, -(-o.owed * (fullI ss o + winI ss j o) / fullI ss o) + 1, if alikeI (wsI ss o) = true then o.days else o.days + 1, o.got + 1000000000 * winI ss j o / fullI ss o⟩
def dayMs (rg : List Int → Ds → List Int → List Int) (ss : List Int) (j : Nat) : Ms → Ms
  | .nil => .nil
  | .one o r => .one (dayO rg ss j o) (dayMs rg ss j r)
  | .house nm m r => .house nm (dayMs rg ss j m) (dayMs rg ss j r)
theorem day_ao (rg : List Int → Ds → List Int → List Int) (ss : List Int) (j : Nat) : ∀ m : Ms, aoI (dayMs rg ss j m) = (aoI m).map (dayO rg ss j)
  | .nil => rfl
  | .one o r => by
    show _ :: aoI (dayMs rg ss j r) = _
    rw [day_ao rg ss j r]
    rfl
  | .house nm m r => by
    show aoI (dayMs rg ss j m) ++ aoI (dayMs rg ss j r) = _
    rw [day_ao rg ss j m, day_ao rg ss j r, ← List.map_append]
    rfl
/-! ### members as a list -/
def mks : Ms → List Mk
  | .nil => []
  | .one o r => .one o :: mks r
  | .house nm m r => .house nm m :: mks r
def MksAt (K : PySem.W.Frag) (H : Hp) : List V → List Mk → Prop
  | [], [] => True
  | v :: vs, e :: es => MkAt K H e v ∧ MksAt K H vs es
  | _, _ => False
theorem MksAt.imp {K : PySem.W.Frag} {H H' : Hp} (h : ∀ p xs, SqT K H p xs → SqT K H' p xs) : ∀ {vs : List V} {es : List Mk}, MksAt K H vs es → MksAt K H' vs es
  | [], [], _ => trivial
  | _ :: _, _ :: _, ⟨x, r⟩ => ⟨x.imp h, MksAt.imp h r⟩
theorem MksAt.len {K : PySem.W.Frag} {H : Hp} : ∀ {vs : List V} {es : List Mk}, MksAt K H vs es → vs.length = es.length
  | [], [], _ => rfl
  | _ :: _, _ :: _, ⟨_, r⟩ => by rw [List.length_cons, List.length_cons, r.len]
theorem MksAt.snoc {K : PySem.W.Frag} {H : Hp} {v : V} {e : Mk} (x : MkAt K H e v) : ∀ {vs : List V} {es : List Mk}, MksAt K H vs es → MksAt K H (vs ++ [v]) (es ++ [e])
  | [], [], _ => ⟨x, trivial⟩
  | _ :: _, _ :: _, ⟨y, r⟩ => ⟨y, MksAt.snoc x r⟩
theorem MksAt.get' {K : PySem.W.Frag} {H : Hp} : ∀ {vs : List V} {es : List Mk} {k : Nat} {v : V}, MksAt K H vs es → vs[k]? = some v → ∃ e, es[k]? = some e ∧ MkAt K H e v
  | [], [], _, _, _, h => by simp at h
  | v :: vs, e' :: es, 0, v', ⟨x, r⟩, h => by
    have : v = v' := Option.some.inj h
    subst this
    exact ⟨e', rfl, x⟩
  | v :: vs, e' :: es, k + 1, e, ⟨x, r⟩, h => MksAt.get' (k := k) r h
theorem MsAt.mks {K : PySem.W.Frag} {H : Hp} : ∀ {m : Ms} {vs : List V}, MsAt K H m vs → MksAt K H vs (mks m)
  | .nil, vs, h => by
    have h : vs = [] := h
    subst h
    exact trivial
  | .one o r, _, ⟨v, us, e, q, h⟩ => by
    subst e
    exact ⟨q, MsAt.mks h⟩
  | .house nm m r, _, ⟨p, pm, xs, us, e, q, qm, h1, h2⟩ => by
    subst e
    exact ⟨⟨p, pm, xs, rfl, q, qm, h1⟩, MsAt.mks h2⟩
theorem MksAt.ms {K : PySem.W.Frag} {H : Hp} : ∀ {m : Ms} {vs : List V}, MksAt K H vs (NG.mks m) → MsAt K H m vs
  | .nil, [], _ => rfl
  | .nil, _ :: _, h => h.elim
  | .one o r, [], h => h.elim
  | .one o r, v :: vs, ⟨x, h⟩ => ⟨v, vs, rfl, x, MksAt.ms h⟩
  | .house nm m r, [], h => h.elim
  | .house nm m r, v :: vs, ⟨⟨p, pm, xs, e, q, qm, h1⟩, h⟩ => by
    subst e
    exact ⟨p, pm, xs, vs, rfl, q, qm, h1, MksAt.ms h⟩
def dayMk (rg : List Int → Ds → List Int → List Int) (ss : List Int) (j : Nat) : Mk → Mk
  | .one o => .one (dayO rg ss j o)
  | .house nm m => .house nm (dayMs rg ss j m)
theorem mks_day (rg : List Int → Ds → List Int → List Int) (ss : List Int) (j : Nat) : ∀ m : Ms, mks (dayMs rg ss j m) = (mks m).map (dayMk rg ss j)
  | .nil => rfl
  | .one o r => by
    show _ :: mks (dayMs rg ss j r) = _
    rw [mks_day rg ss j r]
    rfl
  | .house nm m r => by
    show _ :: mks (dayMs rg ss j r) = _
    rw [mks_day rg ss j r]
    rfl
theorem mks_len : ∀ m : Ms, (mks m).length ≤ m.cnt
  | .nil => Nat.le_refl _
  | .one o r => by
    have := mks_len r
    show (mks r).length + 1 ≤ 1 + r.cnt
    omega
  | .house nm m r => by
    have := mks_len r
    show (mks r).length + 1 ≤ 1 + m.cnt + r.cnt
    omega
def MkD (P : One → Prop) (d c : Nat) : Mk → Prop
  | .one o => P o
  | .house _ m => m.dep < d ∧ m.cnt ≤ c ∧ m.all P
theorem mks_ok {P : One → Prop} {c : Nat} : ∀ {m : Ms} {d : Nat}, m.dep < d + 1 → m.cnt ≤ c → m.all P → ∀ k ∈ mks m, MkD P d c k
  | .nil, _, _, _, _, k, hk => by cases hk
  | .one o r, d, h1, h2, h3, k, hk => by
    have h1 : r.dep < d + 1 := h1
    have h2 : 1 + r.cnt ≤ c := h2
    rcases List.mem_cons.mp hk with rfl | hk
    · exact h3.1
    · exact mks_ok h1 (by omega) h3.2 k hk
  | .house nm m r, d, h1, h2, h3, k, hk => by
    have h1 : max (m.dep + 1) r.dep < d + 1 := h1
    have h2 : 1 + m.cnt + r.cnt ≤ c := h2
    rcases List.mem_cons.mp hk with rfl | hk
    · exact ⟨by omega, by omega, h3.1⟩
    · exact mks_ok (by omega) (by omega) h3.2 k hk
end NG

namespace NG
open PySem PySem.Spec PyProof.Rows L2
/-! ### rules with the fragment named, for use inside a comprehension -/
theorem maxTK {X : Cx} (K : PySem.W.Frag) (hc : X.calm = true) (hu : X.A.units + 64 < cLine) (h : X.K = K := by rfl) : CallR X (.builtin "max") (rMaxT K) := by
  subst h; exact cr_maxT hc hu
theorem minTK {X : Cx} (K : PySem.W.Frag) (hc : X.calm = true) (hu : X.A.units + 64 < cLine) (h : X.K = K := by rfl) : CallR X (.builtin "min") (rMinT K) := by
  subst h; exact cr_minT hc hu
theorem eqDK {X : Cx} (K : PySem.W.Frag) (hu : X.A.units + 64 < cLine) (h : X.K = K := by rfl) : OpR X (compareOp .Eq) (rEqD K) := by
  subst h; exact op_eqD hu
theorem neDK {X : Cx} (K : PySem.W.Frag) (hu : X.A.units + 64 < cLine) (h : X.K = K := by rfl) : OpR X (compareOp .NotEq) (rNeD K) := by
  subst h; exact op_neD hu
end NG

namespace NG
open PySem PySem.Spec PyProof.Rows L2
/-! ### a word among a written dict's keys -/
def rInKd (K : PySem.W.Frag) (w : World) : R2 := fun x y H Q => ∃ z p v, x = .str z ∧ y = .ref p ∧ KDct K w p z v ∧ (p == sysModules) = false ∧ Q (.bl true) H
def rNinKd (K : PySem.W.Frag) (w : World) : R2 := fun x y H Q => ∃ z p v, x = .str z ∧ y = .ref p ∧ KDct K w p z v ∧ (p == sysModules) = false ∧ Q (.bl false) H
theorem op_inKd {X : Cx} : OpR X (compareOp .In) (rInKd X.K X.w) := by
  intro pins s σ H x y v u Q I rx ry h
  obtain ⟨z, p, v0, rfl, rfl, ⟨es, n, u0, hl, hk, e, ru⟩, low, q⟩ := h
  exact op_in_kd (X := X) ⟨hl, hk, low⟩ pins s σ H _ _ v u Q I rx ry ⟨z, some u0, rfl, rfl, e, q⟩
theorem op_ninKd {X : Cx} : OpR X (compareOp .NotIn) (rNinKd X.K X.w) := by
  intro pins s σ H x y v u Q I rx ry h
  obtain ⟨z, p, v0, rfl, rfl, ⟨es, n, u0, hl, hk, e, ru⟩, low, q⟩ := h
  exact op_notIn_kd (X := X) ⟨hl, hk, low⟩ pins s σ H _ _ v u Q I rx ry ⟨z, some u0, rfl, rfl, e, q⟩
/-! ### kinds of things -/
def tyd : PyData → String
  | .none => "NoneType"
  | .bool _ => "bool"
  | .int _ => "int"
  | .str _ => "str"
  | .list _ => "list"
  | .tuple _ => "tuple"
  | .dict _ => "dict"
theorem Dp.tyx {K : PySem.W.Frag} {H : Hp} {d : PyData} {v : V} (h : Dp K H v d) : TyX K H v (.type (tyd d)) := by
  cases h with
  | non => exact .base .non
  | bl b => exact .base (.bl b)
  | int i => exact .base (.int i)
  | str x => exact .base (.str x)
  | lst q _ =>
    rcases q with (q | ⟨o, q⟩) | ⟨o, its, n, h1, h2, _⟩
    · exact .base (.lst q)
    · exact .base (.frz q)
    · exact .kList h1 h2
  | tup q _ => exact tyx_tup q
def isInt : PyData → Bool
  | .int _ => true
  | _ => false
theorem rIsi_of {K : PySem.W.Frag} {H : Hp} {d : PyData} {v : V} {T : String} {b : Bool} {Q : VK} (h : Dp K H v d) (k : kitB (tyd d) T = some b) (q : Q (.bl b) H) : rIsi K [v, .ty T] H Q :=
  ⟨v, .ty T, _, _, b, rfl, .ty T, Dp.tyx h, kit_ty k, q⟩
def kB : PyData → Bool
  | .bool _ => true
  | _ => false
def kI : PyData → Bool
  | .int _ => true
  | .bool _ => true
  | _ => false
theorem kit_int (d : PyData) : kitB (tyd d) "int" = some (kI d) := by
  cases d with
  | none => exact (by decide +kernel : kitB "NoneType" "int" = some false)
  | bool _ => exact (by decide +kernel : kitB "bool" "int" = some true)
  | int _ => exact (by decide +kernel : kitB "int" "int" = some true)
  | str _ => exact (by decide +kernel : kitB "str" "int" = some false)
  | list _ => exact (by decide +kernel : kitB "list" "int" = some false)
  | tuple _ => exact (by decide +kernel : kitB "tuple" "int" = some false)
  | dict _ => exact (by decide +kernel : kitB "dict" "int" = some false)
theorem kit_bool (d : PyData) : kitB (tyd d) "bool" = some (kB d) := by
  cases d with
  | none => exact (by decide +kernel : kitB "NoneType" "bool" = some false)
  | bool _ => exact (by decide +kernel : kitB "bool" "bool" = some true)
  | int _ => exact (by decide +kernel : kitB "int" "bool" = some false)
  | str _ => exact (by decide +kernel : kitB "str" "bool" = some false)
  | list _ => exact (by decide +kernel : kitB "list" "bool" = some false)
  | tuple _ => exact (by decide +kernel : kitB "tuple" "bool" = some false)
  | dict _ => exact (by decide +kernel : kitB "dict" "bool" = some false)
def kT : PyData → Bool
  | .tuple _ => true
  | _ => false
theorem kit_tup (d : PyData) : kitB (tyd d) "tuple" = some (kT d) := by
  cases d with
  | none => exact (by decide +kernel : kitB "NoneType" "tuple" = some false)
  | bool _ => exact (by decide +kernel : kitB "bool" "tuple" = some false)
  | int _ => exact (by decide +kernel : kitB "int" "tuple" = some false)
  | str _ => exact (by decide +kernel : kitB "str" "tuple" = some false)
  | list _ => exact (by decide +kernel : kitB "list" "tuple" = some false)
  | tuple _ => exact (by decide +kernel : kitB "tuple" "tuple" = some true)
  | dict _ => exact (by decide +kernel : kitB "dict" "tuple" = some false)
theorem isInt_eq (d : PyData) : (kI d && !kB d) = isInt d := by
  cases d <;> rfl
mutual
theorem dp_same {K : PySem.W.Frag} {H H' : Hp} (s : Same H H') : ∀ {d : PyData} {v : V}, Dp K H v d → Dp K H' v d
  | .none, _, .non => .non
  | .bool _, _, .bl b => .bl b
  | .int _, _, .int i => .int i
  | .str _, _, .str x => .str x
  | .list _, _, .lst q a => .lst (s.seq q) (dpall_same s a)
  | .tuple _, _, .tup q a => .tup (same_sqt s q) (dpall_same s a)
theorem dpall_same {K : PySem.W.Frag} {H H' : Hp} (s : Same H H') : ∀ {ds : List PyData} {vs : List V}, DpAll K H vs ds → DpAll K H' vs ds
  | [], _, .nil => .nil
  | _ :: _, _, .cons a b => .cons (dp_same s a) (dpall_same s b)
end
theorem dpall_len {K : PySem.W.Frag} {H : Hp} : ∀ {ds : List PyData} {vs : List V}, DpAll K H vs ds → vs.length = ds.length
  | [], _, .nil => rfl
  | _ :: _, _, .cons _ b => by rw [List.length_cons, List.length_cons, dpall_len b]
theorem dpall_get {K : PySem.W.Frag} {H : Hp} : ∀ {ds : List PyData} {vs : List V} {i : Nat} {v : V}, DpAll K H vs ds → vs[i]? = some v → ∃ d, ds[i]? = some d ∧ Dp K H v d
  | [], _, _, _, .nil, h => by simp at h
  | d :: _, _, 0, v, .cons a _, h => by
    have := Option.some.inj h
    subst this
    exact ⟨d, rfl, a⟩
  | _ :: _, _, i + 1, v, .cons _ b, h => dpall_get (i := i) b h
theorem dpall_drop {K : PySem.W.Frag} {H : Hp} : ∀ {n : Nat} {ds : List PyData} {vs : List V}, DpAll K H vs ds → DpAll K H (vs.drop n) (ds.drop n)
  | 0, _, _, h => h
  | _ + 1, [], _, .nil => by simpa using (.nil : DpAll K H [] [])
  | n + 1, _ :: _, _, .cons _ b => by
    rw [List.drop_succ_cons, List.drop_succ_cons]
    exact dpall_drop b
theorem dpall_snoc {K : PySem.W.Frag} {H : Hp} {v : V} {d : PyData} (x : Dp K H v d) : ∀ {ds : List PyData} {vs : List V}, DpAll K H vs ds → DpAll K H (vs ++ [v]) (ds ++ [d])
  | [], _, .nil => .cons x .nil
  | _ :: _, _, .cons a b => .cons a (dpall_snoc x b)
/-! ### kinds of places, words, shapes -/
inductive Kd where
  | part | sign | figure | place | factor | line
  deriving DecidableEq
def kdn : Kd → Str
  | .part => "part"
  | .sign => "sign"
  | .figure => "figure"
  | .place => "place"
  | .factor => "factor"
  | .line => "line"
def bndE : Kd → Int × Int
  | .part => (0, 0)
  | .sign => (0, 0)
  | .figure => (-1000, 1000)
  | .place => (0, 3)
  | .factor => (-9, 9)
  | .line => (1, 1000)
inductive We where
  | fig | reg | share | two (w : W4) | times | by | when | whr
  deriving DecidableEq
def wen : We → Str
  | .fig => "fig"
  | .reg => "reg"
  | .share => "share"
  | .two w => wn w
  | .times => "times"
  | .by => "by"
  | .when => "when"
  | .whr => "where"
def wsh : We → List Kd
  | .fig => [.figure]
  | .reg => [.place]
  | .share => [.sign]
  | .two _ => [.part, .part]
  | .times => [.factor, .part]
  | .by => [.place, .part]
  | .when => [.place, .figure, .part, .part]
  | .whr => [.sign, .line, .part, .part]
def weOf (x : Str) : Option We :=
  if x = "fig" then some .fig else if x = "reg" then some .reg else if x = "share" then some .share else if x = "sum" then some (.two .sum) else if x = "less" then some (.two .less)
  else if x = "least" then some (.two .least) else if x = "most" then some (.two .most) else if x = "times" then some .times else if x = "by" then some .by else if x = "when" then some .when else if x = "where" then some .whr else none
theorem weOf_wen (w : We) : weOf (wen w) = some w := by
  cases w with
  | two o => cases o <;> decide
  | _ => decide
inductive Wb where
  | op (w : D5) | when
def wbn : Wb → Str
  | .op w => dn w
  | .when => "when"
def wbsh : Wb → List Kd
  | .op .put => [.place, .figure]
  | .op .add => [.place, .figure]
  | .op .copy => [.place, .place]
  | .op .plus => [.place, .place]
  | .op .told => [.place, .sign]
  | .when => [.place, .figure, .part, .part]
def wbOf (x : Str) : Option Wb :=
  if x = "put" then some (.op .put) else if x = "add" then some (.op .add) else if x = "copy" then some (.op .copy) else if x = "plus" then some (.op .plus) else if x = "told" then some (.op .told) else if x = "when" then some .when else none
theorem wbOf_wbn (w : Wb) : wbOf (wbn w) = some w := by
  cases w with
  | op o => cases o <;> rfl
  | when => rfl
theorem wsh_len (w : We) : (wsh w).length ≤ 4 := by
  cases w with
  | two o => exact (by decide : 2 ≤ 4)
  | _ => decide
theorem wbsh_len (w : Wb) : (wbsh w).length ≤ 4 := by
  cases w with
  | op o => cases o <;> decide
  | when => decide
/-! ### what fits -/
def inD (lo hi : Int) : PyData → Bool
  | .int i => decide (lo ≤ i) && decide (i ≤ hi)
  | _ => false
def fitD (many : Int) : Kd → PyData → Bool
  | .part, _ => true
  | .sign, d => inD 0 (many - 1) d
  | .figure, d => inD (-1000) 1000 d
  | .place, d => inD 0 3 d
  | .factor, d => inD (-9) 9 d
  | .line, d => inD 1 1000 d
def fitsD (many : Int) : List Kd → List PyData → Bool
  | k :: ks, d :: ds => fitD many k d && fitsD many ks ds
  | [], [] => true
  | _, _ => false
theorem fitsD_len {many : Int} : ∀ {ks : List Kd} {ds : List PyData}, fitsD many ks ds = true → ds.length = ks.length
  | [], [], _ => rfl
  | _ :: _, _ :: _, h => by
    unfold fitsD at h
    rw [Bool.and_eq_true] at h
    rw [List.length_cons, List.length_cons, fitsD_len h.2]
  | [], _ :: _, h => by cases h
  | _ :: _, [], h => by cases h
theorem fitsD_ne {many : Int} {ks : List Kd} {ds : List PyData} (h : ds.length ≠ ks.length) : fitsD many ks ds = false := by
  cases e : fitsD many ks ds with
  | false => rfl
  | true => exact absurd (fitsD_len e) h
theorem fitsD_zip {many : Int} : ∀ {ks : List Kd} {ds : List PyData}, ds.length = ks.length → fitsD many ks ds = (List.zipWith (fitD many) ks ds).all id
  | [], [], _ => rfl
  | k :: ks, d :: ds, h => by
    rw [List.zipWith_cons_cons, List.all_cons, ← fitsD_zip (by simpa using h)]
    rfl
  | [], _ :: _, h => by simp at h
  | _ :: _, [], h => by simp at h
def partsD : List Kd → List PyData → List PyData
  | k :: ks, d :: ds => if k = .part then d :: partsD ks ds else partsD ks ds
  | _, _ => []
theorem partsD_len : ∀ (ks : List Kd) (ds : List PyData), (partsD ks ds).length ≤ ds.length
  | [], _ => Nat.zero_le _
  | _ :: _, [] => Nat.zero_le _
  | k :: ks, d :: ds => by
    have := partsD_len ks ds
    unfold partsD
    split <;> simp only [List.length_cons] <;> omega
theorem partsD_snoc : ∀ {ks : List Kd} {ds : List PyData} {i : Nat} {k : Kd} {d : PyData}, ks[i]? = some k → ds[i]? = some d → partsD (ks.take (i + 1)) (ds.take (i + 1)) = partsD (ks.take i) (ds.take i) ++ (if k = .part then [d] else [])
  | [], _, i, _, _, h, _ => by simp at h
  | _ :: _, [], i, _, _, _, h => by simp at h
  | k0 :: ks, d0 :: ds, 0, k, d, h, h2 => by
    have e1 : k0 = k := Option.some.inj h
    have e2 : d0 = d := Option.some.inj h2
    subst e1 e2
    simp [partsD]
  | k0 :: ks, d0 :: ds, i + 1, k, d, h, h2 => by
    have ih := partsD_snoc (ks := ks) (ds := ds) (i := i) h h2
    rw [List.take_succ_cons, List.take_succ_cons, List.take_succ_cons, List.take_succ_cons]
    unfold partsD
    split
    · rw [ih, List.cons_append]
    · exact ih
/-! ### how many parts, deeds -/
def addE : Nat → List Nat → Nat
  | t, [] => t
  | t, i :: r => if i = 0 then 0 else addE (t + i) r
def cntE (many : Int) : Nat → PyData → Nat
  | 0, _ => 0
  | k + 1, d => match d with
    | .tuple (.str x :: ds) => match weOf x with
      | some w => if fitsD many (wsh w) ds = true then addE 1 ((partsD (wsh w) ds).map (cntE many k)) else 0
      | none => 0
    | _ => 0
theorem cntE_eq (many : Int) (k : Nat) (w : We) (ds : List PyData) : cntE many (k + 1) (.tuple (.str (wen w) :: ds)) = if fitsD many (wsh w) ds = true then addE 1 ((partsD (wsh w) ds).map (cntE many k)) else 0 := by
  unfold cntE
  simp only [weOf_wen]
def wdE (many : Int) : Nat → PyData → Prop
  | 0, d => ∃ w ds, d = .tuple (.str (wen w) :: ds)
  | k + 1, d => ∃ w ds, d = .tuple (.str (wen w) :: ds) ∧ (fitsD many (wsh w) ds = true → ∀ x ∈ partsD (wsh w) ds, wdE many k x)
def isEx (many : Int) (d : PyData) : Bool := decide (1 ≤ cntE many 8 d) && decide (cntE many 8 d ≤ 40)
def exD : Nat → PyData → Ex
  | 0, _ => .fig 0
  | k + 1, d => match d with
    | .tuple (.str x :: ds) => match weOf x, ds with
      | some .fig, [.int c] => .fig c
      | some .reg, [.int i] => .reg i.toNat
      | some .share, [.int j] => .share j.toNat
      | some (.two w), [a, b] => .two w (exD k a) (exD k b)
      | some .times, [.int f, a] => .times f (exD k a)
      | some .by, [.int i, a] => .by i.toNat (exD k a)
      | some .when, [.int i, .int c, a, b] => .when i.toNat c (exD k a) (exD k b)
      | some .whr, [.int i, .int c, a, b] => .whr i.toNat c (exD k a) (exD k b)
      | _, _ => .fig 0
    | _ => .fig 0
def stakeD (many : Int) (sc : Nat) (d : PyData) : Bool := isEx many d && (decide (-(500 * pw2 sc) ≤ (spn (exD 8 d)).1) && decide ((spn (exD 8 d)).2 ≤ 500 * pw2 sc))
def addB : Nat → List (Option Nat) → Option Nat
  | t, [] => some t
  | _, none :: _ => none
  | t, some i :: r => addB (t + i) r
def sumB : Nat → List (Option Nat) → Option Nat
  | t, [] => some t
  | _, none :: _ => none
  | t, some i :: r => if 20 < t + i then none else sumB (t + i) r
def deedD (many : Int) (f : PyData → Option Nat) : PyData → Option Nat
  | .tuple (.str x :: ds) => match wbOf x with
    | some w => if fitsD many (wbsh w) ds = true then addB 1 ((ds.drop 2).map f) else none
    | none => none
  | _ => none
theorem deedD_eq (many : Int) (f : PyData → Option Nat) (w : Wb) (ds : List PyData) : deedD many f (.tuple (.str (wbn w) :: ds)) = if fitsD many (wbsh w) ds = true then addB 1 ((ds.drop 2).map f) else none := by
  unfold deedD
  simp only [wbOf_wbn]
def cntB (many : Int) : Nat → PyData → Option Nat
  | 0, d => match d with
    | .tuple [] => some 0
    | _ => none
  | k + 1, d => match d with
    | .tuple ds => sumB 0 (ds.map (deedD many (cntB many k)))
    | _ => none
def wdB (many : Int) : Nat → PyData → Prop
  | 0, _ => True
  | k + 1, d => ∀ ds, d = .tuple ds → ∀ x ∈ ds, ∃ w es, x = .tuple (.str (wbn w) :: es) ∧ (fitsD many (wbsh w) es = true → ∀ y ∈ es.drop 2, wdB many k y)
def optV : Option Nat → V
  | none => .non
  | some n => .int (n : Int)
def nameD (z : Str) : Bool := (decide (1 ≤ z.length) && decide (z.length ≤ 8)) && (z.cps.toList.all fun c => decide (c ∈ ("abcdefghijklmnopqrstuvwxyz" : Str).cps.toList))
def regsD (ds : List PyData) : Bool := decide (ds.length = 4) && ds.all (inD (-1000) 1000)
def dbtD (many : Nat) (nm : Str) (sc : Int) (rg st bh : List PyData) : Bool :=
  if (nameD nm && (decide (0 ≤ sc) && decide (sc ≤ 4)) && regsD rg) = true then (decide (st.length = many) && st.all (stakeD many sc.toNat)) && (decide (bh.length = many) && bh.all fun d => (cntB many 4 d).isSome) else false
/-! ### the tables -/
def TabE (K : PySem.W.Frag) (w : World) (a : Addr) : Prop := (a == sysModules) = false ∧ ∀ x : We, ∃ q, KDct K w a (wen x) (.ref q) ∧ ∀ H, SqT K H q ((wsh x).map fun k => V.str (kdn k))
def TabB (K : PySem.W.Frag) (w : World) (a : Addr) : Prop := (a == sysModules) = false ∧ ∀ x : Wb, ∃ q, KDct K w a (wbn x) (.ref q) ∧ ∀ H, SqT K H q ((wbsh x).map fun k => V.str (kdn k))
def TabN (K : PySem.W.Frag) (w : World) (a : Addr) : Prop := ∀ k : Kd, k ≠ .part → k ≠ .sign → ∃ q, KDct K w a (kdn k) (.ref q) ∧ ∀ H, SqT K H q [.int (bndE k).1, .int (bndE k).2]
theorem TabE.of {K : PySem.W.Frag} {w : World} {a : Addr} (h : Shapes K w a) (l : (a == sysModules) = false) : TabE K w a := ⟨l, fun x => by
  cases x with
  | fig => exact h (.fig 0)
  | reg => exact h (.reg 0)
  | share => exact h (.share 0)
  | two o => exact h (.two o (.fig 0) (.fig 0))
  | times => exact h (.times 0 (.fig 0))
  | «by» => exact h (.by 0 (.fig 0))
  | when => exact h (.when 0 0 (.fig 0) (.fig 0))
  | whr => exact h (.whr 0 0 (.fig 0) (.fig 0))⟩
/-! ### data of expressions -/
theorem ExAt.of {K : PySem.W.Frag} {H : Hp} : ∀ {e : Ex} {v : V}, Dp K H v (toD e) → ExAt K H e v := by
  intro e
  induction e with
  | fig c => intro v h; unfold toD at h; cases h with | tup q a => cases a with | cons a b => cases a; cases b with | cons a b => cases a; cases b; exact ⟨_, rfl, q⟩
  | reg c => intro v h; unfold toD at h; cases h with | tup q a => cases a with | cons a b => cases a; cases b with | cons a b => cases a; cases b; exact ⟨_, rfl, q⟩
  | share c => intro v h; unfold toD at h; cases h with | tup q a => cases a with | cons a b => cases a; cases b with | cons a b => cases a; cases b; exact ⟨_, rfl, q⟩
  | two w x y ihx ihy => intro v h; unfold toD at h; cases h with | tup q a => cases a with | cons a b => cases a; cases b with | cons a b => cases b with | cons c b => cases b; exact ⟨_, _, _, rfl, q, ihx a, ihy c⟩
  | times f x ih => intro v h; unfold toD at h; cases h with | tup q a => cases a with | cons a b => cases a; cases b with | cons a b => cases a; cases b with | cons c b => cases b; exact ⟨_, _, rfl, q, ih c⟩
  | «by» f x ih => intro v h; unfold toD at h; cases h with | tup q a => cases a with | cons a b => cases a; cases b with | cons a b => cases a; cases b with | cons c b => cases b; exact ⟨_, _, rfl, q, ih c⟩
  | when i c x y ihx ihy => intro v h; unfold toD at h; cases h with | tup q a => cases a with | cons a b => cases a; cases b with | cons a b => cases a; cases b with | cons a b => cases a; cases b with | cons d b => cases b with | cons e b => cases b; exact ⟨_, _, _, rfl, q, ihx d, ihy e⟩
  | whr i c x y ihx ihy => intro v h; unfold toD at h; cases h with | tup q a => cases a with | cons a b => cases a; cases b with | cons a b => cases a; cases b with | cons a b => cases a; cases b with | cons d b => cases b with | cons e b => cases b; exact ⟨_, _, _, rfl, q, ihx d, ihy e⟩
theorem inD_int {lo hi : Int} {d : PyData} (h : inD lo hi d = true) : ∃ i, d = .int i ∧ lo ≤ i ∧ i ≤ hi := by
  cases d with
  | int i =>
    unfold inD at h
    rw [Bool.and_eq_true, decide_eq_true_eq, decide_eq_true_eq] at h
    exact ⟨i, rfl, h.1, h.2⟩
  | _ => cases h
theorem addE_pos : ∀ {l : List Nat} {t : Nat}, 0 < addE t l → ∀ i ∈ l, 0 < i
  | [], _, _, i, h => by cases h
  | j :: r, t, h, i, hi => by
    unfold addE at h
    split at h
    · omega
    · rcases List.mem_cons.mp hi with rfl | hi
      · omega
      · exact addE_pos h i hi
theorem exD_of {many : Nat} : ∀ {k : Nat} {d : PyData}, 0 < cntE many k d → toD (exD k d) = d ∧ ExOk many (exD k d) ∧ (exD k d).dep ≤ k
  | 0, _, h => by exact absurd h (by unfold cntE; omega)
  | k + 1, d, h => by
    match d, h with
    | .tuple (.str x :: ds), h =>
      unfold cntE at h
      simp only at h
      cases hw : weOf x with
      | none => rw [hw] at h; simp at h
      | some w =>
        rw [hw] at h
        simp only at h
        by_cases hf : fitsD many (wsh w) ds = true
        · rw [if_pos hf] at h
          have hp := addE_pos h
          have hx : x = wen w := by
            unfold weOf at hw
            repeat' split at hw
            all_goals first | (cases hw; assumption) | cases hw
          subst hx
          have ih : ∀ {y : PyData}, y ∈ partsD (wsh w) ds → toD (exD k y) = y ∧ ExOk many (exD k y) ∧ (exD k y).dep ≤ k := fun hy => exD_of (hp _ (List.mem_map.mpr ⟨_, hy, rfl⟩))
          have hl := fitsD_len hf
          unfold exD
          simp only [weOf_wen]
          cases w with
          | fig =>
            match ds, hl with
            | [a], _ =>
              simp only [wsh, fitsD, fitD, Bool.and_true] at hf
              obtain ⟨i, rfl, h1, h2⟩ := inD_int hf
              exact ⟨rfl, ⟨h1, h2⟩, by show 1 ≤ k + 1; omega⟩
          | reg =>
            match ds, hl with
            | [a], _ =>
              simp only [wsh, fitsD, fitD, Bool.and_true] at hf
              obtain ⟨i, rfl, h1, h2⟩ := inD_int hf
              exact ⟨by show PyData.tuple [.str "reg", .int ((i.toNat : Nat) : Int)] = _; rw [Int.toNat_of_nonneg h1]; rfl, by show i.toNat < 4; omega, by show 1 ≤ k + 1; omega⟩
          | share =>
            match ds, hl with
            | [a], _ =>
              simp only [wsh, fitsD, fitD, Bool.and_true] at hf
              obtain ⟨i, rfl, h1, h2⟩ := inD_int hf
              exact ⟨by show PyData.tuple [.str "share", .int ((i.toNat : Nat) : Int)] = _; rw [Int.toNat_of_nonneg h1]; rfl, by show i.toNat < many; omega, by show 1 ≤ k + 1; omega⟩
          | two o =>
            match ds, hl with
            | [a, b], _ =>
              have ha := ih (y := a) (by simp [wsh, partsD])
              have hb := ih (y := b) (by simp [wsh, partsD])
              exact ⟨by show PyData.tuple [.str (wn o), toD (exD k a), toD (exD k b)] = _; rw [ha.1, hb.1]; rfl, ⟨ha.2.1, hb.2.1⟩, by show max (exD k a).dep (exD k b).dep + 1 ≤ k + 1; omega⟩
          | times =>
            match ds, hl with
            | [a, b], _ =>
              have hb := ih (y := b) (by simp [wsh, partsD])
              simp only [wsh, fitsD, fitD, Bool.and_true] at hf
              obtain ⟨i, rfl, h1, h2⟩ := inD_int hf
              exact ⟨by show PyData.tuple [.str "times", .int i, toD (exD k b)] = _; rw [hb.1]; rfl, ⟨⟨h1, h2⟩, hb.2.1⟩, by show (exD k b).dep + 1 ≤ k + 1; omega⟩
          | «by» =>
            match ds, hl with
            | [a, b], _ =>
              have hb := ih (y := b) (by simp [wsh, partsD])
              simp only [wsh, fitsD, fitD, Bool.and_true] at hf
              obtain ⟨i, rfl, h1, h2⟩ := inD_int hf
              exact ⟨by show PyData.tuple [.str "by", .int ((i.toNat : Nat) : Int), toD (exD k b)] = _; rw [hb.1, Int.toNat_of_nonneg h1]; rfl, ⟨by show i.toNat < 4; omega, hb.2.1⟩, by show (exD k b).dep + 1 ≤ k + 1; omega⟩
          | when =>
            match ds, hl with
            | [a, b, c, e], _ =>
              have hc := ih (y := c) (by simp [wsh, partsD])
              have he := ih (y := e) (by simp [wsh, partsD])
              simp only [wsh, fitsD, fitD, Bool.and_true, Bool.and_eq_true] at hf
              obtain ⟨i, rfl, h1, h2⟩ := inD_int hf.1
              obtain ⟨j, rfl, h3, h4⟩ := inD_int hf.2
              exact ⟨by show PyData.tuple [.str "when", .int ((i.toNat : Nat) : Int), .int j, toD (exD k c), toD (exD k e)] = _; rw [hc.1, he.1, Int.toNat_of_nonneg h1]; rfl, ⟨by show i.toNat < 4; omega, ⟨h3, h4⟩, hc.2.1, he.2.1⟩, by show max (exD k c).dep (exD k e).dep + 1 ≤ k + 1; omega⟩
          | whr =>
            match ds, hl with
            | [a, b, c, e], _ =>
              have hc := ih (y := c) (by simp [wsh, partsD])
              have he := ih (y := e) (by simp [wsh, partsD])
              simp only [wsh, fitsD, fitD, Bool.and_true, Bool.and_eq_true] at hf
              obtain ⟨i, rfl, h1, h2⟩ := inD_int hf.1
              obtain ⟨j, rfl, h3, h4⟩ := inD_int hf.2
              exact ⟨by show PyData.tuple [.str "where", .int ((i.toNat : Nat) : Int), .int j, toD (exD k c), toD (exD k e)] = _; rw [hc.1, he.1, Int.toNat_of_nonneg h1]; rfl, ⟨by show i.toNat < many; omega, ⟨h3, h4⟩, hc.2.1, he.2.1⟩, by show max (exD k c).dep (exD k e).dep + 1 ≤ k + 1; omega⟩
        · rw [if_neg hf] at h
          omega
    | .tuple [], h => simp [cntE] at h
    | .tuple (.none :: _), h => simp [cntE] at h
    | .tuple (.bool _ :: _), h => simp [cntE] at h
    | .tuple (.int _ :: _), h => simp [cntE] at h
    | .tuple (.list _ :: _), h => simp [cntE] at h
    | .tuple (.tuple _ :: _), h => simp [cntE] at h
    | .tuple (.dict _ :: _), h => simp [cntE] at h
    | .none, h => simp [cntE] at h
    | .bool _, h => simp [cntE] at h
    | .int _, h => simp [cntE] at h
    | .str _, h => simp [cntE] at h
    | .list _, h => simp [cntE] at h
    | .dict _, h => simp [cntE] at h
theorem dep_pos' : ∀ e : Ex, 1 ≤ e.dep
  | .fig _ => Nat.le_refl _
  | .reg _ => Nat.le_refl _
  | .share _ => Nat.le_refl _
  | .two _ a b => by show 1 ≤ max a.dep b.dep + 1; omega
  | .times _ a => by show 1 ≤ a.dep + 1; omega
  | .by _ a => by show 1 ≤ a.dep + 1; omega
  | .when _ _ a b => by show 1 ≤ max a.dep b.dep + 1; omega
  | .whr _ _ a b => by show 1 ≤ max a.dep b.dep + 1; omega
def Ex.size : Ex → Nat
  | .fig _ => 1
  | .reg _ => 1
  | .share _ => 1
  | .two _ a b => 1 + a.size + b.size
  | .times _ a => 1 + a.size
  | .by _ a => 1 + a.size
  | .when _ _ a b => 1 + a.size + b.size
  | .whr _ _ a b => 1 + a.size + b.size
theorem inD_of {lo hi i : Int} (h1 : lo ≤ i) (h2 : i ≤ hi) : inD lo hi (.int i) = true := by
  show (decide (lo ≤ i) && decide (i ≤ hi)) = true
  rw [decide_eq_true h1, decide_eq_true h2]
  rfl
theorem size_pos : ∀ e : Ex, 0 < e.size
  | .fig _ => Nat.one_pos
  | .reg _ => Nat.one_pos
  | .share _ => Nat.one_pos
  | .two _ a b => by show 0 < 1 + a.size + b.size; omega
  | .times _ a => by show 0 < 1 + a.size; omega
  | .by _ a => by show 0 < 1 + a.size; omega
  | .when _ _ a b => by show 0 < 1 + a.size + b.size; omega
  | .whr _ _ a b => by show 0 < 1 + a.size + b.size; omega
def weE : Ex → We
  | .fig _ => .fig
  | .reg _ => .reg
  | .share _ => .share
  | .two w _ _ => .two w
  | .times _ _ => .times
  | .by _ _ => .by
  | .when _ _ _ _ => .when
  | .whr _ _ _ _ => .whr
def itE : Ex → List PyData
  | .fig c => [.int c]
  | .reg i => [.int (i : Int)]
  | .share j => [.int (j : Int)]
  | .two _ a b => [toD a, toD b]
  | .times f a => [.int f, toD a]
  | .by i a => [.int (i : Int), toD a]
  | .when i c a b => [.int (i : Int), .int c, toD a, toD b]
  | .whr j c a b => [.int (j : Int), .int c, toD a, toD b]
theorem toD_eq : ∀ e : Ex, toD e = .tuple (.str (wen (weE e)) :: itE e)
  | .fig _ => rfl
  | .reg _ => rfl
  | .share _ => rfl
  | .two _ _ _ => rfl
  | .times _ _ => rfl
  | .by _ _ => rfl
  | .when _ _ _ _ => rfl
  | .whr _ _ _ _ => rfl
theorem itE_fits {many : Nat} : ∀ {e : Ex}, ExOk many e → fitsD many (wsh (weE e)) (itE e) = true
  | .fig c, h => by simp only [weE, wsh, itE, fitsD, fitD]; rw [inD_of h.1 h.2]; rfl
  | .reg i, h => by
    have h : i < 4 := h
    simp only [weE, wsh, itE, fitsD, fitD]; rw [inD_of (by omega) (by omega)]; rfl
  | .share j, h => by
    have h : j < many := h
    simp only [weE, wsh, itE, fitsD, fitD]; rw [inD_of (by omega) (by omega)]; rfl
  | .two w a b, h => rfl
  | .times f a, h => by simp only [weE, wsh, itE, fitsD, fitD]; rw [inD_of h.1.1 h.1.2]; rfl
  | .by i a, h => by
    have h1 : i < 4 := h.1
    simp only [weE, wsh, itE, fitsD, fitD]; rw [inD_of (by omega) (by omega)]; rfl
  | .when i c a b, h => by
    have h1 : i < 4 := h.1
    simp only [weE, wsh, itE, fitsD, fitD]; rw [inD_of (by omega) (by omega), inD_of h.2.1.1 h.2.1.2]; rfl
  | .whr j c a b, h => by
    have h1 : j < many := h.1
    simp only [weE, wsh, itE, fitsD, fitD]; rw [inD_of (by omega) (by omega), inD_of h.2.1.1 h.2.1.2]; rfl
theorem itE_parts : ∀ e : Ex, partsD (wsh (weE e)) (itE e) = e.kids.map toD
  | .fig _ => rfl
  | .reg _ => rfl
  | .share _ => rfl
  | .two _ _ _ => rfl
  | .times _ _ => rfl
  | .by _ _ => rfl
  | .when _ _ _ _ => rfl
  | .whr _ _ _ _ => rfl
theorem wdE_of {many : Nat} : ∀ {k : Nat} {e : Ex}, ExOk many e → wdE many k (toD e)
  | 0, e, _ => ⟨weE e, itE e, toD_eq e⟩
  | k + 1, e, h => ⟨weE e, itE e, toD_eq e, fun _ x hx => by
    rw [itE_parts] at hx
    obtain ⟨y, hy, rfl⟩ := List.mem_map.mp hx
    exact wdE_of (kids_ok e y h hy)⟩
theorem cntE_of {many : Nat} : ∀ {k : Nat} {e : Ex}, ExOk many e → e.dep ≤ k → cntE many k (toD e) = e.size
  | 0, e, _, h => absurd h (by have := dep_pos' e; omega)
  | k + 1, e, h, hd => by
    rw [toD_eq, cntE_eq, if_pos (itE_fits h), itE_parts, List.map_map]
    have ih : ∀ y ∈ e.kids, cntE many k (toD y) = y.size := fun y hy => cntE_of (kids_ok e y h hy) (by have := kids_dep e y hy; omega)
    rw [show e.kids.map (cntE many k ∘ toD) = e.kids.map Ex.size from List.map_congr_left ih]
    cases e with
    | fig => rfl
    | reg => rfl
    | share => rfl
    | two w a b =>
      have := size_pos a
      have := size_pos b
      show addE 1 [a.size, b.size] = 1 + a.size + b.size
      simp only [addE]
      rw [if_neg (by omega), if_neg (by omega)]
    | times f a =>
      have := size_pos a
      show addE 1 [a.size] = 1 + a.size
      simp only [addE]
      rw [if_neg (by omega)]
    | «by» f a =>
      have := size_pos a
      show addE 1 [a.size] = 1 + a.size
      simp only [addE]
      rw [if_neg (by omega)]
    | when i c a b =>
      have := size_pos a
      have := size_pos b
      show addE 1 [a.size, b.size] = 1 + a.size + b.size
      simp only [addE]
      rw [if_neg (by omega), if_neg (by omega)]
    | whr i c a b =>
      have := size_pos a
      have := size_pos b
      show addE 1 [a.size, b.size] = 1 + a.size + b.size
      simp only [addE]
      rw [if_neg (by omega), if_neg (by omega)]
theorem exD_toD : ∀ {k : Nat} {e : Ex}, e.dep ≤ k → exD k (toD e) = e
  | 0, e, h => absurd h (by have := dep_pos' e; omega)
  | k + 1, e, h => by
    rw [toD_eq]
    unfold exD
    simp only [weOf_wen]
    cases e with
    | fig c => rfl
    | reg i => rfl
    | share j => rfl
    | two w a b =>
      have h : max a.dep b.dep + 1 ≤ k + 1 := h
      show Ex.two w (exD k (toD a)) (exD k (toD b)) = _
      rw [exD_toD (e := a) (by omega), exD_toD (e := b) (by omega)]
    | times f a =>
      have h : a.dep + 1 ≤ k + 1 := h
      show Ex.times f (exD k (toD a)) = _
      rw [exD_toD (e := a) (by omega)]
    | «by» f a =>
      have h : a.dep + 1 ≤ k + 1 := h
      show Ex.by f (exD k (toD a)) = _
      rw [exD_toD (e := a) (by omega)]
    | when i c a b =>
      have h : max a.dep b.dep + 1 ≤ k + 1 := h
      show Ex.when i c (exD k (toD a)) (exD k (toD b)) = _
      rw [exD_toD (e := a) (by omega), exD_toD (e := b) (by omega)]
    | whr i c a b =>
      have h : max a.dep b.dep + 1 ≤ k + 1 := h
      show Ex.whr i c (exD k (toD a)) (exD k (toD b)) = _
      rw [exD_toD (e := a) (by omega), exD_toD (e := b) (by omega)]
/-- a stake that is one -/
theorem stakeD_of {many sc : Nat} {e : Ex} (h : ExOk many e) (hd : e.dep ≤ 8) : stakeD many sc (toD e) = (decide (e.size ≤ 40) && (decide (-(500 * pw2 sc) ≤ (spn e).1) && decide ((spn e).2 ≤ 500 * pw2 sc))) := by
  unfold stakeD isEx
  rw [cntE_of h hd, exD_toD hd, decide_eq_true (show 1 ≤ e.size from size_pos e), Bool.true_and]
end NG

namespace NG
open PySem PySem.Spec PyProof.Rows L2
/-! ### repr of a number, a truth or None -/
def shV : V → Option Str
  | .int i => if i.natAbs.log2 < 1920 then some (Str.ofString (toString i)) else none
  | .bl b => some (if b = true then Str.ofString "True" else Str.ofString "False")
  | .non => some (Str.ofString "None")
  | _ => none
def rReprV : List V → Hp → VK → Prop := fun vs H Q => ∃ (v : V) (x : Str), vs = [v] ∧ shV v = some x ∧ Q (.str x) H
theorem cr_reprV {X : Cx} : CallR X (.builtin "repr") rReprV := by
  intro pins s σ H vs us Q I r h
  obtain ⟨v, x, rfl, hx, q⟩ := h
  obtain ⟨u, rfl, t⟩ := vals1 r
  cases v with
  | int i =>
    have hx : (if i.natAbs.log2 < 1920 then some (Str.ofString (toString i)) else none) = some x := hx
    by_cases hz : i.natAbs.log2 < 1920
    · rw [if_pos hz] at hx
      have hx := Option.some.inj hx
      subst hx
      obtain ⟨t, rfl⟩ := t
      exact PySem.P.repr_of_int hz ⟨.str _, H, I.tok (s.toks + 1), ⟨_, rfl⟩, q⟩
    · rw [if_neg hz] at hx
      cases hx
  | bl b =>
    cases hx
    have t : u = Value.bool b := t
    subst t
    exact PySem.P.repr_of_bool ⟨.str _, H, I.tok (s.toks + 1), ⟨_, rfl⟩, q⟩
  | non =>
    cases hx
    have t : u = Value.none := t
    subst t
    exact PySem.P.repr_of_none ⟨.str _, H, I.tok (s.toks + 1), ⟨_, rfl⟩, q⟩
  | _ => cases hx
theorem shV_int {i : Int} (h : i.natAbs < 2 ^ 1000) : ∃ x, shV (.int i) = some x := by
  refine ⟨Str.ofString (toString i), ?_⟩
  show (if i.natAbs.log2 < 1920 then some (Str.ofString (toString i)) else none) = _
  rw [if_pos]
  by_cases h0 : i.natAbs = 0
  · rw [h0]; decide
  · have := (Nat.log2_lt h0).mpr h
    omega
/-! ### one promise out of another -/
theorem FnOk.mono {P : Program} {w : World} {K : PySem.W.Frag} {mg : Str → Option Value} {base : Heap} {CX : CXT} {k : Nat} {f : Addr} {fd : FuncData} {ps : List Str} {sp sp' : Sp} (F : FnOk P w K mg base CX k f fd ps sp) (h : ∀ vs H Q E, sp' vs H Q E → sp vs H Q E) : FnOk P w K mg base CX k f fd ps sp' :=
  ⟨fun vs H Q E x => F.len vs H Q E (h vs H Q E x), fun A outer s H args us vs Q E r e b v x => F.run A outer s H args us vs Q E r e b v (h vs H Q E x)⟩
end NG

namespace NG
open PySem PySem.Spec PyProof.Rows L2
/-! ### things of any kind: as Dp, and empty dicts -/
mutual
inductive Dq (K : PySem.W.Frag) (H : Hp) : V → PyData → Prop
  | non : Dq K H .non .none
  | bl (b : Bool) : Dq K H (.bl b) (.bool b)
  | int (i : Int) : Dq K H (.int i) (.int i)
  | str (x : Str) : Dq K H (.str x) (.str x)
  | lst {a : Addr} {xs : List V} {ds : List PyData} : SqL K H a xs → DqAll K H xs ds → Dq K H (.ref a) (.list ds)
  | tup {a : Addr} {xs : List V} {ds : List PyData} : SqT K H a xs → DqAll K H xs ds → Dq K H (.ref a) (.tuple ds)
  | dic {a : Addr} : H a = some (.dK []) → Dq K H (.ref a) (.dict [])
inductive DqAll (K : PySem.W.Frag) (H : Hp) : List V → List PyData → Prop
  | nil : DqAll K H [] []
  | cons {v : V} {vs : List V} {d : PyData} {ds : List PyData} : Dq K H v d → DqAll K H vs ds → DqAll K H (v :: vs) (d :: ds)
end
mutual
theorem dq_of {K : PySem.W.Frag} {H : Hp} : ∀ {d : PyData} {v : V}, Dp K H v d → Dq K H v d
  | .none, _, .non => .non
  | .bool _, _, .bl b => .bl b
  | .int _, _, .int i => .int i
  | .str _, _, .str x => .str x
  | .list _, _, .lst q a => .lst q (dqall_of a)
  | .tuple _, _, .tup q a => .tup q (dqall_of a)
theorem dqall_of {K : PySem.W.Frag} {H : Hp} : ∀ {ds : List PyData} {vs : List V}, DpAll K H vs ds → DqAll K H vs ds
  | [], _, .nil => .nil
  | _ :: _, _, .cons a b => .cons (dq_of a) (dqall_of b)
end
mutual
theorem dq_same {K : PySem.W.Frag} {H H' : Hp} (s : Same H H') : ∀ {d : PyData} {v : V}, Dq K H v d → Dq K H' v d
  | .none, _, .non => .non
  | .bool _, _, .bl b => .bl b
  | .int _, _, .int i => .int i
  | .str _, _, .str x => .str x
  | .list _, _, .lst q a => .lst (s.seq q) (dqall_same s a)
  | .tuple _, _, .tup q a => .tup (same_sqt s q) (dqall_same s a)
  | .dict _, _, .dic h => .dic (s _ _ h)
theorem dqall_same {K : PySem.W.Frag} {H H' : Hp} (s : Same H H') : ∀ {ds : List PyData} {vs : List V}, DqAll K H vs ds → DqAll K H' vs ds
  | [], _, .nil => .nil
  | _ :: _, _, .cons a b => .cons (dq_same s a) (dqall_same s b)
end
theorem dqall_len {K : PySem.W.Frag} {H : Hp} : ∀ {ds : List PyData} {vs : List V}, DqAll K H vs ds → vs.length = ds.length
  | [], _, .nil => rfl
  | _ :: _, _, .cons _ b => by rw [List.length_cons, List.length_cons, dqall_len b]
theorem dqall_get {K : PySem.W.Frag} {H : Hp} : ∀ {ds : List PyData} {vs : List V} {i : Nat} {v : V}, DqAll K H vs ds → vs[i]? = some v → ∃ d, ds[i]? = some d ∧ Dq K H v d
  | [], _, _, _, .nil, h => by simp at h
  | d :: _, _, 0, v, .cons a _, h => by
    have := Option.some.inj h
    subst this
    exact ⟨d, rfl, a⟩
  | _ :: _, _, i + 1, v, .cons _ b, h => dqall_get (i := i) b h
theorem dqall_drop {K : PySem.W.Frag} {H : Hp} : ∀ {n : Nat} {ds : List PyData} {vs : List V}, DqAll K H vs ds → DqAll K H (vs.drop n) (ds.drop n)
  | 0, _, _, h => h
  | _ + 1, [], _, .nil => by simpa using (.nil : DqAll K H [] [])
  | n + 1, _ :: _, _, .cons _ b => by
    rw [List.drop_succ_cons, List.drop_succ_cons]
    exact dqall_drop b
theorem dqall_take {K : PySem.W.Frag} {H : Hp} : ∀ {n : Nat} {ds : List PyData} {vs : List V}, DqAll K H vs ds → DqAll K H (vs.take n) (ds.take n)
  | 0, _, _, _ => .nil
  | _ + 1, [], _, .nil => by simpa using (.nil : DqAll K H [] [])
  | n + 1, _ :: _, _, .cons a b => by
    rw [List.take_succ_cons, List.take_succ_cons]
    exact .cons a (dqall_take b)
theorem dqall_app {K : PySem.W.Frag} {H : Hp} {es : List PyData} {us : List V} (x : DqAll K H us es) : ∀ {ds : List PyData} {vs : List V}, DqAll K H vs ds → DqAll K H (vs ++ us) (ds ++ es)
  | [], _, .nil => x
  | _ :: _, _, .cons a b => .cons a (dqall_app x b)
theorem dqall_mem {K : PySem.W.Frag} {H : Hp} : ∀ {ds : List PyData} {vs : List V}, DqAll K H vs ds → ∀ v ∈ vs, ∃ d ∈ ds, Dq K H v d
  | [], _, .nil, v, h => by cases h
  | d :: _, _, .cons a b, v, h => by
    rcases List.mem_cons.mp h with rfl | h
    · exact ⟨d, List.mem_cons_self, a⟩
    · obtain ⟨e, he, q⟩ := dqall_mem b v h
      exact ⟨e, List.mem_cons_of_mem _ he, q⟩
theorem dq_ints {K : PySem.W.Frag} {H : Hp} : ∀ (ns : List Int), DqAll K H (ns.map V.int) (ns.map PyData.int)
  | [] => .nil
  | n :: ns => .cons (.int n) (dq_ints ns)
theorem Dq.tyx {K : PySem.W.Frag} {H : Hp} {d : PyData} {v : V} (h : Dq K H v d) : TyX K H v (.type (tyd d)) := by
  cases h with
  | non => exact .base .non
  | bl b => exact .base (.bl b)
  | int i => exact .base (.int i)
  | str x => exact .base (.str x)
  | lst q _ =>
    rcases q with (q | ⟨o, q⟩) | ⟨o, its, n, h1, h2, _⟩
    · exact .base (.lst q)
    · exact .base (.frz q)
    · exact .kList h1 h2
  | tup q _ => exact tyx_tup q
  | dic q => exact .base (.dK q)
theorem rIsi_q {K : PySem.W.Frag} {H : Hp} {d : PyData} {v : V} {T : String} {b : Bool} {Q : VK} (h : Dq K H v d) (k : kitB (tyd d) T = some b) (q : Q (.bl b) H) : rIsi K [v, .ty T] H Q :=
  ⟨v, .ty T, _, _, b, rfl, .ty T, Dq.tyx h, kit_ty k, q⟩
/-! ### reading them -/
mutual
inductive RdD (h : Heap) : Value → PyData → Prop
  | none : RdD h .none .none
  | bool (b) : RdD h (.bool b) (.bool b)
  | int (i t) : RdD h (.int i t) (.int i)
  | str (x t) : RdD h (.str x t) (.str x)
  | list {a o vs n xs} : h.get? a = some o → o.cls = .type "list" → o.data = .seq vs n → RdDs h vs.toList xs → RdD h (.ref a) (.list xs)
  | tuple {a o vs n xs} : h.get? a = some o → o.cls = .type "tuple" → o.data = .seq vs n → RdDs h vs.toList xs → RdD h (.ref a) (.tuple xs)
  | dict {a o es n} : h.get? a = some o → o.cls = .type "dict" → o.data = .dict es n → es.toList = [] → (a == sysModules) = false → RdD h (.ref a) (.dict [])
inductive RdDs (h : Heap) : List Value → List PyData → Prop
  | nil : RdDs h [] []
  | cons {v vs d ds} : RdD h v d → RdDs h vs ds → RdDs h (v :: vs) (d :: ds)
end
mutual
theorem RdD.reads {h : Heap} : ∀ {d : PyData} {v : Value}, RdD h v d → ∃ as, Reads h v d as
  | .none, _, .none => ⟨_, .none⟩
  | .bool _, _, .bool b => ⟨_, .bool b⟩
  | .int _, _, .int i t => ⟨_, .int i t⟩
  | .str _, _, .str x t => ⟨_, .str x t⟩
  | .list _, _, .list h1 h2 h3 h4 => by
    obtain ⟨as, r⟩ := RdDs.reads h4
    exact ⟨_, .list h1 h2 h3 r⟩
  | .tuple _, _, .tuple h1 h2 h3 h4 => by
    obtain ⟨as, r⟩ := RdDs.reads h4
    exact ⟨_, .tuple h1 h2 h3 r⟩
  | .dict _, _, .dict h1 h2 h3 h4 _ => ⟨_, .dict h1 h2 h3 (by rw [h4]; exact .nil) (by rw [h4]; exact .nil)⟩
theorem RdDs.reads {h : Heap} : ∀ {ds : List PyData} {vs : List Value}, RdDs h vs ds → ∃ as, ReadsAll h vs ds as
  | [], _, .nil => ⟨_, .nil⟩
  | _ :: _, _, .cons a b => by
    obtain ⟨as, r⟩ := RdD.reads a
    obtain ⟨bs, r2⟩ := RdDs.reads b
    exact ⟨_, .cons r r2⟩
end
section
variable {prog : Program} {w : World} {h₀ : Heap}
mutual
theorem reprK_rdd : ∀ {d : PyData} {v : Value}, RdD h₀ v d → d.showable = true → d.shown.length ≤ sizeLine → ∃ bs, ReadAtMost h₀ d.depth bs ∧ ReprK prog w bs h₀ d.depth v d.shown
  | .none, _, .none, _, _ => ⟨[], (fun _ h => nomatch h), by simp only [PyData.shown]; exact .of_is ReprIs.none _ _ _⟩
  | .bool _, _, .bool b, _, _ => ⟨[], (fun _ h => nomatch h), by simp only [PyData.shown]; exact .of_is (ReprIs.bool b) _ _ _⟩
  | .int _, _, .int i t, hs, _ => ⟨[], (fun _ h => nomatch h), by simp only [PyData.shown]; exact .of_is (ReprIs.int t (by simpa [PyData.showable] using hs)) _ _ _⟩
  | .str _, _, .str x t, _, hz => ⟨[], (fun _ h => nomatch h), by simp only [PyData.shown]; exact .of_is (ReprIs.str x t (by simpa only [PyData.shown] using hz)) _ _ _⟩
  | .list xs, _, .list (a := a) (vs := vs) h1 h2 h3 h4, hs, hz => by
    have hz' : (listText (PyData.shownAll xs)).length ≤ sizeLine := by simpa only [PyData.shown] using hz
    obtain ⟨bs, hb, hk⟩ := reprK_rdds h4 (by simpa [PyData.showable] using hs) (fun t ht => Nat.le_trans (listText_mem_le ht) hz')
    obtain ⟨as, r⟩ := RdD.reads (.list h1 h2 h3 h4)
    have hna : a ∉ bs := not_mem_of_deeper r (by simp only [PyData.depth]; omega) hb
    refine ⟨a :: bs, ReadAtMost.cons r (by simp only [PyData.depth]; omega) hb, ?_⟩
    simp only [PyData.depth, PyData.shown]
    obtain ⟨l⟩ := vs
    cases l with
    | nil =>
      have h4' : RdDs h₀ [] xs := h4
      cases h4'
      simp only [PyData.shownAll, listText_nil]
      exact ReprK.listEmpty h1 h2 h3
    | cons x l => exact ReprK.list h1 h2 h3 hna (by simpa using hk.length_eq) (fun i y e => hk.item i y (by simpa using e))
  | .tuple xs, _, .tuple (a := a) h1 h2 h3 h4, hs, hz => by
    have hz' : (tupleText (PyData.shownAll xs)).length ≤ sizeLine := by simpa only [PyData.shown] using hz
    obtain ⟨bs, hb, hk⟩ := reprK_rdds h4 (by simpa [PyData.showable] using hs) (fun t ht => Nat.le_trans (tupleText_mem_le ht) hz')
    obtain ⟨as, r⟩ := RdD.reads (.tuple h1 h2 h3 h4)
    have hna : a ∉ bs := not_mem_of_deeper r (by simp only [PyData.depth]; omega) hb
    refine ⟨a :: bs, ReadAtMost.cons r (by simp only [PyData.depth]; omega) hb, ?_⟩
    simp only [PyData.depth, PyData.shown]
    exact ReprK.tuple h1 h2 h3 hna hk
  | .dict _, _, .dict (a := a) (es := es) h1 h2 h3 h4 h5, hs, hz => by
    obtain ⟨as, r⟩ := RdD.reads (.dict h1 h2 h3 h4 h5)
    refine ⟨a :: [], ReadAtMost.cons r (Nat.zero_le _) (fun _ h => nomatch h), ?_⟩
    simp only [PyData.depth, PyData.shown, PyData.shownKv_eq]
    exact ReprK.dict (as := []) h1 h2 h3 h5 (by simp) (ReprEntriesK.of_two es.toList _ _ (by rw [h4]; exact .nil) (by rw [h4]; exact .nil))
theorem reprK_rdds : ∀ {ds : List PyData} {vs : List Value}, RdDs h₀ vs ds → PyData.showableAll ds = true → (∀ t ∈ PyData.shownAll ds, t.length ≤ sizeLine) →
    ∃ bs, ReadAtMost h₀ (PyData.depthAll ds) bs ∧ ReprAllK prog w bs h₀ (PyData.depthAll ds) vs (PyData.shownAll ds)
  | [], _, .nil, _, _ => ⟨[], (fun _ h => nomatch h), by simp only [PyData.shownAll]; exact .nil⟩
  | d :: ds, _, .cons r rs, hs, hz => by
    have hs' : d.showable = true ∧ PyData.showableAll ds = true := by simpa [PyData.showableAll] using hs
    obtain ⟨b1, hb1, k1⟩ := reprK_rdd r hs'.1 (hz _ (by simp only [PyData.shownAll]; exact List.mem_cons_self ..))
    obtain ⟨b2, hb2, k2⟩ := reprK_rdds rs hs'.2 (fun t ht => hz t (by simp only [PyData.shownAll]; exact List.mem_cons_of_mem _ ht))
    refine ⟨b1 ++ b2, ?_, ?_⟩
    · intro b hm
      simp only [PyData.depthAll]
      rcases List.mem_append.mp hm with hm | hm
      · obtain ⟨d', as', r', hd'⟩ := hb1 b hm
        exact ⟨d', as', r', Nat.le_trans hd' (Nat.le_max_left _ _)⟩
      · obtain ⟨d', as', r', hd'⟩ := hb2 b hm
        exact ⟨d', as', r', Nat.le_trans hd' (Nat.le_max_right _ _)⟩
    · simp only [PyData.depthAll, PyData.shownAll]
      exact .cons ((k1.more fun b hb => List.mem_append_left _ hb).level_le (Nat.le_max_left _ _)) (k2.more_le (fun b hb => List.mem_append_right _ hb) (Nat.le_max_right _ _))
end
theorem showsBy_rdd {a : Addr} {d : PyData} (r : RdD h₀ (.ref a) d) (hs : d.showable = true) (hsz : d.shown.length ≤ sizeLine) : ∃ T idr, ShowsBy prog w h₀ a d T idr := by
  cases r with
  | list h1 h2 h3 h4 =>
    rename_i o vs n xs
    have hz' : (listText (PyData.shownAll xs)).length ≤ sizeLine := by simpa only [PyData.shown] using hsz
    obtain ⟨bs, hb, hk⟩ := reprK_rdds (prog := prog) (w := w) h4 (by simpa [PyData.showable] using hs) (fun t ht => Nat.le_trans (listText_mem_le ht) hz')
    obtain ⟨as, r⟩ := RdD.reads (.list h1 h2 h3 h4)
    have hna : a ∉ bs := not_mem_of_deeper r (by simp only [PyData.depth]; omega) hb
    refine ⟨"list", "list.__repr__", F.slot_list_repr.toG, F.slot_list_str, F.slot_list_format, fun s hk0 => ⟨o, hk0 _ _ h1, h2⟩, fun A E s Q hg hu hk0 hQ => ?_⟩
    simp only [PyData.depth] at hu
    simp only [PyData.shown] at hQ
    obtain ⟨l⟩ := vs
    cases l with
    | nil =>
      have h4' : RdDs h₀ [] xs := h4
      cases h4'
      simp only [PyData.shownAll, listText_nil] at hQ
      exact call_list_repr_empty ⟨o, hk0 _ _ h1, h2⟩ (hk0 _ _ h1) h3 (hQ s.heap _ _ fun _ _ e => e)
    | cons x l =>
      exact call_list_reprK h1 h2 h3 hna (by simpa using hk.length_eq) (fun i y e => hk.item i y (by simpa using e)) hg (fun b _ => Clear.nil b) hu hk0 hQ hz'
  | tuple h1 h2 h3 h4 =>
    rename_i o vs n xs
    have hz' : (tupleText (PyData.shownAll xs)).length ≤ sizeLine := by simpa only [PyData.shown] using hsz
    obtain ⟨bs, hb, hk⟩ := reprK_rdds (prog := prog) (w := w) h4 (by simpa [PyData.showable] using hs) (fun t ht => Nat.le_trans (tupleText_mem_le ht) hz')
    obtain ⟨as, r⟩ := RdD.reads (.tuple h1 h2 h3 h4)
    have hna : a ∉ bs := not_mem_of_deeper r (by simp only [PyData.depth]; omega) hb
    refine ⟨"tuple", "tuple.__repr__", F.slot_tuple_repr, F.slot_tuple_str, F.slot_tuple_format, fun s hk0 => ⟨o, hk0 _ _ h1, h2⟩, fun A E s Q hg hu hk0 hQ => ?_⟩
    simp only [PyData.depth] at hu
    simp only [PyData.shown] at hQ
    exact call_tuple_reprK h1 h2 h3 hna hk hg (fun b _ => Clear.nil b) hu hk0 hQ hz'
  | dict h1 h2 h3 h4 h5 =>
    rename_i o es n
    refine ⟨"dict", "dict.__repr__", F.slot_dict_repr, F.slot_dict_str, F.slot_dict_format, fun s hk0 => ⟨o, hk0 _ _ h1, h2⟩, fun A E s Q hg hu hk0 hQ => ?_⟩
    simp only [PyData.depth] at hu
    simp only [PyData.shown, PyData.shownKv_eq] at hQ
    have hz' : (dictText (PyData.shownKv [])).length ≤ sizeLine := by simpa only [PyData.shown] using hsz
    exact call_dict_reprK (as := []) h1 h2 h3 h5 (by simp) (ReprEntriesK.of_two es.toList _ _ (by rw [h4]; exact .nil) (by rw [h4]; exact .nil)) hg (fun b _ => Clear.nil b) hu hk0 hQ (by rw [← PyData.shownKv_eq]; exact hz')
end
section
variable {X : Cx} {pins : List (Addr × Obj)} {σ : L2.St} {H : Hp} {s : Shared}
mutual
theorem Dq.rdd (I : Inv X pins σ H s) : ∀ (d : PyData) (v : V) (u : Value), Dq X.K H v d → RelV v u → RdD s.heap u d
  | .none, _, _, h, r => by
    cases h
    cases r
    exact .none
  | .bool b, _, _, h, r => by
    cases h
    cases r
    exact .bool b
  | .int i, _, _, h, r => by
    cases h
    obtain ⟨t, rfl⟩ := r
    exact .int i t
  | .str x, _, _, h, r => by
    cases h
    obtain ⟨t, rfl⟩ := r
    exact .str x t
  | .list ds, _, _, h, r => by
    cases h with
    | lst hs ha =>
      cases r
      obtain ⟨its, rv, ⟨o, n, ho, hc, _, hd⟩, _⟩ := I.list hs
      exact .list ho hc hd (Dq.rdds I ds _ its ha rv)
  | .tuple ds, _, _, h, r => by
    cases h with
    | tup hs ha =>
      cases r
      obtain ⟨its, rv, ⟨o, ho, hc, n, hd⟩, _⟩ := I.tuple hs
      exact .tuple ho hc hd (Dq.rdds I ds _ its ha rv)
  | .dict _, _, _, h, r => by
    cases h with
    | dic hx =>
      cases r
      obtain ⟨_, hn, vs, hk, o, es, ep, ho, hx2, hd, _, hp, _⟩ := dk_of I.hok hx
      cases hk
      refine .dict ho hx2.1 hd ?_ hn
      have := Pairs.length hp
      exact List.length_eq_zero_iff.mp this
theorem Dq.rdds (I : Inv X pins σ H s) : ∀ (ds : List PyData) (vs : List V) (us : List Value), DqAll X.K H vs ds → Vals vs us → RdDs s.heap us ds
  | [], _, _, h, r => by
    cases h
    cases r
    exact .nil
  | d :: ds, _, _, h, r => by
    cases h with
    | cons h1 h2 =>
      cases r with
      | cons r1 r2 => exact .cons (Dq.rdd I d _ _ h1 r1) (Dq.rdds I ds _ _ h2 r2)
end
end
def rReprQ (K : PySem.W.Frag) : List V → Hp → VK → Prop := fun vs H Q => ∃ (v : V) (d : PyData), vs = [v] ∧ Dq K H v d ∧ d.showable = true ∧ d.depth ≤ 60 ∧ d.shown.length ≤ sizeLine ∧ Q (.str d.shown) H
theorem cr_reprQ {X : Cx} (hg : X.A.guards = some []) (hu : X.A.units + 64 < cLine) : CallR X (.builtin "repr") (rReprQ X.K) := by
  intro pins s σ H vs us Q I r h
  obtain ⟨v, d, rfl, hd, hs, hz, hl, q⟩ := h
  obtain ⟨u, rfl, t⟩ := vals1 r
  have rd := Dq.rdd I d v u hd t
  cases rd with
  | none => simp only [PyData.shown] at q; exact PySem.P.repr_of_none ⟨.str _, H, I.tok (s.toks + 1), ⟨_, rfl⟩, q⟩
  | bool b => simp only [PyData.shown] at q; exact PySem.P.repr_of_bool ⟨.str _, H, I.tok (s.toks + 1), ⟨_, rfl⟩, q⟩
  | int i t => simp only [PyData.shown] at q; exact PySem.P.repr_of_int (by simpa [PyData.showable] using hs) ⟨.str _, H, I.tok (s.toks + 1), ⟨_, rfl⟩, q⟩
  | str x t => simp only [PyData.shown] at q hl; exact PySem.P.repr_of_str ⟨.str _, H, I.tok (s.toks + 1), ⟨_, rfl⟩, q⟩ hl
  | list h1 h2 h3 h4 =>
    obtain ⟨T, idr, S⟩ := showsBy_rdd (prog := X.prog) (w := X.w) (.list h1 h2 h3 h4) hs hl
    exact call_repr_slot (by omega) (S.typeIs s fun _ _ e => e) S.slotRepr (S.call _ _ s _ hg (by show X.A.units + 1 + _ < cLine; omega) (fun _ _ e => e) fun h' u tk hk => ⟨_, _, rfl, ⟨.str _, H, I.kept hk, ⟨_, rfl⟩, q⟩⟩)
  | tuple h1 h2 h3 h4 =>
    obtain ⟨T, idr, S⟩ := showsBy_rdd (prog := X.prog) (w := X.w) (.tuple h1 h2 h3 h4) hs hl
    exact call_repr_slot (by omega) (S.typeIs s fun _ _ e => e) S.slotRepr (S.call _ _ s _ hg (by show X.A.units + 1 + _ < cLine; omega) (fun _ _ e => e) fun h' u tk hk => ⟨_, _, rfl, ⟨.str _, H, I.kept hk, ⟨_, rfl⟩, q⟩⟩)
  | dict h1 h2 h3 h4 h5 =>
    obtain ⟨T, idr, S⟩ := showsBy_rdd (prog := X.prog) (w := X.w) (.dict h1 h2 h3 h4 h5) hs hl
    exact call_repr_slot (by omega) (S.typeIs s fun _ _ e => e) S.slotRepr (S.call _ _ s _ hg (by show X.A.units + 1 + _ < cLine; omega) (fun _ _ e => e) fun h' u tk hk => ⟨_, _, rfl, ⟨.str _, H, I.kept hk, ⟨_, rfl⟩, q⟩⟩)
end NG

namespace NG
open PySem PySem.Spec PyProof.Rows L2
/-! ### a heap without one object -/
def hide (a : Addr) (H : Hp) : Hp := fun b => if b = a then none else H b
theorem hide_ne {a b : Addr} {H : Hp} (h : b ≠ a) : hide a H b = H b := if_neg h
theorem hide_same {a : Addr} {H : Hp} : Same (hide a H) H := fun b o e => by
  unfold hide at e
  split at e
  · cases e
  · exact e
theorem hide_but {a : Addr} {H H' : Hp} (h : But a H H') : Same (hide a H) (hide a H') := fun b o e => by
  unfold hide at e ⊢
  split at e
  · cases e
  · rename_i hn
    rw [if_neg hn]
    exact h b o hn e
theorem hide_sqt {a p : Addr} {H : Hp} {K : PySem.W.Frag} {n : Nat} {xs : List V} (hh : HandAt H a n) (q : SqT K H p xs) : SqT K (hide a H) p xs := by
  obtain ⟨l, e⟩ := hh.some
  rcases q with (q | ⟨o, q⟩) | q
  · exact .inl (.inl ((hide_ne (ne_of q e (by intro z; cases z))).trans q))
  · exact .inl (.inr ⟨o, (hide_ne (ne_of q e (by intro z; cases z))).trans q⟩)
  · exact .inr q
theorem hide_at {a p : Addr} {H : Hp} {o : HO} (h : p ≠ a) (q : H p = some o) : hide a H p = some o := (hide_ne h).trans q
theorem Dq.shown {K : PySem.W.Frag} {H : Hp} {a : Addr} {d : PyData} {v : V} (h : Dq K (hide a H) v d) : Dq K H v d := dq_same hide_same h
theorem Dq.but {K : PySem.W.Frag} {H H' : Hp} {a : Addr} {d : PyData} {v : V} (h : Dq K (hide a H) v d) (b : But a H H') : Dq K (hide a H') v d := dq_same (hide_but b) h
theorem hide_same2 {a : Addr} {H H' : Hp} (h : Same H H') : Same (hide a H) (hide a H') := hide_but (But.of h)
/-! ### shown, of numbers below 10 ** 40 -/
theorem Shh.int40 {i : Int} (h : i.natAbs < 10 ^ 40) : Shh (.int i) 140 0 := by
  have hl : i.natAbs.log2 < 139 := PySem.Flt.log2_lt_of (by decide) (Nat.lt_trans h (by decide))
  refine ⟨?_, ?_, ?_, Nat.le_refl _⟩
  · show decide (i.natAbs.log2 < 1920) = true
    exact decide_eq_true (by omega)
  · show decide ((PyData.shown (.int i)).length ≤ 70) = true
    refine decide_eq_true ?_
    have e := int_text_length_le10 (k := 40) (by decide) h
    show (Str.ofString (toString i)).length ≤ 70
    rw [PySem.ofString_length]
    omega
  · show (if i == 0 then 0 else i.natAbs.log2 + 1) ≤ 140
    split <;> omega
theorem chars_of (s : String) : ((Str.ofString s).cps.toList.all fun c => decide (c < 16 ^ 8)) = true := by
  rw [Str.ofString_eq_toList, List.all_eq_true]
  intro c hc
  rw [List.toList_toArray] at hc
  obtain ⟨x, _, rfl⟩ := List.mem_map.mp hc
  have h := x.valid
  refine decide_eq_true ?_
  have : x.toNat < 4294967296 := x.val.toNat_lt
  omega
theorem Shh.sint {i : Int} (h : i.natAbs < 10 ^ 40) : Shh (.str (Str.ofString (toString i))) 41 0 := by
  refine ⟨rfl, chars_of _, ?_, Nat.le_refl _⟩
  have e := int_text_length_le10 (k := 40) (by decide) h
  show (Str.ofString (toString i)).length ≤ 41
  rw [PySem.ofString_length]
  exact e
theorem Shh.non : Shh .none 0 0 := ⟨rfl, rfl, Nat.le_refl _, Nat.le_refl _⟩
theorem Shh.bl (b : Bool) : Shh (.bool b) 0 0 := ⟨rfl, rfl, Nat.le_refl _, Nat.le_refl _⟩
theorem Shh.dic : Shh (.dict []) 0 1 := ⟨rfl, rfl, Nat.le_refl _, Nat.le_refl _⟩
theorem shh_all {f : PyData → Prop} {w k : Nat} : ∀ {ds : List PyData}, (∀ d ∈ ds, Shh d w k) → ShhAll ds (ds.length * (w + 1)) k
  | [], _ => by simpa using (ShhAll.nil : ShhAll [] 0 k)
  | d :: ds, h => by
    have h1 := h d List.mem_cons_self
    have h2 := shh_all (f := f) (ds := ds) fun x hx => h x (List.mem_cons_of_mem _ hx)
    refine (ShhAll.cons h1 h2 (Nat.le_refl _) (Nat.le_refl _)).mono ?_ (Nat.le_refl _)
    rw [List.length_cons, Nat.succ_mul]
    omega
end NG

set_option maxHeartbeats 2000000
namespace NG
open PySem PySem.Spec PyProof.Rows L2
/-! ### a written dict's keys: a text that may be none of them, None -/
def KdAt (K : PySem.W.Frag) (w : World) (d : Addr) : Prop := ∃ es n, K.lookup d = some ⟨.type "dict", none, .dict es n, #[]⟩ ∧ PySem.W.KeysLit w.params es.toList ∧ (d == sysModules) = false
def rInKq (K : PySem.W.Frag) (w : World) (neg : Bool) : R2 := fun x y H Q => ∃ d, y = .ref d ∧ KdAt K w d ∧ ((∃ z r, x = .str z ∧ PySem.W.nsIn K d z = some r ∧ Q (.bl (xor neg r.isSome)) H) ∨ (x = .non ∧ Q (.bl neg) H))
theorem none_mapK {P : Program} {w : World} {h : Heap} {K : PySem.W.Frag} {d : Addr} {es : Array DictEntry} {n : Nat} (X : K.In h) (hl : K.lookup d = some ⟨.type "dict", none, .dict es n, #[]⟩) (hk : PySem.W.KeysLit w.params es.toList) : ∃ f, h.MapOf (noneKind P w) d f ∧ f none = none := by
  refine ⟨fun k => findBy (noneKind P w).is es k, ⟨_, es, n, X _ _ hl, ⟨rfl, rfl, rfl⟩, rfl, fun e he => ?_, fun k => rfl⟩, ?_⟩
  · obtain ⟨x, t, e1, e2⟩ := hk.all e (Array.mem_toList_iff.mpr he)
    refine ⟨some (Sum.inr x), ?_, e2⟩
    rw [e1]
    exact kV_is (P := P) (w := w) (k := Sum.inr x) (u := .str x t) ⟨t, rfl⟩
  · have q : (es.find? fun e => nkIs none e.key) = none := by
      rw [Array.find?_eq_none]
      intro e he hq
      obtain ⟨x, t, e1, e2⟩ := hk.all e (Array.mem_toList_iff.mpr he)
      rw [e1] at hq
      cases hq
    show (es.find? fun e => nkIs none e.key).map (·.val) = none
    rw [q] <;> rfl
theorem op_inKq {X : Cx} : OpR X (compareOp .In) (rInKq X.K X.w false) := by
  intro pins s σ H x y v u Q I rx ry h
  obtain ⟨d, rfl, ⟨es, n, hl, hk, low⟩, h⟩ := h
  rcases h with ⟨z, r, rfl, e, q⟩ | ⟨rfl, q⟩
  · rw [Bool.false_xor] at q
    exact op_in_kd (X := X) ⟨hl, hk, low⟩ pins s σ H _ _ v u Q I rx ry ⟨z, r, rfl, rfl, e, q⟩
  · cases rx
    cases ry
    obtain ⟨f, hm, hf⟩ := none_mapK (P := X.prog) I.kIn hl hk
    refine wpAny_in_of (show (noneKind X.prog X.w).is none .none = true from rfl) low hm ?_
    rw [hf]
    exact ⟨.bl false, H, I.tok _, rfl, q⟩
theorem op_ninKq {X : Cx} : OpR X (compareOp .NotIn) (rInKq X.K X.w true) := by
  intro pins s σ H x y v u Q I rx ry h
  obtain ⟨d, rfl, ⟨es, n, hl, hk, low⟩, h⟩ := h
  rcases h with ⟨z, r, rfl, e, q⟩ | ⟨rfl, q⟩
  · rw [Bool.true_xor] at q
    exact op_notIn_kd (X := X) ⟨hl, hk, low⟩ pins s σ H _ _ v u Q I rx ry ⟨z, r, rfl, rfl, e, q⟩
  · cases rx
    cases ry
    obtain ⟨f, hm, hf⟩ := none_mapK (P := X.prog) I.kIn hl hk
    refine wpAny_notIn_of (show (noneKind X.prog X.w).is none .none = true from rfl) low hm ?_
    rw [hf]
    exact ⟨.bl true, H, I.tok _, rfl, q⟩
/-- what stands in the keys' row -/
def ktx (l : List DictEntry) : List (Option Str) := l.map fun e => match e.key with
  | .str x _ => some x
  | _ => none
theorem nsIn_absent {K : PySem.W.Frag} {w : World} {d : Addr} {es : Array DictEntry} {n : Nat} {x : Str} (hl : K.lookup d = some ⟨.type "dict", none, .dict es n, #[]⟩) (hk : PySem.W.KeysLit w.params es.toList) (h : some x ∉ ktx es.toList) : PySem.W.nsIn K d x = some none := by
  have key : ∀ e ∈ es.toList, e.key.isStr x = false ∧ e.refKey = false := fun e he => by
    obtain ⟨y, t, e1, e2⟩ := hk.all e he
    have hne : x ≠ y := fun z => h (by
      rw [z]
      exact List.mem_map.mpr ⟨e, he, by rw [e1]⟩)
    refine ⟨?_, ?_⟩
    · rw [e1]
      show (y == x) = false
      exact beq_eq_false_iff_ne.mpr fun z => hne z.symm
    · unfold DictEntry.refKey
      rw [e1]
  unfold PySem.W.nsIn
  rw [hl]
  dsimp only
  have h1 : es.toList.find? (·.key.isStr x) = none := List.find?_eq_none.mpr fun e he => by rw [(key e he).1]; exact Bool.false_ne_true
  rw [h1]
  dsimp only
  rw [if_neg]
  rw [List.any_eq_true]
  rintro ⟨e, he, q⟩
  rw [(key e he).2] at q
  cases q
/-! ### d.update(e), both with ints and texts as keys -/
def rDUpdate : V → List V → Hp → VK → Prop := fun x vs H Q => ∃ (a b : Addr) (ka kb : List (Key × V)), x = .ref a ∧ vs = [.ref b] ∧ a ≠ b ∧ H a = some (.dK ka) ∧ H b = some (.dK kb) ∧ ka.length + kb.length ≤ sizeLine ∧ Q .non (upd H a (.dK (mergeK ka kb)))
theorem mt_dupdate {X : Cx} : MtM X "dict.update" rDUpdate := by
  intro pins s σ H x vs v us Q I rx rv h
  obtain ⟨a, b, ka, kb, rfl, rfl, hab, ha, hb, hz, q⟩ := h
  cases rx
  obtain ⟨u, rfl, ru⟩ := rv.one
  cases ru
  obtain ⟨za, da, va, ra, dda⟩ := dk_of I.hok ha
  obtain ⟨zb, db, vb, rb, ddb⟩ := dk_of I.hok hb
  have l1 := ra.length
  have l2 := rb.length
  refine call_meetsIn F.slot_dict_update ?_ F.entry_dict_update ?_ (meets_dict_update (mixKind X.prog X.w) a b hab db) ⟨va, vb, dda, ddb, by omega, fun h' dd' _ hs => ?_⟩
  · exact let ⟨o, _, _, ho, hx, _⟩ := dda; ⟨o, ho, hx.1⟩
  · exact F.args_dict_update_2 _ _
  · have he : ∃ q, h'.get? a = some q := let ⟨q, _, _, hq, _⟩ := dd'; ⟨q, hq⟩
    have hl : (mergeK ka kb).length ≤ sizeLine := Nat.le_trans (length_mergeK kb ka) hz
    exact ⟨.non, _, d_write I (by rw [ha]; exact True.intro) hs he (dk_new hl da (KV.merge rb ra) dd'), rfl, q⟩
/-! ### t[::-1] of a tuple -/
theorem vals_rev' {xs : List V} {us : List Value} (r : Vals xs us) : Vals xs.reverse us.reverse := Vals.rev r
/-! ### t == () -/
def rEqE (K : PySem.W.Frag) : R2 := fun x y H Q => ∃ a b xs, x = .ref a ∧ y = .ref b ∧ SqT K H a xs ∧ SqT K H b [] ∧ Q (.bl xs.isEmpty) H
theorem op_eqE {X : Cx} (hu : X.A.units + 64 < cLine) : OpR X (compareOp .Eq) (rEqE X.K) := by
  intro pins s σ H x y v u Q I rx ry h
  obtain ⟨a, b, xs, rfl, rfl, ha, hb, q⟩ := h
  cases rx
  cases ry
  obtain ⟨its, r1, p1, _⟩ := I.tuple ha
  obtain ⟨its2, r2, p2, _⟩ := I.tuple hb
  cases r2
  refine PySem.W.eq_tuplesT (n := 0) (e := fun _ => true) p1 p2 (fun j h1 h2 => absurd h2 (by simp)) (by omega) ⟨.bl xs.isEmpty, H, I, ?_, q⟩
  have l := r1.length
  show Value.bool _ = Value.bool _
  cases xs with
  | nil => cases r1; rfl
  | cons z zs =>
    cases r1 with
    | cons _ _ => rfl
end NG

set_option maxHeartbeats 2000000
namespace NG
open PySem PySem.Spec PyProof.Rows L2
/-! ### zip of a text with a tuple -/
def sgV (x : Str) (i : Nat) : Option V := (x.cps[i]?).map fun c => V.str ⟨#[c]⟩
def ItST (K : PySem.W.Frag) (x : Str) (b : Addr) : It :=
  ⟨fun i H => ∃ (ws : List V) (u v : V), SqT K H b ws ∧ sgV x i = some u ∧ ws[i]? = some v,
   fun i H r H' => ∃ (T : Addr) (u v : V), r = .ref T ∧ H T = none ∧ H' = upd H T (.tup [u, v]) ∧ sgV x i = some u ∧ ∀ ws, SqT K H b ws → ws[i]? = some v,
   fun i H => ∃ ws : List V, SqT K H b ws ∧ x.cps.size = i ∧ ws.length = i⟩
theorem turn_ST {x0 : Str} {tk0 : Tok} {P : Program} {w : World} {K : PySem.W.Frag} {es : List Expr} {k : Nat} {ps : Pos} {b z TI TO i1 i2 : Addr} (S : ZipSep2 z TI TO i1 i2 [i1] [i2, b]) (nb : b ≠ i2) :
    Turn P w K (.Tuple es k ps) (ItST K x0 b) [z, TI, TO, i1, i2] z (fun i h => IsZip h z TI TO .none ∧ IsTupOf2 h TI (.ref i1) (.ref i2) ∧ (∃ c d, IsTupOf2 h TO c d) ∧ h.IsStrIter i1 (strIterType x0) x0 tk0 i ∧ h.IsTupleIter i2 b i) := by
  have five : ∀ {c : Addr}, c ∈ [z, TI, TO, i1, i2] → c = z ∨ c = TI ∨ c = TO ∨ c = i1 ∨ c = i2 := fun h => by simpa using h
  have lives : ∀ (i : Nat) (h : Heap), (IsZip h z TI TO .none ∧ IsTupOf2 h TI (.ref i1) (.ref i2) ∧ (∃ c d, IsTupOf2 h TO c d) ∧ h.IsStrIter i1 (strIterType x0) x0 tk0 i ∧ h.IsTupleIter i2 b i) → ∀ c ∈ [z, TI, TO, i1, i2], ∃ o, h.get? c = some o ∧ ∀ v, o.data ≠ .cell v := fun i h st c hc => by
    obtain ⟨s1, s2, ⟨x, y, s3⟩, ⟨o4, s4, _, d4⟩, ⟨o5, s5, _, d5⟩⟩ := st
    rcases five hc with rfl | rfl | rfl | rfl | rfl
    · exact ⟨_, s1, fun v q => nomatch q⟩
    · exact ⟨_, s2, fun v q => nomatch q⟩
    · exact ⟨_, s3, fun v q => nomatch q⟩
    · exact ⟨o4, s4, fun v q => by rw [d4] at q; exact nomatch q⟩
    · exact ⟨o5, s5, fun v q => by rw [d5] at q; exact nomatch q⟩
  refine ⟨List.mem_cons_self, lives, fun i h h' st kp => ?_, fun X eP ew eK hc i pins s σ H E I hf st hg => ?_, fun X eP ew eK hc i pins s σ H E I hf st hg => ?_, fun A i s Q E st q => wpAny_pyIter_zip st.1 q⟩
  · obtain ⟨s1, s2, ⟨x, y, s3⟩, s4, s5⟩ := st
    exact ⟨kp _ (by simp) _ s1, kp _ (by simp) _ s2, ⟨x, y, kp _ (by simp) _ s3⟩, let ⟨o, ho, r⟩ := s4; ⟨o, kp _ (by simp) o ho, r⟩, s5.at fun o q => kp _ (by simp) o q⟩
  · cases eP
    cases ew
    cases eK
    have lv := lives i _ st
    obtain ⟨s1, s2, s3, s4, s5⟩ := st
    obtain ⟨ws, u, v, qb, hu, hv⟩ := hg
    obtain ⟨lb, rb, pb, _⟩ := I.tuple qb
    obtain ⟨v', ev', rv⟩ := rb.get hv
    have W := WalksT.zipD2 (A := X.A) S (Draws.text (prog := X.prog) (w := X.w) (A := X.A.in1) (I.ok.hd hc) i1 x0 tk0) (Draws.tuple (A := X.A.in1) (I.ok.hd hc) i2 b nb lb.toArray)
    obtain ⟨c0, hc0, eu0⟩ : ∃ c, x0.cps[i]? = some c ∧ V.str ⟨#[c]⟩ = u := by
      unfold sgV at hu
      cases hq : x0.cps[i]? with
      | none => rw [hq] at hu; cases hu
      | some c => rw [hq] at hu; exact ⟨c, rfl, Option.some.inj hu⟩
    have il : i < x0.cps.size := (Array.getElem?_eq_some_iff.mp hc0).1
    have ir : i < lb.length := (List.getElem?_eq_some_iff.mp ev').1
    refine W.item i s _ E (by have hsz : lb.toArray.size = lb.length := List.size_toArray; omega) ⟨s1, s2, s3, s4, ⟨s5, pb⟩⟩ fun T vals h1 tk pv hT tT mid k1 => ⟨_, rfl, ?_⟩
    have apT := W.apart i T h1 mid
    refine W.go es k ps i T _ _ _ mid fun h2 st2 k2 => ?_
    obtain ⟨x1, x2, e1, e2, rfl⟩ := pv
    obtain ⟨c1, u1, hc1, ex1⟩ := e1
    have f1 : c1 = c0 := Option.some.inj (hc1.symm.trans hc0)
    have f2 : x2 = v' := by
      have := e2.symm.trans (show lb.toArray[i]? = some v' by simpa using ev')
      exact Option.some.inj this
    subst f1 f2 ex1
    have ru : RelV u (.str ⟨#[c1]⟩ u1) := by rw [← eu0]; exact ⟨u1, rfl⟩
    obtain ⟨z1, z2, z3, z4, ⟨z5, _⟩⟩ := st2
    have tT2 : h2.IsTuple T #[.str ⟨#[c1]⟩ u1, x2] := tT.at fun o e => k2 T o apT e
    have in5 : ∀ c, c ∉ [z, TI, TO, i1, i2] → c ∉ [z, TO, i1, i2] := fun c h m => h (by
      rcases (by simpa using m : c = z ∨ c = TO ∨ c = i1 ∨ c = i2) with rfl | rfl | rfl | rfl <;> simp)
    have J := I.turnedNew (h' := h2) (t' := tk) (ch := [z, TI, TO, i1, i2]) (T := T) (ob := .tup [u, v]) (fun c o hb' q => k2 c o (in5 c hb') (k1 c o (in5 c hb') q)) hf hT ⟨(by show 2 ≤ sizeLine; decide), [.str ⟨#[c1]⟩ u1, x2], .cons ru (.cons rv .nil), tT2⟩
    refine ⟨.ref T, _, J, rfl, ⟨T, u, v, rfl, I.hok.fresh hT, rfl, hu, fun l hl => ?_⟩, ⟨z1, z2, z3, z4, z5⟩, fun c hcm => ?_⟩
    · rw [I.tuple_inj hl qb]
      exact hv
    · obtain ⟨o, ho, _⟩ := lv c hcm
      have lt := Heap.lt_size ho
      rw [upd_ne (Nat.ne_of_lt (Nat.lt_of_lt_of_le lt hT))]
      exact (hf c hcm).1
  · cases eP
    cases ew
    cases eK
    obtain ⟨s1, s2, s3, s4, s5⟩ := st
    obtain ⟨ws, qb, e1, e2⟩ := hg
    obtain ⟨lb, rb, pb, _⟩ := I.tuple qb
    have W := WalksT.zipD2 (A := X.A) S (Draws.text (prog := X.prog) (w := X.w) (A := X.A.in1) (I.ok.hd hc) i1 x0 tk0) (Draws.tuple (A := X.A.in1) (I.ok.hd hc) i2 b nb lb.toArray)
    have l2 := rb.length
    have en : min x0.cps.size lb.toArray.size = i := by
      have hsz : lb.toArray.size = lb.length := List.size_toArray
      omega
    rw [en] at W
    refine W.done s _ E ⟨s1, s2, s3, s4, ⟨s5, pb⟩⟩ fun h1 tk k1 => ⟨rfl, ?_⟩
    exact I.turnedL (t' := tk) (ch := [z, TI, TO, i1, i2]) (fun c o hb' q => k1 c o (fun m => hb' (by rcases (by simpa using m : c = z ∨ c = TO ∨ c = i1 ∨ c = i2) with rfl | rfl | rfl | rfl <;> simp)) q) hf
def iZipST (K : PySem.W.Frag) (ta : TA) : TI := fun σ H R => ta σ H fun vs H1 => ∃ x b ws, vs = [.str x, .ref b] ∧ SqT K H1 b ws ∧ R (ItST K x b) H1
theorem pi_zipST {X : Cx} {e e2 : Expr} {ta : TA} {p pos tpos : Pos} {elts : List Expr} {kk : Nat} (hg : Gl X "zip") (hm : X.mg "zip" = none) (ha : PA X [e, e2] ta)
    (hs : starEach [e, e2] X.env = (false, eval e X.env) :: starEach [e2] X.env := by rfl) (hpl : (backTo pos (starEach [e2] X.env)).any (·.1) = false := by rfl) : PI X (.Tuple elts kk tpos) (.Call (.Name "zip" p) [e, e2] [] pos) (iZipST X.K ta) := by
  refine ⟨fun pins s σ H R I h => Call_ (ld_blt I hg hm PyProof.Rows.boot_zip (PyProof.Rows.callWith_type1 (thn (ha.run pos pins s σ H _ I h) fun us s1 ⟨vs, H1, I1, r1, q1⟩ => ?_) hs hpl))⟩
  obtain ⟨x0, b, wl, rfl, qb, q⟩ := q1
  obtain ⟨v1, v2, rfl, t1, t2⟩ := vals2 r1
  obtain ⟨tk0, rfl⟩ := t1
  cases t2
  obtain ⟨lb, rb, pb, _⟩ := I1.tuple qb
  obtain ⟨ob, hob, _⟩ := id pb
  have lt2 : b < s1.heap.objs.size := Heap.lt_size hob
  refine zip_begins2 (begins_text x0 tk0) (begins_tuple b lb.toArray) trivial pb fun h' hz hTI hTO g1 g2 hsz hk => wpAny_pyIter_zip hz ?_
  have J : Inv X pins σ H1 { s1 with heap := h' } := I1.kept (t' := s1.toks) hk
  have S := zip_sep2 (N := s1.heap.objs.size) (fp1 := []) (fp2 := [b]) (fun c hc => absurd hc (by simp)) (fun c hc => by rw [List.mem_singleton.mp hc]; exact lt2)
  refine ⟨_, _, _, _, H1, rfl, J, turn_ST S (Nat.ne_of_lt (Nat.lt_succ_of_lt lt2)), ⟨hz, hTI, ⟨_, _, hTO⟩, ⟨_, g1, rfl, rfl⟩, ⟨_, g2, rfl, rfl⟩⟩, fun c hcm => ?_, q⟩
  have le : s1.heap.objs.size ≤ c := by
    rcases (by simpa using hcm : c = s1.heap.objs.size + 4 ∨ c = s1.heap.objs.size + 2 ∨ c = s1.heap.objs.size + 3 ∨ c = s1.heap.objs.size ∨ c = s1.heap.objs.size + 1) with e | e | e | e | e <;> (rw [e]; first | exact Nat.le_refl _ | exact Nat.le_add_right _ _)
  exact I1.fpOk le (I1.hok.fresh le)
theorem walk_ST {K : PySem.W.Frag} {x : Str} {b : Addr} {ws : List V} {n : Nat} (hx : x.cps.size = n) (hy : ws.length = n) : Walk (ItST K x b) n (fun H => SqT K H b ws) (YPair (fun i => sgV x i) (fun i => ws[i]?)) := by
  refine ⟨fun i H hi q => ⟨ws, V.str ⟨#[x.cps[i]'(by omega)]⟩, ws[i]'(by omega), q, ?_, List.getElem?_eq_getElem _⟩, fun H q => ⟨ws, q, hx, hy⟩, fun i H v H' hi q y => ?_⟩
  · unfold sgV
    rw [Array.getElem?_eq_getElem (by omega)]
    rfl
  · obtain ⟨T, x, z, h1, h2, h3, h4, h5⟩ := y
    exact ⟨T, x, z, h1, h2, h3, h4, h5 ws q⟩
end NG

set_option maxHeartbeats 2000000
namespace PySem
namespace HT
open PySem PySem.Spec PyProof.Rows
theorem filterMap_same {α β : Type} {f g : α → Option β} : ∀ {l : List α}, (∀ m ∈ l, f m = g m) → l.filterMap f = l.filterMap g
  | [], _ => rfl
  | x :: l, h => by
    rw [List.filterMap_cons, List.filterMap_cons, h x List.mem_cons_self, filterMap_same fun m hm => h m (List.mem_cons_of_mem _ hm)]
section
variable {prog : Program} {w : World} {A : Around} {E : Value → Shared → Prop} {s : Shared}
theorem sliceApplied_rev {sl : Addr} {t0 : Tok} {n : Nat} {Q : Int × Int × Nat → Shared → Prop} (hs : s.heap.IsSliceOf sl .none .none (.int (-1) t0))
    (h : Q ((n : Int) - 1, -1, n) s) : wpAny (model prog w) A (Builtin.Slice.sliceApplied (.ref sl) (pure (n : Int))) Q E s := by
  obtain ⟨os, hos, hcs, hds⟩ := id hs
  unfold Builtin.Slice.sliceApplied Builtin.Slice.sliceFields
  refine wpAny_bind (wpAny_bind (wpAny_field hos hds (x := .none) rfl (wpAny_bind (wpAny_field hos hds (x := .none) rfl (wpAny_bind (wpAny_field hos hds (x := .int (-1) t0) rfl (wpAny_pure ?_)))))))
  refine wpAny_bind (slicePart_int ?_)
  show wpAny _ _ (if ((-1 : Int) == 0) = true then _ else _) _ _ s
  rw [if_neg (by decide)]
  refine wpAny_bind (slicePart_none (wpAny_bind (slicePart_none (wpAny_bind (wpAny_pure ?_)))))
  show wpAny _ _ (match Builtin.Slice.sliceAdjust none none (-1) (n : Int) with | (lo, hi) => pure (lo, (-1 : Int), Builtin.Slice.slicePlaces lo hi (-1))) _ _ s
  have e : Builtin.Slice.sliceAdjust none none (-1) (n : Int) = ((n : Int) - 1, -1) := by
    unfold Builtin.Slice.sliceAdjust
    simp
  rw [e]
  show wpAny _ _ (pure ((n : Int) - 1, (-1 : Int), Builtin.Slice.slicePlaces ((n : Int) - 1) (-1) (-1))) _ _ s
  have e2 : Builtin.Slice.slicePlaces ((n : Int) - 1) (-1) (-1) = n := by
    unfold Builtin.Slice.slicePlaces
    simp
    omega
  rw [e2]
  exact wpAny_pure h
theorem pick_rev (xs : Array Value) : ((List.range xs.size).filterMap fun (m : Nat) => xs[(((xs.size : Int) - 1) + (m : Int) * (-1)).toNat]?).toArray = xs.toList.reverse.toArray := by
  have e : ((List.range xs.size).filterMap fun (m : Nat) => xs[(((xs.size : Int) - 1) + (m : Int) * (-1)).toNat]?) = ((List.range xs.size).map fun k => xs.size - 1 - k).filterMap (xs[·]?) := by
    rw [List.filterMap_map]
    refine filterMap_same fun m hm => ?_
    have hm := List.mem_range.mp hm
    show xs[(((xs.size : Int) - 1) + (m : Int) * (-1)).toNat]? = xs[xs.size - 1 - m]?
    congr 1
    omega
  rw [e, PySem.W.krv_range, List.filterMap_reverse, PySem.W.krv_all]
theorem getItem_tuple_rev {t sl : Addr} {t0 : Tok} {items : Array Value} {Q : Value → Shared → Prop} (ht : IsTup s.heap t items) (hs : s.heap.IsSliceOf sl .none .none (.int (-1) t0))
    (h : Q (.ref s.heap.objs.size) { s with heap := s.heap.push { cls := .type "tuple", data := .seq items.toList.reverse.toArray } })
    (hsz : items.size ≤ sizeLine) : wpAny (model prog w) A (getItem (.ref t) (.ref sl)) Q E s := by
  have htake : sizeOk (.seq items.toList.reverse.toArray) := by
    show items.toList.reverse.toArray.size ≤ sizeLine
    rw [List.size_toArray, List.length_reverse, Array.length_toList]
    exact hsz
  obtain ⟨os, hos, hcs, hds⟩ := id hs
  have hTs : s.TypeIs (.ref sl) "slice" := ⟨os, hos, hcs⟩
  unfold getItem
  try with_reducible refine wpAny_holding ?_
  first | refine wpAny_bind (wpAny_pure ?_) | skip
  refine wpAny_bind (wpAny_sequenceKey ht.typeIs (by decide) ?_)
  refine wpAny_bind (wpAny_callSpecial?_slot (name := Str.ofString "__getitem__") ht.typeIs PyProof.Rows.slot_tuple_getitem
    (wpAny_call_entry PyProof.Rows.slot_tuple_getitem ht.typeIs entry_tuple_getitem ?_ (args_tuple_getitem _ _)))
  show wpAny _ _ (Builtin.Tuple.tupleItemsOf (.ref t) >>= _) _ _ s
  refine wpAny_bind (tupleItemsOf_ ht ?_)
  refine wpAny_bind (wpAny_typeOf hTs ?_)
  rw [if_pos (by decide)]
  refine wpAny_bind (sliceApplied_rev hs ?_)
  show wpAny _ _ (if ((((items.size : Int) - 1) == 0 && (-1 : Int) == 1 && items.size == items.size)) = true then _ else _) _ _ s
  rw [if_neg (by simp), pick_rev]
  first
    | exact wpAny_bind (m := Builtin.Tuple.tupleExact _) (wpAny_newObj_type (wpAny_pure ⟨_, rfl, wpAny_pure h⟩) htake)
    | exact wpAny_bind (m := Builtin.Tuple.tupleExact _) (wpAny_newObj_type (wpAny_bind (wpAny_pure (wpAny_pure ⟨_, rfl, wpAny_pure h⟩))) htake)
    | exact wpAny_bind (wpAny_bind (m := Builtin.Tuple.tupleExact _) (wpAny_newObj_type (wpAny_pure (wpAny_pure ⟨_, rfl, wpAny_pure h⟩)) htake))
    | exact wpAny_bind (wpAny_bind (m := Builtin.Tuple.tupleExact _) (wpAny_newObj_type (wpAny_pure ⟨_, rfl, wpAny_pure h⟩) htake))
end
end HT
end PySem
namespace NG
open PySem PySem.Spec PyProof.Rows L2
/-! ### a def without parameters -/
theorem pe_c0 {X : Cx} {k j : Nat} {x : Str} {sp : Sp} {p pos : Pos} (c : Cal X.prog X.w X.K X.mg X.base k x sp) (hr : Room j X.A) (hk : k ≤ j) (hg : Gl X x) (hdb : (x == ("__debug__" : Str)) = false := by decide) : PE X (.Call (.Name x p) [] [] pos) (tCall sp [] E0 tNil) := by
  obtain ⟨f, fd, ps, F, hm, kp, b⟩ := c.ex
  exact pe_call0 F (hr.mono hk) hg hm kp b .nil pass0 hdb
/-! ### t[::-1] of a tuple -/
theorem pe_revT {X : Cx} {e st : Expr} {te ts : TE} {pos p2 : Pos} (he : PE X e te) (hs : PE X st ts) : PE X (.Subscript e (.Slice none none (some st) p2) pos)
    (fun σ H Q => te σ H fun x H1 => ts σ H1 fun y H2 => y = .int (-1) ∧ ∃ a xs, x = .ref a ∧ SqT X.K H2 a xs ∧ ∀ p, H2 p = none → Q (.ref p) (upd H2 p (.tup xs.reverse))) := by
  refine ⟨fun pins s σ H Q I h => ?_⟩
  refine Subscript_ (thn (he.run pins s σ H _ I h) fun v s1 ⟨x, H1, I1, r1, q1⟩ => ?_)
  refine wpAny_Slice ?_
  rw [evalPart_none]
  refine wpAny_pure (wpAny_pure ?_)
  rw [evalPart_some]
  refine thn (hs.run pins s1 σ H1 _ I1 q1) fun vk s2 ⟨y, H2, I2, r2, q2⟩ => ?_
  obtain ⟨rfl, a, xs, rfl, hx, q⟩ := q2
  obtain ⟨t, rfl⟩ := r2
  cases r1
  have I3 : Inv X pins σ H2 { s2 with heap := s2.heap.push { cls := .type "slice", data := .fields #[.none, .none, .int (-1) t] } } := I2.kept (t' := s2.toks) fun b ob q => Heap.get?_push_of_some _ q
  obtain ⟨its', rv', ht', hz'⟩ := I3.tuple hx
  have hl := rv'.length
  refine tail_any (ops := [.ref a, .ref s2.heap.objs.size]) ht'.typeIs PyProof.Rows.slot_tuple_getitem.lookup ?_ (by with_unfolding_all rfl)
  refine PySem.HT.getItem_tuple_rev ht' (Heap.IsSliceOf.new ..) ?_ (by rw [List.size_toArray]; omega)
  refine ⟨.ref _, _, I3.laid (t' := s2.toks) (o := .tup xs.reverse) (fun b ob q => Heap.get?_push_of_some _ q) (Nat.le_refl _) ?_, rfl, q _ (I3.hok.fresh (Nat.le_refl _))⟩
  exact ⟨by rw [List.length_reverse]; exact hz', its'.reverse, Vals.rev rv', IsTup.new _ _⟩
end NG

set_option maxHeartbeats 2000000
namespace NG
open PySem PySem.Spec PyProof.Rows L2
/-! ### a truth taken for an int -/
def b2 (b : Bool) : Int := if b = true then 1 else 0
def rBI (f : Int → Int → Int) : R2 := fun x y H Q => ∃ i j, y = .int j ∧ (x = .int i ∨ ∃ b, x = .bl b ∧ i = b2 b) ∧ Q (.int (f i j)) H
theorem op_addIB {X : Cx} : OpR X (binaryOp .Add) (rBI (· + ·)) := by
  intro pins s σ H x y v u Q I rx ry h
  obtain ⟨i, j, rfl, h, q⟩ := h
  rcases h with rfl | ⟨b, rfl, rfl⟩
  · exact op_add (X := X) pins s σ H _ _ v u Q I rx ry ⟨i, j, rfl, rfl, q⟩
  · obtain rfl : v = Value.bool b := rx
    obtain ⟨t, rfl⟩ := ry
    exact PySem.IntBool.add_bool_int ⟨.int _, H, I.tok _, ⟨_, rfl⟩, q⟩
theorem op_subIB {X : Cx} : OpR X (binaryOp .Sub) (rBI (· - ·)) := by
  intro pins s σ H x y v u Q I rx ry h
  obtain ⟨i, j, rfl, h, q⟩ := h
  rcases h with rfl | ⟨b, rfl, rfl⟩
  · exact op_sub (X := X) pins s σ H _ _ v u Q I rx ry ⟨i, j, rfl, rfl, q⟩
  · obtain rfl : v = Value.bool b := rx
    obtain ⟨t, rfl⟩ := ry
    exact PySem.IntBool.sub_bool_int ⟨.int _, H, I.tok _, ⟨_, rfl⟩, q⟩
def shIB : V → Option Str
  | .int i => if i.natAbs.log2 < 1920 then some (Str.ofString (toString i)) else none
  | .bl b => some (if b = true then "True" else "False")
  | _ => none
theorem call_strIB {X : Cx} : CallR X (.type "str") (fun xs H Q => ∃ v z, xs = [v] ∧ shIB v = some z ∧ Q (.str z) H) := by
  intro pins s σ H xs us Q I r h
  obtain ⟨v, z, rfl, hz, q⟩ := h
  cases v with
  | int i =>
    have hz : (if i.natAbs.log2 < 1920 then some (Str.ofString (toString i)) else none) = some z := hz
    by_cases hc : i.natAbs.log2 < 1920
    · rw [if_pos hc] at hz
      have hz := Option.some.inj hz
      subst hz
      exact call_str_int (X := X) pins s σ H _ us Q I r ⟨i, rfl, hc, q⟩
    · rw [if_neg hc] at hz
      cases hz
  | bl b =>
    cases hz
    obtain ⟨u, rfl, t⟩ := vals1 r
    obtain rfl : u = Value.bool b := t
    exact PySem.P.str_of_bool ⟨.str _, H, I.tok _, ⟨_, rfl⟩, q⟩
  | _ => cases hz
end NG

set_option maxHeartbeats 2000000
namespace NG
open PySem PySem.Spec PyProof.Rows L2
/-! ### dicts whose keys are tuples -/
def rInG (neg : Bool) : R2 := fun x y H Q => ∃ a o, y = .ref a ∧ DGet H a x o ∧ Q (.bl (if neg then !o.isSome else o.isSome)) H
theorem op_inG {X : Cx} (hu : X.A.units + 64 < cLine) : OpR X (compareOp .In) (rInG false) := by
  intro pins s σ H x y v u Q I rx ry h
  obtain ⟨a, o, rfl, g, q⟩ := h
  cases ry
  exact d_in (by omega) I g rx fun s' I' => ⟨.bl o.isSome, H, I', rfl, q⟩
theorem op_ninG {X : Cx} (hu : X.A.units + 64 < cLine) : OpR X (compareOp .NotIn) (rInG true) := by
  intro pins s σ H x y v u Q I rx ry h
  obtain ⟨a, o, rfl, g, q⟩ := h
  cases ry
  exact d_notIn (by omega) I g rx fun s' I' => ⟨.bl (!o.isSome), H, I', rfl, q⟩
def mergeT (kvs more : List (List Key × V)) : List (List Key × V) := more.foldl (fun acc kv => putK acc kv.1 kv.2) kvs
theorem KT.merge {H : Hp} : ∀ {more : List (List Key × V)} {ys : List (List Key × Addr × Value)} {kvs : List (List Key × V)} {xs : List (List Key × Addr × Value)}, KT H more ys → KT H kvs xs → KT H (mergeT kvs more) (storedAllH xs ys)
  | _, _, _, _, .nil, r => r
  | _, _, _, _, .cons (a := p) (b := y) h t, r => by
    obtain ⟨h1, h2, h3⟩ := h
    show KT H (mergeT (putK _ p.1 p.2) _) (storedAllH (storedH _ y.1 y.2.1 y.2.2) _)
    rw [← h1]
    exact KT.merge t (r.put p.1 h2 h3)
theorem length_mergeT : ∀ (more kvs : List (List Key × V)), (mergeT kvs more).length ≤ kvs.length + more.length
  | [], kvs => Nat.le_refl _
  | p :: more, kvs => by
    have h1 := length_mergeT more (putK kvs p.1 p.2)
    have h2 := length_putK kvs p.1 p.2
    show (mergeT (putK kvs p.1 p.2) more).length ≤ _
    rw [List.length_cons]
    omega
def rDUpdT (P : Program) (w : World) : V → List V → Hp → VK → Prop := fun x vs H Q => ∃ (a b : Addr) (ka kb : List (List Key × V)), x = .ref a ∧ vs = [.ref b] ∧ a ≠ b ∧ H a = some (.dT ka) ∧ H b = some (.dT kb) ∧ ka.length + kb.length ≤ sizeLine ∧ (ka ≠ [] ∨ (kb.map fun kv => tupleKeyHash (mixKind P w) kv.1).Nodup) ∧ Q .non (upd H a (.dT (mergeT ka kb)))
theorem mt_dupdateT {X : Cx} (hu : X.A.units + 64 < cLine) : MtM X "dict.update" (rDUpdT X.prog X.w) := by
  intro pins s σ H x vs v us Q I rx rv h
  obtain ⟨a, b, ka, kb, rfl, rfl, hab, ha, hb, hz, hn, q⟩ := h
  cases rx
  obtain ⟨u, rfl, ru⟩ := rv.one
  cases ru
  obtain ⟨za, da, va, ra, dda⟩ := dt_of I.hok ha
  obtain ⟨zb, db, vb, rb, ddb⟩ := dt_of I.hok hb
  have l1 : ka.length = va.length := Paired.length ra
  have l2 : kb.length = vb.length := Paired.length rb
  refine PySem.call_update_dictH (knd := tupleKind (mixKind X.prog X.w)) (tupleKind_room_in1 (by omega)) hab db dda ddb ?_ (by omega) fun h' dd' _ hs => ?_
  · rcases hn with hn | hn
    · left
      intro e
      rw [e] at l1
      exact hn (List.eq_nil_of_length_eq_zero l1)
    · right
      have all : ∀ {l : List (List Key × V)} {m : List (List Key × Addr × Value)}, KT H l m → (∀ x ∈ m, s.TypeIs (.ref x.2.1) "tuple") ∧ (m.map fun x => (tupleKind (mixKind X.prog X.w)).hash x.1) = l.map fun kv => tupleKeyHash (mixKind X.prog X.w) kv.1 := by
        intro l m r
        induction r with
        | nil => exact ⟨fun x hx => (nomatch hx), rfl⟩
        | @cons p y ps ys hp t ih =>
          obtain ⟨h1, h2, h3⟩ := hp
          refine ⟨fun x hx => ?_, ?_⟩
          · rcases List.mem_cons.mp hx with e | hx
            · subst e
              obtain ⟨o, _, _, e1, e2, _⟩ := key_of (P := X.prog) (w := X.w) I.hok h2
              exact ⟨o, e1, e2⟩
            · exact ih.1 x hx
          · rw [List.map_cons, List.map_cons, ih.2, ← h1]
            rfl
      obtain ⟨t1, t2⟩ := all rb
      exact ⟨t1, by rw [t2]; exact hn⟩
  · have hl : (mergeT ka kb).length ≤ sizeLine := Nat.le_trans (length_mergeT kb ka) hz
    obtain ⟨o, es, ep, hq, h2, h3, h4, _, h5⟩ := dd'
    refine ⟨.non, _, d_write (t' := s.toks) I (by rw [ha]; exact True.intro) hs ⟨o, hq⟩ (show ObjOk X.prog X.w (upd H a (.dT (mergeT ka kb))) h' a (.dT (mergeT ka kb)) from ⟨hl, da, _, (KT.merge rb ra).keeps fun c ys ec => ?_, o, es, ep, hq, h2, h3, h4, h5⟩), rfl, q⟩
    rw [upd_ne (ne_of ec ha (fun z => nomatch z))]
    exact ec
/-- dict(pairs), its keys tuples -/
def rDictPT (K : PySem.W.Frag) : List V → Hp → VK → Prop := fun xs H Q => ∃ (a : Addr) (ps : List Addr) (kvs : List (List Key × V)), xs = [.ref a] ∧ SqL K H a (ps.map V.ref) ∧ Paired (fun p kv => ∃ b, SqT K H p [.ref b, kv.2] ∧ H b = some (.tup (kv.1.map kV))) ps kvs ∧
    ∀ p, H p = none → Q (.ref p) (upd H p (.dT (mergeT [] kvs)))
theorem pairsT_of {X : Cx} {pins : List (Addr × Obj)} {σ : L2.St} {H : Hp} {s : Shared} (I : L2.Inv X pins σ H s) : ∀ {ps : List Addr} {kvs : List (List Key × V)}, Paired (fun p kv => ∃ b, SqT X.K H p [.ref b, kv.2] ∧ H b = some (.tup (kv.1.map kV))) ps kvs →
    ∃ prs : List (List Key × Addr × Value), KT H kvs prs ∧ prs.length = ps.length ∧ ∀ (j : Nat) (q : List Key × Addr × Value), prs[j]? = some q → ∃ T, ps[j]? = some T ∧ s.heap.IsTuple T #[.ref q.2.1, q.2.2]
  | _, _, .nil => ⟨[], .nil, rfl, fun j q e => by simp at e⟩
  | _, _, .cons (a := p) (b := kv) h t => by
    obtain ⟨prs, r, hl, hp⟩ := pairsT_of I t
    obtain ⟨b, h, hb⟩ := h
    obtain ⟨its, rv, ht, _⟩ := I.tuple h
    obtain ⟨u, y, rfl, ru, ry⟩ := rv.two
    cases ru
    refine ⟨(kv.1, b, y) :: prs, .cons ⟨rfl, hb, ry⟩ r, by rw [List.length_cons, List.length_cons, hl], fun j q e => ?_⟩
    cases j with
    | zero =>
      have e' : (kv.1, b, y) = q := Option.some.inj e
      subst e'
      exact ⟨p, rfl, ht⟩
    | succ j =>
      obtain ⟨T, e1, e2⟩ := hp j q (by simpa using e)
      exact ⟨T, by simpa using e1, e2⟩
theorem call_dictPT {X : Cx} (hcalm : X.calm = true) (hu : X.A.units + 64 < cLine) : CallR X (.type "dict") (rDictPT X.K) := by
  intro pins s σ H xs us Q I r q
  obtain ⟨a, ps, kvs, rfl, hq, hp, q⟩ := q
  obtain ⟨u, rfl, rx⟩ := r.one
  cases rx
  obtain ⟨its, rv, pl, hz⟩ := I.list hq
  have ei := refs_at rv
  subst ei
  rw [List.length_map] at hz
  obtain ⟨prs, rel, hl, hpr⟩ := pairsT_of I hp
  obtain ⟨o, n, ho, hc, hd, hdat⟩ := pl
  have hk : ∀ x ∈ prs, ∃ o, s.heap.get? x.2.1 = some o ∧ ∀ h' : Heap, h'.get? x.2.1 = some o → (tupleKind (mixKind X.prog X.w)).is h' x.1 x.2.1 := by
    have all : ∀ {l : List (List Key × V)} {m : List (List Key × Addr × Value)}, KT H l m → ∀ x ∈ m, ∃ o, s.heap.get? x.2.1 = some o ∧ ∀ h' : Heap, h'.get? x.2.1 = some o → (tupleKind (mixKind X.prog X.w)).is h' x.1 x.2.1 := by
      intro l m r
      induction r with
      | nil => exact fun x hx => nomatch hx
      | @cons p y ps ys hp t ih =>
        intro x hx
        rcases List.mem_cons.mp hx with e | hx
        · subst e
          obtain ⟨h1, h2, h3⟩ := hp
          obtain ⟨o, its, n, e1, e2, e3, e4⟩ := key_of (P := X.prog) (w := X.w) I.hok h2
          exact ⟨o, e1, fun h' e => ⟨o, its, n, e, e2, e3, by rw [← h1]; exact e4⟩⟩
        · exact ih x hx
    exact all rel
  have hm : (s.heap.objs.size == sysModules) = false := beq_eq_false_iff_ne.mpr (Nat.ne_of_gt I.big)
  let pv : List (Value × Value) := prs.map fun q => (Value.ref q.2.1, q.2.2)
  have hpv : pv.length = ps.length := by show (prs.map _).length = _; rw [List.length_map, hl]
  have hat : ∀ {j : Nat} {k v : Value}, pv[j]? = some (k, v) → ∃ q : List Key × Addr × Value, prs[j]? = some q ∧ k = .ref q.2.1 ∧ v = q.2.2 := fun {j k v} e => by
    have e : (prs.map fun q => (Value.ref q.2.1, q.2.2))[j]? = some (k, v) := e
    rw [List.getElem?_map] at e
    obtain ⟨q, hq, e2⟩ := Option.map_eq_some_iff.mp e
    cases e2
    exact ⟨q, hq, rfl, rfl⟩
  refine PySem.call_dict_pairsH (knd := tupleKind (mixKind X.prog X.w)) (ps := prs) (PairArg.list a (ps.map Value.ref).toArray (fun j => ps.getD j 0) pv) (I.ok.hd hcalm) (show X.A.units + 1 + 1 < cLine by omega) ⟨⟨o, n, ho, hc, hd, hdat⟩, ?_, fun j k v e => ?_⟩ ⟨by rw [hpv, hl], fun i key v e => ?_⟩ (fun h' kp x hx => ?_) (by rw [hpv]; exact hz) fun h' tk dd kp => ?_
  · rw [hpv]
    simp
  · obtain ⟨q, hq, rfl, rfl⟩ := hat e
    obtain ⟨T, hT, ht⟩ := hpr j q hq
    refine ⟨?_, .inl ?_⟩
    · rw [List.getElem?_toArray, List.getElem?_map, hT]
      show some (Value.ref T) = some (Value.ref (ps.getD j 0))
      rw [List.getD_eq_getElem?_getD, hT]
      rfl
    · show s.heap.IsTuple (ps.getD j 0) _
      rw [List.getD_eq_getElem?_getD, hT]
      exact ht
  · obtain ⟨q, hq, rfl, rfl⟩ := hat e
    exact ⟨q.1, q.2.1, hq, rfl⟩
  · obtain ⟨o, e1, e2⟩ := hk x hx
    exact e2 h' (kp _ _ (Nat.ne_of_lt (Heap.lt_size e1)) (by simp) e1)
  · have hlen : (mergeT [] kvs).length ≤ sizeLine := by
      refine Nat.le_trans (length_mergeT kvs []) ?_
      rw [List.length_nil, Nat.zero_add, show kvs.length = prs.length from Paired.length rel, hl]
      exact hz
    have hnone := I.hok.fresh (Nat.le_refl s.heap.objs.size)
    obtain ⟨o2, es, ep, hq, h2, h3, h4, _, h5⟩ := dd
    refine ⟨.ref s.heap.objs.size, upd H s.heap.objs.size (.dT (mergeT [] kvs)), I.laid (t' := tk) (fun b o e => kp b o (by simp) e) (Nat.le_refl _) (show ObjOk X.prog X.w _ _ _ (.dT (mergeT [] kvs)) from ⟨hlen, hm, _, (KT.merge rel .nil).keeps fun c ys ec => ?_, o2, es, ep, hq, h2, h3, h4, h5⟩), rfl, q _ hnone⟩
    rw [upd_ne (ne_of_none ec hnone)]
    exact ec
theorem dictPTK {X : Cx} (K : PySem.W.Frag) (hc : X.calm = true) (hu : X.A.units + 64 < cLine) (h : X.K = K := by rfl) : CallR X (.type "dict") (rDictPT K) := by
  subst h
  exact call_dictPT hc hu
theorem catTK {X : Cx} (K : PySem.W.Frag) (h : X.K = K := by rfl) : OpR X (binaryOp .Add) (rCatT K) := by
  subst h
  exact op_catT
theorem ninK {X : Cx} (K : PySem.W.Frag) (h : X.K = K := by rfl) : OpR X (compareOp .NotIn) (rIn K true) := by
  subst h
  exact op_notIn_seq
end NG

namespace NG
open PySem PySem.Spec PyProof.Rows L2
/-! ### len(set(xs)) of any list of ints -/
theorem met_mem (val : Nat → Int) : ∀ i x, x ∈ PyProof.Rows.firstMet val i ↔ ∃ j, j < i ∧ val j = x
  | 0, x => by
    rw [PyProof.Rows.firstMet_zero]
    exact ⟨fun h => (by cases h), fun ⟨j, h, _⟩ => (by omega)⟩
  | i + 1, x => by
    have ih := met_mem val i
    rw [PyProof.Rows.firstMet_succ]
    unfold PyProof.Rows.step_dedup
    by_cases c : ((PyProof.Rows.firstMet val i).any (· == val i)) = true
    · rw [if_pos c]
      obtain ⟨y, hy, ey⟩ := List.any_eq_true.mp c
      have ey : y = val i := eq_of_beq ey
      rw [ih]
      refine ⟨fun ⟨j, h, e⟩ => ⟨j, by omega, e⟩, fun ⟨j, h, e⟩ => ?_⟩
      by_cases hj : j < i
      · exact ⟨j, hj, e⟩
      · have : j = i := by omega
        subst this
        rw [ey] at hy
        obtain ⟨k, hk, ek⟩ := (ih _).mp hy
        exact ⟨k, hk, ek.trans e⟩
    · rw [if_neg c, List.mem_append, ih, List.mem_singleton]
      constructor
      · rintro (⟨j, h, e⟩ | e)
        · exact ⟨j, by omega, e⟩
        · exact ⟨i, by omega, e.symm⟩
      · rintro ⟨j, h, e⟩
        by_cases hj : j < i
        · exact .inl ⟨j, hj, e⟩
        · have : j = i := by omega
          subst this
          exact .inr e.symm
theorem met_nodup (val : Nat → Int) : ∀ i, (PyProof.Rows.firstMet val i).Nodup
  | 0 => by
    rw [PyProof.Rows.firstMet_zero]
    exact List.nodup_nil
  | i + 1 => by
    have ih := met_nodup val i
    rw [PyProof.Rows.firstMet_succ]
    unfold PyProof.Rows.step_dedup
    by_cases c : ((PyProof.Rows.firstMet val i).any (· == val i)) = true
    · rw [if_pos c]
      exact ih
    · rw [if_neg c]
      refine List.nodup_append.mpr ⟨ih, by simp, fun a ha b hb e => ?_⟩
      rw [List.mem_singleton.mp hb] at e
      refine c (List.any_eq_true.mpr ⟨a, ha, ?_⟩)
      rw [e]
      exact beq_self_eq_true _
def tLenSetG (K : PySem.W.Frag) (ta : TE) : TE := fun σ H Q => ta σ H fun x H1 => ∃ (l : Addr) (ns : List Int), x = .ref l ∧ SqL K H1 l (ns.map V.int) ∧ ns.length ≤ 1000 ∧ ∀ ds : List Int, ds.Nodup → (∀ z, z ∈ ds ↔ z ∈ ns) → ds.length ≤ ns.length → Q (.int (ds.length : Nat)) H1
theorem pe_lenSetG {X : Cx} {a : Expr} {ta : TE} {p p2 q pos : Pos} (hg : Gl X "len") (hm : X.mg "len" = none) (hg2 : Gl X "set") (hm2 : X.mg "set" = none) (ha : PE X a ta) (hc : X.calm = true := by rfl)
    (na : starEach [a] X.env = (false, eval a X.env) :: starEach [] X.env := by rfl) : PE X (.Call (.Name "len" p) [.Call (.Name "set" p2) [a] [] q] [] pos) (tLenSetG X.K ta) := by
  refine ⟨fun pins s σ H Q I h => ?_⟩
  refine Call_ (ld_blt I hg hm boot_len ?_)
  refine PyProof.Rows.callWith_builtin1 (PyProof.Rows.args_cons ?_ rfl) rfl rfl
  refine Call_ (ld_blt I hg2 hm2 boot_set ?_)
  refine PyProof.Rows.callWith_type1 (PyProof.Rows.args_cons (thn (ha.run pins s σ H _ I h) fun v s1 ⟨x, H1, I1, r1, q1⟩ => PyProof.Rows.args_nil ?_) na) na rfl
  obtain ⟨l, ns, rfl, hq, hl, q1⟩ := q1
  cases r1
  obtain ⟨its, r, pl, hz⟩ := I1.list hq
  have hlen : its.toArray.size = ns.length := by rw [List.size_toArray, ← r.length, List.length_map]
  refine call_set_list (I1.ok.hd hc) pl.isList (by simpa using RZ.intsAre_vals r) (by rw [hlen]; unfold scanBound; omega) fun h' tk hS hk => ?_
  refine PyProof.Rows.args_nil ?_
  rw [hlen] at hS
  have k1 := met_nodup (fun i => ns.getD i 0) ns.length
  have k2 := met_mem (fun i => ns.getD i 0) ns.length
  have k3 := PyProof.Rows.firstMet_length_le (fun i => ns.getD i 0) ns.length
  generalize PyProof.Rows.firstMet (fun i => ns.getD i 0) ns.length = ds at hS k1 k2 k3
  have k4 : ∀ z, z ∈ ds ↔ z ∈ ns := fun z => by
    rw [k2]
    constructor
    · rintro ⟨j, hj, rfl⟩
      exact getD_mem hj
    · intro hz
      obtain ⟨j, hj, e⟩ := List.mem_iff_getElem.mp hz
      refine ⟨j, hj, ?_⟩
      show ns.getD j 0 = z
      rw [List.getD_eq_getElem?_getD, List.getElem?_eq_getElem hj]
      exact e
  obtain ⟨o, es, ep, t, ho, hex, hd, _, _, _, hf, hn⟩ := hS
  have I2 : Inv X pins σ H1 { s1 with heap := h', toks := tk } := I1.kept fun b o e => hk b o (Heap.lt_size e) e
  exact call_len_set ho hex hd hf (by rw [hn]; omega) ⟨.int ds.length, H1, I2.tok _, ⟨_, by rw [hn]⟩, q1 ds k1 k4 k3⟩

/-! ### straight but for so many places -/
structure PL (N : Nat) (v : Nat → Int) (F : List (Int × Int)) (C : List (Nat → Bool)) : Prop where
  conv : ∀ c ∈ C, ∀ s u t, s ≤ u → u ≤ t → t ≤ N → c s = c t → c u = c s
  lin : ∀ s t, s ≤ t → t ≤ N → (∀ c ∈ C, c s = c t) → ∃ f ∈ F, ∀ u, s ≤ u → u ≤ t → v u = f.1 + f.2 * (u : Int)
def cutB (p q : Int) (t : Nat) : Bool := decide (p + q * (t : Int) < 0)
theorem cut_conv (p q : Int) {s u t : Nat} (h1 : s ≤ u) (h2 : u ≤ t) (h : cutB p q s = cutB p q t) : cutB p q u = cutB p q s := by
  unfold cutB at *
  have e1 : (s : Int) ≤ (u : Int) := by omega
  have e2 : (u : Int) ≤ (t : Int) := by omega
  have h : (p + q * (s : Int) < 0) ↔ (p + q * (t : Int) < 0) := by simpa using h
  rw [decide_eq_decide]
  by_cases c : 0 ≤ q
  · have a1 := Int.mul_le_mul_of_nonneg_left e1 c
    have a2 := Int.mul_le_mul_of_nonneg_left e2 c
    omega
  · have a1 := Int.mul_le_mul_of_nonpos_left (a := q) (by omega) e1
    have a2 := Int.mul_le_mul_of_nonpos_left (a := q) (by omega) e2
    omega
theorem PL.one {N : Nat} {v : Nat → Int} {p q : Int} (h : ∀ u, u ≤ N → v u = p + q * (u : Int)) : PL N v [(p, q)] [] :=
  ⟨fun c hc => (by cases hc), fun s t hs ht _ => ⟨(p, q), by simp, fun u _ hu => h u (by omega)⟩⟩
def prs {α : Type} (g : Int × Int → Int × Int → α) (F G : List (Int × Int)) : List α := F.flatMap fun f => G.map (g f)
theorem prs_len {α : Type} (g : Int × Int → Int × Int → α) (G : List (Int × Int)) : ∀ F, (prs g F G).length = F.length * G.length
  | [] => by simp [prs]
  | f :: F => by
    show (G.map (g f) ++ prs g F G).length = _
    rw [List.length_append, List.length_map, prs_len g G F, List.length_cons, Nat.succ_mul]
    omega
theorem prs_mem {α : Type} {g : Int × Int → Int × Int → α} {F G : List (Int × Int)} {x y : Int × Int} (hx : x ∈ F) (hy : y ∈ G) : g x y ∈ prs g F G := List.mem_flatMap.mpr ⟨x, hx, List.mem_map.mpr ⟨y, hy, rfl⟩⟩
theorem prs_inv {α : Type} {g : Int × Int → Int × Int → α} {F G : List (Int × Int)} {z : α} (h : z ∈ prs g F G) : ∃ x y, g x y = z := by
  obtain ⟨x, _, h⟩ := List.mem_flatMap.mp h
  obtain ⟨y, _, e⟩ := List.mem_map.mp h
  exact ⟨x, y, e⟩
theorem PL.lincomb {N : Nat} {v w z : Nat → Int} {F G : List (Int × Int)} {C D : List (Nat → Bool)} (a : PL N v F C) (b : PL N w G D) (k : Int) (h : ∀ u, z u = v u + k * w u) : PL N z (prs (fun f g => (f.1 + k * g.1, f.2 + k * g.2)) F G) (C ++ D) := by
  refine ⟨fun c hc => ?_, fun s t hs ht hC => ?_⟩
  · rcases List.mem_append.mp hc with hc | hc
    · exact a.conv c hc
    · exact b.conv c hc
  · obtain ⟨f, hf, e1⟩ := a.lin s t hs ht fun c hc => hC c (List.mem_append_left _ hc)
    obtain ⟨g, hg, e2⟩ := b.lin s t hs ht fun c hc => hC c (List.mem_append_right _ hc)
    refine ⟨_, prs_mem hf hg, fun u h1 h2 => ?_⟩
    rw [h, e1 u h1 h2, e2 u h1 h2]
    show f.1 + f.2 * (u : Int) + k * (g.1 + g.2 * (u : Int)) = f.1 + k * g.1 + (f.2 + k * g.2) * (u : Int)
    grind
theorem PL.scale {N : Nat} {v z : Nat → Int} {F : List (Int × Int)} {C : List (Nat → Bool)} (a : PL N v F C) (k : Int) (h : ∀ u, z u = k * v u) : PL N z (F.map fun f => (k * f.1, k * f.2)) C := by
  refine ⟨a.conv, fun s t hs ht hC => ?_⟩
  obtain ⟨f, hf, e1⟩ := a.lin s t hs ht hC
  refine ⟨_, List.mem_map.mpr ⟨f, hf, rfl⟩, fun u h1 h2 => ?_⟩
  rw [h, e1 u h1 h2]
  show k * (f.1 + f.2 * (u : Int)) = k * f.1 + k * f.2 * (u : Int)
  grind
/-- by a sign of each pair of forms -/
theorem PL.pick {N : Nat} {v w z : Nat → Int} {F G : List (Int × Int)} {C D : List (Nat → Bool)} (a : PL N v F C) (b : PL N w G D) (k : Int) (h : ∀ u, (k * (w u - v u) < 0 → z u = w u) ∧ (¬ k * (w u - v u) < 0 → z u = v u)) :
    PL N z (F ++ G) (C ++ D ++ prs (fun f g => cutB (k * (g.1 - f.1)) (k * (g.2 - f.2))) F G) := by
  refine ⟨fun c hc => ?_, fun s t hs ht hC => ?_⟩
  · rcases List.mem_append.mp hc with hc | hc
    · rcases List.mem_append.mp hc with hc | hc
      · exact a.conv c hc
      · exact b.conv c hc
    · obtain ⟨f, g, rfl⟩ := prs_inv hc
      exact fun s u t h1 h2 _ e => cut_conv _ _ h1 h2 e
  · obtain ⟨f, hf, e1⟩ := a.lin s t hs ht fun c hc => hC c (List.mem_append_left _ (List.mem_append_left _ hc))
    obtain ⟨g, hg, e2⟩ := b.lin s t hs ht fun c hc => hC c (List.mem_append_left _ (List.mem_append_right _ hc))
    have hcut := hC _ (List.mem_append_right _ (prs_mem hf hg))
    have key : ∀ u, s ≤ u → u ≤ t → (k * (w u - v u) < 0 ↔ cutB (k * (g.1 - f.1)) (k * (g.2 - f.2)) s = true) := fun u h1 h2 => by
      rw [← cut_conv _ _ h1 h2 hcut, e1 u h1 h2, e2 u h1 h2]
      unfold cutB
      rw [decide_eq_true_iff, show k * (g.1 + g.2 * (u : Int) - (f.1 + f.2 * (u : Int))) = k * (g.1 - f.1) + k * (g.2 - f.2) * (u : Int) by grind]
    by_cases c : cutB (k * (g.1 - f.1)) (k * (g.2 - f.2)) s = true
    · refine ⟨g, List.mem_append_right _ hg, fun u h1 h2 => ?_⟩
      rw [(h u).1 ((key u h1 h2).mpr c), e2 u h1 h2]
    · refine ⟨f, List.mem_append_left _ hf, fun u h1 h2 => ?_⟩
      rw [(h u).2 (fun z => c ((key u h1 h2).mp z)), e1 u h1 h2]
/-- by one sign for all -/
theorem PL.side {N : Nat} {v w z : Nat → Int} {F G : List (Int × Int)} {C D : List (Nat → Bool)} (a : PL N v F C) (b : PL N w G D) (p q : Int) (h : ∀ u, u ≤ N → z u = if p + q * (u : Int) < 0 then v u else w u) : PL N z (F ++ G) (C ++ D ++ [cutB p q]) := by
  refine ⟨fun c hc => ?_, fun s t hs ht hC => ?_⟩
  · rcases List.mem_append.mp hc with hc | hc
    · rcases List.mem_append.mp hc with hc | hc
      · exact a.conv c hc
      · exact b.conv c hc
    · rw [List.mem_singleton.mp hc]
      exact fun s u t h1 h2 _ e => cut_conv _ _ h1 h2 e
  · obtain ⟨f, hf, e1⟩ := a.lin s t hs ht fun c hc => hC c (List.mem_append_left _ (List.mem_append_left _ hc))
    obtain ⟨g, hg, e2⟩ := b.lin s t hs ht fun c hc => hC c (List.mem_append_left _ (List.mem_append_right _ hc))
    have hcut := hC _ (List.mem_append_right _ (List.mem_singleton.mpr rfl))
    have key : ∀ u, s ≤ u → u ≤ t → (p + q * (u : Int) < 0 ↔ cutB p q s = true) := fun u h1 h2 => by
      rw [← cut_conv _ _ h1 h2 hcut]
      unfold cutB
      rw [decide_eq_true_iff]
    by_cases c : cutB p q s = true
    · refine ⟨f, List.mem_append_left _ hf, fun u h1 h2 => ?_⟩
      rw [h u (by omega), if_pos ((key u h1 h2).mpr c), e1 u h1 h2]
    · refine ⟨g, List.mem_append_right _ hg, fun u h1 h2 => ?_⟩
      rw [h u (by omega), if_neg (fun z => c ((key u h1 h2).mp z)), e2 u h1 h2]
theorem lvs_pos : ∀ e : Ex, 1 ≤ lvs e
  | .fig _ => Int.le_refl _
  | .reg _ => Int.le_refl _
  | .share _ => Int.le_refl _
  | .two .sum a b => by
    have := Int.mul_le_mul (lvs_pos a) (lvs_pos b) (by decide) (by have := lvs_pos a; omega)
    exact this
  | .two .less a b => by
    have := Int.mul_le_mul (lvs_pos a) (lvs_pos b) (by decide) (by have := lvs_pos a; omega)
    exact this
  | .two .least a b => by
    have := lvs_pos a
    have := lvs_pos b
    show 1 ≤ lvs a + lvs b
    omega
  | .two .most a b => by
    have := lvs_pos a
    have := lvs_pos b
    show 1 ≤ lvs a + lvs b
    omega
  | .times _ a => lvs_pos a
  | .by _ a => lvs_pos a
  | .when _ _ a b => by
    have := lvs_pos a
    have := (le_mx (lvs a) (lvs b)).1
    show 1 ≤ mx (lvs a) (lvs b)
    omega
  | .whr _ _ a b => by
    have := lvs_pos a
    have := lvs_pos b
    show 1 ≤ lvs a + lvs b
    omega
theorem len_mul {m n : Nat} {x y : Int} (h1 : (m : Int) ≤ x) (h2 : (n : Int) ≤ y) : ((m * n : Nat) : Int) ≤ x * y := by
  rw [Int.natCast_mul]
  exact Int.mul_le_mul h1 h2 (by omega) (by omega)
theorem pl_ex {many N : Nat} {rs : List Int} {row : Nat → List Int} {T : Int} {c d : Nat → Int} (hT : ∀ t, t ≤ N → (row t).sum = T) (hj : ∀ j, j < many → ∀ t, t ≤ N → (row t).getD j 0 = c j + d j * (t : Int)) :
    ∀ e : Ex, ExOk many e → ∃ v F C, (∀ t, t ≤ N → v t = wo rs (row t) e) ∧ PL N v F C ∧ (F.length : Int) ≤ lvs e ∧ (C.length : Int) ≤ bds e
  | .fig k, _ => ⟨fun _ => k * T, [(k * T, 0)], [], fun t ht => by show _ = k * (row t).sum; rw [hT t ht], PL.one fun u _ => by rw [Int.zero_mul, Int.add_zero], Int.le_refl _, Int.le_refl _⟩
  | .reg i, _ => ⟨fun _ => rs.getD i 0 * T, [(rs.getD i 0 * T, 0)], [], fun t ht => by show _ = rs.getD i 0 * (row t).sum; rw [hT t ht], PL.one fun u _ => by rw [Int.zero_mul, Int.add_zero], Int.le_refl _, Int.le_refl _⟩
  | .share j, o => ⟨fun t => 1000 * (c j + d j * (t : Int)), [(1000 * c j, 1000 * d j)], [], fun t ht => by show _ = 1000 * (row t).getD j 0; rw [hj j o t ht], PL.one fun u _ => by grind, Int.le_refl _, Int.le_refl _⟩
  | .two .sum a b, ⟨oa, ob⟩ => by
    obtain ⟨v, F, C, e1, p1, l1, m1⟩ := pl_ex (rs := rs) hT hj a oa
    obtain ⟨w, G, D, e2, p2, l2, m2⟩ := pl_ex (rs := rs) hT hj b ob
    refine ⟨fun t => v t + 1 * w t, _, _, fun t ht => ?_, p1.lincomb p2 1 fun u => rfl, ?_, ?_⟩
    · show v t + 1 * w t = wo rs (row t) a + wo rs (row t) b
      rw [e1 t ht, e2 t ht, Int.one_mul]
    · rw [prs_len]
      exact len_mul l1 l2
    · rw [List.length_append, Int.natCast_add]
      exact Int.add_le_add m1 m2
  | .two .less a b, ⟨oa, ob⟩ => by
    obtain ⟨v, F, C, e1, p1, l1, m1⟩ := pl_ex (rs := rs) hT hj a oa
    obtain ⟨w, G, D, e2, p2, l2, m2⟩ := pl_ex (rs := rs) hT hj b ob
    refine ⟨fun t => v t + (-1) * w t, _, _, fun t ht => ?_, p1.lincomb p2 (-1) fun u => rfl, ?_, ?_⟩
    · show v t + (-1) * w t = wo rs (row t) a - wo rs (row t) b
      have := e1 t ht
      have := e2 t ht
      omega
    · rw [prs_len]
      exact len_mul l1 l2
    · rw [List.length_append, Int.natCast_add]
      exact Int.add_le_add m1 m2
  | .two .least a b, ⟨oa, ob⟩ => by
    obtain ⟨v, F, C, e1, p1, l1, m1⟩ := pl_ex (rs := rs) hT hj a oa
    obtain ⟨w, G, D, e2, p2, l2, m2⟩ := pl_ex (rs := rs) hT hj b ob
    refine ⟨fun t => if w t < v t then w t else v t, _, _, fun t ht => ?_, p1.pick p2 1 fun u => ⟨fun h => if_pos (by omega), fun h => if_neg (by omega)⟩, ?_, ?_⟩
    · show (if w t < v t then w t else v t) = if wo rs (row t) b < wo rs (row t) a then wo rs (row t) b else wo rs (row t) a
      rw [e1 t ht, e2 t ht]
    · rw [List.length_append, Int.natCast_add]
      exact Int.add_le_add l1 l2
    · rw [List.length_append, List.length_append, prs_len, Int.natCast_add, Int.natCast_add]
      exact Int.add_le_add (Int.add_le_add m1 m2) (len_mul l1 l2)
  | .two .most a b, ⟨oa, ob⟩ => by
    obtain ⟨v, F, C, e1, p1, l1, m1⟩ := pl_ex (rs := rs) hT hj a oa
    obtain ⟨w, G, D, e2, p2, l2, m2⟩ := pl_ex (rs := rs) hT hj b ob
    refine ⟨fun t => if w t > v t then w t else v t, _, _, fun t ht => ?_, p1.pick p2 (-1) fun u => ⟨fun h => if_pos (by omega), fun h => if_neg (by omega)⟩, ?_, ?_⟩
    · show (if w t > v t then w t else v t) = if wo rs (row t) b > wo rs (row t) a then wo rs (row t) b else wo rs (row t) a
      rw [e1 t ht, e2 t ht]
    · rw [List.length_append, Int.natCast_add]
      exact Int.add_le_add l1 l2
    · rw [List.length_append, List.length_append, prs_len, Int.natCast_add, Int.natCast_add]
      exact Int.add_le_add (Int.add_le_add m1 m2) (len_mul l1 l2)
  | .times f a, ⟨_, oa⟩ => by
    obtain ⟨v, F, C, e1, p1, l1, m1⟩ := pl_ex (rs := rs) hT hj a oa
    refine ⟨fun t => f * v t, _, _, fun t ht => ?_, p1.scale f fun u => rfl, ?_, m1⟩
    · show f * v t = f * wo rs (row t) a
      rw [e1 t ht]
    · rw [List.length_map]
      exact l1
  | .by i a, ⟨_, oa⟩ => by
    obtain ⟨v, F, C, e1, p1, l1, m1⟩ := pl_ex (rs := rs) hT hj a oa
    refine ⟨fun t => rs.getD i 0 * v t, _, _, fun t ht => ?_, p1.scale (rs.getD i 0) fun u => rfl, ?_, m1⟩
    · show rs.getD i 0 * v t = rs.getD i 0 * wo rs (row t) a
      rw [e1 t ht]
    · rw [List.length_map]
      exact l1
  | .when i k a b, ⟨_, _, oa, ob⟩ => by
    have x1 := le_mx (lvs a) (lvs b)
    have x2 := le_mx (bds a) (bds b)
    by_cases h : rs.getD i 0 < k
    · obtain ⟨v, F, C, e1, p1, l1, m1⟩ := pl_ex (rs := rs) hT hj a oa
      refine ⟨v, F, C, fun t ht => ?_, p1, ?_, ?_⟩
      · show _ = if rs.getD i 0 < k then wo rs (row t) a else wo rs (row t) b
        rw [if_pos h, e1 t ht]
      · show _ ≤ mx (lvs a) (lvs b)
        omega
      · show _ ≤ mx (bds a) (bds b)
        omega
    · obtain ⟨v, F, C, e1, p1, l1, m1⟩ := pl_ex (rs := rs) hT hj b ob
      refine ⟨v, F, C, fun t ht => ?_, p1, ?_, ?_⟩
      · show _ = if rs.getD i 0 < k then wo rs (row t) a else wo rs (row t) b
        rw [if_neg h, e1 t ht]
      · show _ ≤ mx (lvs a) (lvs b)
        omega
      · show _ ≤ mx (bds a) (bds b)
        omega
  | .whr j k a b, ⟨o, _, oa, ob⟩ => by
    obtain ⟨v, F, C, e1, p1, l1, m1⟩ := pl_ex (rs := rs) hT hj a oa
    obtain ⟨w, G, D, e2, p2, l2, m2⟩ := pl_ex (rs := rs) hT hj b ob
    refine ⟨fun t => if (1000 * c j - k * T) + 1000 * d j * (t : Int) < 0 then v t else w t, _, _, fun t ht => ?_, p1.side p2 (1000 * c j - k * T) (1000 * d j) fun u _ => rfl, ?_, ?_⟩
    · show (if (1000 * c j - k * T) + 1000 * d j * (t : Int) < 0 then v t else w t) = if 1000 * (row t).getD j 0 < k * (row t).sum then wo rs (row t) a else wo rs (row t) b
      rw [hj j o t ht, hT t ht, e1 t ht, e2 t ht]
      have e : (1000 * c j - k * T + 1000 * d j * (t : Int) < 0) ↔ (1000 * (c j + d j * (t : Int)) < k * T) := by
        have : 1000 * (c j + d j * (t : Int)) = 1000 * c j + 1000 * d j * (t : Int) := by grind
        omega
      by_cases h : 1000 * (c j + d j * (t : Int)) < k * T
      · rw [if_pos h, if_pos (e.mpr h)]
      · rw [if_neg h, if_neg (fun z => h (e.mp z))]
    · rw [List.length_append, Int.natCast_add]
      exact Int.add_le_add l1 l2
    · rw [List.length_append, List.length_append, Int.natCast_add, Int.natCast_add]
      exact Int.add_le_add (Int.add_le_add m1 m2) (Int.le_refl _)
end NG

namespace NG
open PySem PySem.Spec PyProof.Rows L2
/-! ### counting places -/
theorem sum_add {α : Type} (f g : α → Nat) : ∀ C : List α, (C.map fun c => f c + g c).sum = (C.map f).sum + (C.map g).sum
  | [] => rfl
  | c :: C => by
    simp only [List.map_cons, List.sum_cons, sum_add f g C]
    omega
theorem sum_one {α : Type} {f : α → Nat} {c : α} : ∀ {C : List α}, c ∈ C → 1 ≤ f c → 1 ≤ (C.map f).sum
  | x :: C, h, h1 => by
    rw [List.map_cons, List.sum_cons]
    rcases List.mem_cons.mp h with rfl | h
    · omega
    · have := sum_one h h1
      omega
theorem filter_sum {α : Type} (p : Nat → Bool) (r : α → Nat → Bool) (C : List α) : ∀ L : List Nat, (∀ k ∈ L, p k = true → ∃ c ∈ C, r c k = true) → (L.filter p).length ≤ (C.map fun c => (L.filter (r c)).length).sum
  | [], _ => Nat.zero_le _
  | k :: L, h => by
    have ih := filter_sum p r C L fun x hx => h x (List.mem_cons_of_mem _ hx)
    have e : (C.map fun c => ((k :: L).filter (r c)).length) = C.map fun c => (if r c k = true then 1 else 0) + (L.filter (r c)).length := by
      apply List.map_congr_left
      intro c _
      by_cases hc : r c k = true
      · rw [List.filter_cons_of_pos hc, if_pos hc, List.length_cons]
        omega
      · rw [List.filter_cons_of_neg hc, if_neg hc]
        omega
    rw [e, sum_add]
    by_cases hp : p k = true
    · obtain ⟨c, hc, hr⟩ := h k (by simp) hp
      have := sum_one (f := fun c => if r c k = true then 1 else 0) hc (by show 1 ≤ (if r c k = true then 1 else 0); rw [if_pos hr]; exact Nat.le_refl _)
      rw [List.filter_cons_of_pos hp, List.length_cons]
      omega
    · rw [List.filter_cons_of_neg hp]
      omega
theorem sum_le_two {α : Type} {f : α → Nat} : ∀ {C : List α}, (∀ c ∈ C, f c ≤ 2) → (C.map f).sum ≤ 2 * C.length
  | [], _ => Nat.zero_le _
  | c :: C, h => by
    have := h c (by simp)
    have := sum_le_two (C := C) fun x hx => h x (List.mem_cons_of_mem _ hx)
    rw [List.map_cons, List.sum_cons, List.length_cons]
    omega
theorem range_lt : ∀ n : Nat, (List.range n).Pairwise (· < ·) := fun n => List.pairwise_lt_range
theorem two_cuts {N : Nat} {c : Nat → Bool} (hc : ∀ s u t, s ≤ u → u ≤ t → t ≤ N → c s = c t → c u = c s) : ((List.range (N - 1)).filter fun k => c k != c (k + 2)).length ≤ 2 := by
  have hp := (range_lt (N - 1)).filter fun k => c k != c (k + 2)
  have hm : ∀ k ∈ (List.range (N - 1)).filter (fun k => c k != c (k + 2)), k < N - 1 ∧ c k ≠ c (k + 2) := fun k hk => by
    obtain ⟨h1, h2⟩ := List.mem_filter.mp hk
    exact ⟨List.mem_range.mp h1, by simpa using h2⟩
  match he : (List.range (N - 1)).filter (fun k => c k != c (k + 2)) with
  | [] => exact Nat.zero_le _
  | [_] => exact Nat.le_succ _
  | [_, _] => exact Nat.le_refl _
  | x :: y :: z :: r =>
    rw [he] at hp hm
    have hxy : x < y := (List.pairwise_cons.mp hp).1 y (by simp)
    have hyz : y < z := (List.pairwise_cons.mp (List.pairwise_cons.mp hp).2).1 z (by simp)
    obtain ⟨hx1, hx2⟩ := hm x (by simp)
    obtain ⟨hz1, hz2⟩ := hm z (by simp)
    have a1 : c x ≠ c (z + 2) := fun e => hx2 (hc x (x + 2) (z + 2) (by omega) (by omega) (by omega) e).symm
    have a2 : c (x + 2) = c (z + 2) := by
      cases h1 : c x <;> cases h2 : c (x + 2) <;> cases h3 : c (z + 2) <;> simp_all
    have a3 := hc (x + 2) z (z + 2) (by omega) (by omega) (by omega) a2
    exact absurd (a3.trans a2) hz2
theorem one_cut {N : Nat} {c : Nat → Bool} (hc : ∀ s u t, s ≤ u → u ≤ t → t ≤ N → c s = c t → c u = c s) {x z : Nat} (hx : c x ≠ c (x + 1)) (hz : c z ≠ c (z + 1)) (hxz : x < z) (hN : z < N) : False := by
  have a1 : c x ≠ c (z + 1) := fun e => hx (hc x (x + 1) (z + 1) (by omega) (by omega) (by omega) e).symm
  have a2 : c (x + 1) = c (z + 1) := by
    cases h1 : c x <;> cases h2 : c (x + 1) <;> cases h3 : c (z + 1) <;> simp_all
  have a3 := hc (x + 1) z (z + 1) (by omega) (by omega) (by omega) a2
  exact hz (a3.trans a2)
def bentI (v : Nat → Int) (N : Nat) : List Nat := (List.range (N - 1)).filter fun k => (v (k + 1) - v k) != (v (k + 2) - v (k + 1))
theorem bent_le {N : Nat} {v : Nat → Int} {F : List (Int × Int)} {C : List (Nat → Bool)} (p : PL N v F C) : (bentI v N).length ≤ 2 * C.length := by
  refine Nat.le_trans (filter_sum _ (fun (c : Nat → Bool) k => c k != c (k + 2)) C _ fun k hk hb => ?_) (sum_le_two fun c hc => two_cuts (p.conv c hc))
  have hk : k < N - 1 := List.mem_range.mp hk
  by_cases h : ∃ c ∈ C, (c k != c (k + 2)) = true
  · exact h
  · obtain ⟨f, _, e⟩ := p.lin k (k + 2) (by omega) (by omega) fun c hc => by
      by_cases hh : c k = c (k + 2)
      · exact hh
      · exact absurd ⟨c, hc, by simpa using hh⟩ h
    have e0 := e k (by omega) (by omega)
    have e1 := e (k + 1) (by omega) (by omega)
    have e2 := e (k + 2) (by omega) (by omega)
    have : v (k + 1) - v k = v (k + 2) - v (k + 1) := by
      rw [e0, e1, e2]
      push_cast
      grind
    simp [this] at hb
theorem len_sub : ∀ {ds L : List Int}, ds.Nodup → (∀ z ∈ ds, z ∈ L) → ds.length ≤ L.length
  | [], _, _, _ => Nat.zero_le _
  | d :: ds, L, hn, h => by
    obtain ⟨h1, h2⟩ := List.nodup_cons.mp hn
    have hd := h d (by simp)
    have := len_sub (ds := ds) (L := L.erase d) h2 fun z hz => by
      have hne : z ≠ d := fun e => h1 (e ▸ hz)
      exact (List.mem_erase_of_ne hne).mpr (h z (List.mem_cons_of_mem _ hz))
    rw [List.length_erase_of_mem hd] at this
    have := List.length_pos_of_mem hd
    rw [List.length_cons]
    omega
theorem gone_cuts {N : Nat} (v : Nat → Int) : ∀ {C : List (Nat → Bool)}, (∀ c ∈ C, ∀ s u t, s ≤ u → u ≤ t → t ≤ N → c s = c t → c u = c s) → ∃ G : List Int, G.length ≤ C.length ∧ ∀ c ∈ C, ∀ k, k < N → c k ≠ c (k + 1) → v (k + 1) - v k ∈ G
  | [], _ => ⟨[], Nat.le_refl _, fun c hc => (by cases hc)⟩
  | c :: C, h => by
    obtain ⟨G, hl, hG⟩ := gone_cuts v (C := C) fun x hx => h x (List.mem_cons_of_mem _ hx)
    by_cases hk : ∃ k, k < N ∧ c k ≠ c (k + 1)
    · obtain ⟨k, hkN, hck⟩ := hk
      refine ⟨(v (k + 1) - v k) :: G, by rw [List.length_cons, List.length_cons]; omega, fun x hx j hj hcj => ?_⟩
      rcases List.mem_cons.mp hx with rfl | hx
      · have : j = k := by
          rcases Nat.lt_trichotomy j k with z | z | z
          · exact (one_cut (h x (by simp)) hcj hck z hkN).elim
          · exact z
          · exact (one_cut (h x (by simp)) hck hcj z hj).elim
        rw [this]
        simp
      · exact List.mem_cons_of_mem _ (hG x hx j hj hcj)
    · refine ⟨G, by rw [List.length_cons]; omega, fun x hx j hj hcj => ?_⟩
      rcases List.mem_cons.mp hx with rfl | hx
      · exact absurd ⟨j, hj, hcj⟩ hk
      · exact hG x hx j hj hcj
theorem steps_le {N : Nat} {v : Nat → Int} {F : List (Int × Int)} {C : List (Nat → Bool)} (p : PL N v F C) {ds : List Int} (hn : ds.Nodup) (hd : ∀ z ∈ ds, ∃ k, k < N ∧ z = v (k + 1) - v k) : ds.length ≤ F.length + C.length := by
  obtain ⟨G, hl, hG⟩ := gone_cuts v p.conv
  have := len_sub (L := F.map (·.2) ++ G) hn fun z hz => by
    obtain ⟨k, hk, rfl⟩ := hd z hz
    by_cases h : ∃ c ∈ C, c k ≠ c (k + 1)
    · obtain ⟨c, hc, hck⟩ := h
      exact List.mem_append_right _ (hG c hc k hk hck)
    · obtain ⟨f, hf, e⟩ := p.lin k (k + 1) (by omega) (by omega) fun c hc => by
        by_cases hh : c k = c (k + 1)
        · exact hh
        · exact absurd ⟨c, hc, hh⟩ h
      have e0 := e k (by omega) (by omega)
      have e1 := e (k + 1) (by omega) (by omega)
      refine List.mem_append_left _ (List.mem_map.mpr ⟨f, hf, ?_⟩)
      rw [e0, e1]
      push_cast
      grind
  rw [List.length_append, List.length_map] at this
  omega

/-! ### the way between two shares -/
def wayR (a b : List Int) (N t : Nat) : List Int := List.zipWith (fun x y => x * b.sum * ((N : Int) - (t : Int)) + y * a.sum * (t : Int)) a b
theorem zip_lin (p q : Int) : ∀ a b : List Int, a.length = b.length → (List.zipWith (fun x y => x * p + y * q) a b).sum = a.sum * p + b.sum * q
  | [], [], _ => by simp
  | x :: a, y :: b, h => by
    rw [List.zipWith_cons_cons, List.sum_cons, List.sum_cons, List.sum_cons, zip_lin p q a b (by simpa using h)]
    grind
theorem way_sum {a b : List Int} (h : a.length = b.length) (N t : Nat) : (wayR a b N t).sum = a.sum * b.sum * (N : Int) := by
  unfold wayR
  have e : (fun x y => x * b.sum * ((N : Int) - (t : Int)) + y * a.sum * (t : Int)) = fun x y => x * (b.sum * ((N : Int) - (t : Int))) + y * (a.sum * (t : Int)) := by
    funext x y
    grind
  rw [e, zip_lin _ _ a b h]
  grind
theorem way_get {a b : List Int} (h : a.length = b.length) (N t : Nat) {j : Nat} (hj : j < a.length) : (wayR a b N t).getD j 0 = a.getD j 0 * b.sum * (N : Int) + (b.getD j 0 * a.sum - a.getD j 0 * b.sum) * (t : Int) := by
  unfold wayR
  have hb : j < b.length := by omega
  rw [List.getD_eq_getElem?_getD, List.getElem?_zipWith, List.getElem?_eq_getElem hj, List.getElem?_eq_getElem hb, List.getD_eq_getElem?_getD, List.getD_eq_getElem?_getD, List.getElem?_eq_getElem hj, List.getElem?_eq_getElem hb]
  show a[j] * b.sum * ((N : Int) - (t : Int)) + b[j] * a.sum * (t : Int) = a[j] * b.sum * (N : Int) + (b[j] * a.sum - a[j] * b.sum) * (t : Int)
  grind
theorem wo_scale {rs : List Int} {g : Int} (hg : 0 < g) (ss : List Int) : ∀ e : Ex, wo rs (ss.map (g * ·)) e = g * wo rs ss e := by
  have hs : ∀ ss : List Int, (ss.map (g * ·)).sum = g * ss.sum := fun ss => by
    induction ss with
    | nil => simp
    | cons x r ih => rw [List.map_cons, List.sum_cons, List.sum_cons, ih, Int.mul_add]
  have hgt : ∀ j : Nat, (ss.map (g * ·)).getD j 0 = g * ss.getD j 0 := fun j => by
    rw [List.getD_eq_getElem?_getD, List.getElem?_map, List.getD_eq_getElem?_getD]
    cases ss[j]? <;> simp
  have lt : ∀ x y : Int, g * x < g * y ↔ x < y := fun x y => Int.mul_lt_mul_left hg
  intro e
  induction e with
  | fig c => show c * (ss.map (g * ·)).sum = g * (c * ss.sum); rw [hs]; grind
  | reg i => show rs.getD i 0 * (ss.map (g * ·)).sum = g * (rs.getD i 0 * ss.sum); rw [hs]; grind
  | share j => show 1000 * (ss.map (g * ·)).getD j 0 = g * (1000 * ss.getD j 0); rw [hgt]; grind
  | two w a b iha ihb =>
    show jw w (wo rs (ss.map (g * ·)) a) (wo rs (ss.map (g * ·)) b) = g * jw w (wo rs ss a) (wo rs ss b)
    rw [iha, ihb]
    cases w
    · show g * _ + g * _ = g * (_ + _)
      rw [Int.mul_add]
    · show g * _ - g * _ = g * (_ - _)
      rw [Int.mul_sub]
    · show (if g * wo rs ss b < g * wo rs ss a then _ else _) = g * (if wo rs ss b < wo rs ss a then _ else _)
      by_cases h : wo rs ss b < wo rs ss a
      · rw [if_pos h, if_pos ((lt _ _).mpr h)]
      · rw [if_neg h, if_neg (fun z => h ((lt _ _).mp z))]
    · show (if g * wo rs ss b > g * wo rs ss a then _ else _) = g * (if wo rs ss b > wo rs ss a then _ else _)
      by_cases h : wo rs ss b > wo rs ss a
      · rw [if_pos h, if_pos ((lt _ _).mpr h)]
      · rw [if_neg h, if_neg (fun z => h ((lt _ _).mp z))]
  | times f a iha => show f * _ = g * (f * _); rw [iha]; grind
  | «by» i a iha => show rs.getD i 0 * _ = g * (rs.getD i 0 * _); rw [iha]; grind
  | when i c a b iha ihb =>
    show (if rs.getD i 0 < c then _ else _) = g * (if rs.getD i 0 < c then _ else _)
    by_cases h : rs.getD i 0 < c
    · rw [if_pos h, if_pos h, iha]
    · rw [if_neg h, if_neg h, ihb]
  | whr j c a b iha ihb =>
    show (if 1000 * (ss.map (g * ·)).getD j 0 < c * (ss.map (g * ·)).sum then _ else _) = g * (if 1000 * ss.getD j 0 < c * ss.sum then _ else _)
    rw [hgt, hs]
    have e : (1000 * (g * ss.getD j 0) < c * (g * ss.sum)) ↔ (1000 * ss.getD j 0 < c * ss.sum) := by
      rw [show 1000 * (g * ss.getD j 0) = g * (1000 * ss.getD j 0) by grind, show c * (g * ss.sum) = g * (c * ss.sum) by grind, lt]
    by_cases h : 1000 * ss.getD j 0 < c * ss.sum
    · rw [if_pos h, if_pos (e.mpr h), iha]
    · rw [if_neg h, if_neg (fun z => h (e.mp z)), ihb]
theorem low_back {ns : List Int} (h : ∀ x ∈ ns, 0 ≤ x) : (low ns).map (((gl ns : Nat) : Int) * ·) = ns := by
  unfold low
  rw [List.map_map]
  conv => rhs; rw [← List.map_id ns]
  apply List.map_congr_left
  intro x hx
  have hd : ((gl ns : Nat) : Int) ∣ x := by
    have := Int.natCast_dvd_natCast.mpr (gl_dvd hx)
    rwa [Int.toNat_of_nonneg (h x hx)] at this
  exact Int.mul_ediv_cancel' hd
theorem sum_scale (g : Int) : ∀ ss : List Int, (ss.map (g * ·)).sum = g * ss.sum
  | [] => by simp
  | x :: r => by rw [List.map_cons, List.sum_cons, List.sum_cons, sum_scale g r, Int.mul_add]
theorem low_worth {rs ns : List Int} {y : Int} (h : ∀ x ∈ ns, 0 ≤ x) (hy : y ∈ ns) (py : 0 < y) (hs : 0 < (low ns).sum) (e : Ex) : ns.sum / (low ns).sum * wo rs (low ns) e = wo rs ns e := by
  have hg : 0 < ((gl ns : Nat) : Int) := by have := gl_pos hy py; omega
  have e1 := low_back h
  have e2 : ns.sum = ((gl ns : Nat) : Int) * (low ns).sum := by
    conv => lhs; rw [← e1]
    exact sum_scale _ _
  rw [e2, Int.mul_ediv_cancel _ (by omega), ← wo_scale hg (low ns) e, e1]
end NG

set_option maxHeartbeats 2000000
namespace NG
open PySem PySem.Spec PyProof.Rows L2
/-! ### all rows of numbers of a sum -/
def rowsL : Nat → Nat → List (List Int)
  | 0, _ => []
  | 1, t => [[(t : Int)]]
  | n + 2, t => (List.range (t + 1)).flatMap fun f => (rowsL (n + 1) (t - f)).map fun r => (f : Int) :: r
theorem mem_rowsL : ∀ (n t : Nat) (r : List Int), r ∈ rowsL (n + 1) t ↔ r.length = n + 1 ∧ (∀ x ∈ r, 0 ≤ x) ∧ r.sum = (t : Int)
  | 0, t, r => by
    constructor
    · intro h
      rw [List.mem_singleton.mp h]
      refine ⟨rfl, fun x hx => ?_, by simp⟩
      rw [List.mem_singleton.mp hx]
      omega
    · rintro ⟨h1, h2, h3⟩
      match r, h1 with
      | [x], _ =>
        rw [List.sum_cons, List.sum_nil, Int.add_zero] at h3
        rw [h3]
        exact List.mem_singleton.mpr rfl
  | n + 1, t, r => by
    have e : rowsL (n + 1 + 1) t = (List.range (t + 1)).flatMap fun f => (rowsL (n + 1) (t - f)).map fun r => (f : Int) :: r := rfl
    rw [e, List.mem_flatMap]
    constructor
    · rintro ⟨f, hf, h⟩
      obtain ⟨r', h', rfl⟩ := List.mem_map.mp h
      obtain ⟨h1, h2, h3⟩ := (mem_rowsL n (t - f) r').mp h'
      have hf := List.mem_range.mp hf
      refine ⟨by rw [List.length_cons, h1], fun x hx => ?_, by rw [List.sum_cons, h3]; omega⟩
      rcases List.mem_cons.mp hx with rfl | hx
      · omega
      · exact h2 x hx
    · rintro ⟨h1, h2, h3⟩
      match r, h1 with
      | x :: r', h1 =>
        have hx := h2 x List.mem_cons_self
        have h2' : ∀ y ∈ r', 0 ≤ y := fun y hy => h2 y (List.mem_cons_of_mem _ hy)
        have hs := sum_nonneg h2'
        rw [List.sum_cons] at h3
        refine ⟨x.toNat, List.mem_range.mpr (by omega), List.mem_map.mpr ⟨r', (mem_rowsL n _ r').mpr ⟨by simpa using h1, h2', by omega⟩, ?_⟩⟩
        rw [Int.toNat_of_nonneg hx]
theorem nodup_rowsL : ∀ n t : Nat, (rowsL n t).Nodup
  | 0, _ => List.nodup_nil
  | 1, t => by
    show [[(t : Int)]].Nodup
    simp
  | n + 2, t => by
    show ((List.range (t + 1)).flatMap fun f => (rowsL (n + 1) (t - f)).map fun r => (f : Int) :: r).Pairwise (· ≠ ·)
    rw [List.pairwise_flatMap]
    refine ⟨fun f _ => ?_, ?_⟩
    · rw [List.pairwise_map]
      exact (nodup_rowsL (n + 1) (t - f)).imp fun h e => h (List.cons.inj e).2
    · refine (List.nodup_range (n := t + 1)).imp fun {f g} h x hx y hy e => ?_
      obtain ⟨x', _, rfl⟩ := List.mem_map.mp hx
      obtain ⟨y', _, rfl⟩ := List.mem_map.mp hy
      have := (List.cons.inj e).1
      exact h (by omega)
theorem rowsL_len {n t : Nat} {r : List Int} (h : r ∈ rowsL n t) : r.length = n := by
  cases n with
  | zero => cases h
  | succ n => exact ((mem_rowsL n t r).mp h).1
theorem flatMap_len_le {α β : Type} (f : α → List β) (B : Nat) : ∀ {l : List α}, (∀ x ∈ l, (f x).length ≤ B) → (l.flatMap f).length ≤ l.length * B
  | [], _ => by simp
  | x :: l, h => by
    have h1 := h x List.mem_cons_self
    have h2 := flatMap_len_le f B (l := l) fun y hy => h y (List.mem_cons_of_mem _ hy)
    rw [List.flatMap_cons, List.length_append, List.length_cons, Nat.add_mul, Nat.one_mul]
    omega
theorem rowsL_size : ∀ {n t : Nat}, t ≤ 60 → (rowsL n t).length ≤ 61 ^ (n - 1)
  | 0, _, _ => by show 0 ≤ _; omega
  | 1, _, _ => by show 1 ≤ _; decide
  | n + 2, t, h => by
    have := flatMap_len_le (fun f => (rowsL (n + 1) (t - f)).map fun r => (f : Int) :: r) (61 ^ n) (l := List.range (t + 1)) fun f _ => by
      rw [List.length_map]
      exact rowsL_size (n := n + 1) (by omega)
    rw [List.length_range] at this
    show _ ≤ 61 ^ (n + 1)
    rw [Nat.pow_succ, Nat.mul_comm]
    exact Nat.le_trans this (Nat.mul_le_mul_right _ (by omega))
/-! ### lowest rows -/
def cop (n b : Nat) : List (List Int) := (rowsL n b).filter fun r => decide (gl r = 1)
def divs (t : Nat) : List Nat := ((List.range t).map (· + 1)).filter fun b => decide (t % b = 0)
def keyL (r : List Int) : List Key := r.map Sum.inl
theorem keyL_kV (r : List Int) : (keyL r).map kV = r.map V.int := by
  unfold keyL
  rw [List.map_map]
  rfl
theorem keyL_inj {a b : List Int} (h : keyL a = keyL b) : a = b := by
  have := congrArg (List.map kV) h
  rw [keyL_kV, keyL_kV] at this
  exact List.map_inj_right (f := V.int) (fun x y e => V.int.inj e) |>.mp this
def kvsOf (n b : Nat) : List (List Key × V) := (cop n b).map fun r => (keyL r, V.int (b : Int))
def metL (n : Nat) (ds : List Nat) : List (List Key × V) := ds.foldl (fun acc b => mergeT acc (kvsOf n b)) []
theorem putK_new {kvs : List (List Key × V)} {k : List Key} {v : V} (h : k ∉ kvs.map Prod.fst) : putK kvs k v = kvs ++ [(k, v)] := by
  unfold putK
  rw [if_neg]
  intro e
  rw [List.any_eq_true] at e
  obtain ⟨x, hx, e⟩ := e
  exact h (List.mem_map.mpr ⟨x, hx, of_decide_eq_true e⟩)
theorem mergeT_new : ∀ {more acc : List (List Key × V)}, ((acc ++ more).map Prod.fst).Nodup → mergeT acc more = acc ++ more
  | [], acc, _ => (List.append_nil acc).symm
  | p :: more, acc, h => by
    have hp : p.1 ∉ acc.map Prod.fst := by
      rw [List.map_append, List.nodup_append] at h
      exact fun hm => h.2.2 _ hm _ List.mem_cons_self rfl
    show mergeT (putK acc p.1 p.2) more = _
    rw [putK_new hp, mergeT_new (by rw [List.append_assoc]; exact h), List.append_assoc]
    rfl
theorem metL_fold {n : Nat} : ∀ {ds : List Nat} {acc : List (List Key × V)}, ((acc ++ ds.flatMap (kvsOf n)).map Prod.fst).Nodup → ds.foldl (fun acc b => mergeT acc (kvsOf n b)) acc = acc ++ ds.flatMap (kvsOf n)
  | [], acc, _ => (List.append_nil acc).symm
  | b :: ds, acc, h => by
    rw [List.flatMap_cons, ← List.append_assoc] at h
    have h1 : ((acc ++ kvsOf n b).map Prod.fst).Nodup := by
      rw [List.map_append, List.nodup_append] at h
      exact h.1
    rw [List.foldl_cons, mergeT_new h1, metL_fold h, List.flatMap_cons, List.append_assoc]
theorem keys_flat (n : Nat) (ds : List Nat) : (ds.flatMap (kvsOf n)).map Prod.fst = (ds.flatMap (cop n)).map keyL := by
  rw [List.map_flatMap, List.map_flatMap]
  congr 1
  funext b
  unfold kvsOf
  rw [List.map_map]
  rfl
theorem nodup_cop {n : Nat} {ds : List Nat} (h : ds.Nodup) : (ds.flatMap (cop (n + 1))).Nodup := by
  show List.Pairwise (· ≠ ·) _
  rw [List.pairwise_flatMap]
  refine ⟨fun b _ => (nodup_rowsL _ _).filter _, h.imp fun {a b} hab x hx y hy e => hab ?_⟩
  have h1 := ((mem_rowsL _ _ _).mp (List.mem_filter.mp hx).1).2.2
  have h2 := ((mem_rowsL _ _ _).mp (List.mem_filter.mp hy).1).2.2
  rw [e, h2] at h1
  omega
theorem nodup_keys {n : Nat} {ds : List Nat} (h : ds.Nodup) : ((ds.flatMap (kvsOf (n + 1))).map Prod.fst).Nodup := by
  rw [keys_flat]
  exact List.Pairwise.map keyL (fun a b h e => h (keyL_inj e)) (nodup_cop h)
theorem metL_eq {n : Nat} {ds : List Nat} (h : ds.Nodup) : metL (n + 1) ds = ds.flatMap (kvsOf (n + 1)) := (metL_fold (acc := []) (nodup_keys h)).trans (List.nil_append _)
theorem nodup_divs (t : Nat) : (divs t).Nodup := by
  refine List.Pairwise.filter _ ?_
  exact List.Pairwise.map (· + 1) (fun a b h e => h (by simpa using e)) List.nodup_range
theorem valV_mem : ∀ {kvs : List (List Key × V)} {k : List Key} {v : V}, (kvs.map Prod.fst).Nodup → (k, v) ∈ kvs → valV kvs k = some v
  | p :: kvs, k, v, h, hm => by
    rw [List.map_cons, List.nodup_cons] at h
    rcases List.mem_cons.mp hm with rfl | hm
    · exact valV_pos rfl
    · rw [valV_neg fun e => h.1 (e ▸ List.mem_map.mpr ⟨(k, v), hm, rfl⟩)]
      exact valV_mem h.2 hm
theorem valV_no {kvs : List (List Key × V)} {k : List Key} (h : k ∉ kvs.map Prod.fst) : valV kvs k = none := by
  unfold valV
  rw [List.find?_eq_none.mpr]
  · rfl
  · intro x hx e
    exact h (List.mem_map.mpr ⟨x, hx, of_decide_eq_true e⟩)
theorem dvd_gf2 (d : Nat) : ∀ (ns : List Int) (g : Nat), d ∣ g → (∀ x ∈ ns, d ∣ x.toNat) → d ∣ ns.foldl gf g
  | [], _, h, _ => h
  | y :: ns, g, h, hx => dvd_gf2 d ns (gf g y) (Nat.dvd_gcd h (hx y List.mem_cons_self)) fun x h => hx x (List.mem_cons_of_mem _ h)
theorem gl_low2 {ns : List Int} {y : Int} (h : ∀ x ∈ ns, 0 ≤ x) (hy : y ∈ ns) (py : 0 < y) : gl (low ns) = 1 := by
  have hg := gl_pos hy py
  have h1 : gl (low ns) * gl ns ∣ gl ns := by
    refine dvd_gf2 _ ns 0 (Nat.dvd_zero _) fun x hx => ?_
    have h2 : gl (low ns) ∣ (x / (gl ns : Int)).toNat := gl_dvd (List.mem_map_of_mem hx)
    have h3 := gl_dvd hx
    have h4 := h x hx
    have e : (x / (gl ns : Int)).toNat = x.toNat / gl ns := by
      obtain ⟨m, rfl⟩ := Int.eq_ofNat_of_zero_le h4
      exact Int.toNat_natCast _
    rw [e] at h2
    have := Nat.mul_dvd_mul h2 (Nat.dvd_refl (gl ns))
    rw [Nat.div_mul_cancel h3] at this
    exact this
  have h2 := Nat.le_of_dvd hg h1
  have h3 : gl (low ns) ≠ 0 := fun z => by
    rw [z, Nat.zero_mul] at h1
    have := Nat.eq_zero_of_zero_dvd h1
    omega
  have h4 : gl (low ns) ≤ 1 := Nat.le_of_mul_le_mul_right (by omega) hg
  omega
theorem pos_mem : ∀ {ns : List Int}, 0 < ns.sum → ∃ y ∈ ns, 0 < y
  | [], h => by simp at h
  | x :: ns, h => by
    by_cases c : 0 < x
    · exact ⟨x, List.mem_cons_self, c⟩
    · rw [List.sum_cons] at h
      obtain ⟨y, hy, p⟩ := pos_mem (ns := ns) (by omega)
      exact ⟨y, List.mem_cons_of_mem _ hy, p⟩
structure RowF (n t : Nat) (r : List Int) : Prop where
  len : r.length = n
  nn : ∀ x ∈ r, 0 ≤ x
  sum : r.sum = (t : Int)
  glp : 0 < gl r
  lnn : ∀ x ∈ low r, 0 ≤ x
  llen : (low r).length = n
  lsum : 0 < (low r).sum
  mul : (t : Int) = (gl r : Int) * (low r).sum
  quo : (t : Int) / (low r).sum = (gl r : Int)
  back : (low r).map (fun x => (t : Int) / (low r).sum * x) = r
  one : gl (low r) = 1
theorem rowF {n t : Nat} (ht : 0 < t) {r : List Int} (h : r ∈ rowsL (n + 1) t) : RowF (n + 1) t r := by
  obtain ⟨h1, h2, h3⟩ := (mem_rowsL n t r).mp h
  obtain ⟨y, hy, py⟩ := pos_mem (ns := r) (by omega)
  have hg := gl_pos hy py
  have e1 := low_back h2
  have e2 : r.sum = (gl r : Int) * (low r).sum := by
    conv => lhs; rw [← e1]
    exact sum_scale _ _
  have hl : ∀ x ∈ low r, 0 ≤ x := fun x hx => by
    obtain ⟨z, hz, rfl⟩ := List.mem_map.mp hx
    exact Int.ediv_nonneg (h2 z hz) (by omega)
  have hs : 0 < (low r).sum := by
    have h5 := sum_nonneg hl
    rcases Int.lt_or_eq_of_le h5 with h | h
    · exact h
    · rw [← h, Int.mul_zero] at e2
      omega
  have e3 : (t : Int) = (gl r : Int) * (low r).sum := by rw [← h3, e2]
  have e4 : (t : Int) / (low r).sum = (gl r : Int) := by rw [e3, Int.mul_ediv_cancel _ (by omega)]
  exact ⟨h1, h2, h3, hg, hl, by unfold low; rw [List.length_map]; exact h1, hs, e3, e4, by rw [e4]; exact e1, gl_low2 h2 hy py⟩
theorem low_mem {n t : Nat} (ht : 0 < t) {r : List Int} (h : r ∈ rowsL (n + 1) t) : ∃ b ∈ divs t, low r ∈ cop (n + 1) b ∧ (b : Int) = (low r).sum := by
  have F := rowF ht h
  obtain ⟨b, hb⟩ := Int.eq_ofNat_of_zero_le (Int.le_of_lt F.lsum)
  have hb1 := F.lsum
  have e := F.mul
  rw [hb] at e hb1
  have e' : t = gl r * b := by exact_mod_cast e
  have hle : b ≤ t := by
    rw [e']
    exact Nat.le_mul_of_pos_left b F.glp
  refine ⟨b, List.mem_filter.mpr ⟨List.mem_map.mpr ⟨b - 1, List.mem_range.mpr (by omega), by omega⟩, decide_eq_true ?_⟩, List.mem_filter.mpr ⟨(mem_rowsL n b _).mpr ⟨F.llen, F.lnn, hb⟩, decide_eq_true F.one⟩, hb.symm⟩
  rw [e']
  exact Nat.mul_mod_left _ _
theorem met_at {n t : Nat} (ht : 0 < t) {r : List Int} (h : r ∈ rowsL (n + 1) t) : valV (metL (n + 1) (divs t)) (keyL (low r)) = some (.int (low r).sum) := by
  obtain ⟨b, hb, hm, e⟩ := low_mem ht h
  rw [metL_eq (nodup_divs t), ← e]
  refine valV_mem (nodup_keys (nodup_divs t)) ?_
  exact List.mem_flatMap.mpr ⟨b, hb, List.mem_map.mpr ⟨low r, hm, rfl⟩⟩
theorem low_inj {n t : Nat} (ht : 0 < t) {r r' : List Int} (h : r ∈ rowsL (n + 1) t) (h' : r' ∈ rowsL (n + 1) t) (e : low r = low r') : r = r' := by
  have a := (rowF ht h).back
  have b := (rowF ht h').back
  rw [e, b] at a
  exact a.symm
def fndL (rs : List (List Int)) : List (List Key × V) := rs.map fun r => (keyL (low r), V.bl true)
theorem fnd_new {n t : Nat} (ht : 0 < t) {i : Nat} {r : List Int} (h : (rowsL (n + 1) t)[i]? = some r) : keyL (low r) ∉ (fndL ((rowsL (n + 1) t).take i)).map Prod.fst := by
  intro hm
  unfold fndL at hm
  rw [List.map_map] at hm
  obtain ⟨r', hr, e⟩ := List.mem_map.mp hm
  have e2 : low r' = low r := keyL_inj e
  obtain ⟨j, hj, ej⟩ := List.mem_iff_getElem.mp hr
  rw [List.length_take] at hj
  rw [List.getElem_take] at ej
  have e3 : r' = r := low_inj ht (List.mem_of_mem_take hr) (List.mem_of_getElem? h) e2
  obtain ⟨hi, ei⟩ := List.getElem?_eq_some_iff.mp h
  exact (List.pairwise_iff_getElem.mp (nodup_rowsL (n + 1) t)) j i (by omega) hi (by omega) (by rw [ej, e3, ei])
theorem low_times {k : Int} (hk : 0 < k) {r : List Int} (h : ∀ x ∈ r, 0 ≤ x) (hg : 0 < gl r) : low (r.map (k * ·)) = low r := by
  obtain ⟨m, rfl⟩ := Int.eq_ofNat_of_zero_le (Int.le_of_lt hk)
  have key : ∀ (ns : List Int) (g : Nat), (∀ x ∈ ns, 0 ≤ x) → (ns.map ((m : Int) * ·)).foldl gf (m * g) = m * ns.foldl gf g := by
    intro ns
    induction ns with
    | nil => intro g _; rfl
    | cons x ns ih =>
      intro g hx
      obtain ⟨y, rfl⟩ := Int.eq_ofNat_of_zero_le (hx x List.mem_cons_self)
      show ((ns.map ((m : Int) * ·)).foldl gf (gf (m * g) ((m : Int) * (y : Int)))) = m * ns.foldl gf (gf g y)
      have e : gf (m * g) ((m : Int) * (y : Int)) = m * gf g y := by
        unfold gf
        rw [← Int.natCast_mul, Int.toNat_natCast, Int.toNat_natCast, Nat.gcd_mul_left]
      rw [e]
      exact ih _ fun z hz => hx z (List.mem_cons_of_mem _ hz)
  have hgl : gl (r.map ((m : Int) * ·)) = m * gl r := by
    have := key r 0 h
    rw [Nat.mul_zero] at this
    exact this
  unfold low
  rw [hgl, List.map_map]
  refine List.map_congr_left fun x hx => ?_
  show ((m : Int) * x) / ((m * gl r : Nat) : Int) = _
  rw [Int.natCast_mul, Int.mul_ediv_mul_of_pos _ _ hk]
/-! ### thousandths -/
def msI (ss : List Int) : List Int := ss.map fun x => 1000 * x / ss.sum
def okM (ss : List Int) : Bool := decide (1000 - (ss.length : Int) < (msI ss).sum) && (decide ((msI ss).sum ≤ 1000) && (decide ((msI ss).sum = 1000) == decide ((ss.filter fun x => decide (1000 * x % ss.sum = 0)).length = ss.length)))
def okT (n t : Nat) : Bool := (rowsL n t).all okM && decide (((divs t).map fun b => (cop n b).length).sum = (rowsL n t).length)
theorem ok2 : ∀ t < 61, 0 < t → okT 2 t = true := by decide +kernel
theorem ok3 : ∀ t < 21, 0 < t → okT 3 t = true := by decide +kernel
theorem msI_rev (ss : List Int) : msI ss.reverse = (msI ss).reverse := by
  unfold msI
  rw [List.sum_reverse, List.map_reverse]
theorem met_len {n t : Nat} (h : ((divs t).map fun b => (cop (n + 1) b).length).sum = (rowsL (n + 1) t).length) : (metL (n + 1) (divs t)).length = (rowsL (n + 1) t).length := by
  rw [metL_eq (nodup_divs t), List.length_flatMap, ← h]
  congr 1
  refine List.map_congr_left fun b _ => ?_
  unfold kvsOf
  rw [List.length_map]
end NG

namespace NG
open PySem PySem.Spec PyProof.Rows L2
/-! ### fractions in lowest numbers -/
def fr (u d : Nat) : Nat × Nat := (u / Nat.gcd u d, d / Nat.gcd u d)
theorem fr_scale {u d k : Nat} (hk : 0 < k) : fr (u * k) (d * k) = fr u d := by
  unfold fr
  rw [Nat.gcd_mul_right, Nat.mul_div_mul_right _ _ hk, Nat.mul_div_mul_right _ _ hk]
theorem fr_eq (u d : Nat) : u = (fr u d).1 * Nat.gcd u d ∧ d = (fr u d).2 * Nat.gcd u d :=
  ⟨(Nat.div_mul_cancel (Nat.gcd_dvd_left u d)).symm, (Nat.div_mul_cancel (Nat.gcd_dvd_right u d)).symm⟩
theorem fr_le (u d : Nat) : (fr u d).1 ≤ u ∧ (fr u d).2 ≤ d := ⟨Nat.div_le_self _ _, Nat.div_le_self _ _⟩
theorem fr_pos {u d : Nat} (h : 0 < d) : 0 < (fr u d).2 := Nat.div_pos (Nat.le_of_dvd h (Nat.gcd_dvd_right _ _)) (Nat.gcd_pos_of_pos_right _ h)
theorem fr_add {U D M W : Nat} (hD : 0 < D) (hW : 0 < W) : fr ((fr U D).1 * (fr M W).2 + (fr M W).1 * (fr U D).2) ((fr U D).2 * (fr M W).2) = fr (U * W + M * D) (D * W) := by
  have h1 := fr_eq U D
  have h2 := fr_eq M W
  have g1 : 0 < Nat.gcd U D := Nat.gcd_pos_of_pos_right _ hD
  have g2 : 0 < Nat.gcd M W := Nat.gcd_pos_of_pos_right _ hW
  have e1 : U * W + M * D = ((fr U D).1 * (fr M W).2 + (fr M W).1 * (fr U D).2) * (Nat.gcd U D * Nat.gcd M W) := by
    generalize Nat.gcd U D = a at *
    generalize Nat.gcd M W = b at *
    generalize (fr U D).1 = c at *
    generalize (fr U D).2 = d at *
    generalize (fr M W).1 = e at *
    generalize (fr M W).2 = f at *
    rw [h1.1, h1.2, h2.1, h2.2]
    grind
  have e2 : D * W = ((fr U D).2 * (fr M W).2) * (Nat.gcd U D * Nat.gcd M W) := by
    generalize Nat.gcd U D = a at *
    generalize Nat.gcd M W = b at *
    generalize (fr U D).2 = d at *
    generalize (fr M W).2 = f at *
    rw [h1.2, h2.2]
    grind
  rw [e1, e2, fr_scale (Nat.mul_pos g1 g2)]
theorem fr_step {U D w m : Nat} (hD : 0 < D) : fr ((fr U D).1 * w * w + m * (fr U D).2) ((fr U D).2 * w * w) = fr (U * (w * w) + m * D) (D * (w * w)) := by
  have h1 := fr_eq U D
  have g1 : 0 < Nat.gcd U D := Nat.gcd_pos_of_pos_right _ hD
  have e1 : U * (w * w) + m * D = ((fr U D).1 * w * w + m * (fr U D).2) * Nat.gcd U D := by
    generalize Nat.gcd U D = a at *
    generalize (fr U D).1 = c at *
    generalize (fr U D).2 = d at *
    rw [h1.1, h1.2]
    grind
  have e2 : D * (w * w) = ((fr U D).2 * w * w) * Nat.gcd U D := by
    generalize Nat.gcd U D = a at *
    generalize (fr U D).2 = d at *
    rw [h1.2]
    grind
  rw [e1, e2, fr_scale g1]
theorem gl_two (u d : Nat) : gl [(u : Int), (d : Int)] = Nat.gcd u d := by
  show Nat.gcd (Nat.gcd 0 ((u : Int)).toNat) ((d : Int)).toNat = _
  rw [Nat.gcd_zero_left]
  rfl
theorem low_two (u d : Nat) : low [(u : Int), (d : Int)] = [((fr u d).1 : Int), ((fr u d).2 : Int)] := by
  unfold low fr
  rw [gl_two]
  simp only [List.map_cons, List.map_nil, Int.natCast_ediv]

/-! ### what shares miss -/
abbrev Row := List Int × Nat
theorem fr01 : fr 0 1 = (0, 1) := by decide
def missI (ss : List Int) (j : Nat) : Int := ss.sum * ss.sum - 2 * ss.sum * ss.getD j 0 + (ss.map fun x => x * x).sum
def missL (ss : List Int) (j : Nat) : Int := ((List.range ss.length).map fun p => (ss.sum * (if p = j then 1 else 0) - ss.getD p 0) * (ss.sum * (if p = j then 1 else 0) - ss.getD p 0)).sum
theorem miss_eq {ss : List Int} {j : Nat} (hl : ss.length = 2 ∨ ss.length = 3) (hj : j < ss.length) : missL ss j = missI ss j := by
  unfold missL missI
  rcases hl with hl | hl
  · match ss, hl with
    | [a, b], _ =>
      have hj : j = 0 ∨ j = 1 := by simp at hj; omega
      rcases hj with rfl | rfl <;> simp [List.range_succ] <;> grind
  · match ss, hl with
    | [a, b, c], _ =>
      have hj : j = 0 ∨ j = 1 ∨ j = 2 := by simp at hj; omega
      rcases hj with rfl | rfl | rfl <;> simp [List.range_succ] <;> grind
theorem sq_nonneg (x : Int) : 0 ≤ x * x := by
  rcases Int.le_total 0 x with h | h
  · exact Int.mul_nonneg h h
  · exact Int.mul_nonneg_of_nonpos_of_nonpos h h
theorem miss_nonneg {ss : List Int} {j : Nat} (hl : ss.length = 2 ∨ ss.length = 3) (hj : j < ss.length) : 0 ≤ missI ss j := by
  rw [← miss_eq hl hj]
  exact sum_nonneg fun x hx => by
    obtain ⟨p, _, rfl⟩ := List.mem_map.mp hx
    exact sq_nonneg _
theorem miss_le {ss : List Int} {j : Nat} (hl : ss.length = 2 ∨ ss.length = 3) (hb : ∀ x ∈ ss, 0 ≤ x) (hj : j < ss.length) : missI ss j ≤ 2 * (ss.sum * ss.sum) := by
  unfold missI
  rcases hl with hl | hl
  · match ss, hl, hb with
    | [a, b], _, hb =>
      have ha := hb a (by simp)
      have hbb := hb b (by simp)
      have h1 : 0 ≤ a * b := Int.mul_nonneg ha hbb
      have h2 := Int.mul_nonneg ha ha
      have h3 := Int.mul_nonneg hbb hbb
      have hj : j = 0 ∨ j = 1 := by simp at hj; omega
      rcases hj with rfl | rfl <;> simp <;> grind
  · match ss, hl, hb with
    | [a, b, c], _, hb =>
      have ha := hb a (by simp)
      have hbb := hb b (by simp)
      have hc := hb c (by simp)
      have h1 : 0 ≤ a * b := Int.mul_nonneg ha hbb
      have h2 := Int.mul_nonneg ha ha
      have h3 := Int.mul_nonneg hbb hbb
      have h4 := Int.mul_nonneg hc hc
      have h5 := Int.mul_nonneg ha hc
      have h6 := Int.mul_nonneg hbb hc
      have hj : j = 0 ∨ j = 1 ∨ j = 2 := by simp at hj; omega
      rcases hj with rfl | rfl | rfl <;> simp <;> grind
def wN (ss : List Int) : Nat := ss.sum.toNat
def mN (ss : List Int) (j : Nat) : Nat := (missI ss j).toNat
def stepR (x : Nat × Nat) (r : Row) : Nat × Nat := (x.1 * (wN r.1 * wN r.1) + mN r.1 r.2 * x.2, x.2 * (wN r.1 * wN r.1))
def udF (x : Nat × Nat) (rs : List Row) : Nat × Nat := rs.foldl stepR x
def ud (rs : List Row) : Nat × Nat := udF (0, 1) rs
theorem ud_take {rs : List Row} {i : Nat} {r : Row} (h : rs[i]? = some r) : ud (rs.take (i + 1)) = stepR (ud (rs.take i)) r := by
  unfold ud udF
  rw [List.take_add_one, h, List.foldl_append]
  rfl
theorem udF_lin (U0 D0 : Nat) : ∀ (rs : List Row) (x : Nat × Nat), udF (U0 * x.2 + x.1 * D0, D0 * x.2) rs = (U0 * (udF x rs).2 + (udF x rs).1 * D0, D0 * (udF x rs).2)
  | [], x => rfl
  | r :: rs, x => by
    have ih := udF_lin U0 D0 rs (stepR x r)
    show udF (stepR (U0 * x.2 + x.1 * D0, D0 * x.2) r) rs = _
    have e : stepR (U0 * x.2 + x.1 * D0, D0 * x.2) r = (U0 * (stepR x r).2 + (stepR x r).1 * D0, D0 * (stepR x r).2) := by
      unfold stepR
      generalize wN r.1 * wN r.1 = w2
      generalize mN r.1 r.2 = m
      apply Prod.ext
      · show (U0 * x.2 + x.1 * D0) * w2 + m * (D0 * x.2) = U0 * (x.2 * w2) + (x.1 * w2 + m * x.2) * D0
        grind
      · show D0 * x.2 * w2 = D0 * (x.2 * w2)
        grind
    rw [e, ih]
    rfl
theorem ud_split (rs : List Row) (k : Nat) : ud rs = ((ud (rs.take k)).1 * (ud (rs.drop k)).2 + (ud (rs.drop k)).1 * (ud (rs.take k)).2, (ud (rs.take k)).2 * (ud (rs.drop k)).2) := by
  have h := udF_lin (ud (rs.take k)).1 (ud (rs.take k)).2 (rs.drop k) (0, 1)
  have e : ud rs = udF (ud (rs.take k)) (rs.drop k) := by
    unfold ud udF
    rw [← List.foldl_append, List.take_append_drop]
  rw [e]
  rw [show ((ud (rs.take k)).1 * ((0, 1) : Nat × Nat).2 + ((0, 1) : Nat × Nat).1 * (ud (rs.take k)).2, (ud (rs.take k)).2 * ((0, 1) : Nat × Nat).2) = ud (rs.take k) by
    apply Prod.ext
    · show (ud (rs.take k)).1 * 1 + 0 * _ = _
      omega
    · show (ud (rs.take k)).2 * 1 = _
      omega] at h
  exact h
structure RowOk (many : Nat) (r : Row) : Prop where
  len : r.1.length = many
  bnd : ∀ x ∈ r.1, 0 ≤ x ∧ x < 2 ^ 40
  pos : 0 < r.1.sum
  sum : r.1.sum < 2 ^ 42
  sgn : r.2 < many
theorem ud_bnd {many : Nat} (hm : many = 2 ∨ many = 3) : ∀ (rs : List Row) (x : Nat × Nat) (n : Nat), (∀ r ∈ rs, RowOk many r) → 0 < x.2 → x.2 ≤ 2 ^ (84 * n) → x.1 ≤ 2 * n * x.2 →
    0 < (udF x rs).2 ∧ (udF x rs).2 ≤ 2 ^ (84 * (n + rs.length)) ∧ (udF x rs).1 ≤ 2 * (n + rs.length) * (udF x rs).2
  | [], x, n, _, h1, h2, h3 => ⟨h1, h2, h3⟩
  | r :: rs, x, n, h, h1, h2, h3 => by
    have o := h r (by simp)
    have hw : 0 < wN r.1 := by
      have := o.pos
      unfold wN
      omega
    have hw2 : wN r.1 < 2 ^ 42 := by
      have := o.sum
      unfold wN
      omega
    have hw3 : wN r.1 * wN r.1 ≤ 2 ^ 84 := by
      have := Nat.mul_le_mul (Nat.le_of_lt hw2) (Nat.le_of_lt hw2)
      rw [show (2 : Nat) ^ 42 * 2 ^ 42 = 2 ^ 84 by decide] at this
      exact this
    have hmiss : mN r.1 r.2 ≤ 2 * (wN r.1 * wN r.1) := by
      have hl : r.1.length = 2 ∨ r.1.length = 3 := by rw [o.len]; exact hm
      have := miss_le hl (fun x hx => (o.bnd x hx).1) (by rw [o.len]; exact o.sgn)
      have e : ((wN r.1 : Nat) : Int) = r.1.sum := by
        have := o.pos
        unfold wN
        omega
      rw [← e] at this
      unfold mN
      have e2 : ((2 * (wN r.1 * wN r.1) : Nat) : Int) = 2 * ((wN r.1 : Int) * (wN r.1 : Int)) := by push_cast; rfl
      omega
    have ih := ud_bnd hm rs (stepR x r) (n + 1) (fun r' hr => h r' (List.mem_cons_of_mem _ hr)) (Nat.mul_pos h1 (Nat.mul_pos hw hw)) ?_ ?_
    · rw [show n + 1 + rs.length = n + (r :: rs).length by rw [List.length_cons]; omega] at ih
      exact ih
    · show x.2 * (wN r.1 * wN r.1) ≤ 2 ^ (84 * (n + 1))
      rw [show 84 * (n + 1) = 84 * n + 84 by omega, Nat.pow_add]
      exact Nat.mul_le_mul h2 hw3
    · show x.1 * (wN r.1 * wN r.1) + mN r.1 r.2 * x.2 ≤ 2 * (n + 1) * (x.2 * (wN r.1 * wN r.1))
      have a1 := Nat.mul_le_mul_right (wN r.1 * wN r.1) h3
      have a2 := Nat.mul_le_mul_right x.2 hmiss
      generalize wN r.1 * wN r.1 = w2 at *
      generalize mN r.1 r.2 = m at *
      have e : 2 * (n + 1) * (x.2 * w2) = 2 * n * x.2 * w2 + 2 * w2 * x.2 := by grind
      omega
theorem ud_small {many : Nat} (hm : many = 2 ∨ many = 3) {rs : List Row} (h : ∀ r ∈ rs, RowOk many r) (hl : rs.length ≤ 18) : 0 < (ud rs).2 ∧ (ud rs).2 < 2 ^ 1520 ∧ (ud rs).1 < 2 ^ 1520 := by
  obtain ⟨h1, h2, h3⟩ := ud_bnd hm rs (0, 1) 0 h (by decide) (by decide) (by decide)
  have e : (2 : Nat) ^ (84 * (0 + rs.length)) ≤ 2 ^ 1512 := Nat.pow_le_pow_right (by decide) (by omega)
  have p : (2 : Nat) ^ 1520 = 2 ^ 1512 * 256 := by rw [show 1520 = 1512 + 8 by rfl, Nat.pow_add]
  have e0 : 0 < (2 : Nat) ^ 1512 := Nat.pow_pos (by decide)
  have h2' : (ud rs).2 ≤ 2 ^ 1512 := Nat.le_trans h2 e
  refine ⟨h1, ?_, ?_⟩
  · rw [p]
    generalize (2 : Nat) ^ 1512 = z at *
    omega
  · have : (ud rs).1 ≤ 36 * (ud rs).2 := Nat.le_trans h3 (Nat.mul_le_mul_right _ (by omega))
    rw [p]
    generalize (2 : Nat) ^ 1512 = z at *
    omega

/-! ### on the heap -/
def Sh4 (K : PySem.W.Frag) (H : Hp) (many : Nat) (ss : List Int) (v : V) : Prop := ∃ p, v = .ref p ∧ SqT K H p (ss.map V.int) ∧ ss.length = many ∧ (∀ x ∈ ss, 0 ≤ x ∧ x < 2 ^ 40) ∧ 0 < ss.sum ∧ ss.sum < 2 ^ 42
theorem Sh4.imp {K : PySem.W.Frag} {H H' : Hp} {many : Nat} {rs : List Int} {v : V} (r : Sh4 K H many rs v) (h : ∀ p xs, SqT K H p xs → SqT K H' p xs) : Sh4 K H' many rs v := by
  obtain ⟨p, e, q, l⟩ := r
  exact ⟨p, e, h _ _ q, l⟩
theorem Sh4.same {K : PySem.W.Frag} {H H' : Hp} {many : Nat} {rs : List Int} {v : V} (r : Sh4 K H many rs v) (s : Same H H') : Sh4 K H' many rs v := r.imp fun _ _ h => same_sqt s h
theorem low_sh4 {ns : List Int} (hb : ∀ x ∈ ns, 0 ≤ x ∧ x < 2 ^ 40) (hl : ns.length ≤ 3) {y : Int} (hy : y ∈ ns) (py : 0 < y) :
    (∀ x ∈ low ns, 0 ≤ x ∧ x < 2 ^ 40) ∧ 0 < (low ns).sum ∧ (low ns).sum < 2 ^ 42 := by
  have h0 := low_sh (ns := ns) (fun x hx => ⟨(hb x hx).1, Int.lt_trans (hb x hx).2 (by decide)⟩) (by omega) hy py
  have hg := gl_pos hy py
  have h1 : ∀ x ∈ low ns, 0 ≤ x ∧ x < 2 ^ 40 := fun x hx => by
    obtain ⟨z, hz, rfl⟩ := List.mem_map.mp hx
    have h2 := hb z hz
    exact ⟨Int.ediv_nonneg h2.1 (by omega), Int.lt_of_le_of_lt (div_le_self' h2.1) h2.2⟩
  refine ⟨h1, h0.2.1, ?_⟩
  have h3 := sum_le (B := 2 ^ 40 - 1) (ms := low ns) fun x hx => by have := (h1 x hx).2; omega
  have h4 : (low ns).length ≤ 3 := by
    unfold low
    rw [List.length_map]
    exact hl
  have h5 : ((low ns).length : Int) * (2 ^ 40 - 1) ≤ 3 * (2 ^ 40 - 1) := Int.mul_le_mul_of_nonneg_right (by omega) (by decide)
  have h6 : (3 : Int) * (2 ^ 40 - 1) < 2 ^ 42 := by decide
  omega
def FrAt (K : PySem.W.Frag) (H : Hp) (x : Nat × Nat) (v : V) : Prop := ∃ p, v = .ref p ∧ SqT K H p [.int ((fr x.1 x.2).1 : Int), .int ((fr x.1 x.2).2 : Int)]
theorem FrAt.same {K : PySem.W.Frag} {H H' : Hp} {x : Nat × Nat} {v : V} (r : FrAt K H x v) (s : Same H H') : FrAt K H' x v := by
  obtain ⟨p, e, q⟩ := r
  exact ⟨p, e, same_sqt s q⟩
def RwAt (K : PySem.W.Frag) (H : Hp) (many : Nat) : List V → List Row → Prop
  | [], [] => True
  | v :: vs, r :: rs => (∃ p s, v = .ref p ∧ SqT K H p [s, .int (r.2 : Int)] ∧ Sh4 K H many r.1 s ∧ r.2 < many) ∧ RwAt K H many vs rs
  | _, _ => False
theorem RwAt.imp {K : PySem.W.Frag} {H H' : Hp} {many : Nat} (h : ∀ p xs, SqT K H p xs → SqT K H' p xs) : ∀ {vs : List V} {rs : List Row}, RwAt K H many vs rs → RwAt K H' many vs rs
  | [], [], _ => trivial
  | _ :: _, _ :: _, ⟨⟨p, s, e, q, sh, lt⟩, r⟩ => ⟨⟨p, s, e, h _ _ q, sh.imp h, lt⟩, RwAt.imp h r⟩
theorem RwAt.same {K : PySem.W.Frag} {H H' : Hp} {many : Nat} {vs : List V} {rs : List Row} (r : RwAt K H many vs rs) (s : Same H H') : RwAt K H' many vs rs := r.imp fun _ _ q => same_sqt s q
theorem RwAt.len {K : PySem.W.Frag} {H : Hp} {many : Nat} : ∀ {vs : List V} {rs : List Row}, RwAt K H many vs rs → vs.length = rs.length
  | [], [], _ => rfl
  | _ :: _, _ :: _, ⟨_, r⟩ => by rw [List.length_cons, List.length_cons, r.len]
theorem RwAt.snoc {K : PySem.W.Frag} {H : Hp} {many : Nat} {v : V} {e : Row} (x : ∃ p s, v = .ref p ∧ SqT K H p [s, .int (e.2 : Int)] ∧ Sh4 K H many e.1 s ∧ e.2 < many) : ∀ {vs : List V} {es : List Row}, RwAt K H many vs es → RwAt K H many (vs ++ [v]) (es ++ [e])
  | [], [], _ => ⟨x, trivial⟩
  | _ :: _, _ :: _, ⟨y, r⟩ => ⟨y, RwAt.snoc x r⟩
theorem RwAt.get {K : PySem.W.Frag} {H : Hp} {many : Nat} : ∀ {vs : List V} {es : List Row} {k : Nat} {v : V}, RwAt K H many vs es → vs[k]? = some v → ∃ e, es[k]? = some e ∧ ∃ p s, v = .ref p ∧ SqT K H p [s, .int (e.2 : Int)] ∧ Sh4 K H many e.1 s ∧ e.2 < many
  | [], [], _, _, _, h => by simp at h
  | v :: vs, e' :: es, 0, v', ⟨x, r⟩, h => by
    have : v = v' := Option.some.inj h
    subst this
    exact ⟨e', rfl, x⟩
  | v :: vs, e' :: es, k + 1, e, ⟨x, r⟩, h => RwAt.get (k := k) r h
theorem RwAt.take {K : PySem.W.Frag} {H : Hp} {many : Nat} : ∀ {vs : List V} {es : List Row} (k : Nat), RwAt K H many vs es → RwAt K H many (vs.take k) (es.take k)
  | [], [], k, _ => by simp [RwAt]
  | v :: vs, e :: es, 0, _ => trivial
  | v :: vs, e :: es, k + 1, ⟨x, r⟩ => ⟨x, RwAt.take k r⟩
theorem RwAt.drop {K : PySem.W.Frag} {H : Hp} {many : Nat} : ∀ {vs : List V} {es : List Row} (k : Nat), RwAt K H many vs es → RwAt K H many (vs.drop k) (es.drop k)
  | [], [], k, _ => by simp [RwAt]
  | v :: vs, e :: es, 0, h => h
  | v :: vs, e :: es, k + 1, ⟨x, r⟩ => RwAt.drop k r
theorem RwAt.ok {K : PySem.W.Frag} {H : Hp} {many : Nat} : ∀ {vs : List V} {es : List Row}, RwAt K H many vs es → ∀ r ∈ es, RowOk many r
  | [], [], _, r, h => by cases h
  | v :: vs, e :: es, ⟨⟨p, s, _, _, sh, lt⟩, r⟩, x, hx => by
    obtain ⟨q, _, _, h1, h2, h3, h4⟩ := sh
    rcases List.mem_cons.mp hx with rfl | hx
    · exact ⟨h1, h2, h3, h4, lt⟩
    · exact RwAt.ok r x hx
theorem RowOk.w {many : Nat} {r : Row} (o : RowOk many r) : ((wN r.1 : Nat) : Int) = r.1.sum ∧ 0 < wN r.1 ∧ wN r.1 < 2 ^ 42 := by
  have := o.pos
  have := o.sum
  unfold wN
  omega
theorem RowOk.m {many : Nat} {r : Row} (hm : many = 2 ∨ many = 3) (o : RowOk many r) : ((mN r.1 r.2 : Nat) : Int) = missI r.1 r.2 ∧ mN r.1 r.2 ≤ 2 ^ 85 := by
  have hl : r.1.length = 2 ∨ r.1.length = 3 := by rw [o.len]; exact hm
  have h1 := miss_nonneg hl (by rw [o.len]; exact o.sgn)
  have h2 := miss_le hl (fun x hx => (o.bnd x hx).1) (by rw [o.len]; exact o.sgn)
  have h3 : r.1.sum * r.1.sum ≤ 2 ^ 42 * 2 ^ 42 := Int.mul_le_mul (Int.le_of_lt o.sum) (Int.le_of_lt o.sum) (Int.le_of_lt o.pos) (by decide)
  unfold mN
  omega

/-! ### promises -/
def spCommon (K : PySem.W.Frag) : Sp := fun vs H Q _ => ∃ (p : Addr) (ns : List Int), vs = [.ref p] ∧ SqT K H p (ns.map V.int) ∧ (∀ x ∈ ns, 0 ≤ x) ∧ ∀ H', Same H H' → Q (.int (gl ns : Int)) H'
def spLowest (K : PySem.W.Frag) : Sp := fun vs H Q _ => ∃ (p : Addr) (ns : List Int) (y : Int), vs = [.ref p] ∧ SqT K H p (ns.map V.int) ∧ (∀ x ∈ ns, 0 ≤ x) ∧ y ∈ ns ∧ 0 < y ∧ y.natAbs < 2 ^ 8000 ∧ ns.length ≤ 100 ∧ ∀ H' t, Same H H' → SqT K H' t ((low ns).map V.int) → Q (.ref t) H'
def spAddMiss (K : PySem.W.Frag) : Sp := fun vs H Q _ => ∃ (x s : V) (a : Nat × Nat) (many : Nat) (r : Row), vs = [x, s, .int (r.2 : Int)] ∧ FrAt K H a x ∧ 0 < a.2 ∧ a.1 < 2 ^ 2000 ∧ a.2 < 2 ^ 2000 ∧ (many = 2 ∨ many = 3) ∧ Sh4 K H many r.1 s ∧ r.2 < many ∧ ∀ H' v, Same H H' → FrAt K H' (stepR a r) v → Q v H'
def spMisses (K : PySem.W.Frag) : Sp := fun vs H Q _ => ∃ (p : Addr) (xs : List V) (rs : List Row) (many : Nat), vs = [.ref p, .int (many : Int)] ∧ SqT K H p xs ∧ RwAt K H many xs rs ∧ (many = 2 ∨ many = 3) ∧ rs.length ≤ 18 ∧ ∀ H' v, Same H H' → FrAt K H' (ud rs) v → Q v H'
def spRival (K : PySem.W.Frag) : Sp := fun vs H Q _ => ∃ (p : Addr) (s : V) (xs : List V) (rs : List Row) (many : Nat) (told : List Int), vs = [.ref p, s] ∧ SqT K H p xs ∧ RwAt K H many xs rs ∧ Sh4 K H many told s ∧ (many = 2 ∨ many = 3) ∧ rs.length ≤ 18 ∧ ∀ H' v, Same H H' → FrAt K H' (ud (rs.map fun r => (told, r.2))) v → Q v H'
def spFraction (K : PySem.W.Frag) : Sp := fun vs H Q _ => ∃ (a : Nat × Nat), vs = [.int (a.1 : Int), .int (a.2 : Int)] ∧ 0 < a.2 ∧ a.1 < 2 ^ 8000 ∧ a.2 < 2 ^ 8000 ∧ ∀ H' v, Same H H' → FrAt K H' a v → Q v H'
def spAdded (K : PySem.W.Frag) : Sp := fun vs H Q _ => ∃ (x y : V) (a b : Nat × Nat), vs = [x, y] ∧ FrAt K H a x ∧ FrAt K H b y ∧ 0 < a.2 ∧ 0 < b.2 ∧ a.1 < 2 ^ 2000 ∧ a.2 < 2 ^ 2000 ∧ b.1 < 2 ^ 2000 ∧ b.2 < 2 ^ 2000 ∧ ∀ H' v, Same H H' → FrAt K H' (a.1 * b.2 + b.1 * a.2, a.2 * b.2) v → Q v H'
def spLMiss (K : PySem.W.Frag) : Sp := fun vs H Q _ => ∃ (s : V) (r : Row) (many : Nat), vs = [s, .int r.1.sum, .int (r.2 : Int)] ∧ Sh4 K H many r.1 s ∧ r.2 < many ∧ (many = 2 ∨ many = 3) ∧ ∀ H' v, Same H H' → FrAt K H' (mN r.1 r.2, wN r.1 * wN r.1) v → Q v H'
def spDue (K : PySem.W.Frag) : Sp := fun vs H Q _ => ∃ (p : Addr) (s : V) (xs : List V) (rs : List Row) (many : Nat) (told : List Int), vs = [.ref p, s] ∧ SqT K H p xs ∧ RwAt K H many xs rs ∧ Sh4 K H many told s ∧ told.sum = 1000 ∧ (many = 2 ∨ many = 3) ∧ rs.length ≤ 18 ∧ ∀ H' l x y, Same H H' → H l = none → H' l = some (.lst [x, y]) → FrAt K H' (ud rs) x → FrAt K H' (ud (rs.map fun r => (told, r.2))) y → Q (.ref l) H'
def spLow4 (K : PySem.W.Frag) : Sp := fun vs H Q _ => ∃ (p : Addr) (ns : List Int) (y : Int), vs = [.ref p] ∧ H p = some (.lst (ns.map V.int)) ∧ (∀ x ∈ ns, 0 ≤ x ∧ x < 2 ^ 40) ∧ ns.length ≤ 3 ∧ y ∈ ns ∧ 0 < y ∧
  ∀ H' v ms, Same H H' → Sh4 K H' ns.length ms v → Q v H'
def spShares4 (K : PySem.W.Frag) : Sp := fun vs H Q _ => ∃ (a : Addr) (many n : Nat), vs = [.ref a, .int (many : Int)] ∧ 1 ≤ many ∧ many ≤ 3 ∧ HandAt H a n ∧ n ≤ 999998000 ∧
  ∀ H' v ms, But a H H' → HandAt H' a (n + 20) → Sh4 K H' many ms v → Q v H'
def spThousand (K : PySem.W.Frag) : Sp := fun vs H Q _ => ∃ (a : Addr) (many n : Nat), vs = [.ref a, .int (many : Int)] ∧ (many = 2 ∨ many = 3) ∧ HandAt H a n ∧ n ≤ 999998000 ∧
  ∀ H' v ms, But a H H' → HandAt H' a (n + 4) → Sh4 K H' many ms v → ms.sum = 1000 → Q v H'
def spRows (K : PySem.W.Frag) : Sp := fun vs H Q _ => ∃ (a : Addr) (many n : Nat), vs = [.ref a, .int (many : Int)] ∧ (many = 2 ∨ many = 3) ∧ HandAt H a n ∧ n ≤ 999990000 ∧
  ∀ H' p xs rs, But a H H' → HandAt H' a (n + 400) → SqT K H' p xs → RwAt K H' many xs rs → rs.length ≤ 18 → Q (.ref p) H'

/-! ### shown -/
structure Shx (d : PyData) (w k : Nat) : Prop where
  sh : d.showable = true
  lf : d.leavesShort 2000 = true
  wt : d.weight ≤ w
  dp : d.depth ≤ k
theorem Shx.int {i : Int} (h : i.natAbs < 2 ^ 1600) : Shx (.int i) 1601 0 := by
  have hl : i.natAbs.log2 < 1600 := PySem.Flt.log2_lt_of (by decide) h
  refine ⟨?_, ?_, ?_, Nat.le_refl _⟩
  · show decide (i.natAbs.log2 < 1920) = true
    exact decide_eq_true (by omega)
  · show decide ((PyData.shown (.int i)).length ≤ 2000) = true
    refine decide_eq_true ?_
    have e := int_text_length_le (k := 1600) (by decide) hl
    show (Str.ofString (toString i)).length ≤ 2000
    rw [PySem.ofString_length]
    omega
  · show (if i == 0 then 0 else i.natAbs.log2 + 1) ≤ 1601
    split <;> omega
def frD (x : Nat × Nat) : PyData := .tuple [.int ((fr x.1 x.2).1 : Int), .int ((fr x.1 x.2).2 : Int)]
theorem FrAt.dp {K : PySem.W.Frag} {H : Hp} {x : Nat × Nat} {v : V} (h : FrAt K H x v) : Dp K H v (frD x) := by
  obtain ⟨p, rfl, q⟩ := h
  exact .tup q (.cons (.int _) (.cons (.int _) .nil))
theorem due_show {x y : Nat × Nat} (h1 : x.1 < 2 ^ 1520) (h2 : x.2 < 2 ^ 1520) (h3 : y.1 < 2 ^ 1520) (h4 : y.2 < 2 ^ 1520) :
    (PyData.list [frD x, frD y]).showable = true ∧ (PyData.list [frD x, frD y]).depth ≤ 60 ∧ (PyData.list [frD x, frD y]).shown.length ≤ sizeLine := by
  have up : ∀ {n z : Nat}, z ≤ n → n < 2 ^ 1520 → ((z : Nat) : Int).natAbs < 2 ^ 1600 := fun {n z} h1 h2 => by
    rw [Int.natAbs_natCast]
    exact Nat.lt_of_le_of_lt h1 (Nat.lt_of_lt_of_le h2 (Nat.pow_le_pow_right (by decide) (by decide)))
  have a1 := Shx.int (up (fr_le x.1 x.2).1 h1)
  have a2 := Shx.int (up (fr_le x.1 x.2).2 h2)
  have b1 := Shx.int (up (fr_le y.1 y.2).1 h3)
  have b2 := Shx.int (up (fr_le y.1 y.2).2 h4)
  have sh2 : ∀ {i j : Int} {w1 w2 k1 k2 : Nat}, Shx (.int i) w1 k1 → Shx (.int j) w2 k2 → (PyData.tuple [.int i, .int j]).showable = true ∧ (PyData.tuple [.int i, .int j]).leavesShort 2000 = true ∧ (PyData.tuple [.int i, .int j]).weight ≤ w1 + 1 + (w2 + 1) := fun {i j w1 w2 k1 k2} p q => by
    refine ⟨?_, ?_, ?_⟩
    · show ((PyData.int i).showable && ((PyData.int j).showable && true)) = true
      rw [p.sh, q.sh]
      rfl
    · show ((PyData.int i).leavesShort 2000 && ((PyData.int j).leavesShort 2000 && true)) = true
      rw [p.lf, q.lf]
      rfl
    · show (PyData.int i).weight + 1 + ((PyData.int j).weight + 1 + 0) ≤ _
      have := p.wt
      have := q.wt
      omega
  obtain ⟨c1, c2, c3⟩ := sh2 a1 a2
  obtain ⟨d1, d2, d3⟩ := sh2 b1 b2
  have lf : (PyData.list [frD x, frD y]).leavesShort 2000 = true := by
    show ((frD x).leavesShort 2000 && ((frD y).leavesShort 2000 && true)) = true
    rw [show (frD x).leavesShort 2000 = true from c2, show (frD y).leavesShort 2000 = true from d2]
    rfl
  refine ⟨?_, (by show 2 ≤ 60; decide), ?_⟩
  · show ((frD x).showable && ((frD y).showable && true)) = true
    rw [show (frD x).showable = true from c1, show (frD y).showable = true from d1]
    rfl
  · have := PyData.shown_le 2000 (by decide) _ lf
    have w : (PyData.list [frD x, frD y]).weight ≤ 6410 := by
      show (frD x).weight + 1 + ((frD y).weight + 1 + 0) ≤ _
      have c3 : (frD x).weight ≤ _ := c3
      have d3 : (frD y).weight ≤ _ := d3
      omega
    have e : sizeLine = 16777216 := by decide
    omega
def rowD (r : Row) : PyData := .tuple [.tuple (r.1.map PyData.int), .int (r.2 : Int)]
theorem rows_dp {K : PySem.W.Frag} {H : Hp} {many : Nat} : ∀ {vs : List V} {rs : List Row}, RwAt K H many vs rs → DpAll K H vs (rs.map rowD)
  | [], [], _ => .nil
  | _ :: _, _ :: _, ⟨⟨p, s, e, q, ⟨p2, e2, q2, _⟩, _⟩, r⟩ => by
    subst e e2
    exact .cons (.tup q (.cons (.tup q2 (dp_ints _)) (.cons (.int _) .nil))) (rows_dp r)
theorem row_shh {many : Nat} {r : Row} (hm : many ≤ 3) (o : RowOk many r) : Shh (rowD r) 300 2 := by
  have h1 := shh_list (f := PyData.int) (xs := r.1) (w := 60) (k := 0) fun x hx => Shh.int (by have := o.bnd x hx; omega)
  have h2 : Shh (.int (r.2 : Int)) 60 0 := Shh.int (by have := o.sgn; omega)
  have h3 := h1.tup
  have := o.len
  exact ((ShhAll.cons h3 (ShhAll.cons h2 (ShhAll.nil (k := 0)) (k := 0) (Nat.le_refl _) (Nat.le_refl _)) (k := 1) (by omega) (by omega)).tup).mono (by omega) (by omega)
theorem rows_shh {many : Nat} {rs : List Row} (hm : many ≤ 3) (o : ∀ r ∈ rs, RowOk many r) (hl : rs.length ≤ 18) : Shh (.tuple (rs.map rowD)) 6000 3 := by
  have h := shh_list (f := rowD) (xs := rs) (w := 300) (k := 2) fun r hr => row_shh hm (o r hr)
  exact h.tup.mono (by omega) (by omega)
end NG

namespace NG
open PySem PySem.Spec PyProof.Rows L2
def topS (i : Nat) : Stmt := PySem.Challenge.pw_nonegrowsrich_k02_whole_each_row_one_sha.main.body.getD i (.Pass ⟨0, 0, 0, 0⟩)
abbrev s_is_number : Stmt := topS 1
abbrev N_is_number : List Str := ["thing"]
theorem sc_is_number : FnScope ["thing"] ["thing"] (defScope s_is_number) := ⟨rfl, rfl, rfl, by decide +kernel, rfl, by decide +kernel, by decide +kernel⟩
abbrev s_common_part : Stmt := topS 2
abbrev N_common_part : List Str := ["row", "part", "number", "rest"]
theorem sc_common_part : FnScope ["row", "part", "number", "rest"] ["row"] (defScope s_common_part) := ⟨rfl, rfl, rfl, by decide +kernel, rfl, by decide +kernel, by decide +kernel⟩
abbrev s_is_shares : Stmt := topS 3
abbrev N_is_shares : List Str := ["thing", "many", "number"]
theorem sc_is_shares : FnScope ["thing", "many", "number"] ["thing", "many"] (defScope s_is_shares) := ⟨rfl, rfl, rfl, by decide +kernel, rfl, by decide +kernel, by decide +kernel⟩
abbrev s_lowest : Stmt := topS 4
abbrev N_lowest : List Str := ["row", "part", "number"]
theorem sc_lowest : FnScope ["row", "part", "number"] ["row"] (defScope s_lowest) := ⟨rfl, rfl, rfl, by decide +kernel, rfl, by decide +kernel, by decide +kernel⟩
abbrev s_mills : Stmt := topS 5
abbrev N_mills : List Str := ["shares", "sign"]
theorem sc_mills : FnScope ["shares", "sign"] ["shares", "sign"] (defScope s_mills) := ⟨rfl, rfl, rfl, by decide +kernel, rfl, by decide +kernel, by decide +kernel⟩
abbrev s_L_hand : Stmt := topS 7
abbrev N_L_hand : List Str := ["_law_script", "_law_k", "_law_cell", "_law_great"]
theorem sc_L_hand : FnScope ["_law_script", "_law_k", "_law_cell", "_law_great"] ["_law_script", "_law_k"] (defScope s_L_hand) := ⟨rfl, rfl, rfl, by decide +kernel, rfl, by decide +kernel, by decide +kernel⟩
abbrev s_L_take : Stmt := topS 8
abbrev N_L_take : List Str := ["_law_hand_here", "_law_many", "_law_digit", "_law_primes", "_law_prime", "_law_drawn"]
theorem sc_L_take : FnScope ["_law_hand_here", "_law_many", "_law_digit", "_law_primes", "_law_prime", "_law_drawn"] ["_law_hand_here", "_law_many"] (defScope s_L_take) := ⟨rfl, rfl, rfl, by decide +kernel, rfl, by decide +kernel, by decide +kernel⟩
abbrev s_L_of : Stmt := topS 9
abbrev N_L_of : List Str := ["_law_hand_here", "_law_some"]
theorem sc_L_of : FnScope ["_law_hand_here", "_law_some"] ["_law_hand_here", "_law_some"] (defScope s_L_of) := ⟨rfl, rfl, rfl, by decide +kernel, rfl, by decide +kernel, by decide +kernel⟩
abbrev s_L_rows : Stmt := topS 10
abbrev N_L_rows : List Str := ["_law_many", "_law_total", "_law_found", "_law_first", "_law_rest"]
theorem sc_L_rows : FnScope ["_law_many", "_law_total", "_law_found", "_law_first", "_law_rest"] ["_law_many", "_law_total"] (defScope s_L_rows) := ⟨rfl, rfl, rfl, by decide +kernel, rfl, by decide +kernel, by decide +kernel⟩
abbrev s_L_mills_right : Stmt := topS 11
abbrev N_L_mills_right : List Str := ["_law_shares", "_law_some", "_law_sign", "_law_even", "_law_part", "_law_turned"]
theorem sc_L_mills_right : FnScope ["_law_shares", "_law_some", "_law_sign", "_law_even", "_law_part", "_law_turned"] ["_law_shares"] (defScope s_L_mills_right) := ⟨rfl, rfl, rfl, by decide +kernel, rfl, by decide +kernel, by decide +kernel⟩
abbrev s_L_right : Stmt := topS 12
abbrev N_L_right : List Str := ["_law_hand_here", "_law_many", "_law_total", "_law_counts", "_law_met", "_law_times", "_law_by", "_law_some", "_law_row", "_law_rows_here", "_law_found", "_law_made", "_law_number"]
theorem sc_L_right : FnScope ["_law_hand_here", "_law_many", "_law_total", "_law_counts", "_law_met", "_law_times", "_law_by", "_law_some", "_law_row", "_law_rows_here", "_law_found", "_law_made", "_law_number"] ["_law_hand_here", "_law_many", "_law_total"] (defScope s_L_right) := ⟨rfl, rfl, rfl, by decide +kernel, rfl, by decide +kernel, by decide +kernel⟩
abbrev s_law : Stmt := topS 13
abbrev N_law : List Str := ["_law_script", "_law_k", "_law_hand_here", "_law_many", "_law_most"]
theorem sc_law : FnScope ["_law_script", "_law_k", "_law_hand_here", "_law_many", "_law_most"] ["_law_script"] (defScope s_law) := ⟨rfl, rfl, rfl, by decide +kernel, rfl, by decide +kernel, by decide +kernel⟩

end NG

namespace NG
open PySem PySem.Spec PyProof.Rows L2
section
variable {P : Program} {w : World} {K : PySem.W.Frag} {mg : Str → Option Value} {base : Heap}
theorem primes_at {m : Int} (h : 0 ≤ m) : ∃ p : Int, atI ([.int 2147483647, .int 2147483629, .int 2147483587, .int 2147483579, .int 2147483563, .int 2147483549, .int 2147483543, .int 2147483497] : List V) (m % 8) = some (.int p) ∧ 1000 < p ∧ p < 2147483648 := by
  have h1 : m % 8 = 0 ∨ m % 8 = 1 ∨ m % 8 = 2 ∨ m % 8 = 3 ∨ m % 8 = 4 ∨ m % 8 = 5 ∨ m % 8 = 6 ∨ m % 8 = 7 := by omega
  rcases h1 with e | e | e | e | e | e | e | e <;> rw [e] <;> exact ⟨_, rfl, by decide, by decide⟩
theorem ok_take {f : Addr} {fd : FuncData} (F : Fun K "_law_take" "_law_take" s_L_take f fd) (gF : mg "_law_take" = some (.ref f)) (b : Binds K fd ["_law_hand_here", "_law_many"] []) : Cal P w K mg base 1 "_law_take" spTake := by
  refine ⟨f, fd, _, F.ok sc_L_take (fun vs H Q E h => ?_) (fun cdv A outer s H vs Q E hr h => ?_), gF, F.kp, b⟩
  · obtain ⟨a, m, n, rfl, _⟩ := h
    rfl
  · obtain ⟨a, many, n, rfl, hm, hm2, ⟨g, sd, m, e, hg, hs, h0, hn⟩, hN, q⟩ := h
    refine ⟨_, (pss_cons (ps_if (pt_cmpR op_gt (pe_ix ix_list (pv 0) pe_int (fun _ _ => rfl)) pe_int (nomark _)) (pss_cons (ps_set (i := 2) sc_L_take.nd rfl (.inl rfl) (pe_op op_mod (pe_ix ix_list (pv 0) pe_int (fun _ _ => rfl)) (pv 1))) (pss_cons (ps_asg (pe_op op_fdivW (pe_ix ix_list (pv 0) pe_int (fun _ _ => rfl)) (pv 1)) (pg_sub (pv 0) pe_int set_list)) (pss_one (ps_ret (pv 2))))) pss_nil) (pss_cons (ps_asg (pe_op op_add (pe_ix ix_list (pv 0) pe_int (fun _ _ => rfl)) pe_int) (pg_sub (pv 0) pe_int set_list)) (pss_cons (ps_set (i := 3) sc_L_take.nd rfl (.inl rfl) (pe_lst (pa_cons pe_int (pa_cons pe_int (pa_cons pe_int (pa_cons pe_int (pa_cons pe_int (pa_cons pe_int (pa_cons pe_int (pa_cons pe_int pa_nil)))))))))) (pss_cons (ps_set (i := 4) sc_L_take.nd rfl (.inl rfl) (pe_ix ix_list (pv 3) (pe_op op_mod (pe_ix ix_list (pv 0) pe_int (fun _ _ => rfl)) pe_int) (fun _ _ => rfl))) (pss_cons (ps_set (i := 5) sc_L_take.nd rfl (.inl rfl) (pe_op op_add (pe_op op_mod (pe_op op_mod (pe_op op_add (pe_ix ix_list (pv 0) pe_int (fun _ _ => rfl)) (pe_op op_mul (pe_op op_mul pe_int (pe_ix ix_list (pv 0) pe_int (fun _ _ => rfl))) (pe_ix ix_list (pv 0) pe_int (fun _ _ => rfl)))) (pe_op op_pow (pv 4) pe_int)) (pv 4)) pe_int)) (pss_one (ps_ret (pe_op op_mod (pe_op op_fdiv (pe_op op_mod (pe_op op_mul (pv 5) (pe_op op_add (pe_op op_mod (pv 5) pe_int) (pe_ix ix_list (pv 0) pe_int (fun _ _ => rfl)))) (pv 4)) pe_int) (pv 1))))))))), ?_⟩
    refine ⟨.ref a, rfl, a, _, 0, .int g, rfl, rfl, SqL.of e, rfl, g, 0, rfl, rfl, _, rfl, iteD (fun c => ?_) (fun c => ?_)⟩
    · refine ⟨.ref a, rfl, a, _, 0, .int g, rfl, rfl, SqL.of e, rfl, .int many, rfl, g, many, rfl, rfl, hm, ?_⟩
      refine ⟨.ref a, rfl, a, _, 0, .int g, rfl, rfl, SqL.of e, rfl, .int many, rfl, g, many, rfl, rfl, wide_div (b := 62) hm (by omega) (by decide) (by decide), ?_⟩
      refine ⟨.ref a, rfl, a, _, 0, 0, rfl, rfl, e, rfl, ?_⟩
      refine ⟨.int (g % many), rfl, q _ _ But.put ?_ (Int.emod_nonneg _ (by omega)) (Int.emod_lt_of_pos _ hm)⟩
      exact ⟨g / many, sd, m, upd_same, Int.ediv_nonneg hg (by omega), hs, h0, by omega⟩
    · refine ⟨.ref a, rfl, a, _, 2, .int m, rfl, rfl, SqL.of e, rfl, m, 1, rfl, rfl, ?_⟩
      refine ⟨.ref a, rfl, a, _, 2, 2, rfl, rfl, e, rfl, ?_⟩
      have e1 : (upd H a (.lst [.int g, .int sd, .int (m + 1)])) a = some (.lst [.int g, .int sd, .int (m + 1)]) := upd_same
      refine ⟨by decide, fun p np => ?_⟩
      have npa : p ≠ a := (ne_of_none e1 np).symm
      obtain ⟨pr, hat, hp1, hp2⟩ := primes_at (m := m + 1) (by omega)
      have e2 : (upd (upd H a (.lst [.int g, .int sd, .int (m + 1)])) p (.lst [.int 2147483647, .int 2147483629, .int 2147483587, .int 2147483579, .int 2147483563, .int 2147483549, .int 2147483543, .int 2147483497])) a = some (.lst [.int g, .int sd, .int (m + 1)]) := by rw [upd_ne npa.symm]; exact e1
      have e3 : (upd (upd H a (.lst [.int g, .int sd, .int (m + 1)])) p (.lst [.int 2147483647, .int 2147483629, .int 2147483587, .int 2147483579, .int 2147483563, .int 2147483549, .int 2147483543, .int 2147483497])) p = some (.lst [.int 2147483647, .int 2147483629, .int 2147483587, .int 2147483579, .int 2147483563, .int 2147483549, .int 2147483543, .int 2147483497]) := upd_same
      refine ⟨.ref p, rfl, .ref a, rfl, a, _, 2, .int (m + 1), rfl, rfl, SqL.of e2, rfl, m + 1, 8, rfl, rfl, (by show (0 : Int) < 8; decide), p, _, (m + 1) % 8, .int pr, rfl, rfl, SqL.of e3, hat, ?_⟩
      have hsq : (0 : Int) < pr ^ (2 : Int).toNat := by
        show 0 < pr ^ 2
        exact Int.pow_pos (by omega)
      refine ⟨.ref a, rfl, a, _, 1, .int sd, rfl, rfl, SqL.of e2, rfl, .ref a, rfl, a, _, 2, .int (m + 1), rfl, rfl, SqL.of e2, rfl, 69621, m + 1, rfl, rfl, .inl ⟨by decide, by decide⟩, .ref a, rfl, a, _, 2, .int (m + 1), rfl, rfl, SqL.of e2, rfl, _, _, rfl, rfl, .inr ⟨by omega, by omega⟩, _, _, rfl, rfl,
        .int pr, rfl, pr, 2, rfl, rfl, ⟨by decide, by decide, by omega⟩, _, _, rfl, rfl, hsq, .int pr, rfl, _, pr, rfl, rfl, (by show 0 < pr; omega), _, 1, rfl, rfl, ?_⟩
      generalize hz : (sd + 69621 * (m + 1) * (m + 1)) % pr ^ (2 : Int).toNat % pr = z
      have hz0 : 0 ≤ z := by rw [← hz]; exact Int.emod_nonneg _ (by omega)
      have hz1 : z < pr := by rw [← hz]; exact Int.emod_lt_of_pos _ (by omega)
      refine ⟨.int (z + 1), rfl, .int (z + 1), rfl, z + 1, 1009, rfl, rfl, (by show (0 : Int) < 1009; decide), .ref a, rfl, a, _, 2, .int (m + 1), rfl, rfl, SqL.of e2, rfl, _, _, rfl, rfl, z + 1, _, rfl, rfl, .inl ⟨by omega, by omega⟩, .int pr, rfl, _, pr, rfl, rfl, (by show 0 < pr; omega), _, 7, rfl, rfl, ⟨by decide, by decide⟩, .int many, rfl, _, many, rfl, rfl, hm, ?_⟩
      refine q _ _ ?_ ⟨g, sd, m + 1, e2, hg, hs, by omega, by omega⟩ (Int.emod_nonneg _ (by omega)) (Int.emod_lt_of_pos _ hm)
      exact But.put.trans (But.new np)
end
end NG

namespace NG
open PySem PySem.Spec PyProof.Rows L2
section
variable {P : Program} {w : World} {K : PySem.W.Frag} {mg : Str → Option Value} {base : Heap}
theorem ok_hand {f : Addr} {fd : FuncData} (F : Fun K "_law_hand" "_law_hand" s_L_hand f fd) (gF : mg "_law_hand" = some (.ref f)) (b : Binds K fd ["_law_script", "_law_k"] []) (B : Bl mg) : Cal P w K mg base 1 "_law_hand" (spHand K) := by
  refine ⟨f, fd, _, F.ok sc_L_hand (fun vs H Q E h => ?_) (fun cdv A outer s H vs Q E hr h => ?_), gF, F.kp, b⟩
  · obtain ⟨a, m, n, rfl, _⟩ := h
    rfl
  · obtain ⟨a, k, ns, rfl, hk0, hk1, hS, q⟩ := h
    refine ⟨_, (pss_cons (ps_set (i := 2) sc_L_hand.nd rfl (.inl rfl) (pe_cut (pe_ifExp (pt_cmpR op_lt (pv 1) (pe_callB call_len_seq (by rfl) B.len PySem.boot_len (pa_cons (pv 0) pa_nil)) (nomark _)) (pe_ix ix_list (pv 0) (pv 1) (fun _ _ => rfl)) pe_int))) (pss_cons (ps_set (i := 3) sc_L_hand.nd rfl (.inl rfl) (pe_op op_mul (pe_op op_mod (pe_callB call_abs (by rfl) B.abs (by decide +kernel) (pa_cons (pv 2) pa_nil)) (pe_op op_mulW (pe_op op_pow pe_int pe_int) (pe_op op_pow pe_int pe_int))) (pe_callTy call_int1 (by rfl) B.int (by decide +kernel) (pa_cons (pe_cmpR op_ge (pe_callB call_abs (by rfl) B.abs (by decide +kernel) (pa_cons (pv 2) pa_nil)) (pe_op op_pow pe_int pe_int) (nomark _)) pa_nil)))) (pss_one (ps_ret (pe_lst (pa_cons (pv 3) (pa_cons (pe_op op_add (pe_op op_add (pe_op op_mod (pv 2) pe_int) (pe_op op_mul pe_int (pv 1))) pe_int) (pa_cons pe_int pa_nil)))))))), ?_⟩
    refine ⟨fun v H' => H' = H ∧ ∃ c : Int, v = .int c, ?_, fun v H' hv => ?_⟩
    · refine ⟨.int k, rfl, .ref a, rfl, a, _, rfl, .inl hS, k, _, rfl, rfl, _, rfl, iteD (fun c => ?_) (fun c => ?_)⟩
      · exact ⟨.ref a, rfl, .int k, rfl, a, _, k, _, rfl, rfl, hS, at_int hk0 (by rw [List.length_map] at c; exact c), rfl, _, rfl⟩
      · exact ⟨rfl, 0, rfl⟩
    · obtain ⟨rfl, c, rfl⟩ := hv
      refine ⟨.int c, rfl, c, rfl, 10, 60, rfl, rfl, ⟨by decide, by decide, by decide⟩, 10, 60, rfl, rfl, ⟨by decide, by decide, by decide⟩, _, _, rfl, rfl, wide_mul (a := 300) (b := 300) (by decide) (by decide) (by decide) (by decide) (by decide), _, _, rfl, rfl, (by show (0 : Int) < 10 ^ 60 * 10 ^ 60; decide), ?_⟩
      refine ⟨.int c, rfl, c, rfl, 10, 18, rfl, rfl, ⟨by decide, by decide, by decide⟩, _, _, rfl, rfl, .inr ⟨_, rfl, ?_⟩⟩
      have h01 : ∀ z : Bool, (0 : Int) ≤ (if z = true then 1 else 0) ∧ (if z = true then (1 : Int) else 0) ≤ 1 := by
        intro z
        cases z <;> decide
      refine ⟨_, _, rfl, rfl, .inr ⟨by have := h01 (decide ((10 : Int) ^ (18 : Int).toNat ≤ if c < 0 then -c else c)); omega, by have := h01 (decide ((10 : Int) ^ (18 : Int).toNat ≤ if c < 0 then -c else c)); omega⟩, ?_⟩
      refine ⟨_, rfl, .int c, rfl, c, 2305843009213693951, rfl, rfl, (by show (0 : Int) < 2305843009213693951; decide), .int k, rfl, 104729, k, rfl, rfl, .inl ⟨by decide, by decide⟩, _, _, rfl, rfl, _, 7, rfl, rfl, (by show 3 ≤ sizeLine; decide), fun p np => ?_⟩
      refine q p _ _ np (Int.mul_nonneg (Int.emod_nonneg _ (by show (10 : Int) ^ 60 * 10 ^ 60 ≠ 0; decide)) (h01 _).1) ?_
      have : 0 ≤ c % 2305843009213693951 := Int.emod_nonneg _ (by decide)
      omega
theorem ok_of {f : Addr} {fd : FuncData} (F : Fun K "_law_of" "_law_of" s_L_of f fd) (gF : mg "_law_of" = some (.ref f)) (b : Binds K fd ["_law_hand_here", "_law_some"] []) (B : Bl mg) (c_L_take : Cal P w K mg base 1 "_law_take" spTake) : Cal P w K mg base 2 "_law_of" (spOf K) := by
  refine ⟨f, fd, _, F.ok sc_L_of (fun vs H Q E h => ?_) (fun cdv A outer s H vs Q E hr h => ?_), gF, F.kp, b⟩
  · obtain ⟨a, m, n, _, rfl, _⟩ := h
    rfl
  · obtain ⟨a, l, xs, n, rfl, hal, hl, h0, h1, hh, hn, q⟩ := h
    refine ⟨_, (pss_one (ps_ret (pe_ix ix_list (pv 1) (pe_c c_L_take hr (by omega) (by rfl) (pa_cons (pv 0) (pa_cons (pe_callB call_len_seq (by rfl) B.len PySem.boot_len (pa_cons (pv 1) pa_nil)) pa_nil))) (fun _ _ => rfl)))), ?_⟩
    refine ⟨.ref l, rfl, .ref a, rfl, .ref l, rfl, l, _, rfl, .inl (SqL.of hl), ?_⟩
    refine ⟨a, _, n, rfl, by omega, by omega, hh, hn, fun H' r bt hh' r0 r1 => ?_⟩
    have hl' : H' l = some (.lst xs) := bt _ _ (Ne.symm hal) hl
    obtain ⟨v, hv, hm⟩ := at_mem (xs := xs) r0 r1
    exact ⟨l, _, r, v, rfl, rfl, SqL.of hl', hv, q _ _ bt hh' hm⟩
end
end NG

namespace NG
open PySem PySem.Spec PyProof.Rows L2
/-! ### shares of anything -/
def natD : PyData → Bool
  | .int i => decide (0 ≤ i)
  | _ => false
def intD : PyData → Int
  | .int i => i
  | _ => 0
def shD (many : Int) : PyData → Bool
  | .tuple ds => decide ((ds.length : Int) = many) && (ds.all natD && decide (gl (ds.map intD) = 1))
  | _ => false
theorem natD_int {d : PyData} (h : natD d = true) : ∃ i, d = .int i ∧ 0 ≤ i := by
  cases d with
  | int i => exact ⟨i, rfl, of_decide_eq_true h⟩
  | _ => cases h
theorem all_nat {K : PySem.W.Frag} {H : Hp} : ∀ {ds : List PyData} {xs : List V}, DqAll K H xs ds → ds.all natD = true → xs = (ds.map intD).map V.int ∧ ∀ x ∈ ds.map intD, 0 ≤ x
  | [], _, .nil, _ => ⟨rfl, fun x h => by cases h⟩
  | d :: ds, _, .cons a b, h => by
    rw [List.all_cons, Bool.and_eq_true] at h
    obtain ⟨i, rfl, hi⟩ := natD_int h.1
    cases a
    obtain ⟨e, hb⟩ := all_nat b h.2
    refine ⟨by rw [e]; rfl, fun x hx => ?_⟩
    rw [List.map_cons] at hx
    rcases List.mem_cons.mp hx with rfl | hx
    · exact hi
    · exact hb x hx
theorem natD_not {K : PySem.W.Frag} {H : Hp} {d : PyData} {v : V} (h : Dq K H v d) : natD d = (isInt d && match v with | .int i => decide (0 ≤ i) | _ => false) := by
  cases h <;> rfl
def spIsNumQ (K : PySem.W.Frag) : Sp := fun vs H Q _ => ∃ (v : V) (d : PyData), vs = [v] ∧ Dq K H v d ∧ Q (.bl (isInt d)) H
def spIsSh (K : PySem.W.Frag) : Sp := fun vs H Q _ => ∃ (v : V) (many : Int) (d : PyData), vs = [v, .int many] ∧ Dq K H v d ∧ ∀ H', Same H H' → Q (.bl (shD many d)) H'
def spMillsW (K : PySem.W.Frag) : Sp := fun vs H Q _ => ∃ (p : Addr) (j : Nat) (ss : List Int), vs = [.ref p, .int (j : Int)] ∧ SqT K H p (ss.map V.int) ∧ j < ss.length ∧ (∀ x ∈ ss, x.natAbs < 2 ^ 200) ∧ 0 < ss.sum ∧ ss.sum < 2 ^ 200 ∧ Q (.int (1000 * ss.getD j 0 / ss.sum)) H
section
variable {P : Program} {w : World} {K : PySem.W.Frag} {mg : Str → Option Value} {base : Heap}
theorem ok_isnumQ {f : Addr} {fd : FuncData} (F : Fun K "is_number" "is_number" s_is_number f fd) (gF : mg "is_number" = some (.ref f)) (b : Binds K fd ["thing"] []) (B : Bl mg) (n_bool : mg "bool" = none) : Cal P w K mg base 1 "is_number" (spIsNumQ K) := by
  refine ⟨f, fd, _, F.ok sc_is_number (fun vs H Q E h => ?_) (fun cdv A outer s H vs Q E hr h => ?_), gF, F.kp, b⟩
  · obtain ⟨_, _, rfl, _⟩ := h
    rfl
  · obtain ⟨v, d, rfl, hd, q⟩ := h
    refine ⟨_, (pss_one (ps_ret (pe_and (pe_callB call_isi (by rfl) B.isinstance (by decide +kernel) (pa_cons (pv 0) (pa_cons (pe_bltn (v := .ty "int") (by rfl) B.int (by decide +kernel) rfl) pa_nil))) (pe_one (pe_not (pe_callB call_isi (by rfl) B.isinstance (by decide +kernel) (pa_cons (pv 0) (pa_cons (pe_bltn (v := .ty "bool") (by rfl) n_bool (by decide +kernel) rfl) pa_nil)))))))), ?_⟩
    refine ⟨v, rfl, v, .ty "int", _, _, _, rfl, .ty _, Dq.tyx hd, kit_ty (kit_int d), _, rfl, ?_⟩
    rw [← isInt_eq d] at q
    cases hk : kI d with
    | false =>
      rw [hk] at q
      exact iteFF rfl q
    | true =>
      rw [hk] at q
      exact iteTT rfl ⟨v, rfl, v, .ty "bool", _, _, _, rfl, .ty _, Dq.tyx hd, kit_ty (kit_bool d), _, rfl, q⟩
theorem ok_common {f : Addr} {fd : FuncData} (F : Fun K "common_part" "common_part" s_common_part f fd) (gF : mg "common_part" = some (.ref f)) (b : Binds K fd ["row"] []) (B : Bl mg) : Cal P w K mg base 1 "common_part" (spCommon K) := by
  refine ⟨f, fd, _, F.ok sc_common_part (fun vs H Q E h => ?_) (fun cdv A outer s H vs Q E hr h => ?_), gF, F.kp, b⟩
  · obtain ⟨_, _, rfl, _⟩ := h
    rfl
  · obtain ⟨p, ns, rfl, hp, hb, q⟩ := h
    refine ⟨_, (pss_cons (ps_set (i := 1) sc_common_part.nd rfl (.inl rfl) pe_int) (pss_cons (ps_for PassesOwn.never rfl (pi_tup (pv 0)) (pg_name (i := 2) sc_common_part.nd rfl (.inl rfl)) (pss_cons (ps_set (i := 3) sc_common_part.nd rfl (.inl rfl) (pv 2)) (pss_one (ps_while PassesOwn.never (pt_truth (pv 3) (by intro _; rfl)) (pss_one (ps_par (i := 1) (j := 3) rfl sc_common_part.nd rfl rfl (by decide) rfl rfl (pa_cons (pv 3) (pa_cons (pe_op op_mod (pv 1) (pv 3)) pa_nil)) (by rfl))))))) (pss_one (ps_ret (pv 1))))), ?_⟩
    refine ⟨.ref p, rfl, p, rfl, ⟨_, hp⟩, for_tup (xs := ns.map V.int) (fun i σ H' => ∃ y2 y3, σ = [some (.ref p), some (.int (gl (ns.take i) : Int)), y2, y3] ∧ Same H H') ⟨none, none, rfl, Same.refl _⟩ ?_ ?_ ?_⟩
    · rintro i σ H' hi ⟨y2, y3, rfl, sm⟩
      exact same_sqt sm hp
    · rintro i x σ H' hx ⟨y2, y3, rfl, sm⟩
      rw [List.getElem?_map] at hx
      cases hn : ns[i]? with
      | none => rw [hn] at hx; cases hx
      | some z =>
        rw [hn] at hx
        have ex : V.int z = x := Option.some.inj hx
        subst ex
        have hz := hb z (List.mem_of_getElem? hn)
        refine ⟨.int z, rfl, ?_⟩
        refine ⟨fun m σ H' => ∃ u : Nat, σ = [some (.ref p), some (.int (u : Int)), some (.int z), some (.int (m : Int))] ∧ Nat.gcd u m = gl (ns.take (i + 1)) ∧ Same H H', ⟨z.toNat, gl (ns.take i), ?_, (gl_step hn).symm, sm⟩, ?_⟩
        · show [some (.ref p), some (.int _), some (.int z), some (.int z)] = [some (V.ref p), _, _, _]
          rw [Int.toNat_of_nonneg hz]
        · rintro m σ H' ⟨u, rfl, hg, sm⟩
          refine ⟨.int (m : Int), rfl, ?_⟩
          by_cases h0 : m = 0
          · subst h0
            refine ⟨false, rfl, iteFF rfl ?_⟩
            rw [Nat.gcd_zero_right] at hg
            rw [hg]
            exact ⟨_, _, rfl, sm⟩
          · refine ⟨true, (by show true = ((m : Int) != 0); simp; omega), iteTT rfl ?_⟩
            refine ⟨fun σ' H' => ∃ u : Nat, σ' = [some (.ref p), some (.int (m : Int)), some (.int z), some (.int ((u % m : Nat) : Int))] ∧ Nat.gcd u m = gl (ns.take (i + 1)) ∧ Same H H', ?_, ?_⟩
            · rintro σ' H' ⟨u, rfl, hg, sm⟩
              exact ⟨u % m, Nat.mod_lt _ (by omega), m, rfl, by rw [gcd_turn]; exact hg, sm⟩
            · exact ⟨.int (m : Int), rfl, .int (u : Int), rfl, .int (m : Int), rfl, u, m, rfl, rfl, (by show (0 : Int) < m; omega), _, _, rfl, u, rfl, hg, sm⟩
    · rintro σ H1 ⟨y2, y3, rfl, sm⟩
      rw [List.length_map, List.take_length]
      exact ⟨_, rfl, q _ sm⟩
theorem fn_lowest {f : Addr} {fd : FuncData} (F : Fun K "lowest" "lowest" s_lowest f fd) (B : Bl mg) (c_common_part : Cal P w K mg base 1 "common_part" (spCommon K)) : FnOk P w K mg base CX0 2 f fd ["row"] (spLowest K) := by
  refine F.ok sc_lowest (fun vs H Q E h => ?_) (fun cdv A outer s H vs Q E hr h => ?_)
  · obtain ⟨_, _, _, rfl, _⟩ := h
    rfl
  · obtain ⟨p, ns, y, rfl, hp, hb, hy, py, hyb, hl, q⟩ := h
    refine ⟨_, (pss_cons (ps_set (i := 1) sc_lowest.nd rfl (.inr rfl) (pe_c c_common_part hr (by omega) (by rfl) (pa_cons (pv 0) pa_nil))) (pss_one (ps_ret (pe_tupleOf (by rfl) B.tuple (pe_lc (own := [("number", 2)]) rfl sc_lowest.nd (pi_tup (pv 0)) (blkOk_by (N := N_lowest) (sc := defScope s_lowest) (by decide +kernel)) (fun _ _ _ _ _ => pg_name (i := 2) sc_lowest.nd rfl (.inl rfl)) (fun _ _ _ _ _ => pts_nil) (fun _ _ _ _ _ => pe_op op_fdivW (pv 2) (pv 1))))))), ?_⟩
    refine ⟨.ref p, rfl, p, ns, rfl, hp, hb, fun H1 sm1 => ?_⟩
    have hg := gl_pos hy py
    have hp1 := same_sqt sm1 hp
    have hgb : ((gl ns : Nat) : Int).natAbs < 2 ^ 8000 := by
      have := Nat.le_of_dvd (by omega) (gl_dvd hy)
      rw [Int.natAbs_natCast]
      exact Nat.lt_of_le_of_lt this (Nat.lt_of_le_of_lt (by omega) hyb)
    refine ⟨.ref p, rfl, p, rfl, ⟨_, hp1⟩, fun D nD => lc_tup (xs := ns.map V.int) (fun i H' => Same H1 H' ∧ H' D = some (.lst (((low ns).take i).map V.int))) ⟨same_new nD, upd_same⟩ (fun i H' _ h => same_sqt h.1 hp1) ?_ ?_⟩
    · rintro i x H' hx ⟨sm', hD⟩
      rw [List.getElem?_map] at hx
      cases hn : ns[i]? with
      | none => rw [hn] at hx; cases hx
      | some z =>
        rw [hn] at hx
        have ex : V.int z = x := Option.some.inj hx
        subst ex
        refine ⟨rfl, tYes_in ?_⟩
        refine ⟨.int z, rfl, .int (gl ns : Int), rfl, z, (gl ns : Int), rfl, rfl, wide_div (b := 8000) (by omega) hgb (by decide) (by decide), _, hD, ?_, ?_, ?_⟩
        · rw [List.length_map, List.length_take]
          have : (low ns).length = ns.length := by unfold low; rw [List.length_map]
          exact small1000 (by omega)
        · exact fun b' o e => by
            rw [upd_ne (ne_of_none e nD)]
            exact sm' _ _ e
        · rw [upd_same, List.take_add_one, show (low ns)[i]? = some (z / (gl ns : Int)) by unfold low; rw [List.getElem?_map, hn]; rfl, List.map_append]
          rfl
    · rintro H' ⟨sm', hD⟩
      rw [List.length_map, List.take_of_length_le (by unfold low; rw [List.length_map]; exact Nat.le_refl _)] at hD
      refine .inl ⟨D, _, rfl, SqL.of hD, fun t nt => ?_⟩
      exact q _ t ((sm1.trans sm').trans (same_new nt)) (SqT.of upd_same)
theorem fn_mills {f : Addr} {fd : FuncData} (F : Fun K "mills" "mills" s_mills f fd) (B : Bl mg) : FnOk P w K mg base CX0 1 f fd ["shares", "sign"] (spMillsW K) := by
  refine F.ok sc_mills (fun vs H Q E h => ?_) (fun cdv A outer s H vs Q E hr h => ?_)
  · obtain ⟨_, _, _, rfl, _⟩ := h
    rfl
  · obtain ⟨p, j, ss, rfl, hs, hj, hx, h0, h1, q⟩ := h
    refine ⟨_, (pss_one (ps_ret (pe_op op_fdivW (pe_op op_mulW pe_int (pe_ix ix_tup (pv 0) (pv 1) (fun _ _ => rfl))) (pe_callB (cr_sumT rfl) (by rfl) B.sum (by decide +kernel) (pa_cons (pv 0) pa_nil))))), ?_⟩
    refine ⟨.ref p, rfl, .int (j : Int), rfl, p, _, _, _, rfl, rfl, hs, at_nth (by omega), 1000, _, rfl, rfl, wide_mul (a := 10) (b := 200) (by decide) (hx _ (getD_mem hj)) (by decide) (by decide) (by decide), .ref p, rfl, p, ss, rfl, hs, _, _, rfl, rfl, wide_div (b := 200) h0 (by omega) (by decide) (by decide), q⟩
theorem fn_isshares {f : Addr} {fd : FuncData} (F : Fun K "is_shares" "is_shares" s_is_shares f fd) (B : Bl mg) (c_is_number : Cal P w K mg base 1 "is_number" (spIsNumQ K)) (c_common_part : Cal P w K mg base 1 "common_part" (spCommon K)) : FnOk P w K mg base CX0 2 f fd ["thing", "many"] (spIsSh K) := by
  refine F.ok sc_is_shares (fun vs H Q E h => ?_) (fun cdv A outer s H vs Q E hr h => ?_)
  · obtain ⟨_, _, _, rfl, _⟩ := h
    rfl
  · obtain ⟨v, many, d, rfl, hd, q⟩ := h
    refine ⟨_, (pss_cons (ps_if (PW.pt (pw_or (pt_not (pt_val (pe_callB call_isi (by rfl) B.isinstance (by decide +kernel) (pa_cons (pv 0) (pa_cons (pe_bltn (v := .ty "tuple") (by rfl) B.tuple (by decide +kernel) rfl) pa_nil))))) (pw_or1 (pt_cmpR op_ne (pe_callB call_len_seq (by rfl) B.len PySem.boot_len (pa_cons (pv 0) pa_nil)) (pv 1) (nomark _))))) (pss_one (ps_ret pe_bl)) pss_nil) (pss_cons (ps_for PassesOwn.never rfl (pi_tup (pv 0)) (pg_name (i := 2) sc_is_shares.nd rfl (.inl rfl)) (pss_one (ps_if (PW.pt (pw_or (pt_not (pt_val (pe_c c_is_number hr (by omega) (by rfl) (pa_cons (pv 2) pa_nil)))) (pw_or1 (pt_cmpR op_lt (pv 2) pe_int (nomark _))))) (pss_one (ps_ret pe_bl)) pss_nil))) (pss_one (ps_ret (pe_cmpR op_eq (pe_c c_common_part hr (by omega) (by rfl) (pa_cons (pv 0) pa_nil)) pe_int (nomark _)))))), ?_⟩
    cases hkt : kT d with
    | false =>
      have h2 : shD many d = false := by
        cases d <;> first | rfl | cases hkt
      refine ⟨v, rfl, v, .ty "tuple", _, _, false, rfl, .ty _, Dq.tyx hd, kit_ty (by rw [kit_tup, hkt]), _, rfl, iteTT rfl ?_⟩
      have q := q H (Same.refl _)
      rw [h2] at q
      exact q
    | true =>
      cases hd with
      | tup hs ha =>
        rename_i p xs ds
        have hlx := dqall_len ha
        refine ⟨.ref p, rfl, .ref p, .ty "tuple", _, _, true, rfl, .ty _, tyx_tup hs, kit_ty (show kitB "tuple" "tuple" = some true by decide +kernel), true, rfl, iteFF rfl ?_⟩
        refine ⟨.ref p, rfl, p, _, rfl, .inr hs, .int many, rfl, rfl, _, rfl, ?_⟩
        have sh0 : shD many (.tuple ds) = (decide ((ds.length : Int) = many) && (ds.all natD && decide (gl (ds.map intD) = 1))) := rfl
        by_cases c : (ds.length : Int) = many
        · refine iteFF (by rw [hlx, c]; simp) ?_
          refine ⟨.ref p, rfl, p, rfl, ⟨_, hs⟩, for_tup (xs := xs) (fun i σ H' => ∃ y, σ = [some (.ref p), some (.int many), y] ∧ H' = H ∧ (ds.take i).all natD = true) ⟨none, rfl, rfl, rfl⟩ ?_ ?_ ?_⟩
          · rintro i σ H' hi ⟨y, rfl, rfl, _⟩
            exact hs
          · rintro i x σ H' hx ⟨y, rfl, rfl, hall⟩
            obtain ⟨dd, hdd, hdp⟩ := dqall_get ha hx
            refine ⟨x, rfl, x, dd, rfl, hdp, _, rfl, ?_⟩
            have bad : natD dd = false → Q (.bl false) H' := fun h => by
              have q := q H' (Same.refl _)
              have h2 : ds.all natD = false := by
                rw [Bool.eq_false_iff]
                intro h3
                rw [List.all_eq_true] at h3
                rw [h3 dd (List.mem_of_getElem? hdd)] at h
                cases h
              rw [sh0, h2, Bool.false_and, Bool.and_false] at q
              exact q
            have good : natD dd = true → ∃ y, ([some (.ref p), some (.int many), some x] : L2.St) = [some (.ref p), some (.int many), y] ∧ H' = H' ∧ (ds.take (i + 1)).all natD = true := fun h => by
              refine ⟨some x, rfl, rfl, ?_⟩
              rw [List.take_add_one, hdd, List.all_append, hall]
              simp [h]
            cases hdp with
            | int z =>
              refine iteFF rfl ⟨.int z, rfl, _, _, rfl, rfl, _, rfl, ?_⟩
              by_cases cz : z < 0
              · exact iteTT (decide_eq_true cz) (bad (decide_eq_false (by omega)))
              · exact iteFF (decide_eq_false cz) (good (decide_eq_true (by omega)))
            | non => exact iteTT rfl (bad rfl)
            | bl _ => exact iteTT rfl (bad rfl)
            | str _ => exact iteTT rfl (bad rfl)
            | lst _ _ => exact iteTT rfl (bad rfl)
            | tup _ _ => exact iteTT rfl (bad rfl)
            | dic _ => exact iteTT rfl (bad rfl)
          · rintro σ H1 ⟨y, rfl, rfl, hall⟩
            rw [hlx, List.take_length] at hall
            obtain ⟨e, hb⟩ := all_nat ha hall
            refine ⟨.ref p, rfl, p, _, rfl, by rw [← e]; exact hs, hb, fun H2 sm => ?_⟩
            have q := q H2 sm
            rw [sh0, decide_eq_true c, hall, Bool.true_and, Bool.true_and] at q
            have key : ∀ b : Bool, b = decide (gl (ds.map intD) = 1) → Q (.bl b) H2 := fun b h => by rw [h]; exact q
            refine ⟨rfl, key _ ?_⟩
            by_cases c1 : gl (ds.map intD) = 1
            · rw [c1]; rfl
            · rw [decide_eq_false c1]
              refine decide_eq_false fun z => ?_
              have := V.int.inj z
              omega
        · refine iteTT (by rw [hlx]; simp [c]) ?_
          have q := q H (Same.refl _)
          rw [sh0, decide_eq_false c] at q
          exact q
      | _ => cases hkt
end
end NG

namespace NG
open PySem PySem.Spec PyProof.Rows L2
theorem none_of {H H' : Hp} {p : Addr} (s : Same H H') (h : H' p = none) : H p = none := by
  cases e : H p with
  | none => rfl
  | some o => rw [s _ _ e] at h; cases h
abbrev RowsT (H : Hp) : List Addr → List (List Int) → Prop := Paired fun p r => H p = some (.tup (r.map V.int))
theorem RowsT.same {H H' : Hp} (s : Same H H') : ∀ {ps : List Addr} {rs : List (List Int)}, RowsT H ps rs → RowsT H' ps rs
  | _, _, .nil => .nil
  | _, _, .cons h t => .cons (s _ _ h) (RowsT.same s t)
theorem RowsT.len {H : Hp} : ∀ {ps : List Addr} {rs : List (List Int)}, RowsT H ps rs → ps.length = rs.length
  | _, _, .nil => rfl
  | _, _, .cons h t => by rw [List.length_cons, List.length_cons, RowsT.len t]
theorem RowsT.app {H : Hp} {qs : List Addr} {ss : List (List Int)} (h2 : RowsT H qs ss) : ∀ {ps : List Addr} {rs : List (List Int)}, RowsT H ps rs → RowsT H (ps ++ qs) (rs ++ ss)
  | _, _, .nil => h2
  | _, _, .cons h t => .cons h (RowsT.app h2 t)
theorem RowsT.get {H : Hp} : ∀ {ps : List Addr} {rs : List (List Int)} {i : Nat} {p : Addr}, RowsT H ps rs → ps[i]? = some p → ∃ r, rs[i]? = some r ∧ H p = some (.tup (r.map V.int))
  | _, _, i, p, .nil, h => by simp at h
  | _, _, 0, p, .cons h t, e => by
    have := Option.some.inj e
    subst this
    exact ⟨_, rfl, h⟩
  | _, _, i + 1, p, .cons h t, e => RowsT.get (i := i) t e
theorem RowsT.put {H : Hp} {l : Addr} {xs : List V} {o : HO} (h : H l = some (.lst xs)) {ps : List Addr} {rs : List (List Int)} (r : RowsT H ps rs) : RowsT (upd H l o) ps rs := by
  induction r with
  | nil => exact .nil
  | cons e t ih => exact .cons ((upd_ne (ne_of e h (by intro z; cases z))).trans e) ih
def spRowsT (K : PySem.W.Frag) (m : Nat) : Sp := fun vs H Q _ => ∃ (n t : Nat), vs = [.int (n : Int), .int (t : Int)] ∧ 1 ≤ n ∧ n ≤ 3 ∧ n < m ∧ t ≤ 60 ∧ ∀ H' l ps, Same H H' → H l = none → H' l = some (.lst (ps.map V.ref)) → RowsT H' ps (rowsL n t) → Q (.ref l) H'
def spLow2 (K : PySem.W.Frag) : Sp := fun vs H Q _ => ∃ (p : Addr) (ns : List Int) (y : Int), vs = [.ref p] ∧ SqT K H p (ns.map V.int) ∧ (∀ x ∈ ns, 0 ≤ x) ∧ y ∈ ns ∧ 0 < y ∧ y.natAbs < 2 ^ 8000 ∧ ns.length ≤ 100 ∧ ∀ H' t, Same H H' → H t = none → H' t = some (.tup ((low ns).map V.int)) → Q (.ref t) H'
def spMR (K : PySem.W.Frag) : Sp := fun vs H Q _ => ∃ (p : Addr) (ss : List Int), vs = [.ref p] ∧ SqT K H p (ss.map V.int) ∧ (∀ x ∈ ss, 0 ≤ x ∧ x ≤ 60) ∧ 0 < ss.sum ∧ ss.sum ≤ 60 ∧ ss.length ≤ 3 ∧ okM ss = true ∧ ∀ H', Same H H' → Q (.bl true) H'
section
variable {P : Program} {w : World} {K : PySem.W.Frag} {mg : Str → Option Value} {base : Heap}
theorem fn_low2 {f : Addr} {fd : FuncData} (F : Fun K "lowest" "lowest" s_lowest f fd) (B : Bl mg) (c_common_part : Cal P w K mg base 1 "common_part" (spCommon K)) : FnOk P w K mg base CX0 2 f fd ["row"] (spLow2 K) := by
  refine F.ok sc_lowest (fun vs H Q E h => ?_) (fun cdv A outer s H vs Q E hr h => ?_)
  · obtain ⟨_, _, _, rfl, _⟩ := h
    rfl
  · obtain ⟨p, ns, y, rfl, hp, hb, hy, py, hyb, hl, q⟩ := h
    refine ⟨_, (pss_cons (ps_set (i := 1) sc_lowest.nd rfl (.inr rfl) (pe_c c_common_part hr (by omega) (by rfl) (pa_cons (pv 0) pa_nil))) (pss_one (ps_ret (pe_tupleOf (by rfl) B.tuple (pe_lc (own := [("number", 2)]) rfl sc_lowest.nd (pi_tup (pv 0)) (blkOk_by (N := N_lowest) (sc := defScope s_lowest) (by decide +kernel)) (fun _ _ _ _ _ => pg_name (i := 2) sc_lowest.nd rfl (.inl rfl)) (fun _ _ _ _ _ => pts_nil) (fun _ _ _ _ _ => pe_op op_fdivW (pv 2) (pv 1))))))), ?_⟩
    refine ⟨.ref p, rfl, p, ns, rfl, hp, hb, fun H1 sm1 => ?_⟩
    have hg := gl_pos hy py
    have hp1 := same_sqt sm1 hp
    have hgb : ((gl ns : Nat) : Int).natAbs < 2 ^ 8000 := by
      have := Nat.le_of_dvd (by omega) (gl_dvd hy)
      rw [Int.natAbs_natCast]
      exact Nat.lt_of_le_of_lt this (Nat.lt_of_le_of_lt (by omega) hyb)
    refine ⟨.ref p, rfl, p, rfl, ⟨_, hp1⟩, fun D nD => lc_tup (xs := ns.map V.int) (fun i H' => Same H1 H' ∧ H' D = some (.lst (((low ns).take i).map V.int))) ⟨same_new nD, upd_same⟩ (fun i H' _ h => same_sqt h.1 hp1) ?_ ?_⟩
    · rintro i x H' hx ⟨sm', hD⟩
      rw [List.getElem?_map] at hx
      cases hn : ns[i]? with
      | none => rw [hn] at hx; cases hx
      | some z =>
        rw [hn] at hx
        have ex : V.int z = x := Option.some.inj hx
        subst ex
        refine ⟨rfl, tYes_in ?_⟩
        refine ⟨.int z, rfl, .int (gl ns : Int), rfl, z, (gl ns : Int), rfl, rfl, wide_div (b := 8000) (by omega) hgb (by decide) (by decide), _, hD, ?_, ?_, ?_⟩
        · rw [List.length_map, List.length_take]
          have : (low ns).length = ns.length := by unfold low; rw [List.length_map]
          exact small1000 (by omega)
        · exact fun b' o e => by
            rw [upd_ne (ne_of_none e nD)]
            exact sm' _ _ e
        · rw [upd_same, List.take_add_one, show (low ns)[i]? = some (z / (gl ns : Int)) by unfold low; rw [List.getElem?_map, hn]; rfl, List.map_append]
          rfl
    · rintro H' ⟨sm', hD⟩
      rw [List.length_map, List.take_of_length_le (by unfold low; rw [List.length_map]; exact Nat.le_refl _)] at hD
      refine .inl ⟨D, _, rfl, SqL.of hD, fun t nt => ?_⟩
      exact q _ t ((sm1.trans sm').trans (same_new nt)) (none_of (sm1.trans sm') nt) upd_same
theorem ok_rows {f : Addr} {fd : FuncData} (F : Fun K "_law_rows" "_law_rows" s_L_rows f fd) (gF : mg "_law_rows" = some (.ref f)) (b : Binds K fd ["_law_many", "_law_total"] []) (B : Bl mg) : ∀ m, Cal P w K mg base m "_law_rows" (spRowsT K m)
  | 0 => cal_never F gF b fun vs H Q E => by rintro ⟨_, _, _, _, _, h, _⟩; omega
  | m + 1 => by
    have c_L_rows := ok_rows F gF b B m
    refine ⟨f, fd, _, F.ok sc_L_rows (fun vs H Q E h => ?_) (fun cdv A outer s H vs Q E hr h => ?_), gF, F.kp, b⟩
    · obtain ⟨_, _, rfl, _⟩ := h
      rfl
    · obtain ⟨n, t, rfl, h1, h3, hm, ht, q⟩ := h
      refine ⟨_, (pss_cons (ps_if (pt_cmpR op_eq (pv 0) pe_int (nomark _)) (pss_one (ps_ret (pe_lst (pa_cons (pe_tup (pa_cons (pv 1) pa_nil)) pa_nil)))) pss_nil) (pss_cons (ps_set (i := 2) sc_L_rows.nd rfl (.inl rfl) (pe_lst pa_nil)) (pss_cons (ps_for PassesOwn.never rfl (pi_range1 rfl B.range (pa_cons (pe_op op_add (pv 1) pe_int) pa_nil)) (pg_name (i := 3) sc_L_rows.nd rfl (.inr rfl)) (pss_one (ps_expr (pe_bm PySem.F.plainAttrs_list PySem.F.slot_list_extend PySem.F.type_list_extend mt_extend (pv 2) (pa_cons (pe_lc (own := [("_law_rest", 4)]) rfl sc_L_rows.nd (pi_list (pe_c c_L_rows hr (by omega) (by rfl) (pa_cons (pe_op op_sub (pv 0) pe_int) (pa_cons (pe_op op_sub (pv 1) (pv 3)) pa_nil)))) (blkOk_by (N := N_L_rows) (sc := defScope s_L_rows) (by decide +kernel)) (fun _ _ _ _ _ => pg_name (i := 4) sc_L_rows.nd rfl (.inl rfl)) (fun _ _ _ _ _ => pts_nil) (fun _ _ _ _ _ => pe_op (catTK K) (pe_tup (pa_cons (pv 3) pa_nil)) (pv 4))) pa_nil))))) (pss_one (ps_ret (pv 2)))))), ?_⟩
      match n, h1 with
      | 1, _ =>
        refine ⟨_, rfl, rfl, _, rfl, iteTT rfl ?_⟩
        refine ⟨_, rfl, (by show 1 ≤ sizeLine; decide), fun p np => ⟨(by show 1 ≤ sizeLine; decide), fun l nl => ?_⟩⟩
        exact q _ l [p] ((same_new np).trans (same_new nl)) (none_of (same_new np) nl) upd_same (.cons (same_new nl _ _ upd_same) .nil)
      | n + 2, _ =>
        refine ⟨_, rfl, rfl, _, rfl, iteFF (decide_eq_false fun e => by have := V.int.inj e; omega) ?_⟩
        refine ⟨(by show 0 ≤ sizeLine; decide), fun l nl => ⟨_, rfl, _, _, rfl, rfl, _, rfl, by omega, by omega, ?_⟩⟩
        have ev : ∀ i : Nat, ((List.range (i + 1)).flatMap fun f => (rowsL (n + 1) (t - f)).map fun r => (f : Int) :: r) = ((List.range i).flatMap fun f => (rowsL (n + 1) (t - f)).map fun r => (f : Int) :: r) ++ (rowsL (n + 1) (t - i)).map fun r => (i : Int) :: r := fun i => by
          rw [List.range_succ, List.flatMap_append, List.flatMap_cons, List.flatMap_nil, List.append_nil]
        have big : ∀ i : Nat, i ≤ t → (rowsL (n + 1) (t - i)).length ≤ 61 := fun i hi => by
          have := rowsL_size (n := n + 1) (t := t - i) (by omega)
          exact Nat.le_trans this (Nat.pow_le_pow_right (n := 61) (j := 1) (by decide) (by omega))
        have big2 : ∀ i : Nat, i ≤ t + 1 → ((List.range i).flatMap fun f => (rowsL (n + 1) (t - f)).map fun r => (f : Int) :: r).length ≤ 61 * 61 := fun i hi => by
          have := flatMap_len_le (fun f => (rowsL (n + 1) (t - f)).map fun r => (f : Int) :: r) 61 (l := List.range i) fun f hf => by
            rw [List.length_map]
            have := List.mem_range.mp hf
            exact big f (by omega)
          rw [List.length_range] at this
          exact Nat.le_trans this (Nat.mul_le_mul_right _ (by omega))
        refine for_range (fun i σ H' => ∃ (ps : List Addr) (y3 : Option V), σ = [some (.int ((n + 2 : Nat) : Int)), some (.int (t : Int)), some (.ref l), y3, none] ∧ Same H H' ∧ H' l = some (.lst (ps.map V.ref)) ∧ RowsT H' ps ((List.range i).flatMap fun f => (rowsL (n + 1) (t - f)).map fun r => (f : Int) :: r)) ⟨[], none, rfl, same_new nl, upd_same, .nil⟩ ?_ ?_
        · rintro i σ H1 hi ⟨ps, y3, rfl, s1, hl, hp⟩
          have hit : i ≤ t := by omega
          refine ⟨.ref l, rfl, .inl ⟨rfl, _, SqL.of hl⟩, ?_⟩
          refine ⟨.int ((n + 2 : Nat) : Int), rfl, _, _, rfl, rfl, .int (t : Int), rfl, _, rfl, _, _, rfl, rfl, n + 1, t - i, ?_, by omega, by omega, by omega, by omega, fun H2 l2 qs s2 nl2 hl2 hq => ?_⟩
          · show [V.int (((n + 2 : Nat) : Int) - 1), V.int ((t : Int) - (0 + (i : Int)))] = [V.int ((n + 1 : Nat) : Int), V.int ((t - i : Nat) : Int)]
            rw [show ((n + 2 : Nat) : Int) - 1 = ((n + 1 : Nat) : Int) by omega, show (t : Int) - (0 + (i : Int)) = ((t - i : Nat) : Int) by omega]
          refine ⟨l2, rfl, ⟨_, SqL.of hl2⟩, fun D nD => lc_list (xs := qs.map V.ref) (fun j H' => Same H2 H' ∧ ∃ us, H' D = some (.lst (us.map V.ref)) ∧ RowsT H' us (((rowsL (n + 1) (t - i)).take j).map fun r => (i : Int) :: r)) ⟨same_new nD, [], upd_same, .nil⟩ (fun j H' _ h => SqL.of (h.1 _ _ hl2)) ?_ ?_⟩
          · rintro j x H3 hx ⟨s3, us, hD, hu⟩
            rw [List.getElem?_map] at hx
            obtain ⟨p, hpj, rfl⟩ := Option.map_eq_some_iff.mp hx
            obtain ⟨r, hr, hpr⟩ := hq.get hpj
            have hpr3 := s3 _ _ hpr
            have hrl := rowsL_len (List.mem_of_getElem? hr)
            have hj : j < (rowsL (n + 1) (t - i)).length := (List.getElem?_eq_some_iff.mp hr).1
            have hb := big i hit
            refine ⟨rfl, tYes_in ?_⟩
            refine ⟨_, rfl, (by show 1 ≤ sizeLine; decide), fun a na => ⟨.ref p, rfl, a, p, [.int (0 + (i : Int))], r.map V.int, rfl, rfl, SqT.of upd_same, SqT.of (same_new na _ _ hpr3), by simp, by rw [List.length_map, hrl]; show 1 + (n + 1) ≤ sizeLine; rw [sizeLine_eq]; omega, fun e => ?_, fun _ c nc => ?_⟩⟩
            · have := congrArg List.length e
              rw [List.length_map, hrl] at this
              exact absurd this (by simp)
            · have s4 : Same H3 (upd (upd H3 a (.tup [.int (0 + (i : Int))])) c (.tup ([.int (0 + (i : Int))] ++ r.map V.int))) := (same_new na).trans (same_new nc)
              have hc : (upd (upd H3 a (.tup [.int (0 + (i : Int))])) c (.tup ([.int (0 + (i : Int))] ++ r.map V.int))) c = some (.tup (((i : Int) :: r).map V.int)) := by
                rw [upd_same, Int.zero_add]
                rfl
              generalize upd (upd H3 a (.tup [.int (0 + (i : Int))])) c (.tup ([.int (0 + (i : Int))] ++ r.map V.int)) = H4 at s4 hc ⊢
              have hD4 := s4 _ _ hD
              have lu := hu.len
              rw [List.length_map, List.length_take] at lu
              refine ⟨_, hD4, ?_, fun b' o eb => ?_, us ++ [c], ?_, ?_⟩
              · rw [List.length_map]
                exact small1000 (by omega)
              · rw [upd_ne (ne_of_none eb nD)]
                exact s4 _ _ (s3 _ _ eb)
              · rw [upd_same, List.map_append]
                rfl
              · rw [List.take_add_one, hr, List.map_append]
                exact RowsT.put hD4 (RowsT.app (.cons hc .nil) (hu.same s4))
          · rintro H3 ⟨s3, us, hD, hu⟩
            rw [List.length_map, List.take_of_length_le (by rw [hq.len]; exact Nat.le_refl _)] at hu
            have hl3 := s3 _ _ (s2 _ _ hl)
            have lu := hu.len
            have lp := hp.len
            rw [List.length_map] at lu
            have hb := big i hit
            have hb2 := big2 i (by omega)
            refine ⟨l, D, _, _, rfl, rfl, hl3, hD, ?_, ?_⟩
            · rw [List.length_map, List.length_map, sizeLine_eq]
              omega
            · refine ⟨ps ++ us, _, rfl, fun b o eb => ?_, ?_, ?_⟩
              · rw [upd_ne (ne_of_none eb nl)]
                exact s3 _ _ (s2 _ _ (s1 _ _ eb))
              · rw [upd_same, List.map_append]
              · rw [ev i]
                exact RowsT.put hl3 (RowsT.app hu ((hp.same s2).same s3))
        · rintro σ H1 ⟨ps, y3, rfl, s1, hl, hp⟩
          rw [show ((t : Int) + 1).toNat = t + 1 by omega] at hp
          exact ⟨_, rfl, q _ l ps s1 nl hl hp⟩
theorem eqv_self {d : PyData} (h : SeqAt.shaped d = true) : PyData.eqv d d = true := PySem.SeqAt.eqv_refl _ (PySem.SeqAt.canLay_of_shaped h)
theorem shaped_ints (ns : List Int) : SeqAt.shaped (.list (ns.map PyData.int)) = true := by
  have h1 : PyData.canLayAll0 (ns.map PyData.int) = true := by
    induction ns with
    | nil => rfl
    | cons n r ih =>
      show ((PyData.int n).canLay0 && PyData.canLayAll0 (r.map PyData.int)) = true
      rw [ih]
      rfl
  have h2 : PyData.depthAll (ns.map PyData.int) ≤ 0 := by
    clear h1
    induction ns with
    | nil => exact Nat.zero_le _
    | cons n r ih =>
      show max (PyData.int n).depth (PyData.depthAll (r.map PyData.int)) ≤ 0
      have : (PyData.int n).depth = 0 := rfl
      omega
  show (PyData.canLayAll0 (ns.map PyData.int) && decide (PyData.depthAll (ns.map PyData.int) + 1 ≤ 64)) = true
  rw [h1, decide_eq_true (by omega)]
  rfl
theorem ok_mr {f : Addr} {fd : FuncData} (F : Fun K "_law_mills_right" "_law_mills_right" s_L_mills_right f fd) (gF : mg "_law_mills_right" = some (.ref f)) (b : Binds K fd ["_law_shares"] []) (B : Bl mg) (c_mills : Cal P w K mg base 1 "mills" (spMillsW K)) : Cal P w K mg base 2 "_law_mills_right" (spMR K) := by
  refine ⟨f, fd, _, F.ok sc_L_mills_right (fun vs H Q E h => ?_) (fun cdv A outer s H vs Q E hr h => ?_), gF, F.kp, b⟩
  · obtain ⟨_, _, rfl, _⟩ := h
    rfl
  · obtain ⟨p, ss, rfl, hp, hb, h0, h60, h3, hok, q⟩ := h
    refine ⟨_, (pss_cons (ps_setLc (i := 1) (own := [("_law_sign", 2)]) rfl sc_L_mills_right.nd rfl rfl (sw_true rfl rfl rfl (by decide +kernel)) (pi_range1 rfl B.range (pa_cons (pe_callB call_len_seq (by rfl) B.len PySem.boot_len (pa_cons (pv 0) pa_nil)) pa_nil)) (blkOk_by (N := N_L_mills_right) (sc := defScope s_L_mills_right) (by decide +kernel)) (fun _ _ _ _ _ => pg_name (i := 2) sc_L_mills_right.nd rfl (.inl rfl)) (fun _ _ _ _ _ => pts_nil) (fun _ _ _ _ _ => pe_c c_mills hr (by omega) (by rfl) (pa_cons (pv 0) (pa_cons (pv 2) pa_nil)))) (pss_cons (ps_setLc (i := 3) (own := [("_law_sign", 2), ("_law_part", 4)]) rfl sc_L_mills_right.nd rfl rfl (sw_true rfl rfl rfl (by decide +kernel)) (pi_enumT (by rfl) B.enumerate (pa_cons (pv 0) pa_nil)) (blkOk_by (N := N_L_mills_right) (sc := defScope s_L_mills_right) (by decide +kernel)) (fun _ _ _ _ _ => pgtK (n := 2) K rfl (pgs_cons (pg_name (i := 2) sc_L_mills_right.nd rfl (.inl rfl)) (pgs_cons (pg_name (i := 4) sc_L_mills_right.nd rfl (.inl rfl)) pgs_nil))) (fun _ _ _ _ _ => pts_one (pt_cmpR op_eq (pe_op op_mod (pe_op op_mul pe_int (pv 4)) (pe_callB (sumT K rfl) (by rfl) B.sum (by decide +kernel) (pa_cons (pv 0) pa_nil))) pe_int (nomark _))) (fun _ _ _ _ _ => pv 2)) (pss_cons (ps_if (PW.pt (pw_or (pt_not (pt_chain op_lt op_le (pe_op op_sub pe_int (pe_callB call_len_seq (by rfl) B.len PySem.boot_len (pa_cons (pv 0) pa_nil))) (pe_callB (cr_sum rfl) (by rfl) B.sum (by decide +kernel) (pa_cons (pv 1) pa_nil)) pe_int)) (pw_or1 (pt_cmpR (op_neD hr.units) (pe_cmpR op_eq (pe_callB (cr_sum rfl) (by rfl) B.sum (by decide +kernel) (pa_cons (pv 1) pa_nil)) pe_int (nomark _)) (pe_cmpR op_eq (pe_callB call_len_seq (by rfl) B.len PySem.boot_len (pa_cons (pv 3) pa_nil)) (pe_callB call_len_seq (by rfl) B.len PySem.boot_len (pa_cons (pv 0) pa_nil)) (nomark _)) (nomark _))))) (pss_one (ps_ret pe_bl)) pss_nil) (pss_cons (ps_set (i := 5) sc_L_mills_right.nd rfl (.inr rfl) (pe_revT (pv 0) (pe_un un_neg pe_int))) (pss_one (ps_ret (pe_cmpR (op_eqD hr.units) (pe_lc (own := [("_law_sign", 2)]) rfl sc_L_mills_right.nd (pi_range1 rfl B.range (pa_cons (pe_callB call_len_seq (by rfl) B.len PySem.boot_len (pa_cons (pv 0) pa_nil)) pa_nil)) (blkOk_by (N := N_L_mills_right) (sc := defScope s_L_mills_right) (by decide +kernel)) (fun _ _ _ _ _ => pg_name (i := 2) sc_L_mills_right.nd rfl (.inl rfl)) (fun _ _ _ _ _ => pts_nil) (fun _ _ _ _ _ => pe_c c_mills hr (by omega) (by rfl) (pa_cons (pv 5) (pa_cons (pv 2) pa_nil)))) (pe_revL (pv 1) (pe_un un_neg pe_int)) (nomark _)))))))), ?_⟩
    have hx2 : ∀ x ∈ ss, x.natAbs < 2 ^ 200 := fun x hx => by
      have := hb x hx
      exact Nat.lt_of_le_of_lt (show x.natAbs ≤ 60 by omega) (by decide)
    have hs2 : ss.sum < 2 ^ 200 := Int.lt_of_le_of_lt h60 (by decide)
    refine ⟨.ref p, rfl, p, _, rfl, .inr hp, _, rfl, by rw [List.length_map]; omega, by rw [List.length_map]; omega, fun D nD => lc_range (fun i H' => Same H H' ∧ H' D = some (.lst (((msI ss).take i).map V.int))) ⟨same_new nD, upd_same⟩ ?_ ?_⟩
    · rintro i H1 hi ⟨s1, hD⟩
      rw [Int.toNat_natCast, List.length_map] at hi
      refine ⟨rfl, tYes_in ?_⟩
      refine ⟨.ref p, rfl, .int (0 + (i : Int)), rfl, p, i, ss, by rw [Int.zero_add]; rfl, same_sqt s1 hp, hi, hx2, h0, hs2, _, hD, ?_, fun b' o eb => ?_, ?_⟩
      · rw [List.length_map, List.length_take]
        exact small1000 (by omega)
      · rw [upd_ne (ne_of_none eb nD)]
        exact s1 _ _ eb
      · rw [upd_same, List.take_add_one, show (msI ss)[i]? = some (1000 * ss.getD i 0 / ss.sum) by unfold msI; rw [List.getElem?_map, List.getD_eq_getElem?_getD, List.getElem?_eq_getElem hi]; rfl, List.map_append]
        rfl
    · rintro H1 ⟨s1, hD⟩
      have hml : (msI ss).length = ss.length := by unfold msI; rw [List.length_map]
      rw [Int.toNat_natCast, List.length_map, List.take_of_length_le (by omega)] at hD
      refine ⟨.ref p, rfl, p, ss.map V.int, rfl, same_sqt s1 hp, fun D2 nD2 => lc_it (walk_En (n := ss.length) (by rw [List.length_map])) (fun i H' => Same H1 H' ∧ ∃ es : List Int, H' D2 = some (.lst (es.map V.int)) ∧ es.length = ((ss.take i).filter fun x => decide (1000 * x % ss.sum = 0)).length) ⟨same_new nD2, [], upd_same, rfl⟩ (fun i H' _ h => same_sqt (s1.trans h.1) hp) ?_ ?_⟩
      · rintro i x H2 H3 hi ⟨s2, es, hD2, hes⟩ ⟨T, u, v, rfl, nT, rfl, hu, hv⟩
        cases hu
        have hv : (ss.map V.int)[i]? = some v := hv
        rw [List.getElem?_map, List.getElem?_eq_getElem hi] at hv
        cases hv
        have hx := hb _ (List.getElem_mem hi)
        have s3 : Same H2 (upd H2 T (.tup [.int (i : Nat), .int ss[i]])) := same_new nT
        have eT : (upd H2 T (.tup [.int (i : Nat), .int ss[i]])) T = some (.tup [.int (i : Nat), .int ss[i]]) := upd_same
        generalize upd H2 T (.tup [.int (i : Nat), .int ss[i]]) = H4 at s3 eT ⊢
        refine ⟨T, _, rfl, SqT.of eT, rfl, _, _, rfl, _, _, rfl, rfl, rfl, ?_⟩
        have hp4 := same_sqt ((s1.trans s2).trans s3) hp
        have hD4 := s3 _ _ hD2
        refine ⟨_, rfl, 1000, ss[i], rfl, rfl, .inl ⟨by decide, by omega⟩, .ref p, rfl, p, ss, rfl, hp4, _, _, rfl, rfl, h0, rfl, _, rfl, ?_⟩
        have ef : ((ss.take (i + 1)).filter fun x => decide (1000 * x % ss.sum = 0)).length = ((ss.take i).filter fun x => decide (1000 * x % ss.sum = 0)).length + if 1000 * ss[i] % ss.sum = 0 then 1 else 0 := by
          rw [List.take_add_one, List.getElem?_eq_getElem hi, List.filter_append, List.length_append]
          congr 1
          by_cases c : 1000 * ss[i] % ss.sum = 0
          · rw [if_pos c]
            simp [c]
          · rw [if_neg c]
            simp [c]
        by_cases c : 1000 * ss[i] % ss.sum = 0
        · refine iteTT (by show decide (V.int (1000 * ss[i] % ss.sum) = V.int 0) = true; rw [c]; rfl) ⟨_, rfl, _, hD4, ?_, fun b' o eb => ?_, es ++ [(i : Int)], ?_, ?_⟩
          · rw [List.length_map, hes]
            have := List.length_filter_le (fun x => decide (1000 * x % ss.sum = 0)) (ss.take i)
            rw [List.length_take] at this
            exact small1000 (by omega)
          · rw [upd_ne (ne_of_none eb nD2)]
            exact s3 _ _ (s2 _ _ eb)
          · rw [upd_same, List.map_append]
            rfl
          · rw [ef, if_pos c, List.length_append, hes]
            rfl
        · refine iteFF (decide_eq_false fun e => c (V.int.inj e)) ⟨s2.trans s3, es, hD4, ?_⟩
          rw [ef, if_neg c, hes]
          rfl
      · rintro H2 ⟨s2, es, hD2, hes⟩
        rw [List.take_length] at hes
        have hp2 := same_sqt (s1.trans s2) hp
        have hDD := s2 _ _ hD
        unfold okM at hok
        rw [Bool.and_eq_true, Bool.and_eq_true] at hok
        obtain ⟨k1, k2, k3⟩ := hok
        have k1 := of_decide_eq_true k1
        have k2 := of_decide_eq_true k2
        rw [← hes] at k3
        refine ⟨.ref p, rfl, p, _, rfl, .inr hp2, _, _, rfl, rfl, .ref D, rfl, D, msI ss, rfl, SqL.of hDD, _, _, rfl, rfl, _, rfl, iteTT (decide_eq_true (by rw [List.length_map]; exact k1)) ⟨_, _, rfl, rfl, _, rfl, iteFF (by rw [decide_eq_true k2]; rfl) ?_⟩⟩
        refine ⟨.ref D, rfl, D, msI ss, rfl, SqL.of hDD, rfl, .ref D2, rfl, D2, _, rfl, .inl (SqL.of hD2), .ref p, rfl, p, _, rfl, .inr hp2, rfl, _, _, .bl _, .bl _, rfl, rfl, _, rfl, iteFF ?_ ?_⟩
        · have dV : ∀ a b : Int, decide (V.int a = V.int b) = decide (a = b) := fun a b => by
            rw [decide_eq_decide]
            exact ⟨V.int.inj, congrArg V.int⟩
          have dN : decide (((es.map V.int).length : Int) = ((ss.map V.int).length : Int)) = decide (es.length = ss.length) := by
            rw [decide_eq_decide, List.length_map, List.length_map]
            omega
          rw [dV, dV, dN, eq_of_beq k3, eqv_self rfl]
          rfl
        · refine ⟨.ref p, rfl, _, rfl, rfl, p, _, rfl, hp2, fun t nt => ?_⟩
          have ht : (upd H2 t (.tup (ss.map V.int).reverse)) t = some (.tup (ss.reverse.map V.int)) := by
            rw [upd_same, List.map_reverse]
          have s3 : Same H2 (upd H2 t (.tup (ss.map V.int).reverse)) := same_new nt
          generalize upd H2 t (.tup (ss.map V.int).reverse) = H3 at ht s3 ⊢
          have hp3 := same_sqt s3 hp2
          have hD3 := s3 _ _ hDD
          have hrl : ss.reverse.length = ss.length := List.length_reverse
          refine ⟨.ref p, rfl, p, _, rfl, .inr hp3, _, rfl, by rw [List.length_map]; omega, by rw [List.length_map]; omega, fun E3 nE => lc_range (fun i H' => Same H3 H' ∧ H' E3 = some (.lst (((msI ss.reverse).take i).map V.int))) ⟨same_new nE, upd_same⟩ ?_ ?_⟩
          · rintro i H4 hi ⟨s4, hE⟩
            rw [Int.toNat_natCast, List.length_map] at hi
            refine ⟨rfl, tYes_in ?_⟩
            refine ⟨.ref t, rfl, .int (0 + (i : Int)), rfl, t, i, ss.reverse, by rw [Int.zero_add]; rfl, SqT.of (s4 _ _ ht), by omega, fun x hx => hx2 x (List.mem_reverse.mp hx), by rw [List.sum_reverse]; exact h0, by rw [List.sum_reverse]; exact hs2, _, hE, ?_, fun b' o eb => ?_, ?_⟩
            · rw [List.length_map, List.length_take]
              exact small1000 (by omega)
            · rw [upd_ne (ne_of_none eb nE)]
              exact s4 _ _ eb
            · rw [upd_same, List.take_add_one, show (msI ss.reverse)[i]? = some (1000 * ss.reverse.getD i 0 / ss.reverse.sum) by unfold msI; rw [List.getElem?_map, List.getD_eq_getElem?_getD, List.getElem?_eq_getElem (by omega)]; rfl, List.map_append]
              rfl
          · rintro H4 ⟨s4, hE⟩
            rw [Int.toNat_natCast, List.length_map, List.take_of_length_le (by unfold msI; rw [List.length_map]; omega), msI_rev] at hE
            refine ⟨.ref D, rfl, _, rfl, rfl, D, _, rfl, SqL.of (s4 _ _ hD3), fun z nz => ?_⟩
            have s5 : Same H4 (upd H4 z (.lst ((msI ss).map V.int).reverse)) := same_new nz
            have ez : (upd H4 z (.lst ((msI ss).map V.int).reverse)) z = some (.lst ((msI ss).reverse.map V.int)) := by
              rw [upd_same, List.map_reverse]
            refine ⟨_, _, .lst (SqL.of (s5 _ _ hE)) (dp_ints _), .lst (SqL.of ez) (dp_ints _), shaped_ints _, shaped_ints _, ?_⟩
            rw [eqv_self (shaped_ints _)]
            exact q _ ((((s1.trans s2).trans s3).trans s4).trans s5)
end
end NG

namespace NG
open PySem PySem.Spec PyProof.Rows L2
theorem putK_newG {κ : Type} [DecidableEq κ] {kvs : List (κ × V)} {k : κ} {v : V} (h : k ∉ kvs.map Prod.fst) : putK kvs k v = kvs ++ [(k, v)] := by
  unfold putK
  rw [if_neg]
  intro e
  rw [List.any_eq_true] at e
  obtain ⟨x, hx, e⟩ := e
  exact h (List.mem_map.mpr ⟨x, hx, of_decide_eq_true e⟩)
def cntL (n : Nat) (ds : List Nat) : List (Key × V) := ds.map fun (b : Nat) => (Sum.inl (b : Int), V.int ((cop n b).length : Nat))
theorem shD_row {n : Nat} {r : List Int} (h1 : r.length = n) (h2 : ∀ x ∈ r, 0 ≤ x) : shD (n : Int) (.tuple (r.map PyData.int)) = decide (gl r = 1) := by
  show (decide (((r.map PyData.int).length : Int) = (n : Int)) && ((r.map PyData.int).all natD && decide (gl ((r.map PyData.int).map intD) = 1))) = _
  have e1 : (r.map PyData.int).map intD = r := by
    rw [List.map_map]
    exact (List.map_congr_left fun x _ => rfl).trans (List.map_id r)
  have e2 : (r.map PyData.int).all natD = true := by
    rw [List.all_map, List.all_eq_true]
    exact fun x hx => decide_eq_true (h2 x hx)
  rw [e1, e2, List.length_map, h1, decide_eq_true rfl, Bool.true_and, Bool.true_and]
theorem divs_one {t : Nat} (ht : 0 < t) : ∃ r, divs t = 1 :: r := by
  obtain ⟨m, rfl⟩ : ∃ m, t = m + 1 := ⟨t - 1, by omega⟩
  unfold divs
  rw [List.range_succ_eq_map, List.map_cons, List.filter_cons, if_pos (by simp [Nat.mod_one])]
  exact ⟨_, rfl⟩
theorem nodup_take {α : Type} {l : List α} (i : Nat) (h : l.Nodup) : (l.take i).Nodup := List.Pairwise.sublist (List.take_sublist i l) h
theorem met_some {n t i : Nat} (hn : n = 1 ∨ n = 2) (ht : 0 < t) : metL (n + 1) ((divs t).take (i + 1)) ≠ [] := by
  rw [metL_eq (nodup_take _ (nodup_divs t))]
  obtain ⟨r, e⟩ := divs_one ht
  rw [e, List.take_succ_cons, List.flatMap_cons]
  intro h
  have h := (List.append_eq_nil_iff.mp h).1
  rcases hn with rfl | rfl
  · exact absurd (congrArg List.length h) (by decide +kernel)
  · exact absurd (congrArg List.length h) (by decide +kernel)
theorem hash_one {P : Program} {w : World} {n : Nat} (hn : n = 1 ∨ n = 2) : ((kvsOf (n + 1) 1).map fun kv => tupleKeyHash (mixKind P w) kv.1).Nodup := by
  rcases hn with rfl | rfl
  · rw [show kvsOf (1 + 1) 1 = [(keyL [0, 1], .int 1), (keyL [1, 0], .int 1)] from rfl]
    exact of_decide_eq_true (by kernel_rfl)
  · rw [show kvsOf (2 + 1) 1 = [(keyL [0, 0, 1], .int 1), (keyL [0, 1, 0], .int 1), (keyL [1, 0, 0], .int 1)] from rfl]
    exact of_decide_eq_true (by kernel_rfl)
end NG

namespace NG
open PySem PySem.Spec PyProof.Rows L2
theorem le_sumI : ∀ {ns : List Int} {x : Int}, (∀ y ∈ ns, 0 ≤ y) → x ∈ ns → x ≤ ns.sum
  | y :: ns, x, h, hx => by
    have h1 := h y List.mem_cons_self
    have h2 := sum_nonneg (ms := ns) fun z hz => h z (List.mem_cons_of_mem _ hz)
    rw [List.sum_cons]
    rcases List.mem_cons.mp hx with rfl | hx
    · omega
    · have := le_sumI (ns := ns) (fun z hz => h z (List.mem_cons_of_mem _ hz)) hx
      omega
theorem shaped_intsT (ns : List Int) : SeqAt.shaped (.tuple (ns.map PyData.int)) = true := shaped_ints ns
theorem valV_memG {κ : Type} [DecidableEq κ] : ∀ {kvs : List (κ × V)} {k : κ} {v : V}, (kvs.map Prod.fst).Nodup → (k, v) ∈ kvs → valV kvs k = some v
  | p :: kvs, k, v, h, hm => by
    rw [List.map_cons, List.nodup_cons] at h
    rcases List.mem_cons.mp hm with rfl | hm
    · exact valV_pos rfl
    · rw [valV_neg fun e => h.1 (e ▸ List.mem_map.mpr ⟨(k, v), hm, rfl⟩)]
      exact valV_memG h.2 hm
abbrev PrT (K : PySem.W.Frag) (H : Hp) : List Addr → List (List Key × V) → Prop := Paired fun p kv => ∃ b, SqT K H p [.ref b, kv.2] ∧ H b = some (.tup (kv.1.map kV))
theorem PrT.same {K : PySem.W.Frag} {H H' : Hp} (s : Same H H') : ∀ {ps : List Addr} {rs : List (List Key × V)}, PrT K H ps rs → PrT K H' ps rs
  | _, _, .nil => .nil
  | _, _, .cons ⟨b, h1, h2⟩ t => .cons ⟨b, same_sqt s h1, s _ _ h2⟩ (PrT.same s t)
theorem PrT.len {K : PySem.W.Frag} {H : Hp} : ∀ {ps : List Addr} {rs : List (List Key × V)}, PrT K H ps rs → ps.length = rs.length
  | _, _, .nil => rfl
  | _, _, .cons h t => by rw [List.length_cons, List.length_cons, PrT.len t]
theorem PrT.app {K : PySem.W.Frag} {H : Hp} {qs : List Addr} {ss : List (List Key × V)} (h2 : PrT K H qs ss) : ∀ {ps : List Addr} {rs : List (List Key × V)}, PrT K H ps rs → PrT K H (ps ++ qs) (rs ++ ss)
  | _, _, .nil => h2
  | _, _, .cons h t => .cons h (PrT.app h2 t)
theorem PrT.put {K : PySem.W.Frag} {H : Hp} {l : Addr} {xs ys : List V} (h : H l = some (.lst xs)) : ∀ {ps : List Addr} {rs : List (List Key × V)}, PrT K H ps rs → PrT K (upd H l (.lst ys)) ps rs
  | _, _, .nil => .nil
  | _, _, .cons ⟨b, h1, h2⟩ t => .cons ⟨b, put_sqt h h1, (upd_ne (ne_of h2 h (by intro z; cases z))).trans h2⟩ (PrT.put h t)
def spRight2 (K : PySem.W.Frag) : Sp := fun vs H Q _ => ∃ (a : Addr) (n t h : Nat), vs = [.ref a, .int ((n + 1 : Nat) : Int), .int (t : Int)] ∧ (n = 1 ∨ n = 2) ∧ 0 < t ∧ t ≤ 60 ∧ (n = 2 → t ≤ 20) ∧ HandAt H a h ∧ h ≤ 999999000 ∧ ∀ H', But a H H' → HandAt H' a (h + 1) → Q (.bl true) H'
section
variable {P : Program} {w : World} {K : PySem.W.Frag} {mg : Str → Option Value} {base : Heap}
theorem ok_right2 {f : Addr} {fd : FuncData} (F : Fun K "_law_right" "_law_right" s_L_right f fd) (gF : mg "_law_right" = some (.ref f)) (b : Binds K fd ["_law_hand_here", "_law_many", "_law_total"] []) (B : Bl mg) (n_dict : mg "dict" = none) (c_L_take : Cal P w K mg base 1 "_law_take" spTake) (c_L_rows : Cal P w K mg base 4 "_law_rows" (spRowsT K 4)) (c_is_shares : Cal P w K mg base 2 "is_shares" (spIsSh K)) (c_lowest : Cal P w K mg base 2 "lowest" (spLow2 K)) (c_L_mills_right : Cal P w K mg base 2 "_law_mills_right" (spMR K)) : Cal P w K mg base 5 "_law_right" (spRight2 K) := by
  refine ⟨f, fd, _, F.ok sc_L_right (fun vs H Q E h => ?_) (fun cdv A outer s H vs Q E hr h => ?_), gF, F.kp, b⟩
  · obtain ⟨_, _, _, _, rfl, _⟩ := h
    rfl
  · obtain ⟨a, n, t, h, rfl, hn, h0, h60, h20, hh, hh9, q⟩ := h
    refine ⟨_, (pss_cons (ps_asg (pe_tup (pa_cons pe_dnewK (pa_cons pe_dnewT (pa_cons (pe_op op_add pe_int (pe_c c_L_take hr (by omega) (by rfl) (pa_cons (pv 0) (pa_cons pe_int pa_nil)))) pa_nil)))) (pg_tup rfl (pgs_cons (pg_name (i := 3) sc_L_right.nd rfl (.inr rfl)) (pgs_cons (pg_name (i := 4) sc_L_right.nd rfl (.inr rfl)) (pgs_cons (pg_name (i := 5) sc_L_right.nd rfl (.inr rfl)) pgs_nil))))) (pss_cons (ps_for PassesOwn.never rfl (pi_list (pe_lc (own := [("_law_by", 6)]) rfl sc_L_right.nd (pi_range2 rfl B.range (pa_cons pe_int (pa_cons (pe_op op_add (pv 2) pe_int) pa_nil))) (blkOk_by (N := N_L_right) (sc := defScope s_L_right) (by decide +kernel)) (fun _ _ _ _ _ => pg_name (i := 6) sc_L_right.nd rfl (.inl rfl)) (fun _ _ _ _ _ => pts_one (pt_cmpR op_eq (pe_op op_mod (pv 2) (pv 6)) pe_int (nomark _))) (fun _ _ _ _ _ => pv 6))) (pg_name (i := 6) sc_L_right.nd rfl (.inr rfl)) (pss_cons (ps_setLc (i := 7) (own := [("_law_row", 8)]) rfl sc_L_right.nd rfl rfl (sw_true rfl rfl rfl (by decide +kernel)) (pi_list (pe_c c_L_rows hr (by omega) (by rfl) (pa_cons (pv 1) (pa_cons (pv 6) pa_nil)))) (blkOk_by (N := N_L_right) (sc := defScope s_L_right) (by decide +kernel)) (fun _ _ _ _ _ => pg_name (i := 8) sc_L_right.nd rfl (.inl rfl)) (fun _ _ _ _ _ => pts_one (pt_val (pe_c c_is_shares hr (by omega) (by rfl) (pa_cons (pv 8) (pa_cons (pv 1) pa_nil))))) (fun _ _ _ _ _ => pv 8)) (pss_cons (ps_dput (hu_of hr) (pv 3) (pv 6) (pe_callB call_len_seq (by rfl) B.len PySem.boot_len (pa_cons (pv 7) pa_nil)) (by rfl)) (pss_one (ps_expr (pe_bm PySem.F.plainAttrs_dict PySem.F.slot_dict_update PySem.F.type_dict_update (mt_dupdateT hr.units) (pv 4) (pa_cons (pe_callTy (dictPTK K rfl hr.units) (by rfl) n_dict (by decide +kernel) (pa_cons (pe_lc (own := [("_law_row", 8)]) rfl sc_L_right.nd (pi_list (pv 7)) (blkOk_by (N := N_L_right) (sc := defScope s_L_right) (by decide +kernel)) (fun _ _ _ _ _ => pg_name (i := 8) sc_L_right.nd rfl (.inl rfl)) (fun _ _ _ _ _ => pts_nil) (fun _ _ _ _ _ => pe_tup (pa_cons (pv 8) (pa_cons (pv 6) pa_nil)))) pa_nil)) pa_nil))))))) (pss_cons (ps_set (i := 9) sc_L_right.nd rfl (.inl rfl) (pe_c c_L_rows hr (by omega) (by rfl) (pa_cons (pv 1) (pa_cons (pv 2) pa_nil)))) (pss_cons (ps_if (pt_cmpR op_ne (pe_callB (cr_sum rfl) (by rfl) B.sum (by decide +kernel) (pa_cons (pe_lock (pe_lc (own := [("_law_by", 6)]) rfl sc_L_right.nd (pi_keys (pv 3)) (blkOk_by (N := N_L_right) (sc := defScope s_L_right) (by decide +kernel)) (fun _ _ _ _ _ => pg_name (i := 6) sc_L_right.nd rfl (.inl rfl)) (fun _ _ _ _ _ => pts_nil) (fun _ _ _ _ _ => pe_dget (hu_of hr) (pv 3) (pv 6) (fun _ _ => rfl)))) pa_nil)) (pe_callB call_len_seq (by rfl) B.len PySem.boot_len (pa_cons (pv 9) pa_nil)) (nomark _)) (pss_one (ps_ret pe_bl)) pss_nil) (pss_cons (ps_set (i := 10) sc_L_right.nd rfl (.inl rfl) pe_dnewT) (pss_cons (ps_for PassesOwn.never rfl (pi_list (pv 9)) (pg_name (i := 8) sc_L_right.nd rfl (.inl rfl)) (pss_cons (ps_set (i := 11) sc_L_right.nd rfl (.inr rfl) (pe_c c_lowest hr (by omega) (by rfl) (pa_cons (pv 8) pa_nil))) (pss_cons (ps_if (PW.pt (pw_or (pt_cmpR (op_ninG hr.units) (pv 11) (pv 4) (by rfl)) (pw_or (pt_cmpR (op_inG hr.units) (pv 11) (pv 10) (by rfl)) (pw_or1 (pt_cmpR (op_neD hr.units) (pe_c c_lowest hr (by omega) (by rfl) (pa_cons (pe_tupleOf (by rfl) B.tuple (pe_lc (own := [("_law_number", 12)]) rfl sc_L_right.nd (pi_tup (pv 8)) (blkOk_by (N := N_L_right) (sc := defScope s_L_right) (by decide +kernel)) (fun _ _ _ _ _ => pg_name (i := 12) sc_L_right.nd rfl (.inl rfl)) (fun _ _ _ _ _ => pts_nil) (fun _ _ _ _ _ => pe_op op_mul (pv 5) (pv 12)))) pa_nil)) (pv 11) (nomark _)))))) (pss_one (ps_ret pe_bl)) pss_nil) (pss_cons (ps_if (pt_cmpR (op_neD hr.units) (pe_tupleOf (by rfl) B.tuple (pe_lc (own := [("_law_number", 12)]) rfl sc_L_right.nd (pi_tup (pv 11)) (blkOk_by (N := N_L_right) (sc := defScope s_L_right) (by decide +kernel)) (fun _ _ _ _ _ => pg_name (i := 12) sc_L_right.nd rfl (.inl rfl)) (fun _ _ _ _ _ => pts_nil) (fun _ _ _ _ _ => pe_op op_mul (pe_op op_fdivW (pv 2) (pe_dget (hu_of hr) (pv 4) (pv 11) (fun _ _ => rfl))) (pv 12)))) (pv 8) (nomark _)) (pss_one (ps_ret pe_bl)) pss_nil) (pss_one (ps_dput (hu_of hr) (pv 10) (pv 11) pe_bl (by rfl))))))) (pss_one (ps_ret (pe_and (pe_cmpR op_eq (pe_callB call_len_dT (by rfl) B.len PySem.boot_len (pa_cons (pv 10) pa_nil)) (pe_callB call_len_dT (by rfl) B.len PySem.boot_len (pa_cons (pv 4) pa_nil)) (nomark _)) (pe_one (pe_callB (cr_all rfl) (by rfl) B.all (by decide +kernel) (pa_cons (pe_lc (own := [("_law_row", 8)]) rfl sc_L_right.nd (pi_list (pv 9)) (blkOk_by (N := N_L_right) (sc := defScope s_L_right) (by decide +kernel)) (fun _ _ _ _ _ => pg_name (i := 8) sc_L_right.nd rfl (.inl rfl)) (fun _ _ _ _ _ => pts_one (pt_val (pe_c c_is_shares hr (by omega) (by rfl) (pa_cons (pv 8) (pa_cons (pv 1) pa_nil))))) (fun _ _ _ _ _ => pe_c c_L_mills_right hr (by omega) (by rfl) (pa_cons (pv 8) pa_nil))) pa_nil)))))))))))), ?_⟩
    have ok : okT (n + 1) t = true := by
      rcases hn with rfl | rfl
      · exact ok2 t (by omega) h0
      · exact ok3 t (by have := h20 rfl; omega) h0
    unfold okT at ok
    rw [Bool.and_eq_true] at ok
    obtain ⟨okA, okB⟩ := ok
    have okA := List.all_eq_true.mp okA
    have okB := of_decide_eq_true okB
    have big : ∀ t, t ≤ 60 → (rowsL (n + 1) t).length ≤ 3721 := fun t ht => by
      refine Nat.le_trans (rowsL_size ht) ?_
      rcases hn with rfl | rfl <;> decide
    have small : ∀ {k : Nat}, k ≤ 4000 → k < sizeLine := fun hk => by rw [sizeLine_eq]; omega
    refine fun c nc m nm => ⟨.ref a, rfl, a, 99, h, rfl, by decide, by decide, (hh.new nc).new nm, by omega, fun H1 r b1 hh1 r0 r1 => ⟨_, _, rfl, rfl, (by show 3 ≤ sizeLine; decide), fun T nT => ?_⟩⟩
    have hca : c ≠ a := hh.ne nc
    have hma : m ≠ a := (hh.new (o := .dK []) nc).ne nm
    have hcm : c ≠ m := ne_of_none (H := upd H c (.dK [])) (o := .dK []) upd_same nm
    have ec : H1 c = some (.dK []) := b1 _ _ hca ((upd_ne hcm).trans upd_same)
    have em : H1 m = some (.dT []) := b1 _ _ hma upd_same
    have eT : (upd H1 T (.tup [.ref c, .ref m, .int (1 + r)])) T = some (.tup [.ref c, .ref m, .int (1 + r)]) := upd_same
    have sT : Same H1 (upd H1 T (.tup [.ref c, .ref m, .int (1 + r)])) := same_new nT
    have bH : But a H (upd H1 T (.tup [.ref c, .ref m, .int (1 + r)])) := (((But.new nc).trans (But.new nm)).trans b1).trans (But.of sT)
    have hh2 := hh1.new (o := .tup [.ref c, .ref m, .int (1 + r)]) nT
    have ec := sT _ _ ec
    have em := sT _ _ em
    have ncH : H c = none := nc
    have nmH : H m = none := by
      rw [← upd_ne (o := .dK []) (H := H) (Ne.symm hcm)]
      exact nm
    refine ⟨T, _, rfl, SqT.of upd_same, rfl, _, _, rfl, _, _, rfl, _, _, rfl, rfl, ?_⟩
    generalize upd H1 T (.tup [.ref c, .ref m, .int (1 + r)]) = H2 at ec em eT bH hh2 ⊢
    clear b1 hh1 sT nT eT nc nm
    -- the numbers that divide
    refine ⟨.int (t : Int), rfl, _, _, rfl, rfl, _, _, rfl, ⟨by omega, by omega, by omega, by omega⟩, fun D nD => ?_⟩
    refine lc_range (fun i H' => Same H2 H' ∧ H' D = some (.lst ((((List.range i).map (· + 1)).filter fun b => decide (t % b = 0)).map fun (b : Nat) => V.int (b : Int)))) ⟨same_new nD, upd_same⟩ ?_ ?_
    · rintro i H3 hi ⟨s3, hD⟩
      have hit : i < t := by omega
      refine ⟨rfl, ?_⟩
      have ei : (1 : Int) + (i : Int) = ((i + 1 : Nat) : Int) := by omega
      refine ⟨.int (t : Int), rfl, .int (1 + (i : Int)), rfl, _, _, rfl, rfl, by omega, rfl, _, rfl, ?_⟩
      have ef : (((List.range (i + 1)).map (· + 1)).filter fun b => decide (t % b = 0)) = (((List.range i).map (· + 1)).filter fun b => decide (t % b = 0)) ++ if t % (i + 1) = 0 then [i + 1] else [] := by
        rw [List.range_succ, List.map_append, List.filter_append]
        congr 1
        by_cases c : t % (i + 1) = 0
        · rw [if_pos c]
          simp [c]
        · rw [if_neg c]
          simp [c]
      have em : ((t : Int) % (1 + (i : Int)) = 0) ↔ t % (i + 1) = 0 := by
        rw [ei]
        exact_mod_cast Iff.rfl
      have hlen : (((List.range i).map (· + 1)).filter fun b => decide (t % b = 0)).length ≤ i := by
        refine Nat.le_trans (List.length_filter_le _ _) ?_
        rw [List.length_map, List.length_range]
        exact Nat.le_refl _
      by_cases cc : t % (i + 1) = 0
      · refine iteTT (by show decide (V.int ((t : Int) % (1 + (i : Int))) = V.int 0) = true; rw [em.mpr cc]; rfl) ⟨.int (1 + (i : Int)), rfl, _, hD, ?_, fun b' o eb => ?_, ?_⟩
        · rw [List.length_map]
          exact small1000 (by omega)
        · rw [upd_ne (ne_of_none eb nD)]
          exact s3 _ _ eb
        · rw [upd_same, ef, if_pos cc, List.map_append, ei]
          rfl
      · refine iteFF (decide_eq_false fun e => cc (em.mp (V.int.inj e))) ⟨s3, ?_⟩
        rw [hD, ef, if_neg cc, List.append_nil]
    · rintro H3 ⟨s3, hD⟩
      rw [show ((t : Int) + 1 - 1).toNat = t by omega] at hD
      have hD : H3 D = some (.lst ((divs t).map fun (b : Nat) => V.int (b : Int))) := hD
      have ec3 := s3 _ _ ec
      have em3 := s3 _ _ em
      have b3 := bH.trans (But.of s3)
      have hh3 := hh2.same s3
      have hdl : (divs t).length ≤ 60 := by
        refine Nat.le_trans (List.length_filter_le _ _) ?_
        rw [List.length_map, List.length_range]
        exact h60
      have hDc : D ≠ c := ne_of_none ec nD |>.symm
      have hDm : D ≠ m := ne_of_none em nD |>.symm
      have hDa : D ≠ a := hh2.ne nD
      refine ⟨D, rfl, ⟨_, SqL.of hD⟩, ?_⟩
      refine for_list (K := K) (xs := (divs t).map fun (b : Nat) => V.int (b : Int)) (fun i σ H' => ∃ y6 y7 : Option V, σ = [some (.ref a), some (.int ((n + 1 : Nat) : Int)), some (.int (t : Int)), some (.ref c), some (.ref m), some (.int (1 + r)), y6, y7, none, none, none, none, none] ∧ But a H H' ∧ HandAt H' a (h + 1) ∧ H' D = some (.lst ((divs t).map fun (b : Nat) => V.int (b : Int))) ∧ H' c = some (.dK (cntL (n + 1) ((divs t).take i))) ∧ H' m = some (.dT (metL (n + 1) ((divs t).take i)))) ⟨none, none, rfl, b3, hh3, hD, ec3, em3⟩ (fun i σ H' _ h => by obtain ⟨_, _, _, _, _, h, _⟩ := h; exact SqL.of h) ?_ ?_
      · rintro i x σ H4 hx ⟨y6, y7, rfl, b4, hh4, hD4, ec4, em4⟩
        rw [List.getElem?_map] at hx
        obtain ⟨bb, hbb, rfl⟩ := Option.map_eq_some_iff.mp hx
        have hbm := List.mem_of_getElem? hbb
        have hb1 : 1 ≤ bb ∧ bb ≤ t := by
          obtain ⟨h1, _⟩ := List.mem_filter.mp hbm
          obtain ⟨k, hk, rfl⟩ := List.mem_map.mp h1
          have := List.mem_range.mp hk
          omega
        have hi60 : i < (divs t).length := (List.getElem?_eq_some_iff.mp hbb).1
        refine ⟨.int ((n + 1 : Nat) : Int), rfl, .int (bb : Int), rfl, n + 1, bb, rfl, by omega, by omega, by omega, by omega, fun H5 l ps s5 nl hl hp => ⟨l, rfl, ⟨_, SqL.of hl⟩, fun L nL => ?_⟩⟩
        have hbig := big bb (by omega)
        refine lc_list (K := K) (xs := ps.map V.ref) (fun j H' => Same H5 H' ∧ ∃ us, H' L = some (.lst (us.map V.ref)) ∧ RowsT H' us (((rowsL (n + 1) bb).take j).filter fun r => decide (gl r = 1))) ⟨same_new nL, [], upd_same, .nil⟩ (fun j H' _ h => SqL.of (h.1 _ _ hl)) ?_ ?_
        · rintro j x H6 hx ⟨s6, us, hL, hu⟩
          rw [List.getElem?_map] at hx
          obtain ⟨p, hpj, rfl⟩ := Option.map_eq_some_iff.mp hx
          obtain ⟨rw', hr, hpr⟩ := hp.get hpj
          have hpr6 := s6 _ _ hpr
          have F := rowF (by omega) (List.mem_of_getElem? hr)
          have lu := hu.len
          have lf := List.length_filter_le (fun r => decide (gl r = 1)) ((rowsL (n + 1) bb).take j)
          rw [List.length_take] at lf
          refine ⟨rfl, ?_⟩
          refine ⟨.ref p, rfl, .int ((n + 1 : Nat) : Int), rfl, .ref p, ((n + 1 : Nat) : Int), .tuple (rw'.map PyData.int), rfl, .tup (SqT.of hpr6) (dq_ints rw'), fun H7 s7 => ?_⟩
          rw [shD_row F.len F.nn]
          have ef : (((rowsL (n + 1) bb).take (j + 1)).filter fun r => decide (gl r = 1)) = (((rowsL (n + 1) bb).take j).filter fun r => decide (gl r = 1)) ++ if gl rw' = 1 then [rw'] else [] := by
            rw [List.take_add_one, hr, List.filter_append]
            congr 1
            by_cases c : gl rw' = 1
            · rw [if_pos c]
              simp [c]
            · rw [if_neg c]
              simp [c]
          have hL7 := s7 _ _ hL
          by_cases cg : gl rw' = 1
          · refine ⟨_, rfl, iteTT (decide_eq_true cg) ⟨.ref p, rfl, _, hL7, ?_, fun b' o eb => ?_, us ++ [p], ?_, ?_⟩⟩
            · rw [List.length_map]
              exact small (by omega)
            · rw [upd_ne (ne_of_none eb nL)]
              exact s7 _ _ (s6 _ _ eb)
            · rw [upd_same, List.map_append]
              rfl
            · rw [ef, if_pos cg]
              exact RowsT.put hL7 (RowsT.app (.cons (s7 _ _ hpr6) .nil) (hu.same s7))
          · refine ⟨_, rfl, iteFF (decide_eq_false cg) ⟨s6.trans s7, us, hL7, ?_⟩⟩
            rw [ef, if_neg cg, List.append_nil]
            exact hu.same s7
        · rintro H6 ⟨s6, us, hL, hu⟩
          rw [List.length_map, List.take_of_length_le (by rw [hp.len]; exact Nat.le_refl _)] at hu
          have hu : RowsT H6 us (cop (n + 1) bb) := hu
          have lu := hu.len
          have lc : (cop (n + 1) bb).length ≤ 3721 := Nat.le_trans (List.length_filter_le _ _) hbig
          have ec6 := s6 _ _ (s5 _ _ ec4)
          have em6 := s6 _ _ (s5 _ _ em4)
          have hD6 := s6 _ _ (s5 _ _ hD4)
          have b6 := b4.trans (But.of (s5.trans s6))
          have hh6 := (hh4.same s5).same s6
          have hLc : L ≠ c := (ne_of_none (s5 _ _ ec4) nL).symm
          have hLm : L ≠ m := (ne_of_none (s5 _ _ em4) nL).symm
          have hld : (divs t).length ≤ 60 := by
            refine Nat.le_trans (List.length_filter_le _ _) ?_
            rw [List.length_map, List.length_range]
            exact h60
          refine ⟨.ref L, rfl, L, _, rfl, .inl (SqL.of hL), .ref c, rfl, .int (bb : Int), rfl, c, _, rfl, DPut.k (k := Sum.inl (bb : Int)) ec6 (by show (List.map _ _).length < _; rw [List.length_map, List.length_take]; exact small (by omega)), ?_⟩
          have ecut : cntL (n + 1) ((divs t).take (i + 1)) = putK (cntL (n + 1) ((divs t).take i)) (Sum.inl (bb : Int)) (V.int ((us.map V.ref).length : Int)) := by
            rw [putK_newG]
            · rw [List.take_add_one, hbb, List.length_map, lu]
              unfold cntL
              rw [List.map_append]
              rfl
            · unfold cntL
              rw [List.map_map]
              intro hm
              obtain ⟨b', hb', e⟩ := List.mem_map.mp hm
              have e2 : b' = bb := by
                have := Sum.inl.inj e
                exact_mod_cast this
              subst e2
              obtain ⟨j, hj, ej⟩ := List.mem_iff_getElem.mp hb'
              rw [List.length_take] at hj
              rw [List.getElem_take] at ej
              obtain ⟨hi, ei⟩ := List.getElem?_eq_some_iff.mp hbb
              exact (List.pairwise_iff_getElem.mp (nodup_divs t)) j i (by omega) hi (by omega) (by rw [ej, ei])
          have emt : metL (n + 1) ((divs t).take (i + 1)) = mergeT (metL (n + 1) ((divs t).take i)) (mergeT [] (kvsOf (n + 1) bb)) := by
            have e1 : mergeT [] (kvsOf (n + 1) bb) = kvsOf (n + 1) bb := by
              rw [mergeT_new]
              · rfl
              · have := nodup_keys (n := n) (ds := [bb]) (by simp)
                rw [List.flatMap_cons, List.flatMap_nil, List.append_nil] at this
                exact this
            rw [e1, List.take_add_one, hbb]
            unfold metL
            rw [List.foldl_append]
            rfl
          have ec7 : (upd H6 c (.dK (putK (cntL (n + 1) ((divs t).take i)) (Sum.inl (bb : Int)) (V.int ((us.map V.ref).length : Int))))) c = some (.dK (cntL (n + 1) ((divs t).take (i + 1)))) := by
            rw [upd_same, ecut]
          have b7 : But c H6 (upd H6 c (.dK (putK (cntL (n + 1) ((divs t).take i)) (Sum.inl (bb : Int)) (V.int ((us.map V.ref).length : Int))))) := But.put
          generalize upd H6 c (.dK (putK (cntL (n + 1) ((divs t).take i)) (Sum.inl (bb : Int)) (V.int ((us.map V.ref).length : Int)))) = H7 at ec7 b7 ⊢
          have em7 := b7 _ _ (Ne.symm hcm) em6
          have hL7 := b7 _ _ hLc hL
          have hD7 := b7 _ _ hDc hD6
          have hu7 : RowsT H7 us (cop (n + 1) bb) := by
            have go : ∀ {ps : List Addr} {rs : List (List Int)}, RowsT H6 ps rs → RowsT H7 ps rs := by
              intro ps rs r
              induction r with
              | nil => exact .nil
              | cons e t ih => exact .cons (b7 _ _ (ne_of e ec6 (by intro z; cases z)) e) ih
            exact go hu
          have bH7 : But a H H7 := fun b' o nb e => by
            by_cases eb : b' = c
            · subst eb
              rw [ncH] at e
              cases e
            · exact b7 _ _ eb (b6 _ _ nb e)
          have hh7 : HandAt H7 a (h + 1) := by
            obtain ⟨g1, g2, g3, e, x1, x2, x3, x4⟩ := hh6
            exact ⟨g1, g2, g3, b7 _ _ (Ne.symm hca) e, x1, x2, x3, x4⟩
          refine ⟨.ref m, rfl, .inr (.inr (.inl ⟨rfl, .inr ⟨_, em7⟩⟩)), .ref L, rfl, L, rfl, ⟨_, SqL.of hL7⟩, fun D2 nD2 => ?_⟩
          have hkl : (kvsOf (n + 1) bb).length ≤ 3721 := by
            unfold kvsOf
            rw [List.length_map]
            exact lc
          refine lc_list (K := K) (xs := us.map V.ref) (fun j H' => Same H7 H' ∧ ∃ qs, H' D2 = some (.lst (qs.map V.ref)) ∧ PrT K H' qs ((kvsOf (n + 1) bb).take j)) ⟨same_new nD2, [], upd_same, .nil⟩ (fun j H' _ h => SqL.of (h.1 _ _ hL7)) ?_ ?_
          · rintro j x H8 hx ⟨s8, qs, hD8, hq⟩
            rw [List.getElem?_map] at hx
            obtain ⟨p, hpj, rfl⟩ := Option.map_eq_some_iff.mp hx
            obtain ⟨rw', hr, hpr⟩ := hu7.get hpj
            have hpr8 := s8 _ _ hpr
            have lq := hq.len
            rw [List.length_take] at lq
            have ek : (kvsOf (n + 1) bb)[j]? = some (keyL rw', V.int (bb : Int)) := by
              unfold kvsOf
              rw [List.getElem?_map, hr]
              rfl
            refine ⟨rfl, tYes_in ?_⟩
            refine ⟨.ref p, rfl, .int (bb : Int), rfl, (by show 2 ≤ sizeLine; decide), fun z nz => ?_⟩
            have s9 : Same H8 (upd H8 z (.tup [.ref p, .int (bb : Int)])) := same_new nz
            have ez : (upd H8 z (.tup [.ref p, .int (bb : Int)])) z = some (.tup [.ref p, .int (bb : Int)]) := upd_same
            generalize upd H8 z (.tup [.ref p, .int (bb : Int)]) = H9 at s9 ez ⊢
            have hD9 := s9 _ _ hD8
            refine ⟨_, hD9, ?_, fun b' o eb => ?_, qs ++ [z], ?_, ?_⟩
            · rw [List.length_map]
              exact small (by omega)
            · rw [upd_ne (ne_of_none eb nD2)]
              exact s9 _ _ (s8 _ _ eb)
            · rw [upd_same, List.map_append]
              rfl
            · rw [List.take_add_one, ek]
              refine PrT.put hD9 (PrT.app (.cons ⟨p, SqT.of ez, ?_⟩ .nil) (hq.same s9))
              rw [keyL_kV]
              exact s9 _ _ hpr8
          · rintro H8 ⟨s8, qs, hD8, hq⟩
            have ekl : (us.map V.ref).length = (kvsOf (n + 1) bb).length := by
              unfold kvsOf
              rw [List.length_map, List.length_map, lu]
            rw [ekl, List.take_of_length_le (Nat.le_refl _)] at hq
            refine ⟨D2, qs, kvsOf (n + 1) bb, rfl, SqL.of hD8, hq, fun p np => ?_⟩
            have s9 : Same H8 (upd H8 p (.dT (mergeT [] (kvsOf (n + 1) bb)))) := same_new np
            have ep : (upd H8 p (.dT (mergeT [] (kvsOf (n + 1) bb)))) p = some (.dT (mergeT [] (kvsOf (n + 1) bb))) := upd_same
            generalize upd H8 p (.dT (mergeT [] (kvsOf (n + 1) bb))) = H9 at s9 ep ⊢
            have s79 := s8.trans s9
            have em9 := s79 _ _ em7
            have hmp : m ≠ p := ne_of_none (s8 _ _ em7) np
            have hml : (metL (n + 1) ((divs t).take i)).length ≤ 60 * 3721 := by
              rw [metL_eq (nodup_take _ (nodup_divs t))]
              refine Nat.le_trans (flatMap_len_le _ 3721 fun b' hb' => ?_) (Nat.mul_le_mul_right _ ?_)
              · unfold kvsOf
                rw [List.length_map]
                have := List.mem_of_mem_take hb'
                obtain ⟨h1, _⟩ := List.mem_filter.mp this
                obtain ⟨k, hk, rfl⟩ := List.mem_map.mp h1
                have := List.mem_range.mp hk
                exact Nat.le_trans (List.length_filter_le _ _) (big _ (by omega))
              · rw [List.length_take]
                omega
            have hkl2 : (mergeT [] (kvsOf (n + 1) bb)).length ≤ 3721 := Nat.le_trans (length_mergeT _ _) (by rw [List.length_nil]; omega)
            refine ⟨m, p, _, _, rfl, rfl, hmp, em9, ep, ?_, ?_, ?_⟩
            · rw [sizeLine_eq]
              omega
            · cases i with
              | zero =>
                obtain ⟨r', er⟩ := divs_one h0
                rw [er] at hbb
                have : bb = 1 := (Option.some.inj hbb).symm
                subst this
                right
                have e1 : mergeT [] (kvsOf (n + 1) 1) = kvsOf (n + 1) 1 := by
                  rw [mergeT_new]
                  · rfl
                  · have := nodup_keys (n := n) (ds := [1]) (by simp)
                    rw [List.flatMap_cons, List.flatMap_nil, List.append_nil] at this
                    exact this
                rw [e1]
                exact hash_one hn
              | succ i =>
                left
                exact met_some hn h0
            · refine ⟨_, _, rfl, fun b' o nb e => ?_, ?_, ?_, ?_, ?_⟩
              · have : b' ≠ m := fun z => by
                  subst z
                  rw [nmH] at e
                  cases e
                rw [upd_ne this]
                exact s79 _ _ (bH7 _ _ nb e)
              · exact (hh7.same s79).put (Ne.symm (Ne.symm hma))
              · rw [upd_ne hDm]
                exact s79 _ _ hD7
              · rw [upd_ne hcm]
                exact s79 _ _ ec7
              · rw [upd_same, emt]
      · rintro σ H4 ⟨y6, y7, rfl, b4, hh4, hD4, ec4, em4⟩
        rw [List.length_map, List.take_length] at ec4 em4
        refine ⟨.int ((n + 1 : Nat) : Int), rfl, .int (t : Int), rfl, n + 1, t, rfl, by omega, by omega, by omega, h60, fun H5 l ps s5 nl hl hp => ?_⟩
        have hbig := big t h60
        have lps := hp.len
        have ec5 := s5 _ _ ec4
        have em5 := s5 _ _ em4
        have b5 := b4.trans (But.of s5)
        have hh5 := hh4.same s5
        clear ec4 em4 hD4 b4 hh4 nl
        have hcl : (cntL (n + 1) (divs t)).length = (divs t).length := by
          unfold cntL
          rw [List.length_map]
        have hlc : l ≠ c := ne_of hl ec5 (by intro z; cases z)
        refine ⟨c, _, ec5, trivial, fun od => ?_⟩
        refine ⟨.ref c, rfl, c, od, rfl, .inl ⟨_, upd_same, fun D2 nD2 => ?_⟩⟩
        have ecf : (upd H5 c (.frz od (.dK (cntL (n + 1) (divs t))))) c = some (.frz od (.dK (cntL (n + 1) (divs t)))) := upd_same
        have bf : But c H5 (upd H5 c (.frz od (.dK (cntL (n + 1) (divs t))))) := But.put
        have bfb : ∀ H', Same (upd H5 c (.frz od (.dK (cntL (n + 1) (divs t))))) H' → Same H5 (upd H' c (.dK (cntL (n + 1) (divs t)))) := fun H' s' b' o e => by
          by_cases eb : b' = c
          · subst eb
            rw [ec5] at e
            rw [← e, upd_same]
          · rw [upd_ne eb]
            exact s' _ _ (bf _ _ eb e)
        generalize upd H5 c (.frz od (.dK (cntL (n + 1) (divs t)))) = Hf at ecf bf bfb nD2 ⊢
        refine lc_it walk_keys (fun j H' => Same Hf H' ∧ H' D2 = some (.lst ((((divs t).map fun b => (((cop (n + 1) b).length : Nat) : Int)).take j).map V.int))) ⟨same_new nD2, upd_same⟩ (fun j H' _ h => h.1 _ _ ecf) ?_ ?_
        · rintro j x H6 H7 hj ⟨s6, hD2⟩ ⟨rfl, k, v, ekv, rfl⟩
          unfold cntL at ekv
          rw [List.getElem?_map] at ekv
          obtain ⟨b', hb', e2⟩ := Option.map_eq_some_iff.mp ekv
          cases e2
          refine ⟨rfl, tYes_in ?_⟩
          have ev : valV (cntL (n + 1) (divs t)) (Sum.inl (b' : Int)) = some (V.int ((cop (n + 1) b').length : Nat)) := by
            have hnd : ((cntL (n + 1) (divs t)).map Prod.fst).Nodup := by
              unfold cntL
              rw [List.map_map]
              refine List.Pairwise.map _ (fun a b h e => h ?_) (nodup_divs t)
              have := Sum.inl.inj e
              exact_mod_cast this
            exact valV_memG hnd (List.mem_map.mpr ⟨b', List.mem_of_getElem? hb', rfl⟩)
          refine ⟨.ref c, rfl, .int (b' : Int), rfl, c, .int ((cop (n + 1) b').length : Nat), rfl, .inl ⟨_, Sum.inl (b' : Int), .inr ⟨od, s6 _ _ ecf⟩, rfl, ev.symm⟩, _, hD2, ?_, fun b' o eb => ?_, ?_⟩
          · rw [List.length_map, List.length_take, List.length_map]
            exact small (by omega)
          · rw [upd_ne (ne_of_none eb nD2)]
            exact s6 _ _ eb
          · rw [upd_same, List.take_add_one, List.getElem?_map, hb', List.map_append]
            rfl
        · rintro H6 ⟨s6, hD2⟩
          rw [hcl, show (divs t).length = ((divs t).map fun b => (((cop (n + 1) b).length : Nat) : Int)).length by rw [List.length_map], List.take_length] at hD2
          have hD2c : D2 ≠ c := (ne_of_none ecf nD2).symm
          have s56 := bfb _ s6
          have eD2 : (upd H6 c (.dK (cntL (n + 1) (divs t)))) D2 = some (.lst (((divs t).map fun b => (((cop (n + 1) b).length : Nat) : Int)).map V.int)) := (upd_ne hD2c).trans hD2
          refine ⟨s6 _ _ ecf, D2, _, rfl, SqL.of eD2, ?_⟩
          generalize upd H6 c (.dK (cntL (n + 1) (divs t))) = H7 at s56 eD2 ⊢
          have esum : ((divs t).map fun b => (((cop (n + 1) b).length : Nat) : Int)).sum = (((rowsL (n + 1) t).length : Nat) : Int) := by
            rw [← okB]
            have : ∀ l : List Nat, (l.map fun b => (((cop (n + 1) b).length : Nat) : Int)).sum = (((l.map fun b => (cop (n + 1) b).length).sum : Nat) : Int) := by
              intro l
              induction l with
              | nil => rfl
              | cons x l ih => rw [List.map_cons, List.map_cons, List.sum_cons, List.sum_cons, ih, Int.natCast_add]
            exact this _
          have hl7 := s56 _ _ hl
          have em7 := s56 _ _ em5
          have hp7 := hp.same s56
          have b7 := b5.trans (But.of s56)
          have hh7 := hh5.same s56
          refine ⟨.ref l, rfl, l, _, rfl, .inl (SqL.of hl7), rfl, _, rfl, iteFF ?_ ?_⟩
          · rw [esum, List.length_map, lps]
            simp
          · refine fun g ng => ?_
            have s8 : Same H7 (upd H7 g (.dT [])) := same_new ng
            have eg : (upd H7 g (.dT [])) g = some (.dT []) := upd_same
            have hgm : g ≠ m := (ne_of_none em7 ng).symm
            have hgl : g ≠ l := (ne_of_none hl7 ng).symm
            have hga : g ≠ a := hh7.ne ng
            have ngH : H g = none := by
              by_cases e : H g = none
              · exact e
              · obtain ⟨o, ho⟩ := Option.ne_none_iff_exists'.mp e
                rw [b7 _ _ hga ho] at ng
                cases ng
            generalize upd H7 g (.dT []) = H8 at s8 eg ⊢
            have hl8 := s8 _ _ hl7
            have em8 := s8 _ _ em7
            have hp8 := hp7.same s8
            have b8 := b7.trans (But.of s8)
            have hh8 := hh7.same s8
            refine ⟨.ref l, rfl, l, rfl, ⟨_, SqL.of hl8⟩, ?_⟩
            refine for_list (K := K) (xs := ps.map V.ref) (fun i σ H' => ∃ y8 y11 : Option V, σ = [some (.ref a), some (.int ((n + 1 : Nat) : Int)), some (.int (t : Int)), some (.ref c), some (.ref m), some (.int (1 + r)), y6, y7, y8, some (.ref l), some (.ref g), y11, none] ∧ But a H H' ∧ HandAt H' a (h + 1) ∧ H' l = some (.lst (ps.map V.ref)) ∧ RowsT H' ps (rowsL (n + 1) t) ∧ H' m = some (.dT (metL (n + 1) (divs t))) ∧ H' g = some (.dT (fndL ((rowsL (n + 1) t).take i)))) ⟨none, none, rfl, b8, hh8, hl8, hp8, em8, eg⟩ (fun i σ H' _ h => by obtain ⟨_, _, _, _, _, h, _⟩ := h; exact SqL.of h) ?_ ?_
            · rintro i x σ H9 hx ⟨y8, y11, rfl, b9, hh9', hl9, hp9, em9, eg9⟩
              rw [List.getElem?_map] at hx
              obtain ⟨p, hpi, rfl⟩ := Option.map_eq_some_iff.mp hx
              obtain ⟨rw', hr, hpr⟩ := hp9.get hpi
              have hrm := List.mem_of_getElem? hr
              have F := rowF h0 hrm
              obtain ⟨y, hy, py⟩ := pos_mem (ns := rw') (by rw [F.sum]; omega)
              have hle : ∀ x ∈ rw', x ≤ (t : Int) := fun x hx => by
                have := le_sumI (ns := rw') F.nn hx
                rw [F.sum] at this
                exact this
              have hyb : ∀ x ∈ rw', x.natAbs < 2 ^ 8000 := fun x hx => by
                have h1 := hle x hx
                have h2 := F.nn x hx
                exact Nat.lt_of_lt_of_le (show x.natAbs < 2 ^ 10 by omega) (Nat.pow_le_pow_right (by decide) (by decide))
              have hln : rw'.length ≤ 3 := by
                have := F.len
                omega
              refine ⟨.ref p, rfl, p, rw', y, rfl, SqT.of hpr, F.nn, hy, py, hyb y hy, by omega, fun H10 z s10 nz ez => ?_⟩
              have em10 := s10 _ _ em9
              have eg10 := s10 _ _ eg9
              have hpr10 := s10 _ _ hpr
              have ezk : H10 z = some (.tup ((keyL (low rw')).map kV)) := by
                rw [keyL_kV]
                exact ez
              have eval := met_at h0 hrm
              have enot := valV_no (fnd_new h0 hr)
              refine ⟨.ref z, rfl, .ref m, rfl, m, some (V.int (low rw').sum), rfl, by rw [← eval]; exact DGet.t em10 ezk, _, rfl, iteFF rfl ?_⟩
              refine ⟨.ref z, rfl, .ref g, rfl, g, none, rfl, by rw [← enot]; exact DGet.t eg10 ezk, _, rfl, iteFF rfl ?_⟩
              -- so many times
              have hr0 : 0 ≤ 1 + r := by omega
              refine ⟨.ref p, rfl, p, rfl, ⟨_, SqT.of hpr10⟩, fun D3 nD3 => ?_⟩
              refine lc_tup (xs := rw'.map V.int) (fun j H' => Same H10 H' ∧ H' D3 = some (.lst (((rw'.map ((1 + r) * ·)).take j).map V.int))) ⟨same_new nD3, upd_same⟩ (fun j H' _ h => SqT.of (h.1 _ _ hpr10)) ?_ ?_
              · rintro j x H11 hx ⟨s11, hD3⟩
                rw [List.getElem?_map] at hx
                obtain ⟨w', hw', rfl⟩ := Option.map_eq_some_iff.mp hx
                have h1 := hle w' (List.mem_of_getElem? hw')
                have h2 := F.nn w' (List.mem_of_getElem? hw')
                refine ⟨rfl, tYes_in ?_⟩
                refine ⟨_, rfl, .int w', rfl, _, _, rfl, rfl, .inl ⟨by omega, by omega⟩, _, hD3, ?_, fun b' o eb => ?_, ?_⟩
                · rw [List.length_map, List.length_take, List.length_map]
                  exact small (by omega)
                · rw [upd_ne (ne_of_none eb nD3)]
                  exact s11 _ _ eb
                · rw [upd_same, List.take_add_one, List.getElem?_map, hw', List.map_append]
                  rfl
              · rintro H11 ⟨s11, hD3⟩
                rw [List.length_map, List.take_of_length_le (by rw [List.length_map]; exact Nat.le_refl _)] at hD3
                refine .inl ⟨D3, _, rfl, SqL.of hD3, fun t2 nt2 => ?_⟩
                have s12 : Same H11 (upd H11 t2 (.tup ((rw'.map ((1 + r) * ·)).map V.int))) := same_new nt2
                have et2 : (upd H11 t2 (.tup ((rw'.map ((1 + r) * ·)).map V.int))) t2 = some (.tup ((rw'.map ((1 + r) * ·)).map V.int)) := upd_same
                generalize upd H11 t2 (.tup ((rw'.map ((1 + r) * ·)).map V.int)) = H12 at s12 et2 ⊢
                have hmy : (1 + r) * y ∈ rw'.map ((1 + r) * ·) := List.mem_map.mpr ⟨y, hy, rfl⟩
                have hyt := hle y hy
                refine ⟨t2, _, (1 + r) * y, rfl, SqT.of et2, fun x hx => ?_, hmy, ?_, ?_, by rw [List.length_map]; omega, fun H13 z2 s13 nz2 ez2 => ?_⟩
                · obtain ⟨x', hx', rfl⟩ := List.mem_map.mp hx
                  exact Int.mul_nonneg hr0 (F.nn _ hx')
                · exact Int.mul_pos (by omega) py
                · have h3 : (1 + r) * y ≤ 100 * 60 := Int.mul_le_mul (by omega) (by omega) (by omega) (by omega)
                  have h4 : 0 < (1 + r) * y := Int.mul_pos (by omega) py
                  exact Nat.lt_of_lt_of_le (show ((1 + r) * y).natAbs < 2 ^ 20 by omega) (Nat.pow_le_pow_right (by decide) (by decide))
                · rw [low_times (by omega) F.nn F.glp] at ez2
                  have s03 := (s11.trans s12).trans s13
                  have ez13 := s03 _ _ ez
                  refine ⟨.ref z, rfl, _, _, .tup (SqT.of ez2) (dp_ints _), .tup (SqT.of ez13) (dp_ints _), shaped_intsT _, shaped_intsT _, ?_⟩
                  rw [eqv_self (shaped_intsT _)]
                  refine ⟨_, rfl, iteFF rfl ?_⟩
                  have ezk13 := s03 _ _ ezk
                  have em13 := s03 _ _ em10
                  have eg13 := s03 _ _ eg10
                  have hpr13 := s03 _ _ hpr10
                  have b13 := (b9.trans (But.of s10)).trans (But.of s03)
                  have hh13 := (hh9'.same s10).same s03
                  have hl13 := s03 _ _ (s10 _ _ hl9)
                  have hp13 := (hp9.same s10).same s03
                  -- and back
                  refine ⟨.ref z, rfl, z, rfl, ⟨_, SqT.of ez13⟩, fun D4 nD4 => ?_⟩
                  refine lc_tup (xs := (low rw').map V.int) (fun j H' => Same H13 H' ∧ H' D4 = some (.lst ((((low rw').map fun x => (t : Int) / (low rw').sum * x).take j).map V.int))) ⟨same_new nD4, upd_same⟩ (fun j H' _ h => SqT.of (h.1 _ _ ez13)) ?_ ?_
                  · rintro j x H14 hx ⟨s14, hD4⟩
                    rw [List.getElem?_map] at hx
                    obtain ⟨w', hw', rfl⟩ := Option.map_eq_some_iff.mp hx
                    have hwm := List.mem_of_getElem? hw'
                    have h2 := F.lnn w' hwm
                    have h3 : w' ≤ (t : Int) := by
                      obtain ⟨x', hx', rfl⟩ := List.mem_map.mp hwm
                      exact Int.le_trans (div_le_self' (F.nn _ hx')) (hle _ hx')
                    have h4 : (low rw').sum ≤ (t : Int) := by
                      rw [F.mul]
                      have h6 := F.lsum
                      have h7 : (1 : Int) * (low rw').sum ≤ (gl rw' : Int) * (low rw').sum := Int.mul_le_mul_of_nonneg_right (by have := F.glp; omega) (by omega)
                      omega
                    have h8 := F.lsum
                    have h9 := F.llen
                    have h5 : 0 ≤ (t : Int) / (low rw').sum := Int.ediv_nonneg (by omega) (by have := F.lsum; omega)
                    have h6 : (t : Int) / (low rw').sum ≤ t := Int.ediv_le_self _ (by omega)
                    refine ⟨rfl, tYes_in ?_⟩
                    refine ⟨_, rfl, .ref m, rfl, .ref z, rfl, m, .int (low rw').sum, rfl, by rw [← eval]; exact DGet.t (s14 _ _ em13) (s14 _ _ ezk13), _, _, rfl, rfl, wide_div (b := 60) F.lsum (Nat.lt_of_le_of_lt (show (low rw').sum.natAbs ≤ 60 by omega) (by decide)) (by decide) (by decide), .int w', rfl, _, _, rfl, rfl, .inl ⟨by omega, by omega⟩, _, hD4, ?_, fun b' o eb => ?_, ?_⟩
                    · rw [List.length_map, List.length_take, List.length_map]
                      exact small (by omega)
                    · rw [upd_ne (ne_of_none eb nD4)]
                      exact s14 _ _ eb
                    · rw [upd_same, List.take_add_one, List.getElem?_map, hw', List.map_append]
                      rfl
                  · rintro H14 ⟨s14, hD4⟩
                    rw [List.length_map, List.take_of_length_le (by rw [List.length_map]; exact Nat.le_refl _), F.back] at hD4
                    refine .inl ⟨D4, _, rfl, SqL.of hD4, fun t3 nt3 => ?_⟩
                    have s15 : Same H14 (upd H14 t3 (.tup (rw'.map V.int))) := same_new nt3
                    have et3 : (upd H14 t3 (.tup (rw'.map V.int))) t3 = some (.tup (rw'.map V.int)) := upd_same
                    generalize upd H14 t3 (.tup (rw'.map V.int)) = H15 at s15 et3 ⊢
                    have s35 := s14.trans s15
                    refine ⟨.ref p, rfl, _, _, .tup (SqT.of et3) (dp_ints _), .tup (SqT.of (s35 _ _ hpr13)) (dp_ints _), shaped_intsT _, shaped_intsT _, ?_⟩
                    rw [eqv_self (shaped_intsT _)]
                    refine ⟨_, rfl, iteFF rfl ?_⟩
                    have eg15 := s35 _ _ eg13
                    have hfl : (fndL ((rowsL (n + 1) t).take i)).length ≤ 3721 := by
                      unfold fndL
                      rw [List.length_map, List.length_take]
                      omega
                    refine ⟨.ref g, rfl, .ref z, rfl, g, _, rfl, DPut.t eg15 (s35 _ _ ezk13) (small (by omega)), ?_⟩
                    refine ⟨_, _, rfl, fun b' o nb e => ?_, (hh13.same s35).put hga, ?_, ?_, ?_, ?_⟩
                    · rw [upd_ne (fun z' => by subst z'; rw [ngH] at e; cases e)]
                      exact s35 _ _ (b13 _ _ nb e)
                    · rw [upd_ne (Ne.symm hgl)]
                      exact s35 _ _ hl13
                    · have go : ∀ {ps : List Addr} {rs : List (List Int)}, RowsT H15 ps rs → RowsT (upd H15 g (.dT (putK (fndL ((rowsL (n + 1) t).take i)) (keyL (low rw')) (.bl true)))) ps rs := by
                        intro ps rs r
                        induction r with
                        | nil => exact .nil
                        | cons e t ih => exact .cons ((upd_ne (ne_of e eg15 (by intro z; cases z))).trans e) ih
                      exact go (hp13.same s35)
                    · rw [upd_ne (Ne.symm hgm)]
                      exact s35 _ _ em13
                    · rw [upd_same, putK_newG (fnd_new h0 hr), List.take_add_one, hr]
                      unfold fndL
                      rw [List.map_append]
                      rfl
            · rintro σ H9 ⟨y8, y11, rfl, b9, hh9', hl9, hp9, em9, eg9⟩
              rw [List.length_map, lps, List.take_length] at eg9
              have elen : (fndL (rowsL (n + 1) t)).length = (metL (n + 1) (divs t)).length := by
                rw [met_len okB]
                unfold fndL
                rw [List.length_map]
              refine ⟨.ref g, rfl, g, _, rfl, eg9, .ref m, rfl, m, _, rfl, em9, rfl, _, rfl, iteTT (by rw [elen]; simp) ?_⟩
              refine ⟨.ref l, rfl, l, rfl, ⟨_, SqL.of hl9⟩, fun D5 nD5 => ?_⟩
              refine lc_list (K := K) (xs := ps.map V.ref) (fun j H' => Same H9 H' ∧ ∃ bs : List Bool, H' D5 = some (.lst (bs.map V.bl)) ∧ bs.length ≤ j ∧ ∀ b' ∈ bs, b' = true) ⟨same_new nD5, [], upd_same, Nat.le_refl _, fun _ h => by cases h⟩ (fun j H' _ h => SqL.of (h.1 _ _ hl9)) ?_ ?_
              · rintro j x H10 hx ⟨s10, bs, hD5, hbl, hbs⟩
                rw [List.getElem?_map] at hx
                obtain ⟨p, hpj, rfl⟩ := Option.map_eq_some_iff.mp hx
                obtain ⟨rw', hr, hpr⟩ := hp9.get hpj
                have hrm := List.mem_of_getElem? hr
                have hjl : j < (rowsL (n + 1) t).length := (List.getElem?_eq_some_iff.mp hr).1
                have F := rowF h0 hrm
                have hpr10 := s10 _ _ hpr
                refine ⟨rfl, ?_⟩
                refine ⟨.ref p, rfl, .int ((n + 1 : Nat) : Int), rfl, .ref p, ((n + 1 : Nat) : Int), .tuple (rw'.map PyData.int), rfl, .tup (SqT.of hpr10) (dq_ints rw'), fun H11 s11 => ?_⟩
                rw [shD_row F.len F.nn]
                have hD11 := s11 _ _ hD5
                by_cases cg : gl rw' = 1
                · refine ⟨_, rfl, iteTT (decide_eq_true cg) ⟨.ref p, rfl, p, rw', rfl, SqT.of (s11 _ _ hpr10), fun x hx => ?_, ?_, ?_, ?_, okA _ hrm, fun H12 s12 => ?_⟩⟩
                  · refine ⟨F.nn x hx, ?_⟩
                    have := le_sumI (ns := rw') F.nn hx
                    rw [F.sum] at this
                    omega
                  · rw [F.sum]
                    omega
                  · rw [F.sum]
                    omega
                  · have := F.len
                    omega
                  · refine ⟨_, s12 _ _ hD11, ?_, fun b' o eb => ?_, bs ++ [true], ?_, ?_, ?_⟩
                    · rw [List.length_map]
                      exact small (by omega)
                    · rw [upd_ne (ne_of_none eb nD5)]
                      exact s12 _ _ (s11 _ _ (s10 _ _ eb))
                    · rw [upd_same, List.map_append]
                      rfl
                    · rw [List.length_append]
                      show bs.length + 1 ≤ j + 1
                      omega
                    · intro b' hb'
                      rcases List.mem_append.mp hb' with h | h
                      · exact hbs _ h
                      · exact List.mem_singleton.mp h
                · exact ⟨_, rfl, iteFF (decide_eq_false cg) ⟨s10.trans s11, bs, hD11, by omega, hbs⟩⟩
              · rintro H10 ⟨s10, bs, hD5, hbl, hbs⟩
                refine ⟨D5, bs, rfl, SqL.of hD5, ?_⟩
                rw [show bs.all id = true from List.all_eq_true.mpr hbs]
                exact q _ (b9.trans (But.of s10)) (hh9'.same s10)
end
end NG

namespace NG
open PySem PySem.Spec PyProof.Rows L2
def spLaw (K : PySem.W.Frag) : Sp := fun vs H Q _ => ∃ (a : Addr) (ns : List Int), vs = [.ref a] ∧ SqL K H a (ns.map V.int) ∧ ns.length ≤ 63 ∧ ∀ H', Q (.bl true) H'
section
variable {P : Program} {w : World} {K : PySem.W.Frag} {mg : Str → Option Value} {base : Heap}
theorem ok_law {f : Addr} {fd : FuncData} (F : Fun K "law" "law" s_law f fd) (B : Bl mg) (c_L_hand : Cal P w K mg base 1 "_law_hand" (spHand K)) (c_L_take : Cal P w K mg base 1 "_law_take" spTake) (c_L_right : Cal P w K mg base 5 "_law_right" (spRight2 K)) : FnOk P w K mg base CX0 6 f fd ["_law_script"] (spLaw K) := by
  refine F.ok sc_law (fun vs H Q E h => ?_) (fun cdv A outer s H vs Q E hr h => ?_)
  · obtain ⟨_, _, rfl, _⟩ := h
    rfl
  · obtain ⟨sc, ns, rfl, hS, hl, q⟩ := h
    refine ⟨_, (pss_cons (ps_for PassesOwn.never rfl (pi_range1 rfl B.range (pa_cons (pe_callB (call_max2 rfl) (by rfl) B.max (by decide +kernel) (pa_cons pe_int (pa_cons (pe_callB (call_min2 rfl) (by rfl) B.min (by decide +kernel) (pa_cons pe_int (pa_cons (pe_callB call_len_seq (by rfl) B.len PySem.boot_len (pa_cons (pv 0) pa_nil)) pa_nil))) pa_nil))) pa_nil)) (pg_name (i := 1) sc_law.nd rfl (.inl rfl)) (pss_cons (ps_set (i := 2) sc_law.nd rfl (.inl rfl) (pe_c c_L_hand hr (by omega) (by rfl) (pa_cons (pv 0) (pa_cons (pv 1) pa_nil)))) (pss_one (ps_for PassesOwn.never rfl (pi_tup (pe_tup (pa_cons (pe_tup (pa_cons pe_int (pa_cons pe_int pa_nil))) (pa_cons (pe_tup (pa_cons pe_int (pa_cons pe_int pa_nil))) pa_nil)))) (pg_tup rfl (pgs_cons (pg_name (i := 3) sc_law.nd rfl (.inl rfl)) (pgs_cons (pg_name (i := 4) sc_law.nd rfl (.inl rfl)) pgs_nil))) (pss_one (ps_if (pt_not (pt_val (pe_c c_L_right hr (by omega) (by rfl) (pa_cons (pv 2) (pa_cons (pv 3) (pa_cons (pe_op op_add pe_int (pe_c c_L_take hr (by omega) (by rfl) (pa_cons (pv 2) (pa_cons (pv 4) pa_nil)))) pa_nil)))))) (pss_one (ps_ret pe_bl)) pss_nil)))))) (pss_one (ps_ret pe_bl))), ?_⟩
    have hmn : ∀ z : Int, 0 ≤ z → 0 ≤ (if (if z < 2 then z else 2) > 1 then (if z < 2 then z else 2) else 1) ∧ (if (if z < 2 then z else 2) > 1 then (if z < 2 then z else 2) else 1) ≤ 2 := fun z hz => by
      split <;> split <;> omega
    have h3 := hmn (((ns.map V.int).length : Nat) : Int) (by omega)
    refine ⟨.ref sc, rfl, sc, _, rfl, .inl hS, _, _, rfl, _, _, rfl, _, rfl, by omega, by omega, ?_⟩
    refine for_range (fun i σ H' => ∃ y1 y2 y3 y4, σ = [some (.ref sc), y1, y2, y3, y4] ∧ Same H H') ⟨none, none, none, none, rfl, Same.refl _⟩ ?_ ?_
    · rintro i σ H1 hi ⟨y1, y2, y3, y4, rfl, sm1⟩
      have hi4 : i < 2 := by omega
      refine ⟨.ref sc, rfl, .int (0 + (i : Int)), rfl, sc, _, ns, rfl, by omega, by omega, sm1.seq hS, fun a g sd np g0 sd0 => ?_⟩
      have hh1 : HandAt (upd H1 a (.lst [.int g, .int sd, .int 0])) a 0 := ⟨g, sd, 0, upd_same, g0, sd0, by decide, by decide⟩
      have b1 : But a H1 (upd H1 a (.lst [.int g, .int sd, .int 0])) := But.put
      generalize upd H1 a (.lst [.int g, .int sd, .int 0]) = H2 at hh1 b1 ⊢
      refine ⟨(by show 2 ≤ sizeLine; decide), fun p1 n1 => ⟨(by show 2 ≤ sizeLine; decide), fun p2 n2 => ⟨(by show 2 ≤ sizeLine; decide), fun p3 n3 => ?_⟩⟩⟩
      have hh3 := ((hh1.new (o := .tup [.int 2, .int 60]) n1).new (o := .tup [.int 3, .int 20]) n2).new (o := .tup [.ref p1, .ref p2]) n3
      have b3 := ((b1.trans (But.new (o := .tup [.int 2, .int 60]) n1)).trans (But.new (o := .tup [.int 3, .int 20]) n2)).trans (But.new (o := .tup [.ref p1, .ref p2]) n3)
      have e3 : (upd (upd (upd H2 p1 (.tup [.int 2, .int 60])) p2 (.tup [.int 3, .int 20])) p3 (.tup [.ref p1, .ref p2])) p3 = some (.tup [.ref p1, .ref p2]) := upd_same
      have e2 : (upd (upd (upd H2 p1 (.tup [.int 2, .int 60])) p2 (.tup [.int 3, .int 20])) p3 (.tup [.ref p1, .ref p2])) p2 = some (.tup [.int 3, .int 20]) := same_new n3 _ _ upd_same
      have e1 : (upd (upd (upd H2 p1 (.tup [.int 2, .int 60])) p2 (.tup [.int 3, .int 20])) p3 (.tup [.ref p1, .ref p2])) p1 = some (.tup [.int 2, .int 60]) := same_new n3 _ _ (same_new n2 _ _ upd_same)
      generalize upd (upd (upd H2 p1 (.tup [.int 2, .int 60])) p2 (.tup [.int 3, .int 20])) p3 (.tup [.ref p1, .ref p2]) = H3 at hh3 b3 e3 e2 e1 ⊢
      have np1 : p1 ≠ a := hh1.ne n1
      have np2 : p2 ≠ a := (hh1.new (o := .tup [.int 2, .int 60]) n1).ne n2
      have np3 : p3 ≠ a := ((hh1.new (o := .tup [.int 2, .int 60]) n1).new (o := .tup [.int 3, .int 20]) n2).ne n3
      refine ⟨p3, rfl, ⟨_, SqT.of e3⟩, ?_⟩
      refine for_tup (K := K) (xs := [.ref p1, .ref p2]) (fun j σ H' => ∃ y3 y4, σ = [some (.ref sc), some (.int (0 + (i : Int))), some (.ref a), y3, y4] ∧ But a H1 H' ∧ But a H3 H' ∧ HandAt H' a (2 * j)) ⟨_, _, rfl, b3, But.refl _ _, hh3.le (by omega)⟩ (fun j σ H' _ h => by obtain ⟨_, _, _, _, h, _⟩ := h; exact SqT.of (h _ _ np3 e3)) ?_ ?_
      · rintro j x σ H4 hx ⟨z3, z4, rfl, b4, b34, hh4⟩
        have key : ∃ (p : Addr) (n m : Nat), x = .ref p ∧ H4 p = some (.tup [.int ((n + 1 : Nat) : Int), .int (m : Int)]) ∧ (n = 1 ∧ m = 60 ∨ n = 2 ∧ m = 20) := by
          match j, hx with
          | 0, hx => exact ⟨p1, 1, 60, (Option.some.inj hx).symm, b34 _ _ np1 e1, .inl ⟨rfl, rfl⟩⟩
          | 1, hx => exact ⟨p2, 2, 20, (Option.some.inj hx).symm, b34 _ _ np2 e2, .inr ⟨rfl, rfl⟩⟩
        have hj2 : j < 2 := by
          have := (List.getElem?_eq_some_iff.mp hx).1
          simpa using this
        obtain ⟨p, n, m, rfl, ep, hnm⟩ := key
        refine ⟨p, _, rfl, SqT.of ep, rfl, _, _, rfl, _, _, rfl, rfl, ?_⟩
        refine ⟨.ref a, rfl, _, rfl, .ref a, rfl, _, rfl, a, (m : Int), _, rfl, by omega, by omega, hh4, by omega, fun H5 r b5 hh5 r0 r1 => ⟨_, _, rfl, rfl, ?_⟩⟩
        obtain ⟨t, ht⟩ : ∃ t : Nat, 1 + r = (t : Int) := ⟨(1 + r).toNat, by omega⟩
        refine ⟨a, n, t, _, (by show [V.ref a, V.int ((n + 1 : Nat) : Int), V.int (1 + r)] = _; rw [ht]), by omega, by omega, by omega, fun h2 => by omega, hh5, by omega, fun H6 b6 hh6 => ⟨true, rfl, iteFF rfl ?_⟩⟩
        exact ⟨_, _, rfl, (b4.trans b5).trans b6, (b34.trans b5).trans b6, hh6.le (by omega)⟩
      · rintro σ H4 ⟨z3, z4, rfl, b4, b34, hh4⟩
        exact ⟨_, _, _, _, rfl, sm1.trans (b4.same np)⟩
    · rintro σ H1 ⟨y1, y2, y3, y4, rfl, sm1⟩
      exact q _
end
end NG

namespace NG
open PySem PySem.Spec PyProof.Rows L2
theorem all_mk {l : PySem.W.OpenLaw} {w : World} {K : PySem.W.Frag} {h : Heap} {mg : Str → Option Value} {fa f_is_number f_common_part f_is_shares f_lowest f_mills f_L_hand f_L_take f_L_of f_L_rows f_L_mills_right f_L_right f_law : Addr} (X : K.In h) (G : h.Ns mainGlobals mg) (hfa : mg "law" = some (.ref fa))
    {od_is_number an_is_number od_common_part an_common_part od_is_shares an_is_shares od_lowest an_lowest od_mills an_mills od_L_hand an_L_hand od_L_take an_L_take od_L_of an_L_of od_L_rows an_L_rows od_L_mills_right an_L_mills_right od_L_right an_L_right od_law an_law : Option Addr} {sl_is_number sl_common_part sl_is_shares sl_lowest sl_mills sl_L_hand sl_L_take sl_L_of sl_L_rows sl_L_mills_right sl_L_right sl_law : Array (Option Value)} {oc_is_number kV_is_number dc_is_number pm_is_number cd_is_number ct_is_number oc_common_part kV_common_part dc_common_part pm_common_part cd_common_part ct_common_part oc_is_shares kV_is_shares dc_is_shares pm_is_shares cd_is_shares ct_is_shares oc_lowest kV_lowest dc_lowest pm_lowest cd_lowest ct_lowest oc_mills kV_mills dc_mills pm_mills cd_mills ct_mills oc_L_hand kV_L_hand dc_L_hand pm_L_hand cd_L_hand ct_L_hand oc_L_take kV_L_take dc_L_take pm_L_take cd_L_take ct_L_take oc_L_of kV_L_of dc_L_of pm_L_of cd_L_of ct_L_of oc_L_rows kV_L_rows dc_L_rows pm_L_rows cd_L_rows ct_L_rows oc_L_mills_right kV_L_mills_right dc_L_mills_right pm_L_mills_right cd_L_mills_right ct_L_mills_right oc_L_right kV_L_right dc_L_right pm_L_right cd_L_right ct_L_right oc_law kV_law dc_law pm_law cd_law ct_law : Value}
    (a_is_number : PySem.W.nsIn K mainGlobals "is_number" = some (some (.ref f_is_number))) (l_is_number : K.lookup f_is_number = some ⟨oc_is_number, od_is_number, .func (PySem.W.fnOf "is_number" "is_number" (defArgs s_is_number) (defBody s_is_number) (defScope s_is_number) .none kV_is_number dc_is_number pm_is_number an_is_number cd_is_number ct_is_number), sl_is_number⟩) (c_is_number : PySem.W.codeIn K cd_is_number "is_number" = true) (k_is_number : PySem.W.keepIn K (.ref f_is_number) = true)
    (a_common_part : PySem.W.nsIn K mainGlobals "common_part" = some (some (.ref f_common_part))) (l_common_part : K.lookup f_common_part = some ⟨oc_common_part, od_common_part, .func (PySem.W.fnOf "common_part" "common_part" (defArgs s_common_part) (defBody s_common_part) (defScope s_common_part) .none kV_common_part dc_common_part pm_common_part an_common_part cd_common_part ct_common_part), sl_common_part⟩) (c_common_part : PySem.W.codeIn K cd_common_part "common_part" = true) (k_common_part : PySem.W.keepIn K (.ref f_common_part) = true)
    (a_is_shares : PySem.W.nsIn K mainGlobals "is_shares" = some (some (.ref f_is_shares))) (l_is_shares : K.lookup f_is_shares = some ⟨oc_is_shares, od_is_shares, .func (PySem.W.fnOf "is_shares" "is_shares" (defArgs s_is_shares) (defBody s_is_shares) (defScope s_is_shares) .none kV_is_shares dc_is_shares pm_is_shares an_is_shares cd_is_shares ct_is_shares), sl_is_shares⟩) (c_is_shares : PySem.W.codeIn K cd_is_shares "is_shares" = true) (k_is_shares : PySem.W.keepIn K (.ref f_is_shares) = true)
    (a_lowest : PySem.W.nsIn K mainGlobals "lowest" = some (some (.ref f_lowest))) (l_lowest : K.lookup f_lowest = some ⟨oc_lowest, od_lowest, .func (PySem.W.fnOf "lowest" "lowest" (defArgs s_lowest) (defBody s_lowest) (defScope s_lowest) .none kV_lowest dc_lowest pm_lowest an_lowest cd_lowest ct_lowest), sl_lowest⟩) (c_lowest : PySem.W.codeIn K cd_lowest "lowest" = true) (k_lowest : PySem.W.keepIn K (.ref f_lowest) = true)
    (a_mills : PySem.W.nsIn K mainGlobals "mills" = some (some (.ref f_mills))) (l_mills : K.lookup f_mills = some ⟨oc_mills, od_mills, .func (PySem.W.fnOf "mills" "mills" (defArgs s_mills) (defBody s_mills) (defScope s_mills) .none kV_mills dc_mills pm_mills an_mills cd_mills ct_mills), sl_mills⟩) (c_mills : PySem.W.codeIn K cd_mills "mills" = true) (k_mills : PySem.W.keepIn K (.ref f_mills) = true)
    (a_L_hand : PySem.W.nsIn K mainGlobals "_law_hand" = some (some (.ref f_L_hand))) (l_L_hand : K.lookup f_L_hand = some ⟨oc_L_hand, od_L_hand, .func (PySem.W.fnOf "_law_hand" "_law_hand" (defArgs s_L_hand) (defBody s_L_hand) (defScope s_L_hand) .none kV_L_hand dc_L_hand pm_L_hand an_L_hand cd_L_hand ct_L_hand), sl_L_hand⟩) (c_L_hand : PySem.W.codeIn K cd_L_hand "_law_hand" = true) (k_L_hand : PySem.W.keepIn K (.ref f_L_hand) = true)
    (a_L_take : PySem.W.nsIn K mainGlobals "_law_take" = some (some (.ref f_L_take))) (l_L_take : K.lookup f_L_take = some ⟨oc_L_take, od_L_take, .func (PySem.W.fnOf "_law_take" "_law_take" (defArgs s_L_take) (defBody s_L_take) (defScope s_L_take) .none kV_L_take dc_L_take pm_L_take an_L_take cd_L_take ct_L_take), sl_L_take⟩) (c_L_take : PySem.W.codeIn K cd_L_take "_law_take" = true) (k_L_take : PySem.W.keepIn K (.ref f_L_take) = true)
    (a_L_of : PySem.W.nsIn K mainGlobals "_law_of" = some (some (.ref f_L_of))) (l_L_of : K.lookup f_L_of = some ⟨oc_L_of, od_L_of, .func (PySem.W.fnOf "_law_of" "_law_of" (defArgs s_L_of) (defBody s_L_of) (defScope s_L_of) .none kV_L_of dc_L_of pm_L_of an_L_of cd_L_of ct_L_of), sl_L_of⟩) (c_L_of : PySem.W.codeIn K cd_L_of "_law_of" = true) (k_L_of : PySem.W.keepIn K (.ref f_L_of) = true)
    (a_L_rows : PySem.W.nsIn K mainGlobals "_law_rows" = some (some (.ref f_L_rows))) (l_L_rows : K.lookup f_L_rows = some ⟨oc_L_rows, od_L_rows, .func (PySem.W.fnOf "_law_rows" "_law_rows" (defArgs s_L_rows) (defBody s_L_rows) (defScope s_L_rows) .none kV_L_rows dc_L_rows pm_L_rows an_L_rows cd_L_rows ct_L_rows), sl_L_rows⟩) (c_L_rows : PySem.W.codeIn K cd_L_rows "_law_rows" = true) (k_L_rows : PySem.W.keepIn K (.ref f_L_rows) = true)
    (a_L_mills_right : PySem.W.nsIn K mainGlobals "_law_mills_right" = some (some (.ref f_L_mills_right))) (l_L_mills_right : K.lookup f_L_mills_right = some ⟨oc_L_mills_right, od_L_mills_right, .func (PySem.W.fnOf "_law_mills_right" "_law_mills_right" (defArgs s_L_mills_right) (defBody s_L_mills_right) (defScope s_L_mills_right) .none kV_L_mills_right dc_L_mills_right pm_L_mills_right an_L_mills_right cd_L_mills_right ct_L_mills_right), sl_L_mills_right⟩) (c_L_mills_right : PySem.W.codeIn K cd_L_mills_right "_law_mills_right" = true) (k_L_mills_right : PySem.W.keepIn K (.ref f_L_mills_right) = true)
    (a_L_right : PySem.W.nsIn K mainGlobals "_law_right" = some (some (.ref f_L_right))) (l_L_right : K.lookup f_L_right = some ⟨oc_L_right, od_L_right, .func (PySem.W.fnOf "_law_right" "_law_right" (defArgs s_L_right) (defBody s_L_right) (defScope s_L_right) .none kV_L_right dc_L_right pm_L_right an_L_right cd_L_right ct_L_right), sl_L_right⟩) (c_L_right : PySem.W.codeIn K cd_L_right "_law_right" = true) (k_L_right : PySem.W.keepIn K (.ref f_L_right) = true)
    (a_law : PySem.W.nsIn K mainGlobals "law" = some (some (.ref f_law))) (l_law : K.lookup f_law = some ⟨oc_law, od_law, .func (PySem.W.fnOf "law" "law" (defArgs s_law) (defBody s_law) (defScope s_law) .none kV_law dc_law pm_law an_law cd_law ct_law), sl_law⟩) (c_law : PySem.W.codeIn K cd_law "law" = true) (k_law : PySem.W.keepIn K (.ref f_law) = true)
    (z_len : PySem.W.nsIn K mainGlobals "len" = some none)
    (z_sum : PySem.W.nsIn K mainGlobals "sum" = some none)
    (z_max : PySem.W.nsIn K mainGlobals "max" = some none)
    (z_min : PySem.W.nsIn K mainGlobals "min" = some none)
    (z_abs : PySem.W.nsIn K mainGlobals "abs" = some none)
    (z_int : PySem.W.nsIn K mainGlobals "int" = some none)
    (z_tuple : PySem.W.nsIn K mainGlobals "tuple" = some none)
    (z_range : PySem.W.nsIn K mainGlobals "range" = some none)
    (z_sorted : PySem.W.nsIn K mainGlobals "sorted" = some none)
    (z_zip : PySem.W.nsIn K mainGlobals "zip" = some none)
    (z_isinstance : PySem.W.nsIn K mainGlobals "isinstance" = some none)
    (z_list : PySem.W.nsIn K mainGlobals "list" = some none)
    (z_all : PySem.W.nsIn K mainGlobals "all" = some none)
    (z_repr : PySem.W.nsIn K mainGlobals "repr" = some none)
    (z_str : PySem.W.nsIn K mainGlobals "str" = some none)
    (z_enumerate : PySem.W.nsIn K mainGlobals "enumerate" = some none)
    (z_bool : PySem.W.nsIn K mainGlobals "bool" = some none)
    (z_dict : PySem.W.nsIn K mainGlobals "dict" = some none)
    : ∃ fd : FuncData, (∀ (s : Shared) (v : Value), BindsTo s fd ⟨[v], []⟩ [("_law_script", v)]) ∧ ∀ base : Heap, K.In base → base.Ns mainGlobals mg → FnOk l.prog w K mg base CX0 6 fa fd ["_law_script"] (spLaw K) := by
  have e := hfa.symm.trans (PySem.W.mg_of X G a_law)
  cases e
  have F_is_number := fun_mk (st := s_is_number) l_is_number c_is_number k_is_number
  have g_is_number := PySem.W.mg_of X G a_is_number
  have b_is_number := F_is_number.binds (ps := ["thing"]) fun _ _ _ _ _ _ us hl => match us, hl with | [_], _ => rfl
  have F_common_part := fun_mk (st := s_common_part) l_common_part c_common_part k_common_part
  have g_common_part := PySem.W.mg_of X G a_common_part
  have b_common_part := F_common_part.binds (ps := ["row"]) fun _ _ _ _ _ _ us hl => match us, hl with | [_], _ => rfl
  have F_is_shares := fun_mk (st := s_is_shares) l_is_shares c_is_shares k_is_shares
  have g_is_shares := PySem.W.mg_of X G a_is_shares
  have b_is_shares := F_is_shares.binds (ps := ["thing", "many"]) fun _ _ _ _ _ _ us hl => match us, hl with | [_, _], _ => rfl
  have F_lowest := fun_mk (st := s_lowest) l_lowest c_lowest k_lowest
  have g_lowest := PySem.W.mg_of X G a_lowest
  have b_lowest := F_lowest.binds (ps := ["row"]) fun _ _ _ _ _ _ us hl => match us, hl with | [_], _ => rfl
  have F_mills := fun_mk (st := s_mills) l_mills c_mills k_mills
  have g_mills := PySem.W.mg_of X G a_mills
  have b_mills := F_mills.binds (ps := ["shares", "sign"]) fun _ _ _ _ _ _ us hl => match us, hl with | [_, _], _ => rfl
  have F_L_hand := fun_mk (st := s_L_hand) l_L_hand c_L_hand k_L_hand
  have g_L_hand := PySem.W.mg_of X G a_L_hand
  have b_L_hand := F_L_hand.binds (ps := ["_law_script", "_law_k"]) fun _ _ _ _ _ _ us hl => match us, hl with | [_, _], _ => rfl
  have F_L_take := fun_mk (st := s_L_take) l_L_take c_L_take k_L_take
  have g_L_take := PySem.W.mg_of X G a_L_take
  have b_L_take := F_L_take.binds (ps := ["_law_hand_here", "_law_many"]) fun _ _ _ _ _ _ us hl => match us, hl with | [_, _], _ => rfl
  have F_L_of := fun_mk (st := s_L_of) l_L_of c_L_of k_L_of
  have g_L_of := PySem.W.mg_of X G a_L_of
  have b_L_of := F_L_of.binds (ps := ["_law_hand_here", "_law_some"]) fun _ _ _ _ _ _ us hl => match us, hl with | [_, _], _ => rfl
  have F_L_rows := fun_mk (st := s_L_rows) l_L_rows c_L_rows k_L_rows
  have g_L_rows := PySem.W.mg_of X G a_L_rows
  have b_L_rows := F_L_rows.binds (ps := ["_law_many", "_law_total"]) fun _ _ _ _ _ _ us hl => match us, hl with | [_, _], _ => rfl
  have F_L_mills_right := fun_mk (st := s_L_mills_right) l_L_mills_right c_L_mills_right k_L_mills_right
  have g_L_mills_right := PySem.W.mg_of X G a_L_mills_right
  have b_L_mills_right := F_L_mills_right.binds (ps := ["_law_shares"]) fun _ _ _ _ _ _ us hl => match us, hl with | [_], _ => rfl
  have F_L_right := fun_mk (st := s_L_right) l_L_right c_L_right k_L_right
  have g_L_right := PySem.W.mg_of X G a_L_right
  have b_L_right := F_L_right.binds (ps := ["_law_hand_here", "_law_many", "_law_total"]) fun _ _ _ _ _ _ us hl => match us, hl with | [_, _, _], _ => rfl
  have F_law := fun_mk (st := s_law) l_law c_law k_law
  have g_law := PySem.W.mg_of X G a_law
  have B : Bl mg := ⟨PySem.W.mg_none_of X G z_len, PySem.W.mg_none_of X G z_sum, PySem.W.mg_none_of X G z_max, PySem.W.mg_none_of X G z_min, PySem.W.mg_none_of X G z_abs, PySem.W.mg_none_of X G z_int, PySem.W.mg_none_of X G z_tuple, PySem.W.mg_none_of X G z_range, PySem.W.mg_none_of X G z_sorted, PySem.W.mg_none_of X G z_zip, PySem.W.mg_none_of X G z_isinstance, PySem.W.mg_none_of X G z_list, PySem.W.mg_none_of X G z_all, PySem.W.mg_none_of X G z_repr, PySem.W.mg_none_of X G z_str, PySem.W.mg_none_of X G z_enumerate⟩
  have n_bool := PySem.W.mg_none_of X G z_bool
  have n_dict := PySem.W.mg_none_of X G z_dict
  refine ⟨PySem.W.fnOf "law" "law" (defArgs s_law) (defBody s_law) (defScope s_law) .none kV_law dc_law pm_law an_law cd_law ct_law, fun s v => .of_eq rfl, fun base _ _ => ?_⟩
  have c_hand := ok_hand (P := l.prog) (w := w) (base := base) F_L_hand g_L_hand b_L_hand B
  have c_take := ok_take (P := l.prog) (w := w) (base := base) F_L_take g_L_take b_L_take
  have c_isnum := ok_isnumQ (P := l.prog) (w := w) (base := base) F_is_number g_is_number b_is_number B n_bool
  have c_common := ok_common (P := l.prog) (w := w) (base := base) F_common_part g_common_part b_common_part B
  have f_lowest' := fn_low2 F_lowest B c_common
  have c_lowest : (Cal l.prog w K mg base 2 "lowest" (spLow2 K)) := ⟨_, _, _, f_lowest', g_lowest, F_lowest.kp, b_lowest⟩
  have f_mills' := fn_mills (P := l.prog) (w := w) (base := base) F_mills B
  have c_mills : (Cal l.prog w K mg base 1 "mills" (spMillsW K)) := ⟨_, _, _, f_mills', g_mills, F_mills.kp, b_mills⟩
  have f_isshares' := fn_isshares F_is_shares B c_isnum c_common
  have c_isshares : (Cal l.prog w K mg base 2 "is_shares" (spIsSh K)) := ⟨_, _, _, f_isshares', g_is_shares, F_is_shares.kp, b_is_shares⟩
  have c_rows := ok_rows (P := l.prog) (w := w) (base := base) F_L_rows g_L_rows b_L_rows B 4
  have c_mr := ok_mr F_L_mills_right g_L_mills_right b_L_mills_right B c_mills
  have c_right := ok_right2 F_L_right g_L_right b_L_right B n_dict c_take c_rows c_isshares c_lowest c_mr
  exact ok_law F_law B c_hand c_take c_right
end NG

open PySem PySem.W PyProof.Rows
set_option maxHeartbeats 0 in
theorem PySem.Challenge.cw_nonegrowsrich_k02_whole_each_row_one_sha_holds : PySem.Challenge.rw_nonegrowsrich_k02_whole_each_row_one_sha.Holds := by
  w_on; o_law; k_head; (case hw => w_witness2)
  k_fill
  refine L2.walk_of (l := PySem.Challenge.rw_nonegrowsrich_k02_whole_each_row_one_sha) (n := 63) (k := 6) (x := "_law_script") (CX := fun _ => L2.CX0) (sp := fun w => NG.spLaw _) rfl (by decide) rfl ⟨rfl, by decide, by decide⟩ (fun w h Y => PySem.W.kIn_of Y) ?F (fun _ _ a ns hl _ hS => ⟨a, ns, rfl, hS, hl, fun _ => rfl⟩) (fun _ _ _ _ _ h => h)
  case F =>
    intro w mg fa h KX G hmg
    refine' NG.all_mk KX G hmg ?a_is_number ?l_is_number ?c_is_number ?k_is_number ?a_common_part ?l_common_part ?c_common_part ?k_common_part ?a_is_shares ?l_is_shares ?c_is_shares ?k_is_shares ?a_lowest ?l_lowest ?c_lowest ?k_lowest ?a_mills ?l_mills ?c_mills ?k_mills ?a_L_hand ?l_L_hand ?c_L_hand ?k_L_hand ?a_L_take ?l_L_take ?c_L_take ?k_L_take ?a_L_of ?l_L_of ?c_L_of ?k_L_of ?a_L_rows ?l_L_rows ?c_L_rows ?k_L_rows ?a_L_mills_right ?l_L_mills_right ?c_L_mills_right ?k_L_mills_right ?a_L_right ?l_L_right ?c_L_right ?k_L_right ?a_law ?l_law ?c_law ?k_law ?z_len ?z_sum ?z_max ?z_min ?z_abs ?z_int ?z_tuple ?z_range ?z_sorted ?z_zip ?z_isinstance ?z_list ?z_all ?z_repr ?z_str ?z_enumerate ?z_bool ?z_dict
    (case a_is_number => k_is); (case l_is_number => k_is); (case c_is_number => k_is); (case k_is_number => k_is); (case a_common_part => k_is); (case l_common_part => k_is); (case c_common_part => k_is); (case k_common_part => k_is); (case a_is_shares => k_is); (case l_is_shares => k_is); (case c_is_shares => k_is); (case k_is_shares => k_is); (case a_lowest => k_is); (case l_lowest => k_is); (case c_lowest => k_is); (case k_lowest => k_is); (case a_mills => k_is); (case l_mills => k_is); (case c_mills => k_is); (case k_mills => k_is); (case a_L_hand => k_is); (case l_L_hand => k_is); (case c_L_hand => k_is); (case k_L_hand => k_is); (case a_L_take => k_is); (case l_L_take => k_is); (case c_L_take => k_is); (case k_L_take => k_is); (case a_L_of => k_is); (case l_L_of => k_is); (case c_L_of => k_is); (case k_L_of => k_is); (case a_L_rows => k_is); (case l_L_rows => k_is); (case c_L_rows => k_is); (case k_L_rows => k_is); (case a_L_mills_right => k_is); (case l_L_mills_right => k_is); (case c_L_mills_right => k_is); (case k_L_mills_right => k_is); (case a_L_right => k_is); (case l_L_right => k_is); (case c_L_right => k_is); (case k_L_right => k_is); (case a_law => k_is); (case l_law => k_is); (case c_law => k_is); (case k_law => k_is); (case z_len => k_is); (case z_sum => k_is); (case z_max => k_is); (case z_min => k_is); (case z_abs => k_is); (case z_int => k_is); (case z_tuple => k_is); (case z_range => k_is); (case z_sorted => k_is); (case z_zip => k_is); (case z_isinstance => k_is); (case z_list => k_is); (case z_all => k_is); (case z_repr => k_is); (case z_str => k_is); (case z_enumerate => k_is); (case z_bool => k_is); (case z_dict => k_is)

