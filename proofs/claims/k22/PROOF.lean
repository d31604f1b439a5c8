import PyProof.Rows.All
import Wide.All
import OpenK.AllK
import Wide.FinOn
import HandS.Base
import HandS.Call
import HandS.List
import HandS.Comp
import HandS.Ends
import HandS.Dict
import HandS.Iter
import HandS.Text
import HandS.Words
import HandS.WordsList
import HandS.WordsDict
import HandS.Conv
import HandS.Codes
import HandS.Wide
import HandS.Style
import KE.KTupSum
import HandS.Walk
import HandS.More
import HandS.Zip
import HandS.IsInst
import HandS.NoneIn
import PyProof.ReprRoads
import PyProof.ReprLen
import KE.KRevSl
import HandS.DeepEq
import KE.GoesMore
import KE.GoesEnum
import HandS.TupAny
import HandS.TupMul
import PySem.Challenge.RW_nonegrowsrich_k22_registers_behind
set_option Elab.async false
set_option linter.all false
set_option maxRecDepth 100000
set_option maxHeartbeats 4000000
namespace NG
open PySem PySem.Spec PyProof.Rows L2

/-! ### sum of a tuple -/
theorem cr_sumT {X : Cx} (hc : X.calm = true) : CallR X (.builtin "sum") (fun vs H Q => ∃ (a : Addr) (ns : List Int), vs = [V.ref a] ∧ SqT X.K H a (ns.map V.int) ∧ Q (.int ns.sum) H) := by
  intro pins s σ H vs us Q I r h
  obtain ⟨a, ns, rfl, hs, q⟩ := h
  obtain ⟨its, rv, hl, _⟩ := I.tuple hs
  rw [Vals.ref1 r]
  have hi := rv.ints
  obtain ⟨xs, e⟩ := hi.allInts.items
  have hn : numsOf (intItems xs).toList = ns := by rw [← e]; exact hi.numsOf
  rw [nums_intItems] at hn
  rw [e] at hl
  refine PySem.W.ktm_sumG (I.ok.hd hc) hl fun h' tk t' hk => ?_
  rw [preSum_eq, List.take_of_length_le (by simp), hn]
  exact ⟨.int _, H, I.kept hk, ⟨_, rfl⟩, q⟩

/-! ### rules whose reading names the written part, for a comprehension's block -/
theorem ixl {X : Cx} (K : PySem.W.Frag) (h : X.K = K := by rfl) : IxR X (rIxL K) := by
  subst h
  exact ix_list
theorem ixt {X : Cx} (K : PySem.W.Frag) (h : X.K = K := by rfl) : IxR X (rIxT K) := by
  subst h
  exact ix_tup
theorem lenK {X : Cx} (K : PySem.W.Frag) (h : X.K = K := by rfl) : CallR X (.builtin "len") (fun xs H Q => ∃ p ys, xs = [.ref p] ∧ (SqL K H p ys ∨ SqT K H p ys) ∧ Q (.int ys.length) H) := by
  subst h
  exact call_len_seq
theorem sumT {X : Cx} (K : PySem.W.Frag) (hc : X.calm = true) (h : X.K = K := by rfl) : CallR X (.builtin "sum") (fun vs H Q => ∃ (a : Addr) (ns : List Int), vs = [V.ref a] ∧ SqT K H a (ns.map V.int) ∧ Q (.int ns.sum) H) := by
  subst h
  exact cr_sumT hc
theorem sumL {X : Cx} (K : PySem.W.Frag) (hc : X.calm = true) (h : X.K = K := by rfl) : CallR X (.builtin "sum") (rSum K) := by
  subst h
  exact cr_sum hc

/-! ### short words -/
theorem iteFF {c : Bool} {A B : Prop} (hc : c = false) (h : B) : if c = true then A else B := by
  subst hc
  exact iteF h
theorem iteTT {c : Bool} {A B : Prop} (hc : c = true) (h : A) : if c = true then A else B := by
  subst hc
  exact iteT h
theorem iteD {p : Prop} [Decidable p] {A B : Prop} (h1 : p → A) (h2 : ¬ p → B) : if decide p = true then A else B := by
  by_cases h : p
  · rw [decide_eq_true h]
    exact iteT (h1 h)
  · rw [decide_eq_false h]
    exact iteF (h2 h)
theorem at_mem {xs : List V} {i : Int} (h0 : 0 ≤ i) (h1 : i < xs.length) : ∃ v, atI xs i = some v ∧ v ∈ xs := by
  have hj : i.toNat < xs.length := by omega
  refine ⟨xs[i.toNat], ?_, List.getElem_mem hj⟩
  exact at_of (j := i.toNat) (by omega) (List.getElem?_eq_getElem hj)
theorem at_int {ns : List Int} {i : Int} (h0 : 0 ≤ i) (h1 : i < ns.length) : atI (ns.map V.int) i = some (.int (ns.getD i.toNat 0)) := by
  have hj : i.toNat < ns.length := by omega
  refine at_of (j := i.toNat) (by omega) ?_
  rw [List.getElem?_map, List.getElem?_eq_getElem hj, List.getD_eq_getElem?_getD, List.getElem?_eq_getElem hj]
  rfl

/-- an expression, with a word behind it -/
def tCutE (t : TE) : TE := fun σ H Q => ∃ M : VK, t σ H M ∧ ∀ v H', M v H' → Q v H'
theorem pe_cut {X : Cx} {e : Expr} {t : TE} (h : PE X e t) : PE X e (tCutE t) :=
  ⟨fun pins s σ H Q I ⟨M, hm, hq⟩ => thn (h.run pins s σ H M I hm) fun u s1 ⟨x, H1, I1, r, q⟩ => ⟨x, H1, I1, r, hq _ _ q⟩⟩

/-! ### heaps: all but one object is as it was -/
def But (a : Addr) (H H' : Hp) : Prop := ∀ b o, b ≠ a → H b = some o → H' b = some o
theorem But.refl (a : Addr) (H : Hp) : But a H H := fun _ _ _ h => h
theorem But.trans {a : Addr} {H H1 H2 : Hp} (x : But a H H1) (y : But a H1 H2) : But a H H2 := fun b o n h => y b o n (x b o n h)
theorem But.of {a : Addr} {H H' : Hp} (x : Same H H') : But a H H' := fun b o _ h => x b o h
theorem But.new {a p : Addr} {H : Hp} {o : HO} (h : H p = none) : But a H (upd H p o) := fun b u _ e => by
  rw [upd_ne (ne_of_none e h)]
  exact e
theorem But.put {a : Addr} {H : Hp} {o : HO} : But a H (upd H a o) := fun b u n e => by
  rw [upd_ne n]
  exact e
theorem But.same {a : Addr} {H H' : Hp} (x : But a H H') (h : H a = none) : Same H H' := fun b o e => x b o (ne_of_none e h) e
theorem same_new {p : Addr} {H : Hp} {o : HO} (h : H p = none) : Same H (upd H p o) := fun b u e => by
  rw [upd_ne (ne_of_none e h)]
  exact e
theorem But.free {a b : Addr} {H H' : Hp} {o : HO} (x : But a H H') (h : H a = some o) (n : H' b = none) (n2 : H' a ≠ none) : H b = none := by
  cases q : H b with
  | none => rfl
  | some u =>
    by_cases e : b = a
    · subst e
      exact absurd n n2
    · rw [x b u e q] at n
      cases n
theorem But.sqt {a p : Addr} {H H' : Hp} {K : PySem.W.Frag} {l xs : List V} (x : But a H H') (h : H a = some (.lst l)) (q : SqT K H p xs) : SqT K H' p xs := by
  rcases q with (q | ⟨o, q⟩) | q
  · exact .inl (.inl (x _ _ (ne_of q h (by intro z; cases z)) q))
  · exact .inl (.inr ⟨o, x _ _ (ne_of q h (by intro z; cases z)) q⟩)
  · exact .inr q
theorem same_sqt {p : Addr} {H H' : Hp} {K : PySem.W.Frag} {xs : List V} (x : Same H H') (q : SqT K H p xs) : SqT K H' p xs := by
  rcases q with (q | ⟨o, q⟩) | q
  · exact .inl (.inl (x _ _ q))
  · exact .inl (.inr ⟨o, x _ _ q⟩)
  · exact .inr q

/-! ### the hand -/
def HandAt (H : Hp) (a : Addr) (n : Nat) : Prop := ∃ g s m : Int, H a = some (.lst [.int g, .int s, .int m]) ∧ 0 ≤ g ∧ 0 ≤ s ∧ 0 ≤ m ∧ m ≤ n
theorem HandAt.le {H : Hp} {a : Addr} {n k : Nat} (h : HandAt H a n) (l : n ≤ k) : HandAt H a k := by
  obtain ⟨g, s, m, e, h1, h2, h3, h4⟩ := h
  exact ⟨g, s, m, e, h1, h2, h3, by omega⟩
theorem HandAt.new {H : Hp} {a p : Addr} {n : Nat} {o : HO} (h : HandAt H a n) (hp : H p = none) : HandAt (upd H p o) a n := by
  obtain ⟨g, s, m, e, h1, h2, h3, h4⟩ := h
  exact ⟨g, s, m, by rw [upd_ne (ne_of_none e hp)]; exact e, h1, h2, h3, h4⟩
theorem HandAt.put {H : Hp} {a p : Addr} {n : Nat} {o : HO} (h : HandAt H a n) (hp : p ≠ a) : HandAt (upd H p o) a n := by
  obtain ⟨g, s, m, e, h1, h2, h3, h4⟩ := h
  exact ⟨g, s, m, by rw [upd_ne (Ne.symm hp)]; exact e, h1, h2, h3, h4⟩
theorem HandAt.ne {H : Hp} {a p : Addr} {n : Nat} (h : HandAt H a n) (hp : H p = none) : p ≠ a := by
  obtain ⟨g, s, m, e, _⟩ := h
  exact (ne_of_none e hp).symm
theorem HandAt.some {H : Hp} {a : Addr} {n : Nat} (h : HandAt H a n) : ∃ l, H a = some (.lst l) := by
  obtain ⟨g, s, m, e, _⟩ := h
  exact ⟨_, e⟩
theorem But.sq {a p : Addr} {H H' : Hp} {K : PySem.W.Frag} {n : Nat} {xs : List V} (x : But a H H') (h : HandAt H a n) (q : SqT K H p xs) : SqT K H' p xs := by
  obtain ⟨l, e⟩ := h.some
  exact x.sqt e q

structure Bl (mg : Str → Option Value) : Prop where
  len : mg "len" = none
  sum : mg "sum" = none
  max : mg "max" = none
  min : mg "min" = none
  abs : mg "abs" = none
  int : mg "int" = none
  tuple : mg "tuple" = none
  range : mg "range" = none
  sorted : mg "sorted" = none
  zip : mg "zip" = none
  isinstance : mg "isinstance" = none
  list : mg "list" = none
  all : mg "all" = none
  repr : mg "repr" = none
  str : mg "str" = none
  enumerate : mg "enumerate" = none

/-! ### a def that may be called by its name -/
structure Cal (P : Program) (w : World) (K : PySem.W.Frag) (mg : Str → Option Value) (base : Heap) (k : Nat) (x : Str) (sp : Sp) : Prop where
  ex : ∃ (f : Addr) (fd : FuncData) (ps : List Str), FnOk P w K mg base CX0 k f fd ps sp ∧ mg x = some (.ref f) ∧ PySem.W.keepIn K (.ref f) = true ∧ Binds K fd ps []
section
variable {X : Cx} {k j : Nat} {x : Str} {sp : Sp} {p pos : Pos} {e : Expr} {es : List Expr} {t : TA}
theorem pe_c (c : Cal X.prog X.w X.K X.mg X.base k x sp) (hr : Room j X.A) (hk : k ≤ j) (hg : Gl X x) (ha : PA X (e :: es) t)
    (hdb : (x == ("__debug__" : Str)) = false := by decide) (he : starEach (e :: es) X.env = (false, eval e X.env) :: starEach es X.env := by rfl) (hpl : (backTo pos (starEach es X.env)).any (·.1) = false := by rfl) :
    PE X (.Call (.Name x p) (e :: es) [] pos) (tCall sp [] E0 t) := by
  obtain ⟨f, fd, ps, F, hm, kp, b⟩ := c.ex
  exact pe_call F (hr.mono hk) hg hm kp b .nil pass0 ha hdb he hpl
end
theorem Cal.mono {P : Program} {w : World} {K : PySem.W.Frag} {mg : Str → Option Value} {base : Heap} {j k : Nat} {x : Str} {sp : Sp} (c : Cal P w K mg base j x sp) (h : j ≤ k) : Cal P w K mg base k x sp := by
  obtain ⟨f, fd, ps, F, r⟩ := c.ex
  exact ⟨f, fd, ps, F.mono h, r⟩

/-! ### promises of the draws -/
def spTake : Sp := fun vs H Q _ => ∃ (a : Addr) (many : Int) (n : Nat), vs = [.ref a, .int many] ∧ 0 < many ∧ many < 2 ^ 62 ∧ HandAt H a n ∧ n ≤ 1000000000 ∧
  ∀ H' r, But a H H' → HandAt H' a (n + 1) → 0 ≤ r → r < many → Q (.int r) H'
def spHand (K : PySem.W.Frag) : Sp := fun vs H Q _ => ∃ (a : Addr) (k : Int) (ns : List Int), vs = [.ref a, .int k] ∧ 0 ≤ k ∧ k < 1000 ∧ SqL K H a (ns.map V.int) ∧
  ∀ p g s, H p = none → 0 ≤ g → 0 ≤ s → Q (.ref p) (upd H p (.lst [.int g, .int s, .int 0]))
/-- an item of a list that is given -/
def spOf (K : PySem.W.Frag) : Sp := fun vs H Q _ => ∃ (a b : Addr) (xs : List V) (n : Nat), vs = [.ref a, .ref b] ∧ a ≠ b ∧ H b = some (.lst xs) ∧ 0 < xs.length ∧ xs.length ≤ 1000 ∧ HandAt H a n ∧ n ≤ 1000000000 ∧
  ∀ H' v, But a H H' → HandAt H' a (n + 1) → v ∈ xs → Q v H'
def spFigure : Sp := fun vs H Q _ => ∃ (a : Addr) (n : Nat), vs = [.ref a] ∧ HandAt H a n ∧ n ≤ 999999990 ∧
  ∀ H' c, But a H H' → HandAt H' a (n + 3) → -1000 ≤ c → c ≤ 1000 → Q (.int c) H'
end NG

namespace NG
open PySem PySem.Spec PyProof.Rows L2

/-! ### expressions -/
inductive W4 where
  | sum | less | least | most
  deriving DecidableEq
def wn : W4 → Str
  | .sum => "sum"
  | .less => "less"
  | .least => "least"
  | .most => "most"
inductive Ex where
  | fig (c : Int) | reg (i : Nat) | share (j : Nat)
  | two (w : W4) (a b : Ex)
  | times (f : Int) (a : Ex) | by (i : Nat) (a : Ex)
  | when (i : Nat) (c : Int) (a b : Ex) | whr (j : Nat) (c : Int) (a b : Ex)
def ExAt (K : PySem.W.Frag) (H : Hp) : Ex → V → Prop
  | .fig c, v => ∃ p, v = .ref p ∧ SqT K H p [.str "fig", .int c]
  | .reg i, v => ∃ p, v = .ref p ∧ SqT K H p [.str "reg", .int (i : Int)]
  | .share j, v => ∃ p, v = .ref p ∧ SqT K H p [.str "share", .int (j : Int)]
  | .two w a b, v => ∃ p x y, v = .ref p ∧ SqT K H p [.str (wn w), x, y] ∧ ExAt K H a x ∧ ExAt K H b y
  | .times f a, v => ∃ p x, v = .ref p ∧ SqT K H p [.str "times", .int f, x] ∧ ExAt K H a x
  | .by i a, v => ∃ p x, v = .ref p ∧ SqT K H p [.str "by", .int (i : Int), x] ∧ ExAt K H a x
  | .when i c a b, v => ∃ p x y, v = .ref p ∧ SqT K H p [.str "when", .int (i : Int), .int c, x, y] ∧ ExAt K H a x ∧ ExAt K H b y
  | .whr j c a b, v => ∃ p x y, v = .ref p ∧ SqT K H p [.str "where", .int (j : Int), .int c, x, y] ∧ ExAt K H a x ∧ ExAt K H b y
theorem ExAt.imp {K : PySem.W.Frag} {H H' : Hp} (h : ∀ p xs, SqT K H p xs → SqT K H' p xs) : ∀ {e : Ex} {v : V}, ExAt K H e v → ExAt K H' e v
  | .fig _, _, ⟨p, e, q⟩ => ⟨p, e, h _ _ q⟩
  | .reg _, _, ⟨p, e, q⟩ => ⟨p, e, h _ _ q⟩
  | .share _, _, ⟨p, e, q⟩ => ⟨p, e, h _ _ q⟩
  | .two _ _ _, _, ⟨p, x, y, e, q, a, b⟩ => ⟨p, x, y, e, h _ _ q, ExAt.imp h a, ExAt.imp h b⟩
  | .times _ _, _, ⟨p, x, e, q, a⟩ => ⟨p, x, e, h _ _ q, ExAt.imp h a⟩
  | .by _ _, _, ⟨p, x, e, q, a⟩ => ⟨p, x, e, h _ _ q, ExAt.imp h a⟩
  | .when _ _ _ _, _, ⟨p, x, y, e, q, a, b⟩ => ⟨p, x, y, e, h _ _ q, ExAt.imp h a, ExAt.imp h b⟩
  | .whr _ _ _ _, _, ⟨p, x, y, e, q, a, b⟩ => ⟨p, x, y, e, h _ _ q, ExAt.imp h a, ExAt.imp h b⟩
theorem ExAt.but {K : PySem.W.Frag} {H H' : Hp} {a : Addr} {n : Nat} {e : Ex} {v : V} (x : ExAt K H e v) (b : But a H H') (h : HandAt H a n) : ExAt K H' e v := x.imp fun _ _ q => b.sq h q
theorem ExAt.same {K : PySem.W.Frag} {H H' : Hp} {e : Ex} {v : V} (x : ExAt K H e v) (b : Same H H') : ExAt K H' e v := x.imp fun _ _ q => same_sqt b q
theorem ExAt.new {K : PySem.W.Frag} {H : Hp} {p : Addr} {o : HO} {e : Ex} {v : V} (x : ExAt K H e v) (n : H p = none) : ExAt K (upd H p o) e v := x.same (same_new n)
def ExOk (many : Nat) : Ex → Prop
  | .fig c => -1000 ≤ c ∧ c ≤ 1000
  | .reg i => i < 4
  | .share j => j < many
  | .two _ a b => ExOk many a ∧ ExOk many b
  | .times f a => (-9 ≤ f ∧ f ≤ 9) ∧ ExOk many a
  | .by i a => i < 4 ∧ ExOk many a
  | .when i c a b => i < 4 ∧ (-1000 ≤ c ∧ c ≤ 1000) ∧ ExOk many a ∧ ExOk many b
  | .whr j c a b => j < many ∧ (1 ≤ c ∧ c ≤ 1000) ∧ ExOk many a ∧ ExOk many b
def Ex.dep : Ex → Nat
  | .fig _ => 1
  | .reg _ => 1
  | .share _ => 1
  | .two _ a b => max a.dep b.dep + 1
  | .times _ a => a.dep + 1
  | .by _ a => a.dep + 1
  | .when _ _ a b => max a.dep b.dep + 1
  | .whr _ _ a b => max a.dep b.dep + 1
def jw : W4 → Int → Int → Int
  | .sum, x, y => x + y
  | .less, x, y => x - y
  | .least, x, y => if y < x then y else x
  | .most, x, y => if y > x then y else x
def wo (rs ss : List Int) : Ex → Int
  | .fig c => c * ss.sum
  | .reg i => rs.getD i 0 * ss.sum
  | .share j => 1000 * ss.getD j 0
  | .two w a b => jw w (wo rs ss a) (wo rs ss b)
  | .times f a => f * wo rs ss a
  | .by i a => rs.getD i 0 * wo rs ss a
  | .when i c a b => if rs.getD i 0 < c then wo rs ss a else wo rs ss b
  | .whr j c a b => if 1000 * ss.getD j 0 < c * ss.sum then wo rs ss a else wo rs ss b
theorem at_nth {ns : List Int} {i : Nat} (h : i < ns.length) : atI (ns.map V.int) (i : Int) = some (.int (ns.getD i 0)) := at_int (by omega) (by omega)

def RegsAt (K : PySem.W.Frag) (H : Hp) (rs : List Int) (v : V) : Prop := ∃ p, v = .ref p ∧ SqT K H p (rs.map V.int) ∧ rs.length = 4 ∧ ∀ x ∈ rs, -1000 ≤ x ∧ x ≤ 1000
def ShAt (K : PySem.W.Frag) (H : Hp) (many : Nat) (ss : List Int) (v : V) : Prop := ∃ p, v = .ref p ∧ SqT K H p (ss.map V.int) ∧ ss.length = many ∧ (∀ x ∈ ss, 0 ≤ x ∧ x < 2 ^ 50) ∧ 0 < ss.sum ∧ ss.sum < 2 ^ 60
theorem RegsAt.imp {K : PySem.W.Frag} {H H' : Hp} {rs : List Int} {v : V} (r : RegsAt K H rs v) (h : ∀ p xs, SqT K H p xs → SqT K H' p xs) : RegsAt K H' rs v := by
  obtain ⟨p, e, q, l⟩ := r
  exact ⟨p, e, h _ _ q, l⟩
theorem ShAt.imp {K : PySem.W.Frag} {H H' : Hp} {many : Nat} {rs : List Int} {v : V} (r : ShAt K H many rs v) (h : ∀ p xs, SqT K H p xs → SqT K H' p xs) : ShAt K H' many rs v := by
  obtain ⟨p, e, q, l⟩ := r
  exact ⟨p, e, h _ _ q, l⟩
theorem getD_mem {ns : List Int} {i : Nat} (h : i < ns.length) : ns.getD i 0 ∈ ns := by
  rw [List.getD_eq_getElem?_getD, List.getElem?_eq_getElem h]
  exact List.getElem_mem h

/-! ### promises -/
def spWorth (K : PySem.W.Frag) (n : Nat) : Sp := fun vs H Q _ => ∃ (v r s : V) (e : Ex) (many : Nat) (rs ss : List Int), vs = [v, r, s] ∧ ExAt K H e v ∧ ExOk many e ∧ e.dep ≤ n ∧ RegsAt K H rs r ∧ ShAt K H many ss s ∧ Q (.int (wo rs ss e)) H
def spJoinW : Sp := fun vs H Q _ => ∃ (w : W4) (x y : Int), vs = [.str (wn w), .int x, .int y] ∧ Q (.int (jw w x y)) H
def spLed (K : PySem.W.Frag) : Sp := fun vs H Q _ => ∃ (p : Addr) (r x y : V) (i : Nat) (c : Int) (rs : List Int), vs = [.ref p, r] ∧ SqT K H p [.str "when", .int (i : Int), .int c, x, y] ∧ i < 4 ∧ RegsAt K H rs r ∧ Q (if rs.getD i 0 < c then x else y) H
def spSide (K : PySem.W.Frag) : Sp := fun vs H Q _ => ∃ (p : Addr) (s x y : V) (many j : Nat) (c : Int) (ss : List Int), vs = [.ref p, s] ∧ SqT K H p [.str "where", .int (j : Int), .int c, x, y] ∧ j < many ∧ (1 ≤ c ∧ c ≤ 1000) ∧ ShAt K H many ss s ∧ Q (if 1000 * ss.getD j 0 < c * ss.sum then x else y) H
def spMills (K : PySem.W.Frag) : Sp := fun vs H Q _ => ∃ (s : V) (many j : Nat) (ss : List Int), vs = [s, .int (j : Int)] ∧ ShAt K H many ss s ∧ j < many ∧ Q (.int (1000 * ss.getD j 0 / ss.sum)) H
def cost : Nat → Nat
  | 0 => 6
  | n + 1 => 2 * cost n + 20
theorem cost_ge (l : Nat) : 6 ≤ cost l := by
  cases l with
  | zero => exact Nat.le_refl _
  | succ l =>
    unfold cost
    omega
def spLeaf (K : PySem.W.Frag) : Sp := fun vs H Q _ => ∃ (a : Addr) (many n : Nat), vs = [.ref a, .int (many : Int)] ∧ 1 ≤ many ∧ many ≤ 1000 ∧ HandAt H a n ∧ n ≤ 999999000 ∧
  ∀ H' v e, But a H H' → HandAt H' a (n + 5) → ExAt K H' e v → ExOk many e → e.dep ≤ 1 → Q v H'
def spExpr (K : PySem.W.Frag) (m : Nat) : Sp := fun vs H Q _ => ∃ (a : Addr) (many l n : Nat), vs = [.ref a, .int (many : Int), .int (l : Int), .int 1] ∧ l < m ∧ 1 ≤ many ∧ many ≤ 1000 ∧ HandAt H a n ∧ n + cost l ≤ 999999000 ∧
  ∀ H' v e, But a H H' → HandAt H' a (n + cost l) → ExAt K H' e v → ExOk many e → e.dep ≤ l + 1 → Q v H'
theorem cal_never {P : Program} {w : World} {K : PySem.W.Frag} {mg : Str → Option Value} {base : Heap} {k : Nat} {x qual : Str} {st : Stmt} {f : Addr} {fd : FuncData} {ps : List Str} {sp : Sp} (F : Fun K x qual st f fd) (gF : mg x = some (.ref f)) (b : Binds K fd ps []) (h : ∀ vs H Q E, ¬ sp vs H Q E) : Cal P w K mg base k x sp :=
  ⟨f, fd, ps, ⟨fun vs H Q E q => absurd q (h _ _ _ _), fun A outer s H args us vs Q E _ _ _ _ q => absurd q (h _ _ _ _)⟩, gF, F.kp, b⟩
theorem fn_never {P : Program} {w : World} {K : PySem.W.Frag} {mg : Str → Option Value} {base : Heap} {k : Nat} {f : Addr} {fd : FuncData} {ps : List Str} {sp : Sp} (h : ∀ vs H Q E, ¬ sp vs H Q E) : FnOk P w K mg base CX0 k f fd ps sp :=
  ⟨fun vs H Q E q => absurd q (h _ _ _ _), fun A outer s H args us vs Q E _ _ _ _ q => absurd q (h _ _ _ _)⟩
end NG

namespace NG
open PySem PySem.Spec PyProof.Rows L2

/-! ### the greatest that divides all -/
def gf (g : Nat) (x : Int) : Nat := Nat.gcd g x.toNat
def gl (ns : List Int) : Nat := ns.foldl gf 0
theorem gl_step {ns : List Int} {i : Nat} {x : Int} (h : ns[i]? = some x) : gl (ns.take (i + 1)) = Nat.gcd (gl (ns.take i)) x.toNat := by
  unfold gl
  rw [List.take_add_one, h, List.foldl_append]
  rfl
theorem gf_dvd : ∀ (ns : List Int) (g : Nat), ns.foldl gf g ∣ g ∧ ∀ x ∈ ns, ns.foldl gf g ∣ x.toNat
  | [], g => ⟨Nat.dvd_refl _, fun x h => by cases h⟩
  | y :: ns, g => by
    obtain ⟨h1, h2⟩ := gf_dvd ns (gf g y)
    refine ⟨Nat.dvd_trans h1 (Nat.gcd_dvd_left _ _), fun x hx => ?_⟩
    rcases List.mem_cons.mp hx with rfl | hx
    · exact Nat.dvd_trans h1 (Nat.gcd_dvd_right _ _)
    · exact h2 x hx
theorem gl_dvd {ns : List Int} {x : Int} (h : x ∈ ns) : gl ns ∣ x.toNat := (gf_dvd ns 0).2 x h
theorem gl_pos {ns : List Int} {x : Int} (h : x ∈ ns) (p : 0 < x) : 0 < gl ns := Nat.pos_of_dvd_of_pos (gl_dvd h) (by omega)
theorem sum_nonneg : ∀ {ms : List Int}, (∀ x ∈ ms, 0 ≤ x) → 0 ≤ ms.sum
  | [], _ => by simp
  | y :: ms, h => by
    have := sum_nonneg (ms := ms) fun x hx => h x (List.mem_cons_of_mem _ hx)
    have := h y List.mem_cons_self
    rw [List.sum_cons]
    omega
theorem sum_pos : ∀ {ms : List Int} {x : Int}, (∀ x ∈ ms, 0 ≤ x) → x ∈ ms → 0 < x → 0 < ms.sum
  | y :: ms, x, h, hx, p => by
    have h1 := sum_nonneg (ms := ms) fun x hx => h x (List.mem_cons_of_mem _ hx)
    have h2 := h y List.mem_cons_self
    rw [List.sum_cons]
    rcases List.mem_cons.mp hx with rfl | hx
    · omega
    · have := sum_pos (ms := ms) (fun x hx => h x (List.mem_cons_of_mem _ hx)) hx p
      omega
theorem sum_le {B : Int} : ∀ {ms : List Int}, (∀ x ∈ ms, x ≤ B) → ms.sum ≤ ms.length * B
  | [], _ => by simp
  | y :: ms, h => by
    have h1 := sum_le (ms := ms) fun x hx => h x (List.mem_cons_of_mem _ hx)
    have h2 := h y List.mem_cons_self
    rw [List.sum_cons, List.length_cons, Int.natCast_succ, Int.add_mul]
    omega
theorem div_le_self' {x : Int} {g : Nat} (h : 0 ≤ x) : x / (g : Int) ≤ x := Int.ediv_le_self _ h
/-- what lowest makes -/
def low (ns : List Int) : List Int := ns.map fun x => x / (gl ns : Int)
theorem low_sh {ns : List Int} (hb : ∀ x ∈ ns, 0 ≤ x ∧ x < 2 ^ 50) (hl : ns.length ≤ 1000) {y : Int} (hy : y ∈ ns) (py : 0 < y) :
    (∀ x ∈ low ns, 0 ≤ x ∧ x < 2 ^ 50) ∧ 0 < (low ns).sum ∧ (low ns).sum < 2 ^ 60 := by
  have hg := gl_pos hy py
  have h1 : ∀ x ∈ low ns, 0 ≤ x ∧ x < 2 ^ 50 := fun x hx => by
    obtain ⟨z, hz, rfl⟩ := List.mem_map.mp hx
    have h2 := hb z hz
    exact ⟨Int.ediv_nonneg h2.1 (by omega), Int.lt_of_le_of_lt (div_le_self' h2.1) h2.2⟩
  refine ⟨h1, ?_, ?_⟩
  · refine sum_pos (x := y / (gl ns : Int)) (fun x hx => (h1 x hx).1) (List.mem_map.mpr ⟨y, hy, rfl⟩) ?_
    have hd : (gl ns : Nat) ≤ y.toNat := Nat.le_of_dvd (by omega) (gl_dvd hy)
    exact Int.ediv_pos_of_pos_of_dvd py (by omega) (by
      have : ((gl ns : Nat) : Int) ∣ ((y.toNat : Nat) : Int) := Int.natCast_dvd_natCast.mpr (gl_dvd hy)
      rwa [Int.toNat_of_nonneg (by omega)] at this)
  · have h3 := sum_le (B := 2 ^ 50) (ms := low ns) fun x hx => Int.le_of_lt (h1 x hx).2
    have h4 : (low ns).length ≤ 1000 := by
      unfold low
      rw [List.length_map]
      exact hl
    have h5 : ((low ns).length : Int) * 2 ^ 50 ≤ 1000 * 2 ^ 50 := Int.mul_le_mul_of_nonneg_right (by omega) (by decide)
    have h6 : (1000 : Int) * 2 ^ 50 < 2 ^ 60 := by decide
    omega
theorem gcd_turn {u v : Nat} : Nat.gcd v (u % v) = Nat.gcd u v := by
  rw [Nat.gcd_comm v, ← Nat.gcd_rec, Nat.gcd_comm]
theorem ixN_of {n : Nat} {r : Int} (h0 : 0 ≤ r) (h1 : r < n) : ixN n r = some r.toNat := by
  unfold ixN
  rw [if_pos h0, if_pos h1]

theorem tYes_in {σ : L2.St} {H : Hp} {A B : Hp → Prop} (h : A H) : tYes σ H (fun b H3 => if b = true then A H3 else B H3) := by
  show if true = true then A H else B H
  exact iteT h

/-! ### promises -/
def spLow (K : PySem.W.Frag) : Sp := fun vs H Q _ => ∃ (p : Addr) (ns : List Int) (y : Int), vs = [.ref p] ∧ H p = some (.lst (ns.map V.int)) ∧ (∀ x ∈ ns, 0 ≤ x ∧ x < 2 ^ 50) ∧ ns.length ≤ 1000 ∧ y ∈ ns ∧ 0 < y ∧
  ∀ H' v ms, Same H H' → ShAt K H' ns.length ms v → Q v H'
def spShares (K : PySem.W.Frag) : Sp := fun vs H Q _ => ∃ (a : Addr) (many n : Nat), vs = [.ref a, .int (many : Int)] ∧ 1 ≤ many ∧ many ≤ 3 ∧ HandAt H a n ∧ n ≤ 999998000 ∧
  ∀ H' v ms, But a H H' → HandAt H' a (n + 20) → ShAt K H' many ms v → Q v H'
def spRegs (K : PySem.W.Frag) : Sp := fun vs H Q _ => ∃ (a : Addr) (n : Nat), vs = [.ref a] ∧ HandAt H a n ∧ n ≤ 999998000 ∧
  ∀ H' v rs, But a H H' → HandAt H' a (n + 12) → RegsAt K H' rs v → Q v H'
def spAsked (K : PySem.W.Frag) : Sp := fun vs H Q _ => ∃ (a : Addr) (many n : Nat), vs = [.ref a, .int (many : Int)] ∧ 2 ≤ many ∧ many ≤ 3 ∧ HandAt H a n ∧ n ≤ 999997000 ∧
  ∀ H' v ms, But a H H' → HandAt H' a (n + 25) → ShAt K H' many ms v → Q v H'
end NG

namespace NG
open PySem PySem.Spec PyProof.Rows L2
/-! ### rows of expressions -/
def RowsAt (K : PySem.W.Frag) (H : Hp) : List V → List Ex → Prop
  | [], [] => True
  | v :: vs, e :: es => ExAt K H e v ∧ RowsAt K H vs es
  | _, _ => False
theorem RowsAt.imp {K : PySem.W.Frag} {H H' : Hp} (h : ∀ p xs, SqT K H p xs → SqT K H' p xs) : ∀ {vs : List V} {es : List Ex}, RowsAt K H vs es → RowsAt K H' vs es
  | [], [], _ => trivial
  | _ :: _, _ :: _, ⟨x, r⟩ => ⟨x.imp h, RowsAt.imp h r⟩
theorem RowsAt.same {K : PySem.W.Frag} {H H' : Hp} {vs : List V} {es : List Ex} (r : RowsAt K H vs es) (s : Same H H') : RowsAt K H' vs es := r.imp fun _ _ q => same_sqt s q
theorem RowsAt.len {K : PySem.W.Frag} {H : Hp} : ∀ {vs : List V} {es : List Ex}, RowsAt K H vs es → vs.length = es.length
  | [], [], _ => rfl
  | _ :: _, _ :: _, ⟨_, r⟩ => by rw [List.length_cons, List.length_cons, r.len]
theorem RowsAt.snoc {K : PySem.W.Frag} {H : Hp} {v : V} {e : Ex} (x : ExAt K H e v) : ∀ {vs : List V} {es : List Ex}, RowsAt K H vs es → RowsAt K H (vs ++ [v]) (es ++ [e])
  | [], [], _ => ⟨x, trivial⟩
  | _ :: _, _ :: _, ⟨y, r⟩ => ⟨y, RowsAt.snoc x r⟩
theorem RowsAt.get {K : PySem.W.Frag} {H : Hp} : ∀ {vs : List V} {es : List Ex} {k : Nat} {e : Ex}, RowsAt K H vs es → es[k]? = some e → ∃ v, vs[k]? = some v ∧ ExAt K H e v
  | [], [], _, _, _, h => by simp at h
  | v :: vs, e' :: es, 0, e, ⟨x, r⟩, h => by
    have : e' = e := Option.some.inj h
    subst this
    exact ⟨v, rfl, x⟩
  | v :: vs, e' :: es, k + 1, e, ⟨x, r⟩, h => RowsAt.get (k := k) r h
def pairUp : List Ex → List Ex
  | a :: b :: r => .two .sum a b :: pairUp r
  | _ => []
theorem pairUp_get : ∀ {es : List Ex} {k : Nat} {a b : Ex}, es[2 * k]? = some a → es[2 * k + 1]? = some b → (pairUp es)[k]? = some (.two .sum a b)
  | [], k, _, _, h, _ => by simp at h
  | [_], k, _, _, _, h => by
    have := (List.getElem?_eq_some_iff.mp h).1
    rw [List.length_singleton] at this
    omega
  | x :: y :: r, 0, a, b, h, h2 => by
    have e1 : x = a := Option.some.inj h
    have e2 : y = b := Option.some.inj h2
    rw [← e1, ← e2]
    rfl
  | x :: y :: r, k + 1, a, b, h, h2 => by
    have h : r[2 * k]? = some a := h
    have h2 : r[2 * k + 1]? = some b := h2
    exact pairUp_get (es := r) (k := k) h h2
theorem pairUp_sum (rs ss : List Int) : ∀ {es : List Ex} {k : Nat}, es.length = 2 * k → ((pairUp es).map (wo rs ss)).sum = (es.map (wo rs ss)).sum ∧ (pairUp es).length = k
  | [], k, h => by
    rw [List.length_nil] at h
    exact ⟨rfl, by show 0 = k; omega⟩
  | [_], k, h => by
    rw [List.length_singleton] at h
    omega
  | x :: y :: r, k, h => by
    rw [List.length_cons, List.length_cons] at h
    obtain ⟨h1, h2⟩ := pairUp_sum rs ss (es := r) (k := k - 1) (by omega)
    refine ⟨?_, ?_⟩
    · show (wo rs ss (.two .sum x y) :: (pairUp r).map (wo rs ss)).sum = (wo rs ss x :: wo rs ss y :: r.map (wo rs ss)).sum
      rw [List.sum_cons, List.sum_cons, List.sum_cons, h1]
      show wo rs ss x + wo rs ss y + _ = _
      omega
    · show (pairUp r).length + 1 = k
      omega
theorem pairUp_ok {many d : Nat} : ∀ {es : List Ex}, (∀ e ∈ es, ExOk many e ∧ e.dep ≤ d) → ∀ e ∈ pairUp es, ExOk many e ∧ e.dep ≤ d + 1
  | [], _, e, h => by cases h
  | [_], _, e, h => by cases h
  | x :: y :: r, h, e, he => by
    have hx := h x List.mem_cons_self
    have hy := h y (List.mem_cons_of_mem _ List.mem_cons_self)
    rcases List.mem_cons.mp he with rfl | he
    · refine ⟨⟨hx.1, hy.1⟩, ?_⟩
      show max x.dep y.dep + 1 ≤ d + 1
      omega
    · exact pairUp_ok (es := r) (fun e he => h e (List.mem_cons_of_mem _ (List.mem_cons_of_mem _ he))) e he
def whn (j : Nat) (z : Int) : Ex := .whr j z (.fig 0) (.fig 1)
theorem count_sum (rs ss : List Int) (j : Nat) (h0 : 0 < ss.sum) : ∀ fs : List Int, ((fs.map (whn j)).map (wo rs ss)).sum = ((fs.filter fun z => decide (z ≤ 1000 * ss.getD j 0 / ss.sum)).length : Int) * ss.sum
  | [] => by simp
  | z :: fs => by
    have ih := count_sum rs ss j h0 fs
    have hm : 1000 * ss.getD j 0 / ss.sum < z ↔ 1000 * ss.getD j 0 < z * ss.sum := Int.ediv_lt_iff_lt_mul h0
    show (wo rs ss (whn j z) :: (fs.map (whn j)).map (wo rs ss)).sum = _
    rw [List.sum_cons, ih]
    show (if 1000 * ss.getD j 0 < z * ss.sum then 0 * ss.sum else 1 * ss.sum) + _ = _
    by_cases c : z ≤ 1000 * ss.getD j 0 / ss.sum
    · rw [List.filter_cons_of_pos (by rw [decide_eq_true c]), if_neg (fun q => by have := hm.mpr q; omega), List.length_cons, Int.natCast_succ, Int.add_mul]
      omega
    · rw [List.filter_cons_of_neg (by rw [decide_eq_false c]; exact Bool.false_ne_true), if_pos (hm.mp (by omega))]
      omega
def spCount (K : PySem.W.Frag) : Sp := fun vs H Q _ => ∃ (a : Addr) (many n : Nat) (s : V) (ss : List Int), vs = [.ref a, .int (many : Int), s] ∧ 2 ≤ many ∧ many ≤ 3 ∧ HandAt H a n ∧ n ≤ 999990000 ∧ ShAt K H many ss s ∧
  ∀ H', But a H H' → HandAt H' a (n + 10) → Q (.bl true) H'
end NG

namespace NG
open PySem PySem.Spec PyProof.Rows L2

/-! ### more rules -/
theorem pgtK {X : Cx} (K : PySem.W.Frag) {es : List Expr} {k : Nat} {t : TGs} {n : Nat} {pos : Pos} (hc : X.calm = true) (h : PGs X es t)
    (hn : (assignEach es X.env).length = n := by rfl) (hst : (assignEach es X.env).findIdx? (·.1) = none := by rfl) (hK : X.K = K := by rfl) : PG X (.Tuple es k pos) (gTup K n t) := by
  subst hK
  exact pg_tup hc h hn hst
theorem inK {X : Cx} (K : PySem.W.Frag) (h : X.K = K := by rfl) : OpR X (compareOp .In) (rIn K false) := by
  subst h
  exact op_in_seq
theorem isiK {X : Cx} (K : PySem.W.Frag) (h : X.K = K := by rfl) : CallR X (.builtin "isinstance") (rIsi K) := by
  subst h
  exact call_isi
theorem walk_zipT {K : PySem.W.Frag} {a b : Addr} {xs ys : List V} {n : Nat} (hx : xs.length = n) (hy : ys.length = n) : Walk (RZ.ItzT K a b) n (fun H => SqT K H a xs ∧ SqT K H b ys) (YPair (fun i => xs[i]?) (fun i => ys[i]?)) := by
  refine ⟨fun i H hi q => ?_, fun H q => ⟨xs, ys, q.1, q.2, .inl (by omega)⟩, fun i H v H' hi q y => ?_⟩
  · exact ⟨xs, ys, xs[i]'(by omega), ys[i]'(by omega), q.1, q.2, List.getElem?_eq_getElem _, List.getElem?_eq_getElem _⟩
  · obtain ⟨T, x, z, h1, h2, h3, h4, h5⟩ := y
    exact ⟨T, x, z, h1, h2, h3, h4 xs q.1, h5 ys q.2⟩
def tChain3 (r r' r'' : R2) (ta tb tc td : TE) : TT := fun σ H Q => ta σ H fun x H1 => tb σ H1 fun y H2 => r x y H2 fun z H3 => ∃ k, z = .bl k ∧
  (if k = true then tc σ H3 fun u H4 => r' y u H4 fun z' H5 => ∃ k', z' = .bl k' ∧ (if k' = true then td σ H5 fun v H6 => r'' u v H6 fun z'' H7 => ∃ k'', z'' = .bl k'' ∧ Q k'' H7 else Q false H5) else Q false H3)
theorem pt_chain3 {X : Cx} {a b c d : Expr} {ta tb tc td : TE} {pos : Pos} {o1 o2 o3 : CmpOp} {r1 r2 r3 : R2} (h1 : OpR X (compareOp o1) r1) (h2 : OpR X (compareOp o2) r2) (h3 : OpR X (compareOp o3) r3) (ha : PE X a ta) (hb : PE X b tb) (hc : PE X c tc) (hd : PE X d td)
    (hm : lastMarks [o1, o2, o3] [b, c, d] = false := by with_unfolding_all rfl) : PT X (.Compare a [o1, o2, o3] [b, c, d] pos) (tChain3 r1 r2 r3 ta tb tc td) := by
  refine ⟨fun pins s σ H Q I h => isTrue_chain (thn (ha.run pins s σ H _ I h) fun v1 s1 ⟨x, H1, I1, e1, q1⟩ => test_link (thn (hb.run pins s1 σ H1 _ I1 q1) fun v2 s2 ⟨y, H2, I2, e2, q2⟩ => thn (h1 pins s2 σ H2 x y v1 v2 _ I2 e1 e2 q2) fun v3 s3 ⟨z, H3, I3, e3, k, ek, q3⟩ => ?_)) hm⟩
  subst ek
  cases e3
  refine wpAny_truthy_bool ?_
  cases k with
  | false => exact ite_ff ⟨H3, I3, q3⟩
  | true =>
    refine ite_tt (test_link (thn (hc.run pins s3 σ H3 _ I3 q3) fun v4 s4 ⟨u, H4, I4, e4, q4⟩ => thn (h2 pins s4 σ H4 y u v2 v4 _ I4 e2 e4 q4) fun v5 s5 ⟨z', H5, I5, e5, k', ek', q5⟩ => ?_))
    subst ek'
    cases e5
    refine wpAny_truthy_bool ?_
    cases k' with
    | false => exact ite_ff ⟨H5, I5, q5⟩
    | true =>
      refine ite_tt (test_last (thn (hd.run pins s5 σ H5 _ I5 q5) fun v6 s6 ⟨v, H6, I6, e6, q6⟩ => thn (h3 pins s6 σ H6 u v v4 v6 _ I6 e4 e6 q6) fun v7 s7 ⟨z'', H7, I7, e7, k'', ek'', q7⟩ => ?_))
      subst ek''
      cases e7
      exact wpAny_truthy_bool ⟨H7, I7, q7⟩

/-! ### the shapes of words -/
def shapeOf : Ex → List Str
  | .fig _ => ["figure"]
  | .reg _ => ["place"]
  | .share _ => ["sign"]
  | .two _ _ _ => ["part", "part"]
  | .times _ _ => ["factor", "part"]
  | .by _ _ => ["place", "part"]
  | .when _ _ _ _ => ["place", "figure", "part", "part"]
  | .whr _ _ _ _ => ["sign", "line", "part", "part"]
def wordOf : Ex → Str
  | .fig _ => "fig"
  | .reg _ => "reg"
  | .share _ => "share"
  | .two w _ _ => wn w
  | .times _ _ => "times"
  | .by _ _ => "by"
  | .when _ _ _ _ => "when"
  | .whr _ _ _ _ => "where"
def Shapes (K : PySem.W.Frag) (w : World) (d : Addr) : Prop := ∀ e : Ex, ∃ q, KDct K w d (wordOf e) (.ref q) ∧ ∀ H, SqT K H q ((shapeOf e).map V.str)
def Ex.kids : Ex → List Ex
  | .fig _ => []
  | .reg _ => []
  | .share _ => []
  | .two _ a b => [a, b]
  | .times _ a => [a]
  | .by _ a => [a]
  | .when _ _ a b => [a, b]
  | .whr _ _ a b => [a, b]
/-- the items whose kind is a part -/
def pk : List Str → List V → List V
  | k :: ks, v :: vs => if V.str k = V.str "part" then v :: pk ks vs else pk ks vs
  | _, _ => []
theorem pk_snoc : ∀ {ks : List Str} {vs : List V} {i : Nat} {k : Str} {v : V}, ks[i]? = some k → vs[i]? = some v → pk (ks.take (i + 1)) (vs.take (i + 1)) = pk (ks.take i) (vs.take i) ++ (if V.str k = V.str "part" then [v] else [])
  | [], _, i, _, _, h, _ => by simp at h
  | _ :: _, [], i, _, _, _, h => by simp at h
  | k0 :: ks, v0 :: vs, 0, k, v, h, h2 => by
    have e1 : k0 = k := Option.some.inj h
    have e2 : v0 = v := Option.some.inj h2
    subst e1 e2
    show (if V.str k0 = V.str "part" then v0 :: pk (ks.take 0) (vs.take 0) else pk (ks.take 0) (vs.take 0)) = _
    split <;> rfl
  | k0 :: ks, v0 :: vs, i + 1, k, v, h, h2 => by
    have ih := pk_snoc (ks := ks) (vs := vs) (i := i) h h2
    show (if V.str k0 = V.str "part" then v0 :: pk (ks.take (i + 1)) (vs.take (i + 1)) else pk (ks.take (i + 1)) (vs.take (i + 1))) = (if V.str k0 = V.str "part" then v0 :: pk (ks.take i) (vs.take i) else pk (ks.take i) (vs.take i)) ++ _
    rw [ih]
    split <;> rfl
/-- how an expression lies: its word, then what belongs there -/
theorem ExAt.lies {K : PySem.W.Frag} {H : Hp} : ∀ {e : Ex} {v : V}, ExAt K H e v → ∃ (p : Addr) (xs : List V), v = .ref p ∧ SqT K H p (.str (wordOf e) :: xs) ∧ xs.length = (shapeOf e).length ∧ xs.length ≤ 4 ∧ 0 < xs.length ∧ RowsAt K H (pk (shapeOf e) xs) e.kids
  | .fig _, _, ⟨p, e, q⟩ => ⟨p, _, e, q, rfl, by simp, by simp, trivial⟩
  | .reg _, _, ⟨p, e, q⟩ => ⟨p, _, e, q, rfl, by simp, by simp, trivial⟩
  | .share _, _, ⟨p, e, q⟩ => ⟨p, _, e, q, rfl, by simp, by simp, trivial⟩
  | .two _ _ _, _, ⟨p, x, y, e, q, a, b⟩ => ⟨p, _, e, q, rfl, by simp, by simp, a, b, trivial⟩
  | .times _ _, _, ⟨p, x, e, q, a⟩ => ⟨p, _, e, q, rfl, by simp, by simp, a, trivial⟩
  | .by _ _, _, ⟨p, x, e, q, a⟩ => ⟨p, _, e, q, rfl, by simp, by simp, a, trivial⟩
  | .when _ _ _ _, _, ⟨p, x, y, e, q, a, b⟩ => ⟨p, _, e, q, rfl, by simp, by simp, a, b, trivial⟩
  | .whr _ _ _ _, _, ⟨p, x, y, e, q, a, b⟩ => ⟨p, _, e, q, rfl, by simp, by simp, a, b, trivial⟩
theorem pk_len : ∀ (ks : List Str) (vs : List V), (pk ks vs).length ≤ vs.length
  | [], vs => by
    unfold pk
    exact Nat.zero_le _
  | _ :: _, [] => Nat.le_refl _
  | k :: ks, v :: vs => by
    have := pk_len ks vs
    unfold pk
    split
    · rw [List.length_cons, List.length_cons]
      omega
    · rw [List.length_cons]
      omega

/-! ### spans -/
def mn (x y : Int) : Int := if y < x then y else x
def mx (x y : Int) : Int := if y > x then y else x
theorem mn_le (x y : Int) : mn x y ≤ x ∧ mn x y ≤ y := by unfold mn; split <;> omega
theorem le_mx (x y : Int) : x ≤ mx x y ∧ y ≤ mx x y := by unfold mx; split <;> omega
theorem mn_or (x y : Int) : mn x y = x ∨ mn x y = y := by unfold mn; split <;> simp
theorem mx_or (x y : Int) : mx x y = x ∨ mx x y = y := by unfold mx; split <;> simp
def ab (x : Int) : Int := if x < 0 then -x else x
def js : W4 → Int × Int → Int × Int → Int × Int
  | .sum, x, y => (x.1 + y.1, x.2 + y.2)
  | .less, x, y => (x.1 - y.2, x.2 - y.1)
  | .least, x, y => (mn x.1 y.1, mn x.2 y.2)
  | .most, x, y => (mx x.1 y.1, mx x.2 y.2)
def spn : Ex → Int × Int
  | .fig c => (c, c)
  | .reg _ => (-1000, 1000)
  | .share _ => (0, 1000)
  | .two w a b => js w (spn a) (spn b)
  | .times f a => (mn (f * (spn a).1) (f * (spn a).2), mx (f * (spn a).1) (f * (spn a).2))
  | .by _ a => (-1000 * mx (ab (spn a).1) (ab (spn a).2), 1000 * mx (ab (spn a).1) (ab (spn a).2))
  | .when _ _ a b => (mn (spn a).1 (spn b).1, mx (spn a).2 (spn b).2)
  | .whr _ _ a b => (mn (spn a).1 (spn b).1, mx (spn a).2 (spn b).2)
def SpAt (K : PySem.W.Frag) (H : Hp) (s : Int × Int) (v : V) : Prop := ∃ p, v = .ref p ∧ SqT K H p [.int s.1, .int s.2]
def SpsAt (K : PySem.W.Frag) (H : Hp) : List V → List (Int × Int) → Prop
  | [], [] => True
  | v :: vs, s :: ss => SpAt K H s v ∧ SpsAt K H vs ss
  | _, _ => False
theorem SpsAt.imp {K : PySem.W.Frag} {H H' : Hp} (h : ∀ p xs, SqT K H p xs → SqT K H' p xs) : ∀ {vs : List V} {ss : List (Int × Int)}, SpsAt K H vs ss → SpsAt K H' vs ss
  | [], [], _ => trivial
  | _ :: _, _ :: _, ⟨⟨p, e, q⟩, r⟩ => ⟨⟨p, e, h _ _ q⟩, SpsAt.imp h r⟩
theorem SpsAt.snoc {K : PySem.W.Frag} {H : Hp} {v : V} {s : Int × Int} (x : SpAt K H s v) : ∀ {vs : List V} {ss : List (Int × Int)}, SpsAt K H vs ss → SpsAt K H (vs ++ [v]) (ss ++ [s])
  | [], [], _ => ⟨x, trivial⟩
  | _ :: _, _ :: _, ⟨y, r⟩ => ⟨y, SpsAt.snoc x r⟩
theorem SpsAt.len {K : PySem.W.Frag} {H : Hp} : ∀ {vs : List V} {ss : List (Int × Int)}, SpsAt K H vs ss → vs.length = ss.length
  | [], [], _ => rfl
  | _ :: _, _ :: _, ⟨_, r⟩ => by rw [List.length_cons, List.length_cons, r.len]

theorem int_at {ns : List Int} {i : Nat} {v : V} (h : (ns.map V.int)[i]? = some v) : ∃ z : Int, v = .int z ∧ ns[i]? = some z := by
  rw [List.getElem?_map] at h
  cases e : ns[i]? with
  | none => rw [e] at h; cases h
  | some z => rw [e] at h; exact ⟨z, (Option.some.inj h).symm, rfl⟩
theorem SpsAt.one {K : PySem.W.Frag} {H : Hp} {us : List V} {s : Int × Int} (h : SpsAt K H us [s]) : ∃ p, us = [.ref p] ∧ SqT K H p [.int s.1, .int s.2] := by
  cases us with
  | nil => exact h.elim
  | cons u r =>
    cases r with
    | nil =>
      obtain ⟨⟨p, e, q⟩, _⟩ := h
      exact ⟨p, by rw [e], q⟩
    | cons _ _ => exact h.2.elim
theorem SpsAt.pair {K : PySem.W.Frag} {H : Hp} {us : List V} {s t : Int × Int} (h : SpsAt K H us [s, t]) : ∃ p q, us = [.ref p, .ref q] ∧ SqT K H p [.int s.1, .int s.2] ∧ SqT K H q [.int t.1, .int t.2] := by
  cases us with
  | nil => exact h.elim
  | cons u r =>
    obtain ⟨⟨p, e, q⟩, h2⟩ := h
    obtain ⟨p2, e2, q2⟩ := SpsAt.one h2
    exact ⟨p, p2, by rw [e, e2], q, q2⟩
theorem put_sqt {K : PySem.W.Frag} {H : Hp} {D p : Addr} {us us' xs : List V} (h : H D = some (.lst us)) (q : SqT K H p xs) : SqT K (upd H D (.lst us')) p xs := by
  rcases q with (q | ⟨o, q⟩) | q
  · exact .inl (.inl (by rw [upd_ne (ne_of q h (by intro z; cases z))]; exact q))
  · exact .inl (.inr ⟨o, by rw [upd_ne (ne_of q h (by intro z; cases z))]; exact q⟩)
  · exact .inr q
theorem RowsAt.get' {K : PySem.W.Frag} {H : Hp} : ∀ {vs : List V} {es : List Ex} {k : Nat} {v : V}, RowsAt K H vs es → vs[k]? = some v → ∃ e, es[k]? = some e ∧ ExAt K H e v
  | [], [], _, _, _, h => by simp at h
  | v' :: vs, e :: es, 0, v, ⟨x, r⟩, h => by
    have : v' = v := Option.some.inj h
    subst this
    exact ⟨e, rfl, x⟩
  | v' :: vs, e :: es, k + 1, v, ⟨x, r⟩, h => RowsAt.get' (k := k) r h
theorem mn_of {m a b : Int} (h : m ∈ [a, b]) (hl : ∀ y ∈ [a, b], m ≤ y) : m = mn a b := by
  have h1 := hl a (by simp)
  have h2 := hl b (by simp)
  simp only [List.mem_cons, List.not_mem_nil, or_false] at h
  unfold mn
  split <;> omega
theorem mx_of {m a b : Int} (h : m ∈ [a, b]) (hl : ∀ y ∈ [a, b], y ≤ m) : m = mx a b := by
  have h1 := hl a (by simp)
  have h2 := hl b (by simp)
  simp only [List.mem_cons, List.not_mem_nil, or_false] at h
  unfold mx
  split <;> omega

/-! ### promises -/
def spParts (K : PySem.W.Frag) : Sp := fun vs H Q _ => ∃ (v : V) (e : Ex), vs = [v] ∧ ExAt K H e v ∧ ∀ H' p xs, Same H H' → H p = none → H' p = some (.lst xs) → RowsAt K H' xs e.kids → Q (.ref p) H'
def spJoinS (K : PySem.W.Frag) : Sp := fun vs H Q _ => ∃ (e : Ex) (x y : V) (s t : Int × Int), vs = [.str (wordOf e), x, y] ∧ SpAt K H s x ∧ SpAt K H t y ∧
  ((∃ w a b, e = .two w a b ∧ ∀ H' v, Same H H' → SpAt K H' (js w s t) v → Q v H') ∨ ((∃ i c a b, e = .when i c a b) ∨ (∃ i c a b, e = .whr i c a b)) ∧ ∀ H' v, Same H H' → SpAt K H' (mn s.1 t.1, mx s.2 t.2) v → Q v H')
def spSpan (K : PySem.W.Frag) (n : Nat) : Sp := fun vs H Q _ => ∃ (v : V) (e : Ex) (many : Nat), vs = [v] ∧ ExAt K H e v ∧ ExOk many e ∧ e.dep ≤ n ∧ ∀ H' u, Same H H' → SpAt K H' (spn e) u → Q u H'
theorem kids_dep : ∀ (e : Ex) (k : Ex), k ∈ e.kids → k.dep + 1 ≤ e.dep
  | .fig _, k, h => by cases h
  | .reg _, k, h => by cases h
  | .share _, k, h => by cases h
  | .two w0 a b, k, h => by
    simp only [Ex.kids, List.mem_cons, List.not_mem_nil, or_false] at h
    have e : Ex.dep (.two w0 a b) = max a.dep b.dep + 1 := rfl
    rw [e]
    rcases h with rfl | rfl <;> omega
  | .times _ a, k, h => by
    simp only [Ex.kids, List.mem_cons, List.not_mem_nil, or_false] at h
    subst h
    exact Nat.le_refl _
  | .by _ a, k, h => by
    simp only [Ex.kids, List.mem_cons, List.not_mem_nil, or_false] at h
    subst h
    exact Nat.le_refl _
  | .when i0 c0 a b, k, h => by
    simp only [Ex.kids, List.mem_cons, List.not_mem_nil, or_false] at h
    have e : Ex.dep (.when i0 c0 a b) = max a.dep b.dep + 1 := rfl
    rw [e]
    rcases h with rfl | rfl <;> omega
  | .whr i0 c0 a b, k, h => by
    simp only [Ex.kids, List.mem_cons, List.not_mem_nil, or_false] at h
    have e : Ex.dep (.whr i0 c0 a b) = max a.dep b.dep + 1 := rfl
    rw [e]
    rcases h with rfl | rfl <;> omega
theorem kids_ok {many : Nat} : ∀ (e : Ex) (k : Ex), ExOk many e → k ∈ e.kids → ExOk many k
  | .fig _, k, _, h => by cases h
  | .reg _, k, _, h => by cases h
  | .share _, k, _, h => by cases h
  | .two _ a b, k, o, h => by
    simp only [Ex.kids, List.mem_cons, List.not_mem_nil, or_false] at h
    rcases h with rfl | rfl
    · exact o.1
    · exact o.2
  | .times _ a, k, o, h => by
    simp only [Ex.kids, List.mem_cons, List.not_mem_nil, or_false] at h
    subst h
    exact o.2
  | .by _ a, k, o, h => by
    simp only [Ex.kids, List.mem_cons, List.not_mem_nil, or_false] at h
    subst h
    exact o.2
  | .when _ _ a b, k, o, h => by
    simp only [Ex.kids, List.mem_cons, List.not_mem_nil, or_false] at h
    rcases h with rfl | rfl
    · exact o.2.2.1
    · exact o.2.2.2
  | .whr _ _ a b, k, o, h => by
    simp only [Ex.kids, List.mem_cons, List.not_mem_nil, or_false] at h
    rcases h with rfl | rfl
    · exact o.2.2.1
    · exact o.2.2.2
end NG

namespace NG
open PySem PySem.Spec PyProof.Rows L2
/-! ### what stands around an expression -/
inductive Cx1 where
  | l (w : W4) (x : Ex) | r (w : W4) (x : Ex) | times (f : Int) | by (i : Nat)
  | whenL (i : Nat) (c : Int) (x : Ex) | whenR (i : Nat) (c : Int) (x : Ex) | whrL (j : Nat) (c : Int) (x : Ex) | whrR (j : Nat) (c : Int) (x : Ex)
def Cx1.put : Cx1 → Ex → Ex
  | .l w x, e => .two w e x
  | .r w x, e => .two w x e
  | .times f, e => .times f e
  | .by i, e => .by i e
  | .whenL i c x, e => .when i c e x
  | .whenR i c x, e => .when i c x e
  | .whrL j c x, e => .whr j c e x
  | .whrR j c x, e => .whr j c x e
def Cx1.lay (u : V) : Cx1 → List V × List V
  | .l w _ => ([.str (wn w)], [u])
  | .r w _ => ([.str (wn w), u], [])
  | .times f => ([.str "times", .int f], [])
  | .by i => ([.str "by", .int (i : Int)], [])
  | .whenL i c _ => ([.str "when", .int (i : Int), .int c], [u])
  | .whenR i c _ => ([.str "when", .int (i : Int), .int c, u], [])
  | .whrL j c _ => ([.str "where", .int (j : Int), .int c], [u])
  | .whrR j c _ => ([.str "where", .int (j : Int), .int c, u], [])
def Cx1.leaf (K : PySem.W.Frag) (H : Hp) (u : V) : Cx1 → Prop
  | .l _ x => ExAt K H x u
  | .r _ x => ExAt K H x u
  | .times _ => True
  | .by _ => True
  | .whenL _ _ x => ExAt K H x u
  | .whenR _ _ x => ExAt K H x u
  | .whrL _ _ x => ExAt K H x u
  | .whrR _ _ x => ExAt K H x u
def Cx1.ok (many : Nat) : Cx1 → Prop
  | .l _ x => ExOk many x ∧ x.dep ≤ 1
  | .r _ x => ExOk many x ∧ x.dep ≤ 1
  | .times f => -9 ≤ f ∧ f ≤ 9
  | .by i => i < 4
  | .whenL i c x => i < 4 ∧ (-1000 ≤ c ∧ c ≤ 1000) ∧ ExOk many x ∧ x.dep ≤ 1
  | .whenR i c x => i < 4 ∧ (-1000 ≤ c ∧ c ≤ 1000) ∧ ExOk many x ∧ x.dep ≤ 1
  | .whrL j c x => j < many ∧ (1 ≤ c ∧ c ≤ 1000) ∧ ExOk many x ∧ x.dep ≤ 1
  | .whrR j c x => j < many ∧ (1 ≤ c ∧ c ≤ 1000) ∧ ExOk many x ∧ x.dep ≤ 1
def CtxAt (K : PySem.W.Frag) (H : Hp) (c : Cx1) (v : V) : Prop := ∃ (p pa pr : Addr) (u : V), v = .ref p ∧ SqT K H p [.ref pa, .ref pr] ∧ SqT K H pa (c.lay u).1 ∧ SqT K H pr (c.lay u).2 ∧ c.leaf K H u
theorem CtxAt.imp {K : PySem.W.Frag} {H H' : Hp} {c : Cx1} {v : V} (x : CtxAt K H c v) (h : ∀ p xs, SqT K H p xs → SqT K H' p xs) : CtxAt K H' c v := by
  obtain ⟨p, pa, pr, u, e, q1, q2, q3, lf⟩ := x
  refine ⟨p, pa, pr, u, e, h _ _ q1, h _ _ q2, h _ _ q3, ?_⟩
  cases c with
  | l w x => exact ExAt.imp h lf
  | r w x => exact ExAt.imp h lf
  | times f => trivial
  | «by» i => trivial
  | whenL i c x => exact ExAt.imp h lf
  | whenR i c x => exact ExAt.imp h lf
  | whrL i c x => exact ExAt.imp h lf
  | whrR i c x => exact ExAt.imp h lf
def CtxsAt (K : PySem.W.Frag) (H : Hp) : List V → List Cx1 → Prop
  | [], [] => True
  | v :: vs, c :: cs => CtxAt K H c v ∧ CtxsAt K H vs cs
  | _, _ => False
theorem CtxsAt.imp {K : PySem.W.Frag} {H H' : Hp} (h : ∀ p xs, SqT K H p xs → SqT K H' p xs) : ∀ {vs : List V} {cs : List Cx1}, CtxsAt K H vs cs → CtxsAt K H' vs cs
  | [], [], _ => trivial
  | _ :: _, _ :: _, ⟨x, r⟩ => ⟨x.imp h, CtxsAt.imp h r⟩
theorem CtxsAt.len {K : PySem.W.Frag} {H : Hp} : ∀ {vs : List V} {cs : List Cx1}, CtxsAt K H vs cs → vs.length = cs.length
  | [], [], _ => rfl
  | _ :: _, _ :: _, ⟨_, r⟩ => by rw [List.length_cons, List.length_cons, r.len]
theorem CtxsAt.snoc {K : PySem.W.Frag} {H : Hp} {v : V} {c : Cx1} (x : CtxAt K H c v) : ∀ {vs : List V} {cs : List Cx1}, CtxsAt K H vs cs → CtxsAt K H (vs ++ [v]) (cs ++ [c])
  | [], [], _ => ⟨x, trivial⟩
  | _ :: _, _ :: _, ⟨y, r⟩ => ⟨y, CtxsAt.snoc x r⟩
theorem CtxsAt.get' {K : PySem.W.Frag} {H : Hp} : ∀ {vs : List V} {cs : List Cx1} {k : Nat} {v : V}, CtxsAt K H vs cs → vs[k]? = some v → ∃ c, cs[k]? = some c ∧ CtxAt K H c v
  | [], [], _, _, _, h => by simp at h
  | v' :: vs, e :: es, 0, v, ⟨x, r⟩, h => by
    have : v' = v := Option.some.inj h
    subst this
    exact ⟨e, rfl, x⟩
  | v' :: vs, e :: es, k + 1, v, ⟨x, r⟩, h => CtxsAt.get' (k := k) r h
theorem put_at {K : PySem.W.Frag} {H : Hp} {c : Cx1} {u v : V} {e : Ex} {p : Addr} (hp : SqT K H p ((c.lay u).1 ++ [v] ++ (c.lay u).2)) (lf : c.leaf K H u) (he : ExAt K H e v) : ExAt K H (c.put e) (.ref p) := by
  cases c with
  | l w x => exact ⟨p, v, u, rfl, hp, he, lf⟩
  | r w x => exact ⟨p, u, v, rfl, hp, lf, he⟩
  | times f => exact ⟨p, v, rfl, hp, he⟩
  | «by» i => exact ⟨p, v, rfl, hp, he⟩
  | whenL i c x => exact ⟨p, v, u, rfl, hp, he, lf⟩
  | whenR i c x => exact ⟨p, u, v, rfl, hp, lf, he⟩
  | whrL i c x => exact ⟨p, v, u, rfl, hp, he, lf⟩
  | whrR i c x => exact ⟨p, u, v, rfl, hp, lf, he⟩
theorem put_ok {many : Nat} {c : Cx1} {e : Ex} (o : c.ok many) (oe : ExOk many e) : ExOk many (c.put e) := by
  cases c with
  | l w x => exact ⟨oe, o.1⟩
  | r w x => exact ⟨o.1, oe⟩
  | times f => exact ⟨o, oe⟩
  | «by» i => exact ⟨o, oe⟩
  | whenL i c x => exact ⟨o.1, o.2.1, oe, o.2.2.1⟩
  | whenR i c x => exact ⟨o.1, o.2.1, o.2.2.1, oe⟩
  | whrL i c x => exact ⟨o.1, o.2.1, oe, o.2.2.1⟩
  | whrR i c x => exact ⟨o.1, o.2.1, o.2.2.1, oe⟩
theorem dep_pos (e : Ex) : 1 ≤ e.dep := by cases e <;> (unfold Ex.dep; omega)
theorem put_dep {many : Nat} {c : Cx1} {e : Ex} (o : c.ok many) : (c.put e).dep ≤ e.dep + 1 := by
  have he := dep_pos e
  cases c with
  | l w x => show max e.dep x.dep + 1 ≤ _; have := o.2; omega
  | r w x => show max x.dep e.dep + 1 ≤ _; have := o.2; omega
  | times f => exact Nat.le_refl _
  | «by» i => exact Nat.le_refl _
  | whenL i c x => show max e.dep x.dep + 1 ≤ _; have := o.2.2.2; omega
  | whenR i c x => show max x.dep e.dep + 1 ≤ _; have := o.2.2.2; omega
  | whrL i c x => show max e.dep x.dep + 1 ≤ _; have := o.2.2.2; omega
  | whrR i c x => show max x.dep e.dep + 1 ≤ _; have := o.2.2.2; omega
def putAll (cs : List Cx1) (e : Ex) : Ex := cs.foldl (fun e c => c.put e) e
theorem putAll_ok {many : Nat} : ∀ {cs : List Cx1} {e : Ex}, (∀ c ∈ cs, c.ok many) → ExOk many e → ExOk many (putAll cs e)
  | [], _, _, h => h
  | c :: cs, e, o, h => putAll_ok (cs := cs) (e := c.put e) (fun c' h' => o c' (List.mem_cons_of_mem _ h')) (put_ok (o c List.mem_cons_self) h)
theorem putAll_dep {many : Nat} : ∀ {cs : List Cx1} {e : Ex}, (∀ c ∈ cs, c.ok many) → (putAll cs e).dep ≤ e.dep + cs.length
  | [], _, _ => Nat.le_refl _
  | c :: cs, e, o => by
    have h1 := putAll_dep (cs := cs) (e := c.put e) (fun c' h' => o c' (List.mem_cons_of_mem _ h'))
    have h2 := put_dep (e := e) (o c List.mem_cons_self)
    show (putAll cs (c.put e)).dep ≤ _
    rw [List.length_cons]
    omega
def fac1 (rs : List Int) (F : Int) : Cx1 → Int
  | .times f => F * f
  | .by i => F * rs.getD i 0
  | .r .less _ => 0 - F
  | _ => F
def fac (rs : List Int) (cs : List Cx1) : Int := cs.foldl (fac1 rs) 1

/-! ### a greater part put in -/
def Btw (d m : Int) : Prop := (0 ≤ d ∧ d ≤ m) ∨ (m ≤ d ∧ d ≤ 0)
theorem btw_mul {f d m : Int} (h : Btw d m) : Btw (f * d) (f * m) := by
  rcases Int.le_total 0 f with hf | hf
  · rcases h with ⟨h1, h2⟩ | ⟨h1, h2⟩
    · exact .inl ⟨Int.mul_nonneg hf h1, Int.mul_le_mul_of_nonneg_left h2 hf⟩
    · exact .inr ⟨Int.mul_le_mul_of_nonneg_left h1 hf, Int.mul_nonpos_of_nonneg_of_nonpos hf h2⟩
  · rcases h with ⟨h1, h2⟩ | ⟨h1, h2⟩
    · exact .inr ⟨Int.mul_le_mul_of_nonpos_left hf h2, Int.mul_nonpos_of_nonpos_of_nonneg hf h1⟩
    · exact .inl ⟨Int.mul_nonneg_of_nonpos_of_nonpos hf h2, Int.mul_le_mul_of_nonpos_left hf h1⟩
theorem btw_zero {m : Int} : Btw 0 m := by
  unfold Btw
  omega
theorem btw_jw {d m x y z : Int} (w : W4) (h : Btw d m) (e : d = y - x) (hw : w ≠ .less) : Btw (jw w y z - jw w x z) m := by
  unfold Btw at *
  cases w with
  | sum => simp only [jw]; omega
  | less => exact absurd rfl hw
  | least => simp only [jw]; split <;> split <;> omega
  | most => simp only [jw]; split <;> split <;> omega
theorem btw_jw' {d m x y z : Int} (w : W4) (h : Btw d m) (e : d = y - x) (hw : w ≠ .less) : Btw (jw w z y - jw w z x) m := by
  unfold Btw at *
  cases w with
  | sum => simp only [jw]; omega
  | less => exact absurd rfl hw
  | least => simp only [jw]; split <;> split <;> omega
  | most => simp only [jw]; split <;> split <;> omega
theorem btw_step {rs ss : List Int} {c : Cx1} {e1 e2 : Ex} {F P : Int} (h : Btw (wo rs ss e2 - wo rs ss e1) (F * P)) : Btw (wo rs ss (c.put e2) - wo rs ss (c.put e1)) (fac1 rs F c * P) := by
  cases c with
  | l w x =>
    cases w with
    | less =>
      show Btw ((wo rs ss e2 - wo rs ss x) - (wo rs ss e1 - wo rs ss x)) (F * P)
      rw [show (wo rs ss e2 - wo rs ss x) - (wo rs ss e1 - wo rs ss x) = wo rs ss e2 - wo rs ss e1 by omega]
      exact h
    | sum => exact btw_jw .sum h rfl (by simp)
    | least => exact btw_jw .least h rfl (by simp)
    | most => exact btw_jw .most h rfl (by simp)
  | r w x =>
    cases w with
    | less =>
      show Btw ((wo rs ss x - wo rs ss e2) - (wo rs ss x - wo rs ss e1)) ((0 - F) * P)
      rw [Int.sub_mul, Int.zero_mul]
      unfold Btw at *
      omega
    | sum => exact btw_jw' .sum h rfl (by simp)
    | least => exact btw_jw' .least h rfl (by simp)
    | most => exact btw_jw' .most h rfl (by simp)
  | times f =>
    show Btw (f * wo rs ss e2 - f * wo rs ss e1) (F * f * P)
    rw [← Int.mul_sub, Int.mul_comm F f, Int.mul_assoc]
    exact btw_mul h
  | «by» i =>
    show Btw (rs.getD i 0 * wo rs ss e2 - rs.getD i 0 * wo rs ss e1) (F * rs.getD i 0 * P)
    rw [← Int.mul_sub, Int.mul_comm F, Int.mul_assoc]
    exact btw_mul h
  | whenL i c x =>
    show Btw ((if rs.getD i 0 < c then wo rs ss e2 else wo rs ss x) - (if rs.getD i 0 < c then wo rs ss e1 else wo rs ss x)) (F * P)
    split
    · exact h
    · rw [Int.sub_self]
      exact btw_zero
  | whenR i c x =>
    show Btw ((if rs.getD i 0 < c then wo rs ss x else wo rs ss e2) - (if rs.getD i 0 < c then wo rs ss x else wo rs ss e1)) (F * P)
    split
    · rw [Int.sub_self]
      exact btw_zero
    · exact h
  | whrL j c x =>
    show Btw ((if 1000 * ss.getD j 0 < c * ss.sum then wo rs ss e2 else wo rs ss x) - (if 1000 * ss.getD j 0 < c * ss.sum then wo rs ss e1 else wo rs ss x)) (F * P)
    split
    · exact h
    · rw [Int.sub_self]
      exact btw_zero
  | whrR j c x =>
    show Btw ((if 1000 * ss.getD j 0 < c * ss.sum then wo rs ss x else wo rs ss e2) - (if 1000 * ss.getD j 0 < c * ss.sum then wo rs ss x else wo rs ss e1)) (F * P)
    split
    · rw [Int.sub_self]
      exact btw_zero
    · exact h
theorem btw_all {rs ss : List Int} {P : Int} : ∀ {cs : List Cx1} {e1 e2 : Ex} {F : Int}, Btw (wo rs ss e2 - wo rs ss e1) (F * P) → Btw (wo rs ss (putAll cs e2) - wo rs ss (putAll cs e1)) (cs.foldl (fac1 rs) F * P)
  | [], _, _, _, h => h
  | c :: cs, e1, e2, F, h => btw_all (cs := cs) (e1 := c.put e1) (e2 := c.put e2) (F := fac1 rs F c) (btw_step h)
theorem moved {rs ss : List Int} {cs : List Cx1} {e : Ex} {p : Int} (h : 0 ≤ p * ss.sum) : Btw (wo rs ss (putAll cs (.two .sum e (.fig p))) - wo rs ss (putAll cs e)) (fac rs cs * p * ss.sum) := by
  rw [Int.mul_assoc]
  refine btw_all (F := 1) ?_
  show Btw (wo rs ss e + p * ss.sum - wo rs ss e) (1 * (p * ss.sum))
  rw [Int.one_mul]
  unfold Btw
  omega

/-! ### worths lie in their spans -/
theorem le_sum : ∀ {ss : List Int} {j : Nat}, (∀ x ∈ ss, 0 ≤ x) → j < ss.length → ss.getD j 0 ≤ ss.sum
  | [], _, _, h => by simp at h
  | x :: ss, 0, h, _ => by
    have := sum_nonneg (ms := ss) fun y hy => h y (List.mem_cons_of_mem _ hy)
    show x ≤ (x :: ss).sum
    rw [List.sum_cons]
    omega
  | x :: ss, j + 1, h, hj => by
    have h1 := le_sum (ss := ss) (j := j) (fun y hy => h y (List.mem_cons_of_mem _ hy)) (by simpa using hj)
    have h2 := h x List.mem_cons_self
    show ss.getD j 0 ≤ (x :: ss).sum
    rw [List.sum_cons]
    omega
theorem spn_le : ∀ e : Ex, (spn e).1 ≤ (spn e).2
  | .fig _ => Int.le_refl _
  | .reg _ => by
    show (-1000 : Int) ≤ 1000
    decide
  | .share _ => by
    show (0 : Int) ≤ 1000
    decide
  | .two w a b => by
    have ha := spn_le a
    have hb := spn_le b
    show (js w (spn a) (spn b)).1 ≤ (js w (spn a) (spn b)).2
    cases w with
    | sum => show _ + _ ≤ _ + _; omega
    | less => show _ - _ ≤ _ - _; omega
    | least => show mn _ _ ≤ mn _ _; unfold mn; split <;> split <;> omega
    | most => show mx _ _ ≤ mx _ _; unfold mx; split <;> split <;> omega
  | .times f a => by
    show mn _ _ ≤ mx _ _
    unfold mn mx
    split <;> split <;> omega
  | .by _ a => by
    have h1 : 0 ≤ ab (spn a).1 := by unfold ab; split <;> omega
    have h2 := le_mx (ab (spn a).1) (ab (spn a).2)
    show -1000 * _ ≤ 1000 * _
    omega
  | .when _ _ a b => by
    have ha := spn_le a
    have h1 := mn_le (spn a).1 (spn b).1
    have h2 := le_mx (spn a).2 (spn b).2
    show mn _ _ ≤ mx _ _
    omega
  | .whr _ _ a b => by
    have ha := spn_le a
    have h1 := mn_le (spn a).1 (spn b).1
    have h2 := le_mx (spn a).2 (spn b).2
    show mn _ _ ≤ mx _ _
    omega
theorem mulr_le {a b n : Int} (h : a ≤ b) (hn : 0 ≤ n) : a * n ≤ b * n := Int.mul_le_mul_of_nonneg_right h hn
theorem in_span {many : Nat} {rs ss : List Int} (hr : rs.length = 4) (hrb : ∀ x ∈ rs, -1000 ≤ x ∧ x ≤ 1000) (hs : ss.length = many) (hsb : ∀ x ∈ ss, 0 ≤ x) : ∀ e : Ex, ExOk many e → (spn e).1 * ss.sum ≤ wo rs ss e ∧ wo rs ss e ≤ (spn e).2 * ss.sum
  | .fig c, _ => ⟨Int.le_refl _, Int.le_refl _⟩
  | .reg i, o => by
    have hn := sum_nonneg hsb
    have h := hrb _ (getD_mem (ns := rs) (i := i) (by rw [hr]; exact o))
    exact ⟨mulr_le h.1 hn, mulr_le h.2 hn⟩
  | .share j, o => by
    have o : j < many := o
    have h1 := le_sum (j := j) hsb (by omega)
    have h2 := hsb _ (getD_mem (ns := ss) (i := j) (by omega))
    show 0 * ss.sum ≤ 1000 * ss.getD j 0 ∧ 1000 * ss.getD j 0 ≤ 1000 * ss.sum
    omega
  | .two w a b, o => by
    have ha := in_span hr hrb hs hsb a o.1
    have hb := in_span hr hrb hs hsb b o.2
    have hn := sum_nonneg hsb
    show (js w (spn a) (spn b)).1 * ss.sum ≤ jw w (wo rs ss a) (wo rs ss b) ∧ jw w (wo rs ss a) (wo rs ss b) ≤ (js w (spn a) (spn b)).2 * ss.sum
    cases w with
    | sum =>
      show ((spn a).1 + (spn b).1) * ss.sum ≤ wo rs ss a + wo rs ss b ∧ wo rs ss a + wo rs ss b ≤ ((spn a).2 + (spn b).2) * ss.sum
      rw [Int.add_mul, Int.add_mul]
      omega
    | less =>
      show ((spn a).1 - (spn b).2) * ss.sum ≤ wo rs ss a - wo rs ss b ∧ wo rs ss a - wo rs ss b ≤ ((spn a).2 - (spn b).1) * ss.sum
      rw [Int.sub_mul, Int.sub_mul]
      omega
    | least =>
      have h1 := mn_le (spn a).1 (spn b).1
      have h3 := mulr_le h1.1 hn
      have h4 := mulr_le h1.2 hn
      have h5 := mn_or (spn a).2 (spn b).2
      show mn (spn a).1 (spn b).1 * ss.sum ≤ (if wo rs ss b < wo rs ss a then wo rs ss b else wo rs ss a) ∧ (if wo rs ss b < wo rs ss a then wo rs ss b else wo rs ss a) ≤ mn (spn a).2 (spn b).2 * ss.sum
      rcases h5 with h5 | h5 <;> rw [h5] <;> split <;> omega
    | most =>
      have h1 := le_mx (spn a).2 (spn b).2
      have h3 := mulr_le h1.1 hn
      have h4 := mulr_le h1.2 hn
      have h5 := mx_or (spn a).1 (spn b).1
      show mx (spn a).1 (spn b).1 * ss.sum ≤ (if wo rs ss b > wo rs ss a then wo rs ss b else wo rs ss a) ∧ (if wo rs ss b > wo rs ss a then wo rs ss b else wo rs ss a) ≤ mx (spn a).2 (spn b).2 * ss.sum
      rcases h5 with h5 | h5 <;> rw [h5] <;> split <;> omega
  | .times f a, o => by
    have ha := in_span hr hrb hs hsb a o.2
    have hn := sum_nonneg hsb
    have m1 := mn_le (f * (spn a).1) (f * (spn a).2)
    have m2 := le_mx (f * (spn a).1) (f * (spn a).2)
    have n1 := mulr_le m1.1 hn
    have n2 := mulr_le m1.2 hn
    have n3 := mulr_le m2.1 hn
    have n4 := mulr_le m2.2 hn
    rw [Int.mul_assoc] at n1 n2 n3 n4
    show mn _ _ * ss.sum ≤ f * wo rs ss a ∧ f * wo rs ss a ≤ mx _ _ * ss.sum
    rcases Int.le_total 0 f with hf | hf
    · have p1 := Int.mul_le_mul_of_nonneg_left ha.1 hf
      have p2 := Int.mul_le_mul_of_nonneg_left ha.2 hf
      omega
    · have p1 := Int.mul_le_mul_of_nonpos_left hf ha.1
      have p2 := Int.mul_le_mul_of_nonpos_left hf ha.2
      omega
  | .by i a, o => by
    have ha := in_span hr hrb hs hsb a o.2
    have hn := sum_nonneg hsb
    have hg := hrb _ (getD_mem (ns := rs) (i := i) (by rw [hr]; exact o.1))
    generalize ht : mx (ab (spn a).1) (ab (spn a).2) = t
    have t1 : -t ≤ (spn a).1 ∧ (spn a).2 ≤ t := by
      have h2 := le_mx (ab (spn a).1) (ab (spn a).2)
      rw [ht] at h2
      have h3 : -(spn a).1 ≤ ab (spn a).1 := by unfold ab; split <;> omega
      have h4 : (spn a).2 ≤ ab (spn a).2 := by unfold ab; split <;> omega
      omega
    have w1 : -(t * ss.sum) ≤ wo rs ss a := by
      have := mulr_le t1.1 hn
      rw [Int.neg_mul] at this
      omega
    have w2 : wo rs ss a ≤ t * ss.sum := by
      have := mulr_le t1.2 hn
      omega
    show (-1000 * mx (ab (spn a).1) (ab (spn a).2)) * ss.sum ≤ rs.getD i 0 * wo rs ss a ∧ rs.getD i 0 * wo rs ss a ≤ (1000 * mx (ab (spn a).1) (ab (spn a).2)) * ss.sum
    rw [ht, Int.mul_assoc, Int.mul_assoc]
    generalize rs.getD i 0 = g at *
    generalize t * ss.sum = T at *
    generalize wo rs ss a = x at *
    have hT : 0 ≤ T := by omega
    rcases Int.le_total 0 g with hgn | hgn
    · have p1 := Int.mul_le_mul_of_nonneg_left w1 hgn
      have p2 := Int.mul_le_mul_of_nonneg_left w2 hgn
      have p3 := Int.mul_le_mul_of_nonneg_right hg.2 hT
      rw [Int.mul_neg] at p1
      omega
    · have p1 := Int.mul_le_mul_of_nonpos_left hgn w1
      have p2 := Int.mul_le_mul_of_nonpos_left hgn w2
      have p3 := Int.mul_le_mul_of_nonneg_right hg.1 hT
      rw [Int.mul_neg] at p1
      omega
  | .when i c a b, o => by
    have ha := in_span hr hrb hs hsb a o.2.2.1
    have hb := in_span hr hrb hs hsb b o.2.2.2
    have hn := sum_nonneg hsb
    have m1 := mn_le (spn a).1 (spn b).1
    have m2 := le_mx (spn a).2 (spn b).2
    have n1 := mulr_le m1.1 hn
    have n2 := mulr_le m1.2 hn
    have n3 := mulr_le m2.1 hn
    have n4 := mulr_le m2.2 hn
    show mn _ _ * ss.sum ≤ (if rs.getD i 0 < c then wo rs ss a else wo rs ss b) ∧ (if rs.getD i 0 < c then wo rs ss a else wo rs ss b) ≤ mx _ _ * ss.sum
    split <;> omega
  | .whr j c a b, o => by
    have ha := in_span hr hrb hs hsb a o.2.2.1
    have hb := in_span hr hrb hs hsb b o.2.2.2
    have hn := sum_nonneg hsb
    have m1 := mn_le (spn a).1 (spn b).1
    have m2 := le_mx (spn a).2 (spn b).2
    have n1 := mulr_le m1.1 hn
    have n2 := mulr_le m1.2 hn
    have n3 := mulr_le m2.1 hn
    have n4 := mulr_le m2.2 hn
    show mn _ _ * ss.sum ≤ (if 1000 * ss.getD j 0 < c * ss.sum then wo rs ss a else wo rs ss b) ∧ (if 1000 * ss.getD j 0 < c * ss.sum then wo rs ss a else wo rs ss b) ≤ mx _ _ * ss.sum
    split <;> omega

/-! ### promises -/
def spAround (K : PySem.W.Frag) : Sp := fun vs H Q _ => ∃ (a : Addr) (many n : Nat), vs = [.ref a, .int (many : Int)] ∧ 2 ≤ many ∧ many ≤ 3 ∧ HandAt H a n ∧ n ≤ 999998000 ∧
  ∀ H' p xs cs, But a H H' → HandAt H' a (n + 90) → p ≠ a → H' p = some (.lst xs) → CtxsAt K H' xs cs → (∀ c ∈ cs, c.ok many) → cs.length ≤ 4 → Q (.ref p) H'
def spPut (K : PySem.W.Frag) : Sp := fun vs H Q _ => ∃ (p : Addr) (v : V) (xs : List V) (cs : List Cx1) (e : Ex), vs = [.ref p, v] ∧ H p = some (.lst xs) ∧ CtxsAt K H xs cs ∧ ExAt K H e v ∧ ∀ H' u, Same H H' → ExAt K H' (putAll cs e) u → Q u H'
def spFac (K : PySem.W.Frag) (many : Nat) : Sp := fun vs H Q _ => ∃ (p : Addr) (r : V) (xs : List V) (cs : List Cx1) (rs : List Int), vs = [.ref p, r] ∧ H p = some (.lst xs) ∧ CtxsAt K H xs cs ∧ (∀ c ∈ cs, c.ok many) ∧ RegsAt K H rs r ∧ Q (.int (fac rs cs)) H
end NG

namespace NG
open PySem PySem.Spec PyProof.Rows L2

/-! ### promises that are kept while no repr is under way -/
structure FnG (P : Program) (w : World) (K : PySem.W.Frag) (mg : Str → Option Value) (base : Heap) (k : Nat) (f : Addr) (fd : FuncData) (ps : List Str) (sp : Sp) : Prop where
  len : ∀ vs H Q E, sp vs H Q E → vs.length = ps.length
  run : ∀ (A : Around) (outer : List Env) (s : Shared) (H : Hp) (args : Args) (us : List Value) (vs : List V) (Q : VK), A.guards = some [] → Room k A → Env0 P w K mg base A outer s H → BindsTo s fd args (ps.zip us) → Vals vs us → sp vs H Q E0 →
    codeAny (model P w) A (.call (.ref f) args) (CR CX0 outer P w H s Q E0) s
theorem FnG.of {P : Program} {w : World} {K : PySem.W.Frag} {mg : Str → Option Value} {base : Heap} {k : Nat} {f : Addr} {fd : FuncData} {ps : List Str} {sp : Sp} (F : FnOk P w K mg base CX0 k f fd ps sp) : FnG P w K mg base k f fd ps sp :=
  ⟨F.len, fun A outer s H args us vs Q _ hr he hb hv hs => F.run A outer s H args us vs Q E0 hr he hb hv hs⟩
theorem fnG {P : Program} {w : World} {K : PySem.W.Frag} {mg : Str → Option Value} {base : Heap} {x qual : Str} {st : Stmt} {f : Addr} {fd : FuncData} {N ps : List Str} {k : Nat} {sp : Sp} (F : Fun K x qual st f fd) (S : FnScope N ps (defScope st)) (len : ∀ vs H Q E, sp vs H Q E → vs.length = ps.length)
    (walk : ∀ (cdv : Value) (A : Around) (outer : List Env) (s : Shared) (H : Hp) (vs : List V) (Q : VK), A.guards = some [] → Room k (A.deeper (envOfC qual (defScope st) s.heap.objs.size f cdv)) → sp vs H Q E0 →
      ∃ t, PSs (cxOf CX0 P w K mg base N qual (defScope st) f cdv A outer s H E0).nox (defBody st) t ∧ t { nx := fun _ H' => Q .non H', rt := Q } (start N vs) H) : FnG P w K mg base (k + 1) f fd ps sp := by
  obtain ⟨oc, od, kV, doc, pm, an, cdv, ct, osl, rfl, lk, hcd⟩ := F.ex
  refine ⟨len, fun A outer s H args us vs Q hg hr e0 bd rv hs => ?_⟩
  have inK : K.In s.heap := e0.mod.kin.keeps fun b o e => (e0.bs b o e).1
  have nolim : s.heap.NoLimit := e0.mod.nolimit.keeps fun b o e => (e0.bs b o e).1
  refine codeAny_call_function hr.depth (inK _ _ lk) rfl S.co S.gen rfl (PySem.W.codeRec_of inK hcd) (bd _ _ _ _ ?_)
  refine wpAny_newFunctionEnv_cells S.kind (fun y hy => ?_) fun env he s1 ic => ?_
  · obtain ⟨n, v⟩ := y
    rcases S.par n (List.of_mem_zip hy).1 with z | z
    · exact .inl z
    · exact .inr ⟨z, PySem.W.cellsFrom_some _ _ _ (.inl z)⟩
  subst he
  refine ⟨nolim.keeps ic.toInCall.keep, codeAny_func ?_⟩
  obtain ⟨t, ht, hq⟩ := walk cdv A outer s H vs Q hg (hr.deeper _) hs
  have I := inv_start (CX := CX0) (E := E0) S hr.hd e0 (len _ _ _ _ hs) rv ic
  refine wpAny_mono (ht.nox.run [] s1 (start N vs) H _ I hq) (fun fl s' hf => ?_) fun e s' hf => hf
  match fl, hf with
  | .ret u, ⟨v, σ', H', J, r, q⟩ => exact ⟨v, H', J.os, J.bare, J.base, J.hok, r, q⟩
  | .next, ⟨σ', H', J, q⟩ => exact ⟨.non, H', J.os, J.bare, J.base, J.hok, rfl, q⟩
  | .brk, ⟨_, _, _, q⟩ => exact q.elim
  | .cont, ⟨_, _, _, q⟩ => exact q.elim

structure CalG (P : Program) (w : World) (K : PySem.W.Frag) (mg : Str → Option Value) (base : Heap) (k : Nat) (x : Str) (sp : Sp) : Prop where
  ex : ∃ (f : Addr) (fd : FuncData) (ps : List Str), FnG P w K mg base k f fd ps sp ∧ mg x = some (.ref f) ∧ PySem.W.keepIn K (.ref f) = true ∧ Binds K fd ps []
theorem Cal.g {P : Program} {w : World} {K : PySem.W.Frag} {mg : Str → Option Value} {base : Heap} {k : Nat} {x : Str} {sp : Sp} (c : Cal P w K mg base k x sp) : CalG P w K mg base k x sp := by
  obtain ⟨f, fd, ps, F, r⟩ := c.ex
  exact ⟨f, fd, ps, .of F, r⟩
section
variable {X : Cx} {k j : Nat} {x : Str} {sp : Sp} {p pos : Pos} {e : Expr} {es : List Expr} {t : TA}
theorem pe_g (c : CalG X.prog X.w X.K X.mg X.base k x sp) (hgd : X.A.guards = some []) (hr : Room j X.A) (hk : k ≤ j) (hg : Gl X x) (ha : PA X (e :: es) t)
    (hdb : (x == ("__debug__" : Str)) = false := by decide) (he : starEach (e :: es) X.env = (false, eval e X.env) :: starEach es X.env := by rfl) (hpl : (backTo pos (starEach es X.env)).any (·.1) = false := by rfl) :
    PE X (.Call (.Name x p) (e :: es) [] pos) (tCall sp [] E0 t) := by
  obtain ⟨f, fd, ps, F, hm, kp, b⟩ := c.ex
  refine ⟨fun pins s σ H Q I h => wpAny_Call_Name_kw (ld_glob I hg hm ?_ hdb)⟩
  refine PySem.W.callWith_K (h₀ := X.base) I.ok.mod.kin kp (thn (ha.run pos pins s σ H _ I h) fun us s1 ⟨vs, H1, I1, r, q⟩ => ⟨I1.kIn, ?_⟩) he hpl
  have q : sp (vs ++ []) H1 Q E0 := q
  rw [List.append_nil] at q
  have hl : (us ++ []).length = ps.length := by
    rw [List.append_nil, ← r.length]
    exact F.len _ _ _ _ q
  have bd := b s1 us I1.kIn hl
  rw [List.append_nil] at bd
  refine wpAny_call (codeAny_mono (F.run X.A X.stack s1 H1 ⟨us, []⟩ us vs Q hgd (hr.mono hk) I1.env0 bd r q) fun res s' hq => ?_)
  match res, hq with
  | .ok (.ret u), hq => exact I1.after hq
  | .ok .next, hq => exact False.elim hq
  | .ok .brk, hq => exact False.elim hq
  | .ok .cont, hq => exact False.elim hq
  | .error e, hq => exact False.elim hq
end

/-! ### the law's call -/
theorem lawG {P : Program} {w : World} {K : PySem.W.Frag} {mg mb : Str → Option Value} {k : Nat} {fa a : Addr} {fd : FuncData} {x : Str} {sp : Sp} {st : Shared} {vs : List Value} {ns : List Int}
    (inK : K.In st.heap) (gl : st.heap.Ns mainGlobals mg) (bl : st.heap.Ns builtinsNs mb) (blt : ∀ y : Str, y ≠ "__name__" → mb y = bootBuiltins y) (lim : st.heap.NoLimit) (gens : st.gens = #[])
    (at0 : st.heap.get? a = some { cls := .type "list", data := .seq vs.toArray }) (hint : IntsAre vs ns) (short : ns.length ≤ sizeLine) (room : Room k callerA)
    (F : ∀ base : Heap, K.In base → base.Ns mainGlobals mg → FnG P w K mg base k fa fd [x] sp) (bind : ∀ (s : Shared) (u : Value), BindsTo s fd ⟨[u], []⟩ [(x, u)])
    (prom : ∀ H : Hp, Only H → SqL K H a (ns.map V.int) → sp [.ref a] H (fun v _ => v = .bl true) E0) :
    codeAny (model P w) callerA (.call (.ref fa) ⟨[.ref a], []⟩) (fun r s' => r = .ok (.ret (.bool true)) ∧ OldK st.heap s'.heap ∧ s'.os = st.os ∧ AllBare s'.gens) st := by
  have rel := vals_ints hint
  have go : ∀ H : Hp, Only H → SqL K H a (ns.map V.int) → HOk P w H st.heap → (∀ b, H b ≠ none → b = a ∧ K.lookup b = none) →
      codeAny (model P w) callerA (.call (.ref fa) ⟨[.ref a], []⟩) (fun r s' => r = .ok (.ret (.bool true)) ∧ OldK st.heap s'.heap ∧ s'.os = st.os ∧ AllBare s'.gens) st := by
    intro H on sq ok sole
    have dicts : ∀ {b : Addr} {o : Obj} {es : Array DictEntry} {ep : Nat}, st.heap.get? b = some o → o.data = .dict es ep → H b = none := by
      intro b o es ep e d
      by_cases z : H b = none
      · exact z
      · obtain ⟨rfl, _⟩ := sole b z
        rw [at0] at e
        cases e
        cases d
    have names : ∀ {b : Addr} {m : Str → Option Value}, st.heap.Ns b m → (hidT st.heap H).Ns b m := by
      rintro b m ⟨o, es, ep, e, d, r⟩
      exact ⟨o, es, ep, hidT_get e (dicts e d), d, r⟩
    have kin : K.In (hidT st.heap H) := by
      intro b o e
      refine hidT_get (inK b o e) ?_
      by_cases z : H b = none
      · exact z
      · rw [(sole b z).2] at e
        cases e
    have md : Mod K mg (hidT st.heap H) := by
      obtain ⟨mc, l1, l2⟩ := lim
      exact ⟨kin, names gl, ⟨mb, names bl, blt⟩, ⟨mc, names l1, l2⟩⟩
    have env : Env0 P w K mg (hidT st.heap H) callerA [] st H :=
      ⟨rfl, md, fun b o e => of_hidT e, Nat.le_of_eq (hidT_size _ _), trivial, fun b z => absurd (show b ∈ ([] : List Addr) from z) (by simp), ok, .of_eq gens⟩
    refine codeAny_mono ((F _ kin (names gl)).run callerA [] st H ⟨[.ref a], []⟩ [.ref a] [.ref a] _ rfl room env (bind st (.ref a)) (.cons rfl .nil) (prom H on sq)) fun res s' hq => ?_
    match res, hq with
    | .ok .next, hq => exact False.elim hq
    | .ok .brk, hq => exact False.elim hq
    | .ok .cont, hq => exact False.elim hq
    | .error e, hq => exact False.elim hq
    | .ok (.ret u), ⟨v, H', os, bare, un, ok', r, q⟩ =>
      have q : v = .bl true := q
      subst q
      have r : u = Value.bool true := r
      subst r
      refine ⟨rfl, OldK.of_keep fun b o e => ?_, os, bare⟩
      by_cases z : H b = none
      · exact un.keep b o e z (fun y => absurd (show b ∈ ([] : List Addr) from y) (by simp)) (by simp)
      · rcases on b with y | ⟨ob, xs, y⟩
        · exact absurd y z
        · obtain ⟨p1, _⟩ := ok b _ y
          obtain ⟨p2, _⟩ := ok' b _ (un.frzs b ob _ y)
          rw [e] at p1
          cases p1
          exact p2
  by_cases hk : K.lookup a = none
  · refine go (upd (fun _ => none) a (.frz { cls := .type "list", data := .seq vs.toArray } (.lst (ns.map V.int)))) (fun b => ?_) (.inl (.inr ⟨_, upd_same⟩)) (fun b u z => ?_) (fun b z => ?_)
    · by_cases hb : b = a
      · subst hb
        exact .inr ⟨_, _, upd_same⟩
      · exact .inl (upd_ne hb)
    · by_cases hb : b = a
      · subst hb
        rw [upd_same] at z
        cases z
        exact ⟨at0, by rw [List.length_map]; exact short, vs, _, rel, at0⟩
      · rw [upd_ne hb] at z
        cases z
    · by_cases hb : b = a
      · subst hb
        exact ⟨rfl, hk⟩
      · exact absurd (upd_ne hb) z
  · obtain ⟨o, ho⟩ := Option.ne_none_iff_exists'.mp hk
    have e := inK a o ho
    rw [at0] at e
    cases e
    refine go (fun _ => none) (fun _ => .inl rfl) (.inr ⟨_, vs.toArray, _, ho, rfl, rfl, rfl, ?_, by simpa using rel⟩) (fun b u z => by cases z) (fun b z => absurd rfl z)
    rw [List.size_toArray, hint.length]
    exact short
theorem walkG {l : PySem.W.OpenLaw} {n k : Nat} {q : Program} {loose : List Str} {XP : (Str → Option Value) → Heap → Prop} {YP : World → Heap → Prop} {d : DefRec} {K : Params → PySem.W.Frag} {sp : World → Sp} {x : Str}
    (hn : l.most = some n) (hn2 : n ≤ sizeLine) (hdf : d.params.defaults = []) (hr : Room k callerA) (hY : ∀ (w : World) (h : Heap), YP w h → (K w.params).In h)
    (F : ∀ (w : World) (mg : Str → Option Value) (fa : Addr) (h : Heap), (K w.params).In h → h.Ns mainGlobals mg → mg d.name = some (.ref fa) →
      ∃ fd : FuncData, (∀ (s : Shared) (u : Value), BindsTo s fd ⟨[u], []⟩ [(x, u)]) ∧ ∀ base : Heap, (K w.params).In base → base.Ns mainGlobals mg → FnG l.prog w (K w.params) mg base k fa fd [x] (sp w))
    (hsp : ∀ (w : World) (H : Hp) (a : Addr) (ns : List Int), ns.length ≤ n → Only H → SqL (K w.params) H a (ns.map V.int) → sp w [.ref a] H (fun v _ => v = .bl true) E0) :
    PySem.W.WalkO q loose XP YP l.row.toRowW d [] (fun f vs => PySem.call f vs) := by
  refine Att.attach_call hn hdf fun w s0 s1 mg mb fa o pm cd doc a vs ns G Y _ _ _ hmg hobj hints hlen hg => ?_
  have inK := hY w _ Y
  obtain ⟨fd, hb, hF⟩ := F w mg fa _ inK G.T.g hmg
  exact lawG inK G.T.g G.T.b G.T.builtins G.T.nolimit hg hobj hints (Nat.le_trans hlen hn2) hr hF hb fun H on sq => hsp w H a ns hlen on sq

/-! ### repr -/
mutual
theorem Dp_nodict {K : PySem.W.Frag} {H : Hp} : ∀ {d : PyData} {v : V}, Dp K H v d → d.hasDict = false
  | .none, _, _ => by simp only [PyData.hasDict]
  | .bool _, _, _ => by simp only [PyData.hasDict]
  | .int _, _, _ => by simp only [PyData.hasDict]
  | .str _, _, _ => by simp only [PyData.hasDict]
  | .list ds, _, h => by
    cases h with
    | lst _ h => simp only [PyData.hasDict, DpAll_nodict h]
  | .tuple ds, _, h => by
    cases h with
    | tup _ h => simp only [PyData.hasDict, DpAll_nodict h]
  | .dict _, _, h => by cases h
theorem DpAll_nodict {K : PySem.W.Frag} {H : Hp} : ∀ {ds : List PyData} {vs : List V}, DpAll K H vs ds → PyData.hasDictAll ds = false
  | [], _, _ => by simp only [PyData.hasDictAll]
  | d :: ds, _, h => by
    cases h with
    | cons h1 h2 => simp only [PyData.hasDictAll, Dp_nodict h1, DpAll_nodict h2, Bool.or_self]
end
def rRepr (K : PySem.W.Frag) : List V → Hp → VK → Prop := fun vs H Q => ∃ (p : Addr) (d : PyData), vs = [.ref p] ∧ Dp K H (.ref p) d ∧ d.showable = true ∧ d.depth ≤ 60 ∧ d.shown.length ≤ sizeLine ∧ Q (.str d.shown) H
theorem cr_repr {X : Cx} (hg : X.A.guards = some []) (hu : X.A.units + 64 < cLine) : CallR X (.builtin "repr") (rRepr X.K) := by
  intro pins s σ H vs us Q I r h
  obtain ⟨p, d, rfl, hd, hs, hz, hl, q⟩ := h
  rw [Vals.ref1 r]
  obtain ⟨as, rd⟩ := Dp.reads I d (.ref p) (.ref p) hd rfl
  exact repr_of_reads' rd hs (PyData.noDict_hsm (Dp_nodict hd)) hg (by omega) (fun _ _ e => e) (fun h' u tk hk => ⟨.str _, H, I.kept hk, ⟨_, rfl⟩, q⟩) hl
end NG

namespace NG
open PySem PySem.Spec PyProof.Rows L2

/-! ### xs[::-1] -/
theorem pe_revL {X : Cx} {e st : Expr} {te ts : TE} {pos p2 : Pos} (he : PE X e te) (hs : PE X st ts) : PE X (.Subscript e (.Slice none none (some st) p2) pos)
    (fun σ H Q => te σ H fun x H1 => ts σ H1 fun y H2 => y = .int (-1) ∧ ∃ a xs, x = .ref a ∧ SqL X.K H2 a xs ∧ ∀ p, H2 p = none → Q (.ref p) (upd H2 p (.lst xs.reverse))) := by
  refine ⟨fun pins s σ H Q I h => ?_⟩
  refine Subscript_ (thn (he.run pins s σ H _ I h) fun v s1 ⟨x, H1, I1, r1, q1⟩ => ?_)
  refine wpAny_Slice ?_
  rw [evalPart_none]
  refine wpAny_pure (wpAny_pure ?_)
  rw [evalPart_some]
  refine thn (hs.run pins s1 σ H1 _ I1 q1) fun vk s2 ⟨y, H2, I2, r2, q2⟩ => ?_
  obtain ⟨rfl, a, xs, rfl, hx, q⟩ := q2
  obtain ⟨t, rfl⟩ := r2
  cases r1
  obtain ⟨its, rv, ht, hz⟩ := I2.list hx
  have I3 : Inv X pins σ H2 { s2 with heap := s2.heap.push { cls := .type "slice", data := .fields #[.none, .none, .int (-1) t] } } := I2.kept (t' := s2.toks) fun b ob q => Heap.get?_push_of_some _ q
  obtain ⟨its', rv', ht', _⟩ := I3.list hx
  have hl := rv'.length
  refine tail_any (ops := [.ref a, .ref s2.heap.objs.size]) ht'.isList.typeIs slot_list_getitem.lookup ?_ (by with_unfolding_all rfl)
  refine wpAny_getItem_list_slice ht'.isList (Heap.IsSliceOf.new ..) .none .none (.int (-1) t) (by decide) ?_ (by rw [List.size_toArray]; omega)
  rw [PySem.W.krv_pick]
  refine ⟨.ref _, _, I3.laid (t' := s2.toks) (o := .lst xs.reverse) (fun b ob q => Heap.get?_push_of_some _ q) (Nat.le_refl _) ?_, rfl, q _ (I3.hok.fresh (Nat.le_refl _))⟩
  refine ⟨by rw [List.length_reverse]; exact hz, its'.reverse, 0, ?_, Heap.get?_push_size _ rfl⟩
  have rev : ∀ {xs : List V} {us : List Value}, Vals xs us → Vals xs.reverse us.reverse := by
    intro xs us r
    induction r with
    | nil => exact .nil
    | cons h t ih =>
      rw [List.reverse_cons, List.reverse_cons]
      exact ih.append (.cons h .nil)
  exact rev rv'

/-! ### calls by keywords alone, handed in from the last parameter to the first -/
theorem Vals.rev {xs : List V} {us : List Value} (r : Vals xs us) : Vals xs.reverse us.reverse := by
  induction r with
  | nil => exact .nil
  | cons h t ih =>
    rw [List.reverse_cons, List.reverse_cons]
    exact ih.append (.cons h .nil)
structure CalK (P : Program) (w : World) (K : PySem.W.Frag) (mg : Str → Option Value) (base : Heap) (k : Nat) (x : Str) (ks : List Str) (sp : Sp) : Prop where
  ex : ∃ (f : Addr) (fd : FuncData), FnG P w K mg base k f fd ks.reverse sp ∧ mg x = some (.ref f) ∧ PySem.W.keepIn K (.ref f) = true ∧ ∀ (s : Shared) (ws : List Value), ws.length = ks.length → BindsTo s fd ⟨[], ks.zip ws⟩ (ks.reverse.zip ws.reverse)
section
variable {X : Cx} {k j : Nat} {x : Str} {ks : List Str} {sp : Sp} {p pos : Pos} {kws : List Keyword} {tk : TA}
theorem pe_kw (c : CalK X.prog X.w X.K X.mg X.base k x ks sp) (hgd : X.A.guards = some []) (hr : Room j X.A) (hk : k ≤ j) (hg : Gl X x) (hkw : PK X kws tk) (hall : (backToKw pos (keywordEach kws X.env)).all (·.1.isSome) = true := by rfl) (hks : (backToKw pos (keywordEach kws X.env)).filterMap (·.1) = ks := by rfl)
    (hdb : (x == ("__debug__" : Str)) = false := by decide) (hpl : ((backTo pos (starEach [] X.env)).any (·.1) || (backToKw pos (keywordEach kws X.env)).any (·.1.isNone)) = false := by rfl) :
    PE X (.Call (.Name x p) [] kws pos) (fun σ H Q => tk σ H fun zs H2 => zs.length = ks.length ∧ sp zs.reverse H2 Q E0) := by
  obtain ⟨f, fd, F, hm, kp, b⟩ := c.ex
  refine ⟨fun pins s σ H Q I h => wpAny_Call_Name_kw (ld_glob I hg hm ?_ hdb)⟩
  refine PySem.W.callWith_KW0 (h₀ := X.base) I.ok.mod.kin kp hall (thn (hkw.run pos pins s σ H _ I h) fun ws s2 ⟨zs, H2, I2, rz, hl, q⟩ => ⟨I2.kIn, ?_⟩) hpl
  rw [hks]
  refine wpAny_call (codeAny_mono (F.run X.A X.stack s2 H2 ⟨[], ks.zip ws⟩ ws.reverse zs.reverse Q hgd (hr.mono hk) I2.env0 (b s2 ws (by rw [← rz.length]; exact hl)) (Vals.rev rz) q) fun res s' hq => ?_)
  match res, hq with
  | .ok (.ret u), hq => exact I2.after hq
  | .ok .next, hq => exact False.elim hq
  | .ok .brk, hq => exact False.elim hq
  | .ok .cont, hq => exact False.elim hq
  | .error e, hq => exact False.elim hq
end

/-! ### an expression as its items -/
inductive Itm where
  | s (x : Str) | i (c : Int) | k (e : Ex)
def ItAt (K : PySem.W.Frag) (H : Hp) : Itm → V → Prop
  | .s x, v => v = .str x
  | .i c, v => v = .int c
  | .k e, v => ExAt K H e v
def ItsAt (K : PySem.W.Frag) (H : Hp) : List V → List Itm → Prop
  | [], [] => True
  | v :: vs, t :: ts => ItAt K H t v ∧ ItsAt K H vs ts
  | _, _ => False
def Ex.items : Ex → List Itm
  | .fig c => [.s "fig", .i c]
  | .reg i => [.s "reg", .i (i : Int)]
  | .share j => [.s "share", .i (j : Int)]
  | .two w a b => [.s (wn w), .k a, .k b]
  | .times f a => [.s "times", .i f, .k a]
  | .by i a => [.s "by", .i (i : Int), .k a]
  | .when i c a b => [.s "when", .i (i : Int), .i c, .k a, .k b]
  | .whr j c a b => [.s "where", .i (j : Int), .i c, .k a, .k b]
def kidsI : List Itm → List Ex
  | [] => []
  | .k e :: r => e :: kidsI r
  | .s _ :: r => kidsI r
  | .i _ :: r => kidsI r
theorem kidsI_items (e : Ex) : kidsI e.items = e.kids := by cases e <;> rfl
theorem kidsI_append : ∀ (l r : List Itm), kidsI (l ++ r) = kidsI l ++ kidsI r
  | [], r => rfl
  | .k e :: l, r => by
    show e :: kidsI (l ++ r) = e :: (kidsI l ++ kidsI r)
    rw [kidsI_append l r]
  | .s _ :: l, r => kidsI_append l r
  | .i _ :: l, r => kidsI_append l r
theorem ExAt.its {K : PySem.W.Frag} {H : Hp} : ∀ {e : Ex} {v : V}, ExAt K H e v → ∃ p xs, v = .ref p ∧ SqT K H p xs ∧ ItsAt K H xs e.items
  | .fig _, _, ⟨p, e, q⟩ => ⟨p, _, e, q, rfl, rfl, trivial⟩
  | .reg _, _, ⟨p, e, q⟩ => ⟨p, _, e, q, rfl, rfl, trivial⟩
  | .share _, _, ⟨p, e, q⟩ => ⟨p, _, e, q, rfl, rfl, trivial⟩
  | .two _ _ _, _, ⟨p, x, y, e, q, a, b⟩ => ⟨p, _, e, q, rfl, a, b, trivial⟩
  | .times _ _, _, ⟨p, x, e, q, a⟩ => ⟨p, _, e, q, rfl, rfl, a, trivial⟩
  | .by _ _, _, ⟨p, x, e, q, a⟩ => ⟨p, _, e, q, rfl, rfl, a, trivial⟩
  | .when _ _ _ _, _, ⟨p, x, y, e, q, a, b⟩ => ⟨p, _, e, q, rfl, rfl, rfl, a, b, trivial⟩
  | .whr _ _ _ _, _, ⟨p, x, y, e, q, a, b⟩ => ⟨p, _, e, q, rfl, rfl, rfl, a, b, trivial⟩
theorem ItsAt.get {K : PySem.W.Frag} {H : Hp} : ∀ {vs : List V} {ts : List Itm} {k : Nat} {v : V}, ItsAt K H vs ts → vs[k]? = some v → ∃ t, ts[k]? = some t ∧ ItAt K H t v
  | [], [], _, _, _, h => by simp at h
  | v' :: vs, t :: ts, 0, v, ⟨x, r⟩, h => by
    have : v' = v := Option.some.inj h
    subst this
    exact ⟨t, rfl, x⟩
  | v' :: vs, t :: ts, k + 1, v, ⟨x, r⟩, h => ItsAt.get (k := k) r h
theorem ItsAt.len {K : PySem.W.Frag} {H : Hp} : ∀ {vs : List V} {ts : List Itm}, ItsAt K H vs ts → vs.length = ts.length
  | [], [], _ => rfl
  | _ :: _, _ :: _, ⟨_, r⟩ => by rw [List.length_cons, List.length_cons, r.len]
theorem tyx_tup {K : PySem.W.Frag} {H : Hp} {p : Addr} {xs : List V} (h : SqT K H p xs) : TyX K H (.ref p) (.type "tuple") := by
  rcases h with (h | ⟨o, h⟩) | ⟨o, its, n, h1, h2, _⟩
  · exact .base (.tup h)
  · exact .fTuple h
  · exact .kTuple h1 h2
def Itm.isK : Itm → Bool
  | .k _ => true
  | _ => false
theorem isi_item {K : PySem.W.Frag} {H : Hp} {t : Itm} {v : V} (h : ItAt K H t v) : ∃ ty, TyX K H v ty ∧ PySem.W.kitOne K ty (.type "tuple") = some t.isK := by
  cases t with
  | s x =>
    have h : v = .str x := h
    subst h
    exact ⟨_, .base (.str x), kit_ty (show kitB "str" "tuple" = some false by decide +kernel)⟩
  | i c =>
    have h : v = .int c := h
    subst h
    exact ⟨_, .base (.int c), kit_ty (show kitB "int" "tuple" = some false by decide +kernel)⟩
  | k e =>
    obtain ⟨p, xs, rfl, hp, _⟩ := ExAt.its h
    exact ⟨_, tyx_tup hp, kit_ty (show kitB "tuple" "tuple" = some true by decide +kernel)⟩

/-! ### as data, for repr -/
def toI : Itm → (Ex → PyData) → PyData
  | .s x, _ => .str x
  | .i c, _ => .int c
  | .k e, f => f e
def toD : Ex → PyData
  | .fig c => .tuple [.str "fig", .int c]
  | .reg i => .tuple [.str "reg", .int (i : Int)]
  | .share j => .tuple [.str "share", .int (j : Int)]
  | .two w a b => .tuple [.str (wn w), toD a, toD b]
  | .times f a => .tuple [.str "times", .int f, toD a]
  | .by i a => .tuple [.str "by", .int (i : Int), toD a]
  | .when i c a b => .tuple [.str "when", .int (i : Int), .int c, toD a, toD b]
  | .whr j c a b => .tuple [.str "where", .int (j : Int), .int c, toD a, toD b]
theorem ExAt.dp {K : PySem.W.Frag} {H : Hp} : ∀ {e : Ex} {v : V}, ExAt K H e v → Dp K H v (toD e)
  | .fig _, _, ⟨p, e, q⟩ => by subst e; exact .tup q (.cons (.str _) (.cons (.int _) .nil))
  | .reg _, _, ⟨p, e, q⟩ => by subst e; exact .tup q (.cons (.str _) (.cons (.int _) .nil))
  | .share _, _, ⟨p, e, q⟩ => by subst e; exact .tup q (.cons (.str _) (.cons (.int _) .nil))
  | .two _ _ _, _, ⟨p, x, y, e, q, a, b⟩ => by subst e; exact .tup q (.cons (.str _) (.cons a.dp (.cons b.dp .nil)))
  | .times _ _, _, ⟨p, x, e, q, a⟩ => by subst e; exact .tup q (.cons (.str _) (.cons (.int _) (.cons a.dp .nil)))
  | .by _ _, _, ⟨p, x, e, q, a⟩ => by subst e; exact .tup q (.cons (.str _) (.cons (.int _) (.cons a.dp .nil)))
  | .when _ _ _ _, _, ⟨p, x, y, e, q, a, b⟩ => by subst e; exact .tup q (.cons (.str _) (.cons (.int _) (.cons (.int _) (.cons a.dp (.cons b.dp .nil)))))
  | .whr _ _ _ _, _, ⟨p, x, y, e, q, a, b⟩ => by subst e; exact .tup q (.cons (.str _) (.cons (.int _) (.cons (.int _) (.cons a.dp (.cons b.dp .nil)))))
/-- short enough to be shown: every number below 2 ^ 600, every sign small -/
structure Shw (d : PyData) (w k : Nat) : Prop where
  sh : d.showable = true
  lf : d.leavesShort 700 = true
  wt : d.weight ≤ w
  dp : d.depth ≤ k
theorem log_of {i : Int} (h : i.natAbs < 2 ^ 600) : i.natAbs.log2 < 600 := PySem.Flt.log2_lt_of (by decide) h
theorem Shw.int {i : Int} (h : i.natAbs < 2 ^ 600) : Shw (.int i) 601 0 := by
  have hl := log_of h
  refine ⟨?_, ?_, ?_, Nat.le_refl _⟩
  · show decide (i.natAbs.log2 < 1920) = true
    exact decide_eq_true (by omega)
  · show decide ((PyData.shown (.int i)).length ≤ 700) = true
    refine decide_eq_true ?_
    have e := int_text_length_le (k := 600) (by decide) hl
    show (Str.ofString (toString i)).length ≤ 700
    rw [PySem.ofString_length]
    omega
  · show (if i == 0 then 0 else i.natAbs.log2 + 1) ≤ 601
    split <;> omega
theorem Shw.small {i : Int} (h : i.natAbs < 2 ^ 15) : Shw (.int i) 15 0 := by
  have hl : i.natAbs.log2 < 15 := PySem.Flt.log2_lt_of (by decide) h
  have h6 := Shw.int (i := i) (Nat.lt_of_lt_of_le h (Nat.pow_le_pow_right (by decide) (by decide)))
  refine ⟨h6.sh, h6.lf, ?_, Nat.le_refl _⟩
  show (if i == 0 then 0 else i.natAbs.log2 + 1) ≤ 15
  split <;> omega
theorem Shw.str {x : Str} (h : (x.cps.toList.all fun c => decide (c < 16 ^ 8)) = true) (hl : x.cps.size ≤ 10) : Shw (.str x) 10 0 := ⟨rfl, h, hl, Nat.le_refl _⟩
structure ShwAll (ds : List PyData) (w k : Nat) : Prop where
  sh : PyData.showableAll ds = true
  lf : PyData.leavesShortAll 700 ds = true
  wt : PyData.weightAll ds ≤ w
  dp : PyData.depthAll ds ≤ k
theorem ShwAll.nil {k : Nat} : ShwAll [] 0 k := ⟨rfl, rfl, Nat.le_refl _, Nat.zero_le _⟩
theorem ShwAll.cons {d : PyData} {ds : List PyData} {w1 w2 k1 k2 k : Nat} (h1 : Shw d w1 k1) (h2 : ShwAll ds w2 k2) (hk1 : k1 ≤ k) (hk2 : k2 ≤ k) : ShwAll (d :: ds) (w1 + 1 + w2) k := by
  refine ⟨?_, ?_, ?_, ?_⟩
  · show (d.showable && PyData.showableAll ds) = true
    rw [h1.sh, h2.sh]
    rfl
  · show (d.leavesShort 700 && PyData.leavesShortAll 700 ds) = true
    rw [h1.lf, h2.lf]
    rfl
  · show d.weight + 1 + PyData.weightAll ds ≤ _
    have := h1.wt
    have := h2.wt
    omega
  · show max d.depth (PyData.depthAll ds) ≤ k
    have := h1.dp
    have := h2.dp
    omega
theorem ShwAll.tup {ds : List PyData} {w k : Nat} (h : ShwAll ds w k) : Shw (.tuple ds) w (k + 1) := ⟨h.sh, h.lf, h.wt, by show PyData.depthAll ds + 1 ≤ k + 1; have := h.dp; omega⟩
theorem ShwAll.lst {ds : List PyData} {w k : Nat} (h : ShwAll ds w k) : Shw (.list ds) w (k + 1) := ⟨h.sh, h.lf, h.wt, by show PyData.depthAll ds + 1 ≤ k + 1; have := h.dp; omega⟩
theorem Shw.mono {d : PyData} {w w' k k' : Nat} (h : Shw d w k) (hw : w ≤ w') (hk : k ≤ k') : Shw d w' k' := ⟨h.sh, h.lf, Nat.le_trans h.wt hw, Nat.le_trans h.dp hk⟩
theorem Shw.fits {d : PyData} {w k : Nat} (h : Shw d w k) (hw : w ≤ 20000) : d.shown.length ≤ sizeLine := by
  have := PyData.shown_le 700 (by decide) d h.lf
  have := h.wt
  have e : sizeLine = 16777216 := by decide
  omega
def wgt : Nat → Nat
  | 0 => 0
  | n + 1 => 2 * wgt n + 60
theorem wgt_mono : ∀ {m n : Nat}, m ≤ n → wgt m ≤ wgt n
  | 0, _, _ => Nat.zero_le _
  | m + 1, 0, h => absurd h (by omega)
  | m + 1, n + 1, h => by
    have := wgt_mono (m := m) (n := n) (by omega)
    show 2 * wgt m + 60 ≤ 2 * wgt n + 60
    omega
theorem shw_ex {many : Nat} (hm : many ≤ 1000) : ∀ {e : Ex}, ExOk many e → Shw (toD e) (wgt e.dep) e.dep
  | .fig c, o => (ShwAll.tup (.cons (.str (by decide) (by decide)) (.cons (.small (by have := o.1; have := o.2; omega)) .nil (Nat.le_refl 0) (Nat.le_refl 0)) (Nat.le_refl 0) (Nat.le_refl 0))).mono (show _ ≤ wgt 1 by decide) (show 0 + 1 ≤ 1 by decide)
  | .reg i, o => by
    have o : i < 4 := o
    exact (ShwAll.tup (.cons (.str (by decide) (by decide)) (.cons (.small (by omega)) .nil (Nat.le_refl 0) (Nat.le_refl 0)) (Nat.le_refl 0) (Nat.le_refl 0))).mono (show _ ≤ wgt 1 by decide) (show 0 + 1 ≤ 1 by decide)
  | .share j, o => by
    have o : j < many := o
    exact (ShwAll.tup (.cons (.str (by decide) (by decide)) (.cons (.small (by omega)) .nil (Nat.le_refl 0) (Nat.le_refl 0)) (Nat.le_refl 0) (Nat.le_refl 0))).mono (show _ ≤ wgt 1 by decide) (show 0 + 1 ≤ 1 by decide)
  | .two w a b, o => by
    have ha := shw_ex hm (e := a) o.1
    have hb := shw_ex hm (e := b) o.2
    have hw : Shw (.str (wn w)) 10 0 := by cases w <;> exact .str (by decide) (by decide)
    have h1 := wgt_mono (Nat.le_max_left a.dep b.dep)
    have h2 := wgt_mono (Nat.le_max_right a.dep b.dep)
    refine (ShwAll.tup (.cons hw (.cons ha (.cons hb .nil (Nat.le_refl _) (Nat.zero_le _)) (Nat.le_max_left a.dep b.dep) (Nat.le_max_right a.dep b.dep)) (Nat.zero_le _) (Nat.le_refl _))).mono ?_ (Nat.le_refl _)
    show 10 + 1 + (wgt a.dep + 1 + (wgt b.dep + 1 + 0)) ≤ 2 * wgt (max a.dep b.dep) + 60
    omega
  | .times f a, o => by
    have ha := shw_ex hm (e := a) o.2
    refine (ShwAll.tup (.cons (.str (by decide) (by decide)) (.cons (.small (by have := o.1; omega)) (.cons ha .nil (Nat.le_refl _) (Nat.zero_le _)) (Nat.zero_le _) (Nat.le_refl _)) (Nat.zero_le _) (Nat.le_refl _))).mono ?_ (Nat.le_refl _)
    show 10 + 1 + (15 + 1 + (wgt a.dep + 1 + 0)) ≤ 2 * wgt a.dep + 60
    omega
  | .by i a, o => by
    have ha := shw_ex hm (e := a) o.2
    refine (ShwAll.tup (.cons (.str (by decide) (by decide)) (.cons (.small (by have := o.1; omega)) (.cons ha .nil (Nat.le_refl _) (Nat.zero_le _)) (Nat.zero_le _) (Nat.le_refl _)) (Nat.zero_le _) (Nat.le_refl _))).mono ?_ (Nat.le_refl _)
    show 10 + 1 + (15 + 1 + (wgt a.dep + 1 + 0)) ≤ 2 * wgt a.dep + 60
    omega
  | .when i c a b, o => by
    have ha := shw_ex hm (e := a) o.2.2.1
    have hb := shw_ex hm (e := b) o.2.2.2
    have h1 := wgt_mono (Nat.le_max_left a.dep b.dep)
    have h2 := wgt_mono (Nat.le_max_right a.dep b.dep)
    refine (ShwAll.tup (.cons (.str (by decide) (by decide)) (.cons (.small (by have := o.1; omega)) (.cons (.small (by have := o.2.1; omega)) (.cons ha (.cons hb .nil (Nat.le_refl _) (Nat.zero_le _)) (Nat.le_max_left a.dep b.dep) (Nat.le_max_right a.dep b.dep)) (Nat.zero_le _) (Nat.le_refl _)) (Nat.zero_le _) (Nat.le_refl _)) (Nat.zero_le _) (Nat.le_refl _))).mono ?_ (Nat.le_refl _)
    show 10 + 1 + (15 + 1 + (15 + 1 + (wgt a.dep + 1 + (wgt b.dep + 1 + 0)))) ≤ 2 * wgt (max a.dep b.dep) + 60
    omega
  | .whr i c a b, o => by
    have ha := shw_ex hm (e := a) o.2.2.1
    have hb := shw_ex hm (e := b) o.2.2.2
    have h1 := wgt_mono (Nat.le_max_left a.dep b.dep)
    have h2 := wgt_mono (Nat.le_max_right a.dep b.dep)
    refine (ShwAll.tup (.cons (.str (by decide) (by decide)) (.cons (.small (by have := o.1; omega)) (.cons (.small (by have := o.2.1; omega)) (.cons ha (.cons hb .nil (Nat.le_refl _) (Nat.zero_le _)) (Nat.le_max_left a.dep b.dep) (Nat.le_max_right a.dep b.dep)) (Nat.zero_le _) (Nat.le_refl _)) (Nat.zero_le _) (Nat.le_refl _)) (Nat.zero_le _) (Nat.le_refl _))).mono ?_ (Nat.le_refl _)
    show 10 + 1 + (15 + 1 + (15 + 1 + (wgt a.dep + 1 + (wgt b.dep + 1 + 0)))) ≤ 2 * wgt (max a.dep b.dep) + 60
    omega
/-- numbers of spans and worths stay below 2 ^ 600 -/
theorem spn_bnd : ∀ {many : Nat} {e : Ex}, ExOk many e → (spn e).1.natAbs ≤ 1000 * 2000 ^ e.dep ∧ (spn e).2.natAbs ≤ 1000 * 2000 ^ e.dep := by
  intro many e
  have up : ∀ {m n : Nat}, m ≤ n → 1000 * 2000 ^ m ≤ 1000 * 2000 ^ n := fun h => Nat.mul_le_mul_left _ (Nat.pow_le_pow_right (by decide) h)
  have nx : ∀ n : Nat, 1000 * 2000 ^ (n + 1) = 2000 * (1000 * 2000 ^ n) := fun n => by rw [Nat.pow_succ]; omega
  induction e with
  | fig c =>
    intro o
    have := o.1
    have := o.2
    show c.natAbs ≤ 1000 * 2000 ^ 1 ∧ c.natAbs ≤ 1000 * 2000 ^ 1
    omega
  | reg i =>
    intro o
    show (-1000 : Int).natAbs ≤ 1000 * 2000 ^ 1 ∧ (1000 : Int).natAbs ≤ 1000 * 2000 ^ 1
    decide
  | share j =>
    intro o
    show (0 : Int).natAbs ≤ 1000 * 2000 ^ 1 ∧ (1000 : Int).natAbs ≤ 1000 * 2000 ^ 1
    decide
  | two w a b iha ihb =>
    intro o
    have ha := iha o.1
    have hb := ihb o.2
    have h1 := up (Nat.le_max_left a.dep b.dep)
    have h2 := up (Nat.le_max_right a.dep b.dep)
    show (js w (spn a) (spn b)).1.natAbs ≤ 1000 * 2000 ^ (max a.dep b.dep + 1) ∧ (js w (spn a) (spn b)).2.natAbs ≤ 1000 * 2000 ^ (max a.dep b.dep + 1)
    rw [nx]
    cases w with
    | sum => simp only [js]; omega
    | less => simp only [js]; omega
    | least => simp only [js, mn]; split <;> split <;> omega
    | most => simp only [js, mx]; split <;> split <;> omega
  | times f a ih =>
    intro o
    have ha := ih o.2
    have hf : f.natAbs ≤ 9 := by have := o.1; omega
    have m1 : (f * (spn a).1).natAbs ≤ 9 * (1000 * 2000 ^ a.dep) := by rw [Int.natAbs_mul]; exact Nat.mul_le_mul hf ha.1
    have m2 : (f * (spn a).2).natAbs ≤ 9 * (1000 * 2000 ^ a.dep) := by rw [Int.natAbs_mul]; exact Nat.mul_le_mul hf ha.2
    show (mn _ _).natAbs ≤ 1000 * 2000 ^ (a.dep + 1) ∧ (mx _ _).natAbs ≤ 1000 * 2000 ^ (a.dep + 1)
    rw [nx]
    unfold mn mx
    split <;> split <;> omega
  | «by» i a ih =>
    intro o
    have ha := ih o.2
    have m1 : (mx (ab (spn a).1) (ab (spn a).2)).natAbs ≤ 1000 * 2000 ^ a.dep := by
      unfold mx ab
      repeat' split
      all_goals omega
    show (-1000 * mx _ _).natAbs ≤ 1000 * 2000 ^ (a.dep + 1) ∧ (1000 * mx _ _).natAbs ≤ 1000 * 2000 ^ (a.dep + 1)
    rw [nx]
    omega
  | when i c a b iha ihb =>
    intro o
    have ha := iha o.2.2.1
    have hb := ihb o.2.2.2
    have h1 := up (Nat.le_max_left a.dep b.dep)
    have h2 := up (Nat.le_max_right a.dep b.dep)
    show (mn _ _).natAbs ≤ 1000 * 2000 ^ (max a.dep b.dep + 1) ∧ (mx _ _).natAbs ≤ 1000 * 2000 ^ (max a.dep b.dep + 1)
    rw [nx]
    unfold mn mx
    split <;> split <;> omega
  | whr i c a b iha ihb =>
    intro o
    have ha := iha o.2.2.1
    have hb := ihb o.2.2.2
    have h1 := up (Nat.le_max_left a.dep b.dep)
    have h2 := up (Nat.le_max_right a.dep b.dep)
    show (mn _ _).natAbs ≤ 1000 * 2000 ^ (max a.dep b.dep + 1) ∧ (mx _ _).natAbs ≤ 1000 * 2000 ^ (max a.dep b.dep + 1)
    rw [nx]
    unfold mn mx
    split <;> split <;> omega
theorem bnd_600 {d : Nat} {x : Int} (hd : d ≤ 10) (h : x.natAbs ≤ 1000 * 2000 ^ d) : x.natAbs < 2 ^ 300 := by
  have h1 : 1000 * 2000 ^ d ≤ 1000 * 2000 ^ 10 := Nat.mul_le_mul_left _ (Nat.pow_le_pow_right (by decide) hd)
  have h2 : (1000 * 2000 ^ 10 : Nat) < 2 ^ 300 := by decide
  omega
end NG

namespace NG
open PySem PySem.Spec PyProof.Rows L2

/-! ### leaves and borders -/
def lvs : Ex → Int
  | .fig _ => 1
  | .reg _ => 1
  | .share _ => 1
  | .two .sum a b => lvs a * lvs b
  | .two .less a b => lvs a * lvs b
  | .two .least a b => lvs a + lvs b
  | .two .most a b => lvs a + lvs b
  | .times _ a => lvs a
  | .by _ a => lvs a
  | .when _ _ a b => mx (lvs a) (lvs b)
  | .whr _ _ a b => lvs a + lvs b
def bds : Ex → Int
  | .fig _ => 0
  | .reg _ => 0
  | .share _ => 0
  | .two .sum a b => bds a + bds b
  | .two .less a b => bds a + bds b
  | .two .least a b => bds a + bds b + lvs a * lvs b
  | .two .most a b => bds a + bds b + lvs a * lvs b
  | .times _ a => bds a
  | .by _ a => bds a
  | .when _ _ a b => mx (bds a) (bds b)
  | .whr _ _ a b => bds a + bds b + 1
def bnd : Nat → Nat
  | 0 => 1
  | n + 1 => bnd n * bnd n + 2 * bnd n
theorem bnd_pos : ∀ n, 1 ≤ bnd n
  | 0 => Nat.le_refl _
  | n + 1 => by
    have := bnd_pos n
    show 1 ≤ bnd n * bnd n + 2 * bnd n
    omega
theorem bnd_up : ∀ {m n : Nat}, m ≤ n → bnd m ≤ bnd n := by
  intro m n h
  induction h with
  | refl => exact Nat.le_refl _
  | step _ ih =>
    refine Nat.le_trans ih ?_
    show _ ≤ bnd _ * bnd _ + 2 * bnd _
    omega
theorem lb_bnd : ∀ e : Ex, (lvs e).natAbs ≤ bnd e.dep ∧ (bds e).natAbs ≤ bnd e.dep := by
  intro e
  have pm : ∀ {x y : Int} {B : Nat}, x.natAbs ≤ B → y.natAbs ≤ B → (x * y).natAbs ≤ B * B := fun hx hy => by rw [Int.natAbs_mul]; exact Nat.mul_le_mul hx hy
  induction e with
  | fig c => exact ⟨by show 1 ≤ bnd 1; exact bnd_pos 1, Nat.zero_le _⟩
  | reg c => exact ⟨by show 1 ≤ bnd 1; exact bnd_pos 1, Nat.zero_le _⟩
  | share c => exact ⟨by show 1 ≤ bnd 1; exact bnd_pos 1, Nat.zero_le _⟩
  | two w a b iha ihb =>
    have h1 := bnd_up (Nat.le_max_left a.dep b.dep)
    have h2 := bnd_up (Nat.le_max_right a.dep b.dep)
    have hm := pm (Nat.le_trans iha.1 h1) (Nat.le_trans ihb.1 h2)
    show (lvs (.two w a b)).natAbs ≤ bnd (max a.dep b.dep) * bnd (max a.dep b.dep) + 2 * bnd (max a.dep b.dep) ∧ (bds (.two w a b)).natAbs ≤ bnd (max a.dep b.dep) * bnd (max a.dep b.dep) + 2 * bnd (max a.dep b.dep)
    cases w <;> simp only [lvs, bds] <;> omega
  | times f a ih =>
    show (lvs a).natAbs ≤ bnd a.dep * bnd a.dep + 2 * bnd a.dep ∧ (bds a).natAbs ≤ bnd a.dep * bnd a.dep + 2 * bnd a.dep
    omega
  | «by» i a ih =>
    show (lvs a).natAbs ≤ bnd a.dep * bnd a.dep + 2 * bnd a.dep ∧ (bds a).natAbs ≤ bnd a.dep * bnd a.dep + 2 * bnd a.dep
    omega
  | when i c a b iha ihb =>
    have h1 := bnd_up (Nat.le_max_left a.dep b.dep)
    have h2 := bnd_up (Nat.le_max_right a.dep b.dep)
    show (mx (lvs a) (lvs b)).natAbs ≤ bnd (max a.dep b.dep) * bnd (max a.dep b.dep) + 2 * bnd (max a.dep b.dep) ∧ (mx (bds a) (bds b)).natAbs ≤ bnd (max a.dep b.dep) * bnd (max a.dep b.dep) + 2 * bnd (max a.dep b.dep)
    unfold mx
    split <;> split <;> omega
  | whr i c a b iha ihb =>
    have h1 := bnd_up (Nat.le_max_left a.dep b.dep)
    have h2 := bnd_up (Nat.le_max_right a.dep b.dep)
    have h3 := bnd_pos (max a.dep b.dep)
    have h4 : bnd (max a.dep b.dep) ≤ bnd (max a.dep b.dep) * bnd (max a.dep b.dep) := Nat.le_mul_of_pos_left _ h3
    show (lvs a + lvs b).natAbs ≤ bnd (max a.dep b.dep) * bnd (max a.dep b.dep) + 2 * bnd (max a.dep b.dep) ∧ (bds a + bds b + 1).natAbs ≤ bnd (max a.dep b.dep) * bnd (max a.dep b.dep) + 2 * bnd (max a.dep b.dep)
    omega
theorem lvs_mul {e : Ex} {y : Int} (h : e.dep ≤ 5) : CMul (lvs e) y := by
  have h1 := (lb_bnd e).1
  have h2 := bnd_up h
  have h3 : bnd 5 < 2 ^ 64 := by decide
  exact .inl ⟨by omega, by omega⟩
theorem lb_600 {e : Ex} (h : e.dep ≤ 6) : (lvs e).natAbs < 2 ^ 600 ∧ (bds e).natAbs < 2 ^ 600 := by
  have h1 := lb_bnd e
  have h2 := bnd_up h
  have h3 : bnd 6 < 2 ^ 600 := by decide
  omega
def spCnt (K : PySem.W.Frag) (f : Ex → Int) (n : Nat) : Sp := fun vs H Q _ => ∃ (v : V) (e : Ex) (many : Nat), vs = [v] ∧ ExAt K H e v ∧ ExOk many e ∧ e.dep ≤ n ∧ e.dep ≤ 6 ∧ ∀ H', Same H H' → Q (.int (f e)) H'
def spLB (K : PySem.W.Frag) (n : Nat) : Sp := fun vs H Q _ => ∃ (v : V) (e : Ex) (many : Nat), vs = [v] ∧ ExAt K H e v ∧ ExOk many e ∧ e.dep ≤ n ∧ e.dep ≤ 6 ∧ ∀ H' u, Same H H' → SpAt K H' (lvs e, bds e) u → Q u H'

/-! ### the law's own reading -/
def Ex.rest : Ex → List Itm
  | .fig c => [.i c]
  | .reg i => [.i (i : Int)]
  | .share j => [.i (j : Int)]
  | .two _ a b => [.k a, .k b]
  | .times f a => [.i f, .k a]
  | .by i a => [.i (i : Int), .k a]
  | .when i c a b => [.i (i : Int), .i c, .k a, .k b]
  | .whr j c a b => [.i (j : Int), .i c, .k a, .k b]
theorem kidsI_rest (e : Ex) : kidsI e.rest = e.kids := by cases e <;> rfl
theorem rest_len (e : Ex) : e.rest.length ≤ 4 := by cases e <;> simp [Ex.rest]
theorem ItsAt.imp {K : PySem.W.Frag} {H H' : Hp} (sm : Same H H') : ∀ {vs : List V} {ts : List Itm}, ItsAt K H vs ts → ItsAt K H' vs ts
  | [], [], _ => trivial
  | _ :: _, .s _ :: _, ⟨x, r⟩ => ⟨x, r.imp sm⟩
  | _ :: _, .i _ :: _, ⟨x, r⟩ => ⟨x, r.imp sm⟩
  | _ :: _, .k e :: _, ⟨x, r⟩ => ⟨ExAt.same (e := e) x sm, r.imp sm⟩
theorem ExAt.rst {K : PySem.W.Frag} {H : Hp} : ∀ {e : Ex} {v : V}, ExAt K H e v → ∃ p xs, v = .ref p ∧ SqT K H p (.str (wordOf e) :: xs) ∧ 0 < xs.length ∧ ItsAt K H xs e.rest
  | .fig _, _, ⟨p, e, q⟩ => ⟨p, _, e, q, by simp, rfl, trivial⟩
  | .reg _, _, ⟨p, e, q⟩ => ⟨p, _, e, q, by simp, rfl, trivial⟩
  | .share _, _, ⟨p, e, q⟩ => ⟨p, _, e, q, by simp, rfl, trivial⟩
  | .two _ _ _, _, ⟨p, x, y, e, q, a, b⟩ => ⟨p, _, e, q, by simp, a, b, trivial⟩
  | .times _ _, _, ⟨p, x, e, q, a⟩ => ⟨p, _, e, q, by simp, rfl, a, trivial⟩
  | .by _ _, _, ⟨p, x, e, q, a⟩ => ⟨p, _, e, q, by simp, rfl, a, trivial⟩
  | .when _ _ _ _, _, ⟨p, x, y, e, q, a, b⟩ => ⟨p, _, e, q, by simp, rfl, rfl, a, b, trivial⟩
  | .whr _ _ _ _, _, ⟨p, x, y, e, q, a, b⟩ => ⟨p, _, e, q, by simp, rfl, rfl, a, b, trivial⟩
theorem cut1 {x : V} {xs : List V} : cutV (x :: xs) (some 1) none = xs := by
  unfold cutV
  rw [show HT.sIx (x :: xs).length 0 (some 1) = min 1 (x :: xs).length from HT.sIx_nat _ 0 1, HT.sIx_none, List.length_cons, show min 1 (xs.length + 1) = 1 by omega]
  show List.take (xs.length + 1 - 1) xs = xs
  rw [Nat.add_sub_cancel, List.take_length]
theorem cut1w {x : V} {xs : List V} (h : 0 < xs.length) : ¬ (HT.sIx (x :: xs).length 0 (some 1) = 0 ∧ HT.sIx (x :: xs).length (x :: xs).length none = (x :: xs).length) := by
  rw [show HT.sIx (x :: xs).length 0 (some 1) = min 1 (x :: xs).length from HT.sIx_nat _ 0 1, List.length_cons]
  omega
theorem kidsI_snoc {ts : List Itm} {i : Nat} {t : Itm} (h : ts[i]? = some t) : kidsI (ts.take (i + 1)) = kidsI (ts.take i) ++ kidsI [t] := by
  rw [List.take_add_one, h, kidsI_append]
  rfl
theorem mem_kidsI {e : Ex} : ∀ {ts : List Itm}, Itm.k e ∈ ts → e ∈ kidsI ts
  | .k e' :: r, h => by
    rcases List.mem_cons.mp h with h | h
    · cases h
      exact List.mem_cons_self
    · exact List.mem_cons_of_mem _ (mem_kidsI h)
  | .s _ :: r, h => by
    rcases List.mem_cons.mp h with h | h
    · cases h
    · exact mem_kidsI (ts := r) h
  | .i _ :: r, h => by
    rcases List.mem_cons.mp h with h | h
    · cases h
    · exact mem_kidsI (ts := r) h
theorem sort2 {ns : List Int} {a b : Int} (hp : ns.Perm [a, b]) (hs : ns.Pairwise (· ≤ ·)) : ns = [mn a b, mx a b] := by
  have hl := hp.length_eq
  match ns, hl with
  | [x, y], _ =>
    have hxy : x ≤ y := by simpa using hs
    have h1 : x = a ∨ x = b := by simpa using hp.mem_iff (a := x)
    have h2 : y = a ∨ y = b := by simpa using hp.mem_iff (a := y)
    have h3 : a = x ∨ a = y := by simpa using (hp.mem_iff (a := a)).mpr (by simp)
    have h4 : b = x ∨ b = y := by simpa using (hp.mem_iff (a := b)).mpr (by simp)
    have e1 : x = mn a b := by unfold mn; split <;> omega
    have e2 : y = mx a b := by unfold mx; split <;> omega
    rw [e1, e2]
theorem far_eq {lo hi : Int} (h : lo ≤ hi) : (if (0 - lo) > hi then (0 - lo) else hi) = mx (ab lo) (ab hi) := by
  unfold mx ab
  repeat' split
  all_goals omega
end NG

namespace NG
open PySem PySem.Spec PyProof.Rows L2
/-! ### rows of expressions as data -/
theorem lay_ex : ∀ e : Ex, (toD e).canLay0 = true
  | .fig _ => by
    show (PyData.canLay0 (.str "fig") && (true && true)) = true
    decide +kernel
  | .reg _ => by
    show (PyData.canLay0 (.str "reg") && (true && true)) = true
    decide +kernel
  | .share _ => by
    show (PyData.canLay0 (.str "share") && (true && true)) = true
    decide +kernel
  | .two w a b => by
    have ha := lay_ex a
    have hb := lay_ex b
    show (PyData.canLay0 (.str (wn w)) && (PyData.canLay0 (toD a) && (PyData.canLay0 (toD b) && true))) = true
    rw [ha, hb]
    cases w <;> decide +kernel
  | .times _ a => by
    have ha := lay_ex a
    show (PyData.canLay0 (.str "times") && (true && (PyData.canLay0 (toD a) && true))) = true
    rw [ha]
    decide +kernel
  | .by _ a => by
    have ha := lay_ex a
    show (PyData.canLay0 (.str "by") && (true && (PyData.canLay0 (toD a) && true))) = true
    rw [ha]
    decide +kernel
  | .when _ _ a b => by
    have ha := lay_ex a
    have hb := lay_ex b
    show (PyData.canLay0 (.str "when") && (true && (true && (PyData.canLay0 (toD a) && (PyData.canLay0 (toD b) && true))))) = true
    rw [ha, hb]
    decide +kernel
  | .whr _ _ a b => by
    have ha := lay_ex a
    have hb := lay_ex b
    show (PyData.canLay0 (.str "where") && (true && (true && (PyData.canLay0 (toD a) && (PyData.canLay0 (toD b) && true))))) = true
    rw [ha, hb]
    decide +kernel
theorem depth_ex : ∀ e : Ex, (toD e).depth ≤ e.dep
  | .fig _ => Nat.le_refl _
  | .reg _ => Nat.le_refl _
  | .share _ => Nat.le_refl _
  | .two w a b => by
    have ha := depth_ex a
    have hb := depth_ex b
    show max 0 (max (toD a).depth (max (toD b).depth 0)) + 1 ≤ max a.dep b.dep + 1
    omega
  | .times _ a => by
    have ha := depth_ex a
    show max 0 (max 0 (max (toD a).depth 0)) + 1 ≤ a.dep + 1
    omega
  | .by _ a => by
    have ha := depth_ex a
    show max 0 (max 0 (max (toD a).depth 0)) + 1 ≤ a.dep + 1
    omega
  | .when _ _ a b => by
    have ha := depth_ex a
    have hb := depth_ex b
    show max 0 (max 0 (max 0 (max (toD a).depth (max (toD b).depth 0)))) + 1 ≤ max a.dep b.dep + 1
    omega
  | .whr _ _ a b => by
    have ha := depth_ex a
    have hb := depth_ex b
    show max 0 (max 0 (max 0 (max (toD a).depth (max (toD b).depth 0)))) + 1 ≤ max a.dep b.dep + 1
    omega
theorem shaped_rows {es : List Ex} (h : ∀ e ∈ es, e.dep ≤ 40) : SeqAt.shaped (.list (es.map toD)) = true := by
  have h1 : PyData.canLayAll0 (es.map toD) = true := by
    clear h
    induction es with
    | nil => rfl
    | cons e r ih =>
      show ((toD e).canLay0 && PyData.canLayAll0 (r.map toD)) = true
      rw [lay_ex e, ih]
      rfl
  have h2 : PyData.depthAll (es.map toD) ≤ 40 := by
    clear h1
    induction es with
    | nil => exact Nat.zero_le _
    | cons e r ih =>
      have a := depth_ex e
      have b := h e (by simp)
      have c := ih fun x hx => h x (List.mem_cons_of_mem _ hx)
      show max (toD e).depth (PyData.depthAll (r.map toD)) ≤ 40
      omega
  show (PyData.canLayAll0 (es.map toD) && decide (PyData.depthAll (es.map toD) + 1 ≤ 64)) = true
  rw [h1, decide_eq_true (by omega)]
  rfl
theorem RowsAt.dps {K : PySem.W.Frag} {H : Hp} : ∀ {vs : List V} {es : List Ex}, RowsAt K H vs es → DpAll K H vs (es.map toD)
  | [], [], _ => .nil
  | _ :: _, _ :: _, ⟨x, r⟩ => .cons x.dp r.dps
theorem RowsAt.append {K : PySem.W.Frag} {H : Hp} : ∀ {vs ws : List V} {es fs : List Ex}, RowsAt K H vs es → RowsAt K H ws fs → RowsAt K H (vs ++ ws) (es ++ fs)
  | [], _, [], _, _, r => r
  | _ :: _, _, _ :: _, _, ⟨x, q⟩, r => ⟨x, q.append r⟩
theorem RowsAt.mem {K : PySem.W.Frag} {H : Hp} : ∀ {vs : List V} {es : List Ex} {v : V}, RowsAt K H vs es → v ∈ vs → ∃ e ∈ es, ExAt K H e v
  | v' :: vs, e :: es, v, ⟨x, r⟩, h => by
    rcases List.mem_cons.mp h with h | h
    · subst h
      exact ⟨e, by simp, x⟩
    · obtain ⟨e', h1, h2⟩ := r.mem h
      exact ⟨e', List.mem_cons_of_mem _ h1, h2⟩
/-! ### slices of lists -/
theorem cut_take {xs : List V} {j : Nat} : cutV xs none (some (j : Int)) = xs.take j := by
  unfold cutV
  rw [HT.sIx_none, HT.sIx_nat, List.drop_zero, Nat.sub_zero]
  by_cases h : j ≤ xs.length
  · rw [Nat.min_eq_left h]
  · rw [Nat.min_eq_right (by omega), List.take_length, List.take_of_length_le (by omega)]
theorem cut_drop {xs : List V} {j : Nat} : cutV xs (some (j : Int)) none = xs.drop j := by
  unfold cutV
  rw [HT.sIx_none, HT.sIx_nat]
  by_cases h : j ≤ xs.length
  · rw [Nat.min_eq_left h, List.take_of_length_le (by rw [List.length_drop]; exact Nat.le_refl _)]
  · rw [Nat.min_eq_right (by omega), Nat.sub_self, List.take_zero, List.drop_of_length_le (by omega)]
/-! ### words within -/
def spWords (K : PySem.W.Frag) (n : Nat) : Sp := fun vs H Q _ => ∃ (v : V) (x : Str) (e : Ex) (many : Nat), vs = [v, .str x] ∧ ExAt K H e v ∧ ExOk many e ∧ e.dep ≤ n ∧ e.dep ≤ 6 ∧
  ∀ H' l us es, Same H H' → H l = none → H' l = some (.lst us) → RowsAt K H' us es → es.length ≤ 3 ^ n → (∀ e' ∈ es, ExOk many e' ∧ wordOf e' = x ∧ e'.dep ≤ e.dep) → Q (.ref l) H'
def spBorder (K : PySem.W.Frag) : Sp := fun vs H Q _ => ∃ (a : Addr) (v : V) (e : Ex) (many n : Nat), vs = [.ref a, v, .int (many : Int)] ∧ ExAt K H e v ∧ ExOk many e ∧ e.dep ≤ 5 ∧ 2 ≤ many ∧ many ≤ 3 ∧ HandAt H a n ∧ n ≤ 999997000 ∧
  ∀ H' u ms, But a H H' → HandAt H' a (n + 20) → ShAt K H' many ms u → Q u H'
def spNear (K : PySem.W.Frag) : Sp := fun vs H Q _ => ∃ (a : Addr) (v : V) (e : Ex) (many n : Nat), vs = [.ref a, v] ∧ ExAt K H e v ∧ ExOk many e ∧ e.dep ≤ 5 ∧ HandAt H a n ∧ n ≤ 999997000 ∧
  ∀ H' u rs, But a H H' → HandAt H' a (n + 15) → RegsAt K H' rs u → Q u H'
theorem is_whr {e : Ex} (h : wordOf e = "where") : ∃ j c a b, e = .whr j c a b := by
  cases e with
  | whr j c a b => exact ⟨j, c, a, b, rfl⟩
  | two w a b => cases w <;> exact absurd h (of_decide_eq_false rfl)
  | fig _ => exact absurd h (of_decide_eq_false rfl)
  | reg _ => exact absurd h (of_decide_eq_false rfl)
  | share _ => exact absurd h (of_decide_eq_false rfl)
  | times _ _ => exact absurd h (of_decide_eq_false rfl)
  | «by» _ _ => exact absurd h (of_decide_eq_false rfl)
  | when _ _ _ _ => exact absurd h (of_decide_eq_false rfl)
theorem is_when {e : Ex} (h : wordOf e = "when") : ∃ j c a b, e = .when j c a b := by
  cases e with
  | when j c a b => exact ⟨j, c, a, b, rfl⟩
  | two w a b => cases w <;> exact absurd h (of_decide_eq_false rfl)
  | fig _ => exact absurd h (of_decide_eq_false rfl)
  | reg _ => exact absurd h (of_decide_eq_false rfl)
  | share _ => exact absurd h (of_decide_eq_false rfl)
  | times _ _ => exact absurd h (of_decide_eq_false rfl)
  | «by» _ _ => exact absurd h (of_decide_eq_false rfl)
  | whr _ _ _ _ => exact absurd h (of_decide_eq_false rfl)
end NG

namespace NG
open PySem PySem.Spec PyProof.Rows L2
/-! ### zip of a list with a tuple -/
def ItLT (K : PySem.W.Frag) (a b : Addr) : It :=
  ⟨fun i H => ∃ (us ws : List V) (u v : V), SqL K H a us ∧ SqT K H b ws ∧ us[i]? = some u ∧ ws[i]? = some v,
   fun i H r H' => ∃ (T : Addr) (u v : V), r = .ref T ∧ H T = none ∧ H' = upd H T (.tup [u, v]) ∧ (∀ us, SqL K H a us → us[i]? = some u) ∧ ∀ ws, SqT K H b ws → ws[i]? = some v,
   fun i H => ∃ us ws : List V, SqL K H a us ∧ SqT K H b ws ∧ us.length = i ∧ ws.length = i⟩
theorem turn_LT {P : Program} {w : World} {K : PySem.W.Frag} {es : List Expr} {k : Nat} {ps : Pos} {a b z TI TO i1 i2 : Addr} (S : ZipSep2 z TI TO i1 i2 [i1, a] [i2, b]) (na : a ≠ i1) (nb : b ≠ i2) :
    Turn P w K (.Tuple es k ps) (ItLT K a b) [z, TI, TO, i1, i2] z (fun i h => IsZip h z TI TO .none ∧ IsTupOf2 h TI (.ref i1) (.ref i2) ∧ (∃ c d, IsTupOf2 h TO c d) ∧ h.IsListIter i1 a i ∧ h.IsTupleIter i2 b i) := by
  have five : ∀ {c : Addr}, c ∈ [z, TI, TO, i1, i2] → c = z ∨ c = TI ∨ c = TO ∨ c = i1 ∨ c = i2 := fun h => by simpa using h
  have lives : ∀ (i : Nat) (h : Heap), (IsZip h z TI TO .none ∧ IsTupOf2 h TI (.ref i1) (.ref i2) ∧ (∃ c d, IsTupOf2 h TO c d) ∧ h.IsListIter i1 a i ∧ h.IsTupleIter i2 b i) → ∀ c ∈ [z, TI, TO, i1, i2], ∃ o, h.get? c = some o ∧ ∀ v, o.data ≠ .cell v := fun i h st c hc => by
    obtain ⟨s1, s2, ⟨x, y, s3⟩, ⟨o4, s4, _, d4⟩, ⟨o5, s5, _, d5⟩⟩ := st
    rcases five hc with rfl | rfl | rfl | rfl | rfl
    · exact ⟨_, s1, fun v q => nomatch q⟩
    · exact ⟨_, s2, fun v q => nomatch q⟩
    · exact ⟨_, s3, fun v q => nomatch q⟩
    · exact ⟨o4, s4, fun v q => by rw [d4] at q; exact nomatch q⟩
    · exact ⟨o5, s5, fun v q => by rw [d5] at q; exact nomatch q⟩
  refine ⟨List.mem_cons_self, lives, fun i h h' st kp => ?_, fun X eP ew eK hc i pins s σ H E I hf st hg => ?_, fun X eP ew eK hc i pins s σ H E I hf st hg => ?_, fun A i s Q E st q => wpAny_pyIter_zip st.1 q⟩
  · obtain ⟨s1, s2, ⟨x, y, s3⟩, s4, s5⟩ := st
    exact ⟨kp _ (by simp) _ s1, kp _ (by simp) _ s2, ⟨x, y, kp _ (by simp) _ s3⟩, s4.at fun o q => kp _ (by simp) o q, s5.at fun o q => kp _ (by simp) o q⟩
  · cases eP
    cases ew
    cases eK
    have lv := lives i _ st
    obtain ⟨s1, s2, s3, s4, s5⟩ := st
    obtain ⟨us, ws, u, v, qa, qb, hu, hv⟩ := hg
    obtain ⟨la, ra, pa, _⟩ := I.list qa
    obtain ⟨lb, rb, pb, _⟩ := I.tuple qb
    obtain ⟨u', eu, ru⟩ := ra.get hu
    obtain ⟨v', ev', rv⟩ := rb.get hv
    have W := WalksT.zipD2 (A := X.A) S (Draws.list (prog := X.prog) (w := X.w) (A := X.A.in1) (I.ok.hd hc) i1 a na la.toArray) (Draws.tuple (A := X.A.in1) (I.ok.hd hc) i2 b nb lb.toArray)
    have il : i < la.length := (List.getElem?_eq_some_iff.mp eu).1
    have ir : i < lb.length := (List.getElem?_eq_some_iff.mp ev').1
    refine W.item i s _ E (by rw [List.size_toArray, List.size_toArray]; omega) ⟨s1, s2, s3, ⟨s4, pa.isList⟩, ⟨s5, pb⟩⟩ fun T vals h1 tk pv hT tT mid k1 => ⟨_, rfl, ?_⟩
    have apT := W.apart i T h1 mid
    refine W.go es k ps i T _ _ _ mid fun h2 st2 k2 => ?_
    obtain ⟨x1, x2, e1, e2, rfl⟩ := pv
    have f1 : x1 = u' := by
      have := e1.symm.trans (show la.toArray[i]? = some u' by simpa using eu)
      exact Option.some.inj this
    have f2 : x2 = v' := by
      have := e2.symm.trans (show lb.toArray[i]? = some v' by simpa using ev')
      exact Option.some.inj this
    subst f1 f2
    obtain ⟨z1, z2, z3, ⟨z4, _⟩, ⟨z5, _⟩⟩ := st2
    have tT2 : h2.IsTuple T #[x1, x2] := tT.at fun o e => k2 T o apT e
    have in5 : ∀ c, c ∉ [z, TI, TO, i1, i2] → c ∉ [z, TO, i1, i2] := fun c h m => h (by
      rcases (by simpa using m : c = z ∨ c = TO ∨ c = i1 ∨ c = i2) with rfl | rfl | rfl | rfl <;> simp)
    have J := I.turnedNew (h' := h2) (t' := tk) (ch := [z, TI, TO, i1, i2]) (T := T) (ob := .tup [u, v]) (fun c o hb' q => k2 c o (in5 c hb') (k1 c o (in5 c hb') q)) hf hT ⟨(by show 2 ≤ sizeLine; decide), [x1, x2], .cons ru (.cons rv .nil), tT2⟩
    refine ⟨.ref T, _, J, rfl, ⟨T, u, v, rfl, I.hok.fresh hT, rfl, fun l hl => ?_, fun l hl => ?_⟩, ⟨z1, z2, z3, z4, z5⟩, fun c hcm => ?_⟩
    · rw [I.list_inj hl qa]
      exact hu
    · rw [I.tuple_inj hl qb]
      exact hv
    · obtain ⟨o, ho, _⟩ := lv c hcm
      have lt := Heap.lt_size ho
      rw [upd_ne (Nat.ne_of_lt (Nat.lt_of_lt_of_le lt hT))]
      exact (hf c hcm).1
  · cases eP
    cases ew
    cases eK
    obtain ⟨s1, s2, s3, s4, s5⟩ := st
    obtain ⟨us, ws, qa, qb, e1, e2⟩ := hg
    obtain ⟨la, ra, pa, _⟩ := I.list qa
    obtain ⟨lb, rb, pb, _⟩ := I.tuple qb
    have W := WalksT.zipD2 (A := X.A) S (Draws.list (prog := X.prog) (w := X.w) (A := X.A.in1) (I.ok.hd hc) i1 a na la.toArray) (Draws.tuple (A := X.A.in1) (I.ok.hd hc) i2 b nb lb.toArray)
    have l1 := ra.length
    have l2 := rb.length
    have en : min la.toArray.size lb.toArray.size = i := by
      rw [List.size_toArray, List.size_toArray]
      omega
    rw [en] at W
    refine W.done s _ E ⟨s1, s2, s3, ⟨s4, pa.isList⟩, ⟨s5, pb⟩⟩ fun h1 tk k1 => ⟨rfl, ?_⟩
    exact I.turnedL (t' := tk) (ch := [z, TI, TO, i1, i2]) (fun c o hb' q => k1 c o (fun m => hb' (by rcases (by simpa using m : c = z ∨ c = TO ∨ c = i1 ∨ c = i2) with rfl | rfl | rfl | rfl <;> simp)) q) hf
def iZipLT (K : PySem.W.Frag) (ta : TA) : TI := fun σ H R => ta σ H fun vs H1 => ∃ a b us ws, vs = [.ref a, .ref b] ∧ SqL K H1 a us ∧ SqT K H1 b ws ∧ R (ItLT K a b) H1
theorem pi_zipLT {X : Cx} {e e2 : Expr} {ta : TA} {p pos tpos : Pos} {elts : List Expr} {kk : Nat} (hg : Gl X "zip") (hm : X.mg "zip" = none) (ha : PA X [e, e2] ta)
    (hs : starEach [e, e2] X.env = (false, eval e X.env) :: starEach [e2] X.env := by rfl) (hpl : (backTo pos (starEach [e2] X.env)).any (·.1) = false := by rfl) : PI X (.Tuple elts kk tpos) (.Call (.Name "zip" p) [e, e2] [] pos) (iZipLT X.K ta) := by
  refine ⟨fun pins s σ H R I h => Call_ (ld_blt I hg hm PyProof.Rows.boot_zip (PyProof.Rows.callWith_type1 (thn (ha.run pos pins s σ H _ I h) fun us s1 ⟨vs, H1, I1, r1, q1⟩ => ?_) hs hpl))⟩
  obtain ⟨a, b, ul, wl, rfl, qa, qb, q⟩ := q1
  obtain ⟨v1, v2, rfl, t1, t2⟩ := vals2 r1
  cases t1
  cases t2
  obtain ⟨la, ra, pa, _⟩ := I1.list qa
  obtain ⟨lb, rb, pb, _⟩ := I1.tuple qb
  obtain ⟨ob, hob, _⟩ := id pb
  have lt1 : a < s1.heap.objs.size := pa.lt
  have lt2 : b < s1.heap.objs.size := Heap.lt_size hob
  refine zip_begins2 (begins_list a la.toArray) (begins_tuple b lb.toArray) pa.isList pb fun h' hz hTI hTO g1 g2 hsz hk => wpAny_pyIter_zip hz ?_
  have J : Inv X pins σ H1 { s1 with heap := h' } := I1.kept (t' := s1.toks) hk
  have S := zip_sep2 (N := s1.heap.objs.size) (fp1 := [a]) (fp2 := [b]) (fun c hc => by rw [List.mem_singleton.mp hc]; exact lt1) (fun c hc => by rw [List.mem_singleton.mp hc]; exact lt2)
  refine ⟨_, _, _, _, H1, rfl, J, turn_LT S (Nat.ne_of_lt lt1) (Nat.ne_of_lt (Nat.lt_succ_of_lt lt2)), ⟨hz, hTI, ⟨_, _, hTO⟩, ⟨_, g1, rfl, rfl⟩, ⟨_, g2, rfl, rfl⟩⟩, fun c hcm => ?_, q⟩
  have le : s1.heap.objs.size ≤ c := by
    rcases (by simpa using hcm : c = s1.heap.objs.size + 4 ∨ c = s1.heap.objs.size + 2 ∨ c = s1.heap.objs.size + 3 ∨ c = s1.heap.objs.size ∨ c = s1.heap.objs.size + 1) with e | e | e | e | e <;> (rw [e]; first | exact Nat.le_refl _ | exact Nat.le_add_right _ _)
  exact I1.fpOk le (I1.hok.fresh le)
theorem walk_LT {K : PySem.W.Frag} {a b : Addr} {us ws : List V} {n : Nat} (hx : us.length = n) (hy : ws.length = n) : Walk (ItLT K a b) n (fun H => SqL K H a us ∧ SqT K H b ws) (YPair (fun i => us[i]?) (fun i => ws[i]?)) := by
  refine ⟨fun i H hi q => ⟨us, ws, us[i]'(by omega), ws[i]'(by omega), q.1, q.2, List.getElem?_eq_getElem _, List.getElem?_eq_getElem _⟩, fun H q => ⟨us, ws, q.1, q.2, hx, hy⟩, fun i H v H' hi q y => ?_⟩
  obtain ⟨T, x, z, h1, h2, h3, h4, h5⟩ := y
  exact ⟨T, x, z, h1, h2, h3, h4 us q.1, h5 ws q.2⟩
end NG

namespace NG
open PySem PySem.Spec PyProof.Rows L2
/-! ### enumerate of a tuple -/
set_option maxHeartbeats 1000000 in
theorem enum_new1 {v : Value} {ob : Obj} {Hv : Heap → Prop} (B : Begins v ob Hv) :
    Meets (Builtin.«enumerate.__new__» ⟨[.type "enumerate", v], []⟩) (fun _ R st => Hv st.heap ∧ R (.ok (.ret (.ref (st.heap.push ob).objs.size))) { st with heap := (st.heap.push ob).push { cls := .type "enumerate", data := .fields #[.none, .bool false, .ref st.heap.objs.size, rawInt 0, .none, .none] } }) := by
  refine .of_wp fun pr wl A R st h => ?_
  obtain ⟨hp, g, d, tk, os⟩ := st
  obtain ⟨hv, hR⟩ := h
  have se := sub_enumerate
  have qi : ∀ {A' : Around} {E : Value → Shared → Prop} {Q : Value → Shared → Prop}, Q (.ref hp.objs.size) ⟨hp.push ob, g, d, tk, os⟩ → wpAny (model pr wl) A' (pyIter v) Q E ⟨hp, g, d, tk, os⟩ := fun q => B.iter pr wl _ _ ⟨hp, g, d, tk, os⟩ _ hv q
  wp_walk using qi
  refine wpAny_stack_any fun sk => wpAny_pure ?_
  split
  · rename_i c _ _ _ _ _
    cases (c == Value.type "enumerate")
    all_goals
      wp_walk using qi
      exact ⟨_, rfl, hR⟩
  · wp_walk using qi
    exact ⟨_, rfl, hR⟩
theorem enum_call1 {pr : Program} {wl : World} {A : Around} {E : Value → Shared → Prop} {st : Shared} {v : Value} {ob : Obj} {Hv : Heap → Prop} {Q : Value → Shared → Prop} (B : Begins v ob Hv) (hv : Hv st.heap)
    (hQ : ∀ h', IsEnum h' (st.heap.objs.size + 1) st.heap.objs.size 0 .none → h'.get? st.heap.objs.size = some ob → (∀ b o, st.heap.get? b = some o → h'.get? b = some o) → Q (.ref (st.heap.objs.size + 1)) { st with heap := h' }) : wpAny (model pr wl) A (call (.type "enumerate") [v]) Q E st := by
  refine callType_new F.called_enumerate (by decide) (F.typeCall_enumerate_1 _) (F.newCall_enumerate_1 _) (fun x => F.args_object_init_2 x _) F.entry_enumerate_new (enum_new1 B) ⟨hv, ?_⟩
  have sz : (st.heap.push ob).objs.size = st.heap.objs.size + 1 := Heap.size_push ..
  show _ ∧ _
  rw [sz]
  have ie : IsEnum ((st.heap.push ob).push { cls := .type "enumerate", data := .fields #[.none, .bool false, .ref st.heap.objs.size, rawInt 0, .none, .none] }) (st.heap.objs.size + 1) st.heap.objs.size 0 .none := by
    have t := Heap.get?_push_size (st.heap.push ob) (o := { cls := .type "enumerate", data := .fields #[.none, .bool false, .ref st.heap.objs.size, rawInt 0, .none, .none] }) rfl
    rw [sz] at t
    exact t
  exact ⟨⟨_, ie, rfl⟩, hQ _ ie (Heap.get?_push_of_some _ (Heap.get?_push_size _ B.free)) fun b o x => Heap.get?_push_of_some _ (Heap.get?_push_of_some _ x)⟩
def ItEn (K : PySem.W.Frag) (a : Addr) : It :=
  ⟨fun i H => ∃ (ws : List V) (v : V), SqT K H a ws ∧ ws[i]? = some v,
   fun i H r H' => ∃ (T : Addr) (v : V), r = .ref T ∧ H T = none ∧ H' = upd H T (.tup [.int (i : Nat), v]) ∧ ∀ ws, SqT K H a ws → ws[i]? = some v,
   fun i H => ∃ ws : List V, SqT K H a ws ∧ ws.length = i⟩
theorem turn_En {P : Program} {w : World} {K : PySem.W.Frag} {es : List Expr} {k : Nat} {ps : Pos} {a e it : Addr} (ne : e ≠ it) (nea : e ≠ a) (na : a ≠ it) :
    Turn P w K (.Tuple es k ps) (ItEn K a) [e, it] e (fun i h => (∃ old, IsEnum h e it ((i : Nat) : Int) old) ∧ h.IsTupleIter it a i) := by
  have two : ∀ {c : Addr}, c ∈ [e, it] → c = e ∨ c = it := fun h => by simpa using h
  have lives : ∀ (i : Nat) (h : Heap), ((∃ old, IsEnum h e it ((i : Nat) : Int) old) ∧ h.IsTupleIter it a i) → ∀ c ∈ [e, it], ∃ o, h.get? c = some o ∧ ∀ v, o.data ≠ .cell v := fun i h st c hc => by
    obtain ⟨⟨old, s1⟩, ⟨o5, s5, _, d5⟩⟩ := st
    rcases two hc with rfl | rfl
    · exact ⟨_, s1, fun v q => nomatch q⟩
    · exact ⟨o5, s5, fun v q => by rw [d5] at q; exact nomatch q⟩
  have hef : e ∉ [it, a] := fun m => by
    rcases (by simpa using m : e = it ∨ e = a) with q | q
    · exact ne q
    · exact nea q
  refine ⟨List.mem_cons_self, lives, fun i h h' st kp => ?_, fun X eP ew eK hc i pins s σ H E I hf st hg => ?_, fun X eP ew eK hc i pins s σ H E I hf st hg => ?_, fun A i s Q E st q => let ⟨⟨_, z⟩, _⟩ := st; wpAny_pyIter_enum z q⟩
  · obtain ⟨⟨old, s1⟩, s5⟩ := st
    exact ⟨⟨old, kp _ (by simp) _ s1⟩, s5.at fun o q => kp _ (by simp) o q⟩
  · cases eP
    cases ew
    cases eK
    have lv := lives i _ st
    obtain ⟨s1, s5⟩ := st
    obtain ⟨ws, v, qb, hv⟩ := hg
    obtain ⟨lb, rb, pb, _⟩ := I.tuple qb
    obtain ⟨v', ev', rv⟩ := rb.get hv
    have W := WalksT.enumerateD (A := X.A) (Draws.tuple (prog := X.prog) (w := X.w) (A := X.A.in1) (I.ok.hd hc) it a na lb.toArray) e ne hef List.mem_cons_self
    have ir : i < lb.length := (List.getElem?_eq_some_iff.mp ev').1
    refine W.item i s _ E (by rw [List.size_toArray]; omega) ⟨s1, s5, pb⟩ fun T vals h1 tk pv hT tT mid k1 => ⟨_, rfl, ?_⟩
    have apT := W.apart i T h1 mid
    refine W.go es k ps i T _ _ _ mid fun h2 st2 k2 => ?_
    obtain ⟨t2, x2, e2, rfl⟩ := pv
    have f2 : x2 = v' := by
      have := e2.symm.trans (show lb.toArray[i]? = some v' by simpa using ev')
      exact Option.some.inj this
    subst f2
    obtain ⟨z1, z5, _⟩ := st2
    have tT2 : h2.IsTuple T #[.int i t2, x2] := tT.at fun o e => k2 T o apT e
    have J := I.turnedNew (h' := h2) (t' := tk) (ch := [e, it]) (T := T) (ob := .tup [.int (i : Nat), v]) (fun c o hb' q => k2 c o hb' (k1 c o hb' q)) hf hT ⟨(by show 2 ≤ sizeLine; decide), [.int i t2, x2], .cons ⟨_, rfl⟩ (.cons rv .nil), tT2⟩
    refine ⟨.ref T, _, J, rfl, ⟨T, v, rfl, I.hok.fresh hT, rfl, fun l hl => ?_⟩, ⟨z1, z5⟩, fun c hcm => ?_⟩
    · rw [I.tuple_inj hl qb]
      exact hv
    · obtain ⟨o, ho, _⟩ := lv c hcm
      have lt := Heap.lt_size ho
      rw [upd_ne (Nat.ne_of_lt (Nat.lt_of_lt_of_le lt hT))]
      exact (hf c hcm).1
  · cases eP
    cases ew
    cases eK
    obtain ⟨s1, s5⟩ := st
    obtain ⟨ws, qb, e2⟩ := hg
    obtain ⟨lb, rb, pb, _⟩ := I.tuple qb
    have W := WalksT.enumerateD (A := X.A) (Draws.tuple (prog := X.prog) (w := X.w) (A := X.A.in1) (I.ok.hd hc) it a na lb.toArray) e ne hef List.mem_cons_self
    have l2 := rb.length
    have en : lb.toArray.size = i := by
      rw [List.size_toArray]
      omega
    rw [en] at W
    refine W.done s _ E ⟨s1, s5, pb⟩ fun h1 tk k1 => ⟨rfl, ?_⟩
    exact I.turnedL (t' := tk) (ch := [e, it]) (fun c o hb' q => k1 c o hb' q) hf
def iEnT (K : PySem.W.Frag) (ta : TA) : TI := fun σ H R => ta σ H fun vs H1 => ∃ a ws, vs = [.ref a] ∧ SqT K H1 a ws ∧ R (ItEn K a) H1
theorem pi_enumT {X : Cx} {x : Expr} {ta : TA} {p pos tpos : Pos} {elts : List Expr} {kk : Nat} (hg : Gl X "enumerate") (hm : X.mg "enumerate" = none) (ha : PA X [x] ta)
    (hs : starEach [x] X.env = [(false, eval x X.env)] := by rfl) : PI X (.Tuple elts kk tpos) (.Call (.Name "enumerate" p) [x] [] pos) (iEnT X.K ta) := by
  refine ⟨fun pins s σ H R I h => Call_ (ld_blt I hg hm boot_enumerate (PyProof.Rows.callWith_type1 (thn (ha.run pos pins s σ H _ I h) fun us s1 ⟨vs, H1, I1, r1, q1⟩ => ?_) hs rfl))⟩
  obtain ⟨a, wl, rfl, qb, q⟩ := q1
  rw [Vals.ref1 r1]
  obtain ⟨lb, rb, pb, _⟩ := I1.tuple qb
  obtain ⟨ob, hob, _⟩ := id pb
  have lt2 : a < s1.heap.objs.size := Heap.lt_size hob
  refine enum_call1 (begins_tuple a lb.toArray) pb fun h' he g2 hk => wpAny_pyIter_enum he ?_
  have J : Inv X pins σ H1 { s1 with heap := h' } := I1.kept (t' := s1.toks) hk
  refine ⟨_, _, _, _, H1, rfl, J, turn_En (a := a) (e := s1.heap.objs.size + 1) (it := s1.heap.objs.size) (Nat.succ_ne_self _) (Nat.ne_of_gt (Nat.lt_succ_of_lt lt2)) (Nat.ne_of_lt lt2), ⟨⟨.none, he⟩, ⟨_, g2, rfl, rfl⟩⟩, fun c hcm => ?_, q⟩
  have le : s1.heap.objs.size ≤ c := by
    rcases (by simpa using hcm : c = s1.heap.objs.size + 1 ∨ c = s1.heap.objs.size) with e | e <;> (rw [e]; first | exact Nat.le_refl _ | exact Nat.le_add_right _ _)
  exact I1.fpOk le (I1.hok.fresh le)
theorem walk_En {K : PySem.W.Frag} {a : Addr} {ws : List V} {n : Nat} (hy : ws.length = n) : Walk (ItEn K a) n (fun H => SqT K H a ws) (YPair (fun i => some (.int (i : Nat))) (fun i => ws[i]?)) := by
  refine ⟨fun i H hi q => ⟨ws, ws[i]'(by omega), q, List.getElem?_eq_getElem _⟩, fun H q => ⟨ws, q, hy⟩, fun i H v H' hi q y => ?_⟩
  obtain ⟨T, z, h1, h2, h3, h4⟩ := y
  exact ⟨T, .int (i : Nat), z, h1, h2, h3, rfl, h4 ws q⟩
end NG

namespace NG
open PySem PySem.Spec PyProof.Rows L2
/-! ### tuples put together and cut, whatever they hold -/
theorem catA {K : PySem.W.Frag} {H : Hp} {a b : Addr} {xs ys : List V} {Q : VK} (ha : SqT K H a xs) (hb : SqT K H b ys) (hl : xs.length + ys.length ≤ sizeLine) (q : ∀ H' p, Same H H' → SqT K H' p (xs ++ ys) → Q (.ref p) H') : rCatA K (.ref a) (.ref b) H Q := by
  refine ⟨a, b, xs, ys, rfl, rfl, ha, hb, hl, fun h => ?_, fun _ h => ?_, fun _ _ p np => ?_⟩
  · subst h
    exact q H b (Same.refl _) hb
  · subst h
    exact q H a (Same.refl _) (by rw [List.append_nil]; exact ha)
  · exact q _ p (same_new np) (SqT.of upd_same)
theorem cutV_whole {xs : List V} {lo hi : Option Int} (h : HT.sIx xs.length 0 lo = 0 ∧ HT.sIx xs.length xs.length hi = xs.length) : cutV xs lo hi = xs := by
  unfold cutV
  rw [h.1, h.2, List.drop_zero, Nat.sub_zero, List.take_length]
theorem slA {K : PySem.W.Frag} {H : Hp} {a : Addr} {xs : List V} {lo hi : Option Int} {Q : VK} (ha : SqT K H a xs) (q : ∀ H' p, Same H H' → SqT K H' p (cutV xs lo hi) → Q (.ref p) H') : rSlA K (.ref a) lo hi H Q := by
  refine ⟨a, xs, rfl, ha, fun h => ?_, fun _ p np => ?_⟩
  · exact q H a (Same.refl _) (by rw [cutV_whole h]; exact ha)
  · exact q _ p (same_new np) (SqT.of upd_same)
theorem HandAt.same {H H' : Hp} {a : Addr} {n : Nat} (h : HandAt H a n) (s : Same H H') : HandAt H' a n := by
  obtain ⟨g, sd, m, e, z⟩ := h
  exact ⟨g, sd, m, s _ _ e, z⟩

/-! ### deeds -/
inductive D5 where
  | put | add | copy | plus | told
  deriving DecidableEq
def dn : D5 → Str
  | .put => "put"
  | .add => "add"
  | .copy => "copy"
  | .plus => "plus"
  | .told => "told"
inductive Ds where
  | nil
  | op (w : D5) (i : Nat) (x : Int) (r : Ds)
  | when (i : Nat) (c : Int) (a b r : Ds)
def DsAt (K : PySem.W.Frag) (H : Hp) : Ds → List V → Prop
  | .nil, vs => vs = []
  | .op w i x r, vs => ∃ p us, vs = .ref p :: us ∧ SqT K H p [.str (dn w), .int (i : Int), .int x] ∧ DsAt K H r us
  | .when i c a b r, vs => ∃ p pa pb xa xb us, vs = .ref p :: us ∧ SqT K H p [.str "when", .int (i : Int), .int c, .ref pa, .ref pb] ∧ SqT K H pa xa ∧ DsAt K H a xa ∧ SqT K H pb xb ∧ DsAt K H b xb ∧ DsAt K H r us
theorem DsAt.imp {K : PySem.W.Frag} {H H' : Hp} (h : ∀ p xs, SqT K H p xs → SqT K H' p xs) : ∀ {d : Ds} {vs : List V}, DsAt K H d vs → DsAt K H' d vs
  | .nil, _, e => e
  | .op _ _ _ _, _, ⟨p, us, e, q, r⟩ => ⟨p, us, e, h _ _ q, DsAt.imp h r⟩
  | .when _ _ _ _ _, _, ⟨p, pa, pb, xa, xb, us, e, q, qa, a, qb, b, r⟩ => ⟨p, pa, pb, xa, xb, us, e, h _ _ q, h _ _ qa, DsAt.imp h a, h _ _ qb, DsAt.imp h b, DsAt.imp h r⟩
theorem DsAt.same {K : PySem.W.Frag} {H H' : Hp} {d : Ds} {vs : List V} (x : DsAt K H d vs) (s : Same H H') : DsAt K H' d vs := x.imp fun _ _ q => same_sqt s q
def Ds.app : Ds → Ds → Ds
  | .nil, e => e
  | .op w i x r, e => .op w i x (r.app e)
  | .when i c a b r, e => .when i c a b (r.app e)
theorem DsAt.app {K : PySem.W.Frag} {H : Hp} : ∀ {d e : Ds} {vs ws : List V}, DsAt K H d vs → DsAt K H e ws → DsAt K H (d.app e) (vs ++ ws)
  | .nil, _, _, _, e, y => by
    subst e
    exact y
  | .op _ _ _ _, _, _, _, ⟨p, us, e, q, r⟩, y => by
    subst e
    exact ⟨p, _, rfl, q, DsAt.app r y⟩
  | .when _ _ _ _ _, _, _, _, ⟨p, pa, pb, xa, xb, us, e, q, qa, a, qb, b, r⟩, y => by
    subst e
    exact ⟨p, pa, pb, xa, xb, _, rfl, q, qa, a, qb, b, DsAt.app r y⟩
def Ds.cnt : Ds → Nat
  | .nil => 0
  | .op _ _ _ r => 1 + r.cnt
  | .when _ _ a b r => 1 + (a.cnt + b.cnt) + r.cnt
def Ds.len : Ds → Nat
  | .nil => 0
  | .op _ _ _ r => r.len + 1
  | .when _ _ _ _ r => r.len + 1
def Ds.dep : Ds → Nat
  | .nil => 0
  | .op _ _ _ r => max 1 r.dep
  | .when _ _ a b r => max (max a.dep b.dep + 1) r.dep
theorem Ds.len_le : ∀ d : Ds, d.len ≤ d.cnt
  | .nil => Nat.le_refl _
  | .op _ _ _ r => by have := r.len_le; show r.len + 1 ≤ 1 + r.cnt; omega
  | .when _ _ a b r => by have := r.len_le; show r.len + 1 ≤ 1 + (a.cnt + b.cnt) + r.cnt; omega
theorem DsAt.len {K : PySem.W.Frag} {H : Hp} : ∀ {d : Ds} {vs : List V}, DsAt K H d vs → vs.length = d.len
  | .nil, _, e => by subst e; rfl
  | .op _ _ _ _, _, ⟨p, us, e, q, r⟩ => by subst e; rw [List.length_cons, r.len]; rfl
  | .when _ _ _ _ _, _, ⟨p, pa, pb, xa, xb, us, e, q, qa, a, qb, b, r⟩ => by subst e; rw [List.length_cons, r.len]; rfl
theorem Ds.cnt_app : ∀ d e : Ds, (d.app e).cnt = d.cnt + e.cnt
  | .nil, e => by show e.cnt = 0 + e.cnt; omega
  | .op _ _ _ r, e => by show 1 + (r.app e).cnt = 1 + r.cnt + e.cnt; rw [Ds.cnt_app r e]; omega
  | .when _ _ a b r, e => by show 1 + (a.cnt + b.cnt) + (r.app e).cnt = 1 + (a.cnt + b.cnt) + r.cnt + e.cnt; rw [Ds.cnt_app r e]; omega
theorem Ds.dep_app : ∀ d e : Ds, (d.app e).dep = max d.dep e.dep
  | .nil, e => by show e.dep = max 0 e.dep; omega
  | .op _ _ _ r, e => by show max 1 (r.app e).dep = max (max 1 r.dep) e.dep; rw [Ds.dep_app r e]; omega
  | .when _ _ a b r, e => by show max (max a.dep b.dep + 1) (r.app e).dep = max (max (max a.dep b.dep + 1) r.dep) e.dep; rw [Ds.dep_app r e]; omega
def xok (many : Nat) : D5 → Int → Prop
  | .put, x => -1000 ≤ x ∧ x ≤ 1000
  | .add, x => -1000 ≤ x ∧ x ≤ 1000
  | .copy, x => 0 ≤ x ∧ x < 4
  | .plus, x => 0 ≤ x ∧ x < 4
  | .told, x => 0 ≤ x ∧ x < many
theorem xok_small {many : Nat} (hm : many ≤ 1000) : ∀ {w : D5} {x : Int}, xok many w x → -1000 ≤ x ∧ x ≤ 1000
  | .put, _, h => h
  | .add, _, h => h
  | .copy, _, h => by have := h.1; have := h.2; constructor <;> omega
  | .plus, _, h => by have := h.1; have := h.2; constructor <;> omega
  | .told, _, h => by have := h.1; have := h.2; constructor <;> omega
def DsOk (many : Nat) : Ds → Prop
  | .nil => True
  | .op w i x r => i < 4 ∧ xok many w x ∧ DsOk many r
  | .when i c a b r => i < 4 ∧ (-1000 ≤ c ∧ c ≤ 1000) ∧ DsOk many a ∧ DsOk many b ∧ DsOk many r
theorem DsOk.app {many : Nat} : ∀ {d e : Ds}, DsOk many d → DsOk many e → DsOk many (d.app e)
  | .nil, _, _, y => y
  | .op _ _ _ _, _, ⟨h1, h2, h3⟩, y => ⟨h1, h2, DsOk.app h3 y⟩
  | .when _ _ _ _ _, _, ⟨h1, h2, h3, h4, h5⟩, y => ⟨h1, h2, h3, h4, DsOk.app h5 y⟩
def cl (n : Int) : Int := mx (-1000) (mn 1000 n)
theorem cl_in (n : Int) : -1000 ≤ cl n ∧ cl n ≤ 1000 := by
  unfold cl mx mn
  repeat' split
  all_goals omega
def hb (ss : List Int) : D5 → Nat → Int → List Int → Int
  | .put, _, x, _ => x
  | .add, i, x, rs => rs.getD i 0 + x
  | .copy, _, x, rs => rs.getD x.toNat 0
  | .plus, i, x, rs => rs.getD i 0 + rs.getD x.toNat 0
  | .told, _, x, _ => 1000 * ss.getD x.toNat 0 / ss.sum
def ap (ss : List Int) : Ds → List Int → List Int
  | .nil, rs => rs
  | .op w i x r, rs => ap ss r (rs.set i (cl (hb ss w i x rs)))
  | .when i c a b r, rs => ap ss r (if rs.getD i 0 < c then ap ss a rs else ap ss b rs)
def RegOk (rs : List Int) : Prop := rs.length = 4 ∧ ∀ x ∈ rs, -1000 ≤ x ∧ x ≤ 1000
theorem RegOk.set {rs : List Int} (h : RegOk rs) (i : Nat) (n : Int) : RegOk (rs.set i (cl n)) := by
  refine ⟨by rw [List.length_set]; exact h.1, fun x hx => ?_⟩
  rcases List.mem_or_eq_of_mem_set hx with hx | rfl
  · exact h.2 x hx
  · exact cl_in n
theorem RegOk.ap {ss : List Int} : ∀ {d : Ds} {rs : List Int}, RegOk rs → RegOk (ap ss d rs)
  | .nil, _, h => h
  | .op w i x r, rs, h => RegOk.ap (d := r) (h.set i _)
  | .when i c a b r, rs, h => by
    show RegOk (NG.ap ss r (if rs.getD i 0 < c then NG.ap ss a rs else NG.ap ss b rs))
    refine RegOk.ap (d := r) ?_
    split
    · exact RegOk.ap (d := a) h
    · exact RegOk.ap (d := b) h
theorem RegsAt.ok {K : PySem.W.Frag} {H : Hp} {rs : List Int} {v : V} (h : RegsAt K H rs v) : RegOk rs := by
  obtain ⟨p, _, _, l, b⟩ := h
  exact ⟨l, b⟩
theorem RegsAt.same {K : PySem.W.Frag} {H H' : Hp} {rs : List Int} {v : V} (h : RegsAt K H rs v) (s : Same H H') : RegsAt K H' rs v := h.imp fun _ _ q => same_sqt s q
theorem ShAt.same {K : PySem.W.Frag} {H H' : Hp} {many : Nat} {rs : List Int} {v : V} (h : ShAt K H many rs v) (s : Same H H') : ShAt K H' many rs v := h.imp fun _ _ q => same_sqt s q
/-! ### rows of deeds, doubters -/
def BhAt (K : PySem.W.Frag) (H : Hp) : List V → List Ds → Prop
  | [], [] => True
  | v :: vs, d :: ds => (∃ p xs, v = .ref p ∧ SqT K H p xs ∧ DsAt K H d xs) ∧ BhAt K H vs ds
  | _, _ => False
theorem BhAt.imp {K : PySem.W.Frag} {H H' : Hp} (h : ∀ p xs, SqT K H p xs → SqT K H' p xs) : ∀ {vs : List V} {es : List Ds}, BhAt K H vs es → BhAt K H' vs es
  | [], [], _ => trivial
  | _ :: _, _ :: _, ⟨⟨p, xs, e, q, x⟩, r⟩ => ⟨⟨p, xs, e, h _ _ q, x.imp h⟩, BhAt.imp h r⟩
theorem BhAt.same {K : PySem.W.Frag} {H H' : Hp} {vs : List V} {es : List Ds} (r : BhAt K H vs es) (s : Same H H') : BhAt K H' vs es := r.imp fun _ _ q => same_sqt s q
theorem BhAt.len {K : PySem.W.Frag} {H : Hp} : ∀ {vs : List V} {es : List Ds}, BhAt K H vs es → vs.length = es.length
  | [], [], _ => rfl
  | _ :: _, _ :: _, ⟨_, r⟩ => by rw [List.length_cons, List.length_cons, r.len]
theorem BhAt.snoc {K : PySem.W.Frag} {H : Hp} {p : Addr} {xs : List V} {d : Ds} (q : SqT K H p xs) (x : DsAt K H d xs) : ∀ {vs : List V} {es : List Ds}, BhAt K H vs es → BhAt K H (vs ++ [.ref p]) (es ++ [d])
  | [], [], _ => ⟨⟨p, xs, rfl, q, x⟩, trivial⟩
  | _ :: _, _ :: _, ⟨y, r⟩ => ⟨y, BhAt.snoc q x r⟩
theorem BhAt.get {K : PySem.W.Frag} {H : Hp} : ∀ {vs : List V} {es : List Ds} {k : Nat} {d : Ds}, BhAt K H vs es → es[k]? = some d → ∃ p xs, vs[k]? = some (.ref p) ∧ SqT K H p xs ∧ DsAt K H d xs
  | [], [], _, _, _, h => by simp at h
  | v :: vs, e' :: es, 0, e, ⟨⟨p, xs, e1, q, x⟩, r⟩, h => by
    have : e' = e := Option.some.inj h
    subst this
    exact ⟨p, xs, by rw [e1]; rfl, q, x⟩
  | v :: vs, e' :: es, k + 1, e, ⟨x, r⟩, h => BhAt.get (k := k) r h
structure Dbt where
  name : Str
  scale : Nat
  begins : List Int
  stakes : List Ex
  behinds : List Ds
def DbAt (K : PySem.W.Frag) (H : Hp) (D : Dbt) (v : V) : Prop := ∃ (p : Addr) (vb : V) (ps pb : Addr) (us ws : List V), v = .ref p ∧ SqT K H p [.str D.name, .int (D.scale : Int), vb, .ref ps, .ref pb] ∧ RegsAt K H D.begins vb ∧ SqT K H ps us ∧ RowsAt K H us D.stakes ∧ SqT K H pb ws ∧ BhAt K H ws D.behinds
theorem DbAt.imp {K : PySem.W.Frag} {H H' : Hp} {D : Dbt} {v : V} (x : DbAt K H D v) (h : ∀ p xs, SqT K H p xs → SqT K H' p xs) : DbAt K H' D v := by
  obtain ⟨p, vb, ps, pb, us, ws, e, q, r, q1, r1, q2, r2⟩ := x
  exact ⟨p, vb, ps, pb, us, ws, e, h _ _ q, r.imp h, h _ _ q1, r1.imp h, h _ _ q2, r2.imp h⟩
theorem DbAt.same {K : PySem.W.Frag} {H H' : Hp} {D : Dbt} {v : V} (x : DbAt K H D v) (s : Same H H') : DbAt K H' D v := x.imp fun _ _ q => same_sqt s q
/-- names, scale, registers, stakes of a depth, deeds of a depth and a number -/
structure DbOk (many dE dD cD : Nat) (D : Dbt) : Prop where
  nm : D.name = "a" ∨ D.name = "doubter" ∨ D.name = "sceptics" ∨ D.name = "zz"
  sc : D.scale < 5
  rg : RegOk D.begins
  sl : D.stakes.length = many
  st : ∀ e ∈ D.stakes, ExOk many e ∧ e.dep ≤ dE
  bl : D.behinds.length = many
  bh : ∀ d ∈ D.behinds, DsOk many d ∧ d.dep ≤ dD ∧ d.cnt ≤ cD
/-! ### as data -/
def dsD : Ds → List PyData
  | .nil => []
  | .op w i x r => .tuple [.str (dn w), .int (i : Int), .int x] :: dsD r
  | .when i c a b r => .tuple [.str "when", .int (i : Int), .int c, .tuple (dsD a), .tuple (dsD b)] :: dsD r
theorem DsAt.dps {K : PySem.W.Frag} {H : Hp} : ∀ {d : Ds} {vs : List V}, DsAt K H d vs → DpAll K H vs (dsD d)
  | .nil, _, e => by subst e; exact .nil
  | .op _ _ _ _, _, ⟨p, us, e, q, r⟩ => by subst e; exact .cons (.tup q (.cons (.str _) (.cons (.int _) (.cons (.int _) .nil)))) r.dps
  | .when _ _ _ _ _, _, ⟨p, pa, pb, xa, xb, us, e, q, qa, a, qb, b, r⟩ => by subst e; exact .cons (.tup q (.cons (.str _) (.cons (.int _) (.cons (.int _) (.cons (.tup qa a.dps) (.cons (.tup qb b.dps) .nil)))))) r.dps
theorem BhAt.dps {K : PySem.W.Frag} {H : Hp} : ∀ {vs : List V} {es : List Ds}, BhAt K H vs es → DpAll K H vs (es.map fun d => .tuple (dsD d))
  | [], [], _ => .nil
  | _ :: _, _ :: _, ⟨⟨p, xs, e, q, x⟩, r⟩ => by subst e; exact .cons (.tup q x.dps) r.dps
def dbD (D : Dbt) : PyData := .tuple [.str D.name, .int (D.scale : Int), .tuple (D.begins.map PyData.int), .tuple (D.stakes.map toD), .tuple (D.behinds.map fun d => .tuple (dsD d))]
theorem dp_ints {K : PySem.W.Frag} {H : Hp} : ∀ ns : List Int, DpAll K H (ns.map V.int) (ns.map PyData.int)
  | [] => .nil
  | n :: r => .cons (.int n) (dp_ints r)
theorem DbAt.dp {K : PySem.W.Frag} {H : Hp} {D : Dbt} {v : V} (x : DbAt K H D v) : Dp K H v (dbD D) := by
  obtain ⟨p, vb, ps, pb, us, ws, e, q, ⟨pr, e2, r, _⟩, q1, r1, q2, r2⟩ := x
  subst e e2
  exact .tup q (.cons (.str _) (.cons (.int _) (.cons (.tup r (dp_ints _)) (.cons (.tup q1 r1.dps) (.cons (.tup q2 r2.dps) .nil)))))
theorem shw_smalls : ∀ {ns : List Int}, (∀ x ∈ ns, -1000 ≤ x ∧ x ≤ 1000) → ShwAll (ns.map PyData.int) (16 * ns.length) 0
  | [], _ => ShwAll.nil
  | n :: r, h => by
    have h0 := h n (by simp)
    have h1 := Shw.small (i := n) (by omega)
    have h2 := shw_smalls (ns := r) fun x hx => h x (List.mem_cons_of_mem _ hx)
    have h3 := ShwAll.cons h1 h2 (Nat.le_refl 0) (Nat.le_refl 0)
    refine ⟨h3.sh, h3.lf, Nat.le_trans h3.wt ?_, h3.dp⟩
    rw [List.length_cons]
    omega
theorem shw_ds {many : Nat} (hm : many ≤ 1000) : ∀ {d : Ds}, DsOk many d → ShwAll (dsD d) (60 * d.cnt) (2 * d.dep)
  | .nil, _ => ShwAll.nil
  | .op w i x r, ⟨o1, o2, o3⟩ => by
    have hr := shw_ds hm (d := r) o3
    have hx := xok_small hm o2
    have hw : Shw (.str (dn w)) 10 0 := by cases w <;> exact .str (by decide) (by decide)
    have h1 := ShwAll.tup (.cons hw (.cons (.small (i := (i : Int)) (by omega)) (.cons (.small (i := x) (by omega)) .nil (Nat.le_refl 0) (Nat.le_refl 0)) (Nat.le_refl 0) (Nat.le_refl 0)) (Nat.le_refl 0) (Nat.le_refl 0))
    have h2 := ShwAll.cons h1 hr (k := 2 * max 1 r.dep) (by omega) (by omega)
    refine ⟨h2.sh, h2.lf, Nat.le_trans h2.wt ?_, h2.dp⟩
    show 10 + 1 + (15 + 1 + (15 + 1 + 0)) + 1 + 60 * r.cnt ≤ 60 * (1 + r.cnt)
    omega
  | .when i c a b r, ⟨o1, o2, o3, o4, o5⟩ => by
    have ha := (shw_ds hm (d := a) o3).tup
    have hb := (shw_ds hm (d := b) o4).tup
    have hr := shw_ds hm (d := r) o5
    have h1 := ShwAll.tup (.cons (.str (x := "when") (by decide) (by decide)) (.cons (.small (i := (i : Int)) (by omega)) (.cons (.small (i := c) (by omega)) (.cons ha (.cons hb .nil (k := 2 * max a.dep b.dep + 1) (by omega) (Nat.zero_le _)) (by omega) (Nat.le_refl _)) (Nat.zero_le _) (Nat.le_refl _)) (Nat.zero_le _) (Nat.le_refl _)) (Nat.zero_le _) (Nat.le_refl _))
    have h2 := ShwAll.cons h1 hr (k := 2 * max (max a.dep b.dep + 1) r.dep) (by omega) (by omega)
    refine ⟨h2.sh, h2.lf, Nat.le_trans h2.wt ?_, h2.dp⟩
    show 10 + 1 + (15 + 1 + (15 + 1 + (60 * a.cnt + 1 + (60 * b.cnt + 1 + 0)))) + 1 + 60 * r.cnt ≤ 60 * (1 + (a.cnt + b.cnt) + r.cnt)
    omega
theorem shw_list {α : Type} {f : α → PyData} {w k : Nat} : ∀ {xs : List α}, (∀ x ∈ xs, Shw (f x) w k) → ShwAll (xs.map f) ((w + 1) * xs.length) k
  | [], _ => ShwAll.nil
  | n :: r, h => by
    have h1 := h n (by simp)
    have h2 := shw_list (xs := r) fun x hx => h x (List.mem_cons_of_mem _ hx)
    have h3 := ShwAll.cons h1 h2 (Nat.le_refl k) (Nat.le_refl k)
    refine ⟨h3.sh, h3.lf, Nat.le_trans h3.wt ?_, h3.dp⟩
    rw [List.length_cons, Nat.mul_add]
    omega
/-- a doubter's weight -/
theorem shw_db {many dE dD cD : Nat} {D : Dbt} (hm : many ≤ 3) (hE : dE ≤ 8) (hD : dD ≤ 8) (o : DbOk many dE dD cD D) : Shw (dbD D) (120 + 3 * wgt dE + 180 * cD) 20 := by
  have h0 : Shw (.str D.name) 10 0 := by rcases o.nm with e | e | e | e <;> rw [e] <;> exact .str (by decide) (by decide)
  have h1 : Shw (.int (D.scale : Int)) 15 0 := .small (by have := o.sc; omega)
  have h2 := (shw_smalls o.rg.2).tup
  have h3 := (shw_list (f := toD) (w := wgt dE) (k := dE) fun e he => (shw_ex (many := many) (by omega) (o.st e he).1).mono (wgt_mono (o.st e he).2) (o.st e he).2).tup
  have h4 := (shw_list (f := fun d => PyData.tuple (dsD d)) (w := 60 * cD) (k := 2 * dD + 1) fun d hd => ((shw_ds (many := many) (by omega) (o.bh d hd).1).tup).mono (Nat.mul_le_mul_left _ (o.bh d hd).2.2) (by have := (o.bh d hd).2.1; omega)).tup
  have h5 := ShwAll.tup (.cons h0 (.cons h1 (.cons h2 (.cons h3 (.cons h4 (ShwAll.nil (k := 0)) (k := 18) (by omega) (by omega)) (by omega) (Nat.le_refl 18)) (by omega) (Nat.le_refl 18)) (by omega) (Nat.le_refl 18)) (by omega) (Nat.le_refl 18))
  refine h5.mono ?_ (by decide)
  rw [o.sl, o.bl, o.rg.1]
  have a1 : (wgt dE + 1) * many ≤ (wgt dE + 1) * 3 := Nat.mul_le_mul_left _ hm
  have a2 : (60 * cD + 1) * many ≤ (60 * cD + 1) * 3 := Nat.mul_le_mul_left _ hm
  omega
/-! ### promises -/
def spExprJ (K : PySem.W.Frag) (m : Nat) : Sp := fun vs H Q _ => ∃ (a : Addr) (many l n j : Nat), vs = [.ref a, .int (many : Int), .int (l : Int), .int (j : Int)] ∧ j ≤ 1 ∧ l < m ∧ 1 ≤ many ∧ many ≤ 1000 ∧ HandAt H a n ∧ n + cost l ≤ 999999000 ∧
  ∀ H' v e, But a H H' → HandAt H' a (n + cost l) → ExAt K H' e v → ExOk many e → e.dep ≤ l + 1 → Q v H'
/-- a stake: cut to its far -/
def spStake (K : PySem.W.Frag) (m : Nat) : Sp := fun vs H Q _ => ∃ (a : Addr) (many l n j : Nat), vs = [.ref a, .int (many : Int), .int (l : Int), .int (j : Int)] ∧ j ≤ 1 ∧ l < m ∧ 1 ≤ many ∧ many ≤ 1000 ∧ HandAt H a n ∧ n + cost l ≤ 999998000 ∧
  ∀ H' v e, But a H H' → HandAt H' a (n + cost l + 3) → ExAt K H' e v → ExOk many e → e.dep ≤ l + 3 → (∃ c : Int, e = .fig c ∧ -500 ≤ c ∧ c ≤ 500) ∨ (∃ (c : Int) (e' : Ex), e = .two .least (.fig c) (.two .most (.fig (-c)) e') ∧ 1 ≤ c ∧ c ≤ 500 ∧ ExOk many e' ∧ e'.dep ≤ l + 1) → Q v H'
def dB : Nat → Nat
  | 0 => 20
  | n + 1 => 2 * dB n + 30
def dC : Nat → Nat
  | 0 => 3
  | n + 1 => 2 * dC n + 4
theorem dC_ge (n : Nat) : 3 ≤ dC n := by
  cases n with
  | zero => exact Nat.le_refl _
  | succ n => show 3 ≤ 2 * dC n + 4; omega
theorem dB_ge (n : Nat) : 20 ≤ dB n := by
  cases n with
  | zero => exact Nat.le_refl _
  | succ n => show 20 ≤ 2 * dB n + 30; omega
def spDeeds (K : PySem.W.Frag) (m : Nat) : Sp := fun vs H Q _ => ∃ (a : Addr) (many l n : Nat), vs = [.ref a, .int (many : Int), .int (l : Int)] ∧ l < m ∧ l ≤ 3 ∧ 1 ≤ many ∧ many ≤ 1000 ∧ HandAt H a n ∧ n + dB l ≤ 999998000 ∧
  ∀ H' p xs d, But a H H' → HandAt H' a (n + dB l) → SqT K H' p xs → DsAt K H' d xs → DsOk many d → d.dep ≤ l + 1 → d.cnt ≤ dC l → Q (.ref p) H'
def StOk (many l : Nat) (e : Ex) : Prop := (∃ c : Int, e = .fig c ∧ -500 ≤ c ∧ c ≤ 500) ∨ (∃ (c : Int) (e' : Ex), e = .two .least (.fig c) (.two .most (.fig (-c)) e') ∧ 1 ≤ c ∧ c ≤ 500 ∧ ExOk many e' ∧ e'.dep ≤ l + 1)
def spDoubter (K : PySem.W.Frag) (m : Nat) : Sp := fun vs H Q _ => ∃ (a : Addr) (many l n j : Nat), vs = [.ref a, .int (many : Int), .int (l : Int), .int (j : Int)] ∧ j ≤ 1 ∧ l < m ∧ l ≤ 5 ∧ 1 ≤ many ∧ many ≤ 3 ∧ HandAt H a n ∧ n ≤ 999990000 ∧
  ∀ H' v D, But a H H' → HandAt H' a (n + 3 * cost l + 300) → DbAt K H' D v → DbOk many (l + 3) 2 10 D → (∀ e ∈ D.stakes, StOk many l e) → Q v H'
end NG

namespace NG
open PySem PySem.Spec PyProof.Rows L2
def topS (i : Nat) : Stmt := PySem.Challenge.pw_nonegrowsrich_k22_registers_behind.main.body.getD i (.Pass ⟨0, 0, 0, 0⟩)
abbrev s_mills : Stmt := topS 1
abbrev N_mills : List Str := ["shares", "sign"]
theorem sc_mills : FnScope ["shares", "sign"] ["shares", "sign"] (defScope s_mills) := ⟨rfl, rfl, rfl, by decide +kernel, rfl, by decide +kernel, by decide +kernel⟩
abbrev s_held_by : Stmt := topS 5
abbrev N_held_by : List Str := ["deed", "registers", "shares", "word", "place", "what"]
theorem sc_held_by : FnScope ["deed", "registers", "shares", "word", "place", "what"] ["deed", "registers", "shares"] (defScope s_held_by) := ⟨rfl, rfl, rfl, by decide +kernel, rfl, by decide +kernel, by decide +kernel⟩
abbrev s_with_held : Stmt := topS 6
abbrev N_with_held : List Str := ["registers", "place", "number", "held"]
theorem sc_with_held : FnScope ["registers", "place", "number", "held"] ["registers", "place", "number"] (defScope s_with_held) := ⟨rfl, rfl, rfl, by decide +kernel, rfl, by decide +kernel, by decide +kernel⟩
abbrev s_led_deeds : Stmt := topS 7
abbrev N_led_deeds : List Str := ["deed", "registers", "word", "place", "figure", "first", "second"]
theorem sc_led_deeds : FnScope ["deed", "registers", "word", "place", "figure", "first", "second"] ["deed", "registers"] (defScope s_led_deeds) := ⟨rfl, rfl, rfl, by decide +kernel, rfl, by decide +kernel, by decide +kernel⟩
abbrev s_do_deeds : Stmt := topS 8
abbrev N_do_deeds : List Str := ["deeds", "registers", "shares", "deed"]
theorem sc_do_deeds : FnScope ["deeds", "registers", "shares", "deed"] ["deeds", "registers", "shares"] (defScope s_do_deeds) := ⟨rfl, rfl, rfl, by decide +kernel, rfl, by decide +kernel, by decide +kernel⟩
abbrev s_behind : Stmt := topS 9
abbrev N_behind : List Str := ["doubter", "registers", "shares", "sign", "name", "scale", "begins", "stakes", "behinds"]
theorem sc_behind : FnScope ["doubter", "registers", "shares", "sign", "name", "scale", "begins", "stakes", "behinds"] ["doubter", "registers", "shares", "sign"] (defScope s_behind) := ⟨rfl, rfl, rfl, by decide +kernel, rfl, by decide +kernel, by decide +kernel⟩
abbrev s_L_hand : Stmt := topS 11
abbrev N_L_hand : List Str := ["_law_script", "_law_k", "_law_cell", "_law_great"]
theorem sc_L_hand : FnScope ["_law_script", "_law_k", "_law_cell", "_law_great"] ["_law_script", "_law_k"] (defScope s_L_hand) := ⟨rfl, rfl, rfl, by decide +kernel, rfl, by decide +kernel, by decide +kernel⟩
abbrev s_L_take : Stmt := topS 12
abbrev N_L_take : List Str := ["_law_hand_here", "_law_wide", "_law_digit", "_law_primes", "_law_prime", "_law_drawn"]
theorem sc_L_take : FnScope ["_law_hand_here", "_law_wide", "_law_digit", "_law_primes", "_law_prime", "_law_drawn"] ["_law_hand_here", "_law_wide"] (defScope s_L_take) := ⟨rfl, rfl, rfl, by decide +kernel, rfl, by decide +kernel, by decide +kernel⟩
abbrev s_L_of : Stmt := topS 13
abbrev N_L_of : List Str := ["_law_hand_here", "_law_some"]
theorem sc_L_of : FnScope ["_law_hand_here", "_law_some"] ["_law_hand_here", "_law_some"] (defScope s_L_of) := ⟨rfl, rfl, rfl, by decide +kernel, rfl, by decide +kernel, by decide +kernel⟩
abbrev s_L_lowest : Stmt := topS 14
abbrev N_L_lowest : List Str := ["_law_row", "_law_by", "_law_number"]
theorem sc_L_lowest : FnScope ["_law_row", "_law_by", "_law_number"] ["_law_row"] (defScope s_L_lowest) := ⟨rfl, rfl, rfl, by decide +kernel, rfl, by decide +kernel, by decide +kernel⟩
abbrev s_L_shares : Stmt := topS 15
abbrev N_L_shares : List Str := ["_law_hand_here", "_law_wide", "_law_row", "_law_face", "_law_some"]
theorem sc_L_shares : FnScope ["_law_hand_here", "_law_wide", "_law_row", "_law_face", "_law_some"] ["_law_hand_here", "_law_wide"] (defScope s_L_shares) := ⟨rfl, rfl, rfl, by decide +kernel, rfl, by decide +kernel, by decide +kernel⟩
abbrev s_L_figure : Stmt := topS 16
abbrev N_L_figure : List Str := ["_law_hand_here", "_law_some"]
theorem sc_L_figure : FnScope ["_law_hand_here", "_law_some"] ["_law_hand_here"] (defScope s_L_figure) := ⟨rfl, rfl, rfl, by decide +kernel, rfl, by decide +kernel, by decide +kernel⟩
abbrev s_L_registers : Stmt := topS 17
abbrev N_L_registers : List Str := ["_law_hand_here", "_law_turn"]
theorem sc_L_registers : FnScope ["_law_hand_here", "_law_turn"] ["_law_hand_here"] (defScope s_L_registers) := ⟨rfl, rfl, rfl, by decide +kernel, rfl, by decide +kernel, by decide +kernel⟩
abbrev s_L_leaf : Stmt := topS 18
abbrev N_L_leaf : List Str := ["_law_hand_here", "_law_wide", "_law_sort"]
theorem sc_L_leaf : FnScope ["_law_hand_here", "_law_wide", "_law_sort"] ["_law_hand_here", "_law_wide"] (defScope s_L_leaf) := ⟨rfl, rfl, rfl, by decide +kernel, rfl, by decide +kernel, by decide +kernel⟩
abbrev s_L_expression : Stmt := topS 19
abbrev N_L_expression : List Str := ["_law_hand_here", "_law_wide", "_law_level", "_law_jumps", "_law_words", "_law_word", "_law_one", "_law_other", "_law_grains"]
theorem sc_L_expression : FnScope ["_law_hand_here", "_law_wide", "_law_level", "_law_jumps", "_law_words", "_law_word", "_law_one", "_law_other", "_law_grains"] ["_law_hand_here", "_law_wide", "_law_level", "_law_jumps"] (defScope s_L_expression) := ⟨rfl, rfl, rfl, by decide +kernel, rfl, by decide +kernel, by decide +kernel⟩
abbrev s_L_stake : Stmt := topS 20
abbrev N_L_stake : List Str := ["_law_hand_here", "_law_wide", "_law_level", "_law_jumps", "_law_far", "_law_inner"]
theorem sc_L_stake : FnScope ["_law_hand_here", "_law_wide", "_law_level", "_law_jumps", "_law_far", "_law_inner"] ["_law_hand_here", "_law_wide", "_law_level", "_law_jumps"] (defScope s_L_stake) := ⟨rfl, rfl, rfl, by decide +kernel, rfl, by decide +kernel, by decide +kernel⟩
abbrev s_L_deeds : Stmt := topS 21
abbrev N_L_deeds : List Str := ["_law_hand_here", "_law_wide", "_law_deep", "_law_found", "_law_turn", "_law_i", "_law_word", "_law_parts"]
theorem sc_L_deeds : FnScope ["_law_hand_here", "_law_wide", "_law_deep", "_law_found", "_law_turn", "_law_i", "_law_word", "_law_parts"] ["_law_hand_here", "_law_wide", "_law_deep"] (defScope s_L_deeds) := ⟨rfl, rfl, rfl, by decide +kernel, rfl, by decide +kernel, by decide +kernel⟩
abbrev s_L_doubter : Stmt := topS 22
abbrev N_L_doubter : List Str := ["_law_hand_here", "_law_wide", "_law_level", "_law_jumps", "_law_name", "_law_scale", "_law_stakes", "_law_face", "_law_behinds"]
theorem sc_L_doubter : FnScope ["_law_hand_here", "_law_wide", "_law_level", "_law_jumps", "_law_name", "_law_scale", "_law_stakes", "_law_face", "_law_behinds"] ["_law_hand_here", "_law_wide", "_law_level", "_law_jumps"] (defScope s_L_doubter) := ⟨rfl, rfl, rfl, by decide +kernel, rfl, by decide +kernel, by decide +kernel⟩
abbrev s_L_long_deeds : Stmt := topS 23
abbrev N_L_long_deeds : List Str := ["_law_hand_here", "_law_wide", "_law_deep", "_law_room", "_law_found", "_law_i", "_law_word", "_law_first", "_law_second"]
theorem sc_L_long_deeds : FnScope ["_law_hand_here", "_law_wide", "_law_deep", "_law_room", "_law_found", "_law_i", "_law_word", "_law_first", "_law_second"] ["_law_hand_here", "_law_wide", "_law_deep", "_law_room"] (defScope s_L_long_deeds) := ⟨rfl, rfl, rfl, by decide +kernel, rfl, by decide +kernel, by decide +kernel⟩
abbrev s_L_deeds_many : Stmt := topS 24
abbrev N_L_deeds_many : List Str := ["_law_deeds_here", "_law_deed"]
theorem sc_L_deeds_many : FnScope ["_law_deeds_here", "_law_deed"] ["_law_deeds_here"] (defScope s_L_deeds_many) := ⟨rfl, rfl, rfl, by decide +kernel, rfl, by decide +kernel, by decide +kernel⟩
abbrev s_L_inner_many : Stmt := topS 25
abbrev N_L_inner_many : List Str := ["_law_deed", "_law_part"]
theorem sc_L_inner_many : FnScope ["_law_deed", "_law_part"] ["_law_deed"] (defScope s_L_inner_many) := ⟨rfl, rfl, rfl, by decide +kernel, rfl, by decide +kernel, by decide +kernel⟩
abbrev s_L_cut : Stmt := topS 26
abbrev N_L_cut : List Str := ["_law_number"]
theorem sc_L_cut : FnScope ["_law_number"] ["_law_number"] (defScope s_L_cut) := ⟨rfl, rfl, rfl, by decide +kernel, rfl, by decide +kernel, by decide +kernel⟩
abbrev s_L_gone : Stmt := topS 27
abbrev N_L_gone : List Str := ["_law_deeds_here", "_law_held", "_law_lots", "_law_deed", "_law_word", "_law_i", "_law_by", "_law_much"]
theorem sc_L_gone : FnScope ["_law_deeds_here", "_law_held", "_law_lots", "_law_deed", "_law_word", "_law_i", "_law_by", "_law_much"] ["_law_deeds_here", "_law_held", "_law_lots"] (defScope s_L_gone) := ⟨rfl, rfl, rfl, by decide +kernel, rfl, by decide +kernel, by decide +kernel⟩
abbrev s_L_edged : Stmt := topS 28
abbrev N_L_edged : List Str := ["_law_hand_here", "_law_wide", "_law_grains", "_law_far", "_law_row"]
theorem sc_L_edged : FnScope ["_law_hand_here", "_law_wide", "_law_grains", "_law_far", "_law_row"] ["_law_hand_here", "_law_wide"] (defScope s_L_edged) := ⟨rfl, rfl, rfl, by decide +kernel, rfl, by decide +kernel, by decide +kernel⟩
abbrev s_law : Stmt := topS 29
abbrev N_law : List Str := ["_law_script", "_law_k", "_law_hand_here", "_law_turn", "_law_wide", "_law_name", "_law_scale", "_law_begins", "_law_stakes", "_law_old", "_law_behinds", "_law_face", "_law_sceptic", "_law_ahead_of", "_law_some", "_law_held", "_law_turn_of", "_law_lots", "_law_due", "_law_found"]
theorem sc_law : FnScope ["_law_script", "_law_k", "_law_hand_here", "_law_turn", "_law_wide", "_law_name", "_law_scale", "_law_begins", "_law_stakes", "_law_old", "_law_behinds", "_law_face", "_law_sceptic", "_law_ahead_of", "_law_some", "_law_held", "_law_turn_of", "_law_lots", "_law_due", "_law_found"] ["_law_script"] (defScope s_law) := ⟨rfl, rfl, rfl, by decide +kernel, rfl, by decide +kernel, by decide +kernel⟩

end NG

namespace NG
open PySem PySem.Spec PyProof.Rows L2
section
variable {P : Program} {w : World} {K : PySem.W.Frag} {mg : Str → Option Value} {base : Heap}
theorem primes_at {m : Int} (h : 0 ≤ m) : ∃ p : Int, atI ([.int 2147483647, .int 2147483629, .int 2147483587, .int 2147483579, .int 2147483563, .int 2147483549, .int 2147483543, .int 2147483497] : List V) (m % 8) = some (.int p) ∧ 1000 < p ∧ p < 2147483648 := by
  have h1 : m % 8 = 0 ∨ m % 8 = 1 ∨ m % 8 = 2 ∨ m % 8 = 3 ∨ m % 8 = 4 ∨ m % 8 = 5 ∨ m % 8 = 6 ∨ m % 8 = 7 := by omega
  rcases h1 with e | e | e | e | e | e | e | e <;> rw [e] <;> exact ⟨_, rfl, by decide, by decide⟩
theorem ok_take {f : Addr} {fd : FuncData} (F : Fun K "_law_take" "_law_take" s_L_take f fd) (gF : mg "_law_take" = some (.ref f)) (b : Binds K fd ["_law_hand_here", "_law_wide"] []) : Cal P w K mg base 1 "_law_take" spTake := by
  refine ⟨f, fd, _, F.ok sc_L_take (fun vs H Q E h => ?_) (fun cdv A outer s H vs Q E hr h => ?_), gF, F.kp, b⟩
  · obtain ⟨a, m, n, rfl, _⟩ := h
    rfl
  · obtain ⟨a, many, n, rfl, hm, hm2, ⟨g, sd, m, e, hg, hs, h0, hn⟩, hN, q⟩ := h
    refine ⟨_, (pss_cons (ps_if (pt_cmpR op_gt (pe_ix ix_list (pv 0) pe_int (fun _ _ => rfl)) pe_int (nomark _)) (pss_cons (ps_set (i := 2) sc_L_take.nd rfl (.inl rfl) (pe_op op_mod (pe_ix ix_list (pv 0) pe_int (fun _ _ => rfl)) (pv 1))) (pss_cons (ps_asg (pe_op op_fdivW (pe_ix ix_list (pv 0) pe_int (fun _ _ => rfl)) (pv 1)) (pg_sub (pv 0) pe_int set_list)) (pss_one (ps_ret (pv 2))))) pss_nil) (pss_cons (ps_asg (pe_op op_add (pe_ix ix_list (pv 0) pe_int (fun _ _ => rfl)) pe_int) (pg_sub (pv 0) pe_int set_list)) (pss_cons (ps_set (i := 3) sc_L_take.nd rfl (.inl rfl) (pe_lst (pa_cons pe_int (pa_cons pe_int (pa_cons pe_int (pa_cons pe_int (pa_cons pe_int (pa_cons pe_int (pa_cons pe_int (pa_cons pe_int pa_nil)))))))))) (pss_cons (ps_set (i := 4) sc_L_take.nd rfl (.inl rfl) (pe_ix ix_list (pv 3) (pe_op op_mod (pe_ix ix_list (pv 0) pe_int (fun _ _ => rfl)) pe_int) (fun _ _ => rfl))) (pss_cons (ps_set (i := 5) sc_L_take.nd rfl (.inl rfl) (pe_op op_add (pe_op op_mod (pe_op op_mod (pe_op op_add (pe_ix ix_list (pv 0) pe_int (fun _ _ => rfl)) (pe_op op_mul (pe_op op_mul pe_int (pe_ix ix_list (pv 0) pe_int (fun _ _ => rfl))) (pe_ix ix_list (pv 0) pe_int (fun _ _ => rfl)))) (pe_op op_pow (pv 4) pe_int)) (pv 4)) pe_int)) (pss_one (ps_ret (pe_op op_mod (pe_op op_fdiv (pe_op op_mod (pe_op op_mul (pv 5) (pe_op op_add (pe_op op_mod (pv 5) pe_int) (pe_ix ix_list (pv 0) pe_int (fun _ _ => rfl)))) (pv 4)) pe_int) (pv 1))))))))), ?_⟩
    refine ⟨.ref a, rfl, a, _, 0, .int g, rfl, rfl, SqL.of e, rfl, g, 0, rfl, rfl, _, rfl, iteD (fun c => ?_) (fun c => ?_)⟩
    · refine ⟨.ref a, rfl, a, _, 0, .int g, rfl, rfl, SqL.of e, rfl, .int many, rfl, g, many, rfl, rfl, hm, ?_⟩
      refine ⟨.ref a, rfl, a, _, 0, .int g, rfl, rfl, SqL.of e, rfl, .int many, rfl, g, many, rfl, rfl, wide_div (b := 62) hm (by omega) (by decide) (by decide), ?_⟩
      refine ⟨.ref a, rfl, a, _, 0, 0, rfl, rfl, e, rfl, ?_⟩
      refine ⟨.int (g % many), rfl, q _ _ But.put ?_ (Int.emod_nonneg _ (by omega)) (Int.emod_lt_of_pos _ hm)⟩
      exact ⟨g / many, sd, m, upd_same, Int.ediv_nonneg hg (by omega), hs, h0, by omega⟩
    · refine ⟨.ref a, rfl, a, _, 2, .int m, rfl, rfl, SqL.of e, rfl, m, 1, rfl, rfl, ?_⟩
      refine ⟨.ref a, rfl, a, _, 2, 2, rfl, rfl, e, rfl, ?_⟩
      have e1 : (upd H a (.lst [.int g, .int sd, .int (m + 1)])) a = some (.lst [.int g, .int sd, .int (m + 1)]) := upd_same
      refine ⟨by decide, fun p np => ?_⟩
      have npa : p ≠ a := (ne_of_none e1 np).symm
      obtain ⟨pr, hat, hp1, hp2⟩ := primes_at (m := m + 1) (by omega)
      have e2 : (upd (upd H a (.lst [.int g, .int sd, .int (m + 1)])) p (.lst [.int 2147483647, .int 2147483629, .int 2147483587, .int 2147483579, .int 2147483563, .int 2147483549, .int 2147483543, .int 2147483497])) a = some (.lst [.int g, .int sd, .int (m + 1)]) := by rw [upd_ne npa.symm]; exact e1
      have e3 : (upd (upd H a (.lst [.int g, .int sd, .int (m + 1)])) p (.lst [.int 2147483647, .int 2147483629, .int 2147483587, .int 2147483579, .int 2147483563, .int 2147483549, .int 2147483543, .int 2147483497])) p = some (.lst [.int 2147483647, .int 2147483629, .int 2147483587, .int 2147483579, .int 2147483563, .int 2147483549, .int 2147483543, .int 2147483497]) := upd_same
      refine ⟨.ref p, rfl, .ref a, rfl, a, _, 2, .int (m + 1), rfl, rfl, SqL.of e2, rfl, m + 1, 8, rfl, rfl, (by show (0 : Int) < 8; decide), p, _, (m + 1) % 8, .int pr, rfl, rfl, SqL.of e3, hat, ?_⟩
      have hsq : (0 : Int) < pr ^ (2 : Int).toNat := by
        show 0 < pr ^ 2
        exact Int.pow_pos (by omega)
      refine ⟨.ref a, rfl, a, _, 1, .int sd, rfl, rfl, SqL.of e2, rfl, .ref a, rfl, a, _, 2, .int (m + 1), rfl, rfl, SqL.of e2, rfl, 69621, m + 1, rfl, rfl, .inl ⟨by decide, by decide⟩, .ref a, rfl, a, _, 2, .int (m + 1), rfl, rfl, SqL.of e2, rfl, _, _, rfl, rfl, .inr ⟨by omega, by omega⟩, _, _, rfl, rfl,
        .int pr, rfl, pr, 2, rfl, rfl, ⟨by decide, by decide, by omega⟩, _, _, rfl, rfl, hsq, .int pr, rfl, _, pr, rfl, rfl, (by show 0 < pr; omega), _, 1, rfl, rfl, ?_⟩
      generalize hz : (sd + 69621 * (m + 1) * (m + 1)) % pr ^ (2 : Int).toNat % pr = z
      have hz0 : 0 ≤ z := by rw [← hz]; exact Int.emod_nonneg _ (by omega)
      have hz1 : z < pr := by rw [← hz]; exact Int.emod_lt_of_pos _ (by omega)
      refine ⟨.int (z + 1), rfl, .int (z + 1), rfl, z + 1, 1009, rfl, rfl, (by show (0 : Int) < 1009; decide), .ref a, rfl, a, _, 2, .int (m + 1), rfl, rfl, SqL.of e2, rfl, _, _, rfl, rfl, z + 1, _, rfl, rfl, .inl ⟨by omega, by omega⟩, .int pr, rfl, _, pr, rfl, rfl, (by show 0 < pr; omega), _, 7, rfl, rfl, ⟨by decide, by decide⟩, .int many, rfl, _, many, rfl, rfl, hm, ?_⟩
      refine q _ _ ?_ ⟨g, sd, m + 1, e2, hg, hs, by omega, by omega⟩ (Int.emod_nonneg _ (by omega)) (Int.emod_lt_of_pos _ hm)
      exact But.put.trans (But.new np)
end
end NG

namespace NG
open PySem PySem.Spec PyProof.Rows L2
section
variable {P : Program} {w : World} {K : PySem.W.Frag} {mg : Str → Option Value} {base : Heap}
theorem ok_hand {f : Addr} {fd : FuncData} (F : Fun K "_law_hand" "_law_hand" s_L_hand f fd) (gF : mg "_law_hand" = some (.ref f)) (b : Binds K fd ["_law_script", "_law_k"] []) (B : Bl mg) : Cal P w K mg base 1 "_law_hand" (spHand K) := by
  refine ⟨f, fd, _, F.ok sc_L_hand (fun vs H Q E h => ?_) (fun cdv A outer s H vs Q E hr h => ?_), gF, F.kp, b⟩
  · obtain ⟨a, m, n, rfl, _⟩ := h
    rfl
  · obtain ⟨a, k, ns, rfl, hk0, hk1, hS, q⟩ := h
    refine ⟨_, (pss_cons (ps_set (i := 2) sc_L_hand.nd rfl (.inl rfl) (pe_cut (pe_ifExp (pt_cmpR op_lt (pv 1) (pe_callB call_len_seq (by rfl) B.len PySem.boot_len (pa_cons (pv 0) pa_nil)) (nomark _)) (pe_ix ix_list (pv 0) (pv 1) (fun _ _ => rfl)) pe_int))) (pss_cons (ps_set (i := 3) sc_L_hand.nd rfl (.inl rfl) (pe_op op_mul (pe_op op_mod (pe_callB call_abs (by rfl) B.abs (by decide +kernel) (pa_cons (pv 2) pa_nil)) (pe_op op_mulW (pe_op op_pow pe_int pe_int) (pe_op op_pow pe_int pe_int))) (pe_callTy call_int1 (by rfl) B.int (by decide +kernel) (pa_cons (pe_cmpR op_ge (pe_callB call_abs (by rfl) B.abs (by decide +kernel) (pa_cons (pv 2) pa_nil)) (pe_op op_pow pe_int pe_int) (nomark _)) pa_nil)))) (pss_one (ps_ret (pe_lst (pa_cons (pv 3) (pa_cons (pe_op op_add (pe_op op_add (pe_op op_mod (pv 2) pe_int) (pe_op op_mul pe_int (pv 1))) pe_int) (pa_cons pe_int pa_nil)))))))), ?_⟩
    refine ⟨fun v H' => H' = H ∧ ∃ c : Int, v = .int c, ?_, fun v H' hv => ?_⟩
    · refine ⟨.int k, rfl, .ref a, rfl, a, _, rfl, .inl hS, k, _, rfl, rfl, _, rfl, iteD (fun c => ?_) (fun c => ?_)⟩
      · exact ⟨.ref a, rfl, .int k, rfl, a, _, k, _, rfl, rfl, hS, at_int hk0 (by rw [List.length_map] at c; exact c), rfl, _, rfl⟩
      · exact ⟨rfl, 0, rfl⟩
    · obtain ⟨rfl, c, rfl⟩ := hv
      refine ⟨.int c, rfl, c, rfl, 10, 60, rfl, rfl, ⟨by decide, by decide, by decide⟩, 10, 60, rfl, rfl, ⟨by decide, by decide, by decide⟩, _, _, rfl, rfl, wide_mul (a := 300) (b := 300) (by decide) (by decide) (by decide) (by decide) (by decide), _, _, rfl, rfl, (by show (0 : Int) < 10 ^ 60 * 10 ^ 60; decide), ?_⟩
      refine ⟨.int c, rfl, c, rfl, 10, 18, rfl, rfl, ⟨by decide, by decide, by decide⟩, _, _, rfl, rfl, .inr ⟨_, rfl, ?_⟩⟩
      have h01 : ∀ z : Bool, (0 : Int) ≤ (if z = true then 1 else 0) ∧ (if z = true then (1 : Int) else 0) ≤ 1 := by
        intro z
        cases z <;> decide
      refine ⟨_, _, rfl, rfl, .inr ⟨by have := h01 (decide ((10 : Int) ^ (18 : Int).toNat ≤ if c < 0 then -c else c)); omega, by have := h01 (decide ((10 : Int) ^ (18 : Int).toNat ≤ if c < 0 then -c else c)); omega⟩, ?_⟩
      refine ⟨_, rfl, .int c, rfl, c, 2305843009213693951, rfl, rfl, (by show (0 : Int) < 2305843009213693951; decide), .int k, rfl, 104729, k, rfl, rfl, .inl ⟨by decide, by decide⟩, _, _, rfl, rfl, _, 7, rfl, rfl, (by show 3 ≤ sizeLine; decide), fun p np => ?_⟩
      refine q p _ _ np (Int.mul_nonneg (Int.emod_nonneg _ (by show (10 : Int) ^ 60 * 10 ^ 60 ≠ 0; decide)) (h01 _).1) ?_
      have : 0 ≤ c % 2305843009213693951 := Int.emod_nonneg _ (by decide)
      omega
theorem ok_of {f : Addr} {fd : FuncData} (F : Fun K "_law_of" "_law_of" s_L_of f fd) (gF : mg "_law_of" = some (.ref f)) (b : Binds K fd ["_law_hand_here", "_law_some"] []) (B : Bl mg) (c_L_take : Cal P w K mg base 1 "_law_take" spTake) : Cal P w K mg base 2 "_law_of" (spOf K) := by
  refine ⟨f, fd, _, F.ok sc_L_of (fun vs H Q E h => ?_) (fun cdv A outer s H vs Q E hr h => ?_), gF, F.kp, b⟩
  · obtain ⟨a, m, n, _, rfl, _⟩ := h
    rfl
  · obtain ⟨a, l, xs, n, rfl, hal, hl, h0, h1, hh, hn, q⟩ := h
    refine ⟨_, (pss_one (ps_ret (pe_ix ix_list (pv 1) (pe_c c_L_take hr (by omega) (by rfl) (pa_cons (pv 0) (pa_cons (pe_callB call_len_seq (by rfl) B.len PySem.boot_len (pa_cons (pv 1) pa_nil)) pa_nil))) (fun _ _ => rfl)))), ?_⟩
    refine ⟨.ref l, rfl, .ref a, rfl, .ref l, rfl, l, _, rfl, .inl (SqL.of hl), ?_⟩
    refine ⟨a, _, n, rfl, by omega, by omega, hh, hn, fun H' r bt hh' r0 r1 => ?_⟩
    have hl' : H' l = some (.lst xs) := bt _ _ (Ne.symm hal) hl
    obtain ⟨v, hv, hm⟩ := at_mem (xs := xs) r0 r1
    exact ⟨l, _, r, v, rfl, rfl, SqL.of hl', hv, q _ _ bt hh' hm⟩
theorem ok_figure {f : Addr} {fd : FuncData} (F : Fun K "_law_figure" "_law_figure" s_L_figure f fd) (gF : mg "_law_figure" = some (.ref f)) (b : Binds K fd ["_law_hand_here"] []) (B : Bl mg) (c_L_take : Cal P w K mg base 1 "_law_take" spTake) (c_L_of : Cal P w K mg base 2 "_law_of" (spOf K)) : Cal P w K mg base 3 "_law_figure" spFigure := by
  refine ⟨f, fd, _, F.ok sc_L_figure (fun vs H Q E h => ?_) (fun cdv A outer s H vs Q E hr h => ?_), gF, F.kp, b⟩
  · obtain ⟨a, m, rfl, _⟩ := h
    rfl
  · obtain ⟨a, n, rfl, hh, hn, q⟩ := h
    refine ⟨_, (pss_cons (ps_set (i := 1) sc_L_figure.nd rfl (.inl rfl) (pe_lst (pa_cons pe_int (pa_cons pe_int (pa_cons (pe_un un_neg pe_int) (pa_cons pe_int (pa_cons pe_int (pa_cons pe_int (pa_cons pe_int (pa_cons (pe_un un_neg pe_int) (pa_cons pe_int (pa_cons (pe_un un_neg pe_int) pa_nil)))))))))))) (pss_one (ps_ret (pe_c c_L_of hr (by omega) (by rfl) (pa_cons (pv 0) (pa_cons (pe_op op_cat (pv 1) (pe_lst (pa_cons (pe_op op_sub (pe_c c_L_take hr (by omega) (by rfl) (pa_cons (pv 0) (pa_cons pe_int pa_nil))) pe_int) (pa_cons (pe_op op_sub (pe_c c_L_take hr (by omega) (by rfl) (pa_cons (pv 0) (pa_cons pe_int pa_nil))) pe_int) pa_nil)))) pa_nil)))))), ?_⟩
    refine ⟨_, rfl, _, rfl, _, rfl, (by show 10 ≤ sizeLine; decide), fun l nl => ?_⟩
    have hla := hh.ne nl
    have hl : (upd H l (.lst [.int 0, .int 1, .int (-1), .int 50, .int 100, .int 250, .int 500, .int (-500), .int 1000, .int (-1000)])) l = _ := upd_same
    refine ⟨.ref a, rfl, .ref l, rfl, .ref a, rfl, a, 2001, n, rfl, by decide, by decide, hh.new nl, by omega, fun H1 r1 b1 hh1 r10 r11 => ⟨_, _, rfl, rfl, ?_⟩⟩
    refine ⟨.ref a, rfl, a, 201, n + 1, rfl, by decide, by decide, hh1, by omega, fun H2 r2 b2 hh2 r20 r21 => ⟨_, _, rfl, rfl, ?_⟩⟩
    refine ⟨(by show 2 ≤ sizeLine; decide), fun l2 nl2 => ?_⟩
    have hl2a := hh2.ne nl2
    have e1 : H2 l = some (.lst [.int 0, .int 1, .int (-1), .int 50, .int 100, .int 250, .int 500, .int (-500), .int 1000, .int (-1000)]) := b2 _ _ hla (b1 _ _ hla hl)
    refine ⟨l, l2, _, _, rfl, rfl, by rw [upd_ne (ne_of_none e1 nl2)]; exact e1, upd_same, (by show 12 ≤ sizeLine; decide), fun l3 nl3 => ?_⟩
    have hh3 := (hh2.new (o := .lst [.int (r1 - 1000), .int (r2 - 100)]) nl2)
    refine ⟨a, l3, _, n + 2, rfl, (hh3.ne nl3).symm, upd_same, (by show 0 < 12; decide), (by show 12 ≤ 1000; decide), hh3.new nl3, by omega, fun H4 v b4 hh4 hv => ?_⟩
    have bb : But a H H4 := (((((But.new nl).trans b1).trans b2).trans (But.new nl2)).trans (But.new nl3)).trans b4
    have key : ∃ c : Int, v = .int c ∧ -1000 ≤ c ∧ c ≤ 1000 := by
      simp only [List.cons_append, List.nil_append, List.mem_cons, List.not_mem_nil, or_false] at hv
      rcases hv with rfl | rfl | rfl | rfl | rfl | rfl | rfl | rfl | rfl | rfl | rfl | rfl
      all_goals exact ⟨_, rfl, by omega, by omega⟩
    obtain ⟨c, rfl, c0, c1⟩ := key
    exact q _ _ bb hh4 c0 c1
end
end NG

namespace NG
open PySem PySem.Spec PyProof.Rows L2
theorem wn_ne {o : W4} {s : Str} (h : s = "fig" ∨ s = "reg" ∨ s = "share" ∨ s = "times" ∨ s = "by" ∨ s = "when" ∨ s = "where") : decide (V.str (wn o) = V.str s) = false := by
  rcases h with rfl | rfl | rfl | rfl | rfl | rfl | rfl <;> cases o <;> decide
end NG

namespace NG
open PySem PySem.Spec PyProof.Rows L2
section
variable {P : Program} {w : World} {K : PySem.W.Frag} {mg : Str → Option Value} {base : Heap}
theorem ok_leaf {f : Addr} {fd : FuncData} (F : Fun K "_law_leaf" "_law_leaf" s_L_leaf f fd) (gF : mg "_law_leaf" = some (.ref f)) (b : Binds K fd ["_law_hand_here", "_law_wide"] []) (B : Bl mg) (c_L_take : Cal P w K mg base 1 "_law_take" spTake) (c_L_figure : Cal P w K mg base 3 "_law_figure" spFigure) : Cal P w K mg base 4 "_law_leaf" (spLeaf K) := by
  refine ⟨f, fd, _, F.ok sc_L_leaf (fun vs H Q E h => ?_) (fun cdv A outer s H vs Q E hr h => ?_), gF, F.kp, b⟩
  · obtain ⟨_, _, _, rfl, _⟩ := h
    rfl
  · obtain ⟨a, many, n, rfl, hm1, hm2, hh, hn, q⟩ := h
    refine ⟨_, (pss_cons (ps_set (i := 2) sc_L_leaf.nd rfl (.inl rfl) (pe_c c_L_take hr (by omega) (by rfl) (pa_cons (pv 0) (pa_cons pe_int pa_nil)))) (pss_cons (ps_if (pt_cmpR op_eq (pv 2) pe_int (nomark _)) (pss_one (ps_ret (pe_tup (pa_cons pe_str (pa_cons (pe_c c_L_take hr (by omega) (by rfl) (pa_cons (pv 0) (pa_cons pe_int pa_nil))) pa_nil))))) pss_nil) (pss_one (ps_ret (pe_ifExp (pt_cmpR op_eq (pv 2) pe_int (nomark _)) (pe_tup (pa_cons pe_str (pa_cons (pe_c c_L_figure hr (by omega) (by rfl) (pa_cons (pv 0) pa_nil)) pa_nil))) (pe_tup (pa_cons pe_str (pa_cons (pe_c c_L_take hr (by omega) (by rfl) (pa_cons (pv 0) (pa_cons (pv 1) pa_nil))) pa_nil)))))))), ?_⟩
    refine ⟨.ref a, rfl, a, 4, n, rfl, by decide, by decide, hh, by omega, fun H1 r b1 hh1 r0 r1 => ?_⟩
    refine ⟨.int r, rfl, rfl, _, rfl, iteD (fun c => ?_) (fun c => ?_)⟩
    · refine ⟨.ref a, rfl, a, 4, n + 1, rfl, by decide, by decide, hh1, by omega, fun H2 r2 b2 hh2 r20 r21 => ⟨(by show 2 ≤ sizeLine; decide), fun p np => ?_⟩⟩
      refine q _ _ (.reg r2.toNat) ((b1.trans b2).trans (But.new np)) ((hh2.new np).le (by omega)) ⟨p, rfl, ?_⟩ (by show r2.toNat < 4; omega) (Nat.le_refl _)
      rw [Int.toNat_of_nonneg r20]
      exact SqT.of upd_same
    · refine ⟨.int r, rfl, rfl, _, rfl, iteD (fun c => ?_) (fun c => ?_)⟩
      · refine ⟨.ref a, rfl, a, n + 1, rfl, hh1, by omega, fun H2 r2 b2 hh2 r20 r21 => ⟨(by show 2 ≤ sizeLine; decide), fun p np => ?_⟩⟩
        exact q _ _ (.fig r2) ((b1.trans b2).trans (But.new np)) ((hh2.new np).le (by omega)) ⟨p, rfl, SqT.of upd_same⟩ ⟨r20, r21⟩ (Nat.le_refl _)
      · refine ⟨.ref a, rfl, .int (many : Int), rfl, a, _, n + 1, rfl, by omega, by omega, hh1, by omega, fun H2 r2 b2 hh2 r20 r21 => ⟨(by show 2 ≤ sizeLine; decide), fun p np => ?_⟩⟩
        refine q _ _ (.share r2.toNat) ((b1.trans b2).trans (But.new np)) ((hh2.new np).le (by omega)) ⟨p, rfl, ?_⟩ (by show r2.toNat < many; omega) (Nat.le_refl _)
        rw [Int.toNat_of_nonneg r20]
        exact SqT.of upd_same
def isW (s : Str) : Prop := s = "sum" ∨ s = "less" ∨ s = "least" ∨ s = "most" ∨ s = "times" ∨ s = "by" ∨ s = "when" ∨ s = "leaf" ∨ s = "where"
theorem ok_expr {f : Addr} {fd : FuncData} (F : Fun K "_law_expression" "_law_expression" s_L_expression f fd) (gF : mg "_law_expression" = some (.ref f)) (b : Binds K fd ["_law_hand_here", "_law_wide", "_law_level", "_law_jumps"] []) (B : Bl mg) (c_L_take : Cal P w K mg base 1 "_law_take" spTake) (c_L_of : Cal P w K mg base 2 "_law_of" (spOf K)) (c_L_figure : Cal P w K mg base 3 "_law_figure" spFigure) (c_L_leaf : Cal P w K mg base 4 "_law_leaf" (spLeaf K)) : ∀ n, Cal P w K mg base (n + 4) "_law_expression" (spExprJ K n) := by
  intro n
  induction n with
  | zero =>
    refine cal_never F gF b fun vs H Q E h => ?_
    obtain ⟨_, _, l, _, _, _, _, hl, _⟩ := h
    omega
  | succ n c_L_expression =>
  refine ⟨f, fd, _, F.ok sc_L_expression (fun vs H Q E h => ?_) (fun cdv A outer s H vs Q E hr h => ?_), gF, F.kp, b⟩
  · obtain ⟨_, _, _, _, _, rfl, _⟩ := h
    rfl
  · obtain ⟨a, many, l, k, j, rfl, hj, hl, hm1, hm2, hh, hk, q⟩ := h
    refine ⟨_, (pss_cons (ps_set (i := 4) sc_L_expression.nd rfl (.inl rfl) (pe_lst (pa_cons pe_str (pa_cons pe_str (pa_cons pe_str (pa_cons pe_str (pa_cons pe_str (pa_cons pe_str (pa_cons pe_str (pa_cons pe_str (pa_cons pe_str (pa_cons pe_str pa_nil)))))))))))) (pss_cons (ps_set (i := 4) sc_L_expression.nd rfl (.inl rfl) (pe_op op_cat (pv 4) (pe_op op_rep (pe_lst (pa_cons pe_str (pa_cons pe_str pa_nil))) (pv 3)))) (pss_cons (ps_set (i := 5) sc_L_expression.nd rfl (.inl rfl) (pe_cut (pe_ifExp (pt_cmpR op_eq (pv 2) pe_int (nomark _)) pe_str (pe_c c_L_of hr (by omega) (by rfl) (pa_cons (pv 0) (pa_cons (pv 4) pa_nil)))))) (pss_cons (ps_if (pt_cmpR op_eq (pv 5) pe_str (nomark _)) (pss_one (ps_ret (pe_c c_L_leaf hr (by omega) (by rfl) (pa_cons (pv 0) (pa_cons (pv 1) pa_nil))))) pss_nil) (pss_cons (ps_set (i := 6) sc_L_expression.nd rfl (.inl rfl) (pe_c c_L_expression hr (by omega) (by rfl) (pa_cons (pv 0) (pa_cons (pv 1) (pa_cons (pe_op op_sub (pv 2) pe_int) (pa_cons (pv 3) pa_nil)))))) (pss_cons (ps_if (pt_cmpR op_eq (pv 5) pe_str (nomark _)) (pss_one (ps_ret (pe_tup (pa_cons (pv 5) (pa_cons (pe_op op_sub (pe_c c_L_take hr (by omega) (by rfl) (pa_cons (pv 0) (pa_cons pe_int pa_nil))) pe_int) (pa_cons (pv 6) pa_nil)))))) pss_nil) (pss_cons (ps_if (pt_cmpR op_eq (pv 5) pe_str (nomark _)) (pss_one (ps_ret (pe_tup (pa_cons (pv 5) (pa_cons (pe_c c_L_take hr (by omega) (by rfl) (pa_cons (pv 0) (pa_cons pe_int pa_nil))) (pa_cons (pv 6) pa_nil)))))) pss_nil) (pss_cons (ps_set (i := 7) sc_L_expression.nd rfl (.inl rfl) (pe_c c_L_expression hr (by omega) (by rfl) (pa_cons (pv 0) (pa_cons (pv 1) (pa_cons (pe_op op_sub (pv 2) pe_int) (pa_cons (pv 3) pa_nil)))))) (pss_cons (ps_if (pt_cmpR op_eq (pv 5) pe_str (nomark _)) (pss_one (ps_ret (pe_tup (pa_cons (pv 5) (pa_cons (pe_c c_L_take hr (by omega) (by rfl) (pa_cons (pv 0) (pa_cons pe_int pa_nil))) (pa_cons (pe_c c_L_figure hr (by omega) (by rfl) (pa_cons (pv 0) pa_nil)) (pa_cons (pv 6) (pa_cons (pv 7) pa_nil)))))))) pss_nil) (pss_cons (ps_if (pt_cmpR op_eq (pv 5) pe_str (nomark _)) (pss_cons (ps_set (i := 8) sc_L_expression.nd rfl (.inl rfl) (pe_c c_L_of hr (by omega) (by rfl) (pa_cons (pv 0) (pa_cons (pe_lst (pa_cons pe_int (pa_cons pe_int (pa_cons pe_int (pa_cons pe_int (pa_cons pe_int (pa_cons (pe_op op_add pe_int (pe_c c_L_take hr (by omega) (by rfl) (pa_cons (pv 0) (pa_cons pe_int pa_nil)))) pa_nil))))))) pa_nil)))) (pss_one (ps_ret (pe_tup (pa_cons (pv 5) (pa_cons (pe_c c_L_take hr (by omega) (by rfl) (pa_cons (pv 0) (pa_cons (pv 1) pa_nil))) (pa_cons (pv 8) (pa_cons (pv 6) (pa_cons (pv 7) pa_nil))))))))) pss_nil) (pss_one (ps_ret (pe_tup (pa_cons (pv 5) (pa_cons (pv 6) (pa_cons (pv 7) pa_nil)))))))))))))))), ?_⟩
    refine ⟨(by show 10 ≤ sizeLine; decide), fun p1 n1 => ?_⟩
    have hh1 := hh.new (o := .lst [.str "sum", .str "less", .str "least", .str "most", .str "least", .str "most", .str "times", .str "by", .str "when", .str "leaf"]) n1
    refine ⟨.ref p1, rfl, (by show 2 ≤ sizeLine; decide), fun p2 n2 => ?_⟩
    have e1 : (upd H p1 (.lst [.str "sum", .str "less", .str "least", .str "most", .str "least", .str "most", .str "times", .str "by", .str "when", .str "leaf"])) p1 = _ := upd_same
    have hh2 := hh1.new (o := .lst [.str "where", .str "where"]) n2
    refine ⟨.int (j : Int), rfl, p2, (j : Int), _, rfl, rfl, upd_same, by omega, by omega, Nat.le_of_lt (small1000 (by show 2 * ((j : Int)).toNat ≤ 1000; omega)), fun p3 n3 => ?_⟩
    have hws : ∀ v ∈ (List.replicate ((j : Int)).toNat [V.str "where", V.str "where"]).flatten, v = V.str "where" := by
      intro v hv
      obtain ⟨l, hl, hv⟩ := List.mem_flatten.mp hv
      rw [(List.mem_replicate.mp hl).2] at hv
      simp only [List.mem_cons, List.not_mem_nil, or_false] at hv
      rcases hv with h | h <;> exact h
    have hwl : ((List.replicate ((j : Int)).toNat [V.str "where", V.str "where"]).flatten).length ≤ 2 := by
      have : j = 0 ∨ j = 1 := by omega
      rcases this with rfl | rfl <;> decide
    generalize (List.replicate ((j : Int)).toNat [V.str "where", V.str "where"]).flatten = ws at n3 hws hwl ⊢
    have hh3 := hh2.new (o := .lst ws) n3
    have e2 : (upd (upd H p1 (.lst [.str "sum", .str "less", .str "least", .str "most", .str "least", .str "most", .str "times", .str "by", .str "when", .str "leaf"])) p2 (.lst [.str "where", .str "where"])) p1 = _ := (upd_ne (ne_of_none e1 n2)).trans e1
    refine ⟨p1, p3, _, _, rfl, rfl, (upd_ne (ne_of_none e2 n3)).trans e2, upd_same, Nat.le_of_lt (small1000 (by show 10 + ws.length ≤ 1000; omega)), fun p4 n4 => ?_⟩
    have hh4 := hh3.new (o := .lst ([.str "sum", .str "less", .str "least", .str "most", .str "least", .str "most", .str "times", .str "by", .str "when", .str "leaf"] ++ ws)) n4
    have b4 : But a H _ := (((But.new (a := a) n1).trans (But.new n2)).trans (But.new n3)).trans (But.new (o := .lst ([.str "sum", .str "less", .str "least", .str "most", .str "least", .str "most", .str "times", .str "by", .str "when", .str "leaf"] ++ ws)) n4)
    have ne4 := hh3.ne n4
    -- the word
    refine ⟨fun v H' => But a H H' ∧ HandAt H' a (k + 1) ∧ ∃ s : Str, v = .str s ∧ isW s ∧ (l = 0 → s = "leaf"), ?_, fun v H5 hv => ?_⟩
    · refine ⟨.int (l : Int), rfl, rfl, _, rfl, iteD (fun c => ?_) (fun c => ?_)⟩
      · exact ⟨b4, hh4.le (by omega), _, rfl, by unfold isW; simp, fun _ => rfl⟩
      · refine ⟨.ref a, rfl, .ref p4, rfl, a, p4, _, k, rfl, ne4.symm, upd_same, (by rw [List.length_append]; show 0 < 10 + ws.length; omega), (by rw [List.length_append]; show 10 + ws.length ≤ 1000; omega), hh4, by omega, fun H5 v b5 hh5 hv => ⟨b4.trans b5, hh5, ?_⟩⟩
        have hl0 : l ≠ 0 := fun z => c (by rw [z]; rfl)
        have key : ∃ s : Str, v = .str s ∧ isW s := by
          rcases List.mem_append.mp hv with hv | hv
          · simp only [List.mem_cons, List.not_mem_nil, or_false] at hv
            rcases hv with rfl | rfl | rfl | rfl | rfl | rfl | rfl | rfl | rfl | rfl
            all_goals exact ⟨_, rfl, by unfold isW; simp⟩
          · exact ⟨_, hws v hv, by unfold isW; simp⟩
        obtain ⟨s, rfl, hs⟩ := key
        exact ⟨s, rfl, hs, fun z => absurd z hl0⟩
    obtain ⟨b5, hh5, sw, rfl, hw, hl0⟩ := hv
    refine ⟨.str sw, rfl, rfl, _, rfl, iteD (fun c => ?_) (fun c => ?_)⟩
    · refine ⟨.ref a, rfl, .int (many : Int), rfl, a, many, k + 1, rfl, hm1, hm2, hh5, by have := cost_ge l; omega, fun H6 v e b6 hh6 he ho hd => ?_⟩
      exact q _ _ e (b5.trans b6) (hh6.le (by have := cost_ge l; omega)) he ho (by omega)
    · have hsl : sw ≠ "leaf" := fun z => c (by rw [z])
      obtain ⟨l', rfl⟩ : ∃ l', l = l' + 1 := by
        cases l with
        | zero => exact absurd (hl0 rfl) hsl
        | succ l' => exact ⟨l', rfl⟩
      have hcost : cost (l' + 1) = 2 * cost l' + 20 := rfl
      have elev : V.int (((l' + 1 : Nat) : Int) - 1) = V.int (l' : Int) := by
        congr 1
        omega
      refine ⟨.ref a, rfl, .int (many : Int), rfl, .int ((l' + 1 : Nat) : Int), rfl, _, 1, rfl, rfl, .int (j : Int), rfl, a, many, l', k + 1, j, (by show [V.ref a, V.int (many : Int), V.int (((l' + 1 : Nat) : Int) - 1), V.int (j : Int)] = _; rw [elev]), hj, by omega, hm1, hm2, hh5, by omega, fun H6 x e1 b6 hh6 he1 ho1 hd1 => ?_⟩
      have b06 := b5.trans b6
      -- times
      refine ⟨.str sw, rfl, rfl, _, rfl, iteD (fun c => ?_) (fun ct => ?_)⟩
      · have c : sw = "times" := V.str.inj c
        subst c
        refine ⟨_, rfl, .ref a, rfl, a, 19, _, rfl, by decide, by decide, hh6, by omega, fun H7 r b7 hh7 r0 r1 => ⟨_, 9, rfl, rfl, x, rfl, (by show 3 ≤ sizeLine; decide), fun p np => ?_⟩⟩
        exact q _ _ (.times (r - 9) e1) ((b06.trans b7).trans (But.new np)) ((hh7.new np).le (by omega)) ⟨p, x, rfl, SqT.of upd_same, (he1.but b7 hh6).new np⟩ ⟨⟨by omega, by omega⟩, ho1⟩ (by show e1.dep + 1 ≤ _; omega)
      -- by
      refine ⟨.str sw, rfl, rfl, _, rfl, iteD (fun c => ?_) (fun cb => ?_)⟩
      · have c : sw = "by" := V.str.inj c
        subst c
        refine ⟨_, rfl, .ref a, rfl, a, 4, _, rfl, by decide, by decide, hh6, by omega, fun H7 r b7 hh7 r0 r1 => ⟨x, rfl, (by show 3 ≤ sizeLine; decide), fun p np => ?_⟩⟩
        refine q _ _ (.by r.toNat e1) ((b06.trans b7).trans (But.new np)) ((hh7.new np).le (by omega)) ⟨p, x, rfl, ?_, (he1.but b7 hh6).new np⟩ ⟨by omega, ho1⟩ (by show e1.dep + 1 ≤ _; omega)
        rw [Int.toNat_of_nonneg r0]
        exact SqT.of upd_same
      -- the other part
      refine ⟨.ref a, rfl, .int (many : Int), rfl, .int ((l' + 1 : Nat) : Int), rfl, _, 1, rfl, rfl, .int (j : Int), rfl, a, many, l', k + 1 + cost l', j, (by show [V.ref a, V.int (many : Int), V.int (((l' + 1 : Nat) : Int) - 1), V.int (j : Int)] = _; rw [elev]), hj, by omega, hm1, hm2, hh6, by omega, fun H7 y e2 b7 hh7 he2 ho2 hd2 => ?_⟩
      have b07 := b06.trans b7
      have he1 := he1.but b7 hh6
      -- when
      refine ⟨.str sw, rfl, rfl, _, rfl, iteD (fun c => ?_) (fun cw => ?_)⟩
      · have c : sw = "when" := V.str.inj c
        subst c
        refine ⟨_, rfl, .ref a, rfl, a, 4, _, rfl, by decide, by decide, hh7, by omega, fun H8 r b8 hh8 r0 r1 => ⟨.ref a, rfl, a, _, rfl, hh8, by omega, fun H9 cc b9 hh9 c0 c1 => ⟨x, rfl, y, rfl, (by show 5 ≤ sizeLine; decide), fun p np => ?_⟩⟩⟩
        refine q _ _ (.when r.toNat cc e1 e2) (((b07.trans b8).trans b9).trans (But.new np)) ((hh9.new np).le (by omega)) ⟨p, x, y, rfl, ?_, ((he1.but b8 hh7).but b9 hh8).new np, ((he2.but b8 hh7).but b9 hh8).new np⟩ ⟨by omega, ⟨c0, c1⟩, ho1, ho2⟩ (by show max e1.dep e2.dep + 1 ≤ _; omega)
        rw [Int.toNat_of_nonneg r0]
        exact SqT.of upd_same
      -- where
      refine ⟨.str sw, rfl, rfl, _, rfl, iteD (fun c => ?_) (fun cr => ?_)⟩
      · have c : sw = "where" := V.str.inj c
        subst c
        refine ⟨.ref a, rfl, .ref a, rfl, a, 1000, _, rfl, by decide, by decide, hh7, by omega, fun H8 r b8 hh8 r0 r1 => ⟨1, _, rfl, rfl, (by show 6 ≤ sizeLine; decide), fun p5 n5 => ?_⟩⟩
        have hh9 := hh8.new (o := .lst [.int 1, .int 250, .int 333, .int 500, .int 1000, .int (1 + r)]) n5
        refine ⟨a, p5, _, _, rfl, (hh8.ne n5).symm, upd_same, (by show 0 < 6; decide), (by show 6 ≤ 1000; decide), hh9, by omega, fun H10 v b10 hh10 hv => ?_⟩
        have key : ∃ cc : Int, v = .int cc ∧ 1 ≤ cc ∧ cc ≤ 1000 := by
          have hv : v ∈ ([.int 1, .int 250, .int 333, .int 500, .int 1000, .int (1 + r)] : List V) := hv
          simp only [List.mem_cons, List.not_mem_nil, or_false] at hv
          rcases hv with rfl | rfl | rfl | rfl | rfl | rfl
          all_goals exact ⟨_, rfl, by omega, by omega⟩
        obtain ⟨cc, rfl, c0, c1⟩ := key
        refine ⟨_, rfl, .ref a, rfl, .int (many : Int), rfl, a, many, _, rfl, by omega, by omega, hh10, by omega, fun H11 j b11 hh11 j0 j1 => ⟨_, rfl, x, rfl, y, rfl, (by show 5 ≤ sizeLine; decide), fun p np => ?_⟩⟩
        refine q _ _ (.whr j.toNat cc e1 e2) (((((b07.trans b8).trans (But.new n5)).trans b10).trans b11).trans (But.new np)) ((hh11.new np).le (by omega)) ⟨p, x, y, rfl, ?_, ((((he1.but b8 hh7).new n5).but b10 hh9).but b11 hh10).new np, ((((he2.but b8 hh7).new n5).but b10 hh9).but b11 hh10).new np⟩ ⟨by omega, ⟨c0, c1⟩, ho1, ho2⟩ (by show max e1.dep e2.dep + 1 ≤ _; omega)
        rw [Int.toNat_of_nonneg j0]
        exact SqT.of upd_same
      -- the others
      refine ⟨_, rfl, x, rfl, y, rfl, (by show 3 ≤ sizeLine; decide), fun p np => ?_⟩
      have key : ∃ o : W4, sw = wn o := by
        rcases hw with rfl | rfl | rfl | rfl | rfl | rfl | rfl | rfl | rfl
        · exact ⟨.sum, rfl⟩
        · exact ⟨.less, rfl⟩
        · exact ⟨.least, rfl⟩
        · exact ⟨.most, rfl⟩
        · exact absurd rfl ct
        · exact absurd rfl cb
        · exact absurd rfl cw
        · exact absurd rfl hsl
        · exact absurd rfl cr
      obtain ⟨o, rfl⟩ := key
      exact q _ _ (.two o e1 e2) (b07.trans (But.new np)) ((hh7.new np).le (by omega)) ⟨p, x, y, rfl, SqT.of upd_same, he1.new np, he2.new np⟩ ⟨ho1, ho2⟩ (by show max e1.dep e2.dep + 1 ≤ _; omega)
end
end NG

namespace NG
open PySem PySem.Spec PyProof.Rows L2
section
variable {P : Program} {w : World} {K : PySem.W.Frag} {mg : Str → Option Value} {base : Heap}
theorem ok_low {f : Addr} {fd : FuncData} (F : Fun K "_law_lowest" "_law_lowest" s_L_lowest f fd) (gF : mg "_law_lowest" = some (.ref f)) (b : Binds K fd ["_law_row"] []) (B : Bl mg) : Cal P w K mg base 1 "_law_lowest" (spLow K) := by
  refine ⟨f, fd, _, F.ok sc_L_lowest (fun vs H Q E h => ?_) (fun cdv A outer s H vs Q E hr h => ?_), gF, F.kp, b⟩
  · obtain ⟨_, _, _, rfl, _⟩ := h
    rfl
  · obtain ⟨p, ns, y, rfl, hp, hb, hl, hy, py, q⟩ := h
    refine ⟨_, (pss_cons (ps_set (i := 1) sc_L_lowest.nd rfl (.inr rfl) pe_int) (pss_cons (ps_for PassesOwn.never rfl (pi_list (pv 0)) (pg_name (i := 2) sc_L_lowest.nd rfl (.inl rfl)) (pss_one (ps_while PassesOwn.never (pt_cmpR op_ne (pv 2) pe_int (nomark _)) (pss_one (ps_asg (pe_tup (pa_cons (pv 2) (pa_cons (pe_op op_mod (pv 1) (pv 2)) pa_nil))) (pg_tup rfl (pgs_cons (pg_name (i := 1) sc_L_lowest.nd rfl (.inr rfl)) (pgs_cons (pg_name (i := 2) sc_L_lowest.nd rfl (.inl rfl)) pgs_nil)))))))) (pss_one (ps_ret (pe_tupleOf (by rfl) B.tuple (pe_lc (own := [("_law_number", 2)]) rfl sc_L_lowest.nd (pi_list (pv 0)) (blkOk_by (N := N_L_lowest) (sc := defScope s_L_lowest) (by decide +kernel)) (fun _ _ _ _ _ => pg_name (i := 2) sc_L_lowest.nd rfl (.inl rfl)) (fun _ _ _ _ _ => pts_nil) (fun _ _ _ _ _ => pe_op op_fdivW (pv 2) (pv 1)))))))), ?_⟩
    refine ⟨.ref p, rfl, p, rfl, ⟨_, SqL.of hp⟩, for_list (xs := ns.map V.int) (fun i σ H' => ∃ y2, σ = [some (.ref p), some (.int (gl (ns.take i) : Int)), y2] ∧ Same H H') ⟨none, rfl, Same.refl _⟩ ?_ ?_ ?_⟩
    · rintro i σ H' hi ⟨y2, rfl, sm⟩
      exact SqL.of (sm _ _ hp)
    · rintro i x σ H' hx ⟨y2, rfl, sm⟩
      rw [List.getElem?_map] at hx
      cases hn : ns[i]? with
      | none => rw [hn] at hx; cases hx
      | some z =>
        rw [hn] at hx
        have ex : V.int z = x := Option.some.inj hx
        subst ex
        have hz := hb z (List.mem_of_getElem? hn)
        refine ⟨fun m σ H' => ∃ u : Nat, σ = [some (.ref p), some (.int (u : Int)), some (.int (m : Int))] ∧ Nat.gcd u m = gl (ns.take (i + 1)) ∧ Same H H', ⟨z.toNat, gl (ns.take i), ?_, (gl_step hn).symm, sm⟩, ?_⟩
        · show [some (.ref p), some (.int _), some (.int z)] = [some (V.ref p), _, _]
          rw [Int.toNat_of_nonneg hz.1]
        · rintro m σ H' ⟨u, rfl, hg, sm⟩
          refine ⟨.int (m : Int), rfl, rfl, _, rfl, ?_⟩
          by_cases h0 : m = 0
          · subst h0
            refine iteFF rfl ?_
            rw [Nat.gcd_zero_right] at hg
            rw [hg]
            exact ⟨_, rfl, sm⟩
          · have hne : ¬ V.int (m : Int) = V.int 0 := fun z => h0 (by have := V.int.inj z; omega)
            refine iteTT (by rw [decide_eq_false hne]; rfl) ?_
            refine ⟨fun σ' H' => ∃ u : Nat, σ' = [some (.ref p), some (.int (m : Int)), some (.int ((u % m : Nat) : Int))] ∧ Nat.gcd u m = gl (ns.take (i + 1)) ∧ Same H H', ?_, ?_⟩
            · rintro σ' H' ⟨u, rfl, hg, sm⟩
              exact ⟨u % m, Nat.mod_lt _ (by omega), m, rfl, by rw [gcd_turn]; exact hg, sm⟩
            · refine ⟨.int (m : Int), rfl, .int (u : Int), rfl, .int (m : Int), rfl, u, m, rfl, rfl, (by show (0 : Int) < m; omega), (by show 2 ≤ sizeLine; decide), fun t nt => ?_⟩
              exact ⟨t, _, rfl, SqT.of upd_same, rfl, _, _, rfl, _, _, rfl, rfl, u, rfl, hg, sm.trans (same_new nt)⟩
    · rintro σ H1 ⟨y2, rfl, sm⟩
      rw [List.length_map, List.take_length]
      have hg := gl_pos hy py
      refine ⟨.ref p, rfl, p, rfl, ⟨_, SqL.of (sm _ _ hp)⟩, fun D nD => lc_list (xs := ns.map V.int) (fun i H' => Same H H' ∧ H' D = some (.lst (((ns.take i).map fun x => x / (gl ns : Int)).map V.int))) ⟨sm.trans (same_new nD), upd_same⟩ (fun i H' _ h => SqL.of (h.1 _ _ hp)) ?_ ?_⟩
      · rintro i x H' hx ⟨sm', hD⟩
        rw [List.getElem?_map] at hx
        cases hn : ns[i]? with
        | none => rw [hn] at hx; cases hx
        | some z =>
          rw [hn] at hx
          have ex : V.int z = x := Option.some.inj hx
          subst ex
          have hgs : gl ns ≤ z.toNat ∨ z = 0 := by
            have hz := hb z (List.mem_of_getElem? hn)
            by_cases h0 : z = 0
            · exact .inr h0
            · exact .inl (Nat.le_of_dvd (by omega) (gl_dvd (List.mem_of_getElem? hn)))
          have hgy : gl ns ≤ y.toNat := Nat.le_of_dvd (by omega) (gl_dvd hy)
          have hyb := hb y hy
          refine ⟨rfl, tYes_in ?_⟩
          refine ⟨.int z, rfl, .int (gl ns : Int), rfl, z, (gl ns : Int), rfl, rfl, wide_div (b := 100) (by omega) (by omega) (by decide) (by decide), _, hD, ?_, ?_, ?_⟩
          · rw [List.length_map, List.length_map, List.length_take]
            exact small1000 (by omega)
          · exact fun b' o e => by
              rw [upd_ne (ne_of_none (sm _ _ e) nD)]
              exact sm' _ _ e
          · rw [upd_same, List.take_add_one, hn, List.map_append, List.map_append]
            rfl
      · rintro H' ⟨sm', hD⟩
        rw [List.length_map, List.take_length] at hD
        refine .inl ⟨D, _, rfl, SqL.of hD, fun t nt => ?_⟩
        obtain ⟨k1, k2, k3⟩ := low_sh hb hl hy py
        exact q _ _ (low ns) (sm'.trans (same_new nt)) ⟨t, rfl, SqT.of upd_same, by unfold low; rw [List.length_map], k1, k2, k3⟩
theorem ok_shares {f : Addr} {fd : FuncData} (F : Fun K "_law_shares" "_law_shares" s_L_shares f fd) (gF : mg "_law_shares" = some (.ref f)) (b : Binds K fd ["_law_hand_here", "_law_wide"] []) (B : Bl mg) (c_L_take : Cal P w K mg base 1 "_law_take" spTake) (c_L_of : Cal P w K mg base 2 "_law_of" (spOf K)) (c_L_lowest : Cal P w K mg base 1 "_law_lowest" (spLow K)) : Cal P w K mg base 3 "_law_shares" (spShares K) := by
  refine ⟨f, fd, _, F.ok sc_L_shares (fun vs H Q E h => ?_) (fun cdv A outer s H vs Q E hr h => ?_), gF, F.kp, b⟩
  · obtain ⟨_, _, _, rfl, _⟩ := h
    rfl
  · obtain ⟨a, many, n, rfl, hm1, hm2, hh, hn, q⟩ := h
    refine ⟨_, (pss_cons (ps_set (i := 2) sc_L_shares.nd rfl (.inl rfl) (pe_lst pa_nil)) (pss_cons (ps_for PassesOwn.never rfl (pi_range1 rfl B.range (pa_cons (pv 1) pa_nil)) (pg_name (i := 3) sc_L_shares.nd rfl (.inl rfl)) (pss_cons (ps_set (i := 4) sc_L_shares.nd rfl (.inl rfl) (pe_lst (pa_cons pe_int (pa_cons pe_int (pa_cons pe_int (pa_cons pe_int (pa_cons (pe_c c_L_take hr (by omega) (by rfl) (pa_cons (pv 0) (pa_cons pe_int pa_nil))) (pa_cons (pe_c c_L_take hr (by omega) (by rfl) (pa_cons (pv 0) (pa_cons pe_int pa_nil))) (pa_cons (pe_op op_add (pe_op op_pow pe_int pe_int) (pe_c c_L_take hr (by omega) (by rfl) (pa_cons (pv 0) (pa_cons pe_int pa_nil)))) pa_nil))))))))) (pss_one (ps_expr (pe_bm PySem.F.plainAttrs_list PySem.F.slot_list_append PySem.F.type_list_append mt_append (pv 2) (pa_cons (pe_c c_L_of hr (by omega) (by rfl) (pa_cons (pv 0) (pa_cons (pv 4) pa_nil))) pa_nil)))))) (C8.pss_cut (ps_if (pt_cmpR op_eq (pe_callB (cr_max rfl) (by rfl) B.max (by decide +kernel) (pa_cons (pv 2) pa_nil)) pe_int (nomark _)) (pss_one (ps_asg pe_int (pg_sub (pv 2) (pe_c c_L_take hr (by omega) (by rfl) (pa_cons (pv 0) (pa_cons (pv 1) pa_nil))) set_list))) pss_nil) (pss_one (ps_ret (pe_c c_L_lowest hr (by omega) (by rfl) (pa_cons (pv 2) pa_nil))))))), ?_⟩
    refine ⟨(by show 0 ≤ sizeLine; decide), fun l nl => ?_⟩
    have hla := hh.ne nl
    refine ⟨.int (many : Int), rfl, _, rfl, by omega, by omega, ?_⟩
    refine for_range (n := ((many : Int)).toNat) (fun i σ H' => ∃ y3 y4, ∃ ns : List Int, σ = [some (.ref a), some (.int (many : Int)), some (.ref l), y3, y4] ∧ But a H H' ∧ HandAt H' a (n + 4 * i) ∧ H' l = some (.lst (ns.map V.int)) ∧ ns.length = i ∧ ∀ x ∈ ns, 0 ≤ x ∧ x < 2 ^ 50) ⟨none, none, [], rfl, But.new nl, hh.new nl, upd_same, rfl, fun x h => by cases h⟩ ?_ ?_
    · rintro i σ H1 hi ⟨y3, y4, ns, rfl, b1, hh1, hl1, hlen, hb⟩
      have hi3 : i < 3 := by omega
      refine ⟨.ref a, rfl, a, 12, _, rfl, by decide, by decide, hh1, by omega, fun H2 r2 b2 hh2 r20 r21 => ?_⟩
      refine ⟨.ref a, rfl, a, 1001, _, rfl, by decide, by decide, hh2, by omega, fun H3 r3 b3 hh3 r30 r31 => ?_⟩
      refine ⟨10, 12, rfl, rfl, ⟨by decide, by decide, by decide⟩, .ref a, rfl, a, 9, _, rfl, by decide, by decide, hh3, by omega, fun H4 r4 b4 hh4 r40 r41 => ⟨_, _, rfl, rfl, (by show 7 ≤ sizeLine; decide), fun p np => ?_⟩⟩
      have hpa := hh4.ne np
      have e4 : H4 l = some (.lst (ns.map V.int)) := b4 _ _ hla (b3 _ _ hla (b2 _ _ hla hl1))
      have hpl : l ≠ p := ne_of_none e4 np
      have e5 : (upd H4 p (.lst [.int 0, .int 1, .int 1, .int 2, .int r2, .int r3, .int (10 ^ (12 : Int).toNat + r4)])) l = some (.lst (ns.map V.int)) := (upd_ne hpl).trans e4
      refine ⟨.ref l, rfl, .inl ⟨rfl, _, SqL.of e5⟩, .ref a, rfl, .ref p, rfl, a, p, _, _, rfl, hpa.symm, upd_same, (by show 0 < 7; decide), (by show 7 ≤ 1000; decide), hh4.new np, by omega, fun H6 v b6 hh6 hv => ?_⟩
      have key : ∃ c : Int, v = .int c ∧ 0 ≤ c ∧ c < 2 ^ 50 := by
        have hv : v ∈ ([.int 0, .int 1, .int 1, .int 2, .int r2, .int r3, .int (10 ^ 12 + r4)] : List V) := hv
        simp only [List.mem_cons, List.not_mem_nil, or_false] at hv
        rcases hv with rfl | rfl | rfl | rfl | rfl | rfl | rfl
        all_goals exact ⟨_, rfl, by omega, by omega⟩
      obtain ⟨c, rfl, c0, c1⟩ := key
      have e6 : H6 l = some (.lst (ns.map V.int)) := b6 _ _ hla e5
      refine ⟨l, _, _, rfl, rfl, e6, ?_, ?_⟩
      · rw [List.length_map]
        exact small1000 (by omega)
      · have bb : But a H H6 := ((((b1.trans b2).trans b3).trans b4).trans (But.new np)).trans b6
        refine ⟨_, _, ns ++ [c], rfl, fun b' o nb e => ?_, (hh6.put hla).le (by omega), ?_, ?_, ?_⟩
        · rw [upd_ne (ne_of_none e nl)]
          exact bb _ _ nb e
        · rw [upd_same, List.map_append]
          rfl
        · rw [List.length_append, hlen]
          rfl
        · intro x hx
          rcases List.mem_append.mp hx with hx | hx
          · exact hb x hx
          · rw [List.mem_singleton.mp hx]
            exact ⟨c0, c1⟩
    · rintro σ H1 ⟨y3, y4, ns, rfl, b1, hh1, hl1, hlen, hb⟩
      have hlen : ns.length = many := by omega
      have hh1 : HandAt H1 a (n + 12) := hh1.le (by omega)
      refine ⟨fun σ H' => ∃ y3 y4, ∃ ns : List Int, ∃ y : Int, σ = [some (.ref a), some (.int (many : Int)), some (.ref l), y3, y4] ∧ But a H H' ∧ HandAt H' a (n + 13) ∧ H' l = some (.lst (ns.map V.int)) ∧ ns.length = many ∧ (∀ x ∈ ns, 0 ≤ x ∧ x < 2 ^ 50) ∧ y ∈ ns ∧ 0 < y, ?_, ?_⟩
      · refine ⟨.ref l, rfl, l, ns, rfl, SqL.of hl1, by omega, fun m hm hmax => ⟨rfl, _, rfl, iteD (fun c => ?_) (fun c => ?_)⟩⟩
        · refine ⟨.ref l, rfl, .ref a, rfl, .int (many : Int), rfl, a, _, _, rfl, by omega, by omega, hh1, by omega, fun H2 r b2 hh2 r0 r1 => ?_⟩
          have e2 := b2 _ _ hla hl1
          refine ⟨l, _, r, _, rfl, rfl, e2, ixN_of r0 (by rw [List.length_map]; omega), ?_⟩
          have hj : r.toNat < ns.length := by omega
          refine ⟨_, _, ns.set r.toNat 1, 1, rfl, fun b' o nb e => ?_, hh2.put hla, ?_, ?_, fun x hx => ?_, ?_, by decide⟩
          · rw [upd_ne (ne_of_none e nl)]
            exact b2 _ _ nb (b1 _ _ nb e)
          · rw [upd_same, List.map_set]
          · rw [List.length_set]
            exact hlen
          · rcases List.mem_or_eq_of_mem_set hx with hx | rfl
            · exact hb x hx
            · exact ⟨by decide, by decide⟩
          · exact List.mem_iff_getElem.mpr ⟨r.toNat, by rw [List.length_set]; exact hj, List.getElem_set_self _⟩
        · have hm0 : m ≠ 0 := fun z => c (by rw [z])
          exact ⟨_, _, ns, m, rfl, b1, hh1.le (by omega), hl1, hlen, hb, hm, by have := hb m hm; omega⟩
      · rintro σ H2 ⟨y3, y4, ns, y, rfl, b2, hh2, hl2, hlen, hb, hy, py⟩
        refine ⟨.ref l, rfl, l, ns, y, rfl, hl2, hb, by omega, hy, py, fun H3 v ms sm hv => ?_⟩
        rw [hlen] at hv
        obtain ⟨g, sd, m, e, z1, z2, z3, z4⟩ := hh2
        exact q _ _ ms (b2.trans (But.of sm)) ⟨g, sd, m, sm _ _ e, z1, z2, z3, by omega⟩ hv
theorem ok_regs {f : Addr} {fd : FuncData} (F : Fun K "_law_registers" "_law_registers" s_L_registers f fd) (gF : mg "_law_registers" = some (.ref f)) (b : Binds K fd ["_law_hand_here"] []) (B : Bl mg) (c_L_figure : Cal P w K mg base 3 "_law_figure" spFigure) : Cal P w K mg base 4 "_law_registers" (spRegs K) := by
  refine ⟨f, fd, _, F.ok sc_L_registers (fun vs H Q E h => ?_) (fun cdv A outer s H vs Q E hr h => ?_), gF, F.kp, b⟩
  · obtain ⟨_, _, rfl, _⟩ := h
    rfl
  · obtain ⟨a, n, rfl, hh, hn, q⟩ := h
    refine ⟨_, (pss_one (ps_ret (pe_tupleOf (by rfl) B.tuple (pe_lc (own := [("_law_turn", 1)]) rfl sc_L_registers.nd (pi_range1 rfl B.range (pa_cons pe_int pa_nil)) (blkOk_by (N := N_L_registers) (sc := defScope s_L_registers) (by decide +kernel)) (fun _ _ _ _ _ => pg_name (i := 1) sc_L_registers.nd rfl (.inl rfl)) (fun _ _ _ _ _ => pts_nil) (fun _ _ _ _ _ => pe_c c_L_figure hr (by omega) (by rfl) (pa_cons (pv 0) pa_nil)))))), ?_⟩
    refine ⟨4, rfl, by decide, by decide, fun D nD => lc_range (n := (4 : Int).toNat) (fun i H' => ∃ rs : List Int, But a H H' ∧ HandAt H' a (n + 3 * i) ∧ H' D = some (.lst (rs.map V.int)) ∧ rs.length = i ∧ ∀ x ∈ rs, -1000 ≤ x ∧ x ≤ 1000) ⟨[], But.new nD, hh.new nD, upd_same, rfl, fun x h => by cases h⟩ ?_ ?_⟩
    · rintro i H1 hi ⟨rs, b1, hh1, hD, hlen, hb⟩
      have hi4 : i < 4 := hi
      have hDa := hh.ne nD
      refine ⟨rfl, tYes_in ?_⟩
      refine ⟨.ref a, rfl, a, _, rfl, hh1, by omega, fun H2 c b2 hh2 c0 c1 => ⟨_, b2 _ _ hDa hD, ?_, ?_⟩⟩
      · rw [List.length_map]
        exact small1000 (by omega)
      · refine ⟨rs ++ [c], fun b' o nb e => ?_, (hh2.put hDa).le (by omega), ?_, ?_, ?_⟩
        · rw [upd_ne (ne_of_none e nD)]
          exact b2 _ _ nb (b1 _ _ nb e)
        · rw [upd_same, List.map_append]
          rfl
        · rw [List.length_append, hlen]
          rfl
        · intro x hx
          rcases List.mem_append.mp hx with hx | hx
          · exact hb x hx
          · rw [List.mem_singleton.mp hx]
            exact ⟨c0, c1⟩
    · rintro H1 ⟨rs, b1, hh1, hD, hlen, hb⟩
      refine .inl ⟨D, _, rfl, SqL.of hD, fun t nt => ?_⟩
      exact q _ _ rs (b1.trans (But.new nt)) (hh1.new nt) ⟨t, rfl, SqT.of upd_same, hlen, hb⟩
end
end NG

namespace NG
open PySem PySem.Spec PyProof.Rows L2
section
variable {P : Program} {w : World} {K : PySem.W.Frag} {mg : Str → Option Value} {base : Heap}
theorem ok_stake {f : Addr} {fd : FuncData} (F : Fun K "_law_stake" "_law_stake" s_L_stake f fd) (gF : mg "_law_stake" = some (.ref f)) (b : Binds K fd ["_law_hand_here", "_law_wide", "_law_level", "_law_jumps"] []) (B : Bl mg) (c_L_take : Cal P w K mg base 1 "_law_take" spTake) (c_L_of : Cal P w K mg base 2 "_law_of" (spOf K)) {m : Nat} (c_L_expression : Cal P w K mg base (m + 4) "_law_expression" (spExprJ K m)) : Cal P w K mg base (m + 5) "_law_stake" (spStake K m) := by
  refine ⟨f, fd, _, F.ok sc_L_stake (fun vs H Q E h => ?_) (fun cdv A outer s H vs Q E hr h => ?_), gF, F.kp, b⟩
  · obtain ⟨_, _, _, _, _, rfl, _⟩ := h
    rfl
  · obtain ⟨a, many, l, n, j, rfl, hj, hl, hm1, hm2, hh, hn, q⟩ := h
    refine ⟨_, (pss_cons (ps_set (i := 4) sc_L_stake.nd rfl (.inl rfl) (pe_c c_L_of hr (by omega) (by rfl) (pa_cons (pv 0) (pa_cons (pe_lst (pa_cons pe_int (pa_cons pe_int (pa_cons pe_int (pa_cons pe_int (pa_cons (pe_op op_add pe_int (pe_c c_L_take hr (by omega) (by rfl) (pa_cons (pv 0) (pa_cons pe_int pa_nil)))) pa_nil)))))) pa_nil)))) (pss_cons (ps_if (pt_cmpR op_eq (pe_c c_L_take hr (by omega) (by rfl) (pa_cons (pv 0) (pa_cons pe_int pa_nil))) pe_int (nomark _)) (pss_one (ps_ret (pe_tup (pa_cons pe_str (pa_cons (pe_c c_L_of hr (by omega) (by rfl) (pa_cons (pv 0) (pa_cons (pe_lst (pa_cons pe_int (pa_cons pe_int (pa_cons (pv 4) (pa_cons (pe_un un_neg (pv 4)) pa_nil))))) pa_nil))) pa_nil))))) pss_nil) (pss_cons (ps_set (i := 5) sc_L_stake.nd rfl (.inl rfl) (pe_tup (pa_cons pe_str (pa_cons (pe_tup (pa_cons pe_str (pa_cons (pe_un un_neg (pv 4)) pa_nil))) (pa_cons (pe_c c_L_expression hr (by omega) (by rfl) (pa_cons (pv 0) (pa_cons (pv 1) (pa_cons (pv 2) (pa_cons (pv 3) pa_nil))))) pa_nil))))) (pss_one (ps_ret (pe_tup (pa_cons pe_str (pa_cons (pe_tup (pa_cons pe_str (pa_cons (pv 4) pa_nil))) (pa_cons (pv 5) pa_nil))))))))), ?_⟩
    have two_le : 2 ≤ sizeLine := by decide
    have three_le : 3 ≤ sizeLine := by decide
    have hcl := cost_ge l
    refine ⟨.ref a, rfl, .ref a, rfl, a, 500, n, rfl, by decide, by decide, hh, by omega, fun H1 r b1 hh1 r0 r1 => ⟨1, r, rfl, rfl, (by show 5 ≤ sizeLine; decide), fun p1 n1 => ?_⟩⟩
    have ne1 := hh1.ne n1
    refine ⟨a, p1, _, n + 1, rfl, ne1.symm, upd_same, (by show 0 < 5; decide), (by show 5 ≤ 1000; decide), hh1.new n1, by omega, fun H2 v b2 hh2 hv => ?_⟩
    have key : ∃ c : Int, v = .int c ∧ 1 ≤ c ∧ c ≤ 500 := by
      have hv : v ∈ ([.int 500, .int 125, .int 50, .int 1, .int (1 + r)] : List V) := hv
      simp only [List.mem_cons, List.not_mem_nil, or_false] at hv
      rcases hv with rfl | rfl | rfl | rfl | rfl
      all_goals exact ⟨_, rfl, by omega, by omega⟩
    obtain ⟨c, rfl, c0, c1⟩ := key
    have b02 := (b1.trans (But.new n1)).trans b2
    refine ⟨.ref a, rfl, a, 4, _, rfl, by decide, by decide, hh2, by omega, fun H3 z b3 hh3 z0 z1 => ⟨rfl, _, rfl, iteD (fun cz => ?_) (fun cz => ?_)⟩⟩
    · refine ⟨.ref a, rfl, .int c, rfl, .int c, rfl, c, rfl, (by show 4 ≤ sizeLine; decide), fun p2 n2 => ?_⟩
      have ne2 := hh3.ne n2
      refine ⟨a, p2, _, _, rfl, ne2.symm, upd_same, (by show 0 < 4; decide), (by show 4 ≤ 1000; decide), hh3.new n2, by omega, fun H4 v b4 hh4 hv => ⟨two_le, fun p3 n3 => ?_⟩⟩
      have key : ∃ c : Int, v = .int c ∧ -500 ≤ c ∧ c ≤ 500 := by
        have hv : v ∈ ([.int 0, .int 0, .int c, .int (-c)] : List V) := hv
        simp only [List.mem_cons, List.not_mem_nil, or_false] at hv
        rcases hv with rfl | rfl | rfl | rfl
        all_goals exact ⟨_, rfl, by omega, by omega⟩
      obtain ⟨x, rfl, x0, x1⟩ := key
      exact q _ _ (.fig x) ((((b02.trans b3).trans (But.new n2)).trans b4).trans (But.new n3)) ((hh4.new n3).le (by omega)) ⟨p3, rfl, SqT.of upd_same⟩ ⟨by omega, by omega⟩ (by show 1 ≤ l + 3; omega) (.inl ⟨x, rfl, x0, x1⟩)
    · refine ⟨.int c, rfl, c, rfl, two_le, fun p4 n4 => ?_⟩
      have hh4 := hh3.new (o := .tup [.str "fig", .int (-c)]) n4
      have h4 : (upd H3 p4 (.tup [.str "fig", .int (-c)])) p4 = some (.tup [.str "fig", .int (-c)]) := upd_same
      have b4 := (b02.trans b3).trans (But.new (o := .tup [.str "fig", .int (-c)]) n4)
      generalize upd H3 p4 (.tup [.str "fig", .int (-c)]) = H4 at hh4 h4 b4
      refine ⟨.ref a, rfl, .int (many : Int), rfl, .int (l : Int), rfl, .int (j : Int), rfl, a, many, l, _, j, rfl, hj, hl, hm1, hm2, hh4, by omega, fun H5 v e b5 hh5 he ho hd => ⟨three_le, fun p5 n5 => ?_⟩⟩
      have h5 : ExAt K H5 (.fig (-c)) (.ref p4) := ⟨p4, rfl, b5.sq hh4 (SqT.of h4)⟩
      have hh6 := hh5.new (o := .tup [.str "most", .ref p4, v]) n5
      have hi6 : ExAt K (upd H5 p5 (.tup [.str "most", .ref p4, v])) (.two .most (.fig (-c)) e) (.ref p5) := ⟨p5, .ref p4, v, rfl, SqT.of upd_same, h5.new n5, he.new n5⟩
      have b6 := (b4.trans b5).trans (But.new (o := .tup [.str "most", .ref p4, v]) n5)
      generalize upd H5 p5 (.tup [.str "most", .ref p4, v]) = H6 at hh6 hi6 b6
      refine ⟨.int c, rfl, two_le, fun p7 n7 => ⟨.ref p5, rfl, three_le, fun p8 n8 => ?_⟩⟩
      have hh7 := hh6.new (o := .tup [.str "fig", .int c]) n7
      have h7 : ExAt K (upd H6 p7 (.tup [.str "fig", .int c])) (.fig c) (.ref p7) := ⟨p7, rfl, SqT.of upd_same⟩
      have hi7 := hi6.new (o := .tup [.str "fig", .int c]) n7
      refine q _ _ (.two .least (.fig c) (.two .most (.fig (-c)) e)) ((b6.trans (But.new n7)).trans (But.new n8)) ((hh7.new n8).le (by omega)) ⟨p8, .ref p7, .ref p5, rfl, SqT.of upd_same, h7.new n8, hi7.new n8⟩ ⟨⟨by omega, by omega⟩, ⟨by omega, by omega⟩, ho⟩ ?_ (.inr ⟨c, e, rfl, c0, c1, ho, hd⟩)
      show max 1 (max 1 e.dep + 1) + 1 ≤ l + 3
      omega
theorem ok_deeds {f : Addr} {fd : FuncData} (F : Fun K "_law_deeds" "_law_deeds" s_L_deeds f fd) (gF : mg "_law_deeds" = some (.ref f)) (b : Binds K fd ["_law_hand_here", "_law_wide", "_law_deep"] []) (B : Bl mg) (c_L_take : Cal P w K mg base 1 "_law_take" spTake) (c_L_of : Cal P w K mg base 2 "_law_of" (spOf K)) (c_L_figure : Cal P w K mg base 3 "_law_figure" spFigure) : ∀ n, Cal P w K mg base (n + 4) "_law_deeds" (spDeeds K n) := by
  intro n
  induction n with
  | zero =>
    refine cal_never F gF b fun vs H Q E h => ?_
    obtain ⟨_, _, l, _, _, hl, _⟩ := h
    omega
  | succ m c_L_deeds =>
  refine ⟨f, fd, _, F.ok sc_L_deeds (fun vs H Q E h => ?_) (fun cdv A outer s H vs Q E hr h => ?_), gF, F.kp, b⟩
  · obtain ⟨_, _, _, _, rfl, _⟩ := h
    rfl
  · obtain ⟨a, many, l, n, rfl, hl, hl3, hm1, hm2, hh, hn, q⟩ := h
    refine ⟨_, (pss_cons (ps_set (i := 3) sc_L_deeds.nd rfl (.inl rfl) (pe_lst pa_nil)) (pss_cons (ps_for PassesOwn.never rfl (pi_range1 rfl B.range (pa_cons (pe_c c_L_take hr (by omega) (by rfl) (pa_cons (pv 0) (pa_cons pe_int pa_nil))) pa_nil)) (pg_name (i := 4) sc_L_deeds.nd rfl (.inl rfl)) (pss_cons (ps_par (i := 5) (j := 6) rfl sc_L_deeds.nd rfl rfl (by decide) rfl rfl (pa_cons (pe_c c_L_take hr (by omega) (by rfl) (pa_cons (pv 0) (pa_cons pe_int pa_nil))) (pa_cons (pe_c c_L_of hr (by omega) (by rfl) (pa_cons (pv 0) (pa_cons (pe_lst (pa_cons pe_str (pa_cons pe_str (pa_cons pe_str (pa_cons pe_str (pa_cons pe_str (pa_cons pe_str pa_nil))))))) pa_nil))) pa_nil)) (by rfl)) (pss_one (ps_if (pt_cmpR op_in_seq (pv 6) (pe_tup (pa_cons pe_str (pa_cons pe_str pa_nil))) (by rfl)) (pss_one (ps_expr (pe_bm PySem.F.plainAttrs_list PySem.F.slot_list_append PySem.F.type_list_append mt_append (pv 3) (pa_cons (pe_tup (pa_cons (pv 6) (pa_cons (pv 5) (pa_cons (pe_c c_L_figure hr (by omega) (by rfl) (pa_cons (pv 0) pa_nil)) pa_nil)))) pa_nil)))) (pss_one (ps_if (pt_cmpR op_in_seq (pv 6) (pe_tup (pa_cons pe_str (pa_cons pe_str pa_nil))) (by rfl)) (pss_one (ps_expr (pe_bm PySem.F.plainAttrs_list PySem.F.slot_list_append PySem.F.type_list_append mt_append (pv 3) (pa_cons (pe_tup (pa_cons (pv 6) (pa_cons (pv 5) (pa_cons (pe_c c_L_take hr (by omega) (by rfl) (pa_cons (pv 0) (pa_cons pe_int pa_nil))) pa_nil)))) pa_nil)))) (pss_one (ps_expr (pe_bm PySem.F.plainAttrs_list PySem.F.slot_list_append PySem.F.type_list_append mt_append (pv 3) (pa_cons (pe_tup (pa_cons (pv 6) (pa_cons (pv 5) (pa_cons (pe_c c_L_take hr (by omega) (by rfl) (pa_cons (pv 0) (pa_cons (pv 1) pa_nil))) pa_nil)))) pa_nil)))))))))) (C8.pss_cut (ps_if (PW.pt (pw_and (pt_cmpR op_gt (pv 2) pe_int (nomark _)) (pw_and1 (pt_cmpR op_eq (pe_c c_L_take hr (by omega) (by rfl) (pa_cons (pv 0) (pa_cons pe_int pa_nil))) pe_int (nomark _))))) (pss_cons (ps_setLc (i := 7) (own := [("_law_turn", 4)]) rfl sc_L_deeds.nd rfl rfl (sw_true rfl rfl rfl (by decide +kernel)) (pi_range1 rfl B.range (pa_cons pe_int pa_nil)) (blkOk_by (N := N_L_deeds) (sc := defScope s_L_deeds) (by decide +kernel)) (fun _ _ _ _ _ => pg_name (i := 4) sc_L_deeds.nd rfl (.inl rfl)) (fun _ _ _ _ _ => pts_nil) (fun _ _ _ _ _ => pe_c c_L_deeds hr (by omega) (by rfl) (pa_cons (pv 0) (pa_cons (pv 1) (pa_cons (pe_op op_sub (pv 2) pe_int) pa_nil))))) (pss_one (ps_expr (pe_bm PySem.F.plainAttrs_list PySem.F.slot_list_append PySem.F.type_list_append mt_append (pv 3) (pa_cons (pe_tup (pa_cons pe_str (pa_cons (pe_c c_L_take hr (by omega) (by rfl) (pa_cons (pv 0) (pa_cons pe_int pa_nil))) (pa_cons (pe_c c_L_figure hr (by omega) (by rfl) (pa_cons (pv 0) pa_nil)) (pa_cons (pe_ix ix_list (pv 7) pe_int (fun _ _ => rfl)) (pa_cons (pe_ix ix_list (pv 7) pe_int (fun _ _ => rfl)) pa_nil)))))) pa_nil))))) pss_nil) (pss_one (ps_ret (pe_tupleOf (by rfl) B.tuple (pv 3))))))), ?_⟩
    have two_le : 2 ≤ sizeLine := by decide
    have three_le : 3 ≤ sizeLine := by decide
    have hBg := dB_ge l
    have hCg := dC_ge l
    have hCl : dC l ≤ 52 := by
      have : l = 0 ∨ l = 1 ∨ l = 2 ∨ l = 3 := by omega
      rcases this with rfl | rfl | rfl | rfl <;> decide
    refine ⟨(by show 0 ≤ sizeLine; decide), fun g ng => ?_⟩
    have hga := hh.ne ng
    refine ⟨.ref a, rfl, a, 4, n, rfl, by decide, by decide, hh.new ng, by omega, fun H0 t0 b0 hh0 t00 t01 => ⟨t0, rfl, by omega, by omega, ?_⟩⟩
    have hg0 := b0 _ _ hga (upd_same (o := .lst []))
    have bb0 : But a H H0 := (But.new ng).trans b0
    refine for_range (n := t0.toNat) (fun i σ H' => ∃ y4 y5 y6 us d, σ = [some (.ref a), some (.int (many : Int)), some (.int (l : Int)), some (.ref g), y4, y5, y6, none] ∧ But a H H' ∧ HandAt H' a (n + 1 + 5 * i) ∧ H' g = some (.lst us) ∧ DsAt K H' d us ∧ DsOk many d ∧ d.dep ≤ 1 ∧ d.cnt ≤ i) ⟨none, none, none, [], .nil, rfl, bb0, hh0, hg0, rfl, trivial, by decide, Nat.le_refl _⟩ ?_ ?_
    · rintro i σ H1 hi ⟨y4, y5, y6, us, d, rfl, b1, hh1, hg1, hd1, ho1, hdp, hdc⟩
      have hi3 : i < 3 := by omega
      have hul : us.length ≤ 3 := by
        have h1 := hd1.len
        have h2 := d.len_le
        omega
      refine ⟨.ref a, rfl, a, 4, _, rfl, by decide, by decide, hh1, by omega, fun H2 r b2 hh2 r0 r1 => ⟨.ref a, rfl, (by show 6 ≤ sizeLine; decide), fun p1 n1 => ?_⟩⟩
      have ne1 := hh2.ne n1
      refine ⟨a, p1, _, _, rfl, ne1.symm, upd_same, (by show 0 < 6; decide), (by show 6 ≤ 1000; decide), hh2.new n1, by omega, fun H3 v b3 hh3 hv => ⟨_, _, rfl, ?_⟩⟩
      have key : ∃ dw : D5, v = .str (dn dw) := by
        have hv : v ∈ ([.str "put", .str "add", .str "copy", .str "plus", .str "told", .str "add"] : List V) := hv
        simp only [List.mem_cons, List.not_mem_nil, or_false] at hv
        rcases hv with rfl | rfl | rfl | rfl | rfl | rfl
        · exact ⟨.put, rfl⟩
        · exact ⟨.add, rfl⟩
        · exact ⟨.copy, rfl⟩
        · exact ⟨.plus, rfl⟩
        · exact ⟨.told, rfl⟩
        · exact ⟨.add, rfl⟩
      obtain ⟨dw, rfl⟩ := key
      have b13 : But a H1 H3 := (b2.trans (But.new n1)).trans b3
      obtain ⟨r, rfl⟩ : ∃ r' : Nat, r = (r' : Int) := ⟨r.toNat, by omega⟩
      have fin : ∀ (x : Int) (Hx : Hp) (k : Nat), But a H1 Hx → HandAt Hx a k → k ≤ n + 1 + 5 * (i + 1) → xok many dw x → ∀ t, Hx t = none →
          ∃ xs, (upd Hx t (.tup [.str (dn dw), .int (r : Int), .int x])) g = some (.lst xs) ∧ xs.length < sizeLine ∧ ∃ y4 y5 y6 us d, ([some (.ref a), some (.int (many : Int)), some (.int (l : Int)), some (.ref g), some (.int (0 + (i : Int))), some (.int (r : Int)), some (.str (dn dw)), none] : L2.St) = [some (.ref a), some (.int (many : Int)), some (.int (l : Int)), some (.ref g), y4, y5, y6, none] ∧ But a H (upd (upd Hx t (.tup [.str (dn dw), .int (r : Int), .int x])) g (.lst (xs ++ [.ref t]))) ∧ HandAt (upd (upd Hx t (.tup [.str (dn dw), .int (r : Int), .int x])) g (.lst (xs ++ [.ref t]))) a (n + 1 + 5 * (i + 1)) ∧ (upd (upd Hx t (.tup [.str (dn dw), .int (r : Int), .int x])) g (.lst (xs ++ [.ref t]))) g = some (.lst us) ∧ DsAt K (upd (upd Hx t (.tup [.str (dn dw), .int (r : Int), .int x])) g (.lst (xs ++ [.ref t]))) d us ∧ DsOk many d ∧ d.dep ≤ 1 ∧ d.cnt ≤ i + 1 := by
        intro x Hx k bx hx hk ok t nt
        have hgx := bx _ _ hga hg1
        have smt := same_new (o := .tup [.str (dn dw), .int (r : Int), .int x]) nt
        have htt : (upd Hx t (.tup [.str (dn dw), .int (r : Int), .int x])) t = some (.tup [.str (dn dw), .int (r : Int), .int x]) := upd_same
        have hht := hx.new (o := .tup [.str (dn dw), .int (r : Int), .int x]) nt
        have hgt := smt _ _ hgx
        have hdt := (hd1.imp fun _ _ q => bx.sq hh1 q).same smt
        have bt := b1.trans (bx.trans (But.of smt))
        clear smt
        generalize upd Hx t (.tup [.str (dn dw), .int (r : Int), .int x]) = Ht at htt hht hgt hdt bt
        refine ⟨us, hgt, small1000 (by omega), _, _, _, us ++ [.ref t], d.app (.op dw r x .nil), rfl, fun b' o nb eb => ?_, (hht.put hga).le hk, upd_same, ?_, ho1.app ⟨by omega, ok, trivial⟩, ?_, ?_⟩
        · rw [upd_ne (ne_of_none eb ng)]
          exact bt _ _ nb eb
        · exact (DsAt.app (e := .op dw r x .nil) (ws := [.ref t]) hdt ⟨t, [], rfl, SqT.of htt, rfl⟩).imp fun _ _ q => put_sqt hgt q
        · rw [Ds.dep_app]
          show max d.dep (max 1 0) ≤ 1
          omega
        · rw [Ds.cnt_app]
          show d.cnt + (1 + 0) ≤ i + 1
          omega
      have tails : ∀ (x : Int) (Hx : Hp) (k : Nat), But a H1 Hx → HandAt Hx a k → k ≤ n + 1 + 5 * (i + 1) → xok many dw x → ∀ t, Hx t = none → _ := fin
      have hg3 := b13 _ _ hga hg1
      have go2 : ∀ (tq : Addr) (nq : H3 tq = none) (o : HO), But a H1 (upd H3 tq o) ∧ HandAt (upd H3 tq o) a (n + 1 + 5 * i + 1 + 1) ∧ (upd H3 tq o) g = some (.lst us) := fun tq nq o => ⟨b13.trans (But.new nq), hh3.new nq, (same_new nq) _ _ hg3⟩
      cases dw with
      | put =>
        refine ⟨_, rfl, two_le, fun t1 nt1 => ⟨t1, _, rfl, .inr (SqT.of upd_same), rfl, rfl, _, rfl, iteTT rfl ?_⟩⟩
        obtain ⟨bq, hq, gq⟩ := go2 t1 nt1 (.tup [.str "put", .str "add"])
        refine ⟨.ref g, rfl, .inl ⟨rfl, _, SqL.of gq⟩, _, rfl, .int (r : Int), rfl, .ref a, rfl, a, _, rfl, hq, by omega, fun H5 x b5 hh5 x0 x1 => ⟨three_le, fun t nt => ?_⟩⟩
        obtain ⟨xs, e1, e2, e3⟩ := fin x H5 _ (bq.trans b5) hh5 (by omega) ⟨x0, x1⟩ t nt
        exact ⟨g, xs, _, rfl, rfl, e1, e2, e3⟩
      | add =>
        refine ⟨_, rfl, two_le, fun t1 nt1 => ⟨t1, _, rfl, .inr (SqT.of upd_same), rfl, rfl, _, rfl, iteTT rfl ?_⟩⟩
        obtain ⟨bq, hq, gq⟩ := go2 t1 nt1 (.tup [.str "put", .str "add"])
        refine ⟨.ref g, rfl, .inl ⟨rfl, _, SqL.of gq⟩, _, rfl, .int (r : Int), rfl, .ref a, rfl, a, _, rfl, hq, by omega, fun H5 x b5 hh5 x0 x1 => ⟨three_le, fun t nt => ?_⟩⟩
        obtain ⟨xs, e1, e2, e3⟩ := fin x H5 _ (bq.trans b5) hh5 (by omega) ⟨x0, x1⟩ t nt
        exact ⟨g, xs, _, rfl, rfl, e1, e2, e3⟩
      | copy =>
        refine ⟨_, rfl, two_le, fun t1 nt1 => ⟨t1, _, rfl, .inr (SqT.of upd_same), rfl, rfl, _, rfl, iteFF rfl ?_⟩⟩
        obtain ⟨bq, hq, gq⟩ := go2 t1 nt1 (.tup [.str "put", .str "add"])
        refine ⟨_, rfl, two_le, fun t2 nt2 => ⟨t2, _, rfl, .inr (SqT.of upd_same), rfl, rfl, _, rfl, iteTT rfl ?_⟩⟩
        have gq2 := (same_new (o := .tup [.str "copy", .str "plus"]) nt2) _ _ gq
        refine ⟨.ref g, rfl, .inl ⟨rfl, _, SqL.of gq2⟩, _, rfl, .int (r : Int), rfl, .ref a, rfl, a, 4, _, rfl, by decide, by decide, hq.new nt2, by omega, fun H5 x b5 hh5 x0 x1 => ⟨three_le, fun t nt => ?_⟩⟩
        obtain ⟨xs, e1, e2, e3⟩ := fin x H5 _ ((bq.trans (But.new nt2)).trans b5) hh5 (by omega) ⟨x0, x1⟩ t nt
        exact ⟨g, xs, _, rfl, rfl, e1, e2, e3⟩
      | plus =>
        refine ⟨_, rfl, two_le, fun t1 nt1 => ⟨t1, _, rfl, .inr (SqT.of upd_same), rfl, rfl, _, rfl, iteFF rfl ?_⟩⟩
        obtain ⟨bq, hq, gq⟩ := go2 t1 nt1 (.tup [.str "put", .str "add"])
        refine ⟨_, rfl, two_le, fun t2 nt2 => ⟨t2, _, rfl, .inr (SqT.of upd_same), rfl, rfl, _, rfl, iteTT rfl ?_⟩⟩
        have gq2 := (same_new (o := .tup [.str "copy", .str "plus"]) nt2) _ _ gq
        refine ⟨.ref g, rfl, .inl ⟨rfl, _, SqL.of gq2⟩, _, rfl, .int (r : Int), rfl, .ref a, rfl, a, 4, _, rfl, by decide, by decide, hq.new nt2, by omega, fun H5 x b5 hh5 x0 x1 => ⟨three_le, fun t nt => ?_⟩⟩
        obtain ⟨xs, e1, e2, e3⟩ := fin x H5 _ ((bq.trans (But.new nt2)).trans b5) hh5 (by omega) ⟨x0, x1⟩ t nt
        exact ⟨g, xs, _, rfl, rfl, e1, e2, e3⟩
      | told =>
        refine ⟨_, rfl, two_le, fun t1 nt1 => ⟨t1, _, rfl, .inr (SqT.of upd_same), rfl, rfl, _, rfl, iteFF rfl ?_⟩⟩
        obtain ⟨bq, hq, gq⟩ := go2 t1 nt1 (.tup [.str "put", .str "add"])
        refine ⟨_, rfl, two_le, fun t2 nt2 => ⟨t2, _, rfl, .inr (SqT.of upd_same), rfl, rfl, _, rfl, iteFF rfl ?_⟩⟩
        have gq2 := (same_new (o := .tup [.str "copy", .str "plus"]) nt2) _ _ gq
        refine ⟨.ref g, rfl, .inl ⟨rfl, _, SqL.of gq2⟩, _, rfl, .int (r : Int), rfl, .ref a, rfl, .int (many : Int), rfl, a, many, _, rfl, by omega, by omega, hq.new nt2, by omega, fun H5 x b5 hh5 x0 x1 => ⟨three_le, fun t nt => ?_⟩⟩
        obtain ⟨xs, e1, e2, e3⟩ := fin x H5 _ ((bq.trans (But.new nt2)).trans b5) hh5 (by omega) ⟨x0, x1⟩ t nt
        exact ⟨g, xs, _, rfl, rfl, e1, e2, e3⟩
    · rintro σ H1 ⟨y4, y5, y6, us, d, rfl, b1, hh1, hg1, hd1, ho1, hdp, hdc⟩
      have hh1 : HandAt H1 a (n + 16) := hh1.le (by omega)
      have hdc : d.cnt ≤ 3 := by omega
      have hul : us.length ≤ 3 := by
        have h1 := hd1.len
        have h2 := d.len_le
        omega
      refine ⟨fun σ H' => ∃ y4 y5 y6 y7 us d, σ = [some (.ref a), some (.int (many : Int)), some (.int (l : Int)), some (.ref g), y4, y5, y6, y7] ∧ But a H H' ∧ HandAt H' a (n + dB l) ∧ H' g = some (.lst us) ∧ DsAt K H' d us ∧ DsOk many d ∧ d.dep ≤ l + 1 ∧ d.cnt ≤ dC l, ?_, ?_⟩
      · refine ⟨.int (l : Int), rfl, _, _, rfl, rfl, _, rfl, iteD (fun c => ?_) (fun c => ?_)⟩
        · obtain ⟨l', rfl⟩ : ∃ l', l = l' + 1 := ⟨l - 1, by omega⟩
          have eB : dB (l' + 1) = 2 * dB l' + 30 := rfl
          have eC : dC (l' + 1) = 2 * dC l' + 4 := rfl
          refine ⟨.ref a, rfl, a, 3, _, rfl, by decide, by decide, hh1, by omega, fun H2 z b2 hh2 z0 z1 => ⟨rfl, _, rfl, iteD (fun cz => ?_) (fun cz => ?_)⟩⟩
          · have hg2 := b2 _ _ hga hg1
            refine ⟨2, rfl, by decide, by decide, fun D nD => lc_range (n := (2 : Int).toNat) (fun j H' => ∃ ws ds, But a H2 H' ∧ HandAt H' a (n + 17 + dB l' * j) ∧ H' D = some (.lst ws) ∧ BhAt K H' ws ds ∧ ds.length = j ∧ ∀ d ∈ ds, DsOk many d ∧ d.dep ≤ l' + 1 ∧ d.cnt ≤ dC l') ⟨[], [], But.new nD, hh2.new nD, upd_same, trivial, rfl, fun x h => by cases h⟩ ?_ ?_⟩
            · rintro j H5 hj ⟨ws, ds, b5, hh5, hD, hbh, hel, hes⟩
              have hj : j < 2 := hj
              have hDa : D ≠ a := hh2.ne nD
              have elev : V.int (((l' + 1 : Nat) : Int) - 1) = V.int (l' : Int) := by
                congr 1
                omega
              have hjb : dB l' * j + dB l' ≤ 2 * dB l' := by
                have : j = 0 ∨ j = 1 := by omega
                rcases this with rfl | rfl <;> omega
              refine ⟨rfl, tYes_in ?_⟩
              refine ⟨.ref a, rfl, .int (many : Int), rfl, .int ((l' + 1 : Nat) : Int), rfl, _, 1, rfl, rfl, a, many, l', _, (by show [V.ref a, V.int (many : Int), V.int (((l' + 1 : Nat) : Int) - 1)] = _; rw [elev]), by omega, by omega, hm1, hm2, hh5, by omega, fun H6 p xs d b6 hh6 hp hd ho hdp hdc => ?_⟩
              have hD6 := b6 _ _ hDa hD
              have hwl := hbh.len
              refine ⟨ws, hD6, small1000 (by omega), ws ++ [.ref p], ds ++ [d], fun b' o nb eb => ?_, (hh6.le (by rw [Nat.mul_add]; omega)).put hDa, upd_same, BhAt.snoc (put_sqt hD6 hp) (hd.imp fun _ _ q => put_sqt hD6 q) ((hbh.imp fun _ _ q => b6.sq hh5 q).imp fun _ _ q => put_sqt hD6 q), by rw [List.length_append, hel]; rfl, fun e' he' => ?_⟩
              · rw [upd_ne (ne_of_none eb nD)]
                exact b6 _ _ nb (b5 _ _ nb eb)
              · rcases List.mem_append.mp he' with h | h
                · exact hes _ h
                · rw [List.mem_singleton.mp h]
                  exact ⟨ho, hdp, hdc⟩
            · rintro H5 ⟨ws, ds, b5, hh5, hD, hbh, hel, hes⟩
              have hel : ds.length = 2 := hel
              match ds, hel, hbh, hes with
              | [d1, d2], _, hbh, hes =>
              obtain ⟨w1, w2, rfl⟩ : ∃ w1 w2, ws = [w1, w2] := by
                have := hbh.len
                match ws, this with
                | [w1, w2], _ => exact ⟨w1, w2, rfl⟩
              obtain ⟨⟨p1, x1, rfl, q1, e1⟩, ⟨p2, x2, rfl, q2, e2⟩, _⟩ := hbh
              obtain ⟨k1, k2, k3⟩ := hes d1 (by simp)
              obtain ⟨m1, m2, m3⟩ := hes d2 (by simp)
              have hDa : D ≠ a := hh2.ne nD
              have hg5 := b5 _ _ hga hg2
              have hh5 : HandAt H5 a (n + 17 + dB l' * 2) := hh5
              refine ⟨.ref g, rfl, .inl ⟨rfl, _, SqL.of hg5⟩, .ref a, rfl, a, 4, _, rfl, by decide, by decide, hh5, by omega, fun H6 r b6 hh6 r0 r1 => ⟨.ref a, rfl, a, _, rfl, hh6, by omega, fun H7 x b7 hh7 x0 x1' => ?_⟩⟩
              have b57 := b6.trans b7
              have hD7 := b57 _ _ hDa hD
              refine ⟨.ref D, rfl, D, _, 0, _, rfl, rfl, SqL.of hD7, rfl, .ref D, rfl, D, _, 1, _, rfl, rfl, SqL.of hD7, rfl, (by show 5 ≤ sizeLine; decide), fun t nt => ?_⟩
              obtain ⟨r, rfl⟩ : ∃ r' : Nat, r = (r' : Int) := ⟨r.toNat, by omega⟩
              have smt := same_new (o := .tup [.str "when", .int (r : Int), .int x, .ref p1, .ref p2]) nt
              have htt : (upd H7 t (.tup [.str "when", .int (r : Int), .int x, .ref p1, .ref p2])) t = some (.tup [.str "when", .int (r : Int), .int x, .ref p1, .ref p2]) := upd_same
              have hht := hh7.new (o := .tup [.str "when", .int (r : Int), .int x, .ref p1, .ref p2]) nt
              have sq : ∀ p xs, SqT K H5 p xs → SqT K (upd H7 t (.tup [.str "when", .int (r : Int), .int x, .ref p1, .ref p2])) p xs := fun _ _ h => same_sqt smt (b7.sq hh6 (b6.sq hh5 h))
              have sq1 : ∀ p xs, SqT K H1 p xs → SqT K (upd H7 t (.tup [.str "when", .int (r : Int), .int x, .ref p1, .ref p2])) p xs := fun _ _ h => sq _ _ (b5.sq hh2 (b2.sq hh1 h))
              have hgt := smt _ _ (b57 _ _ hga hg5)
              have bt := ((b1.trans b2).trans (b5.trans b57)).trans (But.of smt)
              have new : DsAt K (upd H7 t (.tup [.str "when", .int (r : Int), .int x, .ref p1, .ref p2])) (.when r x d1 d2 .nil) [.ref t] := ⟨t, p1, p2, x1, x2, [], rfl, SqT.of htt, sq _ _ q1, e1.imp sq, sq _ _ q2, e2.imp sq, rfl⟩
              have hdt := DsAt.app (hd1.imp sq1) new
              clear new sq sq1 smt htt
              generalize upd H7 t (.tup [.str "when", .int (r : Int), .int x, .ref p1, .ref p2]) = Ht at hht hgt bt hdt
              refine ⟨g, us, _, rfl, rfl, hgt, small1000 (by omega), _, _, _, _, us ++ [.ref t], d.app (.when r x d1 d2 .nil), rfl, fun b' o nb eb => ?_, (hht.put hga).le (by omega), upd_same, hdt.imp fun _ _ q => put_sqt hgt q, ho1.app ⟨by omega, ⟨x0, x1'⟩, k1, m1, trivial⟩, ?_, ?_⟩
              · rw [upd_ne (ne_of_none eb ng)]
                exact bt _ _ nb eb
              · rw [Ds.dep_app]
                show max d.dep (max (max d1.dep d2.dep + 1) 0) ≤ l' + 1 + 1
                omega
              · rw [Ds.cnt_app]
                show d.cnt + (1 + (d1.cnt + d2.cnt) + 0) ≤ _
                omega
          · exact ⟨_, _, _, _, us, d, rfl, b1.trans b2, hh2.le (by omega), b2 _ _ hga hg1, hd1.imp fun _ _ q => b2.sq hh1 q, ho1, by omega, by omega⟩
        · exact ⟨_, _, _, _, us, d, rfl, b1, hh1.le (by omega), hg1, hd1, ho1, by omega, by omega⟩
      · rintro σ H2 ⟨y4, y5, y6, y7, us, d, rfl, b2, hh2, hg2, hd2, ho2, hdp2, hdc2⟩
        refine ⟨.ref g, rfl, .inl ⟨g, us, rfl, SqL.of hg2, fun t nt => ?_⟩⟩
        exact q _ t us d (b2.trans (But.new nt)) (hh2.new nt) (SqT.of upd_same) (hd2.same (same_new nt)) ho2 hdp2 hdc2
theorem ok_doubter {f : Addr} {fd : FuncData} (F : Fun K "_law_doubter" "_law_doubter" s_L_doubter f fd) (gF : mg "_law_doubter" = some (.ref f)) (b : Binds K fd ["_law_hand_here", "_law_wide", "_law_level", "_law_jumps"] []) (B : Bl mg) (c_L_take : Cal P w K mg base 1 "_law_take" spTake) (c_L_of : Cal P w K mg base 2 "_law_of" (spOf K)) (c_L_registers : Cal P w K mg base 4 "_law_registers" (spRegs K)) {m : Nat} (c_L_stake : Cal P w K mg base (m + 5) "_law_stake" (spStake K m)) (c_L_deeds : Cal P w K mg base 6 "_law_deeds" (spDeeds K 2)) : Cal P w K mg base (m + 7) "_law_doubter" (spDoubter K m) := by
  refine ⟨f, fd, _, F.ok sc_L_doubter (fun vs H Q E h => ?_) (fun cdv A outer s H vs Q E hr h => ?_), gF, F.kp, b⟩
  · obtain ⟨_, _, _, _, _, rfl, _⟩ := h
    rfl
  · obtain ⟨a, many, l, n, j, rfl, hj, hl, hl5, hm1, hm2, hh, hn, q⟩ := h
    refine ⟨_, (pss_cons (ps_par (i := 4) (j := 5) rfl sc_L_doubter.nd rfl rfl (by decide) rfl rfl (pa_cons (pe_c c_L_of hr (by omega) (by rfl) (pa_cons (pv 0) (pa_cons (pe_lst (pa_cons pe_str (pa_cons pe_str (pa_cons pe_str (pa_cons pe_str pa_nil))))) pa_nil))) (pa_cons (pe_c c_L_take hr (by omega) (by rfl) (pa_cons (pv 0) (pa_cons pe_int pa_nil))) pa_nil)) (by rfl)) (pss_cons (ps_set (i := 6) sc_L_doubter.nd rfl (.inl rfl) (pe_tupleOf (by rfl) B.tuple (pe_lc (own := [("_law_face", 7)]) rfl sc_L_doubter.nd (pi_range1 rfl B.range (pa_cons (pv 1) pa_nil)) (blkOk_by (N := N_L_doubter) (sc := defScope s_L_doubter) (by decide +kernel)) (fun _ _ _ _ _ => pg_name (i := 7) sc_L_doubter.nd rfl (.inl rfl)) (fun _ _ _ _ _ => pts_nil) (fun _ _ _ _ _ => pe_c c_L_stake hr (by omega) (by rfl) (pa_cons (pv 0) (pa_cons (pv 1) (pa_cons (pv 2) (pa_cons (pv 3) pa_nil)))))))) (pss_cons (ps_set (i := 8) sc_L_doubter.nd rfl (.inl rfl) (pe_tupleOf (by rfl) B.tuple (pe_lc (own := [("_law_face", 7)]) rfl sc_L_doubter.nd (pi_range1 rfl B.range (pa_cons (pv 1) pa_nil)) (blkOk_by (N := N_L_doubter) (sc := defScope s_L_doubter) (by decide +kernel)) (fun _ _ _ _ _ => pg_name (i := 7) sc_L_doubter.nd rfl (.inl rfl)) (fun _ _ _ _ _ => pts_nil) (fun _ _ _ _ _ => pe_c c_L_deeds hr (by omega) (by rfl) (pa_cons (pv 0) (pa_cons (pv 1) (pa_cons pe_int pa_nil))))))) (pss_one (ps_ret (pe_tup (pa_cons (pv 4) (pa_cons (pv 5) (pa_cons (pe_c c_L_registers hr (by omega) (by rfl) (pa_cons (pv 0) pa_nil)) (pa_cons (pv 6) (pa_cons (pv 8) pa_nil))))))))))), ?_⟩
    have hcl : cost l ≤ 900 := by
      have : l = 0 ∨ l = 1 ∨ l = 2 ∨ l = 3 ∨ l = 4 ∨ l = 5 := by omega
      rcases this with rfl | rfl | rfl | rfl | rfl | rfl <;> decide
    refine ⟨.ref a, rfl, (by show 4 ≤ sizeLine; decide), fun p1 n1 => ?_⟩
    have ne1 := hh.ne n1
    refine ⟨a, p1, _, n, rfl, ne1.symm, upd_same, (by show 0 < 4; decide), (by show 4 ≤ 1000; decide), hh.new n1, by omega, fun H1 nv b1 hh1 hv => ?_⟩
    have key : ∃ x : Str, nv = .str x ∧ (x = "a" ∨ x = "doubter" ∨ x = "sceptics" ∨ x = "zz") := by
      have hv : nv ∈ ([.str "a", .str "doubter", .str "sceptics", .str "zz"] : List V) := hv
      simp only [List.mem_cons, List.not_mem_nil, or_false] at hv
      rcases hv with rfl | rfl | rfl | rfl
      all_goals exact ⟨_, rfl, by simp⟩
    obtain ⟨nm, rfl, hnm⟩ := key
    refine ⟨.ref a, rfl, a, 5, _, rfl, by decide, by decide, hh1, by omega, fun H2 sc b2 hh2 s0 s1 => ⟨_, _, rfl, ?_⟩⟩
    obtain ⟨sc, rfl⟩ : ∃ r' : Nat, sc = (r' : Int) := ⟨sc.toNat, by omega⟩
    have b02 : But a H H2 := ((But.new n1).trans b1).trans b2
    refine ⟨.int (many : Int), rfl, _, rfl, by omega, by omega, fun D nD => lc_range (n := ((many : Int)).toNat) (fun i H' => ∃ us es, But a H2 H' ∧ HandAt H' a (n + 2 + (cost l + 3) * i) ∧ H' D = some (.lst us) ∧ RowsAt K H' us es ∧ es.length = i ∧ ∀ e ∈ es, (ExOk many e ∧ e.dep ≤ l + 3) ∧ StOk many l e) ⟨[], [], But.new nD, hh2.new nD, upd_same, trivial, rfl, fun x h => by cases h⟩ ?_ ?_⟩
    · rintro i H5 hi ⟨us, es, b5, hh5, hD, hrow, hel, hes⟩
      have hi : i < 3 := by omega
      have hDa : D ≠ a := hh2.ne nD
      have hib : (cost l + 3) * i ≤ 903 * 2 := Nat.mul_le_mul (by omega) (by omega)
      refine ⟨rfl, tYes_in ?_⟩
      refine ⟨.ref a, rfl, .int (many : Int), rfl, .int (l : Int), rfl, .int (j : Int), rfl, a, many, l, _, j, rfl, hj, hl, hm1, by omega, hh5, by omega, fun H6 v e b6 hh6 he ho hd hst => ?_⟩
      have hD6 := b6 _ _ hDa hD
      have hwl := hrow.len
      refine ⟨us, hD6, small1000 (by omega), us ++ [v], es ++ [e], fun b' o nb eb => ?_, (hh6.le (by rw [Nat.mul_add]; omega)).put hDa, upd_same, RowsAt.snoc (he.imp fun _ _ q => put_sqt hD6 q) ((hrow.imp fun _ _ q => b6.sq hh5 q).imp fun _ _ q => put_sqt hD6 q), by rw [List.length_append, hel]; rfl, fun e' he' => ?_⟩
      · rw [upd_ne (ne_of_none eb nD)]
        exact b6 _ _ nb (b5 _ _ nb eb)
      · rcases List.mem_append.mp he' with h | h
        · exact hes _ h
        · rw [List.mem_singleton.mp h]
          exact ⟨⟨ho, hd⟩, hst⟩
    · rintro H5 ⟨us, es, b5, hh5, hD, hrow, hel, hes⟩
      have hel : es.length = many := by omega
      have hib : (cost l + 3) * ((many : Int)).toNat ≤ (cost l + 3) * 3 := Nat.mul_le_mul_left _ (by omega)
      have hh5 : HandAt H5 a (n + 11 + 3 * cost l) := hh5.le (by omega)
      refine .inl ⟨D, us, rfl, SqL.of hD, fun T nT => ?_⟩
      have smT := same_new (o := .tup us) nT
      have hT : (upd H5 T (.tup us)) T = some (.tup us) := upd_same
      have hhT := hh5.new (o := .tup us) nT
      have hrT := hrow.same smT
      have bT := (b02.trans b5).trans (But.of smT)
      clear smT
      generalize upd H5 T (.tup us) = H6 at hT hhT hrT bT
      refine ⟨.int (many : Int), rfl, _, rfl, by omega, by omega, fun D2 nD2 => lc_range (n := ((many : Int)).toNat) (fun i H' => ∃ ws ds, But a H6 H' ∧ HandAt H' a (n + 11 + 3 * cost l + 70 * i) ∧ H' D2 = some (.lst ws) ∧ BhAt K H' ws ds ∧ ds.length = i ∧ ∀ d ∈ ds, DsOk many d ∧ d.dep ≤ 2 ∧ d.cnt ≤ 10) ⟨[], [], But.new nD2, hhT.new nD2, upd_same, trivial, rfl, fun x h => by cases h⟩ ?_ ?_⟩
      · rintro i H7 hi ⟨ws, ds, b7, hh7, hD7, hbh, hdl, hds⟩
        have hi : i < 3 := by omega
        have hDa : D2 ≠ a := hhT.ne nD2
        refine ⟨rfl, tYes_in ?_⟩
        refine ⟨.ref a, rfl, .int (many : Int), rfl, a, many, 1, _, rfl, by decide, by decide, hm1, by omega, hh7, (by show _ + 70 ≤ _; omega), fun H8 p xs d b8 hh8 hp hd ho hdp hdc => ?_⟩
        have hD8 := b8 _ _ hDa hD7
        have hwl := hbh.len
        refine ⟨ws, hD8, small1000 (by omega), ws ++ [.ref p], ds ++ [d], fun b' o nb eb => ?_, (hh8.le (by show _ + 70 ≤ _; omega)).put hDa, upd_same, BhAt.snoc (put_sqt hD8 hp) (hd.imp fun _ _ q => put_sqt hD8 q) ((hbh.imp fun _ _ q => b8.sq hh7 q).imp fun _ _ q => put_sqt hD8 q), by rw [List.length_append, hdl]; rfl, fun e' he' => ?_⟩
        · rw [upd_ne (ne_of_none eb nD2)]
          exact b8 _ _ nb (b7 _ _ nb eb)
        · rcases List.mem_append.mp he' with h | h
          · exact hds _ h
          · rw [List.mem_singleton.mp h]
            exact ⟨ho, hdp, hdc⟩
      · rintro H7 ⟨ws, ds, b7, hh7, hD7, hbh, hdl, hds⟩
        have hdl : ds.length = many := by omega
        have hh7 : HandAt H7 a (n + 221 + 3 * cost l) := hh7.le (by omega)
        refine .inl ⟨D2, ws, rfl, SqL.of hD7, fun T2 nT2 => ?_⟩
        have smT2 := same_new (o := .tup ws) nT2
        have hT2 : (upd H7 T2 (.tup ws)) T2 = some (.tup ws) := upd_same
        have hhT2 := hh7.new (o := .tup ws) nT2
        have hbT2 := hbh.same smT2
        have bT2 := b7.trans (But.of smT2)
        clear smT2
        generalize upd H7 T2 (.tup ws) = H8 at hT2 hhT2 hbT2 bT2
        refine ⟨_, rfl, _, rfl, .ref a, rfl, a, _, rfl, hhT2, by omega, fun H9 v rs b9 hh9 hR => ⟨.ref T, rfl, .ref T2, rfl, (by show 5 ≤ sizeLine; decide), fun t nt => ?_⟩⟩
        have s10 := same_new (o := .tup [.str nm, .int (sc : Int), v, .ref T, .ref T2]) nt
        have sq69 : ∀ p xs, SqT K H6 p xs → SqT K (upd H9 t (.tup [.str nm, .int (sc : Int), v, .ref T, .ref T2])) p xs := fun _ _ h => same_sqt s10 (b9.sq hhT2 (bT2.sq hhT h))
        have sq89 : ∀ p xs, SqT K H8 p xs → SqT K (upd H9 t (.tup [.str nm, .int (sc : Int), v, .ref T, .ref T2])) p xs := fun _ _ h => same_sqt s10 (b9.sq hhT2 h)
        refine q _ _ ⟨nm, sc, rs, es, ds⟩ (((bT.trans bT2).trans b9).trans (But.of s10)) ((hh9.new nt).le (by omega)) ⟨t, v, T, T2, us, ws, rfl, SqT.of upd_same, hR.same s10, sq69 _ _ (SqT.of hT), hrT.imp sq69, sq89 _ _ (SqT.of hT2), hbT2.imp sq89⟩ ⟨hnm, by show sc < 5; omega, hR.ok, hel, fun e he => (hes e he).1, hdl, hds⟩ fun e he => (hes e he).2
end
end NG

namespace NG
open PySem PySem.Spec PyProof.Rows L2
section
variable {P : Program} {w : World} {K : PySem.W.Frag} {mg : Str → Option Value} {base : Heap}
theorem ok_mills {f : Addr} {fd : FuncData} (F : Fun K "mills" "mills" s_mills f fd) (gF : mg "mills" = some (.ref f)) (b : Binds K fd ["shares", "sign"] []) (B : Bl mg) : Cal P w K mg base 1 "mills" (spMills K) := by
  refine ⟨f, fd, _, F.ok sc_mills (fun vs H Q E h => ?_) (fun cdv A outer s H vs Q E hr h => ?_), gF, F.kp, b⟩
  · obtain ⟨_, _, _, _, rfl, _⟩ := h
    rfl
  · obtain ⟨_, many, j, ss, rfl, ⟨p, rfl, hs, hl, hb, h0, h1⟩, hj, q⟩ := h
    refine ⟨_, (pss_one (ps_ret (pe_op op_fdivW (pe_op op_mul pe_int (pe_ix ix_tup (pv 0) (pv 1) (fun _ _ => rfl))) (pe_callB (cr_sumT rfl) (by rfl) B.sum (by decide +kernel) (pa_cons (pv 0) pa_nil))))), ?_⟩
    refine ⟨.ref p, rfl, .int (j : Int), rfl, p, _, _, _, rfl, rfl, hs, at_nth (by omega), 1000, _, rfl, rfl, .inl ⟨by decide, by decide⟩, .ref p, rfl, p, ss, rfl, hs, _, _, rfl, rfl, wide_div (b := 200) h0 (by omega) (by decide) (by decide), q⟩
end
end NG

namespace NG
open PySem PySem.Spec PyProof.Rows L2
/-! ### deeds one behind the other -/
def Ds.tl : Ds → Ds
  | .nil => .nil
  | .op _ _ _ r => r
  | .when _ _ _ _ r => r
def Ds.drop : Nat → Ds → Ds
  | 0, d => d
  | n + 1, d => (d.drop n).tl
theorem DsAt.tl {K : PySem.W.Frag} {H : Hp} : ∀ {d : Ds} {vs : List V}, DsAt K H d vs → DsAt K H d.tl (vs.drop 1)
  | .nil, _, e => by subst e; rfl
  | .op _ _ _ _, _, ⟨p, us, e, q, r⟩ => by subst e; exact r
  | .when _ _ _ _ _, _, ⟨p, pa, pb, xa, xb, us, e, q, qa, a, qb, b, r⟩ => by subst e; exact r
theorem DsAt.drop {K : PySem.W.Frag} {H : Hp} {d : Ds} {vs : List V} (h : DsAt K H d vs) : ∀ n, DsAt K H (d.drop n) (vs.drop n)
  | 0 => h
  | n + 1 => by
    have := (DsAt.drop h n).tl
    rw [List.drop_drop] at this
    exact this
theorem DsOk.tl {many : Nat} : ∀ {d : Ds}, DsOk many d → DsOk many d.tl
  | .nil, h => h
  | .op _ _ _ _, h => h.2.2
  | .when _ _ _ _ _, h => h.2.2.2.2
theorem DsOk.drop {many : Nat} {d : Ds} (h : DsOk many d) : ∀ n, DsOk many (d.drop n)
  | 0 => h
  | n + 1 => (DsOk.drop h n).tl
theorem Ds.dep_tl : ∀ d : Ds, d.tl.dep ≤ d.dep
  | .nil => Nat.le_refl _
  | .op _ _ _ r => by show r.dep ≤ max 1 r.dep; omega
  | .when _ _ a b r => by show r.dep ≤ max (max a.dep b.dep + 1) r.dep; omega
theorem Ds.dep_drop (d : Ds) : ∀ n, (d.drop n).dep ≤ d.dep
  | 0 => Nat.le_refl _
  | n + 1 => Nat.le_trans (Ds.dep_tl _) (Ds.dep_drop d n)
theorem ap_end {ss : List Int} {K : PySem.W.Frag} {H : Hp} {d : Ds} {vs : List V} (h : DsAt K H d vs) (rs : List Int) : ap ss (d.drop vs.length) rs = rs := by
  have := h.drop vs.length
  rw [List.drop_length] at this
  cases e : d.drop vs.length with
  | nil => rfl
  | op w i x r =>
    rw [e] at this
    obtain ⟨_, _, z, _⟩ := this
    cases z
  | when i c a b r =>
    rw [e] at this
    obtain ⟨_, _, _, _, _, _, z, _⟩ := this
    cases z
theorem set_int {rs : List Int} {i : Nat} {h : Int} (hi : i < rs.length) : (rs.map V.int).take i ++ [V.int h] ++ (rs.map V.int).drop (i + 1) = (rs.set i h).map V.int := by
  rw [List.map_set, List.set_eq_take_append_cons_drop, if_pos (by rw [List.length_map]; exact hi), List.append_assoc]
  rfl
theorem cutT {ws : List V} {i : Nat} (h : i ≤ ws.length) : cutV ws none (some (i : Int)) = ws.take i := by
  unfold cutV
  rw [HT.sIx_none, show HT.sIx ws.length ws.length (some (i : Int)) = min i ws.length from HT.sIx_nat _ _ _, List.drop_zero, Nat.sub_zero, Nat.min_eq_left h]
theorem cutF {ws : List V} {i : Nat} (h : i ≤ ws.length) : cutV ws (some (i : Int)) none = ws.drop i := by
  unfold cutV
  rw [HT.sIx_none, show HT.sIx ws.length 0 (some (i : Int)) = min i ws.length from HT.sIx_nat _ _ _, Nat.min_eq_left h]
  exact List.take_of_length_le (by rw [List.length_drop]; omega)
def spHeld (K : PySem.W.Frag) : Sp := fun vs H Q _ => ∃ (p : Addr) (r s : V) (o : D5) (i many : Nat) (x : Int) (rs ss : List Int), vs = [.ref p, r, s] ∧ SqT K H p [.str (dn o), .int (i : Int), .int x] ∧ i < 4 ∧ xok many o x ∧ RegsAt K H rs r ∧ ShAt K H many ss s ∧ Q (.int (hb ss o i x rs)) H
def spWithHeld (K : PySem.W.Frag) : Sp := fun vs H Q _ => ∃ (r : V) (i : Nat) (n : Int) (rs : List Int), vs = [r, .int (i : Int), .int n] ∧ i < 4 ∧ RegsAt K H rs r ∧ ∀ H' v, Same H H' → RegsAt K H' (rs.set i (cl n)) v → Q v H'
def spLedD (K : PySem.W.Frag) : Sp := fun vs H Q _ => ∃ (p : Addr) (r x y : V) (i : Nat) (c : Int) (rs : List Int), vs = [.ref p, r] ∧ SqT K H p [.str "when", .int (i : Int), .int c, x, y] ∧ i < 4 ∧ RegsAt K H rs r ∧ Q (if rs.getD i 0 < c then x else y) H
def spDo (K : PySem.W.Frag) (n : Nat) : Sp := fun vs H Q _ => ∃ (p : Addr) (r s : V) (xs : List V) (d : Ds) (many : Nat) (rs ss : List Int), vs = [.ref p, r, s] ∧ SqT K H p xs ∧ DsAt K H d xs ∧ DsOk many d ∧ d.dep < n ∧ RegsAt K H rs r ∧ ShAt K H many ss s ∧ ∀ H' v, Same H H' → RegsAt K H' (ap ss d rs) v → Q v H'
def spBehind (K : PySem.W.Frag) (n : Nat) : Sp := fun vs H Q _ => ∃ (dv r s : V) (j many : Nat) (D : Dbt) (d : Ds) (rs ss : List Int), vs = [dv, r, s, .int (j : Int)] ∧ DbAt K H D dv ∧ D.behinds[j]? = some d ∧ DsOk many d ∧ d.dep < n ∧ RegsAt K H rs r ∧ ShAt K H many ss s ∧ ∀ H' v, Same H H' → RegsAt K H' (ap ss d rs) v → Q v H'
section
variable {P : Program} {w : World} {K : PySem.W.Frag} {mg : Str → Option Value} {base : Heap}
theorem ok_held {f : Addr} {fd : FuncData} (F : Fun K "held_by" "held_by" s_held_by f fd) (gF : mg "held_by" = some (.ref f)) (b : Binds K fd ["deed", "registers", "shares"] []) (B : Bl mg) (c_mills : Cal P w K mg base 1 "mills" (spMills K)) : Cal P w K mg base 2 "held_by" (spHeld K) := by
  refine ⟨f, fd, _, F.ok sc_held_by (fun vs H Q E h => ?_) (fun cdv A outer s H vs Q E hr h => ?_), gF, F.kp, b⟩
  · obtain ⟨_, _, _, _, _, _, _, _, _, rfl, _⟩ := h
    rfl
  · obtain ⟨p, _, sv, o, i, many, x, rs, ss, rfl, hp, hi, hx, ⟨r, rfl, hr', hl, hb'⟩, hs, q⟩ := h
    refine ⟨_, (pss_cons (ps_asg (pv 0) (pg_tup rfl (pgs_cons (pg_name (i := 3) sc_held_by.nd rfl (.inl rfl)) (pgs_cons (pg_name (i := 4) sc_held_by.nd rfl (.inl rfl)) (pgs_cons (pg_name (i := 5) sc_held_by.nd rfl (.inl rfl)) pgs_nil))))) (pss_cons (ps_if (pt_cmpR op_eq (pv 3) pe_str (nomark _)) (pss_one (ps_ret (pv 5))) pss_nil) (pss_cons (ps_if (pt_cmpR op_eq (pv 3) pe_str (nomark _)) (pss_one (ps_ret (pe_op op_add (pe_ix ix_tup (pv 1) (pv 4) (fun _ _ => rfl)) (pv 5)))) pss_nil) (pss_cons (ps_if (pt_cmpR op_eq (pv 3) pe_str (nomark _)) (pss_one (ps_ret (pe_ix ix_tup (pv 1) (pv 5) (fun _ _ => rfl)))) pss_nil) (pss_cons (ps_if (pt_cmpR op_eq (pv 3) pe_str (nomark _)) (pss_one (ps_ret (pe_op op_add (pe_ix ix_tup (pv 1) (pv 4) (fun _ _ => rfl)) (pe_ix ix_tup (pv 1) (pv 5) (fun _ _ => rfl))))) pss_nil) (pss_one (ps_ret (pe_c c_mills hr (by omega) (by rfl) (pa_cons (pv 2) (pa_cons (pv 5) pa_nil)))))))))), ?_⟩
    refine ⟨.ref p, rfl, p, _, rfl, hp, rfl, _, _, rfl, _, _, rfl, _, _, rfl, rfl, ?_⟩
    cases o with
    | put => exact ⟨_, rfl, rfl, _, rfl, iteTT (by decide) ⟨_, rfl, q⟩⟩
    | add =>
      refine ⟨_, rfl, rfl, _, rfl, iteFF (by decide) ⟨_, rfl, rfl, _, rfl, iteTT (by decide) ?_⟩⟩
      exact ⟨.ref r, rfl, .int (i : Int), rfl, r, _, _, _, rfl, rfl, hr', at_nth (by omega), .int x, rfl, _, _, rfl, rfl, q⟩
    | copy =>
      refine ⟨_, rfl, rfl, _, rfl, iteFF (by decide) ⟨_, rfl, rfl, _, rfl, iteFF (by decide) ⟨_, rfl, rfl, _, rfl, iteTT (by decide) ?_⟩⟩⟩
      exact ⟨.ref r, rfl, .int x, rfl, r, _, _, _, rfl, rfl, hr', at_int hx.1 (by have := hx.2; omega), q⟩
    | plus =>
      refine ⟨_, rfl, rfl, _, rfl, iteFF (by decide) ⟨_, rfl, rfl, _, rfl, iteFF (by decide) ⟨_, rfl, rfl, _, rfl, iteFF (by decide) ⟨_, rfl, rfl, _, rfl, iteTT (by decide) ?_⟩⟩⟩⟩
      exact ⟨.ref r, rfl, .int (i : Int), rfl, r, _, _, _, rfl, rfl, hr', at_nth (by omega), .ref r, rfl, .int x, rfl, r, _, _, _, rfl, rfl, hr', at_int hx.1 (by have := hx.2; omega), _, _, rfl, rfl, q⟩
    | told =>
      refine ⟨_, rfl, rfl, _, rfl, iteFF (by decide) ⟨_, rfl, rfl, _, rfl, iteFF (by decide) ⟨_, rfl, rfl, _, rfl, iteFF (by decide) ⟨_, rfl, rfl, _, rfl, iteFF (by decide) ?_⟩⟩⟩⟩
      obtain ⟨k, rfl⟩ : ∃ k : Nat, x = (k : Int) := ⟨x.toNat, by have := hx.1; omega⟩
      exact ⟨sv, rfl, .int (k : Int), rfl, sv, many, k, ss, rfl, hs, by have := hx.2; omega, q⟩
theorem ok_withheld {f : Addr} {fd : FuncData} (F : Fun K "with_held" "with_held" s_with_held f fd) (gF : mg "with_held" = some (.ref f)) (b : Binds K fd ["registers", "place", "number"] []) (B : Bl mg) {t1 t2 : Tok} (mg_LEAST_HELD : mg "LEAST_HELD" = some (.int (-1000) t1)) (mg_MOST_HELD : mg "MOST_HELD" = some (.int 1000 t2)) : Cal P w K mg base 1 "with_held" (spWithHeld K) := by
  refine ⟨f, fd, _, F.ok sc_with_held (fun vs H Q E h => ?_) (fun cdv A outer s H vs Q E hr h => ?_), gF, F.kp, b⟩
  · obtain ⟨_, _, _, _, rfl, _⟩ := h
    rfl
  · obtain ⟨_, i, n, rs, rfl, hi, ⟨r, rfl, hr', hl, hb'⟩, q⟩ := h
    refine ⟨_, (pss_cons (ps_set (i := 3) sc_with_held.nd rfl (.inl rfl) (pe_callB (call_max2 rfl) (by rfl) B.max (by decide +kernel) (pa_cons (pe_glob (v := .int (-1000)) (by rfl) mg_LEAST_HELD ⟨_, rfl⟩) (pa_cons (pe_callB (call_min2 rfl) (by rfl) B.min (by decide +kernel) (pa_cons (pe_glob (v := .int (1000)) (by rfl) mg_MOST_HELD ⟨_, rfl⟩) (pa_cons (pv 2) pa_nil))) pa_nil)))) (pss_one (ps_ret (pe_op op_catA (pe_op op_catA (pe_slice sl_tupA (pv 0) po_none (po_some (pv 1))) (pe_tup (pa_cons (pv 3) pa_nil))) (pe_slice sl_tupA (pv 0) (po_some (pe_op op_add (pv 1) pe_int)) po_none))))), ?_⟩
    have hwl : (rs.map V.int).length = 4 := by rw [List.length_map]; exact hl
    refine ⟨.int n, rfl, 1000, n, rfl, -1000, _, rfl, ?_⟩
    refine ⟨.ref r, rfl, .int (i : Int), rfl, (i : Int), rfl, slA hr' fun H6 p6 sm6 hp6 => ?_⟩
    rw [cutT (by omega)] at hp6
    refine ⟨.int (cl n), rfl, (by show 1 ≤ sizeLine; decide), fun t7 n7 => ?_⟩
    have s7 := same_new (o := .tup [.int (cl n)]) n7
    refine catA (same_sqt s7 hp6) (SqT.of upd_same) (Nat.le_of_lt (small1000 (by rw [List.length_take]; show _ + 1 ≤ 1000; omega))) fun H8 p8 sm8 hp8 => ?_
    have sm58 := (sm6.trans s7).trans sm8
    refine ⟨.ref r, rfl, .int (i : Int), rfl, _, _, rfl, rfl, _, rfl, ?_⟩
    refine slA (K := K) (lo := some ((i : Int) + 1)) (hi := none) (Q := fun y H2 => rCatA K (.ref p8) y H2 Q) (same_sqt sm58 hr') fun H9 p9 sm9 hp9 => ?_
    rw [show (i : Int) + 1 = ((i + 1 : Nat) : Int) by omega, cutF (by omega)] at hp9
    refine catA (same_sqt sm9 hp8) hp9 (Nat.le_of_lt (small1000 (by rw [List.length_append, List.length_take, List.length_drop]; show _ + 1 + _ ≤ 1000; omega))) fun H10 p10 sm10 hp10 => ?_
    rw [set_int (by omega)] at hp10
    have ok := RegOk.set ⟨hl, hb'⟩ i n
    exact q _ _ ((sm58.trans sm9).trans sm10) ⟨p10, rfl, hp10, ok.1, ok.2⟩
theorem ok_leddeeds {f : Addr} {fd : FuncData} (F : Fun K "led_deeds" "led_deeds" s_led_deeds f fd) (gF : mg "led_deeds" = some (.ref f)) (b : Binds K fd ["deed", "registers"] []) (B : Bl mg) : Cal P w K mg base 1 "led_deeds" (spLedD K) := by
  refine ⟨f, fd, _, F.ok sc_led_deeds (fun vs H Q E h => ?_) (fun cdv A outer s H vs Q E hr h => ?_), gF, F.kp, b⟩
  · obtain ⟨_, _, _, _, _, _, _, rfl, _⟩ := h
    rfl
  · obtain ⟨p, _, x, y, i, c, rs, rfl, hp, hi, ⟨r, rfl, hr', hl, hb'⟩, q⟩ := h
    refine ⟨_, (pss_cons (ps_asg (pv 0) (pg_tup rfl (pgs_cons (pg_name (i := 2) sc_led_deeds.nd rfl (.inl rfl)) (pgs_cons (pg_name (i := 3) sc_led_deeds.nd rfl (.inl rfl)) (pgs_cons (pg_name (i := 4) sc_led_deeds.nd rfl (.inl rfl)) (pgs_cons (pg_name (i := 5) sc_led_deeds.nd rfl (.inl rfl)) (pgs_cons (pg_name (i := 6) sc_led_deeds.nd rfl (.inl rfl)) pgs_nil))))))) (pss_one (ps_ret (pe_ifExp (pt_cmpR op_lt (pe_ix ix_tup (pv 1) (pv 3) (fun _ _ => rfl)) (pv 4) (nomark _)) (pv 5) (pv 6))))), ?_⟩
    refine ⟨.ref p, rfl, p, _, rfl, hp, rfl, _, _, rfl, _, _, rfl, _, _, rfl, _, _, rfl, _, _, rfl, rfl, ?_⟩
    refine ⟨.ref r, rfl, .int (i : Int), rfl, r, _, _, _, rfl, rfl, hr', at_nth (by omega), .int c, rfl, _, _, rfl, rfl, _, rfl, iteD (fun h => ?_) (fun h => ?_)⟩
    · rw [if_pos h] at q
      exact ⟨x, rfl, q⟩
    · rw [if_neg h] at q
      exact ⟨y, rfl, q⟩
theorem ok_do {f : Addr} {fd : FuncData} (F : Fun K "do_deeds" "do_deeds" s_do_deeds f fd) (gF : mg "do_deeds" = some (.ref f)) (b : Binds K fd ["deeds", "registers", "shares"] []) (B : Bl mg) (c_held_by : Cal P w K mg base 2 "held_by" (spHeld K)) (c_with_held : Cal P w K mg base 1 "with_held" (spWithHeld K)) (c_led_deeds : Cal P w K mg base 1 "led_deeds" (spLedD K)) : ∀ n, Cal P w K mg base (n + 3) "do_deeds" (spDo K n) := by
  intro n
  induction n with
  | zero =>
    refine cal_never F gF b fun vs H Q E h => ?_
    obtain ⟨_, _, _, _, _, _, _, _, _, _, _, _, hd, _⟩ := h
    omega
  | succ n c_do_deeds =>
  refine ⟨f, fd, _, F.ok sc_do_deeds (fun vs H Q E h => ?_) (fun cdv A outer s H vs Q E hr h => ?_), gF, F.kp, b⟩
  · obtain ⟨_, _, _, _, _, _, _, _, rfl, _⟩ := h
    rfl
  · obtain ⟨p, r, sv, xs, d, many, rs, ss, rfl, hp, hd, ho, hdp, hR, hS, q⟩ := h
    refine ⟨_, (pss_cons (ps_for PassesOwn.never rfl (pi_tup (pv 0)) (pg_name (i := 3) sc_do_deeds.nd rfl (.inl rfl)) (pss_one (ps_if (pt_cmpR op_eq (pe_ix ix_tup (pv 3) pe_int (fun _ _ => rfl)) pe_str (nomark _)) (pss_one (ps_set (i := 1) sc_do_deeds.nd rfl (.inl rfl) (pe_c c_do_deeds hr (by omega) (by rfl) (pa_cons (pe_c c_led_deeds hr (by omega) (by rfl) (pa_cons (pv 3) (pa_cons (pv 1) pa_nil))) (pa_cons (pv 1) (pa_cons (pv 2) pa_nil)))))) (pss_one (ps_set (i := 1) sc_do_deeds.nd rfl (.inl rfl) (pe_c c_with_held hr (by omega) (by rfl) (pa_cons (pv 1) (pa_cons (pe_ix ix_tup (pv 3) pe_int (fun _ _ => rfl)) (pa_cons (pe_c c_held_by hr (by omega) (by rfl) (pa_cons (pv 3) (pa_cons (pv 1) (pa_cons (pv 2) pa_nil)))) pa_nil))))))))) (pss_one (ps_ret (pv 1)))), ?_⟩
    refine ⟨.ref p, rfl, p, rfl, ⟨_, hp⟩, for_tup (xs := xs) (fun i σ H' => ∃ y3 v rs', σ = [some (.ref p), some v, some sv, y3] ∧ Same H H' ∧ RegsAt K H' rs' v ∧ ap ss (d.drop i) rs' = ap ss d rs) ⟨none, r, rs, rfl, Same.refl _, hR, rfl⟩ ?_ ?_ ?_⟩
    · rintro i σ H' _ ⟨_, _, _, _, sm, _⟩
      exact same_sqt sm hp
    · rintro i x σ H1 hx ⟨y3, v, rs', rfl, sm1, hR1, hap⟩
      have hil := (List.getElem?_eq_some_iff.mp hx).1
      have hdi := (hd.drop i).same sm1
      have hoi := ho.drop i
      have hpi := d.dep_drop i
      rw [List.drop_eq_getElem_cons hil] at hdi
      have ex : xs[i] = x := (List.getElem?_eq_some_iff.mp hx).2
      rw [ex] at hdi
      have etl : d.drop (i + 1) = (d.drop i).tl := rfl
      cases e : d.drop i with
      | nil =>
        rw [e] at hdi
        cases hdi
      | op o k z rest =>
        rw [e] at hdi hoi hap etl
        obtain ⟨pd, us, eq1, hq, _⟩ := hdi
        cases eq1
        obtain ⟨ok, oz, _⟩ := hoi
        have hne : decide (V.str (dn o) = V.str "when") = false := by cases o <;> decide
        refine ⟨.ref pd, rfl, pd, _, 0, _, rfl, rfl, hq, rfl, rfl, _, rfl, iteFF hne ?_⟩
        refine ⟨v, rfl, .ref pd, rfl, pd, _, 1, _, rfl, rfl, hq, rfl, .ref pd, rfl, v, rfl, sv, rfl, pd, v, sv, o, k, many, z, rs', ss, rfl, hq, ok, oz, hR1, hS.same sm1, ?_⟩
        refine ⟨v, k, _, rs', rfl, ok, hR1, fun H2 v2 sm2 hR2 => ?_⟩
        exact ⟨_, v2, _, rfl, sm1.trans sm2, hR2, by rw [etl]; exact hap⟩
      | when k c da db rest =>
        rw [e] at hdi hoi hap etl hpi
        obtain ⟨pd, pa, pb, xa, xb, us, eq1, hq, qa, ha, qb, hb', _⟩ := hdi
        cases eq1
        obtain ⟨ok, oc, oa, ob, _⟩ := hoi
        have hpi : max (max da.dep db.dep + 1) rest.dep ≤ d.dep := hpi
        refine ⟨.ref pd, rfl, pd, _, 0, _, rfl, rfl, hq, rfl, rfl, _, rfl, iteTT rfl ?_⟩
        refine ⟨.ref pd, rfl, v, rfl, pd, v, .ref pa, .ref pb, k, c, rs', rfl, hq, ok, hR1, ?_⟩
        have hap : ap ss rest (if rs'.getD k 0 < c then ap ss da rs' else ap ss db rs') = ap ss d rs := hap
        by_cases hc : rs'.getD k 0 < c
        · rw [if_pos hc]
          rw [if_pos hc] at hap
          refine ⟨v, rfl, sv, rfl, pa, v, sv, xa, da, many, rs', ss, rfl, qa, ha, oa, by omega, hR1, hS.same sm1, fun H2 v2 sm2 hR2 => ?_⟩
          exact ⟨_, v2, _, rfl, sm1.trans sm2, hR2, by rw [etl]; exact hap⟩
        · rw [if_neg hc]
          rw [if_neg hc] at hap
          refine ⟨v, rfl, sv, rfl, pb, v, sv, xb, db, many, rs', ss, rfl, qb, hb', ob, by omega, hR1, hS.same sm1, fun H2 v2 sm2 hR2 => ?_⟩
          exact ⟨_, v2, _, rfl, sm1.trans sm2, hR2, by rw [etl]; exact hap⟩
    · rintro σ H1 ⟨y3, v, rs', rfl, sm1, hR1, hap⟩
      rw [ap_end hd] at hap
      rw [hap] at hR1
      exact ⟨v, rfl, q _ v sm1 hR1⟩
theorem fn_behind {f : Addr} {fd : FuncData} (F : Fun K "behind" "behind" s_behind f fd) (B : Bl mg) {n : Nat} (c_do_deeds : Cal P w K mg base (n + 3) "do_deeds" (spDo K n)) : FnOk P w K mg base CX0 (n + 4) f fd ["doubter", "registers", "shares", "sign"] (spBehind K n) := by
  refine F.ok sc_behind (fun vs H Q E h => ?_) (fun cdv A outer s H vs Q E hr h => ?_)
  · obtain ⟨_, _, _, _, _, _, _, _, _, rfl, _⟩ := h
    rfl
  · obtain ⟨dv, r, sv, j, many, D, d, rs, ss, rfl, hD, hj, ho, hdp, hR, hS, q⟩ := h
    obtain ⟨p, vb, ps, pb, us, ws, rfl, hp, _, _, _, hpb, hbh⟩ := hD
    refine ⟨_, (pss_cons (ps_asg (pv 0) (pg_tup rfl (pgs_cons (pg_name (i := 4) sc_behind.nd rfl (.inl rfl)) (pgs_cons (pg_name (i := 5) sc_behind.nd rfl (.inl rfl)) (pgs_cons (pg_name (i := 6) sc_behind.nd rfl (.inl rfl)) (pgs_cons (pg_name (i := 7) sc_behind.nd rfl (.inl rfl)) (pgs_cons (pg_name (i := 8) sc_behind.nd rfl (.inl rfl)) pgs_nil))))))) (pss_one (ps_ret (pe_c c_do_deeds hr (by omega) (by rfl) (pa_cons (pe_ix ix_tup (pv 8) (pv 3) (fun _ _ => rfl)) (pa_cons (pv 1) (pa_cons (pv 2) pa_nil))))))), ?_⟩
    obtain ⟨pd, xs, hpd, hq, hds⟩ := hbh.get hj
    refine ⟨.ref p, rfl, p, _, rfl, hp, rfl, _, _, rfl, _, _, rfl, _, _, rfl, _, _, rfl, _, _, rfl, rfl, ?_⟩
    exact ⟨.ref pb, rfl, .int (j : Int), rfl, pb, _, _, _, rfl, rfl, hpb, atI_nat hpd, r, rfl, sv, rfl, pd, r, sv, xs, d, many, rs, ss, rfl, hq, hds, ho, hdp, hR, hS, q⟩
end
end NG

namespace NG
open PySem PySem.Spec PyProof.Rows L2
/-! ### how many deeds -/
def Ds.hc : Ds → Int
  | .nil => 0
  | .op _ _ _ _ => 0
  | .when _ _ a b _ => (a.cnt : Int) + ((b.cnt : Int) + 0)
def hcs (d : Ds) : Nat → List Int
  | 0 => []
  | n + 1 => hcs d n ++ [(d.drop n).hc]
theorem hcs_sum : ∀ (d : Ds) (n : Nat), n ≤ d.len → (n : Int) + (hcs d n).sum + ((d.drop n).cnt : Int) = (d.cnt : Int)
  | d, 0, _ => by show ((0 : Nat) : Int) + 0 + (d.cnt : Int) = _; omega
  | d, n + 1, h => by
    have ih := hcs_sum d n (by omega)
    show ((n + 1 : Nat) : Int) + (hcs d n ++ [(d.drop n).hc]).sum + ((d.drop n).tl.cnt : Int) = _
    rw [List.sum_append]
    have hl : ∀ (d : Ds) (n : Nat), n < d.len → d.drop n ≠ .nil := fun d n hn hz => by
      have hlen : ∀ n, n ≤ d.len → (d.drop n).len = d.len - n := fun n => by
        induction n with
        | zero => intro _; rfl
        | succ n ih =>
          intro hn
          have h1 := ih (by omega)
          show (d.drop n).tl.len = _
          cases hd : d.drop n with
          | nil => rw [hd] at h1; have h1 : 0 = d.len - n := h1; omega
          | op w i x r => rw [hd] at h1; have h1 : r.len + 1 = d.len - n := h1; show r.len = _; omega
          | when i c a b r => rw [hd] at h1; have h1 : r.len + 1 = d.len - n := h1; show r.len = _; omega
      have h2 := hlen n (by omega)
      rw [hz] at h2
      have h2 : 0 = d.len - n := h2
      omega
    have hne := hl d n (by omega)
    have one : ∀ x : Int, [x].sum = x := fun x => by simp
    rw [one]
    cases hd : d.drop n with
    | nil => exact absurd hd hne
    | op w i x r =>
      rw [hd] at ih
      have ih : (n : Int) + (hcs d n).sum + ((1 + r.cnt : Nat) : Int) = d.cnt := ih
      show ((n + 1 : Nat) : Int) + ((hcs d n).sum + 0) + (r.cnt : Int) = _
      omega
    | when i c a b r =>
      rw [hd] at ih
      have ih : (n : Int) + (hcs d n).sum + ((1 + (a.cnt + b.cnt) + r.cnt : Nat) : Int) = d.cnt := ih
      show ((n + 1 : Nat) : Int) + ((hcs d n).sum + ((a.cnt : Int) + ((b.cnt : Int) + 0))) + (r.cnt : Int) = _
      omega
theorem hcs_len (d : Ds) : ∀ n, (hcs d n).length = n
  | 0 => rfl
  | n + 1 => by
    show (hcs d n ++ [(d.drop n).hc]).length = _
    rw [List.length_append, hcs_len d n]
    rfl
theorem hcs_all {d : Ds} {K : PySem.W.Frag} {H : Hp} {vs : List V} (h : DsAt K H d vs) : (vs.length : Int) + (hcs d vs.length).sum = (d.cnt : Int) := by
  have h1 := hcs_sum d vs.length (by rw [h.len]; exact Nat.le_refl _)
  have h2 := h.drop vs.length
  rw [List.drop_length] at h2
  have h3 : (d.drop vs.length).cnt = 0 := by
    cases e : d.drop vs.length with
    | nil => rfl
    | op w i x r =>
      rw [e] at h2
      obtain ⟨_, _, z, _⟩ := h2
      cases z
    | when i c a b r =>
      rw [e] at h2
      obtain ⟨_, _, _, _, _, _, z, _⟩ := h2
      cases z
  omega
def spMany (K : PySem.W.Frag) (n : Nat) : Sp := fun vs H Q _ => ∃ (p : Addr) (xs : List V) (d : Ds), vs = [.ref p] ∧ SqT K H p xs ∧ DsAt K H d xs ∧ d.dep < n ∧ d.cnt ≤ 900 ∧ ∀ H', Same H H' → Q (.int (d.cnt : Int)) H'
def spInner (K : PySem.W.Frag) (n : Nat) : Sp := fun vs H Q _ => ∃ (v : V) (us : List V) (d : Ds), vs = [v] ∧ DsAt K H d (v :: us) ∧ d.dep ≤ n ∧ d.cnt ≤ 900 ∧ ∀ H', Same H H' → Q (.int d.hc) H'
theorem perm_sum {l m : List Int} (h : l.Perm m) : l.sum = m.sum := by
  induction h with
  | nil => rfl
  | cons x _ ih => rw [List.sum_cons, List.sum_cons, ih]
  | swap x y l => rw [List.sum_cons, List.sum_cons, List.sum_cons, List.sum_cons]; omega
  | trans _ _ h1 h2 => exact h1.trans h2
theorem sort3 {ns : List Int} {n : Int} (hp : ns.Perm [-1000, n, 1000]) (hs : ns.Pairwise (· ≤ ·)) : ∃ a b, ns = [a, cl n, b] := by
  have hl := hp.length_eq
  match ns, hl with
  | [x, y, z], _ =>
    have hxy : x ≤ y ∧ x ≤ z ∧ y ≤ z := by
      simp only [List.pairwise_cons, List.mem_cons, List.not_mem_nil, or_false] at hs
      exact ⟨hs.1 y (.inl rfl), hs.1 z (.inr rfl), hs.2.1 z rfl⟩
    have hsum : x + y + z = n := by
      have e : ([x, y, z] : List Int).sum = [-1000, n, 1000].sum := perm_sum hp
      simp only [List.sum_cons, List.sum_nil] at e
      omega
    have h1 : x = -1000 ∨ x = n ∨ x = 1000 := by simpa using hp.mem_iff (a := x)
    have h2 : y = -1000 ∨ y = n ∨ y = 1000 := by simpa using hp.mem_iff (a := y)
    have h3 : z = -1000 ∨ z = n ∨ z = 1000 := by simpa using hp.mem_iff (a := z)
    have m1 : -1000 = x ∨ -1000 = y ∨ -1000 = z := by simpa using (hp.mem_iff (a := -1000)).mpr (by simp)
    have m2 : 1000 = x ∨ 1000 = y ∨ 1000 = z := by simpa using (hp.mem_iff (a := 1000)).mpr (by simp)
    have e : y = cl n := by
      unfold cl mx mn
      repeat' split
      all_goals omega
    exact ⟨x, z, by rw [e]⟩
def spCut : Sp := fun vs H Q _ => ∃ n : Int, vs = [.int n] ∧ ∀ H', Same H H' → Q (.int (cl n)) H'
section
variable {P : Program} {w : World} {K : PySem.W.Frag} {mg : Str → Option Value} {base : Heap}
theorem ok_cut {f : Addr} {fd : FuncData} (F : Fun K "_law_cut" "_law_cut" s_L_cut f fd) (gF : mg "_law_cut" = some (.ref f)) (b : Binds K fd ["_law_number"] []) (B : Bl mg) : Cal P w K mg base 1 "_law_cut" spCut := by
  refine ⟨f, fd, _, F.ok sc_L_cut (fun vs H Q E h => ?_) (fun cdv A outer s H vs Q E hr h => ?_), gF, F.kp, b⟩
  · obtain ⟨_, rfl, _⟩ := h
    rfl
  · obtain ⟨n, rfl, q⟩ := h
    refine ⟨_, (pss_one (ps_ret (pe_ix ix_list (pe_callB cr_sorted (by rfl) B.sorted (by decide +kernel) (pa_cons (pe_lst (pa_cons (pe_un un_neg pe_int) (pa_cons (pv 0) (pa_cons pe_int pa_nil)))) pa_nil)) pe_int (fun _ _ => rfl)))), ?_⟩
    refine ⟨_, rfl, .int n, rfl, (by show 3 ≤ sizeLine; decide), fun l nl => ?_⟩
    have hl : (upd H l (.lst [.int (-1000), .int n, .int 1000])) l = some (.lst ([-1000, n, 1000].map V.int)) := upd_same
    have sm := same_new (o := .lst [.int (-1000), .int n, .int 1000]) nl
    refine ⟨l, [-1000, n, 1000], rfl, SqL.of hl, (by show 3 < 64; decide), fun ns p hp hs np => ?_⟩
    obtain ⟨a, z, rfl⟩ := sort3 hp hs
    exact ⟨p, _, 1, _, rfl, rfl, SqL.of upd_same, rfl, q _ (sm.trans (same_new np))⟩
theorem inner_of {f : Addr} {fd : FuncData} (F : Fun K "_law_inner_many" "_law_inner_many" s_L_inner_many f fd) (gF : mg "_law_inner_many" = some (.ref f)) (b : Binds K fd ["_law_deed"] []) (B : Bl mg) {n : Nat} (c_L_deeds_many : Cal P w K mg base (2 * n + 1) "_law_deeds_many" (spMany K n)) : Cal P w K mg base (2 * n + 2) "_law_inner_many" (spInner K n) := by
  refine ⟨f, fd, _, F.ok sc_L_inner_many (fun vs H Q E h => ?_) (fun cdv A outer s H vs Q E hr h => ?_), gF, F.kp, b⟩
  · obtain ⟨_, _, _, rfl, _⟩ := h
    rfl
  · obtain ⟨v, us, d, rfl, hd, hdp, hc, q⟩ := h
    refine ⟨_, (pss_one (ps_ret (pe_callB (cr_sum rfl) (by rfl) B.sum (by decide +kernel) (pa_cons (pe_lc (own := [("_law_part", 1)]) rfl sc_L_inner_many.nd (pi_tup (pe_slice sl_tupA (pv 0) (po_some pe_int) po_none)) (blkOk_by (N := N_L_inner_many) (sc := defScope s_L_inner_many) (by decide +kernel)) (fun _ _ _ _ _ => pg_name (i := 1) sc_L_inner_many.nd rfl (.inl rfl)) (fun _ _ _ _ _ => pts_nil) (fun _ _ _ _ _ => pe_c c_L_deeds_many hr (by omega) (by rfl) (pa_cons (pv 1) pa_nil))) pa_nil)))), ?_⟩
    cases d with
    | nil => cases hd
    | op o k z rest =>
      obtain ⟨pd, us', eq1, hq, _⟩ := hd
      cases eq1
      refine ⟨.ref pd, rfl, 3, rfl, ?_⟩
      dsimp only [tNoPart]
      refine slA hq fun H1 p1 sm1 hp1 => ?_
      have hp1 : SqT K H1 p1 [] := hp1
      refine ⟨p1, rfl, ⟨_, hp1⟩, fun D nD => lc_tup (xs := []) (fun i H' => Same H1 H' ∧ H' D = some (.lst [])) ⟨same_new nD, upd_same⟩ (fun i H' _ h => same_sqt h.1 hp1) (fun i x H' hx => by cases hx) ?_⟩
      rintro H2 ⟨sm2, hD⟩
      exact ⟨D, [], rfl, SqL.of hD, q _ (sm1.trans sm2)⟩
    | when k c da db rest =>
      obtain ⟨pd, pa, pb, xa, xb, us', eq1, hq, qa, ha, qb, hb', _⟩ := hd
      cases eq1
      have hdp : max (max da.dep db.dep + 1) rest.dep ≤ n := hdp
      have hc : 1 + (da.cnt + db.cnt) + rest.cnt ≤ 900 := hc
      refine ⟨.ref pd, rfl, 3, rfl, ?_⟩
      dsimp only [tNoPart]
      refine slA hq fun H1 p1 sm1 hp1 => ?_
      have hp1 : SqT K H1 p1 [.ref pa, .ref pb] := hp1
      refine ⟨p1, rfl, ⟨_, hp1⟩, fun D nD => lc_tup (xs := [.ref pa, .ref pb]) (fun i H' => Same H1 H' ∧ H' D = some (.lst (([(da.cnt : Int), (db.cnt : Int)].take i).map V.int))) ⟨same_new nD, upd_same⟩ (fun i H' _ h => same_sqt h.1 hp1) ?_ ?_⟩
      · rintro i x H2 hx ⟨sm2, hD⟩
        have sm12 := sm1.trans sm2
        have fin : ∀ H3 (z : Int), Same H2 H3 → ([(da.cnt : Int), (db.cnt : Int)])[i]? = some z → ∃ acc, H3 D = some (.lst acc) ∧ acc.length < sizeLine ∧ (Same H1 (upd H3 D (.lst (acc ++ [V.int z]))) ∧ (upd H3 D (.lst (acc ++ [V.int z]))) D = some (.lst (([(da.cnt : Int), (db.cnt : Int)].take (i + 1)).map V.int))) := fun H3 z sm3 hz => by
          refine ⟨_, sm3 _ _ hD, small1000 (by rw [List.length_map, List.length_take]; show min i 2 ≤ 1000; omega), fun b' o eb => ?_, ?_⟩
          · rw [upd_ne (ne_of_none eb nD)]
            exact sm3 _ _ (sm2 _ _ eb)
          · rw [upd_same, List.take_add_one, hz, List.map_append]
            rfl
        match i, hx with
        | 0, hx =>
          cases hx
          exact ⟨rfl, tYes_in ⟨_, rfl, pa, xa, da, rfl, same_sqt sm12 qa, ha.same sm12, by omega, by omega, fun H3 sm3 => fin _ _ sm3 rfl⟩⟩
        | 1, hx =>
          cases hx
          exact ⟨rfl, tYes_in ⟨_, rfl, pb, xb, db, rfl, same_sqt sm12 qb, hb'.same sm12, by omega, by omega, fun H3 sm3 => fin _ _ sm3 rfl⟩⟩
        | _ + 2, hx => cases hx
      · rintro H2 ⟨sm2, hD⟩
        refine ⟨D, [(da.cnt : Int), (db.cnt : Int)], rfl, SqL.of hD, ?_⟩
        exact q _ (sm1.trans sm2)
theorem ok_many {f g : Addr} {fd gd : FuncData} (F : Fun K "_law_deeds_many" "_law_deeds_many" s_L_deeds_many f fd) (gF : mg "_law_deeds_many" = some (.ref f)) (b : Binds K fd ["_law_deeds_here"] []) (F2 : Fun K "_law_inner_many" "_law_inner_many" s_L_inner_many g gd) (gF2 : mg "_law_inner_many" = some (.ref g)) (b2 : Binds K gd ["_law_deed"] []) (B : Bl mg) : ∀ n, Cal P w K mg base (2 * n + 1) "_law_deeds_many" (spMany K n) := by
  intro n
  induction n with
  | zero =>
    refine cal_never F gF b fun vs H Q E h => ?_
    obtain ⟨_, _, _, _, _, _, hd, _⟩ := h
    omega
  | succ n ih =>
  have c_L_inner_many := inner_of (P := P) (w := w) (base := base) F2 gF2 b2 B ih
  refine ⟨f, fd, _, F.ok sc_L_deeds_many (fun vs H Q E h => ?_) (fun cdv A outer s H vs Q E hr h => ?_), gF, F.kp, b⟩
  · obtain ⟨_, _, _, rfl, _⟩ := h
    rfl
  · obtain ⟨p, xs, d, rfl, hp, hd, hdp, hc, q⟩ := h
    refine ⟨_, (pss_one (ps_ret (pe_op op_add (pe_callB call_len_seq (by rfl) B.len PySem.boot_len (pa_cons (pv 0) pa_nil)) (pe_callB (cr_sum rfl) (by rfl) B.sum (by decide +kernel) (pa_cons (pe_lc (own := [("_law_deed", 1)]) rfl sc_L_deeds_many.nd (pi_tup (pv 0)) (blkOk_by (N := N_L_deeds_many) (sc := defScope s_L_deeds_many) (by decide +kernel)) (fun _ _ _ _ _ => pg_name (i := 1) sc_L_deeds_many.nd rfl (.inl rfl)) (fun _ _ _ _ _ => pts_nil) (fun _ _ _ _ _ => pe_c c_L_inner_many hr (by omega) (by rfl) (pa_cons (pv 1) pa_nil))) pa_nil))))), ?_⟩
    have hxl : xs.length ≤ 900 := by
      have h1 := hd.len
      have h2 := d.len_le
      omega
    refine ⟨.ref p, rfl, p, _, rfl, .inr hp, .ref p, rfl, p, rfl, ⟨_, hp⟩, fun D nD => lc_tup (xs := xs) (fun i H' => Same H H' ∧ H' D = some (.lst ((hcs d i).map V.int))) ⟨same_new nD, upd_same⟩ (fun i H' _ h => same_sqt h.1 hp) ?_ ?_⟩
    · rintro i x H1 hx ⟨sm1, hD⟩
      have hil := (List.getElem?_eq_some_iff.mp hx).1
      have hdi := (hd.drop i).same sm1
      rw [List.drop_eq_getElem_cons hil] at hdi
      have ex : xs[i] = x := (List.getElem?_eq_some_iff.mp hx).2
      rw [ex] at hdi
      have hpi := d.dep_drop i
      have hci : (d.drop i).cnt ≤ 900 := by
        have hm : ∀ j, (d.drop j).cnt ≤ d.cnt := fun j => by
          induction j with
          | zero => exact Nat.le_refl _
          | succ j ihj =>
            refine Nat.le_trans ?_ ihj
            show (d.drop j).tl.cnt ≤ _
            cases d.drop j with
            | nil => exact Nat.le_refl _
            | op _ _ _ r => show r.cnt ≤ 1 + r.cnt; omega
            | when _ _ a b r => show r.cnt ≤ 1 + (a.cnt + b.cnt) + r.cnt; omega
        have := hm i
        omega
      refine ⟨rfl, tYes_in ⟨x, rfl, x, _, d.drop i, rfl, hdi, by omega, hci, fun H2 sm2 => ?_⟩⟩
      refine ⟨_, sm2 _ _ hD, small1000 (by rw [List.length_map, hcs_len]; omega), fun b' o eb => ?_, ?_⟩
      · rw [upd_ne (ne_of_none eb nD)]
        exact sm2 _ _ (sm1 _ _ eb)
      · rw [upd_same]
        show _ = some (HO.lst ((hcs d i ++ [(d.drop i).hc]).map V.int))
        rw [List.map_append]
        rfl
    · rintro H1 ⟨sm1, hD⟩
      refine ⟨D, hcs d xs.length, rfl, SqL.of hD, _, _, rfl, rfl, ?_⟩
      have q1 := q _ sm1
      rw [← hcs_all hd] at q1
      exact q1
theorem ok_gone {f : Addr} {fd : FuncData} (F : Fun K "_law_gone" "_law_gone" s_L_gone f fd) (gF : mg "_law_gone" = some (.ref f)) (b : Binds K fd ["_law_deeds_here", "_law_held", "_law_lots"] []) (B : Bl mg) (c_L_cut : Cal P w K mg base 1 "_law_cut" spCut) : ∀ n, Cal P w K mg base (n + 2) "_law_gone" (spDo K n) := by
  intro n
  induction n with
  | zero =>
    refine cal_never F gF b fun vs H Q E h => ?_
    obtain ⟨_, _, _, _, _, _, _, _, _, _, _, _, hd, _⟩ := h
    omega
  | succ n c_L_gone =>
  refine ⟨f, fd, _, F.ok sc_L_gone (fun vs H Q E h => ?_) (fun cdv A outer s H vs Q E hr h => ?_), gF, F.kp, b⟩
  · obtain ⟨_, _, _, _, _, _, _, _, rfl, _⟩ := h
    rfl
  · obtain ⟨p, r, sv, xs, d, many, rs, ss, rfl, hp, hd, ho, hdp, hR, hS, q⟩ := h
    refine ⟨_, (pss_cons (ps_for PassesOwn.never rfl (pi_tup (pv 0)) (pg_name (i := 3) sc_L_gone.nd rfl (.inl rfl)) (pss_cons (ps_asg (pe_slice sl_tupA (pv 3) po_none (po_some pe_int)) (pg_tup rfl (pgs_cons (pg_name (i := 4) sc_L_gone.nd rfl (.inl rfl)) (pgs_cons (pg_name (i := 5) sc_L_gone.nd rfl (.inl rfl)) (pgs_cons (pg_name (i := 6) sc_L_gone.nd rfl (.inl rfl)) pgs_nil))))) (pss_one (ps_if (pt_cmpR op_eq (pv 4) pe_str (nomark _)) (pss_one (ps_set (i := 1) sc_L_gone.nd rfl (.inl rfl) (pe_c c_L_gone hr (by omega) (by rfl) (pa_cons (pe_cut (pe_ifExp (pt_cmpR op_lt (pe_ix ix_tup (pv 1) (pv 5) (fun _ _ => rfl)) (pv 6) (nomark _)) (pe_ix ix_tup (pv 3) pe_int (fun _ _ => rfl)) (pe_ix ix_tup (pv 3) pe_int (fun _ _ => rfl)))) (pa_cons (pv 1) (pa_cons (pv 2) pa_nil)))))) (pss_cons (ps_set (i := 7) sc_L_gone.nd rfl (.inl rfl) (pe_dget2 (hu_of hr) (pe_disp (pps_cons pe_str (pe_op op_fdivW (pe_op op_mul pe_int (pe_ix ix_tup (pv 2) (pe_op op_mod (pv 6) (pe_callB call_len_seq (by rfl) B.len PySem.boot_len (pa_cons (pv 2) pa_nil))) (fun _ _ => rfl))) (pe_callB (cr_sumT rfl) (by rfl) B.sum (by decide +kernel) (pa_cons (pv 2) pa_nil))) (pps_cons pe_str (pe_ix ix_tup (pv 1) (pe_op op_mod (pv 6) pe_int) (fun _ _ => rfl)) pps_nil)) (by rfl) (by rfl) (by simp) (by decide)) (pv 4) (pv 6) ⟨by rfl, by rfl, by rfl, by rfl⟩)) (C8.pss_cut (ps_if (pt_cmpR op_in_seq (pv 4) (pe_tup (pa_cons pe_str (pa_cons pe_str pa_nil))) (by rfl)) (pss_one (ps_set (i := 7) sc_L_gone.nd rfl (.inl rfl) (pe_op op_add (pe_ix ix_tup (pv 1) (pv 5) (fun _ _ => rfl)) (pe_cut (pe_ifExp (pt_cmpR op_eq (pv 4) pe_str (nomark _)) (pv 6) (pe_ix ix_tup (pv 1) (pv 6) (fun _ _ => rfl))))))) pss_nil) (pss_one (ps_set (i := 1) sc_L_gone.nd rfl (.inl rfl) (pe_op op_catA (pe_op op_catA (pe_slice sl_tupA (pv 1) po_none (po_some (pv 5))) (pe_tup (pa_cons (pe_c c_L_cut hr (by omega) (by rfl) (pa_cons (pv 7) pa_nil)) pa_nil))) (pe_slice sl_tupA (pv 1) (po_some (pe_op op_add (pv 5) pe_int)) po_none)))))))))) (pss_one (ps_ret (pv 1)))), ?_⟩
    have two_le : 2 ≤ sizeLine := by decide
    refine ⟨.ref p, rfl, p, rfl, ⟨_, hp⟩, for_tup (xs := xs) (fun i σ H' => ∃ y3 y4 y5 y6 y7 v rs', σ = [some (.ref p), some v, some sv, y3, y4, y5, y6, y7] ∧ Same H H' ∧ RegsAt K H' rs' v ∧ ap ss (d.drop i) rs' = ap ss d rs) ⟨none, none, none, none, none, r, rs, rfl, Same.refl _, hR, rfl⟩ ?_ ?_ ?_⟩
    · rintro i σ H' _ ⟨_, _, _, _, _, _, _, _, sm, _⟩
      exact same_sqt sm hp
    · rintro i x σ H1 hx ⟨y3, y4, y5, y6, y7, v, rs', rfl, sm1, hR1, hap⟩
      have hil := (List.getElem?_eq_some_iff.mp hx).1
      have hdi := (hd.drop i).same sm1
      have hoi := ho.drop i
      have hpi := d.dep_drop i
      rw [List.drop_eq_getElem_cons hil] at hdi
      have ex : xs[i] = x := (List.getElem?_eq_some_iff.mp hx).2
      rw [ex] at hdi
      have etl : d.drop (i + 1) = (d.drop i).tl := rfl
      have hrok := hR1.ok
      obtain ⟨pr, rfl, hpr, hl4, hb4⟩ := hR1
      obtain ⟨ps, rfl, hps, hsl, hsb, hs0, hs1⟩ := hS.same sm1
      have hwl : (rs'.map V.int).length = 4 := by rw [List.length_map]; exact hl4
      cases e : d.drop i with
      | nil =>
        rw [e] at hdi
        cases hdi
      | op o k z rest =>
        rw [e] at hdi hoi hap etl
        obtain ⟨pd, us, eq1, hq, _⟩ := hdi
        cases eq1
        obtain ⟨ok, oz, _⟩ := hoi
        have hne : decide (V.str (dn o) = V.str "when") = false := by cases o <;> decide
        refine ⟨.ref pd, rfl, 3, rfl, slA hq fun H2 p2 sm2 hp2 => ?_⟩
        have hp2 : SqT K H2 p2 [.str (dn o), .int (k : Int), .int z] := hp2
        refine ⟨p2, _, rfl, hp2, rfl, _, _, rfl, _, _, rfl, _, _, rfl, rfl, ?_⟩
        refine ⟨_, rfl, rfl, _, rfl, iteFF hne ?_⟩
        have m4 : 0 ≤ z % 4 ∧ z % 4 < 4 := ⟨Int.emod_nonneg _ (by decide), Int.emod_lt_of_pos _ (by decide)⟩
        have hsp : 0 < (ss.map V.int).length := by
          rw [List.length_map]
          cases ss with
          | nil => exact absurd hs0 (by decide)
          | cons => simp
        have ms : 0 ≤ z % (((ss.map V.int).length : Nat) : Int) ∧ z % (((ss.map V.int).length : Nat) : Int) < (((ss.map V.int).length : Nat) : Int) := ⟨Int.emod_nonneg _ (by omega), Int.emod_lt_of_pos _ (by omega)⟩
        refine fun dp ndp => ?_
        have sd := same_new (o := HO.dK []) ndp
        have hps2 := same_sqt sd (same_sqt sm2 hps)
        have hpr2 := same_sqt sd (same_sqt sm2 hpr)
        refine ⟨.ref ps, rfl, .int z, rfl, .ref ps, rfl, ps, _, rfl, .inr hps2, z, _, rfl, rfl, by omega, ps, _, _, _, rfl, rfl, hps2, at_int ms.1 (by have h := ms.2; rw [List.length_map] at h ⊢; exact h), 1000, _, rfl, rfl, .inl ⟨by decide, by decide⟩, .ref ps, rfl, ps, ss, rfl, hps2, _, _, rfl, rfl, wide_div (b := 200) hs0 (by omega) (by decide) (by decide), ?_⟩
        refine ⟨.ref pr, rfl, .int z, rfl, z, 4, rfl, rfl, (by show (0 : Int) < 4; decide), pr, _, _, _, rfl, rfl, hpr2, at_int m4.1 (by omega), ?_⟩
        refine ⟨upd_same, [(Sum.inr "told", _), (Sum.inr "copy", _)], rfl, (by show 2 ≤ 15; decide), ?_⟩
        refine ⟨dp, rfl, .inl ⟨_, .inl upd_same⟩, .str (dn o), rfl, .int z, rfl, _, DGet.k (k := Sum.inr (dn o)) upd_same, ?_⟩
        have smD : ∀ o', Same H1 (upd (upd H2 dp (HO.dK [])) dp o') := fun o' b' ob eb => by
          have h2 := sm2 _ _ eb
          rw [upd_ne (ne_of_none h2 ndp), upd_ne (ne_of_none h2 ndp)]
          exact h2
        have smD := smD (HO.dK (mergeK [] [(Sum.inr "told", V.int (1000 * ss.getD (z % (((ss.map V.int).length : Nat) : Int)).toNat 0 / ss.sum)), (Sum.inr "copy", V.int (rs'.getD (z % 4).toNat 0))]))
        generalize hgD : upd (upd H2 dp (HO.dK [])) dp (HO.dK (mergeK [] [(Sum.inr "told", V.int (1000 * ss.getD (z % (((ss.map V.int).length : Nat) : Int)).toNat 0 / ss.sum)), (Sum.inr "copy", V.int (rs'.getD (z % 4).toNat 0))])) = H3 at smD
        have hpr3 := same_sqt smD hpr
        refine ⟨fun σ H' => σ = [some (.ref p), some (.ref pr), some (.ref ps), some (.ref pd), some (.str (dn o)), some (.int (k : Int)), some (.int z), some (.int (hb ss o k z rs'))] ∧ Same H1 H', ?_, ?_⟩
        · cases o with
          | put => exact ⟨_, rfl, two_le, fun t nt => ⟨t, _, rfl, .inr (SqT.of upd_same), rfl, rfl, _, rfl, iteFF rfl ⟨rfl, smD.trans (same_new nt)⟩⟩⟩
          | add =>
            refine ⟨_, rfl, two_le, fun t nt => ⟨t, _, rfl, .inr (SqT.of upd_same), rfl, rfl, _, rfl, iteTT rfl ?_⟩⟩
            have st := same_new (o := .tup [.str "add", .str "plus"]) nt
            refine ⟨.ref pr, rfl, .int (k : Int), rfl, pr, _, _, _, rfl, rfl, same_sqt st hpr3, at_nth (by omega), ?_⟩
            refine ⟨fun v H' => v = .int z ∧ Same H1 H', ⟨_, rfl, rfl, _, rfl, iteTT rfl ⟨_, rfl, rfl, smD.trans st⟩⟩, ?_⟩
            rintro v H' ⟨rfl, sm'⟩
            exact ⟨_, _, rfl, rfl, rfl, sm'⟩
          | copy =>
            refine ⟨_, rfl, two_le, fun t nt => ⟨t, _, rfl, .inr (SqT.of upd_same), rfl, rfl, _, rfl, iteFF rfl ⟨?_, smD.trans (same_new nt)⟩⟩⟩
            have em : z % 4 = z := Int.emod_eq_of_lt oz.1 oz.2
            show [_, _, _, _, _, _, _, some (V.int (rs'.getD (z % 4).toNat 0))] = _
            rw [em]
            rfl
          | plus =>
            refine ⟨_, rfl, two_le, fun t nt => ⟨t, _, rfl, .inr (SqT.of upd_same), rfl, rfl, _, rfl, iteTT rfl ?_⟩⟩
            have st := same_new (o := .tup [.str "add", .str "plus"]) nt
            refine ⟨.ref pr, rfl, .int (k : Int), rfl, pr, _, _, _, rfl, rfl, same_sqt st hpr3, at_nth (by omega), ?_⟩
            refine ⟨fun v H' => v = .int (rs'.getD z.toNat 0) ∧ Same H1 H', ⟨_, rfl, rfl, _, rfl, iteFF rfl ⟨.ref pr, rfl, .int z, rfl, pr, _, _, _, rfl, rfl, same_sqt st hpr3, at_int oz.1 (by have := oz.2; omega), rfl, smD.trans st⟩⟩, ?_⟩
            rintro v H' ⟨rfl, sm'⟩
            exact ⟨_, _, rfl, rfl, rfl, sm'⟩
          | told =>
            refine ⟨_, rfl, two_le, fun t nt => ⟨t, _, rfl, .inr (SqT.of upd_same), rfl, rfl, _, rfl, iteFF rfl ⟨?_, smD.trans (same_new nt)⟩⟩⟩
            have em : z % (((ss.map V.int).length : Nat) : Int) = z := Int.emod_eq_of_lt oz.1 (by rw [List.length_map, hsl]; exact oz.2)
            show [_, _, _, _, _, _, _, some (V.int (1000 * ss.getD (z % (((ss.map V.int).length : Nat) : Int)).toNat 0 / ss.sum))] = _
            rw [em]
            rfl
        · rintro σ H4 ⟨rfl, sm4⟩
          have hpr4 := same_sqt sm4 hpr
          refine ⟨.ref pr, rfl, .int (k : Int), rfl, (k : Int), rfl, slA hpr4 fun H6 p6 sm6 hp6 => ?_⟩
          rw [cutT (by omega)] at hp6
          refine ⟨_, rfl, _, rfl, fun H65 sm65 => ⟨(by show 1 ≤ sizeLine; decide), fun t7 n7 => ?_⟩⟩
          have s7 := sm65.trans (same_new (o := .tup [.int (cl (hb ss o k z rs'))]) n7)
          refine catA (same_sqt s7 hp6) (SqT.of upd_same) (Nat.le_of_lt (small1000 (by rw [List.length_take]; show _ + 1 ≤ 1000; omega))) fun H8 p8 sm8 hp8 => ?_
          have sm58 := (sm6.trans s7).trans sm8
          refine ⟨.ref pr, rfl, .int (k : Int), rfl, _, _, rfl, rfl, _, rfl, ?_⟩
          dsimp only [tNoPart]
          refine slA (same_sqt sm58 hpr4) fun H9 p9 sm9 hp9 => ?_
          rw [show (k : Int) + 1 = ((k + 1 : Nat) : Int) by omega, cutF (by omega)] at hp9
          refine catA (same_sqt sm9 hp8) hp9 (Nat.le_of_lt (small1000 (by rw [List.length_append, List.length_take, List.length_drop]; show _ + 1 + _ ≤ 1000; omega))) fun H10 p10 sm10 hp10 => ?_
          rw [set_int (by omega)] at hp10
          have ok2 := hrok.set k (hb ss o k z rs')
          exact ⟨_, _, _, _, _, .ref p10, _, rfl, (sm1.trans sm4).trans ((sm58.trans sm9).trans sm10), ⟨p10, rfl, hp10, ok2.1, ok2.2⟩, by rw [etl]; exact hap⟩
      | when k c da db rest =>
        rw [e] at hdi hoi hap etl hpi
        obtain ⟨pd, pa, pb, xa, xb, us, eq1, hq, qa, ha, qb, hb', _⟩ := hdi
        cases eq1
        obtain ⟨ok, oc, oa, ob, _⟩ := hoi
        have hpi : max (max da.dep db.dep + 1) rest.dep ≤ d.dep := hpi
        refine ⟨.ref pd, rfl, 3, rfl, slA hq fun H2 p2 sm2 hp2 => ?_⟩
        have hp2 : SqT K H2 p2 [.str "when", .int (k : Int), .int c] := hp2
        refine ⟨p2, _, rfl, hp2, rfl, _, _, rfl, _, _, rfl, _, _, rfl, rfl, ?_⟩
        refine ⟨_, rfl, rfl, _, rfl, iteTT rfl ?_⟩
        have hap : ap ss rest (if rs'.getD k 0 < c then ap ss da rs' else ap ss db rs') = ap ss d rs := hap
        have hpr2 := same_sqt sm2 hpr
        have hq2 := same_sqt sm2 hq
        have hR2 : RegsAt K H2 rs' (.ref pr) := ⟨pr, rfl, hpr2, hl4, hb4⟩
        have hS2 := hS.same (sm1.trans sm2)
        refine ⟨fun v H' => H' = H2 ∧ v = (if rs'.getD k 0 < c then V.ref pa else V.ref pb), ?_, ?_⟩
        · refine ⟨.ref pr, rfl, .int (k : Int), rfl, pr, _, _, _, rfl, rfl, hpr2, at_nth (by omega), .int c, rfl, _, _, rfl, rfl, _, rfl, iteD (fun h => ?_) (fun h => ?_)⟩
          · exact ⟨.ref pd, rfl, pd, _, 3, _, rfl, rfl, hq2, rfl, rfl, by rw [if_pos h]⟩
          · exact ⟨.ref pd, rfl, pd, _, 4, _, rfl, rfl, hq2, rfl, rfl, by rw [if_neg h]⟩
        · rintro v H3 ⟨rfl, rfl⟩
          by_cases hc : rs'.getD k 0 < c
          · rw [if_pos hc]
            rw [if_pos hc] at hap
            refine ⟨.ref pr, rfl, .ref ps, rfl, pa, .ref pr, .ref ps, xa, da, many, rs', ss, rfl, same_sqt sm2 qa, ha.same sm2, oa, by omega, hR2, hS2, fun H4 v2 sm4 hR4 => ?_⟩
            exact ⟨_, _, _, _, _, v2, _, rfl, (sm1.trans sm2).trans sm4, hR4, by rw [etl]; exact hap⟩
          · rw [if_neg hc]
            rw [if_neg hc] at hap
            refine ⟨.ref pr, rfl, .ref ps, rfl, pb, .ref pr, .ref ps, xb, db, many, rs', ss, rfl, same_sqt sm2 qb, hb'.same sm2, ob, by omega, hR2, hS2, fun H4 v2 sm4 hR4 => ?_⟩
            exact ⟨_, _, _, _, _, v2, _, rfl, (sm1.trans sm2).trans sm4, hR4, by rw [etl]; exact hap⟩
    · rintro σ H1 ⟨y3, y4, y5, y6, y7, v, rs', rfl, sm1, hR1, hap⟩
      rw [ap_end hd] at hap
      rw [hap] at hR1
      exact ⟨v, rfl, q _ v sm1 hR1⟩
end
end NG

namespace NG
open PySem PySem.Spec PyProof.Rows L2
def lB : Nat → Nat
  | 0 => 0
  | n + 1 => 21 * (10 + 2 * lB n)
def spLong (K : PySem.W.Frag) (m : Nat) : Sp := fun vs H Q _ => ∃ (a : Addr) (many dp rm n : Nat) (dI rI : Int), vs = [.ref a, .int (many : Int), .int dI, .int rI] ∧ dI = (dp : Int) ∧ rI = (rm : Int) ∧ dp < m ∧ 1 ≤ dp ∧ dp ≤ 4 ∧ 1 ≤ many ∧ many ≤ 1000 ∧ rm ≤ 20 ∧ HandAt H a n ∧ n + lB dp ≤ 999990000 ∧
  ∀ H' p xs d, But a H H' → HandAt H' a (n + lB dp) → SqT K H' p xs → DsAt K H' d xs → DsOk many d → d.dep ≤ dp → d.cnt ≤ rm → Q (.ref p) H'
def spEdged (K : PySem.W.Frag) : Sp := fun vs H Q _ => ∃ (a : Addr) (many n : Nat), vs = [.ref a, .int (many : Int)] ∧ 2 ≤ many ∧ many ≤ 3 ∧ HandAt H a n ∧ n ≤ 999990000 ∧
  ∀ H' v ms, But a H H' → HandAt H' a (n + 25) → ShAt K H' many ms v → Q v H'
section
variable {P : Program} {w : World} {K : PySem.W.Frag} {mg : Str → Option Value} {base : Heap}
theorem ok_long {f : Addr} {fd : FuncData} (F : Fun K "_law_long_deeds" "_law_long_deeds" s_L_long_deeds f fd) (gF : mg "_law_long_deeds" = some (.ref f)) (b : Binds K fd ["_law_hand_here", "_law_wide", "_law_deep", "_law_room"] []) (B : Bl mg) (c_L_take : Cal P w K mg base 1 "_law_take" spTake) (c_L_of : Cal P w K mg base 2 "_law_of" (spOf K)) (c_L_figure : Cal P w K mg base 3 "_law_figure" spFigure) (c_L_deeds_many : Cal P w K mg base 11 "_law_deeds_many" (spMany K 5)) : ∀ m, Cal P w K mg base (m + 11) "_law_long_deeds" (spLong K m) := by
  intro m
  induction m with
  | zero =>
    refine cal_never F gF b fun vs H Q E h => ?_
    obtain ⟨_, _, _, _, _, _, _, _, _, _, hd, _⟩ := h
    omega
  | succ m c_L_long_deeds =>
  refine ⟨f, fd, _, F.ok sc_L_long_deeds (fun vs H Q E h => ?_) (fun cdv A outer s H vs Q E hr h => ?_), gF, F.kp, b⟩
  · obtain ⟨_, _, _, _, _, _, _, rfl, _⟩ := h
    rfl
  · obtain ⟨a, many, dp, rm, n, dI, rI, rfl, rfl, rfl, hdm, hd1, hd4, hm1, hm2, hrm, hh, hn, q⟩ := h
    refine ⟨_, (pss_cons (ps_set (i := 4) sc_L_long_deeds.nd rfl (.inl rfl) (pe_lst pa_nil)) (pss_cons (ps_while PassesOwn.never (PW.pt (pw_and (pt_cmpR op_gt (pv 3) pe_int (nomark _)) (pw_and1 (pt_cmpR op_gt (pe_c c_L_take hr (by omega) (by rfl) (pa_cons (pv 0) (pa_cons pe_int pa_nil))) pe_int (nomark _))))) (pss_cons (ps_par (i := 5) (j := 6) rfl sc_L_long_deeds.nd rfl rfl (by decide) rfl rfl (pa_cons (pe_c c_L_take hr (by omega) (by rfl) (pa_cons (pv 0) (pa_cons pe_int pa_nil))) (pa_cons (pe_c c_L_of hr (by omega) (by rfl) (pa_cons (pv 0) (pa_cons (pe_lst (pa_cons pe_str (pa_cons pe_str (pa_cons pe_str (pa_cons pe_str (pa_cons pe_str (pa_cons pe_str (pa_cons pe_str pa_nil)))))))) pa_nil))) pa_nil)) (by rfl)) (pss_cons (ps_set (i := 3) sc_L_long_deeds.nd rfl (.inl rfl) (pe_op op_sub (pv 3) pe_int)) (pss_one (ps_if (PW.pt (pw_and (pt_cmpR op_eq (pv 6) pe_str (nomark _)) (pw_and1 (pt_cmpR op_gt (pv 2) pe_int (nomark _))))) (pss_cons (ps_set (i := 7) sc_L_long_deeds.nd rfl (.inl rfl) (pe_c c_L_long_deeds hr (by omega) (by rfl) (pa_cons (pv 0) (pa_cons (pv 1) (pa_cons (pe_op op_sub (pv 2) pe_int) (pa_cons (pe_callB (call_min2 rfl) (by rfl) B.min (by decide +kernel) (pa_cons (pv 3) (pa_cons pe_int pa_nil))) pa_nil)))))) (pss_cons (ps_set (i := 3) sc_L_long_deeds.nd rfl (.inl rfl) (pe_op op_sub (pv 3) (pe_c c_L_deeds_many hr (by omega) (by rfl) (pa_cons (pv 7) pa_nil)))) (pss_cons (ps_set (i := 8) sc_L_long_deeds.nd rfl (.inl rfl) (pe_c c_L_long_deeds hr (by omega) (by rfl) (pa_cons (pv 0) (pa_cons (pv 1) (pa_cons (pe_op op_sub (pv 2) pe_int) (pa_cons (pe_callB (call_min2 rfl) (by rfl) B.min (by decide +kernel) (pa_cons (pv 3) (pa_cons pe_int pa_nil))) pa_nil)))))) (pss_cons (ps_set (i := 3) sc_L_long_deeds.nd rfl (.inl rfl) (pe_op op_sub (pv 3) (pe_c c_L_deeds_many hr (by omega) (by rfl) (pa_cons (pv 8) pa_nil)))) (pss_one (ps_expr (pe_bm PySem.F.plainAttrs_list PySem.F.slot_list_append PySem.F.type_list_append mt_append (pv 4) (pa_cons (pe_tup (pa_cons (pv 6) (pa_cons (pv 5) (pa_cons (pe_c c_L_figure hr (by omega) (by rfl) (pa_cons (pv 0) pa_nil)) (pa_cons (pv 7) (pa_cons (pv 8) pa_nil)))))) pa_nil)))))))) (pss_one (ps_if (pt_cmpR op_in_seq (pv 6) (pe_tup (pa_cons pe_str (pa_cons pe_str pa_nil))) (by rfl)) (pss_one (ps_expr (pe_bm PySem.F.plainAttrs_list PySem.F.slot_list_append PySem.F.type_list_append mt_append (pv 4) (pa_cons (pe_tup (pa_cons (pv 6) (pa_cons (pv 5) (pa_cons (pe_c c_L_take hr (by omega) (by rfl) (pa_cons (pv 0) (pa_cons pe_int pa_nil))) pa_nil)))) pa_nil)))) (pss_one (ps_if (pt_cmpR op_eq (pv 6) pe_str (nomark _)) (pss_one (ps_expr (pe_bm PySem.F.plainAttrs_list PySem.F.slot_list_append PySem.F.type_list_append mt_append (pv 4) (pa_cons (pe_tup (pa_cons (pv 6) (pa_cons (pv 5) (pa_cons (pe_c c_L_take hr (by omega) (by rfl) (pa_cons (pv 0) (pa_cons (pv 1) pa_nil))) pa_nil)))) pa_nil)))) (pss_one (ps_expr (pe_bm PySem.F.plainAttrs_list PySem.F.slot_list_append PySem.F.type_list_append mt_append (pv 4) (pa_cons (pe_tup (pa_cons (pe_cut (pe_ifExp (pt_cmpR op_eq (pv 6) pe_str (nomark _)) pe_str pe_str)) (pa_cons (pv 5) (pa_cons (pe_c c_L_figure hr (by omega) (by rfl) (pa_cons (pv 0) pa_nil)) pa_nil)))) pa_nil))))))))))))) (pss_one (ps_ret (pe_tupleOf (by rfl) B.tuple (pv 4)))))), ?_⟩
    have two_le : 2 ≤ sizeLine := by decide
    have three_le : 3 ≤ sizeLine := by decide
    have five_le : 5 ≤ sizeLine := by decide
    obtain ⟨dq, rfl⟩ : ∃ dq, dp = dq + 1 := ⟨dp - 1, by omega⟩
    have eB : lB (dq + 1) = 21 * (10 + 2 * lB dq) := rfl
    generalize hC : 10 + 2 * lB dq = C at eB
    have hC10 : 10 ≤ C := by omega
    refine ⟨(by show 0 ≤ sizeLine; decide), fun g ng => ?_⟩
    have hga : g ≠ a := hh.ne ng
    refine ⟨fun z σ H' => ∃ zI y5 y6 y7 y8 us d, σ = [some (.ref a), some (.int (many : Int)), some (.int ((dq + 1 : Nat) : Int)), some (.int zI), some (.ref g), y5, y6, y7, y8] ∧ zI = (z : Int) ∧ z ≤ rm ∧ But a H H' ∧ HandAt H' a (n + (rm - z) * C) ∧ H' g = some (.lst us) ∧ DsAt K H' d us ∧ DsOk many d ∧ d.dep ≤ dq + 1 ∧ d.cnt + z ≤ rm, ⟨rm, _, none, none, none, none, [], .nil, rfl, rfl, Nat.le_refl _, But.new ng, (by rw [Nat.sub_self, Nat.zero_mul]; exact hh.new ng), upd_same, rfl, trivial, Nat.zero_le _, by show 0 + rm ≤ rm; omega⟩, ?_⟩
    rintro z σ H1 ⟨zI, y5, y6, y7, y8, us, d, rfl, hzI, hzr, b1, hh1, hg1, hd1', ho1, hdp1, hct1⟩
    have hul : us.length ≤ 20 := by
      have h1 := hd1'.len
      have h2 := d.len_le
      omega
    have hcap : (rm - z) * C ≤ 20 * C := Nat.mul_le_mul_right _ (by omega)
    have done : ∀ {H2 : Hp} {k : Nat}, But a H1 H2 → HandAt H2 a k → k ≤ n + (rm - z) * C + 1 → kTup K (.ref g) H2 Q := fun {H2 k} b2 hh2 hk => by
      have hg2 := b2 _ _ hga hg1
      refine .inl ⟨g, us, rfl, SqL.of hg2, fun t nt => ?_⟩
      exact q _ t us d ((b1.trans b2).trans (But.new nt)) ((hh2.new nt).le (by omega)) (SqT.of upd_same) ((hd1'.imp fun _ _ q => b2.sq hh1 q).same (same_new nt)) ho1 hdp1 (by omega)
    refine ⟨.int zI, rfl, _, _, rfl, rfl, _, rfl, iteD (fun c => ?_) (fun c => iteFF rfl ⟨.ref g, rfl, done (But.refl _ _) hh1 (by omega)⟩)⟩
    obtain ⟨z0, rfl⟩ : ∃ z0, z = z0 + 1 := ⟨z - 1, by omega⟩
    have hstep : (rm - (z0 + 1)) * C + C = (rm - z0) * C := by
      rw [show rm - z0 = (rm - (z0 + 1)) + 1 by omega, Nat.add_mul, Nat.one_mul]
    refine ⟨.ref a, rfl, a, 6, _, rfl, by decide, by decide, hh1, by omega, fun H2 u b2 hh2 u0 u1 => ⟨_, _, rfl, rfl, _, rfl, iteD (fun c2 => ?_) (fun c2 => ⟨.ref g, rfl, done b2 hh2 (by omega)⟩)⟩⟩
    refine ⟨fun σ' H' => ∃ m', m' < z0 + 1 ∧ ∃ zI y5 y6 y7 y8 us d, σ' = [some (.ref a), some (.int (many : Int)), some (.int ((dq + 1 : Nat) : Int)), some (.int zI), some (.ref g), y5, y6, y7, y8] ∧ zI = (m' : Int) ∧ m' ≤ rm ∧ But a H H' ∧ HandAt H' a (n + (rm - m') * C) ∧ H' g = some (.lst us) ∧ DsAt K H' d us ∧ DsOk many d ∧ d.dep ≤ dq + 1 ∧ d.cnt + m' ≤ rm, fun _ _ h => h, ?_⟩
    refine ⟨.ref a, rfl, a, 4, _, rfl, by decide, by decide, hh2, by omega, fun H3 kI b3 hh3 k0 k1 => ⟨.ref a, rfl, (by show 7 ≤ sizeLine; decide), fun l nl => ?_⟩⟩
    obtain ⟨k, rfl⟩ : ∃ k' : Nat, kI = (k' : Int) := ⟨kI.toNat, by omega⟩
    refine ⟨a, l, _, _, rfl, (hh3.ne nl).symm, upd_same, (by show 0 < 7; decide), (by show 7 ≤ 1000; decide), hh3.new nl, by omega, fun H4 wv b4 hh4 hwv => ⟨_, _, rfl, ?_⟩⟩
    have b14 := ((b2.trans b3).trans (But.new nl)).trans b4
    have key : wv = .str "when" ∨ ∃ o : D5, wv = .str (dn o) := by
      have hwv : wv ∈ ([.str "put", .str "add", .str "copy", .str "plus", .str "told", .str "add", .str "when"] : List V) := hwv
      simp only [List.mem_cons, List.not_mem_nil, or_false] at hwv
      rcases hwv with rfl | rfl | rfl | rfl | rfl | rfl | rfl
      · exact .inr ⟨.put, rfl⟩
      · exact .inr ⟨.add, rfl⟩
      · exact .inr ⟨.copy, rfl⟩
      · exact .inr ⟨.plus, rfl⟩
      · exact .inr ⟨.told, rfl⟩
      · exact .inr ⟨.add, rfl⟩
      · exact .inl rfl
    have hg4 := b14 _ _ hga hg1
    have hd4' := hd1'.imp fun _ _ q => b4.sq (hh3.new nl) (same_sqt (same_new nl) (b3.sq hh2 (b2.sq hh1 q)))
    have b04 := b1.trans b14
    have hh4 : HandAt H4 a (n + (rm - (z0 + 1)) * C + 3) := hh4
    refine ⟨.int zI, rfl, _, _, rfl, rfl, ?_⟩
    -- one deed more at the list's end
    have core : ∀ {H5 : Hp} {k5 : Nat} (dd : Ds) (tp : List V) (t : Addr), But a H4 H5 → HandAt H5 a k5 → H5 t = none → (DsAt K (upd H5 t (.tup tp)) dd [.ref t]) →
        (upd H5 t (.tup tp)) g = some (.lst us) ∧ us.length < sizeLine ∧ But a H (upd (upd H5 t (.tup tp)) g (.lst (us ++ [.ref t]))) ∧ HandAt (upd (upd H5 t (.tup tp)) g (.lst (us ++ [.ref t]))) a k5 ∧ (upd (upd H5 t (.tup tp)) g (.lst (us ++ [.ref t]))) g = some (.lst (us ++ [.ref t])) ∧ DsAt K (upd (upd H5 t (.tup tp)) g (.lst (us ++ [.ref t]))) (d.app dd) (us ++ [.ref t]) := fun {H5 k5} dd tp t b5 hh5 nt hdd => by
      have st := same_new (o := .tup tp) nt
      have hgt := st _ _ (b5 _ _ hga hg4)
      refine ⟨hgt, small1000 (by omega), fun b' o nb eb => ?_, (hh5.new nt).put hga, upd_same, ?_⟩
      · rw [upd_ne (ne_of_none eb ng)]
        exact st _ _ (b5 _ _ nb (b04 _ _ nb eb))
      · exact DsAt.app ((hd4'.imp fun _ _ q => same_sqt st (b5.sq hh4 q)).imp fun _ _ q => put_sqt hgt q) (hdd.imp fun _ _ q => put_sqt hgt q)
    have fin : ∀ {H5 : Hp} {k5 : Nat} (o : D5) (x : Int) (t : Addr), But a H4 H5 → HandAt H5 a k5 → k5 ≤ n + (rm - (z0 + 1)) * C + 6 → H5 t = none → xok many o x →
        (upd H5 t (.tup [.str (dn o), .int (k : Int), .int x])) g = some (.lst us) ∧ us.length < sizeLine ∧ ∃ m', m' < z0 + 1 ∧ zI - 1 = (m' : Int) ∧ m' ≤ rm ∧ But a H (upd (upd H5 t (.tup [.str (dn o), .int (k : Int), .int x])) g (.lst (us ++ [.ref t]))) ∧ HandAt (upd (upd H5 t (.tup [.str (dn o), .int (k : Int), .int x])) g (.lst (us ++ [.ref t]))) a (n + (rm - m') * C) ∧ (upd (upd H5 t (.tup [.str (dn o), .int (k : Int), .int x])) g (.lst (us ++ [.ref t]))) g = some (.lst (us ++ [.ref t])) ∧ DsAt K (upd (upd H5 t (.tup [.str (dn o), .int (k : Int), .int x])) g (.lst (us ++ [.ref t]))) (d.app (.op o k x .nil)) (us ++ [.ref t]) ∧ DsOk many (d.app (.op o k x .nil)) ∧ (d.app (.op o k x .nil)).dep ≤ dq + 1 ∧ (d.app (.op o k x .nil)).cnt + m' ≤ rm := fun o x t b5 hh5 hk5 nt hx => by
      obtain ⟨h1, h2, h3, h4, h5, h6⟩ := core (.op o k x .nil) [.str (dn o), .int (k : Int), .int x] t b5 hh5 nt ⟨t, [], rfl, SqT.of upd_same, rfl⟩
      refine ⟨h1, h2, z0, by omega, by omega, by omega, h3, h4.le (by omega), h5, h6, ho1.app ⟨by omega, hx, trivial⟩, ?_, ?_⟩
      · rw [Ds.dep_app]
        show max d.dep (max 1 0) ≤ _
        omega
      · rw [Ds.cnt_app]
        show d.cnt + (1 + 0) + z0 ≤ rm
        omega
    rcases key with rfl | ⟨o, rfl⟩
    · refine ⟨_, rfl, rfl, _, rfl, iteTT rfl ⟨.int ((dq + 1 : Nat) : Int), rfl, _, _, rfl, rfl, _, rfl, iteD (fun cd => ?_) (fun cd => ?_)⟩⟩
      · -- a when
        have hdq : 1 ≤ dq := by omega
        have hmn : ∀ (y : Int) (yn : Nat), y = (yn : Int) → (if (6 : Int) < y then (6 : Int) else y) = ((min yn 6 : Nat) : Int) := fun y yn hy => by
          split <;> omega
        refine ⟨.ref a, rfl, .int (many : Int), rfl, .int ((dq + 1 : Nat) : Int), rfl, _, _, rfl, rfl, .int (zI - 1), rfl, _, _, rfl, a, many, dq, min z0 6, _, _, _, rfl, by omega, hmn _ z0 (by omega), by omega, hdq, by omega, hm1, hm2, by omega, hh4, by omega, fun H5 p1 x1 d1 b5 hh5 hp1 hx1 o1 dp1 c1 => ?_⟩
        refine ⟨.int (zI - 1), rfl, .ref p1, rfl, p1, x1, d1, rfl, hp1, hx1, by omega, by omega, fun H6 sm6 => ⟨_, _, rfl, rfl, ?_⟩⟩
        have hh6 := hh5.same sm6
        refine ⟨.ref a, rfl, .int (many : Int), rfl, .int ((dq + 1 : Nat) : Int), rfl, _, _, rfl, rfl, .int (zI - 1 - (d1.cnt : Int)), rfl, _, _, rfl, a, many, dq, min (z0 - d1.cnt) 6, _, _, _, rfl, by omega, hmn _ (z0 - d1.cnt) (by omega), by omega, hdq, by omega, hm1, hm2, by omega, hh6, by omega, fun H7 p2 x2 d2 b7 hh7 hp2 hx2 o2 dp2 c2 => ?_⟩
        refine ⟨.int (zI - 1 - (d1.cnt : Int)), rfl, .ref p2, rfl, p2, x2, d2, rfl, hp2, hx2, by omega, by omega, fun H8 sm8 => ⟨_, _, rfl, rfl, ?_⟩⟩
        have hh8 := hh7.same sm8
        have b48 : But a H4 H8 := (b5.trans (But.of sm6)).trans (b7.trans (But.of sm8))
        have sq58 : ∀ p xs, SqT K H5 p xs → SqT K H8 p xs := fun _ _ h => same_sqt sm8 (b7.sq hh6 (same_sqt sm6 h))
        have sq78 : ∀ p xs, SqT K H7 p xs → SqT K H8 p xs := fun _ _ h => same_sqt sm8 h
        have hg8 := b48 _ _ hga hg4
        refine ⟨.ref g, rfl, .inl ⟨rfl, _, SqL.of hg8⟩, _, rfl, _, rfl, .ref a, rfl, a, _, rfl, hh8, by omega, fun H9 x b9 hh9 x0 x1' => ⟨.ref p1, rfl, .ref p2, rfl, five_le, fun t nt => ?_⟩⟩
        have st := same_new (o := .tup [.str "when", .int (k : Int), .int x, .ref p1, .ref p2]) nt
        have sq8t : ∀ p xs, SqT K H8 p xs → SqT K (upd H9 t (.tup [.str "when", .int (k : Int), .int x, .ref p1, .ref p2])) p xs := fun _ _ h => same_sqt st (b9.sq hh8 h)
        obtain ⟨e1, e2, e3, e4, e5, e6⟩ := core (.when k x d1 d2 .nil) [.str "when", .int (k : Int), .int x, .ref p1, .ref p2] t (b48.trans b9) hh9 nt ⟨t, p1, p2, x1, x2, [], rfl, SqT.of upd_same, sq8t _ _ (sq58 _ _ hp1), (hx1.imp sq58).imp sq8t, sq8t _ _ (sq78 _ _ hp2), (hx2.imp sq78).imp sq8t, rfl⟩
        have hc1 : d1.cnt ≤ z0 := by omega
        have hc2 : d1.cnt + d2.cnt ≤ z0 := by omega
        have hmono : (rm - (z0 + 1)) * C + C ≤ (rm - (z0 - d1.cnt - d2.cnt)) * C := by
          rw [hstep]
          exact Nat.mul_le_mul_right _ (by omega)
        refine ⟨g, us, _, rfl, rfl, e1, e2, z0 - d1.cnt - d2.cnt, by omega, _, _, _, _, _, us ++ [V.ref t], d.app (.when k x d1 d2 .nil), rfl, by omega, by omega, e3, e4.le (by omega), e5, e6, ho1.app ⟨by omega, ⟨x0, x1'⟩, o1, o2, trivial⟩, ?_, ?_⟩
        · rw [Ds.dep_app]
          show max d.dep (max (max d1.dep d2.dep + 1) 0) ≤ _
          omega
        · rw [Ds.cnt_app]
          show d.cnt + (1 + (d1.cnt + d2.cnt) + 0) + _ ≤ rm
          omega
      · -- a when where none may be: add
        refine ⟨_, rfl, two_le, fun t1 nt1 => ⟨t1, _, rfl, .inr (SqT.of upd_same), rfl, rfl, _, rfl, iteFF rfl ⟨_, rfl, rfl, _, rfl, iteFF rfl ?_⟩⟩⟩
        have s1 := same_new (o := .tup [.str "copy", .str "plus"]) nt1
        refine ⟨.ref g, rfl, .inl ⟨rfl, _, SqL.of (s1 _ _ hg4)⟩, fun v H' => v = .str "add" ∧ H' = upd H4 t1 (.tup [.str "copy", .str "plus"]), ⟨_, rfl, rfl, _, rfl, iteFF rfl ⟨rfl, rfl⟩⟩, ?_⟩
        rintro v H' ⟨rfl, rfl⟩
        refine ⟨_, rfl, .ref a, rfl, a, _, rfl, hh4.same s1, by omega, fun H5 x b5 hh5 x0 x1 => ⟨three_le, fun t nt => ?_⟩⟩
        obtain ⟨e1, e2, m', h1, h2, h3, h4, h5, h6, h7, h8, h9, h10⟩ := fin .add x t ((But.of s1).trans b5) hh5 (by omega) nt ⟨x0, x1⟩
        exact ⟨g, us, _, rfl, rfl, e1, e2, m', h1, _, _, _, _, _, us ++ [V.ref t], d.app (.op .add k x .nil), rfl, h2, h3, h4, h5, h6, h7, h8, h9, h10⟩
    · have hne : decide (V.str (dn o) = V.str "when") = false := by cases o <;> decide
      refine ⟨_, rfl, rfl, _, rfl, iteFF hne (iteFF rfl ?_)⟩
      cases o with
      | put =>
        refine ⟨_, rfl, two_le, fun t1 nt1 => ⟨t1, _, rfl, .inr (SqT.of upd_same), rfl, rfl, _, rfl, iteFF rfl ⟨_, rfl, rfl, _, rfl, iteFF rfl ?_⟩⟩⟩
        have s1 := same_new (o := .tup [.str "copy", .str "plus"]) nt1
        refine ⟨.ref g, rfl, .inl ⟨rfl, _, SqL.of (s1 _ _ hg4)⟩, fun v H' => v = .str "put" ∧ H' = upd H4 t1 (.tup [.str "copy", .str "plus"]), ⟨_, rfl, rfl, _, rfl, iteTT rfl ⟨rfl, rfl⟩⟩, ?_⟩
        rintro v H' ⟨rfl, rfl⟩
        refine ⟨_, rfl, .ref a, rfl, a, _, rfl, hh4.same s1, by omega, fun H5 x b5 hh5 x0 x1 => ⟨three_le, fun t nt => ?_⟩⟩
        obtain ⟨e1, e2, m', h1, h2, h3, h4, h5, h6, h7, h8, h9, h10⟩ := fin .put x t ((But.of s1).trans b5) hh5 (by omega) nt ⟨x0, x1⟩
        exact ⟨g, us, _, rfl, rfl, e1, e2, m', h1, _, _, _, _, _, us ++ [V.ref t], d.app (.op .put k x .nil), rfl, h2, h3, h4, h5, h6, h7, h8, h9, h10⟩
      | add =>
        refine ⟨_, rfl, two_le, fun t1 nt1 => ⟨t1, _, rfl, .inr (SqT.of upd_same), rfl, rfl, _, rfl, iteFF rfl ⟨_, rfl, rfl, _, rfl, iteFF rfl ?_⟩⟩⟩
        have s1 := same_new (o := .tup [.str "copy", .str "plus"]) nt1
        refine ⟨.ref g, rfl, .inl ⟨rfl, _, SqL.of (s1 _ _ hg4)⟩, fun v H' => v = .str "add" ∧ H' = upd H4 t1 (.tup [.str "copy", .str "plus"]), ⟨_, rfl, rfl, _, rfl, iteFF rfl ⟨rfl, rfl⟩⟩, ?_⟩
        rintro v H' ⟨rfl, rfl⟩
        refine ⟨_, rfl, .ref a, rfl, a, _, rfl, hh4.same s1, by omega, fun H5 x b5 hh5 x0 x1 => ⟨three_le, fun t nt => ?_⟩⟩
        obtain ⟨e1, e2, m', h1, h2, h3, h4, h5, h6, h7, h8, h9, h10⟩ := fin .add x t ((But.of s1).trans b5) hh5 (by omega) nt ⟨x0, x1⟩
        exact ⟨g, us, _, rfl, rfl, e1, e2, m', h1, _, _, _, _, _, us ++ [V.ref t], d.app (.op .add k x .nil), rfl, h2, h3, h4, h5, h6, h7, h8, h9, h10⟩
      | copy =>
        refine ⟨_, rfl, two_le, fun t1 nt1 => ⟨t1, _, rfl, .inr (SqT.of upd_same), rfl, rfl, _, rfl, iteTT rfl ?_⟩⟩
        have s1 := same_new (o := .tup [.str "copy", .str "plus"]) nt1
        refine ⟨.ref g, rfl, .inl ⟨rfl, _, SqL.of (s1 _ _ hg4)⟩, _, rfl, _, rfl, .ref a, rfl, a, 4, _, rfl, by decide, by decide, hh4.same s1, by omega, fun H5 x b5 hh5 x0 x1 => ⟨three_le, fun t nt => ?_⟩⟩
        obtain ⟨e1, e2, m', h1, h2, h3, h4, h5, h6, h7, h8, h9, h10⟩ := fin .copy x t ((But.of s1).trans b5) hh5 (by omega) nt ⟨x0, x1⟩
        exact ⟨g, us, _, rfl, rfl, e1, e2, m', h1, _, _, _, _, _, us ++ [V.ref t], d.app (.op .copy k x .nil), rfl, h2, h3, h4, h5, h6, h7, h8, h9, h10⟩
      | plus =>
        refine ⟨_, rfl, two_le, fun t1 nt1 => ⟨t1, _, rfl, .inr (SqT.of upd_same), rfl, rfl, _, rfl, iteTT rfl ?_⟩⟩
        have s1 := same_new (o := .tup [.str "copy", .str "plus"]) nt1
        refine ⟨.ref g, rfl, .inl ⟨rfl, _, SqL.of (s1 _ _ hg4)⟩, _, rfl, _, rfl, .ref a, rfl, a, 4, _, rfl, by decide, by decide, hh4.same s1, by omega, fun H5 x b5 hh5 x0 x1 => ⟨three_le, fun t nt => ?_⟩⟩
        obtain ⟨e1, e2, m', h1, h2, h3, h4, h5, h6, h7, h8, h9, h10⟩ := fin .plus x t ((But.of s1).trans b5) hh5 (by omega) nt ⟨x0, x1⟩
        exact ⟨g, us, _, rfl, rfl, e1, e2, m', h1, _, _, _, _, _, us ++ [V.ref t], d.app (.op .plus k x .nil), rfl, h2, h3, h4, h5, h6, h7, h8, h9, h10⟩
      | told =>
        refine ⟨_, rfl, two_le, fun t1 nt1 => ⟨t1, _, rfl, .inr (SqT.of upd_same), rfl, rfl, _, rfl, iteFF rfl ⟨_, rfl, rfl, _, rfl, iteTT rfl ?_⟩⟩⟩
        have s1 := same_new (o := .tup [.str "copy", .str "plus"]) nt1
        refine ⟨.ref g, rfl, .inl ⟨rfl, _, SqL.of (s1 _ _ hg4)⟩, _, rfl, _, rfl, .ref a, rfl, .int (many : Int), rfl, a, many, _, rfl, by omega, by omega, hh4.same s1, by omega, fun H5 x b5 hh5 x0 x1 => ⟨three_le, fun t nt => ?_⟩⟩
        obtain ⟨e1, e2, m', h1, h2, h3, h4, h5, h6, h7, h8, h9, h10⟩ := fin .told x t ((But.of s1).trans b5) hh5 (by omega) nt ⟨x0, x1⟩
        exact ⟨g, us, _, rfl, rfl, e1, e2, m', h1, _, _, _, _, _, us ++ [V.ref t], d.app (.op .told k x .nil), rfl, h2, h3, h4, h5, h6, h7, h8, h9, h10⟩
end
end NG

namespace NG
open PySem PySem.Spec PyProof.Rows L2
theorem rep_zero : ∀ m, (List.replicate m [V.int 0]).flatten = (List.replicate m (0 : Int)).map V.int
  | 0 => rfl
  | m + 1 => by
    rw [List.replicate_succ, List.flatten_cons, rep_zero m]
    rfl
section
variable {P : Program} {w : World} {K : PySem.W.Frag} {mg : Str → Option Value} {base : Heap}
theorem ok_edged {f : Addr} {fd : FuncData} (F : Fun K "_law_edged" "_law_edged" s_L_edged f fd) (gF : mg "_law_edged" = some (.ref f)) (b : Binds K fd ["_law_hand_here", "_law_wide"] []) (B : Bl mg) (c_L_take : Cal P w K mg base 1 "_law_take" spTake) (c_L_of : Cal P w K mg base 2 "_law_of" (spOf K)) (c_L_shares : Cal P w K mg base 3 "_law_shares" (spShares K)) (c_L_lowest : Cal P w K mg base 1 "_law_lowest" (spLow K)) : Cal P w K mg base 4 "_law_edged" (spEdged K) := by
  refine ⟨f, fd, _, F.ok sc_L_edged (fun vs H Q E h => ?_) (fun cdv A outer s H vs Q E hr h => ?_), gF, F.kp, b⟩
  · obtain ⟨_, _, _, rfl, _⟩ := h
    rfl
  · obtain ⟨a, many, n, rfl, hm1, hm2, hh, hn, q⟩ := h
    refine ⟨_, (pss_cons (ps_if (pt_cmpR op_eq (pe_c c_L_take hr (by omega) (by rfl) (pa_cons (pv 0) (pa_cons pe_int pa_nil))) pe_int (nomark _)) (pss_one (ps_ret (pe_c c_L_shares hr (by omega) (by rfl) (pa_cons (pv 0) (pa_cons (pv 1) pa_nil))))) pss_nil) (pss_cons (ps_par (i := 2) (j := 3) rfl sc_L_edged.nd rfl rfl (by decide) rfl rfl (pa_cons (pe_c c_L_take hr (by omega) (by rfl) (pa_cons (pv 0) (pa_cons pe_int pa_nil))) (pa_cons (pe_c c_L_of hr (by omega) (by rfl) (pa_cons (pv 0) (pa_cons (pe_lst (pa_cons pe_int (pa_cons pe_int (pa_cons pe_int (pa_cons (pe_op op_pow pe_int pe_int) pa_nil))))) pa_nil))) pa_nil)) (by rfl)) (pss_cons (ps_set (i := 4) sc_L_edged.nd rfl (.inl rfl) (pe_lst (pa_cons (pe_op op_sub pe_int (pv 2)) (pa_cons (pv 2) pa_nil)))) (C8.pss_cut (ps_if (PW.pt (pw_and (pt_cmpR op_gt (pv 2) pe_int (nomark _)) (pw_and1 (pt_cmpR op_eq (pe_c c_L_take hr (by omega) (by rfl) (pa_cons (pv 0) (pa_cons pe_int pa_nil))) pe_int (nomark _))))) (pss_one (ps_set (i := 4) sc_L_edged.nd rfl (.inl rfl) (pe_lst (pa_cons (pe_op op_add (pe_op op_mul (pv 3) (pe_ix ix_list (pv 4) pe_int (fun _ _ => rfl))) pe_int) (pa_cons (pe_op op_sub (pe_op op_mul (pv 3) (pv 2)) pe_int) pa_nil))))) pss_nil) (pss_cons (ps_set (i := 4) sc_L_edged.nd rfl (.inl rfl) (pe_op op_cat (pv 4) (pe_op op_rep (pe_lst (pa_cons pe_int pa_nil)) (pe_op op_sub (pv 1) pe_int)))) (C8.pss_cut (ps_if (pt_cmpR op_eq (pe_c c_L_take hr (by omega) (by rfl) (pa_cons (pv 0) (pa_cons pe_int pa_nil))) pe_int (nomark _)) (pss_one (ps_expr (pe_bm0 PySem.F.plainAttrs_list PySem.F.slot_list_reverse PySem.F.type_list_reverse mt_reverse (pv 4)))) pss_nil) (pss_one (ps_ret (pe_c c_L_lowest hr (by omega) (by rfl) (pa_cons (pv 4) pa_nil)))))))))), ?_⟩
    have two_le : 2 ≤ sizeLine := by decide
    refine ⟨.ref a, rfl, a, 2, _, rfl, by decide, by decide, hh, by omega, fun H1 r b1 hh1 r0 r1 => ⟨rfl, _, rfl, iteD (fun c => ?_) (fun c => ?_)⟩⟩
    · refine ⟨.ref a, rfl, .int (many : Int), rfl, a, many, _, rfl, by omega, hm2, hh1, by omega, fun H2 v ms b2 hh2 hv => ?_⟩
      exact q _ _ ms (b1.trans b2) (hh2.le (by omega)) hv
    · refine ⟨.ref a, rfl, a, 1001, _, rfl, by decide, by decide, hh1, by omega, fun H2 g b2 hh2 g0 g1 => ⟨.ref a, rfl, 10, 9, rfl, rfl, ⟨by decide, by decide, by decide⟩, (by show 4 ≤ sizeLine; decide), fun l1 n1 => ?_⟩⟩
      refine ⟨a, l1, _, _, rfl, (hh2.ne n1).symm, upd_same, (by show 0 < 4; decide), (by show 4 ≤ 1000; decide), hh2.new n1, by omega, fun H3 fv b3 hh3 hfv => ⟨_, _, rfl, ?_⟩⟩
      obtain ⟨fr, rfl, f0, f1⟩ : ∃ fr : Int, fv = .int fr ∧ 1 ≤ fr ∧ fr ≤ 1000000000 := by
        have hfv : fv ∈ ([.int 1, .int 7, .int 1000, .int (10 ^ (9 : Int).toNat)] : List V) := hfv
        simp only [List.mem_cons, List.not_mem_nil, or_false] at hfv
        rcases hfv with rfl | rfl | rfl | rfl
        · exact ⟨_, rfl, by decide, by decide⟩
        · exact ⟨_, rfl, by decide, by decide⟩
        · exact ⟨_, rfl, by decide, by decide⟩
        · exact ⟨_, rfl, by decide, by decide⟩
      have b03 := ((b1.trans b2).trans (But.new n1)).trans b3
      refine ⟨.int g, rfl, _, _, rfl, rfl, .int g, rfl, two_le, fun l2 n2 => ?_⟩
      have s2 := same_new (o := .lst [.int (1000 - g), .int g]) n2
      have h2 : (upd H3 l2 (.lst [.int (1000 - g), .int g])) l2 = some (.lst [.int (1000 - g), .int g]) := upd_same
      have hh4 := hh3.new (o := .lst [.int (1000 - g), .int g]) n2
      have b04 := b03.trans (But.of s2)
      generalize upd H3 l2 (.lst [.int (1000 - g), .int g]) = H4 at s2 h2 hh4 b04
      have hga : l2 ≠ a := hh3.ne n2
      refine ⟨fun σ H' => ∃ lr x y, σ = [some (.ref a), some (.int (many : Int)), some (.int g), some (.int fr), some (.ref lr)] ∧ H' lr = some (.lst [.int x, .int y]) ∧ (0 ≤ x ∧ x < 2 ^ 50) ∧ (0 ≤ y ∧ y < 2 ^ 50) ∧ (0 < x ∨ 0 < y) ∧ But a H H' ∧ HandAt H' a (n + 4), ?_, ?_⟩
      · refine ⟨.int g, rfl, _, _, rfl, rfl, _, rfl, iteD (fun cg => ?_) (fun cg => iteFF rfl ?_)⟩
        · refine ⟨.ref a, rfl, a, 2, _, rfl, by decide, by decide, hh4, by omega, fun H5 u b5 hh5 u0 u1 => ⟨rfl, _, rfl, iteD (fun cu => ?_) (fun cu => ?_)⟩⟩
          · have h25 := b5 _ _ hga h2
            have m1 : 0 ≤ fr * (1000 - g) ∧ fr * (1000 - g) ≤ 1000000000 * 1000 := ⟨Int.mul_nonneg (by omega) (by omega), Int.mul_le_mul f1 (by omega) (by omega) (by decide)⟩
            have m2 : 1 ≤ fr * g ∧ fr * g ≤ 1000000000 * 1000 := by
              have hg1 : 0 < g := cg
              refine ⟨?_, Int.mul_le_mul f1 (by omega) (by omega) (by decide)⟩
              have := Int.mul_pos (show 0 < fr by omega) hg1
              omega
            refine ⟨.int fr, rfl, .ref l2, rfl, l2, _, 0, _, rfl, rfl, SqL.of h25, rfl, _, _, rfl, rfl, .inl ⟨by omega, by omega⟩, _, _, rfl, rfl, .int fr, rfl, .int g, rfl, _, _, rfl, rfl, .inl ⟨by omega, by omega⟩, _, _, rfl, rfl, two_le, fun l3 n3 => ?_⟩
            exact ⟨l3, _, _, rfl, upd_same, ⟨by omega, by omega⟩, ⟨by omega, by omega⟩, .inl (by omega), (b04.trans b5).trans (But.new n3), (hh5.new n3).le (by omega)⟩
          · exact ⟨l2, _, _, rfl, b5 _ _ hga h2, ⟨by omega, by omega⟩, ⟨by omega, by omega⟩, .inr cg, b04.trans b5, hh5.le (by omega)⟩
        · exact ⟨l2, _, _, rfl, h2, ⟨by omega, by omega⟩, ⟨by omega, by omega⟩, (by have cg : ¬ 0 < g := cg; omega), b04, hh4.le (by omega)⟩
      · rintro σ H5 ⟨lr, x, y, rfl, hlr, hx, hy, hxy, b05, hh5⟩
        refine ⟨.ref lr, rfl, (by show 1 ≤ sizeLine; decide), fun l3 n3 => ?_⟩
        have s3 := same_new (o := .lst [.int 0]) n3
        refine ⟨.int (many : Int), rfl, _, _, rfl, rfl, l3, _, [.int 0], rfl, rfl, upd_same, by omega, by omega, Nat.le_of_lt (small1000 (by show 1 * _ ≤ 1000; omega)), fun l4 n4 => ?_⟩
        have s4 := same_new (o := .lst (List.replicate ((many : Int) - 2).toNat [V.int 0]).flatten) n4
        have hlr4 := s4 _ _ (s3 _ _ hlr)
        have h4 : (upd (upd H5 l3 (.lst [.int 0])) l4 (.lst (List.replicate ((many : Int) - 2).toNat [V.int 0]).flatten)) l4 = some (.lst (List.replicate ((many : Int) - 2).toNat [V.int 0]).flatten) := upd_same
        have sm4 := s3.trans s4
        clear s3 s4
        generalize upd (upd H5 l3 (.lst [.int 0])) l4 (.lst (List.replicate ((many : Int) - 2).toNat [V.int 0]).flatten) = H6 at hlr4 h4 sm4
        rw [rep_zero, show ((many : Int) - 2).toNat = many - 2 by omega] at h4
        refine ⟨lr, l4, _, _, rfl, rfl, hlr4, h4, Nat.le_of_lt (small1000 (by rw [List.length_map, List.length_replicate]; show 2 + _ ≤ 1000; omega)), fun l5 n5 => ?_⟩
        have s5 := same_new (o := .lst ([V.int x, V.int y] ++ (List.replicate (many - 2) (0 : Int)).map V.int)) n5
        have h5 : (upd H6 l5 (.lst ([V.int x, V.int y] ++ (List.replicate (many - 2) (0 : Int)).map V.int))) l5 = some (.lst (([x, y] ++ List.replicate (many - 2) 0).map V.int)) := by rw [upd_same, List.map_append]; rfl
        have sm5 := sm4.trans s5
        clear s5
        generalize upd H6 l5 (.lst ([V.int x, V.int y] ++ (List.replicate (many - 2) (0 : Int)).map V.int)) = H7 at h5 sm5
        have hh7 := hh5.same sm5
        have hl5a : l5 ≠ a := fun z => by
          obtain ⟨_, _, _, e5, _⟩ := hh5
          subst z
          rw [sm4 _ _ e5] at n5
          cases n5
        have b07 := b05.trans (But.of sm5)
        have nl5 : H l5 = none := by
          cases e : H l5 with
          | none => rfl
          | some o =>
            have h := sm4 _ _ (b05 _ _ hl5a e)
            rw [h] at n5
            cases n5
        have hb0 : ∀ z ∈ [x, y] ++ List.replicate (many - 2) (0 : Int), 0 ≤ z ∧ z < 2 ^ 50 := fun z hz => by
          rcases List.mem_append.mp hz with hz | hz
          · simp only [List.mem_cons, List.not_mem_nil, or_false] at hz
            rcases hz with rfl | rfl
            · exact hx
            · exact hy
          · rw [(List.mem_replicate.mp hz).2]
            decide
        have hp0 : ∃ z ∈ [x, y] ++ List.replicate (many - 2) (0 : Int), 0 < z := by
          rcases hxy with h | h
          · exact ⟨x, by simp, h⟩
          · exact ⟨y, by simp, h⟩
        have hl0 : ([x, y] ++ List.replicate (many - 2) (0 : Int)).length = many := by
          rw [List.length_append, List.length_replicate]
          show 2 + (many - 2) = many
          omega
        refine ⟨fun σ H' => ∃ ns : List Int, σ = [some (.ref a), some (.int (many : Int)), some (.int g), some (.int fr), some (.ref l5)] ∧ H' l5 = some (.lst (ns.map V.int)) ∧ (∀ z ∈ ns, 0 ≤ z ∧ z < 2 ^ 50) ∧ ns.length = many ∧ (∃ z ∈ ns, 0 < z) ∧ But a H H' ∧ HandAt H' a (n + 5), ?_, ?_⟩
        · refine ⟨.ref a, rfl, a, 2, _, rfl, by decide, by decide, hh7, by omega, fun H8 u b8 hh8 u0 u1 => ⟨rfl, _, rfl, iteD (fun cu => ?_) (fun cu => ?_)⟩⟩
          · have h58 := b8 _ _ hl5a h5
            refine ⟨.ref l5, rfl, .inl ⟨rfl, _, SqL.of h58⟩, l5, _, rfl, rfl, h58, ?_⟩
            refine ⟨([x, y] ++ List.replicate (many - 2) 0).reverse, rfl, ?_, fun z hz => hb0 z (List.mem_reverse.mp hz), by rw [List.length_reverse]; exact hl0, ?_, fun b' o nb eb => ?_, hh8.put hl5a⟩
            · rw [upd_same, List.map_reverse]
            · obtain ⟨z, hz, pz⟩ := hp0
              exact ⟨z, List.mem_reverse.mpr hz, pz⟩
            · rw [upd_ne (ne_of_none eb nl5)]
              exact b8 _ _ nb (b07 _ _ nb eb)
          · exact ⟨_, rfl, b8 _ _ hl5a h5, hb0, hl0, hp0, b07.trans b8, hh8⟩
        · rintro σ H8 ⟨ns, rfl, h8, hb8, hl8, ⟨z, hz, pz⟩, b08, hh8⟩
          refine ⟨.ref l5, rfl, l5, ns, z, rfl, h8, hb8, by omega, hz, pz, fun H9 v ms sm9 hv => ?_⟩
          rw [hl8] at hv
          exact q _ v ms (b08.trans (But.of sm9)) ((hh8.same sm9).le (by omega)) hv
theorem shw_regs2 {rs : List Int} (h : RegOk rs) : Shw (.list [.tuple (rs.map PyData.int), .tuple (rs.map PyData.int)]) 400 10 := by
  have h1 := (shw_smalls h.2).tup
  have h2 := ShwAll.lst (.cons h1 (.cons h1 (ShwAll.nil (k := 0)) (k := 2) (by omega) (by omega)) (by omega) (Nat.le_refl 2))
  refine h2.mono ?_ (by decide)
  rw [h.1]
  decide
def spLaw (K : PySem.W.Frag) : Sp := fun vs H Q _ => ∃ (a : Addr) (ns : List Int), vs = [.ref a] ∧ SqL K H a (ns.map V.int) ∧ ns.length ≤ 63 ∧ ∀ H', Q (.bl true) H'
theorem ok_law {f : Addr} {fd : FuncData} (F : Fun K "law" "law" s_law f fd) (B : Bl mg) (c_L_hand : Cal P w K mg base 1 "_law_hand" (spHand K)) (c_L_take : Cal P w K mg base 1 "_law_take" spTake) (c_L_of : Cal P w K mg base 2 "_law_of" (spOf K)) (c_L_registers : Cal P w K mg base 4 "_law_registers" (spRegs K)) (c_L_doubter : Cal P w K mg base 9 "_law_doubter" (spDoubter K 2)) (c_L_long_deeds : Cal P w K mg base 16 "_law_long_deeds" (spLong K 5)) (c_L_edged : Cal P w K mg base 4 "_law_edged" (spEdged K)) (c_L_gone : Cal P w K mg base 7 "_law_gone" (spDo K 5)) (c_behind : Cal P w K mg base 9 "behind" (spBehind K 5)) (k_behind : CalK P w K mg base 9 "behind" ["sign", "shares", "registers", "doubter"] (spBehind K 5)) : FnG P w K mg base 17 f fd ["_law_script"] (spLaw K) := by
  refine fnG F sc_law (fun vs H Q E h => ?_) (fun cdv A outer s H vs Q hg hr h => ?_)
  · obtain ⟨_, _, rfl, _⟩ := h
    rfl
  · obtain ⟨sc, ns, rfl, hS, hl, q⟩ := h
    refine ⟨_, (pss_cons (ps_for PassesOwn.never rfl (pi_range1 rfl B.range (pa_cons (pe_callB (call_max2 rfl) (by rfl) B.max (by decide +kernel) (pa_cons pe_int (pa_cons (pe_callB (call_min2 rfl) (by rfl) B.min (by decide +kernel) (pa_cons pe_int (pa_cons (pe_callB call_len_seq (by rfl) B.len PySem.boot_len (pa_cons (pv 0) pa_nil)) pa_nil))) pa_nil))) pa_nil)) (pg_name (i := 1) sc_law.nd rfl (.inl rfl)) (pss_cons (ps_set (i := 2) sc_law.nd rfl (.inr rfl) (pe_c c_L_hand hr (by omega) (by rfl) (pa_cons (pv 0) (pa_cons (pv 1) pa_nil)))) (pss_one (ps_for PassesOwn.never rfl (pi_range1 rfl B.range (pa_cons pe_int pa_nil)) (pg_name (i := 3) sc_law.nd rfl (.inl rfl)) (pss_cons (ps_set (i := 4) sc_law.nd rfl (.inr rfl) (pe_op op_add pe_int (pe_c c_L_take hr (by omega) (by rfl) (pa_cons (pv 2) (pa_cons pe_int pa_nil))))) (pss_cons (ps_asg (pe_c c_L_doubter hr (by omega) (by rfl) (pa_cons (pv 2) (pa_cons (pv 4) (pa_cons pe_int (pa_cons pe_int pa_nil))))) (pg_tup rfl (pgs_cons (pg_name (i := 5) sc_law.nd rfl (.inl rfl)) (pgs_cons (pg_name (i := 6) sc_law.nd rfl (.inl rfl)) (pgs_cons (pg_name (i := 7) sc_law.nd rfl (.inl rfl)) (pgs_cons (pg_name (i := 8) sc_law.nd rfl (.inl rfl)) (pgs_cons (pg_name (i := 9) sc_law.nd rfl (.inl rfl)) pgs_nil))))))) (pss_cons (ps_set (i := 10) sc_law.nd rfl (.inl rfl) (pe_tupleOf (by rfl) B.tuple (pe_lc (own := [("_law_face", 11)]) rfl sc_law.nd (pi_range1 rfl B.range (pa_cons (pv 4) pa_nil)) (blkOk_by (N := N_law) (sc := defScope s_law) (by decide +kernel)) (fun _ _ _ _ _ => pg_name (i := 11) sc_law.nd rfl (.inl rfl)) (fun _ _ _ _ _ => pts_nil) (fun _ _ _ _ _ => pe_c c_L_long_deeds hr (by omega) (by rfl) (pa_cons (pv 2) (pa_cons (pv 4) (pa_cons pe_int (pa_cons pe_int pa_nil)))))))) (pss_cons (ps_set (i := 12) sc_law.nd rfl (.inl rfl) (pe_tup (pa_cons (pv 5) (pa_cons (pv 6) (pa_cons (pv 7) (pa_cons (pv 8) (pa_cons (pv 10) pa_nil))))))) (pss_cons (ps_par (i := 13) (j := 14) rfl sc_law.nd rfl rfl (by decide) rfl rfl (pa_cons (pe_callB (cr_repr hg hr.units) (by rfl) B.repr (by decide +kernel) (pa_cons (pv 12) pa_nil)) (pa_cons (pe_lst (pa_cons (pv 7) (pa_cons (pe_c c_L_registers hr (by omega) (by rfl) (pa_cons (pv 2) pa_nil)) (pa_cons (pe_tup (pa_cons pe_int (pa_cons (pe_un un_neg pe_int) (pa_cons pe_int (pa_cons (pe_un un_neg pe_int) pa_nil))))) pa_nil)))) pa_nil)) (by rfl)) (pss_cons (ps_set (i := 15) sc_law.nd rfl (.inl rfl) (pe_c c_L_of hr (by omega) (by rfl) (pa_cons (pv 2) (pa_cons (pv 14) pa_nil)))) (pss_one (ps_for PassesOwn.never rfl (pi_range1 rfl B.range (pa_cons (pe_op op_mul pe_int (pv 4)) pa_nil)) (pg_name (i := 16) sc_law.nd rfl (.inl rfl)) (pss_cons (ps_par (i := 11) (j := 17) rfl sc_law.nd rfl rfl (by decide) rfl rfl (pa_cons (pe_op op_mod (pv 16) (pv 4)) (pa_cons (pe_c c_L_edged hr (by omega) (by rfl) (pa_cons (pv 2) (pa_cons (pv 4) pa_nil))) pa_nil)) (by rfl)) (pss_cons (ps_set (i := 18) sc_law.nd rfl (.inl rfl) (pe_c c_L_gone hr (by omega) (by rfl) (pa_cons (pe_ix ix_tup (pv 10) (pv 11) (fun _ _ => rfl)) (pa_cons (pv 15) (pa_cons (pv 17) pa_nil))))) (pss_cons (ps_set (i := 19) sc_law.nd rfl (.inl rfl) (pe_lst (pa_cons (pe_c c_behind hr (by omega) (by rfl) (pa_cons (pv 12) (pa_cons (pv 15) (pa_cons (pv 17) (pa_cons (pv 11) pa_nil))))) pa_nil))) (pss_cons (ps_expr (pe_bm PySem.F.plainAttrs_list PySem.F.slot_list_append PySem.F.type_list_append mt_append (pv 19) (pa_cons (pe_kw k_behind hg hr (by omega) (by rfl) (pk_cons (pv 11) (pk_cons (pv 17) (pk_cons (pv 15) (pk_cons (pv 12) pk_nil))))) pa_nil))) (pss_cons (ps_if (PW.pt (pw_or (pt_cmpR op_ne (pe_callB (cr_repr hg hr.units) (by rfl) B.repr (by decide +kernel) (pa_cons (pv 19) pa_nil)) (pe_callB (cr_repr hg hr.units) (by rfl) B.repr (by decide +kernel) (pa_cons (pe_lst (pa_cons (pv 18) (pa_cons (pv 18) pa_nil))) pa_nil)) (nomark _)) (pw_or1 (pt_cmpR op_ne (pe_callB (cr_repr hg hr.units) (by rfl) B.repr (by decide +kernel) (pa_cons (pv 12) pa_nil)) (pv 13) (nomark _))))) (pss_one (ps_ret pe_bl)) pss_nil) (pss_one (ps_set (i := 15) sc_law.nd rfl (.inl rfl) (pv 18)))))))))))))))))))) (pss_one (ps_ret pe_bl))), ?_⟩
    have two_le : 2 ≤ sizeLine := by decide
    have hb : ∀ z : Int, (if z < 3 then z else 3) ≤ 3 := fun z => by split <;> omega
    have hb0 : ∀ z : Int, 0 ≤ z → 0 ≤ (if z < 3 then z else 3) := fun z hz => by split <;> omega
    have h3 := hb (((ns.map V.int).length : Nat) : Int)
    have h4 := hb0 (((ns.map V.int).length : Nat) : Int) (by omega)
    have hmx : ∀ y : Int, 0 ≤ y → y ≤ 3 → 0 ≤ (if y > 1 then y else 1) ∧ (if y > 1 then y else 1) ≤ 3 := fun y h0 h1 => by split <;> omega
    have h5 := hmx _ h4 h3
    refine ⟨.ref sc, rfl, sc, _, rfl, .inl hS, _, _, rfl, _, _, rfl, _, rfl, by omega, by omega, ?_⟩
    refine for_range (fun i σ H' => ∃ y1 y2 y3 y4 y5 y6 y7 y8 y9 y10 y11 y12 y13 y14 y15 y16 y17 y18 y19, σ = [some (.ref sc), y1, y2, y3, y4, y5, y6, y7, y8, y9, y10, y11, y12, y13, y14, y15, y16, y17, y18, y19] ∧ SqL K H' sc (ns.map V.int)) ⟨none, none, none, none, none, none, none, none, none, none, none, none, none, none, none, none, none, none, none, rfl, hS⟩ ?_ ?_
    · rintro i σ H1 hi ⟨y1, y2, y3, y4, y5, y6, y7, y8, y9, y10, y11, y12, y13, y14, y15, y16, y17, y18, y19, rfl, hS1⟩
      have hi4 : i < 4 := by omega
      refine ⟨.ref sc, rfl, .int (0 + (i : Int)), rfl, sc, _, ns, rfl, by omega, by omega, hS1, fun p g sd np g0 sd0 => ?_⟩
      have hh1 : HandAt (upd H1 p (.lst [.int g, .int sd, .int 0])) p 0 := ⟨g, sd, 0, upd_same, g0, sd0, by decide, by decide⟩
      have b1 : But p H1 (upd H1 p (.lst [.int g, .int sd, .int 0])) := But.put
      generalize upd H1 p (.lst [.int g, .int sd, .int 0]) = Ha at hh1 b1
      refine ⟨4, rfl, by decide, by decide, ?_⟩
      refine for_range (n := (4 : Int).toNat) (fun t σ H' => ∃ y3 y4 y5 y6 y7 y8 y9 y10 y11 y12 y13 y14 y15 y16 y17 y18 y19, σ = [some (.ref sc), some (.int (0 + (i : Int))), some (.ref p), y3, y4, y5, y6, y7, y8, y9, y10, y11, y12, y13, y14, y15, y16, y17, y18, y19] ∧ But p H1 H' ∧ HandAt H' p (50000000 * t)) ⟨_, _, _, _, _, _, _, _, _, _, _, _, _, _, _, _, _, rfl, b1, hh1⟩ ?_ ?_
      · rintro t σ H2 ht ⟨y3, y4, y5, y6, y7, y8, y9, y10, y11, y12, y13, y14, y15, y16, y17, y18, y19, rfl, b2, hh2⟩
        have ht : t < 4 := ht
        refine ⟨.ref p, rfl, p, 2, _, rfl, by decide, by decide, hh2, by omega, fun H3 r b3 hh3 r0 r1 => ⟨_, _, rfl, rfl, ?_⟩⟩
        obtain ⟨many, hmany, hm2, hm3⟩ : ∃ many : Nat, 2 + r = (many : Int) ∧ 2 ≤ many ∧ many ≤ 3 := ⟨(2 + r).toNat, by omega, by omega, by omega⟩
        show gName 4 (V.int (2 + r)) _ _ _
        rw [hmany]
        refine ⟨.ref p, rfl, .int (many : Int), rfl, p, many, 1, _, 0, rfl, by decide, by decide, by decide, by omega, hm3, hh3, by omega, fun H4 dv D b4 hh4 hD okD stD => ?_⟩
        obtain ⟨pd, vb, ps, pb, us, ws, rfl, hpd, hvb, hps, hus, hpb, hws⟩ := hD
        refine ⟨pd, _, rfl, hpd, rfl, _, _, rfl, _, _, rfl, _, _, rfl, _, _, rfl, _, _, rfl, rfl, ?_⟩
        have b14 := (b2.trans b3).trans b4
        have hh4 : HandAt H4 p (50000000 * t + 400) := hh4.le (by show 50000000 * t + 1 + 3 * cost 1 + 300 ≤ _; show 50000000 * t + 1 + 3 * 32 + 300 ≤ _; omega)
        have eL : lB 4 = 15937950 := by decide
        refine ⟨.int (many : Int), rfl, _, rfl, by omega, by omega, fun D2 nD2 => lc_range (n := ((many : Int)).toNat) (fun i H' => ∃ ws ds, But p H4 H' ∧ HandAt H' p (50000000 * t + 400 + lB 4 * i) ∧ H' D2 = some (.lst ws) ∧ BhAt K H' ws ds ∧ ds.length = i ∧ ∀ d ∈ ds, DsOk many d ∧ d.dep ≤ 4 ∧ d.cnt ≤ 20) ⟨[], [], But.new nD2, hh4.new nD2, upd_same, trivial, rfl, fun x h => by cases h⟩ ?_ ?_⟩
        · rintro i H7 hi ⟨ws, ds, b7, hh7, hD7, hbh, hdl, hds⟩
          have hi : i < 3 := by omega
          have hDa : D2 ≠ p := hh4.ne nD2
          have hib : lB 4 * i + lB 4 ≤ 47900000 := by
            have : i = 0 ∨ i = 1 ∨ i = 2 := by omega
            rw [eL]
            rcases this with rfl | rfl | rfl <;> omega
          refine ⟨rfl, tYes_in ?_⟩
          refine ⟨.ref p, rfl, .int (many : Int), rfl, p, many, 4, 20, _, _, _, rfl, rfl, rfl, by decide, by decide, by decide, by omega, by omega, by decide, hh7, by omega, fun H8 pp xs d b8 hh8 hp hd ho hdp hdc => ?_⟩
          have hD8 := b8 _ _ hDa hD7
          have hwl := hbh.len
          refine ⟨ws, hD8, small1000 (by omega), ws ++ [.ref pp], ds ++ [d], fun b' o nb eb => ?_, (hh8.le (by rw [Nat.mul_add]; omega)).put hDa, upd_same, BhAt.snoc (put_sqt hD8 hp) (hd.imp fun _ _ q => put_sqt hD8 q) ((hbh.imp fun _ _ q => b8.sq hh7 q).imp fun _ _ q => put_sqt hD8 q), by rw [List.length_append, hdl]; rfl, fun e' he' => ?_⟩
          · rw [upd_ne (ne_of_none eb nD2)]
            exact b8 _ _ nb (b7 _ _ nb eb)
          · rcases List.mem_append.mp he' with h | h
            · exact hds _ h
            · rw [List.mem_singleton.mp h]
              exact ⟨ho, hdp, hdc⟩
        · rintro H7 ⟨wd, ds, b7, hh7, hD7, hbh, hdl, hds⟩
          have hdl : ds.length = many := by omega
          have hh7 : HandAt H7 p (50000000 * t + 47900000) := hh7.le (by
            have : many = 2 ∨ many = 3 := by omega
            rw [eL]
            rcases this with rfl | rfl
            · show _ + 15937950 * 2 ≤ _; omega
            · show _ + 15937950 * 3 ≤ _; omega)
          refine .inl ⟨D2, wd, rfl, SqL.of hD7, fun T2 nT2 => ?_⟩
          have s8 := same_new (o := .tup wd) nT2
          have hT2 : (upd H7 T2 (.tup wd)) T2 = some (.tup wd) := upd_same
          have hh8 := hh7.new (o := .tup wd) nT2
          have hbh8 := hbh.same s8
          have b48 : But p H4 (upd H7 T2 (.tup wd)) := b7.trans (But.of s8)
          clear s8
          generalize upd H7 T2 (.tup wd) = H8 at hT2 hh8 hbh8 b48
          have sq48 : ∀ q xs, SqT K H4 q xs → SqT K H8 q xs := fun _ _ h => b48.sq hh4 h
          refine ⟨_, rfl, _, rfl, _, rfl, _, rfl, .ref T2, rfl, (by show 5 ≤ sizeLine; decide), fun t9 n9 => ?_⟩
          have s9 := same_new (o := .tup [.str D.name, .int (D.scale : Int), vb, .ref ps, .ref T2]) n9
          have sq49 : ∀ q xs, SqT K H4 q xs → SqT K (upd H8 t9 (.tup [.str D.name, .int (D.scale : Int), vb, .ref ps, .ref T2])) q xs := fun _ _ h => same_sqt s9 (sq48 _ _ h)
          have hdb : DbAt K (upd H8 t9 (.tup [.str D.name, .int (D.scale : Int), vb, .ref ps, .ref T2])) ⟨D.name, D.scale, D.begins, D.stakes, ds⟩ (.ref t9) := ⟨t9, vb, ps, T2, us, wd, rfl, SqT.of upd_same, hvb.imp sq49, sq49 _ _ hps, hus.imp sq49, same_sqt s9 (SqT.of hT2), hbh8.same s9⟩
          have hvb9 := hvb.imp sq49
          have hT9 := same_sqt s9 (SqT.of (K := K) hT2)
          have hh9 := hh8.new (o := .tup [.str D.name, .int (D.scale : Int), vb, .ref ps, .ref T2]) n9
          have b49 := b48.trans (But.of s9)
          have hbh9 := hbh8.same s9
          clear s9 sq49
          generalize upd H8 t9 (.tup [.str D.name, .int (D.scale : Int), vb, .ref ps, .ref T2]) = H9 at hdb hvb9 hT9 hh9 b49 hbh9
          have ok2 : DbOk many 4 4 20 ⟨D.name, D.scale, D.begins, D.stakes, ds⟩ := ⟨okD.nm, okD.sc, okD.rg, okD.sl, okD.st, hdl, hds⟩
          have sw0 := shw_db hm3 (by decide) (by decide) ok2
          have sw1 : Shw (dbD ⟨D.name, D.scale, D.begins, D.stakes, ds⟩) 20000 60 := sw0.mono (by decide) (by decide)
          obtain ⟨dat, hdat⟩ : ∃ dat, dat = dbD ⟨D.name, D.scale, D.begins, D.stakes, ds⟩ := ⟨_, rfl⟩
          rw [← hdat] at sw1
          have sw := sw1
          have dpd : ∀ {Hq : Hp} {u : V}, DbAt K Hq ⟨D.name, D.scale, D.begins, D.stakes, ds⟩ u → Dp K Hq u dat := fun hu => by
            rw [hdat]
            exact hu.dp
          clear hdat sw0 sw1
          have sf := sw.fits (Nat.le_refl _)
          refine ⟨.ref t9, rfl, t9, dat, rfl, dpd hdb, sw.sh, sw.dp, sf, ?_⟩
          refine ⟨vb, rfl, .ref p, rfl, p, _, rfl, hh9, by omega, fun H10 rv rs b10 hh10 hR => ⟨_, rfl, _, rfl, (by show 4 ≤ sizeLine; decide), fun t11 n11 => ?_⟩⟩
          have s11 := same_new (o := .tup [.int 1000, .int (-1000), .int 999, .int (-999)]) n11
          refine ⟨(by show 3 ≤ sizeLine; decide), fun so n12 => ⟨_, _, rfl, ?_⟩⟩
          have s12 := same_new (o := .lst [vb, rv, .ref t11]) n12
          have hh12 := ((hh10.new (o := .tup [.int 1000, .int (-1000), .int 999, .int (-999)]) n11).new (o := .lst [vb, rv, .ref t11]) n12)
          have hso : (upd (upd H10 t11 (.tup [.int 1000, .int (-1000), .int 999, .int (-999)])) so (.lst [vb, rv, .ref t11])) so = some (.lst [vb, rv, .ref t11]) := upd_same
          have all12 : ∀ u ∈ [vb, rv, V.ref t11], ∃ rs, RegsAt K (upd (upd H10 t11 (.tup [.int 1000, .int (-1000), .int 999, .int (-999)])) so (.lst [vb, rv, .ref t11])) rs u := fun u hu => by
            simp only [List.mem_cons, List.not_mem_nil, or_false] at hu
            rcases hu with rfl | rfl | rfl
            · exact ⟨_, hvb9.imp fun _ _ h => same_sqt s12 (same_sqt s11 (b10.sq hh9 h))⟩
            · exact ⟨rs, (hR.same s11).same s12⟩
            · refine ⟨[1000, -1000, 999, -999], t11, rfl, same_sqt s12 (SqT.of upd_same), rfl, fun x hx => ?_⟩
              simp only [List.mem_cons, List.not_mem_nil, or_false] at hx
              rcases hx with rfl | rfl | rfl | rfl <;> decide
          have b912 : But p H9 (upd (upd H10 t11 (.tup [.int 1000, .int (-1000), .int 999, .int (-999)])) so (.lst [vb, rv, .ref t11])) := b10.trans (But.of (s11.trans s12))
          have hsop : so ≠ p := (hh10.new (o := .tup [.int 1000, .int (-1000), .int 999, .int (-999)]) n11).ne n12
          clear s11 s12
          generalize upd (upd H10 t11 (.tup [.int 1000, .int (-1000), .int 999, .int (-999)])) so (.lst [vb, rv, .ref t11]) = H12 at hh12 hso all12 b912
          refine ⟨.ref p, rfl, .ref so, rfl, p, so, _, _, rfl, hsop.symm, hso, (by show 0 < 3; decide), (by show 3 ≤ 1000; decide), hh12, by omega, fun H13 hv b13 hh13 hhv => ?_⟩
          obtain ⟨rs0, hR0⟩ := all12 hv hhv
          have hR13 := hR0.imp fun _ _ h => b13.sq hh12 h
          have b913 := b912.trans b13
          have hh13 : HandAt H13 p (50000000 * t + 47900020) := hh13.le (by omega)
          refine ⟨.int (many : Int), rfl, _, _, rfl, rfl, .inl ⟨by decide, by decide⟩, _, rfl, by omega, by omega, ?_⟩
          refine for_range (fun j σ H' => ∃ y11 y15 y16 y17 y18 y19 rs, σ = [some (.ref sc), some (.int (0 + (i : Int))), some (.ref p), some (.int (0 + (t : Int))), some (.int (many : Int)), some (.str D.name), some (.int (D.scale : Int)), some vb, some (.ref ps), some (.ref pb), some (.ref T2), y11, some (.ref t9), some (.str dat.shown), some (.ref so), some y15, y16, y17, y18, y19] ∧ But p H9 H' ∧ HandAt H' p (50000000 * t + 47900020 + 25 * j) ∧ RegsAt K H' rs y15) ⟨_, hv, _, _, _, _, rs0, rfl, b913, hh13, hR13⟩ ?_ ?_
          · rintro j σ H14 hj ⟨z11, hv14, z16, z17, z18, z19, rs14, rfl, b14', hh14, hR14⟩
            have hj6 : j < 6 := by omega
            have mj : 0 ≤ (0 + (j : Int)) % (many : Int) ∧ (0 + (j : Int)) % (many : Int) < (many : Int) := ⟨Int.emod_nonneg _ (by omega), Int.emod_lt_of_pos _ (by omega)⟩
            obtain ⟨fc, hfc⟩ : ∃ fc : Nat, (0 + (j : Int)) % (many : Int) = (fc : Int) := ⟨((0 + (j : Int)) % (many : Int)).toNat, by omega⟩
            have hfcm : fc < many := by omega
            refine ⟨.int (0 + (j : Int)), rfl, .int (many : Int), rfl, _, _, rfl, rfl, (by show (0 : Int) < many; omega), .ref p, rfl, .int (many : Int), rfl, p, many, _, rfl, hm2, hm3, hh14, by omega, fun H15 lv ss b15 hh15 hSS => ⟨.int (fc : Int), lv, (by show [V.int ((0 + (j : Int)) % (many : Int)), lv] = _; rw [hfc]), ?_⟩⟩
            have hfd : fc < ds.length := by omega
            obtain ⟨pdd, xs, hpdd, hqdd, hdd⟩ := (hbh9.imp fun _ _ h => b15.sq hh14 (b14'.sq hh9 h)).get (List.getElem?_eq_getElem hfd)
            obtain ⟨odd, dpp, _⟩ := hds _ (List.getElem_mem hfd)
            have hT15 := b15.sq hh14 (b14'.sq hh9 hT9)
            have hR15 := hR14.imp fun _ _ h => b15.sq hh14 h
            have hdb15 := hdb.imp fun _ _ h => b15.sq hh14 (b14'.sq hh9 h)
            refine ⟨.ref T2, rfl, .int (fc : Int), rfl, T2, _, _, _, rfl, rfl, hT15, atI_nat hpdd, hv14, rfl, lv, rfl, pdd, hv14, lv, xs, ds[fc], many, rs14, ss, rfl, hqdd, hdd, odd, by omega, hR15, hSS, fun H16 due sm16 hdue => ?_⟩
            refine ⟨.ref t9, rfl, hv14, rfl, lv, rfl, .int (fc : Int), rfl, .ref t9, hv14, lv, fc, many, _, ds[fc], rs14, ss, rfl, hdb15.same sm16, List.getElem?_eq_getElem hfd, odd, by omega, hR15.same sm16, hSS.same sm16, fun H17 v1 sm17 hv1 => ⟨(by show 1 ≤ sizeLine; decide), fun fo n18 => ?_⟩⟩
            have s18 := same_new (o := .lst [v1]) n18
            have hfo : (upd H17 fo (.lst [v1])) fo = some (.lst [v1]) := upd_same
            have sm1518 := (sm16.trans sm17).trans s18
            refine ⟨.ref fo, rfl, .inl ⟨rfl, _, SqL.of hfo⟩, .int (fc : Int), rfl, lv, rfl, hv14, rfl, .ref t9, rfl, rfl, .ref t9, hv14, lv, fc, many, _, ds[fc], rs14, ss, rfl, hdb15.same sm1518, List.getElem?_eq_getElem hfd, odd, by omega, hR15.same sm1518, hSS.same sm1518, fun H19 v2 sm19 hv2 => ?_⟩
            have hfo19 := sm19 _ _ hfo
            refine ⟨fo, _, v2, rfl, rfl, hfo19, (by show 1 < sizeLine; decide), ?_⟩
            have hv1' := ((hv1.same s18).same sm19).imp fun _ _ h => put_sqt (us' := [v1] ++ [v2]) hfo19 h
            have hv2' := hv2.imp fun _ _ h => put_sqt (us' := [v1] ++ [v2]) hfo19 h
            have hdue' := (((hdue.same sm17).same s18).same sm19).imp fun _ _ h => put_sqt (us' := [v1] ++ [v2]) hfo19 h
            have hdb' := ((hdb15.same sm1518).same sm19).imp fun _ _ h => put_sqt (us' := [v1] ++ [v2]) hfo19 h
            have hfo' : (upd H19 fo (.lst ([v1] ++ [v2]))) fo = some (.lst [v1, v2]) := upd_same
            have smE : Same H15 (upd H19 fo (.lst ([v1] ++ [v2]))) := fun b' o eb => by
              have h17 := (sm16.trans sm17) _ _ eb
              rw [upd_ne (ne_of_none h17 n18)]
              exact sm19 _ _ (s18 _ _ h17)
            clear hfo19
            generalize upd H19 fo (.lst ([v1] ++ [v2])) = H20 at hv1' hv2' hdue' hdb' hfo' smE
            have okr := hdue'.ok
            have swr1 : Shw (.list [.tuple ((ap ss ds[fc] rs14).map PyData.int), .tuple ((ap ss ds[fc] rs14).map PyData.int)]) 20000 60 := (shw_regs2 okr).mono (by decide) (by decide)
            obtain ⟨dr, hdr⟩ : ∃ dr, dr = PyData.list [.tuple ((ap ss ds[fc] rs14).map PyData.int), .tuple ((ap ss ds[fc] rs14).map PyData.int)] := ⟨_, rfl⟩
            rw [← hdr] at swr1
            have swr := swr1
            have sfr := swr.fits (Nat.le_refl _)
            have dpr : ∀ {Hq : Hp} {u : V}, RegsAt K Hq (ap ss ds[fc] rs14) u → Dp K Hq u (.tuple ((ap ss ds[fc] rs14).map PyData.int)) := fun hu => by
              obtain ⟨pu, rfl, hpu, _⟩ := hu
              exact .tup hpu (dp_ints _)
            have dl : ∀ {Hq : Hp} {l : Addr} {u1 u2 : V}, Hq l = some (.lst [u1, u2]) → RegsAt K Hq (ap ss ds[fc] rs14) u1 → RegsAt K Hq (ap ss ds[fc] rs14) u2 → Dp K Hq (.ref l) dr := fun h0 h1 h2 => by
              rw [hdr]
              exact .lst (SqL.of h0) (.cons (dpr h1) (.cons (dpr h2) .nil))
            clear hdr swr1
            refine ⟨.ref fo, rfl, fo, dr, rfl, dl hfo' hv1' hv2', swr.sh, swr.dp, sfr, ?_⟩
            refine ⟨due, rfl, due, rfl, two_le, fun l21 n21 => ?_⟩
            have s21 := same_new (o := .lst [due, due]) n21
            refine ⟨l21, dr, rfl, dl upd_same (hdue'.same s21) (hdue'.same s21), swr.sh, swr.dp, sfr, rfl, _, rfl, iteFF (by rw [decide_eq_true rfl]; rfl) ?_⟩
            refine ⟨.ref t9, rfl, t9, dat, rfl, dpd (hdb'.same s21), sw.sh, sw.dp, sf, .str dat.shown, rfl, rfl, _, rfl, iteFF (by rw [decide_eq_true rfl]; rfl) ?_⟩
            refine ⟨due, rfl, _, due, _, _, _, _, _, rfl, (b14'.trans b15).trans (But.of (smE.trans s21)), ((hh15.same smE).same s21).le (by omega), hdue'.same s21⟩
          · rintro σ H14 ⟨z11, hv14, z16, z17, z18, z19, rs14, rfl, b14', hh14, hR14⟩
            refine ⟨_, _, _, _, _, _, _, _, _, _, _, _, _, _, _, _, _, rfl, ((b14.trans b49).trans b14'), hh14.le ?_⟩
            have : (2 * (many : Int)).toNat ≤ 6 := by omega
            omega
      · rintro σ H2 ⟨y3, y4, y5, y6, y7, y8, y9, y10, y11, y12, y13, y14, y15, y16, y17, y18, y19, rfl, b2, hh2⟩
        exact ⟨_, _, _, _, _, _, _, _, _, _, _, _, _, _, _, _, _, _, _, rfl, (b2.same np).seq hS1⟩
    · rintro σ H1 ⟨y1, y2, y3, y4, y5, y6, y7, y8, y9, y10, y11, y12, y13, y14, y15, y16, y17, y18, y19, rfl, hS1⟩
      exact q _
end
end NG

namespace NG
open PySem PySem.Spec PyProof.Rows L2
theorem all_mk {l : PySem.W.OpenLaw} {w : World} {K : PySem.W.Frag} {h : Heap} {mg : Str → Option Value} {fa f_mills f_held_by f_with_held f_led_deeds f_do_deeds f_behind f_L_hand f_L_take f_L_of f_L_lowest f_L_shares f_L_figure f_L_registers f_L_leaf f_L_expression f_L_stake f_L_deeds f_L_doubter f_L_long_deeds f_L_deeds_many f_L_inner_many f_L_cut f_L_gone f_L_edged f_law : Addr} (X : K.In h) (G : h.Ns mainGlobals mg) (hfa : mg "law" = some (.ref fa))
    {od_mills an_mills od_held_by an_held_by od_with_held an_with_held od_led_deeds an_led_deeds od_do_deeds an_do_deeds od_behind an_behind od_L_hand an_L_hand od_L_take an_L_take od_L_of an_L_of od_L_lowest an_L_lowest od_L_shares an_L_shares od_L_figure an_L_figure od_L_registers an_L_registers od_L_leaf an_L_leaf od_L_expression an_L_expression od_L_stake an_L_stake od_L_deeds an_L_deeds od_L_doubter an_L_doubter od_L_long_deeds an_L_long_deeds od_L_deeds_many an_L_deeds_many od_L_inner_many an_L_inner_many od_L_cut an_L_cut od_L_gone an_L_gone od_L_edged an_L_edged od_law an_law : Option Addr} {sl_mills sl_held_by sl_with_held sl_led_deeds sl_do_deeds sl_behind sl_L_hand sl_L_take sl_L_of sl_L_lowest sl_L_shares sl_L_figure sl_L_registers sl_L_leaf sl_L_expression sl_L_stake sl_L_deeds sl_L_doubter sl_L_long_deeds sl_L_deeds_many sl_L_inner_many sl_L_cut sl_L_gone sl_L_edged sl_law : Array (Option Value)} {oc_mills kV_mills dc_mills pm_mills cd_mills ct_mills oc_held_by kV_held_by dc_held_by pm_held_by cd_held_by ct_held_by oc_with_held kV_with_held dc_with_held pm_with_held cd_with_held ct_with_held oc_led_deeds kV_led_deeds dc_led_deeds pm_led_deeds cd_led_deeds ct_led_deeds oc_do_deeds kV_do_deeds dc_do_deeds pm_do_deeds cd_do_deeds ct_do_deeds oc_behind kV_behind dc_behind pm_behind cd_behind ct_behind oc_L_hand kV_L_hand dc_L_hand pm_L_hand cd_L_hand ct_L_hand oc_L_take kV_L_take dc_L_take pm_L_take cd_L_take ct_L_take oc_L_of kV_L_of dc_L_of pm_L_of cd_L_of ct_L_of oc_L_lowest kV_L_lowest dc_L_lowest pm_L_lowest cd_L_lowest ct_L_lowest oc_L_shares kV_L_shares dc_L_shares pm_L_shares cd_L_shares ct_L_shares oc_L_figure kV_L_figure dc_L_figure pm_L_figure cd_L_figure ct_L_figure oc_L_registers kV_L_registers dc_L_registers pm_L_registers cd_L_registers ct_L_registers oc_L_leaf kV_L_leaf dc_L_leaf pm_L_leaf cd_L_leaf ct_L_leaf oc_L_expression kV_L_expression dc_L_expression pm_L_expression cd_L_expression ct_L_expression oc_L_stake kV_L_stake dc_L_stake pm_L_stake cd_L_stake ct_L_stake oc_L_deeds kV_L_deeds dc_L_deeds pm_L_deeds cd_L_deeds ct_L_deeds oc_L_doubter kV_L_doubter dc_L_doubter pm_L_doubter cd_L_doubter ct_L_doubter oc_L_long_deeds kV_L_long_deeds dc_L_long_deeds pm_L_long_deeds cd_L_long_deeds ct_L_long_deeds oc_L_deeds_many kV_L_deeds_many dc_L_deeds_many pm_L_deeds_many cd_L_deeds_many ct_L_deeds_many oc_L_inner_many kV_L_inner_many dc_L_inner_many pm_L_inner_many cd_L_inner_many ct_L_inner_many oc_L_cut kV_L_cut dc_L_cut pm_L_cut cd_L_cut ct_L_cut oc_L_gone kV_L_gone dc_L_gone pm_L_gone cd_L_gone ct_L_gone oc_L_edged kV_L_edged dc_L_edged pm_L_edged cd_L_edged ct_L_edged oc_law kV_law dc_law pm_law cd_law ct_law : Value}
    (a_mills : PySem.W.nsIn K mainGlobals "mills" = some (some (.ref f_mills))) (l_mills : K.lookup f_mills = some ⟨oc_mills, od_mills, .func (PySem.W.fnOf "mills" "mills" (defArgs s_mills) (defBody s_mills) (defScope s_mills) .none kV_mills dc_mills pm_mills an_mills cd_mills ct_mills), sl_mills⟩) (c_mills : PySem.W.codeIn K cd_mills "mills" = true) (k_mills : PySem.W.keepIn K (.ref f_mills) = true)
    (a_held_by : PySem.W.nsIn K mainGlobals "held_by" = some (some (.ref f_held_by))) (l_held_by : K.lookup f_held_by = some ⟨oc_held_by, od_held_by, .func (PySem.W.fnOf "held_by" "held_by" (defArgs s_held_by) (defBody s_held_by) (defScope s_held_by) .none kV_held_by dc_held_by pm_held_by an_held_by cd_held_by ct_held_by), sl_held_by⟩) (c_held_by : PySem.W.codeIn K cd_held_by "held_by" = true) (k_held_by : PySem.W.keepIn K (.ref f_held_by) = true)
    (a_with_held : PySem.W.nsIn K mainGlobals "with_held" = some (some (.ref f_with_held))) (l_with_held : K.lookup f_with_held = some ⟨oc_with_held, od_with_held, .func (PySem.W.fnOf "with_held" "with_held" (defArgs s_with_held) (defBody s_with_held) (defScope s_with_held) .none kV_with_held dc_with_held pm_with_held an_with_held cd_with_held ct_with_held), sl_with_held⟩) (c_with_held : PySem.W.codeIn K cd_with_held "with_held" = true) (k_with_held : PySem.W.keepIn K (.ref f_with_held) = true)
    (a_led_deeds : PySem.W.nsIn K mainGlobals "led_deeds" = some (some (.ref f_led_deeds))) (l_led_deeds : K.lookup f_led_deeds = some ⟨oc_led_deeds, od_led_deeds, .func (PySem.W.fnOf "led_deeds" "led_deeds" (defArgs s_led_deeds) (defBody s_led_deeds) (defScope s_led_deeds) .none kV_led_deeds dc_led_deeds pm_led_deeds an_led_deeds cd_led_deeds ct_led_deeds), sl_led_deeds⟩) (c_led_deeds : PySem.W.codeIn K cd_led_deeds "led_deeds" = true) (k_led_deeds : PySem.W.keepIn K (.ref f_led_deeds) = true)
    (a_do_deeds : PySem.W.nsIn K mainGlobals "do_deeds" = some (some (.ref f_do_deeds))) (l_do_deeds : K.lookup f_do_deeds = some ⟨oc_do_deeds, od_do_deeds, .func (PySem.W.fnOf "do_deeds" "do_deeds" (defArgs s_do_deeds) (defBody s_do_deeds) (defScope s_do_deeds) .none kV_do_deeds dc_do_deeds pm_do_deeds an_do_deeds cd_do_deeds ct_do_deeds), sl_do_deeds⟩) (c_do_deeds : PySem.W.codeIn K cd_do_deeds "do_deeds" = true) (k_do_deeds : PySem.W.keepIn K (.ref f_do_deeds) = true)
    (a_behind : PySem.W.nsIn K mainGlobals "behind" = some (some (.ref f_behind))) (l_behind : K.lookup f_behind = some ⟨oc_behind, od_behind, .func (PySem.W.fnOf "behind" "behind" (defArgs s_behind) (defBody s_behind) (defScope s_behind) .none kV_behind dc_behind pm_behind an_behind cd_behind ct_behind), sl_behind⟩) (c_behind : PySem.W.codeIn K cd_behind "behind" = true) (k_behind : PySem.W.keepIn K (.ref f_behind) = true)
    (a_L_hand : PySem.W.nsIn K mainGlobals "_law_hand" = some (some (.ref f_L_hand))) (l_L_hand : K.lookup f_L_hand = some ⟨oc_L_hand, od_L_hand, .func (PySem.W.fnOf "_law_hand" "_law_hand" (defArgs s_L_hand) (defBody s_L_hand) (defScope s_L_hand) .none kV_L_hand dc_L_hand pm_L_hand an_L_hand cd_L_hand ct_L_hand), sl_L_hand⟩) (c_L_hand : PySem.W.codeIn K cd_L_hand "_law_hand" = true) (k_L_hand : PySem.W.keepIn K (.ref f_L_hand) = true)
    (a_L_take : PySem.W.nsIn K mainGlobals "_law_take" = some (some (.ref f_L_take))) (l_L_take : K.lookup f_L_take = some ⟨oc_L_take, od_L_take, .func (PySem.W.fnOf "_law_take" "_law_take" (defArgs s_L_take) (defBody s_L_take) (defScope s_L_take) .none kV_L_take dc_L_take pm_L_take an_L_take cd_L_take ct_L_take), sl_L_take⟩) (c_L_take : PySem.W.codeIn K cd_L_take "_law_take" = true) (k_L_take : PySem.W.keepIn K (.ref f_L_take) = true)
    (a_L_of : PySem.W.nsIn K mainGlobals "_law_of" = some (some (.ref f_L_of))) (l_L_of : K.lookup f_L_of = some ⟨oc_L_of, od_L_of, .func (PySem.W.fnOf "_law_of" "_law_of" (defArgs s_L_of) (defBody s_L_of) (defScope s_L_of) .none kV_L_of dc_L_of pm_L_of an_L_of cd_L_of ct_L_of), sl_L_of⟩) (c_L_of : PySem.W.codeIn K cd_L_of "_law_of" = true) (k_L_of : PySem.W.keepIn K (.ref f_L_of) = true)
    (a_L_lowest : PySem.W.nsIn K mainGlobals "_law_lowest" = some (some (.ref f_L_lowest))) (l_L_lowest : K.lookup f_L_lowest = some ⟨oc_L_lowest, od_L_lowest, .func (PySem.W.fnOf "_law_lowest" "_law_lowest" (defArgs s_L_lowest) (defBody s_L_lowest) (defScope s_L_lowest) .none kV_L_lowest dc_L_lowest pm_L_lowest an_L_lowest cd_L_lowest ct_L_lowest), sl_L_lowest⟩) (c_L_lowest : PySem.W.codeIn K cd_L_lowest "_law_lowest" = true) (k_L_lowest : PySem.W.keepIn K (.ref f_L_lowest) = true)
    (a_L_shares : PySem.W.nsIn K mainGlobals "_law_shares" = some (some (.ref f_L_shares))) (l_L_shares : K.lookup f_L_shares = some ⟨oc_L_shares, od_L_shares, .func (PySem.W.fnOf "_law_shares" "_law_shares" (defArgs s_L_shares) (defBody s_L_shares) (defScope s_L_shares) .none kV_L_shares dc_L_shares pm_L_shares an_L_shares cd_L_shares ct_L_shares), sl_L_shares⟩) (c_L_shares : PySem.W.codeIn K cd_L_shares "_law_shares" = true) (k_L_shares : PySem.W.keepIn K (.ref f_L_shares) = true)
    (a_L_figure : PySem.W.nsIn K mainGlobals "_law_figure" = some (some (.ref f_L_figure))) (l_L_figure : K.lookup f_L_figure = some ⟨oc_L_figure, od_L_figure, .func (PySem.W.fnOf "_law_figure" "_law_figure" (defArgs s_L_figure) (defBody s_L_figure) (defScope s_L_figure) .none kV_L_figure dc_L_figure pm_L_figure an_L_figure cd_L_figure ct_L_figure), sl_L_figure⟩) (c_L_figure : PySem.W.codeIn K cd_L_figure "_law_figure" = true) (k_L_figure : PySem.W.keepIn K (.ref f_L_figure) = true)
    (a_L_registers : PySem.W.nsIn K mainGlobals "_law_registers" = some (some (.ref f_L_registers))) (l_L_registers : K.lookup f_L_registers = some ⟨oc_L_registers, od_L_registers, .func (PySem.W.fnOf "_law_registers" "_law_registers" (defArgs s_L_registers) (defBody s_L_registers) (defScope s_L_registers) .none kV_L_registers dc_L_registers pm_L_registers an_L_registers cd_L_registers ct_L_registers), sl_L_registers⟩) (c_L_registers : PySem.W.codeIn K cd_L_registers "_law_registers" = true) (k_L_registers : PySem.W.keepIn K (.ref f_L_registers) = true)
    (a_L_leaf : PySem.W.nsIn K mainGlobals "_law_leaf" = some (some (.ref f_L_leaf))) (l_L_leaf : K.lookup f_L_leaf = some ⟨oc_L_leaf, od_L_leaf, .func (PySem.W.fnOf "_law_leaf" "_law_leaf" (defArgs s_L_leaf) (defBody s_L_leaf) (defScope s_L_leaf) .none kV_L_leaf dc_L_leaf pm_L_leaf an_L_leaf cd_L_leaf ct_L_leaf), sl_L_leaf⟩) (c_L_leaf : PySem.W.codeIn K cd_L_leaf "_law_leaf" = true) (k_L_leaf : PySem.W.keepIn K (.ref f_L_leaf) = true)
    (a_L_expression : PySem.W.nsIn K mainGlobals "_law_expression" = some (some (.ref f_L_expression))) (l_L_expression : K.lookup f_L_expression = some ⟨oc_L_expression, od_L_expression, .func (PySem.W.fnOf "_law_expression" "_law_expression" (defArgs s_L_expression) (defBody s_L_expression) (defScope s_L_expression) .none kV_L_expression dc_L_expression pm_L_expression an_L_expression cd_L_expression ct_L_expression), sl_L_expression⟩) (c_L_expression : PySem.W.codeIn K cd_L_expression "_law_expression" = true) (k_L_expression : PySem.W.keepIn K (.ref f_L_expression) = true)
    (a_L_stake : PySem.W.nsIn K mainGlobals "_law_stake" = some (some (.ref f_L_stake))) (l_L_stake : K.lookup f_L_stake = some ⟨oc_L_stake, od_L_stake, .func (PySem.W.fnOf "_law_stake" "_law_stake" (defArgs s_L_stake) (defBody s_L_stake) (defScope s_L_stake) .none kV_L_stake dc_L_stake pm_L_stake an_L_stake cd_L_stake ct_L_stake), sl_L_stake⟩) (c_L_stake : PySem.W.codeIn K cd_L_stake "_law_stake" = true) (k_L_stake : PySem.W.keepIn K (.ref f_L_stake) = true)
    (a_L_deeds : PySem.W.nsIn K mainGlobals "_law_deeds" = some (some (.ref f_L_deeds))) (l_L_deeds : K.lookup f_L_deeds = some ⟨oc_L_deeds, od_L_deeds, .func (PySem.W.fnOf "_law_deeds" "_law_deeds" (defArgs s_L_deeds) (defBody s_L_deeds) (defScope s_L_deeds) .none kV_L_deeds dc_L_deeds pm_L_deeds an_L_deeds cd_L_deeds ct_L_deeds), sl_L_deeds⟩) (c_L_deeds : PySem.W.codeIn K cd_L_deeds "_law_deeds" = true) (k_L_deeds : PySem.W.keepIn K (.ref f_L_deeds) = true)
    (a_L_doubter : PySem.W.nsIn K mainGlobals "_law_doubter" = some (some (.ref f_L_doubter))) (l_L_doubter : K.lookup f_L_doubter = some ⟨oc_L_doubter, od_L_doubter, .func (PySem.W.fnOf "_law_doubter" "_law_doubter" (defArgs s_L_doubter) (defBody s_L_doubter) (defScope s_L_doubter) .none kV_L_doubter dc_L_doubter pm_L_doubter an_L_doubter cd_L_doubter ct_L_doubter), sl_L_doubter⟩) (c_L_doubter : PySem.W.codeIn K cd_L_doubter "_law_doubter" = true) (k_L_doubter : PySem.W.keepIn K (.ref f_L_doubter) = true)
    (a_L_long_deeds : PySem.W.nsIn K mainGlobals "_law_long_deeds" = some (some (.ref f_L_long_deeds))) (l_L_long_deeds : K.lookup f_L_long_deeds = some ⟨oc_L_long_deeds, od_L_long_deeds, .func (PySem.W.fnOf "_law_long_deeds" "_law_long_deeds" (defArgs s_L_long_deeds) (defBody s_L_long_deeds) (defScope s_L_long_deeds) .none kV_L_long_deeds dc_L_long_deeds pm_L_long_deeds an_L_long_deeds cd_L_long_deeds ct_L_long_deeds), sl_L_long_deeds⟩) (c_L_long_deeds : PySem.W.codeIn K cd_L_long_deeds "_law_long_deeds" = true) (k_L_long_deeds : PySem.W.keepIn K (.ref f_L_long_deeds) = true)
    (a_L_deeds_many : PySem.W.nsIn K mainGlobals "_law_deeds_many" = some (some (.ref f_L_deeds_many))) (l_L_deeds_many : K.lookup f_L_deeds_many = some ⟨oc_L_deeds_many, od_L_deeds_many, .func (PySem.W.fnOf "_law_deeds_many" "_law_deeds_many" (defArgs s_L_deeds_many) (defBody s_L_deeds_many) (defScope s_L_deeds_many) .none kV_L_deeds_many dc_L_deeds_many pm_L_deeds_many an_L_deeds_many cd_L_deeds_many ct_L_deeds_many), sl_L_deeds_many⟩) (c_L_deeds_many : PySem.W.codeIn K cd_L_deeds_many "_law_deeds_many" = true) (k_L_deeds_many : PySem.W.keepIn K (.ref f_L_deeds_many) = true)
    (a_L_inner_many : PySem.W.nsIn K mainGlobals "_law_inner_many" = some (some (.ref f_L_inner_many))) (l_L_inner_many : K.lookup f_L_inner_many = some ⟨oc_L_inner_many, od_L_inner_many, .func (PySem.W.fnOf "_law_inner_many" "_law_inner_many" (defArgs s_L_inner_many) (defBody s_L_inner_many) (defScope s_L_inner_many) .none kV_L_inner_many dc_L_inner_many pm_L_inner_many an_L_inner_many cd_L_inner_many ct_L_inner_many), sl_L_inner_many⟩) (c_L_inner_many : PySem.W.codeIn K cd_L_inner_many "_law_inner_many" = true) (k_L_inner_many : PySem.W.keepIn K (.ref f_L_inner_many) = true)
    (a_L_cut : PySem.W.nsIn K mainGlobals "_law_cut" = some (some (.ref f_L_cut))) (l_L_cut : K.lookup f_L_cut = some ⟨oc_L_cut, od_L_cut, .func (PySem.W.fnOf "_law_cut" "_law_cut" (defArgs s_L_cut) (defBody s_L_cut) (defScope s_L_cut) .none kV_L_cut dc_L_cut pm_L_cut an_L_cut cd_L_cut ct_L_cut), sl_L_cut⟩) (c_L_cut : PySem.W.codeIn K cd_L_cut "_law_cut" = true) (k_L_cut : PySem.W.keepIn K (.ref f_L_cut) = true)
    (a_L_gone : PySem.W.nsIn K mainGlobals "_law_gone" = some (some (.ref f_L_gone))) (l_L_gone : K.lookup f_L_gone = some ⟨oc_L_gone, od_L_gone, .func (PySem.W.fnOf "_law_gone" "_law_gone" (defArgs s_L_gone) (defBody s_L_gone) (defScope s_L_gone) .none kV_L_gone dc_L_gone pm_L_gone an_L_gone cd_L_gone ct_L_gone), sl_L_gone⟩) (c_L_gone : PySem.W.codeIn K cd_L_gone "_law_gone" = true) (k_L_gone : PySem.W.keepIn K (.ref f_L_gone) = true)
    (a_L_edged : PySem.W.nsIn K mainGlobals "_law_edged" = some (some (.ref f_L_edged))) (l_L_edged : K.lookup f_L_edged = some ⟨oc_L_edged, od_L_edged, .func (PySem.W.fnOf "_law_edged" "_law_edged" (defArgs s_L_edged) (defBody s_L_edged) (defScope s_L_edged) .none kV_L_edged dc_L_edged pm_L_edged an_L_edged cd_L_edged ct_L_edged), sl_L_edged⟩) (c_L_edged : PySem.W.codeIn K cd_L_edged "_law_edged" = true) (k_L_edged : PySem.W.keepIn K (.ref f_L_edged) = true)
    (a_law : PySem.W.nsIn K mainGlobals "law" = some (some (.ref f_law))) (l_law : K.lookup f_law = some ⟨oc_law, od_law, .func (PySem.W.fnOf "law" "law" (defArgs s_law) (defBody s_law) (defScope s_law) .none kV_law dc_law pm_law an_law cd_law ct_law), sl_law⟩) (c_law : PySem.W.codeIn K cd_law "law" = true) (k_law : PySem.W.keepIn K (.ref f_law) = true)
    {t_LEAST_HELD : Tok} (i_LEAST_HELD : PySem.W.nsIn K mainGlobals "LEAST_HELD" = some (some (.int (-1000) t_LEAST_HELD)))
    {t_MOST_HELD : Tok} (i_MOST_HELD : PySem.W.nsIn K mainGlobals "MOST_HELD" = some (some (.int (1000) t_MOST_HELD)))
    (z_len : PySem.W.nsIn K mainGlobals "len" = some none)
    (z_sum : PySem.W.nsIn K mainGlobals "sum" = some none)
    (z_max : PySem.W.nsIn K mainGlobals "max" = some none)
    (z_min : PySem.W.nsIn K mainGlobals "min" = some none)
    (z_abs : PySem.W.nsIn K mainGlobals "abs" = some none)
    (z_int : PySem.W.nsIn K mainGlobals "int" = some none)
    (z_tuple : PySem.W.nsIn K mainGlobals "tuple" = some none)
    (z_range : PySem.W.nsIn K mainGlobals "range" = some none)
    (z_sorted : PySem.W.nsIn K mainGlobals "sorted" = some none)
    (z_zip : PySem.W.nsIn K mainGlobals "zip" = some none)
    (z_isinstance : PySem.W.nsIn K mainGlobals "isinstance" = some none)
    (z_list : PySem.W.nsIn K mainGlobals "list" = some none)
    (z_all : PySem.W.nsIn K mainGlobals "all" = some none)
    (z_repr : PySem.W.nsIn K mainGlobals "repr" = some none)
    (z_str : PySem.W.nsIn K mainGlobals "str" = some none)
    (z_enumerate : PySem.W.nsIn K mainGlobals "enumerate" = some none)
    : ∃ fd : FuncData, (∀ (s : Shared) (v : Value), BindsTo s fd ⟨[v], []⟩ [("_law_script", v)]) ∧ ∀ base : Heap, K.In base → base.Ns mainGlobals mg → FnG l.prog w K mg base 17 fa fd ["_law_script"] (spLaw K) := by
  have e := hfa.symm.trans (PySem.W.mg_of X G a_law)
  cases e
  have F_mills := fun_mk (st := s_mills) l_mills c_mills k_mills
  have g_mills := PySem.W.mg_of X G a_mills
  have b_mills := F_mills.binds (ps := ["shares", "sign"]) fun _ _ _ _ _ _ us hl => match us, hl with | [_, _], _ => rfl
  have F_held_by := fun_mk (st := s_held_by) l_held_by c_held_by k_held_by
  have g_held_by := PySem.W.mg_of X G a_held_by
  have b_held_by := F_held_by.binds (ps := ["deed", "registers", "shares"]) fun _ _ _ _ _ _ us hl => match us, hl with | [_, _, _], _ => rfl
  have F_with_held := fun_mk (st := s_with_held) l_with_held c_with_held k_with_held
  have g_with_held := PySem.W.mg_of X G a_with_held
  have b_with_held := F_with_held.binds (ps := ["registers", "place", "number"]) fun _ _ _ _ _ _ us hl => match us, hl with | [_, _, _], _ => rfl
  have F_led_deeds := fun_mk (st := s_led_deeds) l_led_deeds c_led_deeds k_led_deeds
  have g_led_deeds := PySem.W.mg_of X G a_led_deeds
  have b_led_deeds := F_led_deeds.binds (ps := ["deed", "registers"]) fun _ _ _ _ _ _ us hl => match us, hl with | [_, _], _ => rfl
  have F_do_deeds := fun_mk (st := s_do_deeds) l_do_deeds c_do_deeds k_do_deeds
  have g_do_deeds := PySem.W.mg_of X G a_do_deeds
  have b_do_deeds := F_do_deeds.binds (ps := ["deeds", "registers", "shares"]) fun _ _ _ _ _ _ us hl => match us, hl with | [_, _, _], _ => rfl
  have F_behind := fun_mk (st := s_behind) l_behind c_behind k_behind
  have g_behind := PySem.W.mg_of X G a_behind
  have b_behind := F_behind.binds (ps := ["doubter", "registers", "shares", "sign"]) fun _ _ _ _ _ _ us hl => match us, hl with | [_, _, _, _], _ => rfl
  have F_L_hand := fun_mk (st := s_L_hand) l_L_hand c_L_hand k_L_hand
  have g_L_hand := PySem.W.mg_of X G a_L_hand
  have b_L_hand := F_L_hand.binds (ps := ["_law_script", "_law_k"]) fun _ _ _ _ _ _ us hl => match us, hl with | [_, _], _ => rfl
  have F_L_take := fun_mk (st := s_L_take) l_L_take c_L_take k_L_take
  have g_L_take := PySem.W.mg_of X G a_L_take
  have b_L_take := F_L_take.binds (ps := ["_law_hand_here", "_law_wide"]) fun _ _ _ _ _ _ us hl => match us, hl with | [_, _], _ => rfl
  have F_L_of := fun_mk (st := s_L_of) l_L_of c_L_of k_L_of
  have g_L_of := PySem.W.mg_of X G a_L_of
  have b_L_of := F_L_of.binds (ps := ["_law_hand_here", "_law_some"]) fun _ _ _ _ _ _ us hl => match us, hl with | [_, _], _ => rfl
  have F_L_lowest := fun_mk (st := s_L_lowest) l_L_lowest c_L_lowest k_L_lowest
  have g_L_lowest := PySem.W.mg_of X G a_L_lowest
  have b_L_lowest := F_L_lowest.binds (ps := ["_law_row"]) fun _ _ _ _ _ _ us hl => match us, hl with | [_], _ => rfl
  have F_L_shares := fun_mk (st := s_L_shares) l_L_shares c_L_shares k_L_shares
  have g_L_shares := PySem.W.mg_of X G a_L_shares
  have b_L_shares := F_L_shares.binds (ps := ["_law_hand_here", "_law_wide"]) fun _ _ _ _ _ _ us hl => match us, hl with | [_, _], _ => rfl
  have F_L_figure := fun_mk (st := s_L_figure) l_L_figure c_L_figure k_L_figure
  have g_L_figure := PySem.W.mg_of X G a_L_figure
  have b_L_figure := F_L_figure.binds (ps := ["_law_hand_here"]) fun _ _ _ _ _ _ us hl => match us, hl with | [_], _ => rfl
  have F_L_registers := fun_mk (st := s_L_registers) l_L_registers c_L_registers k_L_registers
  have g_L_registers := PySem.W.mg_of X G a_L_registers
  have b_L_registers := F_L_registers.binds (ps := ["_law_hand_here"]) fun _ _ _ _ _ _ us hl => match us, hl with | [_], _ => rfl
  have F_L_leaf := fun_mk (st := s_L_leaf) l_L_leaf c_L_leaf k_L_leaf
  have g_L_leaf := PySem.W.mg_of X G a_L_leaf
  have b_L_leaf := F_L_leaf.binds (ps := ["_law_hand_here", "_law_wide"]) fun _ _ _ _ _ _ us hl => match us, hl with | [_, _], _ => rfl
  have F_L_expression := fun_mk (st := s_L_expression) l_L_expression c_L_expression k_L_expression
  have g_L_expression := PySem.W.mg_of X G a_L_expression
  have b_L_expression := F_L_expression.binds (ps := ["_law_hand_here", "_law_wide", "_law_level", "_law_jumps"]) fun _ _ _ _ _ _ us hl => match us, hl with | [_, _, _, _], _ => rfl
  have F_L_stake := fun_mk (st := s_L_stake) l_L_stake c_L_stake k_L_stake
  have g_L_stake := PySem.W.mg_of X G a_L_stake
  have b_L_stake := F_L_stake.binds (ps := ["_law_hand_here", "_law_wide", "_law_level", "_law_jumps"]) fun _ _ _ _ _ _ us hl => match us, hl with | [_, _, _, _], _ => rfl
  have F_L_deeds := fun_mk (st := s_L_deeds) l_L_deeds c_L_deeds k_L_deeds
  have g_L_deeds := PySem.W.mg_of X G a_L_deeds
  have b_L_deeds := F_L_deeds.binds (ps := ["_law_hand_here", "_law_wide", "_law_deep"]) fun _ _ _ _ _ _ us hl => match us, hl with | [_, _, _], _ => rfl
  have F_L_doubter := fun_mk (st := s_L_doubter) l_L_doubter c_L_doubter k_L_doubter
  have g_L_doubter := PySem.W.mg_of X G a_L_doubter
  have b_L_doubter := F_L_doubter.binds (ps := ["_law_hand_here", "_law_wide", "_law_level", "_law_jumps"]) fun _ _ _ _ _ _ us hl => match us, hl with | [_, _, _, _], _ => rfl
  have F_L_long_deeds := fun_mk (st := s_L_long_deeds) l_L_long_deeds c_L_long_deeds k_L_long_deeds
  have g_L_long_deeds := PySem.W.mg_of X G a_L_long_deeds
  have b_L_long_deeds := F_L_long_deeds.binds (ps := ["_law_hand_here", "_law_wide", "_law_deep", "_law_room"]) fun _ _ _ _ _ _ us hl => match us, hl with | [_, _, _, _], _ => rfl
  have F_L_deeds_many := fun_mk (st := s_L_deeds_many) l_L_deeds_many c_L_deeds_many k_L_deeds_many
  have g_L_deeds_many := PySem.W.mg_of X G a_L_deeds_many
  have b_L_deeds_many := F_L_deeds_many.binds (ps := ["_law_deeds_here"]) fun _ _ _ _ _ _ us hl => match us, hl with | [_], _ => rfl
  have F_L_inner_many := fun_mk (st := s_L_inner_many) l_L_inner_many c_L_inner_many k_L_inner_many
  have g_L_inner_many := PySem.W.mg_of X G a_L_inner_many
  have b_L_inner_many := F_L_inner_many.binds (ps := ["_law_deed"]) fun _ _ _ _ _ _ us hl => match us, hl with | [_], _ => rfl
  have F_L_cut := fun_mk (st := s_L_cut) l_L_cut c_L_cut k_L_cut
  have g_L_cut := PySem.W.mg_of X G a_L_cut
  have b_L_cut := F_L_cut.binds (ps := ["_law_number"]) fun _ _ _ _ _ _ us hl => match us, hl with | [_], _ => rfl
  have F_L_gone := fun_mk (st := s_L_gone) l_L_gone c_L_gone k_L_gone
  have g_L_gone := PySem.W.mg_of X G a_L_gone
  have b_L_gone := F_L_gone.binds (ps := ["_law_deeds_here", "_law_held", "_law_lots"]) fun _ _ _ _ _ _ us hl => match us, hl with | [_, _, _], _ => rfl
  have F_L_edged := fun_mk (st := s_L_edged) l_L_edged c_L_edged k_L_edged
  have g_L_edged := PySem.W.mg_of X G a_L_edged
  have b_L_edged := F_L_edged.binds (ps := ["_law_hand_here", "_law_wide"]) fun _ _ _ _ _ _ us hl => match us, hl with | [_, _], _ => rfl
  have F_law := fun_mk (st := s_law) l_law c_law k_law
  have g_law := PySem.W.mg_of X G a_law
  have B : Bl mg := ⟨PySem.W.mg_none_of X G z_len, PySem.W.mg_none_of X G z_sum, PySem.W.mg_none_of X G z_max, PySem.W.mg_none_of X G z_min, PySem.W.mg_none_of X G z_abs, PySem.W.mg_none_of X G z_int, PySem.W.mg_none_of X G z_tuple, PySem.W.mg_none_of X G z_range, PySem.W.mg_none_of X G z_sorted, PySem.W.mg_none_of X G z_zip, PySem.W.mg_none_of X G z_isinstance, PySem.W.mg_none_of X G z_list, PySem.W.mg_none_of X G z_all, PySem.W.mg_none_of X G z_repr, PySem.W.mg_none_of X G z_str, PySem.W.mg_none_of X G z_enumerate⟩
  have mg_LEAST_HELD := PySem.W.mg_of X G i_LEAST_HELD
  have mg_MOST_HELD := PySem.W.mg_of X G i_MOST_HELD
  refine ⟨PySem.W.fnOf "law" "law" (defArgs s_law) (defBody s_law) (defScope s_law) .none kV_law dc_law pm_law an_law cd_law ct_law, fun s v => .of_eq rfl, fun base _ _ => ?_⟩
  have c_hand := ok_hand (P := l.prog) (w := w) (base := base) F_L_hand g_L_hand b_L_hand B
  have c_take := ok_take (P := l.prog) (w := w) (base := base) F_L_take g_L_take b_L_take
  have c_of := ok_of F_L_of g_L_of b_L_of B c_take
  have c_figure := ok_figure F_L_figure g_L_figure b_L_figure B c_take c_of
  have c_leaf := ok_leaf F_L_leaf g_L_leaf b_L_leaf B c_take c_figure
  have c_expr := ok_expr F_L_expression g_L_expression b_L_expression B c_take c_of c_figure c_leaf 2
  have c_low := ok_low (P := l.prog) (w := w) (base := base) F_L_lowest g_L_lowest b_L_lowest B
  have c_shares := ok_shares F_L_shares g_L_shares b_L_shares B c_take c_of c_low
  have c_regs := ok_regs F_L_registers g_L_registers b_L_registers B c_figure
  have c_stake := ok_stake F_L_stake g_L_stake b_L_stake B c_take c_of (m := 2) c_expr
  have c_deeds := ok_deeds F_L_deeds g_L_deeds b_L_deeds B c_take c_of c_figure 2
  have c_doubter := ok_doubter F_L_doubter g_L_doubter b_L_doubter B c_take c_of c_regs (m := 2) c_stake c_deeds
  have c_many := ok_many (P := l.prog) (w := w) (base := base) F_L_deeds_many g_L_deeds_many b_L_deeds_many F_L_inner_many g_L_inner_many b_L_inner_many B 5
  have c_long := ok_long F_L_long_deeds g_L_long_deeds b_L_long_deeds B c_take c_of c_figure c_many 5
  have c_edged := ok_edged F_L_edged g_L_edged b_L_edged B c_take c_of c_shares c_low
  have c_cut := ok_cut (P := l.prog) (w := w) (base := base) F_L_cut g_L_cut b_L_cut B
  have c_gone := ok_gone F_L_gone g_L_gone b_L_gone B c_cut 5
  have c_mills := ok_mills (P := l.prog) (w := w) (base := base) F_mills g_mills b_mills B
  have c_held := ok_held F_held_by g_held_by b_held_by B c_mills
  have c_with := ok_withheld (P := l.prog) (w := w) (base := base) F_with_held g_with_held b_with_held B mg_LEAST_HELD mg_MOST_HELD
  have c_ledd := ok_leddeeds (P := l.prog) (w := w) (base := base) F_led_deeds g_led_deeds b_led_deeds B
  have c_do := ok_do F_do_deeds g_do_deeds b_do_deeds B c_held c_with c_ledd 5
  have f_behind' := fn_behind F_behind B c_do
  have c_behind : Cal l.prog w K mg base 9 "behind" (spBehind K 5) := ⟨_, _, _, f_behind', g_behind, F_behind.kp, b_behind⟩
  have k_behind : CalK l.prog w K mg base 9 "behind" ["sign", "shares", "registers", "doubter"] (spBehind K 5) := ⟨_, _, FnG.of f_behind', g_behind, F_behind.kp, fun s ws hl => match ws, hl with | [_, _, _, _], _ => .of_eq rfl⟩
  exact ok_law F_law B c_hand c_take c_of c_regs c_doubter c_long c_edged c_gone c_behind k_behind
end NG
open PySem PySem.W PyProof.Rows
set_option maxHeartbeats 0 in
theorem PySem.Challenge.cw_nonegrowsrich_k22_registers_behind_holds : PySem.Challenge.rw_nonegrowsrich_k22_registers_behind.Holds := by
  w_on; o_law; k_head; (case hw => w_witness2)
  k_fill
  refine NG.walkG (l := PySem.Challenge.rw_nonegrowsrich_k22_registers_behind) (n := 63) (k := 17) (x := "_law_script") (sp := fun w => NG.spLaw _) rfl (by decide) rfl ⟨rfl, by decide, by decide⟩ (fun w h Y => PySem.W.kIn_of Y) ?F (fun _ _ a ns hl _ hS => ⟨a, ns, rfl, hS, hl, fun _ => rfl⟩) 
  case F =>
    intro w mg fa h KX G hmg
    refine' NG.all_mk KX G hmg ?a_mills ?l_mills ?c_mills ?k_mills ?a_held_by ?l_held_by ?c_held_by ?k_held_by ?a_with_held ?l_with_held ?c_with_held ?k_with_held ?a_led_deeds ?l_led_deeds ?c_led_deeds ?k_led_deeds ?a_do_deeds ?l_do_deeds ?c_do_deeds ?k_do_deeds ?a_behind ?l_behind ?c_behind ?k_behind ?a_L_hand ?l_L_hand ?c_L_hand ?k_L_hand ?a_L_take ?l_L_take ?c_L_take ?k_L_take ?a_L_of ?l_L_of ?c_L_of ?k_L_of ?a_L_lowest ?l_L_lowest ?c_L_lowest ?k_L_lowest ?a_L_shares ?l_L_shares ?c_L_shares ?k_L_shares ?a_L_figure ?l_L_figure ?c_L_figure ?k_L_figure ?a_L_registers ?l_L_registers ?c_L_registers ?k_L_registers ?a_L_leaf ?l_L_leaf ?c_L_leaf ?k_L_leaf ?a_L_expression ?l_L_expression ?c_L_expression ?k_L_expression ?a_L_stake ?l_L_stake ?c_L_stake ?k_L_stake ?a_L_deeds ?l_L_deeds ?c_L_deeds ?k_L_deeds ?a_L_doubter ?l_L_doubter ?c_L_doubter ?k_L_doubter ?a_L_long_deeds ?l_L_long_deeds ?c_L_long_deeds ?k_L_long_deeds ?a_L_deeds_many ?l_L_deeds_many ?c_L_deeds_many ?k_L_deeds_many ?a_L_inner_many ?l_L_inner_many ?c_L_inner_many ?k_L_inner_many ?a_L_cut ?l_L_cut ?c_L_cut ?k_L_cut ?a_L_gone ?l_L_gone ?c_L_gone ?k_L_gone ?a_L_edged ?l_L_edged ?c_L_edged ?k_L_edged ?a_law ?l_law ?c_law ?k_law ?i_LEAST_HELD ?i_MOST_HELD ?z_len ?z_sum ?z_max ?z_min ?z_abs ?z_int ?z_tuple ?z_range ?z_sorted ?z_zip ?z_isinstance ?z_list ?z_all ?z_repr ?z_str ?z_enumerate
    (case a_mills => k_is); (case l_mills => k_is); (case c_mills => k_is); (case k_mills => k_is); (case a_held_by => k_is); (case l_held_by => k_is); (case c_held_by => k_is); (case k_held_by => k_is); (case a_with_held => k_is); (case l_with_held => k_is); (case c_with_held => k_is); (case k_with_held => k_is); (case a_led_deeds => k_is); (case l_led_deeds => k_is); (case c_led_deeds => k_is); (case k_led_deeds => k_is); (case a_do_deeds => k_is); (case l_do_deeds => k_is); (case c_do_deeds => k_is); (case k_do_deeds => k_is); (case a_behind => k_is); (case l_behind => k_is); (case c_behind => k_is); (case k_behind => k_is); (case a_L_hand => k_is); (case l_L_hand => k_is); (case c_L_hand => k_is); (case k_L_hand => k_is); (case a_L_take => k_is); (case l_L_take => k_is); (case c_L_take => k_is); (case k_L_take => k_is); (case a_L_of => k_is); (case l_L_of => k_is); (case c_L_of => k_is); (case k_L_of => k_is); (case a_L_lowest => k_is); (case l_L_lowest => k_is); (case c_L_lowest => k_is); (case k_L_lowest => k_is); (case a_L_shares => k_is); (case l_L_shares => k_is); (case c_L_shares => k_is); (case k_L_shares => k_is); (case a_L_figure => k_is); (case l_L_figure => k_is); (case c_L_figure => k_is); (case k_L_figure => k_is); (case a_L_registers => k_is); (case l_L_registers => k_is); (case c_L_registers => k_is); (case k_L_registers => k_is); (case a_L_leaf => k_is); (case l_L_leaf => k_is); (case c_L_leaf => k_is); (case k_L_leaf => k_is); (case a_L_expression => k_is); (case l_L_expression => k_is); (case c_L_expression => k_is); (case k_L_expression => k_is); (case a_L_stake => k_is); (case l_L_stake => k_is); (case c_L_stake => k_is); (case k_L_stake => k_is); (case a_L_deeds => k_is); (case l_L_deeds => k_is); (case c_L_deeds => k_is); (case k_L_deeds => k_is); (case a_L_doubter => k_is); (case l_L_doubter => k_is); (case c_L_doubter => k_is); (case k_L_doubter => k_is); (case a_L_long_deeds => k_is); (case l_L_long_deeds => k_is); (case c_L_long_deeds => k_is); (case k_L_long_deeds => k_is); (case a_L_deeds_many => k_is); (case l_L_deeds_many => k_is); (case c_L_deeds_many => k_is); (case k_L_deeds_many => k_is); (case a_L_inner_many => k_is); (case l_L_inner_many => k_is); (case c_L_inner_many => k_is); (case k_L_inner_many => k_is); (case a_L_cut => k_is); (case l_L_cut => k_is); (case c_L_cut => k_is); (case k_L_cut => k_is); (case a_L_gone => k_is); (case l_L_gone => k_is); (case c_L_gone => k_is); (case k_L_gone => k_is); (case a_L_edged => k_is); (case l_L_edged => k_is); (case c_L_edged => k_is); (case k_L_edged => k_is); (case a_law => k_is); (case l_law => k_is); (case c_law => k_is); (case k_law => k_is); (case i_LEAST_HELD => k_is); (case i_MOST_HELD => k_is); (case z_len => k_is); (case z_sum => k_is); (case z_max => k_is); (case z_min => k_is); (case z_abs => k_is); (case z_int => k_is); (case z_tuple => k_is); (case z_range => k_is); (case z_sorted => k_is); (case z_zip => k_is); (case z_isinstance => k_is); (case z_list => k_is); (case z_all => k_is); (case z_repr => k_is); (case z_str => k_is); (case z_enumerate => k_is)

