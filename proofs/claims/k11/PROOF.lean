import PyProof.Rows.All
import Wide.All
import OpenK.AllK
import Wide.FinOn
import HandS.Base
import HandS.Call
import HandS.List
import HandS.Comp
import HandS.Ends
import HandS.Dict
import HandS.Iter
import HandS.Text
import HandS.Words
import HandS.WordsList
import HandS.WordsDict
import HandS.Conv
import HandS.Codes
import HandS.Wide
import HandS.Style
import KE.KTupSum
import HandS.Walk
import PySem.Challenge.RW_nonegrowsrich_k11_whole_where_by_thousan
set_option Elab.async false
set_option linter.all false
set_option maxRecDepth 100000
set_option maxHeartbeats 4000000
namespace NG
open PySem PySem.Spec PyProof.Rows L2

/-! ### sum of a tuple -/
theorem cr_sumT {X : Cx} (hc : X.calm = true) : CallR X (.builtin "sum") (fun vs H Q => ∃ (a : Addr) (ns : List Int), vs = [V.ref a] ∧ SqT X.K H a (ns.map V.int) ∧ Q (.int ns.sum) H) := by
  intro pins s σ H vs us Q I r h
  obtain ⟨a, ns, rfl, hs, q⟩ := h
  obtain ⟨its, rv, hl, _⟩ := I.tuple hs
  rw [Vals.ref1 r]
  have hi := rv.ints
  obtain ⟨xs, e⟩ := hi.allInts.items
  have hn : numsOf (intItems xs).toList = ns := by rw [← e]; exact hi.numsOf
  rw [nums_intItems] at hn
  rw [e] at hl
  refine PySem.W.ktm_sumG (I.ok.hd hc) hl fun h' tk t' hk => ?_
  rw [preSum_eq, List.take_of_length_le (by simp), hn]
  exact ⟨.int _, H, I.kept hk, ⟨_, rfl⟩, q⟩

/-! ### rules whose reading names the written part, for a comprehension's block -/
theorem ixl {X : Cx} (K : PySem.W.Frag) (h : X.K = K := by rfl) : IxR X (rIxL K) := by
  subst h
  exact ix_list
theorem ixt {X : Cx} (K : PySem.W.Frag) (h : X.K = K := by rfl) : IxR X (rIxT K) := by
  subst h
  exact ix_tup
theorem lenK {X : Cx} (K : PySem.W.Frag) (h : X.K = K := by rfl) : CallR X (.builtin "len") (fun xs H Q => ∃ p ys, xs = [.ref p] ∧ (SqL K H p ys ∨ SqT K H p ys) ∧ Q (.int ys.length) H) := by
  subst h
  exact call_len_seq
theorem sumT {X : Cx} (K : PySem.W.Frag) (hc : X.calm = true) (h : X.K = K := by rfl) : CallR X (.builtin "sum") (fun vs H Q => ∃ (a : Addr) (ns : List Int), vs = [V.ref a] ∧ SqT K H a (ns.map V.int) ∧ Q (.int ns.sum) H) := by
  subst h
  exact cr_sumT hc
theorem sumL {X : Cx} (K : PySem.W.Frag) (hc : X.calm = true) (h : X.K = K := by rfl) : CallR X (.builtin "sum") (rSum K) := by
  subst h
  exact cr_sum hc

/-! ### short words -/
theorem iteFF {c : Bool} {A B : Prop} (hc : c = false) (h : B) : if c = true then A else B := by
  subst hc
  exact iteF h
theorem iteTT {c : Bool} {A B : Prop} (hc : c = true) (h : A) : if c = true then A else B := by
  subst hc
  exact iteT h
theorem iteD {p : Prop} [Decidable p] {A B : Prop} (h1 : p → A) (h2 : ¬ p → B) : if decide p = true then A else B := by
  by_cases h : p
  · rw [decide_eq_true h]
    exact iteT (h1 h)
  · rw [decide_eq_false h]
    exact iteF (h2 h)
theorem at_mem {xs : List V} {i : Int} (h0 : 0 ≤ i) (h1 : i < xs.length) : ∃ v, atI xs i = some v ∧ v ∈ xs := by
  have hj : i.toNat < xs.length := by omega
  refine ⟨xs[i.toNat], ?_, List.getElem_mem hj⟩
  exact at_of (j := i.toNat) (by omega) (List.getElem?_eq_getElem hj)
theorem at_int {ns : List Int} {i : Int} (h0 : 0 ≤ i) (h1 : i < ns.length) : atI (ns.map V.int) i = some (.int (ns.getD i.toNat 0)) := by
  have hj : i.toNat < ns.length := by omega
  refine at_of (j := i.toNat) (by omega) ?_
  rw [List.getElem?_map, List.getElem?_eq_getElem hj, List.getD_eq_getElem?_getD, List.getElem?_eq_getElem hj]
  rfl

/-- an expression, with a word behind it -/
def tCutE (t : TE) : TE := fun σ H Q => ∃ M : VK, t σ H M ∧ ∀ v H', M v H' → Q v H'
theorem pe_cut {X : Cx} {e : Expr} {t : TE} (h : PE X e t) : PE X e (tCutE t) :=
  ⟨fun pins s σ H Q I ⟨M, hm, hq⟩ => thn (h.run pins s σ H M I hm) fun u s1 ⟨x, H1, I1, r, q⟩ => ⟨x, H1, I1, r, hq _ _ q⟩⟩

/-! ### heaps: all but one object is as it was -/
def But (a : Addr) (H H' : Hp) : Prop := ∀ b o, b ≠ a → H b = some o → H' b = some o
theorem But.refl (a : Addr) (H : Hp) : But a H H := fun _ _ _ h => h
theorem But.trans {a : Addr} {H H1 H2 : Hp} (x : But a H H1) (y : But a H1 H2) : But a H H2 := fun b o n h => y b o n (x b o n h)
theorem But.of {a : Addr} {H H' : Hp} (x : Same H H') : But a H H' := fun b o _ h => x b o h
theorem But.new {a p : Addr} {H : Hp} {o : HO} (h : H p = none) : But a H (upd H p o) := fun b u _ e => by
  rw [upd_ne (ne_of_none e h)]
  exact e
theorem But.put {a : Addr} {H : Hp} {o : HO} : But a H (upd H a o) := fun b u n e => by
  rw [upd_ne n]
  exact e
theorem But.same {a : Addr} {H H' : Hp} (x : But a H H') (h : H a = none) : Same H H' := fun b o e => x b o (ne_of_none e h) e
theorem same_new {p : Addr} {H : Hp} {o : HO} (h : H p = none) : Same H (upd H p o) := fun b u e => by
  rw [upd_ne (ne_of_none e h)]
  exact e
theorem But.free {a b : Addr} {H H' : Hp} {o : HO} (x : But a H H') (h : H a = some o) (n : H' b = none) (n2 : H' a ≠ none) : H b = none := by
  cases q : H b with
  | none => rfl
  | some u =>
    by_cases e : b = a
    · subst e
      exact absurd n n2
    · rw [x b u e q] at n
      cases n
theorem But.sqt {a p : Addr} {H H' : Hp} {K : PySem.W.Frag} {l xs : List V} (x : But a H H') (h : H a = some (.lst l)) (q : SqT K H p xs) : SqT K H' p xs := by
  rcases q with (q | ⟨o, q⟩) | q
  · exact .inl (.inl (x _ _ (ne_of q h (by intro z; cases z)) q))
  · exact .inl (.inr ⟨o, x _ _ (ne_of q h (by intro z; cases z)) q⟩)
  · exact .inr q
theorem same_sqt {p : Addr} {H H' : Hp} {K : PySem.W.Frag} {xs : List V} (x : Same H H') (q : SqT K H p xs) : SqT K H' p xs := by
  rcases q with (q | ⟨o, q⟩) | q
  · exact .inl (.inl (x _ _ q))
  · exact .inl (.inr ⟨o, x _ _ q⟩)
  · exact .inr q

/-! ### the hand -/
def HandAt (H : Hp) (a : Addr) (n : Nat) : Prop := ∃ g s m : Int, H a = some (.lst [.int g, .int s, .int m]) ∧ 0 ≤ g ∧ 0 ≤ s ∧ 0 ≤ m ∧ m ≤ n
theorem HandAt.le {H : Hp} {a : Addr} {n k : Nat} (h : HandAt H a n) (l : n ≤ k) : HandAt H a k := by
  obtain ⟨g, s, m, e, h1, h2, h3, h4⟩ := h
  exact ⟨g, s, m, e, h1, h2, h3, by omega⟩
theorem HandAt.new {H : Hp} {a p : Addr} {n : Nat} {o : HO} (h : HandAt H a n) (hp : H p = none) : HandAt (upd H p o) a n := by
  obtain ⟨g, s, m, e, h1, h2, h3, h4⟩ := h
  exact ⟨g, s, m, by rw [upd_ne (ne_of_none e hp)]; exact e, h1, h2, h3, h4⟩
theorem HandAt.put {H : Hp} {a p : Addr} {n : Nat} {o : HO} (h : HandAt H a n) (hp : p ≠ a) : HandAt (upd H p o) a n := by
  obtain ⟨g, s, m, e, h1, h2, h3, h4⟩ := h
  exact ⟨g, s, m, by rw [upd_ne (Ne.symm hp)]; exact e, h1, h2, h3, h4⟩
theorem HandAt.ne {H : Hp} {a p : Addr} {n : Nat} (h : HandAt H a n) (hp : H p = none) : p ≠ a := by
  obtain ⟨g, s, m, e, _⟩ := h
  exact (ne_of_none e hp).symm
theorem HandAt.some {H : Hp} {a : Addr} {n : Nat} (h : HandAt H a n) : ∃ l, H a = some (.lst l) := by
  obtain ⟨g, s, m, e, _⟩ := h
  exact ⟨_, e⟩
theorem But.sq {a p : Addr} {H H' : Hp} {K : PySem.W.Frag} {n : Nat} {xs : List V} (x : But a H H') (h : HandAt H a n) (q : SqT K H p xs) : SqT K H' p xs := by
  obtain ⟨l, e⟩ := h.some
  exact x.sqt e q

structure Bl (mg : Str → Option Value) : Prop where
  len : mg "len" = none
  sum : mg "sum" = none
  max : mg "max" = none
  min : mg "min" = none
  abs : mg "abs" = none
  int : mg "int" = none
  tuple : mg "tuple" = none
  range : mg "range" = none

/-! ### a def that may be called by its name -/
structure Cal (P : Program) (w : World) (K : PySem.W.Frag) (mg : Str → Option Value) (base : Heap) (k : Nat) (x : Str) (sp : Sp) : Prop where
  ex : ∃ (f : Addr) (fd : FuncData) (ps : List Str), FnOk P w K mg base CX0 k f fd ps sp ∧ mg x = some (.ref f) ∧ PySem.W.keepIn K (.ref f) = true ∧ Binds K fd ps []
section
variable {X : Cx} {k j : Nat} {x : Str} {sp : Sp} {p pos : Pos} {e : Expr} {es : List Expr} {t : TA}
theorem pe_c (c : Cal X.prog X.w X.K X.mg X.base k x sp) (hr : Room j X.A) (hk : k ≤ j) (hg : Gl X x) (ha : PA X (e :: es) t)
    (hdb : (x == ("__debug__" : Str)) = false := by decide) (he : starEach (e :: es) X.env = (false, eval e X.env) :: starEach es X.env := by rfl) (hpl : (backTo pos (starEach es X.env)).any (·.1) = false := by rfl) :
    PE X (.Call (.Name x p) (e :: es) [] pos) (tCall sp [] E0 t) := by
  obtain ⟨f, fd, ps, F, hm, kp, b⟩ := c.ex
  exact pe_call F (hr.mono hk) hg hm kp b .nil pass0 ha hdb he hpl
end
theorem Cal.mono {P : Program} {w : World} {K : PySem.W.Frag} {mg : Str → Option Value} {base : Heap} {j k : Nat} {x : Str} {sp : Sp} (c : Cal P w K mg base j x sp) (h : j ≤ k) : Cal P w K mg base k x sp := by
  obtain ⟨f, fd, ps, F, r⟩ := c.ex
  exact ⟨f, fd, ps, F.mono h, r⟩

/-! ### promises of the draws -/
def spTake : Sp := fun vs H Q _ => ∃ (a : Addr) (many : Int) (n : Nat), vs = [.ref a, .int many] ∧ 0 < many ∧ many < 2 ^ 62 ∧ HandAt H a n ∧ n ≤ 1000000000 ∧
  ∀ H' r, But a H H' → HandAt H' a (n + 1) → 0 ≤ r → r < many → Q (.int r) H'
def spHand (K : PySem.W.Frag) : Sp := fun vs H Q _ => ∃ (a : Addr) (k : Int) (ns : List Int), vs = [.ref a, .int k] ∧ 0 ≤ k ∧ k < 1000 ∧ SqL K H a (ns.map V.int) ∧
  ∀ p g s, H p = none → 0 ≤ g → 0 ≤ s → Q (.ref p) (upd H p (.lst [.int g, .int s, .int 0]))
/-- an item of a list that is given -/
def spOf (K : PySem.W.Frag) : Sp := fun vs H Q _ => ∃ (a b : Addr) (xs : List V) (n : Nat), vs = [.ref a, .ref b] ∧ a ≠ b ∧ H b = some (.lst xs) ∧ 0 < xs.length ∧ xs.length ≤ 1000 ∧ HandAt H a n ∧ n ≤ 1000000000 ∧
  ∀ H' v, But a H H' → HandAt H' a (n + 1) → v ∈ xs → Q v H'
def spFigure : Sp := fun vs H Q _ => ∃ (a : Addr) (n : Nat), vs = [.ref a] ∧ HandAt H a n ∧ n ≤ 999999990 ∧
  ∀ H' c, But a H H' → HandAt H' a (n + 3) → -1000 ≤ c → c ≤ 1000 → Q (.int c) H'
end NG

namespace NG
open PySem PySem.Spec PyProof.Rows L2

/-! ### expressions -/
inductive W4 where
  | sum | less | least | most
  deriving DecidableEq
def wn : W4 → Str
  | .sum => "sum"
  | .less => "less"
  | .least => "least"
  | .most => "most"
inductive Ex where
  | fig (c : Int) | reg (i : Nat) | share (j : Nat)
  | two (w : W4) (a b : Ex)
  | times (f : Int) (a : Ex) | by (i : Nat) (a : Ex)
  | when (i : Nat) (c : Int) (a b : Ex) | whr (j : Nat) (c : Int) (a b : Ex)
def ExAt (K : PySem.W.Frag) (H : Hp) : Ex → V → Prop
  | .fig c, v => ∃ p, v = .ref p ∧ SqT K H p [.str "fig", .int c]
  | .reg i, v => ∃ p, v = .ref p ∧ SqT K H p [.str "reg", .int (i : Int)]
  | .share j, v => ∃ p, v = .ref p ∧ SqT K H p [.str "share", .int (j : Int)]
  | .two w a b, v => ∃ p x y, v = .ref p ∧ SqT K H p [.str (wn w), x, y] ∧ ExAt K H a x ∧ ExAt K H b y
  | .times f a, v => ∃ p x, v = .ref p ∧ SqT K H p [.str "times", .int f, x] ∧ ExAt K H a x
  | .by i a, v => ∃ p x, v = .ref p ∧ SqT K H p [.str "by", .int (i : Int), x] ∧ ExAt K H a x
  | .when i c a b, v => ∃ p x y, v = .ref p ∧ SqT K H p [.str "when", .int (i : Int), .int c, x, y] ∧ ExAt K H a x ∧ ExAt K H b y
  | .whr j c a b, v => ∃ p x y, v = .ref p ∧ SqT K H p [.str "where", .int (j : Int), .int c, x, y] ∧ ExAt K H a x ∧ ExAt K H b y
theorem ExAt.imp {K : PySem.W.Frag} {H H' : Hp} (h : ∀ p xs, SqT K H p xs → SqT K H' p xs) : ∀ {e : Ex} {v : V}, ExAt K H e v → ExAt K H' e v
  | .fig _, _, ⟨p, e, q⟩ => ⟨p, e, h _ _ q⟩
  | .reg _, _, ⟨p, e, q⟩ => ⟨p, e, h _ _ q⟩
  | .share _, _, ⟨p, e, q⟩ => ⟨p, e, h _ _ q⟩
  | .two _ _ _, _, ⟨p, x, y, e, q, a, b⟩ => ⟨p, x, y, e, h _ _ q, ExAt.imp h a, ExAt.imp h b⟩
  | .times _ _, _, ⟨p, x, e, q, a⟩ => ⟨p, x, e, h _ _ q, ExAt.imp h a⟩
  | .by _ _, _, ⟨p, x, e, q, a⟩ => ⟨p, x, e, h _ _ q, ExAt.imp h a⟩
  | .when _ _ _ _, _, ⟨p, x, y, e, q, a, b⟩ => ⟨p, x, y, e, h _ _ q, ExAt.imp h a, ExAt.imp h b⟩
  | .whr _ _ _ _, _, ⟨p, x, y, e, q, a, b⟩ => ⟨p, x, y, e, h _ _ q, ExAt.imp h a, ExAt.imp h b⟩
theorem ExAt.but {K : PySem.W.Frag} {H H' : Hp} {a : Addr} {n : Nat} {e : Ex} {v : V} (x : ExAt K H e v) (b : But a H H') (h : HandAt H a n) : ExAt K H' e v := x.imp fun _ _ q => b.sq h q
theorem ExAt.same {K : PySem.W.Frag} {H H' : Hp} {e : Ex} {v : V} (x : ExAt K H e v) (b : Same H H') : ExAt K H' e v := x.imp fun _ _ q => same_sqt b q
theorem ExAt.new {K : PySem.W.Frag} {H : Hp} {p : Addr} {o : HO} {e : Ex} {v : V} (x : ExAt K H e v) (n : H p = none) : ExAt K (upd H p o) e v := x.same (same_new n)
def ExOk (many : Nat) : Ex → Prop
  | .fig c => -1000 ≤ c ∧ c ≤ 1000
  | .reg i => i < 4
  | .share j => j < many
  | .two _ a b => ExOk many a ∧ ExOk many b
  | .times f a => (-9 ≤ f ∧ f ≤ 9) ∧ ExOk many a
  | .by i a => i < 4 ∧ ExOk many a
  | .when i c a b => i < 4 ∧ (-1000 ≤ c ∧ c ≤ 1000) ∧ ExOk many a ∧ ExOk many b
  | .whr j c a b => j < many ∧ (1 ≤ c ∧ c ≤ 1000) ∧ ExOk many a ∧ ExOk many b
def Ex.dep : Ex → Nat
  | .fig _ => 1
  | .reg _ => 1
  | .share _ => 1
  | .two _ a b => max a.dep b.dep + 1
  | .times _ a => a.dep + 1
  | .by _ a => a.dep + 1
  | .when _ _ a b => max a.dep b.dep + 1
  | .whr _ _ a b => max a.dep b.dep + 1
def jw : W4 → Int → Int → Int
  | .sum, x, y => x + y
  | .less, x, y => x - y
  | .least, x, y => if y < x then y else x
  | .most, x, y => if y > x then y else x
def wo (rs ss : List Int) : Ex → Int
  | .fig c => c * ss.sum
  | .reg i => rs.getD i 0 * ss.sum
  | .share j => 1000 * ss.getD j 0
  | .two w a b => jw w (wo rs ss a) (wo rs ss b)
  | .times f a => f * wo rs ss a
  | .by i a => rs.getD i 0 * wo rs ss a
  | .when i c a b => if rs.getD i 0 < c then wo rs ss a else wo rs ss b
  | .whr j c a b => if 1000 * ss.getD j 0 < c * ss.sum then wo rs ss a else wo rs ss b
theorem at_nth {ns : List Int} {i : Nat} (h : i < ns.length) : atI (ns.map V.int) (i : Int) = some (.int (ns.getD i 0)) := at_int (by omega) (by omega)

def RegsAt (K : PySem.W.Frag) (H : Hp) (rs : List Int) (v : V) : Prop := ∃ p, v = .ref p ∧ SqT K H p (rs.map V.int) ∧ rs.length = 4 ∧ ∀ x ∈ rs, -1000 ≤ x ∧ x ≤ 1000
def ShAt (K : PySem.W.Frag) (H : Hp) (many : Nat) (ss : List Int) (v : V) : Prop := ∃ p, v = .ref p ∧ SqT K H p (ss.map V.int) ∧ ss.length = many ∧ (∀ x ∈ ss, 0 ≤ x ∧ x < 2 ^ 100) ∧ 0 < ss.sum ∧ ss.sum < 2 ^ 200
theorem RegsAt.imp {K : PySem.W.Frag} {H H' : Hp} {rs : List Int} {v : V} (r : RegsAt K H rs v) (h : ∀ p xs, SqT K H p xs → SqT K H' p xs) : RegsAt K H' rs v := by
  obtain ⟨p, e, q, l⟩ := r
  exact ⟨p, e, h _ _ q, l⟩
theorem ShAt.imp {K : PySem.W.Frag} {H H' : Hp} {many : Nat} {rs : List Int} {v : V} (r : ShAt K H many rs v) (h : ∀ p xs, SqT K H p xs → SqT K H' p xs) : ShAt K H' many rs v := by
  obtain ⟨p, e, q, l⟩ := r
  exact ⟨p, e, h _ _ q, l⟩
theorem getD_mem {ns : List Int} {i : Nat} (h : i < ns.length) : ns.getD i 0 ∈ ns := by
  rw [List.getD_eq_getElem?_getD, List.getElem?_eq_getElem h]
  exact List.getElem_mem h

/-! ### promises -/
def spWorth (K : PySem.W.Frag) (n : Nat) : Sp := fun vs H Q _ => ∃ (v r s : V) (e : Ex) (many : Nat) (rs ss : List Int), vs = [v, r, s] ∧ ExAt K H e v ∧ ExOk many e ∧ e.dep ≤ n ∧ RegsAt K H rs r ∧ ShAt K H many ss s ∧ Q (.int (wo rs ss e)) H
def spJoinW : Sp := fun vs H Q _ => ∃ (w : W4) (x y : Int), vs = [.str (wn w), .int x, .int y] ∧ Q (.int (jw w x y)) H
def spLed (K : PySem.W.Frag) : Sp := fun vs H Q _ => ∃ (p : Addr) (r x y : V) (i : Nat) (c : Int) (rs : List Int), vs = [.ref p, r] ∧ SqT K H p [.str "when", .int (i : Int), .int c, x, y] ∧ i < 4 ∧ RegsAt K H rs r ∧ Q (if rs.getD i 0 < c then x else y) H
def spSide (K : PySem.W.Frag) : Sp := fun vs H Q _ => ∃ (p : Addr) (s x y : V) (many j : Nat) (c : Int) (ss : List Int), vs = [.ref p, s] ∧ SqT K H p [.str "where", .int (j : Int), .int c, x, y] ∧ j < many ∧ (1 ≤ c ∧ c ≤ 1000) ∧ ShAt K H many ss s ∧ Q (if 1000 * ss.getD j 0 < c * ss.sum then x else y) H
def spMills (K : PySem.W.Frag) : Sp := fun vs H Q _ => ∃ (s : V) (many j : Nat) (ss : List Int), vs = [s, .int (j : Int)] ∧ ShAt K H many ss s ∧ j < many ∧ Q (.int (1000 * ss.getD j 0 / ss.sum)) H
def cost : Nat → Nat
  | 0 => 6
  | n + 1 => 2 * cost n + 20
theorem cost_ge (l : Nat) : 6 ≤ cost l := by
  cases l with
  | zero => exact Nat.le_refl _
  | succ l =>
    unfold cost
    omega
def spLeaf (K : PySem.W.Frag) : Sp := fun vs H Q _ => ∃ (a : Addr) (many n : Nat), vs = [.ref a, .int (many : Int)] ∧ 1 ≤ many ∧ many ≤ 1000 ∧ HandAt H a n ∧ n ≤ 999999000 ∧
  ∀ H' v e, But a H H' → HandAt H' a (n + 5) → ExAt K H' e v → ExOk many e → e.dep ≤ 1 → Q v H'
def spExpr (K : PySem.W.Frag) (m : Nat) : Sp := fun vs H Q _ => ∃ (a : Addr) (many l n : Nat), vs = [.ref a, .int (many : Int), .int (l : Int), .int 1] ∧ l < m ∧ 1 ≤ many ∧ many ≤ 1000 ∧ HandAt H a n ∧ n + cost l ≤ 999999000 ∧
  ∀ H' v e, But a H H' → HandAt H' a (n + cost l) → ExAt K H' e v → ExOk many e → e.dep ≤ l + 1 → Q v H'
theorem cal_never {P : Program} {w : World} {K : PySem.W.Frag} {mg : Str → Option Value} {base : Heap} {k : Nat} {x qual : Str} {st : Stmt} {f : Addr} {fd : FuncData} {ps : List Str} {sp : Sp} (F : Fun K x qual st f fd) (gF : mg x = some (.ref f)) (b : Binds K fd ps []) (h : ∀ vs H Q E, ¬ sp vs H Q E) : Cal P w K mg base k x sp :=
  ⟨f, fd, ps, ⟨fun vs H Q E q => absurd q (h _ _ _ _), fun A outer s H args us vs Q E _ _ _ _ q => absurd q (h _ _ _ _)⟩, gF, F.kp, b⟩
end NG

namespace NG
open PySem PySem.Spec PyProof.Rows L2

/-! ### the greatest that divides all -/
def gf (g : Nat) (x : Int) : Nat := Nat.gcd g x.toNat
def gl (ns : List Int) : Nat := ns.foldl gf 0
theorem gl_step {ns : List Int} {i : Nat} {x : Int} (h : ns[i]? = some x) : gl (ns.take (i + 1)) = Nat.gcd (gl (ns.take i)) x.toNat := by
  unfold gl
  rw [List.take_add_one, h, List.foldl_append]
  rfl
theorem gf_dvd : ∀ (ns : List Int) (g : Nat), ns.foldl gf g ∣ g ∧ ∀ x ∈ ns, ns.foldl gf g ∣ x.toNat
  | [], g => ⟨Nat.dvd_refl _, fun x h => by cases h⟩
  | y :: ns, g => by
    obtain ⟨h1, h2⟩ := gf_dvd ns (gf g y)
    refine ⟨Nat.dvd_trans h1 (Nat.gcd_dvd_left _ _), fun x hx => ?_⟩
    rcases List.mem_cons.mp hx with rfl | hx
    · exact Nat.dvd_trans h1 (Nat.gcd_dvd_right _ _)
    · exact h2 x hx
theorem gl_dvd {ns : List Int} {x : Int} (h : x ∈ ns) : gl ns ∣ x.toNat := (gf_dvd ns 0).2 x h
theorem gl_pos {ns : List Int} {x : Int} (h : x ∈ ns) (p : 0 < x) : 0 < gl ns := Nat.pos_of_dvd_of_pos (gl_dvd h) (by omega)
theorem sum_nonneg : ∀ {ms : List Int}, (∀ x ∈ ms, 0 ≤ x) → 0 ≤ ms.sum
  | [], _ => by simp
  | y :: ms, h => by
    have := sum_nonneg (ms := ms) fun x hx => h x (List.mem_cons_of_mem _ hx)
    have := h y List.mem_cons_self
    rw [List.sum_cons]
    omega
theorem sum_pos : ∀ {ms : List Int} {x : Int}, (∀ x ∈ ms, 0 ≤ x) → x ∈ ms → 0 < x → 0 < ms.sum
  | y :: ms, x, h, hx, p => by
    have h1 := sum_nonneg (ms := ms) fun x hx => h x (List.mem_cons_of_mem _ hx)
    have h2 := h y List.mem_cons_self
    rw [List.sum_cons]
    rcases List.mem_cons.mp hx with rfl | hx
    · omega
    · have := sum_pos (ms := ms) (fun x hx => h x (List.mem_cons_of_mem _ hx)) hx p
      omega
theorem sum_le {B : Int} : ∀ {ms : List Int}, (∀ x ∈ ms, x ≤ B) → ms.sum ≤ ms.length * B
  | [], _ => by simp
  | y :: ms, h => by
    have h1 := sum_le (ms := ms) fun x hx => h x (List.mem_cons_of_mem _ hx)
    have h2 := h y List.mem_cons_self
    rw [List.sum_cons, List.length_cons, Int.natCast_succ, Int.add_mul]
    omega
theorem div_le_self' {x : Int} {g : Nat} (h : 0 ≤ x) : x / (g : Int) ≤ x := Int.ediv_le_self _ h
/-- what lowest makes -/
def low (ns : List Int) : List Int := ns.map fun x => x / (gl ns : Int)
theorem low_sh {ns : List Int} (hb : ∀ x ∈ ns, 0 ≤ x ∧ x < 2 ^ 100) (hl : ns.length ≤ 1000) {y : Int} (hy : y ∈ ns) (py : 0 < y) :
    (∀ x ∈ low ns, 0 ≤ x ∧ x < 2 ^ 100) ∧ 0 < (low ns).sum ∧ (low ns).sum < 2 ^ 200 := by
  have hg := gl_pos hy py
  have h1 : ∀ x ∈ low ns, 0 ≤ x ∧ x < 2 ^ 100 := fun x hx => by
    obtain ⟨z, hz, rfl⟩ := List.mem_map.mp hx
    have h2 := hb z hz
    exact ⟨Int.ediv_nonneg h2.1 (by omega), Int.lt_of_le_of_lt (div_le_self' h2.1) h2.2⟩
  refine ⟨h1, ?_, ?_⟩
  · refine sum_pos (x := y / (gl ns : Int)) (fun x hx => (h1 x hx).1) (List.mem_map.mpr ⟨y, hy, rfl⟩) ?_
    have hd : (gl ns : Nat) ≤ y.toNat := Nat.le_of_dvd (by omega) (gl_dvd hy)
    exact Int.ediv_pos_of_pos_of_dvd py (by omega) (by
      have : ((gl ns : Nat) : Int) ∣ ((y.toNat : Nat) : Int) := Int.natCast_dvd_natCast.mpr (gl_dvd hy)
      rwa [Int.toNat_of_nonneg (by omega)] at this)
  · have h3 := sum_le (B := 2 ^ 100) (ms := low ns) fun x hx => Int.le_of_lt (h1 x hx).2
    have h4 : (low ns).length ≤ 1000 := by
      unfold low
      rw [List.length_map]
      exact hl
    have h5 : ((low ns).length : Int) * 2 ^ 100 ≤ 1000 * 2 ^ 100 := Int.mul_le_mul_of_nonneg_right (by omega) (by decide)
    have h6 : (1000 : Int) * 2 ^ 100 < 2 ^ 200 := by decide
    omega
theorem gcd_turn {u v : Nat} : Nat.gcd v (u % v) = Nat.gcd u v := by
  rw [Nat.gcd_comm v, ← Nat.gcd_rec, Nat.gcd_comm]
theorem ixN_of {n : Nat} {r : Int} (h0 : 0 ≤ r) (h1 : r < n) : ixN n r = some r.toNat := by
  unfold ixN
  rw [if_pos h0, if_pos h1]

theorem tYes_in {σ : L2.St} {H : Hp} {A B : Hp → Prop} (h : A H) : tYes σ H (fun b H3 => if b = true then A H3 else B H3) := by
  show if true = true then A H else B H
  exact iteT h

/-! ### promises -/
def spLow (K : PySem.W.Frag) : Sp := fun vs H Q _ => ∃ (p : Addr) (ns : List Int) (y : Int), vs = [.ref p] ∧ H p = some (.lst (ns.map V.int)) ∧ (∀ x ∈ ns, 0 ≤ x ∧ x < 2 ^ 100) ∧ ns.length ≤ 1000 ∧ y ∈ ns ∧ 0 < y ∧
  ∀ H' v ms, Same H H' → ShAt K H' ns.length ms v → Q v H'
def spShares (K : PySem.W.Frag) : Sp := fun vs H Q _ => ∃ (a : Addr) (many n : Nat), vs = [.ref a, .int (many : Int)] ∧ 1 ≤ many ∧ many ≤ 3 ∧ HandAt H a n ∧ n ≤ 999998000 ∧
  ∀ H' v ms, But a H H' → HandAt H' a (n + 20) → ShAt K H' many ms v → Q v H'
def spRegs (K : PySem.W.Frag) : Sp := fun vs H Q _ => ∃ (a : Addr) (n : Nat), vs = [.ref a] ∧ HandAt H a n ∧ n ≤ 999998000 ∧
  ∀ H' v rs, But a H H' → HandAt H' a (n + 12) → RegsAt K H' rs v → Q v H'
def spAsked (K : PySem.W.Frag) : Sp := fun vs H Q _ => ∃ (a : Addr) (many n : Nat), vs = [.ref a, .int (many : Int)] ∧ 2 ≤ many ∧ many ≤ 3 ∧ HandAt H a n ∧ n ≤ 999997000 ∧
  ∀ H' v ms, But a H H' → HandAt H' a (n + 25) → ShAt K H' many ms v → Q v H'
end NG

namespace NG
open PySem PySem.Spec PyProof.Rows L2
/-! ### rows of expressions -/
def RowsAt (K : PySem.W.Frag) (H : Hp) : List V → List Ex → Prop
  | [], [] => True
  | v :: vs, e :: es => ExAt K H e v ∧ RowsAt K H vs es
  | _, _ => False
theorem RowsAt.imp {K : PySem.W.Frag} {H H' : Hp} (h : ∀ p xs, SqT K H p xs → SqT K H' p xs) : ∀ {vs : List V} {es : List Ex}, RowsAt K H vs es → RowsAt K H' vs es
  | [], [], _ => trivial
  | _ :: _, _ :: _, ⟨x, r⟩ => ⟨x.imp h, RowsAt.imp h r⟩
theorem RowsAt.same {K : PySem.W.Frag} {H H' : Hp} {vs : List V} {es : List Ex} (r : RowsAt K H vs es) (s : Same H H') : RowsAt K H' vs es := r.imp fun _ _ q => same_sqt s q
theorem RowsAt.len {K : PySem.W.Frag} {H : Hp} : ∀ {vs : List V} {es : List Ex}, RowsAt K H vs es → vs.length = es.length
  | [], [], _ => rfl
  | _ :: _, _ :: _, ⟨_, r⟩ => by rw [List.length_cons, List.length_cons, r.len]
theorem RowsAt.snoc {K : PySem.W.Frag} {H : Hp} {v : V} {e : Ex} (x : ExAt K H e v) : ∀ {vs : List V} {es : List Ex}, RowsAt K H vs es → RowsAt K H (vs ++ [v]) (es ++ [e])
  | [], [], _ => ⟨x, trivial⟩
  | _ :: _, _ :: _, ⟨y, r⟩ => ⟨y, RowsAt.snoc x r⟩
theorem RowsAt.get {K : PySem.W.Frag} {H : Hp} : ∀ {vs : List V} {es : List Ex} {k : Nat} {e : Ex}, RowsAt K H vs es → es[k]? = some e → ∃ v, vs[k]? = some v ∧ ExAt K H e v
  | [], [], _, _, _, h => by simp at h
  | v :: vs, e' :: es, 0, e, ⟨x, r⟩, h => by
    have : e' = e := Option.some.inj h
    subst this
    exact ⟨v, rfl, x⟩
  | v :: vs, e' :: es, k + 1, e, ⟨x, r⟩, h => RowsAt.get (k := k) r h
def pairUp : List Ex → List Ex
  | a :: b :: r => .two .sum a b :: pairUp r
  | _ => []
theorem pairUp_get : ∀ {es : List Ex} {k : Nat} {a b : Ex}, es[2 * k]? = some a → es[2 * k + 1]? = some b → (pairUp es)[k]? = some (.two .sum a b)
  | [], k, _, _, h, _ => by simp at h
  | [_], k, _, _, _, h => by
    have := (List.getElem?_eq_some_iff.mp h).1
    rw [List.length_singleton] at this
    omega
  | x :: y :: r, 0, a, b, h, h2 => by
    have e1 : x = a := Option.some.inj h
    have e2 : y = b := Option.some.inj h2
    rw [← e1, ← e2]
    rfl
  | x :: y :: r, k + 1, a, b, h, h2 => by
    have h : r[2 * k]? = some a := h
    have h2 : r[2 * k + 1]? = some b := h2
    exact pairUp_get (es := r) (k := k) h h2
theorem pairUp_sum (rs ss : List Int) : ∀ {es : List Ex} {k : Nat}, es.length = 2 * k → ((pairUp es).map (wo rs ss)).sum = (es.map (wo rs ss)).sum ∧ (pairUp es).length = k
  | [], k, h => by
    rw [List.length_nil] at h
    exact ⟨rfl, by show 0 = k; omega⟩
  | [_], k, h => by
    rw [List.length_singleton] at h
    omega
  | x :: y :: r, k, h => by
    rw [List.length_cons, List.length_cons] at h
    obtain ⟨h1, h2⟩ := pairUp_sum rs ss (es := r) (k := k - 1) (by omega)
    refine ⟨?_, ?_⟩
    · show (wo rs ss (.two .sum x y) :: (pairUp r).map (wo rs ss)).sum = (wo rs ss x :: wo rs ss y :: r.map (wo rs ss)).sum
      rw [List.sum_cons, List.sum_cons, List.sum_cons, h1]
      show wo rs ss x + wo rs ss y + _ = _
      omega
    · show (pairUp r).length + 1 = k
      omega
theorem pairUp_ok {many d : Nat} : ∀ {es : List Ex}, (∀ e ∈ es, ExOk many e ∧ e.dep ≤ d) → ∀ e ∈ pairUp es, ExOk many e ∧ e.dep ≤ d + 1
  | [], _, e, h => by cases h
  | [_], _, e, h => by cases h
  | x :: y :: r, h, e, he => by
    have hx := h x List.mem_cons_self
    have hy := h y (List.mem_cons_of_mem _ List.mem_cons_self)
    rcases List.mem_cons.mp he with rfl | he
    · refine ⟨⟨hx.1, hy.1⟩, ?_⟩
      show max x.dep y.dep + 1 ≤ d + 1
      omega
    · exact pairUp_ok (es := r) (fun e he => h e (List.mem_cons_of_mem _ (List.mem_cons_of_mem _ he))) e he
def whn (j : Nat) (z : Int) : Ex := .whr j z (.fig 0) (.fig 1)
theorem count_sum (rs ss : List Int) (j : Nat) (h0 : 0 < ss.sum) : ∀ fs : List Int, ((fs.map (whn j)).map (wo rs ss)).sum = ((fs.filter fun z => decide (z ≤ 1000 * ss.getD j 0 / ss.sum)).length : Int) * ss.sum
  | [] => by simp
  | z :: fs => by
    have ih := count_sum rs ss j h0 fs
    have hm : 1000 * ss.getD j 0 / ss.sum < z ↔ 1000 * ss.getD j 0 < z * ss.sum := Int.ediv_lt_iff_lt_mul h0
    show (wo rs ss (whn j z) :: (fs.map (whn j)).map (wo rs ss)).sum = _
    rw [List.sum_cons, ih]
    show (if 1000 * ss.getD j 0 < z * ss.sum then 0 * ss.sum else 1 * ss.sum) + _ = _
    by_cases c : z ≤ 1000 * ss.getD j 0 / ss.sum
    · rw [List.filter_cons_of_pos (by rw [decide_eq_true c]), if_neg (fun q => by have := hm.mpr q; omega), List.length_cons, Int.natCast_succ, Int.add_mul]
      omega
    · rw [List.filter_cons_of_neg (by rw [decide_eq_false c]; exact Bool.false_ne_true), if_pos (hm.mp (by omega))]
      omega
def spCount (K : PySem.W.Frag) : Sp := fun vs H Q _ => ∃ (a : Addr) (many n : Nat) (s : V) (ss : List Int), vs = [.ref a, .int (many : Int), s] ∧ 2 ≤ many ∧ many ≤ 3 ∧ HandAt H a n ∧ n ≤ 999990000 ∧ ShAt K H many ss s ∧
  ∀ H', But a H H' → HandAt H' a (n + 10) → Q (.bl true) H'
end NG

namespace NG
open PySem PySem.Spec PyProof.Rows L2
def topS (i : Nat) : Stmt := PySem.Challenge.pw_nonegrowsrich_k11_whole_where_by_thousan.main.body.getD i (.Pass ⟨0, 0, 0, 0⟩)
abbrev s_mills : Stmt := topS 1
abbrev N_mills : List Str := ["shares", "sign"]
theorem sc_mills : FnScope ["shares", "sign"] ["shares", "sign"] (defScope s_mills) := ⟨rfl, rfl, rfl, by decide +kernel, rfl, by decide +kernel, by decide +kernel⟩
abbrev s_led_part : Stmt := topS 3
abbrev N_led_part : List Str := ["expression", "registers", "word", "place", "figure", "first", "second"]
theorem sc_led_part : FnScope ["expression", "registers", "word", "place", "figure", "first", "second"] ["expression", "registers"] (defScope s_led_part) := ⟨rfl, rfl, rfl, by decide +kernel, rfl, by decide +kernel, by decide +kernel⟩
abbrev s_side_part : Stmt := topS 4
abbrev N_side_part : List Str := ["expression", "shares", "word", "sign", "line", "first", "second"]
theorem sc_side_part : FnScope ["expression", "shares", "word", "sign", "line", "first", "second"] ["expression", "shares"] (defScope s_side_part) := ⟨rfl, rfl, rfl, by decide +kernel, rfl, by decide +kernel, by decide +kernel⟩
abbrev s_join_worths : Stmt := topS 5
abbrev N_join_worths : List Str := ["word", "first", "second"]
theorem sc_join_worths : FnScope ["word", "first", "second"] ["word", "first", "second"] (defScope s_join_worths) := ⟨rfl, rfl, rfl, by decide +kernel, rfl, by decide +kernel, by decide +kernel⟩
abbrev s_worth : Stmt := topS 6
abbrev N_worth : List Str := ["expression", "registers", "shares", "word", "first", "second"]
theorem sc_worth : FnScope ["expression", "registers", "shares", "word", "first", "second"] ["expression", "registers", "shares"] (defScope s_worth) := ⟨rfl, rfl, rfl, by decide +kernel, rfl, by decide +kernel, by decide +kernel⟩
abbrev s_L_hand : Stmt := topS 8
abbrev N_L_hand : List Str := ["_law_script", "_law_k", "_law_cell", "_law_great"]
theorem sc_L_hand : FnScope ["_law_script", "_law_k", "_law_cell", "_law_great"] ["_law_script", "_law_k"] (defScope s_L_hand) := ⟨rfl, rfl, rfl, by decide +kernel, rfl, by decide +kernel, by decide +kernel⟩
abbrev s_L_take : Stmt := topS 9
abbrev N_L_take : List Str := ["_law_hand_here", "_law_many", "_law_digit", "_law_primes", "_law_prime", "_law_drawn"]
theorem sc_L_take : FnScope ["_law_hand_here", "_law_many", "_law_digit", "_law_primes", "_law_prime", "_law_drawn"] ["_law_hand_here", "_law_many"] (defScope s_L_take) := ⟨rfl, rfl, rfl, by decide +kernel, rfl, by decide +kernel, by decide +kernel⟩
abbrev s_L_of : Stmt := topS 10
abbrev N_L_of : List Str := ["_law_hand_here", "_law_some"]
theorem sc_L_of : FnScope ["_law_hand_here", "_law_some"] ["_law_hand_here", "_law_some"] (defScope s_L_of) := ⟨rfl, rfl, rfl, by decide +kernel, rfl, by decide +kernel, by decide +kernel⟩
abbrev s_L_figure : Stmt := topS 11
abbrev N_L_figure : List Str := ["_law_hand_here", "_law_some"]
theorem sc_L_figure : FnScope ["_law_hand_here", "_law_some"] ["_law_hand_here"] (defScope s_L_figure) := ⟨rfl, rfl, rfl, by decide +kernel, rfl, by decide +kernel, by decide +kernel⟩
abbrev s_L_leaf : Stmt := topS 12
abbrev N_L_leaf : List Str := ["_law_hand_here", "_law_many", "_law_sort"]
theorem sc_L_leaf : FnScope ["_law_hand_here", "_law_many", "_law_sort"] ["_law_hand_here", "_law_many"] (defScope s_L_leaf) := ⟨rfl, rfl, rfl, by decide +kernel, rfl, by decide +kernel, by decide +kernel⟩
abbrev s_L_expression : Stmt := topS 13
abbrev N_L_expression : List Str := ["_law_hand_here", "_law_many", "_law_level", "_law_jumps", "_law_words", "_law_word", "_law_one", "_law_other", "_law_figure_here"]
theorem sc_L_expression : FnScope ["_law_hand_here", "_law_many", "_law_level", "_law_jumps", "_law_words", "_law_word", "_law_one", "_law_other", "_law_figure_here"] ["_law_hand_here", "_law_many", "_law_level", "_law_jumps"] (defScope s_L_expression) := ⟨rfl, rfl, rfl, by decide +kernel, rfl, by decide +kernel, by decide +kernel⟩
abbrev s_L_lowest : Stmt := topS 14
abbrev N_L_lowest : List Str := ["_law_row", "_law_by", "_law_number"]
theorem sc_L_lowest : FnScope ["_law_row", "_law_by", "_law_number"] ["_law_row"] (defScope s_L_lowest) := ⟨rfl, rfl, rfl, by decide +kernel, rfl, by decide +kernel, by decide +kernel⟩
abbrev s_L_shares : Stmt := topS 15
abbrev N_L_shares : List Str := ["_law_hand_here", "_law_many", "_law_row", "_law_sign", "_law_some"]
theorem sc_L_shares : FnScope ["_law_hand_here", "_law_many", "_law_row", "_law_sign", "_law_some"] ["_law_hand_here", "_law_many"] (defScope s_L_shares) := ⟨rfl, rfl, rfl, by decide +kernel, rfl, by decide +kernel, by decide +kernel⟩
abbrev s_L_registers : Stmt := topS 16
abbrev N_L_registers : List Str := ["_law_hand_here", "_law_turn"]
theorem sc_L_registers : FnScope ["_law_hand_here", "_law_turn"] ["_law_hand_here"] (defScope s_L_registers) := ⟨rfl, rfl, rfl, by decide +kernel, rfl, by decide +kernel, by decide +kernel⟩
abbrev s_L_asked : Stmt := topS 17
abbrev N_L_asked : List Str := ["_law_hand_here", "_law_many", "_law_first", "_law_rest"]
theorem sc_L_asked : FnScope ["_law_hand_here", "_law_many", "_law_first", "_law_rest"] ["_law_hand_here", "_law_many"] (defScope s_L_asked) := ⟨rfl, rfl, rfl, by decide +kernel, rfl, by decide +kernel, by decide +kernel⟩
abbrev s_L_one_right : Stmt := topS 18
abbrev N_L_one_right : List Str := ["_law_hand_here", "_law_many", "_law_shares_here", "_law_one", "_law_other", "_law_registers_here", "_law_worths", "_law_sign", "_law_told", "_law_some", "_law_figure_here", "_law_made", "_law_low", "_law_high", "_law_between"]
theorem sc_L_one_right : FnScope ["_law_hand_here", "_law_many", "_law_shares_here", "_law_one", "_law_other", "_law_registers_here", "_law_worths", "_law_sign", "_law_told", "_law_some", "_law_figure_here", "_law_made", "_law_low", "_law_high", "_law_between"] ["_law_hand_here", "_law_many", "_law_shares_here"] (defScope s_L_one_right) := ⟨rfl, rfl, rfl, by decide +kernel, rfl, by decide +kernel, by decide +kernel⟩
abbrev s_L_count_right : Stmt := topS 19
abbrev N_L_count_right : List Str := ["_law_hand_here", "_law_many", "_law_shares_here", "_law_sign", "_law_figures", "_law_turn", "_law_rows", "_law_figure_here", "_law_k", "_law_due"]
theorem sc_L_count_right : FnScope ["_law_hand_here", "_law_many", "_law_shares_here", "_law_sign", "_law_figures", "_law_turn", "_law_rows", "_law_figure_here", "_law_k", "_law_due"] ["_law_hand_here", "_law_many", "_law_shares_here"] (defScope s_L_count_right) := ⟨rfl, rfl, rfl, by decide +kernel, rfl, by decide +kernel, by decide +kernel⟩
abbrev s_law : Stmt := topS 20
abbrev N_law : List Str := ["_law_script", "_law_k", "_law_hand_here", "_law_many", "_law_turn", "_law_shares_here"]
theorem sc_law : FnScope ["_law_script", "_law_k", "_law_hand_here", "_law_many", "_law_turn", "_law_shares_here"] ["_law_script"] (defScope s_law) := ⟨rfl, rfl, rfl, by decide +kernel, rfl, by decide +kernel, by decide +kernel⟩

end NG

namespace NG
open PySem PySem.Spec PyProof.Rows L2
section
variable {P : Program} {w : World} {K : PySem.W.Frag} {mg : Str → Option Value} {base : Heap}
theorem primes_at {m : Int} (h : 0 ≤ m) : ∃ p : Int, atI ([.int 2147483647, .int 2147483629, .int 2147483587, .int 2147483579, .int 2147483563, .int 2147483549, .int 2147483543, .int 2147483497] : List V) (m % 8) = some (.int p) ∧ 1000 < p ∧ p < 2147483648 := by
  have h1 : m % 8 = 0 ∨ m % 8 = 1 ∨ m % 8 = 2 ∨ m % 8 = 3 ∨ m % 8 = 4 ∨ m % 8 = 5 ∨ m % 8 = 6 ∨ m % 8 = 7 := by omega
  rcases h1 with e | e | e | e | e | e | e | e <;> rw [e] <;> exact ⟨_, rfl, by decide, by decide⟩
theorem ok_take {f : Addr} {fd : FuncData} (F : Fun K "_law_take" "_law_take" s_L_take f fd) (gF : mg "_law_take" = some (.ref f)) (b : Binds K fd ["_law_hand_here", "_law_many"] []) : Cal P w K mg base 1 "_law_take" spTake := by
  refine ⟨f, fd, _, F.ok sc_L_take (fun vs H Q E h => ?_) (fun cdv A outer s H vs Q E hr h => ?_), gF, F.kp, b⟩
  · obtain ⟨a, m, n, rfl, _⟩ := h
    rfl
  · obtain ⟨a, many, n, rfl, hm, hm2, ⟨g, sd, m, e, hg, hs, h0, hn⟩, hN, q⟩ := h
    refine ⟨_, (pss_cons (ps_if (pt_cmpR op_gt (pe_ix ix_list (pv 0) pe_int (fun _ _ => rfl)) pe_int (nomark _)) (pss_cons (ps_set (i := 2) sc_L_take.nd rfl (.inl rfl) (pe_op op_mod (pe_ix ix_list (pv 0) pe_int (fun _ _ => rfl)) (pv 1))) (pss_cons (ps_asg (pe_op op_fdivW (pe_ix ix_list (pv 0) pe_int (fun _ _ => rfl)) (pv 1)) (pg_sub (pv 0) pe_int set_list)) (pss_one (ps_ret (pv 2))))) pss_nil) (pss_cons (ps_asg (pe_op op_add (pe_ix ix_list (pv 0) pe_int (fun _ _ => rfl)) pe_int) (pg_sub (pv 0) pe_int set_list)) (pss_cons (ps_set (i := 3) sc_L_take.nd rfl (.inl rfl) (pe_lst (pa_cons pe_int (pa_cons pe_int (pa_cons pe_int (pa_cons pe_int (pa_cons pe_int (pa_cons pe_int (pa_cons pe_int (pa_cons pe_int pa_nil)))))))))) (pss_cons (ps_set (i := 4) sc_L_take.nd rfl (.inl rfl) (pe_ix ix_list (pv 3) (pe_op op_mod (pe_ix ix_list (pv 0) pe_int (fun _ _ => rfl)) pe_int) (fun _ _ => rfl))) (pss_cons (ps_set (i := 5) sc_L_take.nd rfl (.inl rfl) (pe_op op_add (pe_op op_mod (pe_op op_mod (pe_op op_add (pe_ix ix_list (pv 0) pe_int (fun _ _ => rfl)) (pe_op op_mul (pe_op op_mul pe_int (pe_ix ix_list (pv 0) pe_int (fun _ _ => rfl))) (pe_ix ix_list (pv 0) pe_int (fun _ _ => rfl)))) (pe_op op_pow (pv 4) pe_int)) (pv 4)) pe_int)) (pss_one (ps_ret (pe_op op_mod (pe_op op_fdiv (pe_op op_mod (pe_op op_mul (pv 5) (pe_op op_add (pe_op op_mod (pv 5) pe_int) (pe_ix ix_list (pv 0) pe_int (fun _ _ => rfl)))) (pv 4)) pe_int) (pv 1))))))))), ?_⟩
    refine ⟨.ref a, rfl, a, _, 0, .int g, rfl, rfl, SqL.of e, rfl, g, 0, rfl, rfl, _, rfl, iteD (fun c => ?_) (fun c => ?_)⟩
    · refine ⟨.ref a, rfl, a, _, 0, .int g, rfl, rfl, SqL.of e, rfl, .int many, rfl, g, many, rfl, rfl, hm, ?_⟩
      refine ⟨.ref a, rfl, a, _, 0, .int g, rfl, rfl, SqL.of e, rfl, .int many, rfl, g, many, rfl, rfl, wide_div (b := 62) hm (by omega) (by decide) (by decide), ?_⟩
      refine ⟨.ref a, rfl, a, _, 0, 0, rfl, rfl, e, rfl, ?_⟩
      refine ⟨.int (g % many), rfl, q _ _ But.put ?_ (Int.emod_nonneg _ (by omega)) (Int.emod_lt_of_pos _ hm)⟩
      exact ⟨g / many, sd, m, upd_same, Int.ediv_nonneg hg (by omega), hs, h0, by omega⟩
    · refine ⟨.ref a, rfl, a, _, 2, .int m, rfl, rfl, SqL.of e, rfl, m, 1, rfl, rfl, ?_⟩
      refine ⟨.ref a, rfl, a, _, 2, 2, rfl, rfl, e, rfl, ?_⟩
      have e1 : (upd H a (.lst [.int g, .int sd, .int (m + 1)])) a = some (.lst [.int g, .int sd, .int (m + 1)]) := upd_same
      refine ⟨by decide, fun p np => ?_⟩
      have npa : p ≠ a := (ne_of_none e1 np).symm
      obtain ⟨pr, hat, hp1, hp2⟩ := primes_at (m := m + 1) (by omega)
      have e2 : (upd (upd H a (.lst [.int g, .int sd, .int (m + 1)])) p (.lst [.int 2147483647, .int 2147483629, .int 2147483587, .int 2147483579, .int 2147483563, .int 2147483549, .int 2147483543, .int 2147483497])) a = some (.lst [.int g, .int sd, .int (m + 1)]) := by rw [upd_ne npa.symm]; exact e1
      have e3 : (upd (upd H a (.lst [.int g, .int sd, .int (m + 1)])) p (.lst [.int 2147483647, .int 2147483629, .int 2147483587, .int 2147483579, .int 2147483563, .int 2147483549, .int 2147483543, .int 2147483497])) p = some (.lst [.int 2147483647, .int 2147483629, .int 2147483587, .int 2147483579, .int 2147483563, .int 2147483549, .int 2147483543, .int 2147483497]) := upd_same
      refine ⟨.ref p, rfl, .ref a, rfl, a, _, 2, .int (m + 1), rfl, rfl, SqL.of e2, rfl, m + 1, 8, rfl, rfl, (by show (0 : Int) < 8; decide), p, _, (m + 1) % 8, .int pr, rfl, rfl, SqL.of e3, hat, ?_⟩
      have hsq : (0 : Int) < pr ^ (2 : Int).toNat := by
        show 0 < pr ^ 2
        exact Int.pow_pos (by omega)
      refine ⟨.ref a, rfl, a, _, 1, .int sd, rfl, rfl, SqL.of e2, rfl, .ref a, rfl, a, _, 2, .int (m + 1), rfl, rfl, SqL.of e2, rfl, 69621, m + 1, rfl, rfl, .inl ⟨by decide, by decide⟩, .ref a, rfl, a, _, 2, .int (m + 1), rfl, rfl, SqL.of e2, rfl, _, _, rfl, rfl, .inr ⟨by omega, by omega⟩, _, _, rfl, rfl,
        .int pr, rfl, pr, 2, rfl, rfl, ⟨by decide, by decide, by omega⟩, _, _, rfl, rfl, hsq, .int pr, rfl, _, pr, rfl, rfl, (by show 0 < pr; omega), _, 1, rfl, rfl, ?_⟩
      generalize hz : (sd + 69621 * (m + 1) * (m + 1)) % pr ^ (2 : Int).toNat % pr = z
      have hz0 : 0 ≤ z := by rw [← hz]; exact Int.emod_nonneg _ (by omega)
      have hz1 : z < pr := by rw [← hz]; exact Int.emod_lt_of_pos _ (by omega)
      refine ⟨.int (z + 1), rfl, .int (z + 1), rfl, z + 1, 1009, rfl, rfl, (by show (0 : Int) < 1009; decide), .ref a, rfl, a, _, 2, .int (m + 1), rfl, rfl, SqL.of e2, rfl, _, _, rfl, rfl, z + 1, _, rfl, rfl, .inl ⟨by omega, by omega⟩, .int pr, rfl, _, pr, rfl, rfl, (by show 0 < pr; omega), _, 7, rfl, rfl, ⟨by decide, by decide⟩, .int many, rfl, _, many, rfl, rfl, hm, ?_⟩
      refine q _ _ ?_ ⟨g, sd, m + 1, e2, hg, hs, by omega, by omega⟩ (Int.emod_nonneg _ (by omega)) (Int.emod_lt_of_pos _ hm)
      exact But.put.trans (But.new np)
end
end NG

namespace NG
open PySem PySem.Spec PyProof.Rows L2
section
variable {P : Program} {w : World} {K : PySem.W.Frag} {mg : Str → Option Value} {base : Heap}
theorem ok_hand {f : Addr} {fd : FuncData} (F : Fun K "_law_hand" "_law_hand" s_L_hand f fd) (gF : mg "_law_hand" = some (.ref f)) (b : Binds K fd ["_law_script", "_law_k"] []) (B : Bl mg) : Cal P w K mg base 1 "_law_hand" (spHand K) := by
  refine ⟨f, fd, _, F.ok sc_L_hand (fun vs H Q E h => ?_) (fun cdv A outer s H vs Q E hr h => ?_), gF, F.kp, b⟩
  · obtain ⟨a, m, n, rfl, _⟩ := h
    rfl
  · obtain ⟨a, k, ns, rfl, hk0, hk1, hS, q⟩ := h
    refine ⟨_, (pss_cons (ps_set (i := 2) sc_L_hand.nd rfl (.inl rfl) (pe_cut (pe_ifExp (pt_cmpR op_lt (pv 1) (pe_callB call_len_seq (by rfl) B.len PySem.boot_len (pa_cons (pv 0) pa_nil)) (nomark _)) (pe_ix ix_list (pv 0) (pv 1) (fun _ _ => rfl)) pe_int))) (pss_cons (ps_set (i := 3) sc_L_hand.nd rfl (.inl rfl) (pe_op op_mul (pe_op op_mod (pe_callB call_abs (by rfl) B.abs (by decide +kernel) (pa_cons (pv 2) pa_nil)) (pe_op op_mulW (pe_op op_pow pe_int pe_int) (pe_op op_pow pe_int pe_int))) (pe_callTy call_int1 (by rfl) B.int (by decide +kernel) (pa_cons (pe_cmpR op_ge (pe_callB call_abs (by rfl) B.abs (by decide +kernel) (pa_cons (pv 2) pa_nil)) (pe_op op_pow pe_int pe_int) (nomark _)) pa_nil)))) (pss_one (ps_ret (pe_lst (pa_cons (pv 3) (pa_cons (pe_op op_add (pe_op op_add (pe_op op_mod (pv 2) pe_int) (pe_op op_mul pe_int (pv 1))) pe_int) (pa_cons pe_int pa_nil)))))))), ?_⟩
    refine ⟨fun v H' => H' = H ∧ ∃ c : Int, v = .int c, ?_, fun v H' hv => ?_⟩
    · refine ⟨.int k, rfl, .ref a, rfl, a, _, rfl, .inl hS, k, _, rfl, rfl, _, rfl, iteD (fun c => ?_) (fun c => ?_)⟩
      · exact ⟨.ref a, rfl, .int k, rfl, a, _, k, _, rfl, rfl, hS, at_int hk0 (by rw [List.length_map] at c; exact c), rfl, _, rfl⟩
      · exact ⟨rfl, 0, rfl⟩
    · obtain ⟨rfl, c, rfl⟩ := hv
      refine ⟨.int c, rfl, c, rfl, 10, 60, rfl, rfl, ⟨by decide, by decide, by decide⟩, 10, 60, rfl, rfl, ⟨by decide, by decide, by decide⟩, _, _, rfl, rfl, wide_mul (a := 300) (b := 300) (by decide) (by decide) (by decide) (by decide) (by decide), _, _, rfl, rfl, (by show (0 : Int) < 10 ^ 60 * 10 ^ 60; decide), ?_⟩
      refine ⟨.int c, rfl, c, rfl, 10, 18, rfl, rfl, ⟨by decide, by decide, by decide⟩, _, _, rfl, rfl, .inr ⟨_, rfl, ?_⟩⟩
      have h01 : ∀ z : Bool, (0 : Int) ≤ (if z = true then 1 else 0) ∧ (if z = true then (1 : Int) else 0) ≤ 1 := by
        intro z
        cases z <;> decide
      refine ⟨_, _, rfl, rfl, .inr ⟨by have := h01 (decide ((10 : Int) ^ (18 : Int).toNat ≤ if c < 0 then -c else c)); omega, by have := h01 (decide ((10 : Int) ^ (18 : Int).toNat ≤ if c < 0 then -c else c)); omega⟩, ?_⟩
      refine ⟨_, rfl, .int c, rfl, c, 2305843009213693951, rfl, rfl, (by show (0 : Int) < 2305843009213693951; decide), .int k, rfl, 104729, k, rfl, rfl, .inl ⟨by decide, by decide⟩, _, _, rfl, rfl, _, 7, rfl, rfl, (by show 3 ≤ sizeLine; decide), fun p np => ?_⟩
      refine q p _ _ np (Int.mul_nonneg (Int.emod_nonneg _ (by show (10 : Int) ^ 60 * 10 ^ 60 ≠ 0; decide)) (h01 _).1) ?_
      have : 0 ≤ c % 2305843009213693951 := Int.emod_nonneg _ (by decide)
      omega
theorem ok_of {f : Addr} {fd : FuncData} (F : Fun K "_law_of" "_law_of" s_L_of f fd) (gF : mg "_law_of" = some (.ref f)) (b : Binds K fd ["_law_hand_here", "_law_some"] []) (B : Bl mg) (c_L_take : Cal P w K mg base 1 "_law_take" spTake) : Cal P w K mg base 2 "_law_of" (spOf K) := by
  refine ⟨f, fd, _, F.ok sc_L_of (fun vs H Q E h => ?_) (fun cdv A outer s H vs Q E hr h => ?_), gF, F.kp, b⟩
  · obtain ⟨a, m, n, _, rfl, _⟩ := h
    rfl
  · obtain ⟨a, l, xs, n, rfl, hal, hl, h0, h1, hh, hn, q⟩ := h
    refine ⟨_, (pss_one (ps_ret (pe_ix ix_list (pv 1) (pe_c c_L_take hr (by omega) (by rfl) (pa_cons (pv 0) (pa_cons (pe_callB call_len_seq (by rfl) B.len PySem.boot_len (pa_cons (pv 1) pa_nil)) pa_nil))) (fun _ _ => rfl)))), ?_⟩
    refine ⟨.ref l, rfl, .ref a, rfl, .ref l, rfl, l, _, rfl, .inl (SqL.of hl), ?_⟩
    refine ⟨a, _, n, rfl, by omega, by omega, hh, hn, fun H' r bt hh' r0 r1 => ?_⟩
    have hl' : H' l = some (.lst xs) := bt _ _ (Ne.symm hal) hl
    obtain ⟨v, hv, hm⟩ := at_mem (xs := xs) r0 r1
    exact ⟨l, _, r, v, rfl, rfl, SqL.of hl', hv, q _ _ bt hh' hm⟩
theorem ok_figure {f : Addr} {fd : FuncData} (F : Fun K "_law_figure" "_law_figure" s_L_figure f fd) (gF : mg "_law_figure" = some (.ref f)) (b : Binds K fd ["_law_hand_here"] []) (B : Bl mg) (c_L_take : Cal P w K mg base 1 "_law_take" spTake) (c_L_of : Cal P w K mg base 2 "_law_of" (spOf K)) : Cal P w K mg base 3 "_law_figure" spFigure := by
  refine ⟨f, fd, _, F.ok sc_L_figure (fun vs H Q E h => ?_) (fun cdv A outer s H vs Q E hr h => ?_), gF, F.kp, b⟩
  · obtain ⟨a, m, rfl, _⟩ := h
    rfl
  · obtain ⟨a, n, rfl, hh, hn, q⟩ := h
    refine ⟨_, (pss_cons (ps_set (i := 1) sc_L_figure.nd rfl (.inl rfl) (pe_lst (pa_cons pe_int (pa_cons pe_int (pa_cons (pe_un un_neg pe_int) (pa_cons pe_int (pa_cons pe_int (pa_cons pe_int (pa_cons pe_int (pa_cons (pe_un un_neg pe_int) (pa_cons pe_int (pa_cons (pe_un un_neg pe_int) pa_nil)))))))))))) (pss_one (ps_ret (pe_c c_L_of hr (by omega) (by rfl) (pa_cons (pv 0) (pa_cons (pe_op op_cat (pv 1) (pe_lst (pa_cons (pe_op op_sub (pe_c c_L_take hr (by omega) (by rfl) (pa_cons (pv 0) (pa_cons pe_int pa_nil))) pe_int) (pa_cons (pe_op op_sub (pe_c c_L_take hr (by omega) (by rfl) (pa_cons (pv 0) (pa_cons pe_int pa_nil))) pe_int) pa_nil)))) pa_nil)))))), ?_⟩
    refine ⟨_, rfl, _, rfl, _, rfl, (by show 10 ≤ sizeLine; decide), fun l nl => ?_⟩
    have hla := hh.ne nl
    have hl : (upd H l (.lst [.int 0, .int 1, .int (-1), .int 50, .int 100, .int 250, .int 500, .int (-500), .int 1000, .int (-1000)])) l = _ := upd_same
    refine ⟨.ref a, rfl, .ref l, rfl, .ref a, rfl, a, 2001, n, rfl, by decide, by decide, hh.new nl, by omega, fun H1 r1 b1 hh1 r10 r11 => ⟨_, _, rfl, rfl, ?_⟩⟩
    refine ⟨.ref a, rfl, a, 201, n + 1, rfl, by decide, by decide, hh1, by omega, fun H2 r2 b2 hh2 r20 r21 => ⟨_, _, rfl, rfl, ?_⟩⟩
    refine ⟨(by show 2 ≤ sizeLine; decide), fun l2 nl2 => ?_⟩
    have hl2a := hh2.ne nl2
    have e1 : H2 l = some (.lst [.int 0, .int 1, .int (-1), .int 50, .int 100, .int 250, .int 500, .int (-500), .int 1000, .int (-1000)]) := b2 _ _ hla (b1 _ _ hla hl)
    refine ⟨l, l2, _, _, rfl, rfl, by rw [upd_ne (ne_of_none e1 nl2)]; exact e1, upd_same, (by show 12 ≤ sizeLine; decide), fun l3 nl3 => ?_⟩
    have hh3 := (hh2.new (o := .lst [.int (r1 - 1000), .int (r2 - 100)]) nl2)
    refine ⟨a, l3, _, n + 2, rfl, (hh3.ne nl3).symm, upd_same, (by show 0 < 12; decide), (by show 12 ≤ 1000; decide), hh3.new nl3, by omega, fun H4 v b4 hh4 hv => ?_⟩
    have bb : But a H H4 := (((((But.new nl).trans b1).trans b2).trans (But.new nl2)).trans (But.new nl3)).trans b4
    have key : ∃ c : Int, v = .int c ∧ -1000 ≤ c ∧ c ≤ 1000 := by
      simp only [List.cons_append, List.nil_append, List.mem_cons, List.not_mem_nil, or_false] at hv
      rcases hv with rfl | rfl | rfl | rfl | rfl | rfl | rfl | rfl | rfl | rfl | rfl | rfl
      all_goals exact ⟨_, rfl, by omega, by omega⟩
    obtain ⟨c, rfl, c0, c1⟩ := key
    exact q _ _ bb hh4 c0 c1
end
end NG

namespace NG
open PySem PySem.Spec PyProof.Rows L2
section
variable {P : Program} {w : World} {K : PySem.W.Frag} {mg : Str → Option Value} {base : Heap}
theorem ok_mills {f : Addr} {fd : FuncData} (F : Fun K "mills" "mills" s_mills f fd) (gF : mg "mills" = some (.ref f)) (b : Binds K fd ["shares", "sign"] []) (B : Bl mg) : Cal P w K mg base 1 "mills" (spMills K) := by
  refine ⟨f, fd, _, F.ok sc_mills (fun vs H Q E h => ?_) (fun cdv A outer s H vs Q E hr h => ?_), gF, F.kp, b⟩
  · obtain ⟨_, _, _, _, rfl, _⟩ := h
    rfl
  · obtain ⟨_, many, j, ss, rfl, ⟨p, rfl, hs, hl, hb, h0, h1⟩, hj, q⟩ := h
    refine ⟨_, (pss_one (ps_ret (pe_op op_fdivW (pe_op op_mul pe_int (pe_ix ix_tup (pv 0) (pv 1) (fun _ _ => rfl))) (pe_callB (cr_sumT rfl) (by rfl) B.sum (by decide +kernel) (pa_cons (pv 0) pa_nil))))), ?_⟩
    refine ⟨.ref p, rfl, .int (j : Int), rfl, p, _, _, _, rfl, rfl, hs, at_nth (by omega), 1000, _, rfl, rfl, .inl ⟨by decide, by decide⟩, .ref p, rfl, p, ss, rfl, hs, _, _, rfl, rfl, wide_div (b := 200) h0 (by omega) (by decide) (by decide), q⟩
theorem ok_led {f : Addr} {fd : FuncData} (F : Fun K "led_part" "led_part" s_led_part f fd) (gF : mg "led_part" = some (.ref f)) (b : Binds K fd ["expression", "registers"] []) (B : Bl mg) : Cal P w K mg base 1 "led_part" (spLed K) := by
  refine ⟨f, fd, _, F.ok sc_led_part (fun vs H Q E h => ?_) (fun cdv A outer s H vs Q E hr h => ?_), gF, F.kp, b⟩
  · obtain ⟨_, _, _, _, _, _, _, rfl, _⟩ := h
    rfl
  · obtain ⟨p, _, x, y, i, c, rs, rfl, hp, hi, ⟨r, rfl, hr', hl, hb⟩, q⟩ := h
    refine ⟨_, (pss_cons (ps_asg (pv 0) (pg_tup rfl (pgs_cons (pg_name (i := 2) sc_led_part.nd rfl (.inl rfl)) (pgs_cons (pg_name (i := 3) sc_led_part.nd rfl (.inl rfl)) (pgs_cons (pg_name (i := 4) sc_led_part.nd rfl (.inl rfl)) (pgs_cons (pg_name (i := 5) sc_led_part.nd rfl (.inl rfl)) (pgs_cons (pg_name (i := 6) sc_led_part.nd rfl (.inl rfl)) pgs_nil))))))) (pss_one (ps_ret (pe_ifExp (pt_cmpR op_lt (pe_ix ix_tup (pv 1) (pv 3) (fun _ _ => rfl)) (pv 4) (nomark _)) (pv 5) (pv 6))))), ?_⟩
    refine ⟨.ref p, rfl, p, _, rfl, hp, rfl, _, _, rfl, _, _, rfl, _, _, rfl, _, _, rfl, _, _, rfl, rfl, ?_⟩
    refine ⟨.ref r, rfl, .int (i : Int), rfl, r, _, _, _, rfl, rfl, hr', at_nth (by omega), .int c, rfl, _, _, rfl, rfl, _, rfl, iteD (fun h => ?_) (fun h => ?_)⟩
    · rw [if_pos h] at q
      exact ⟨x, rfl, q⟩
    · rw [if_neg h] at q
      exact ⟨y, rfl, q⟩
theorem ok_side {f : Addr} {fd : FuncData} (F : Fun K "side_part" "side_part" s_side_part f fd) (gF : mg "side_part" = some (.ref f)) (b : Binds K fd ["expression", "shares"] []) (B : Bl mg) : Cal P w K mg base 1 "side_part" (spSide K) := by
  refine ⟨f, fd, _, F.ok sc_side_part (fun vs H Q E h => ?_) (fun cdv A outer s H vs Q E hr h => ?_), gF, F.kp, b⟩
  · obtain ⟨_, _, _, _, _, _, _, _, rfl, _⟩ := h
    rfl
  · obtain ⟨p, _, x, y, many, j, c, ss, rfl, hp, hj, hc, ⟨r, rfl, hr', hl, hb, h0, h1⟩, q⟩ := h
    refine ⟨_, (pss_cons (ps_asg (pv 0) (pg_tup rfl (pgs_cons (pg_name (i := 2) sc_side_part.nd rfl (.inl rfl)) (pgs_cons (pg_name (i := 3) sc_side_part.nd rfl (.inl rfl)) (pgs_cons (pg_name (i := 4) sc_side_part.nd rfl (.inl rfl)) (pgs_cons (pg_name (i := 5) sc_side_part.nd rfl (.inl rfl)) (pgs_cons (pg_name (i := 6) sc_side_part.nd rfl (.inl rfl)) pgs_nil))))))) (pss_one (ps_ret (pe_ifExp (pt_cmpR op_lt (pe_op op_mul pe_int (pe_ix ix_tup (pv 1) (pv 3) (fun _ _ => rfl))) (pe_op op_mul (pv 4) (pe_callB (cr_sumT rfl) (by rfl) B.sum (by decide +kernel) (pa_cons (pv 1) pa_nil))) (nomark _)) (pv 5) (pv 6))))), ?_⟩
    refine ⟨.ref p, rfl, p, _, rfl, hp, rfl, _, _, rfl, _, _, rfl, _, _, rfl, _, _, rfl, _, _, rfl, rfl, ?_⟩
    refine ⟨.ref r, rfl, .int (j : Int), rfl, r, _, _, _, rfl, rfl, hr', at_nth (by omega), 1000, _, rfl, rfl, .inl ⟨by decide, by decide⟩, .int c, rfl, .ref r, rfl, r, ss, rfl, hr', c, _, rfl, rfl, .inl ⟨by omega, by omega⟩, _, _, rfl, rfl, _, rfl, iteD (fun h => ?_) (fun h => ?_)⟩
    · rw [if_pos h] at q
      exact ⟨x, rfl, q⟩
    · rw [if_neg h] at q
      exact ⟨y, rfl, q⟩
theorem ok_joinW {f : Addr} {fd : FuncData} (F : Fun K "join_worths" "join_worths" s_join_worths f fd) (gF : mg "join_worths" = some (.ref f)) (b : Binds K fd ["word", "first", "second"] []) (B : Bl mg) : Cal P w K mg base 1 "join_worths" spJoinW := by
  refine ⟨f, fd, _, F.ok sc_join_worths (fun vs H Q E h => ?_) (fun cdv A outer s H vs Q E hr h => ?_), gF, F.kp, b⟩
  · obtain ⟨_, _, _, rfl, _⟩ := h
    rfl
  · obtain ⟨o, x, y, rfl, q⟩ := h
    refine ⟨_, (pss_cons (ps_if (pt_cmpR op_eq (pv 0) pe_str (nomark _)) (pss_one (ps_ret (pe_op op_add (pv 1) (pv 2)))) pss_nil) (pss_cons (ps_if (pt_cmpR op_eq (pv 0) pe_str (nomark _)) (pss_one (ps_ret (pe_op op_sub (pv 1) (pv 2)))) pss_nil) (pss_one (ps_ret (pe_ifExp (pt_cmpR op_eq (pv 0) pe_str (nomark _)) (pe_callB (call_min2 rfl) (by rfl) B.min (by decide +kernel) (pa_cons (pv 1) (pa_cons (pv 2) pa_nil))) (pe_callB (call_max2 rfl) (by rfl) B.max (by decide +kernel) (pa_cons (pv 1) (pa_cons (pv 2) pa_nil)))))))), ?_⟩
    refine ⟨_, rfl, rfl, _, rfl, ?_⟩
    cases o with
    | sum =>
      refine iteTT (by decide) ?_
      exact ⟨_, rfl, _, rfl, _, _, rfl, rfl, q⟩
    | less =>
      refine iteFF (by decide) ?_
      refine ⟨_, rfl, rfl, _, rfl, iteTT (by decide) ?_⟩
      exact ⟨_, rfl, _, rfl, _, _, rfl, rfl, q⟩
    | least =>
      refine iteFF (by decide) ?_
      refine ⟨_, rfl, rfl, _, rfl, iteFF (by decide) ?_⟩
      refine ⟨_, rfl, rfl, _, rfl, iteTT (by decide) ?_⟩
      exact ⟨_, rfl, _, rfl, _, _, rfl, q⟩
    | most =>
      refine iteFF (by decide) ?_
      refine ⟨_, rfl, rfl, _, rfl, iteFF (by decide) ?_⟩
      refine ⟨_, rfl, rfl, _, rfl, iteFF (by decide) ?_⟩
      exact ⟨_, rfl, _, rfl, _, _, rfl, q⟩
theorem wn_ne {o : W4} {s : Str} (h : s = "fig" ∨ s = "reg" ∨ s = "share" ∨ s = "times" ∨ s = "by" ∨ s = "when" ∨ s = "where") : decide (V.str (wn o) = V.str s) = false := by
  rcases h with rfl | rfl | rfl | rfl | rfl | rfl | rfl <;> cases o <;> decide
theorem ok_worth {f : Addr} {fd : FuncData} (F : Fun K "worth" "worth" s_worth f fd) (gF : mg "worth" = some (.ref f)) (b : Binds K fd ["expression", "registers", "shares"] []) (B : Bl mg) (c_led_part : Cal P w K mg base 1 "led_part" (spLed K)) (c_side_part : Cal P w K mg base 1 "side_part" (spSide K)) (c_join_worths : Cal P w K mg base 1 "join_worths" spJoinW) : ∀ n, Cal P w K mg base (n + 2) "worth" (spWorth K n) := by
  intro n
  induction n with
  | zero =>
    refine cal_never F gF b fun vs H Q E h => ?_
    obtain ⟨_, _, _, e, _, _, _, _, _, _, hd, _⟩ := h
    cases e <;> (unfold Ex.dep at hd; omega)
  | succ n c_worth =>
  refine ⟨f, fd, _, F.ok sc_worth (fun vs H Q E h => ?_) (fun cdv A outer s H vs Q E hr h => ?_), gF, F.kp, b⟩
  · obtain ⟨_, _, _, _, _, _, _, rfl, _⟩ := h
    rfl
  · obtain ⟨v, _, _, e, many, rs, ss, rfl, he, ho, hd, hR, hS, q⟩ := h
    refine ⟨_, (pss_cons (ps_set (i := 3) sc_worth.nd rfl (.inl rfl) (pe_ix ix_tup (pv 0) pe_int (fun _ _ => rfl))) (pss_cons (ps_if (pt_cmpR op_eq (pv 3) pe_str (nomark _)) (pss_one (ps_ret (pe_op op_mul (pe_ix ix_tup (pv 0) pe_int (fun _ _ => rfl)) (pe_callB (cr_sumT rfl) (by rfl) B.sum (by decide +kernel) (pa_cons (pv 2) pa_nil))))) pss_nil) (pss_cons (ps_if (pt_cmpR op_eq (pv 3) pe_str (nomark _)) (pss_one (ps_ret (pe_op op_mul (pe_ix ix_tup (pv 1) (pe_ix ix_tup (pv 0) pe_int (fun _ _ => rfl)) (fun _ _ => rfl)) (pe_callB (cr_sumT rfl) (by rfl) B.sum (by decide +kernel) (pa_cons (pv 2) pa_nil))))) pss_nil) (pss_cons (ps_if (pt_cmpR op_eq (pv 3) pe_str (nomark _)) (pss_one (ps_ret (pe_op op_mul pe_int (pe_ix ix_tup (pv 2) (pe_ix ix_tup (pv 0) pe_int (fun _ _ => rfl)) (fun _ _ => rfl))))) pss_nil) (pss_cons (ps_if (pt_cmpR op_eq (pv 3) pe_str (nomark _)) (pss_one (ps_ret (pe_op op_mul (pe_ix ix_tup (pv 0) pe_int (fun _ _ => rfl)) (pe_c c_worth hr (by omega) (by rfl) (pa_cons (pe_ix ix_tup (pv 0) pe_int (fun _ _ => rfl)) (pa_cons (pv 1) (pa_cons (pv 2) pa_nil))))))) pss_nil) (pss_cons (ps_if (pt_cmpR op_eq (pv 3) pe_str (nomark _)) (pss_one (ps_ret (pe_op op_mul (pe_ix ix_tup (pv 1) (pe_ix ix_tup (pv 0) pe_int (fun _ _ => rfl)) (fun _ _ => rfl)) (pe_c c_worth hr (by omega) (by rfl) (pa_cons (pe_ix ix_tup (pv 0) pe_int (fun _ _ => rfl)) (pa_cons (pv 1) (pa_cons (pv 2) pa_nil))))))) pss_nil) (pss_cons (ps_if (pt_cmpR op_eq (pv 3) pe_str (nomark _)) (pss_one (ps_ret (pe_c c_worth hr (by omega) (by rfl) (pa_cons (pe_c c_led_part hr (by omega) (by rfl) (pa_cons (pv 0) (pa_cons (pv 1) pa_nil))) (pa_cons (pv 1) (pa_cons (pv 2) pa_nil)))))) pss_nil) (pss_cons (ps_if (pt_cmpR op_eq (pv 3) pe_str (nomark _)) (pss_one (ps_ret (pe_c c_worth hr (by omega) (by rfl) (pa_cons (pe_c c_side_part hr (by omega) (by rfl) (pa_cons (pv 0) (pa_cons (pv 2) pa_nil))) (pa_cons (pv 1) (pa_cons (pv 2) pa_nil)))))) pss_nil) (pss_cons (ps_set (i := 4) sc_worth.nd rfl (.inl rfl) (pe_c c_worth hr (by omega) (by rfl) (pa_cons (pe_ix ix_tup (pv 0) pe_int (fun _ _ => rfl)) (pa_cons (pv 1) (pa_cons (pv 2) pa_nil))))) (pss_cons (ps_set (i := 5) sc_worth.nd rfl (.inl rfl) (pe_c c_worth hr (by omega) (by rfl) (pa_cons (pe_ix ix_tup (pv 0) pe_int (fun _ _ => rfl)) (pa_cons (pv 1) (pa_cons (pv 2) pa_nil))))) (pss_one (ps_ret (pe_c c_join_worths hr (by omega) (by rfl) (pa_cons (pv 3) (pa_cons (pv 4) (pa_cons (pv 5) pa_nil)))))))))))))))), ?_⟩
    have hR0 := hR
    have hS0 := hS
    obtain ⟨r, rfl, hr1, hr2, hr3⟩ := hR
    obtain ⟨t, rfl, ht1, ht2, ht3, ht4, ht5⟩ := hS
    have rb : ∀ i, i < 4 → -1000 ≤ rs.getD i 0 ∧ rs.getD i 0 ≤ 1000 := fun i hi => hr3 _ (getD_mem (by omega))
    cases e with
    | fig c =>
      obtain ⟨p, rfl, hp⟩ := he
      obtain ⟨o1, o2⟩ := ho
      refine ⟨.ref p, rfl, p, _, 0, _, rfl, rfl, hp, rfl, ?_⟩
      refine ⟨_, rfl, rfl, _, rfl, iteTT (by decide) ?_⟩
      exact ⟨.ref p, rfl, p, _, 1, _, rfl, rfl, hp, rfl, .ref t, rfl, t, ss, rfl, ht1, c, _, rfl, rfl, .inl ⟨by omega, by omega⟩, q⟩
    | reg i =>
      obtain ⟨p, rfl, hp⟩ := he
      have ho : i < 4 := ho
      have := rb i ho
      refine ⟨.ref p, rfl, p, _, 0, _, rfl, rfl, hp, rfl, ?_⟩
      refine ⟨_, rfl, rfl, _, rfl, iteFF (by decide) ⟨_, rfl, rfl, _, rfl, iteTT (by decide) ?_⟩⟩
      exact ⟨.ref r, rfl, .ref p, rfl, p, _, 1, _, rfl, rfl, hp, rfl, r, _, _, _, rfl, rfl, hr1, at_nth (by omega), .ref t, rfl, t, ss, rfl, ht1, _, _, rfl, rfl, .inl ⟨by omega, by omega⟩, q⟩
    | share j =>
      obtain ⟨p, rfl, hp⟩ := he
      have ho : j < many := ho
      refine ⟨.ref p, rfl, p, _, 0, _, rfl, rfl, hp, rfl, ?_⟩
      refine ⟨_, rfl, rfl, _, rfl, iteFF (by decide) ⟨_, rfl, rfl, _, rfl, iteFF (by decide) ⟨_, rfl, rfl, _, rfl, iteTT (by decide) ?_⟩⟩⟩
      exact ⟨.ref t, rfl, .ref p, rfl, p, _, 1, _, rfl, rfl, hp, rfl, t, _, _, _, rfl, rfl, ht1, at_nth (by omega), 1000, _, rfl, rfl, .inl ⟨by decide, by decide⟩, q⟩
    | times fa a =>
      obtain ⟨p, x, rfl, hp, ha⟩ := he
      obtain ⟨⟨o1, o2⟩, oa⟩ := ho
      have hd : a.dep + 1 ≤ n + 1 := hd
      refine ⟨.ref p, rfl, p, _, 0, _, rfl, rfl, hp, rfl, ?_⟩
      refine ⟨_, rfl, rfl, _, rfl, iteFF (by decide) ⟨_, rfl, rfl, _, rfl, iteFF (by decide) ⟨_, rfl, rfl, _, rfl, iteFF (by decide) ⟨_, rfl, rfl, _, rfl, iteTT (by decide) ?_⟩⟩⟩⟩
      refine ⟨.ref p, rfl, p, _, 1, _, rfl, rfl, hp, rfl, .ref p, rfl, p, _, 2, _, rfl, rfl, hp, rfl, .ref r, rfl, .ref t, rfl, ?_⟩
      exact ⟨x, _, _, a, many, rs, ss, rfl, ha, oa, by omega, hR0, hS0, fa, _, rfl, rfl, .inl ⟨by omega, by omega⟩, q⟩
    | «by» i a =>
      obtain ⟨p, x, rfl, hp, ha⟩ := he
      obtain ⟨o1, oa⟩ := ho
      have := rb i o1
      have hd : a.dep + 1 ≤ n + 1 := hd
      refine ⟨.ref p, rfl, p, _, 0, _, rfl, rfl, hp, rfl, ?_⟩
      refine ⟨_, rfl, rfl, _, rfl, iteFF (by decide) ⟨_, rfl, rfl, _, rfl, iteFF (by decide) ⟨_, rfl, rfl, _, rfl, iteFF (by decide) ⟨_, rfl, rfl, _, rfl, iteFF (by decide) ⟨_, rfl, rfl, _, rfl, iteTT (by decide) ?_⟩⟩⟩⟩⟩
      refine ⟨.ref r, rfl, .ref p, rfl, p, _, 1, _, rfl, rfl, hp, rfl, r, _, _, _, rfl, rfl, hr1, at_nth (by omega), .ref p, rfl, p, _, 2, _, rfl, rfl, hp, rfl, .ref r, rfl, .ref t, rfl, ?_⟩
      exact ⟨x, _, _, a, many, rs, ss, rfl, ha, oa, by omega, hR0, hS0, _, _, rfl, rfl, .inl ⟨by omega, by omega⟩, q⟩
    | when i c x1 y1 =>
      obtain ⟨p, x, y, rfl, hp, ha, hb⟩ := he
      obtain ⟨o1, _, oa, ob⟩ := ho
      have hd : max x1.dep y1.dep + 1 ≤ n + 1 := hd
      refine ⟨.ref p, rfl, p, _, 0, _, rfl, rfl, hp, rfl, ?_⟩
      refine ⟨_, rfl, rfl, _, rfl, iteFF (by decide) ⟨_, rfl, rfl, _, rfl, iteFF (by decide) ⟨_, rfl, rfl, _, rfl, iteFF (by decide) ⟨_, rfl, rfl, _, rfl, iteFF (by decide) ⟨_, rfl, rfl, _, rfl, iteFF (by decide) ⟨_, rfl, rfl, _, rfl, iteTT (by decide) ?_⟩⟩⟩⟩⟩⟩
      refine ⟨.ref p, rfl, .ref r, rfl, p, _, x, y, i, c, rs, rfl, hp, o1, hR0, .ref r, rfl, .ref t, rfl, ?_⟩
      by_cases hc : rs.getD i 0 < c
      · rw [if_pos hc]
        refine ⟨x, _, _, x1, many, rs, ss, rfl, ha, oa, by omega, hR0, hS0, ?_⟩
        have q2 : Q (.int (if rs.getD i 0 < c then wo rs ss x1 else wo rs ss y1)) H := q
        rw [if_pos hc] at q2
        exact q2
      · rw [if_neg hc]
        refine ⟨y, _, _, y1, many, rs, ss, rfl, hb, ob, by omega, hR0, hS0, ?_⟩
        have q2 : Q (.int (if rs.getD i 0 < c then wo rs ss x1 else wo rs ss y1)) H := q
        rw [if_neg hc] at q2
        exact q2
    | whr j c x1 y1 =>
      obtain ⟨p, x, y, rfl, hp, ha, hb⟩ := he
      obtain ⟨o1, o2, oa, ob⟩ := ho
      have hd : max x1.dep y1.dep + 1 ≤ n + 1 := hd
      refine ⟨.ref p, rfl, p, _, 0, _, rfl, rfl, hp, rfl, ?_⟩
      refine ⟨_, rfl, rfl, _, rfl, iteFF (by decide) ⟨_, rfl, rfl, _, rfl, iteFF (by decide) ⟨_, rfl, rfl, _, rfl, iteFF (by decide) ⟨_, rfl, rfl, _, rfl, iteFF (by decide) ⟨_, rfl, rfl, _, rfl, iteFF (by decide) ⟨_, rfl, rfl, _, rfl, iteFF (by decide) ⟨_, rfl, rfl, _, rfl, iteTT (by decide) ?_⟩⟩⟩⟩⟩⟩⟩
      refine ⟨.ref p, rfl, .ref t, rfl, p, _, x, y, many, j, c, ss, rfl, hp, o1, o2, hS0, .ref r, rfl, .ref t, rfl, ?_⟩
      by_cases hc : 1000 * ss.getD j 0 < c * ss.sum
      · rw [if_pos hc]
        refine ⟨x, _, _, x1, many, rs, ss, rfl, ha, oa, by omega, hR0, hS0, ?_⟩
        have q2 : Q (.int (if 1000 * ss.getD j 0 < c * ss.sum then wo rs ss x1 else wo rs ss y1)) H := q
        rw [if_pos hc] at q2
        exact q2
      · rw [if_neg hc]
        refine ⟨y, _, _, y1, many, rs, ss, rfl, hb, ob, by omega, hR0, hS0, ?_⟩
        have q2 : Q (.int (if 1000 * ss.getD j 0 < c * ss.sum then wo rs ss x1 else wo rs ss y1)) H := q
        rw [if_neg hc] at q2
        exact q2
    | two o x1 y1 =>
      obtain ⟨p, x, y, rfl, hp, ha, hb⟩ := he
      obtain ⟨oa, ob⟩ := ho
      have hd : max x1.dep y1.dep + 1 ≤ n + 1 := hd
      refine ⟨.ref p, rfl, p, _, 0, _, rfl, rfl, hp, rfl, ?_⟩
      refine ⟨_, rfl, rfl, _, rfl, iteFF (wn_ne (by simp)) ⟨_, rfl, rfl, _, rfl, iteFF (wn_ne (by simp)) ⟨_, rfl, rfl, _, rfl, iteFF (wn_ne (by simp)) ⟨_, rfl, rfl, _, rfl, iteFF (wn_ne (by simp)) ⟨_, rfl, rfl, _, rfl, iteFF (wn_ne (by simp)) ⟨_, rfl, rfl, _, rfl, iteFF (wn_ne (by simp)) ⟨_, rfl, rfl, _, rfl, iteFF (wn_ne (by simp)) ?_⟩⟩⟩⟩⟩⟩⟩
      refine ⟨.ref p, rfl, p, _, 1, _, rfl, rfl, hp, rfl, .ref r, rfl, .ref t, rfl, x, _, _, x1, many, rs, ss, rfl, ha, oa, by omega, hR0, hS0, ?_⟩
      refine ⟨.ref p, rfl, p, _, 2, _, rfl, rfl, hp, rfl, .ref r, rfl, .ref t, rfl, y, _, _, y1, many, rs, ss, rfl, hb, ob, by omega, hR0, hS0, ?_⟩
      exact ⟨_, rfl, _, rfl, _, rfl, o, _, _, rfl, q⟩
end
end NG

namespace NG
open PySem PySem.Spec PyProof.Rows L2
section
variable {P : Program} {w : World} {K : PySem.W.Frag} {mg : Str → Option Value} {base : Heap}
theorem ok_leaf {f : Addr} {fd : FuncData} (F : Fun K "_law_leaf" "_law_leaf" s_L_leaf f fd) (gF : mg "_law_leaf" = some (.ref f)) (b : Binds K fd ["_law_hand_here", "_law_many"] []) (B : Bl mg) (c_L_take : Cal P w K mg base 1 "_law_take" spTake) (c_L_figure : Cal P w K mg base 3 "_law_figure" spFigure) : Cal P w K mg base 4 "_law_leaf" (spLeaf K) := by
  refine ⟨f, fd, _, F.ok sc_L_leaf (fun vs H Q E h => ?_) (fun cdv A outer s H vs Q E hr h => ?_), gF, F.kp, b⟩
  · obtain ⟨_, _, _, rfl, _⟩ := h
    rfl
  · obtain ⟨a, many, n, rfl, hm1, hm2, hh, hn, q⟩ := h
    refine ⟨_, (pss_cons (ps_set (i := 2) sc_L_leaf.nd rfl (.inl rfl) (pe_c c_L_take hr (by omega) (by rfl) (pa_cons (pv 0) (pa_cons pe_int pa_nil)))) (pss_cons (ps_if (pt_cmpR op_eq (pv 2) pe_int (nomark _)) (pss_one (ps_ret (pe_tup (pa_cons pe_str (pa_cons (pe_c c_L_take hr (by omega) (by rfl) (pa_cons (pv 0) (pa_cons pe_int pa_nil))) pa_nil))))) pss_nil) (pss_one (ps_ret (pe_ifExp (pt_cmpR op_eq (pv 2) pe_int (nomark _)) (pe_tup (pa_cons pe_str (pa_cons (pe_c c_L_figure hr (by omega) (by rfl) (pa_cons (pv 0) pa_nil)) pa_nil))) (pe_tup (pa_cons pe_str (pa_cons (pe_c c_L_take hr (by omega) (by rfl) (pa_cons (pv 0) (pa_cons (pv 1) pa_nil))) pa_nil)))))))), ?_⟩
    refine ⟨.ref a, rfl, a, 4, n, rfl, by decide, by decide, hh, by omega, fun H1 r b1 hh1 r0 r1 => ?_⟩
    refine ⟨.int r, rfl, rfl, _, rfl, iteD (fun c => ?_) (fun c => ?_)⟩
    · refine ⟨.ref a, rfl, a, 4, n + 1, rfl, by decide, by decide, hh1, by omega, fun H2 r2 b2 hh2 r20 r21 => ⟨(by show 2 ≤ sizeLine; decide), fun p np => ?_⟩⟩
      refine q _ _ (.reg r2.toNat) ((b1.trans b2).trans (But.new np)) ((hh2.new np).le (by omega)) ⟨p, rfl, ?_⟩ (by show r2.toNat < 4; omega) (Nat.le_refl _)
      rw [Int.toNat_of_nonneg r20]
      exact SqT.of upd_same
    · refine ⟨.int r, rfl, rfl, _, rfl, iteD (fun c => ?_) (fun c => ?_)⟩
      · refine ⟨.ref a, rfl, a, n + 1, rfl, hh1, by omega, fun H2 r2 b2 hh2 r20 r21 => ⟨(by show 2 ≤ sizeLine; decide), fun p np => ?_⟩⟩
        exact q _ _ (.fig r2) ((b1.trans b2).trans (But.new np)) ((hh2.new np).le (by omega)) ⟨p, rfl, SqT.of upd_same⟩ ⟨r20, r21⟩ (Nat.le_refl _)
      · refine ⟨.ref a, rfl, .int (many : Int), rfl, a, _, n + 1, rfl, by omega, by omega, hh1, by omega, fun H2 r2 b2 hh2 r20 r21 => ⟨(by show 2 ≤ sizeLine; decide), fun p np => ?_⟩⟩
        refine q _ _ (.share r2.toNat) ((b1.trans b2).trans (But.new np)) ((hh2.new np).le (by omega)) ⟨p, rfl, ?_⟩ (by show r2.toNat < many; omega) (Nat.le_refl _)
        rw [Int.toNat_of_nonneg r20]
        exact SqT.of upd_same
def isW (s : Str) : Prop := s = "sum" ∨ s = "less" ∨ s = "least" ∨ s = "most" ∨ s = "times" ∨ s = "by" ∨ s = "when" ∨ s = "leaf" ∨ s = "where"
theorem ok_expr {f : Addr} {fd : FuncData} (F : Fun K "_law_expression" "_law_expression" s_L_expression f fd) (gF : mg "_law_expression" = some (.ref f)) (b : Binds K fd ["_law_hand_here", "_law_many", "_law_level", "_law_jumps"] []) (B : Bl mg) (c_L_take : Cal P w K mg base 1 "_law_take" spTake) (c_L_of : Cal P w K mg base 2 "_law_of" (spOf K)) (c_L_figure : Cal P w K mg base 3 "_law_figure" spFigure) (c_L_leaf : Cal P w K mg base 4 "_law_leaf" (spLeaf K)) : ∀ n, Cal P w K mg base (n + 4) "_law_expression" (spExpr K n) := by
  intro n
  induction n with
  | zero =>
    refine cal_never F gF b fun vs H Q E h => ?_
    obtain ⟨_, _, l, _, _, hl, _⟩ := h
    omega
  | succ n c_L_expression =>
  refine ⟨f, fd, _, F.ok sc_L_expression (fun vs H Q E h => ?_) (fun cdv A outer s H vs Q E hr h => ?_), gF, F.kp, b⟩
  · obtain ⟨_, _, _, _, rfl, _⟩ := h
    rfl
  · obtain ⟨a, many, l, k, rfl, hl, hm1, hm2, hh, hk, q⟩ := h
    refine ⟨_, (pss_cons (ps_set (i := 4) sc_L_expression.nd rfl (.inl rfl) (pe_lst (pa_cons pe_str (pa_cons pe_str (pa_cons pe_str (pa_cons pe_str (pa_cons pe_str (pa_cons pe_str (pa_cons pe_str (pa_cons pe_str (pa_cons pe_str (pa_cons pe_str pa_nil)))))))))))) (pss_cons (ps_set (i := 4) sc_L_expression.nd rfl (.inl rfl) (pe_op op_cat (pv 4) (pe_op op_rep (pe_lst (pa_cons pe_str (pa_cons pe_str pa_nil))) (pv 3)))) (pss_cons (ps_set (i := 5) sc_L_expression.nd rfl (.inl rfl) (pe_cut (pe_ifExp (pt_cmpR op_eq (pv 2) pe_int (nomark _)) pe_str (pe_c c_L_of hr (by omega) (by rfl) (pa_cons (pv 0) (pa_cons (pv 4) pa_nil)))))) (pss_cons (ps_if (pt_cmpR op_eq (pv 5) pe_str (nomark _)) (pss_one (ps_ret (pe_c c_L_leaf hr (by omega) (by rfl) (pa_cons (pv 0) (pa_cons (pv 1) pa_nil))))) pss_nil) (pss_cons (ps_set (i := 6) sc_L_expression.nd rfl (.inl rfl) (pe_c c_L_expression hr (by omega) (by rfl) (pa_cons (pv 0) (pa_cons (pv 1) (pa_cons (pe_op op_sub (pv 2) pe_int) (pa_cons (pv 3) pa_nil)))))) (pss_cons (ps_if (pt_cmpR op_eq (pv 5) pe_str (nomark _)) (pss_one (ps_ret (pe_tup (pa_cons (pv 5) (pa_cons (pe_op op_sub (pe_c c_L_take hr (by omega) (by rfl) (pa_cons (pv 0) (pa_cons pe_int pa_nil))) pe_int) (pa_cons (pv 6) pa_nil)))))) pss_nil) (pss_cons (ps_if (pt_cmpR op_eq (pv 5) pe_str (nomark _)) (pss_one (ps_ret (pe_tup (pa_cons (pv 5) (pa_cons (pe_c c_L_take hr (by omega) (by rfl) (pa_cons (pv 0) (pa_cons pe_int pa_nil))) (pa_cons (pv 6) pa_nil)))))) pss_nil) (pss_cons (ps_set (i := 7) sc_L_expression.nd rfl (.inl rfl) (pe_c c_L_expression hr (by omega) (by rfl) (pa_cons (pv 0) (pa_cons (pv 1) (pa_cons (pe_op op_sub (pv 2) pe_int) (pa_cons (pv 3) pa_nil)))))) (pss_cons (ps_if (pt_cmpR op_eq (pv 5) pe_str (nomark _)) (pss_one (ps_ret (pe_tup (pa_cons (pv 5) (pa_cons (pe_c c_L_take hr (by omega) (by rfl) (pa_cons (pv 0) (pa_cons pe_int pa_nil))) (pa_cons (pe_c c_L_figure hr (by omega) (by rfl) (pa_cons (pv 0) pa_nil)) (pa_cons (pv 6) (pa_cons (pv 7) pa_nil)))))))) pss_nil) (pss_cons (ps_if (pt_cmpR op_eq (pv 5) pe_str (nomark _)) (pss_cons (ps_set (i := 8) sc_L_expression.nd rfl (.inl rfl) (pe_c c_L_of hr (by omega) (by rfl) (pa_cons (pv 0) (pa_cons (pe_lst (pa_cons pe_int (pa_cons pe_int (pa_cons pe_int (pa_cons pe_int (pa_cons pe_int (pa_cons (pe_op op_add pe_int (pe_c c_L_take hr (by omega) (by rfl) (pa_cons (pv 0) (pa_cons pe_int pa_nil)))) pa_nil))))))) pa_nil)))) (pss_one (ps_ret (pe_tup (pa_cons (pv 5) (pa_cons (pe_c c_L_take hr (by omega) (by rfl) (pa_cons (pv 0) (pa_cons (pv 1) pa_nil))) (pa_cons (pv 8) (pa_cons (pv 6) (pa_cons (pv 7) pa_nil))))))))) pss_nil) (pss_one (ps_ret (pe_tup (pa_cons (pv 5) (pa_cons (pv 6) (pa_cons (pv 7) pa_nil)))))))))))))))), ?_⟩
    refine ⟨(by show 10 ≤ sizeLine; decide), fun p1 n1 => ?_⟩
    have hh1 := hh.new (o := .lst [.str "sum", .str "less", .str "least", .str "most", .str "least", .str "most", .str "times", .str "by", .str "when", .str "leaf"]) n1
    refine ⟨.ref p1, rfl, (by show 2 ≤ sizeLine; decide), fun p2 n2 => ?_⟩
    have e1 : (upd H p1 (.lst [.str "sum", .str "less", .str "least", .str "most", .str "least", .str "most", .str "times", .str "by", .str "when", .str "leaf"])) p1 = _ := upd_same
    have hh2 := hh1.new (o := .lst [.str "where", .str "where"]) n2
    refine ⟨.int 1, rfl, p2, 1, _, rfl, rfl, upd_same, by decide, by decide, (by show 2 * 1 ≤ sizeLine; decide), fun p3 n3 => ?_⟩
    have hh3 := hh2.new (o := .lst [.str "where", .str "where"]) n3
    have e2 : (upd (upd H p1 (.lst [.str "sum", .str "less", .str "least", .str "most", .str "least", .str "most", .str "times", .str "by", .str "when", .str "leaf"])) p2 (.lst [.str "where", .str "where"])) p1 = _ := (upd_ne (ne_of_none e1 n2)).trans e1
    refine ⟨p1, p3, _, _, rfl, rfl, (upd_ne (ne_of_none e2 n3)).trans e2, upd_same, (by show 12 ≤ sizeLine; decide), fun p4 n4 => ?_⟩
    have hh4 := hh3.new (o := .lst [.str "sum", .str "less", .str "least", .str "most", .str "least", .str "most", .str "times", .str "by", .str "when", .str "leaf", .str "where", .str "where"]) n4
    have b4 : But a H _ := (((But.new (a := a) n1).trans (But.new n2)).trans (But.new n3)).trans (But.new (o := .lst [.str "sum", .str "less", .str "least", .str "most", .str "least", .str "most", .str "times", .str "by", .str "when", .str "leaf", .str "where", .str "where"]) n4)
    have ne4 := hh3.ne n4
    -- the word
    refine ⟨fun v H' => But a H H' ∧ HandAt H' a (k + 1) ∧ ∃ s : Str, v = .str s ∧ isW s ∧ (l = 0 → s = "leaf"), ?_, fun v H5 hv => ?_⟩
    · refine ⟨.int (l : Int), rfl, rfl, _, rfl, iteD (fun c => ?_) (fun c => ?_)⟩
      · exact ⟨b4, hh4.le (by omega), _, rfl, by unfold isW; simp, fun _ => rfl⟩
      · refine ⟨.ref a, rfl, .ref p4, rfl, a, p4, _, k, rfl, ne4.symm, upd_same, (by show 0 < 12; decide), (by show 12 ≤ 1000; decide), hh4, by omega, fun H5 v b5 hh5 hv => ⟨b4.trans b5, hh5, ?_⟩⟩
        have hl0 : l ≠ 0 := fun z => c (by rw [z]; rfl)
        have key : ∃ s : Str, v = .str s ∧ isW s := by
          have hv : v ∈ ([.str "sum", .str "less", .str "least", .str "most", .str "least", .str "most", .str "times", .str "by", .str "when", .str "leaf", .str "where", .str "where"] : List V) := hv
          simp only [List.mem_cons, List.not_mem_nil, or_false] at hv
          rcases hv with rfl | rfl | rfl | rfl | rfl | rfl | rfl | rfl | rfl | rfl | rfl | rfl
          all_goals exact ⟨_, rfl, by unfold isW; simp⟩
        obtain ⟨s, rfl, hs⟩ := key
        exact ⟨s, rfl, hs, fun z => absurd z hl0⟩
    obtain ⟨b5, hh5, sw, rfl, hw, hl0⟩ := hv
    refine ⟨.str sw, rfl, rfl, _, rfl, iteD (fun c => ?_) (fun c => ?_)⟩
    · refine ⟨.ref a, rfl, .int (many : Int), rfl, a, many, k + 1, rfl, hm1, hm2, hh5, by have := cost_ge l; omega, fun H6 v e b6 hh6 he ho hd => ?_⟩
      exact q _ _ e (b5.trans b6) (hh6.le (by have := cost_ge l; omega)) he ho (by omega)
    · have hsl : sw ≠ "leaf" := fun z => c (by rw [z])
      obtain ⟨l', rfl⟩ : ∃ l', l = l' + 1 := by
        cases l with
        | zero => exact absurd (hl0 rfl) hsl
        | succ l' => exact ⟨l', rfl⟩
      have hcost : cost (l' + 1) = 2 * cost l' + 20 := rfl
      have elev : V.int (((l' + 1 : Nat) : Int) - 1) = V.int (l' : Int) := by
        congr 1
        omega
      refine ⟨.ref a, rfl, .int (many : Int), rfl, .int ((l' + 1 : Nat) : Int), rfl, _, 1, rfl, rfl, .int 1, rfl, a, many, l', k + 1, (by show [V.ref a, V.int (many : Int), V.int (((l' + 1 : Nat) : Int) - 1), V.int 1] = _; rw [elev]), by omega, hm1, hm2, hh5, by omega, fun H6 x e1 b6 hh6 he1 ho1 hd1 => ?_⟩
      have b06 := b5.trans b6
      -- times
      refine ⟨.str sw, rfl, rfl, _, rfl, iteD (fun c => ?_) (fun ct => ?_)⟩
      · have c : sw = "times" := V.str.inj c
        subst c
        refine ⟨_, rfl, .ref a, rfl, a, 19, _, rfl, by decide, by decide, hh6, by omega, fun H7 r b7 hh7 r0 r1 => ⟨_, 9, rfl, rfl, x, rfl, (by show 3 ≤ sizeLine; decide), fun p np => ?_⟩⟩
        exact q _ _ (.times (r - 9) e1) ((b06.trans b7).trans (But.new np)) ((hh7.new np).le (by omega)) ⟨p, x, rfl, SqT.of upd_same, (he1.but b7 hh6).new np⟩ ⟨⟨by omega, by omega⟩, ho1⟩ (by show e1.dep + 1 ≤ _; omega)
      -- by
      refine ⟨.str sw, rfl, rfl, _, rfl, iteD (fun c => ?_) (fun cb => ?_)⟩
      · have c : sw = "by" := V.str.inj c
        subst c
        refine ⟨_, rfl, .ref a, rfl, a, 4, _, rfl, by decide, by decide, hh6, by omega, fun H7 r b7 hh7 r0 r1 => ⟨x, rfl, (by show 3 ≤ sizeLine; decide), fun p np => ?_⟩⟩
        refine q _ _ (.by r.toNat e1) ((b06.trans b7).trans (But.new np)) ((hh7.new np).le (by omega)) ⟨p, x, rfl, ?_, (he1.but b7 hh6).new np⟩ ⟨by omega, ho1⟩ (by show e1.dep + 1 ≤ _; omega)
        rw [Int.toNat_of_nonneg r0]
        exact SqT.of upd_same
      -- the other part
      refine ⟨.ref a, rfl, .int (many : Int), rfl, .int ((l' + 1 : Nat) : Int), rfl, _, 1, rfl, rfl, .int 1, rfl, a, many, l', k + 1 + cost l', (by show [V.ref a, V.int (many : Int), V.int (((l' + 1 : Nat) : Int) - 1), V.int 1] = _; rw [elev]), by omega, hm1, hm2, hh6, by omega, fun H7 y e2 b7 hh7 he2 ho2 hd2 => ?_⟩
      have b07 := b06.trans b7
      have he1 := he1.but b7 hh6
      -- when
      refine ⟨.str sw, rfl, rfl, _, rfl, iteD (fun c => ?_) (fun cw => ?_)⟩
      · have c : sw = "when" := V.str.inj c
        subst c
        refine ⟨_, rfl, .ref a, rfl, a, 4, _, rfl, by decide, by decide, hh7, by omega, fun H8 r b8 hh8 r0 r1 => ⟨.ref a, rfl, a, _, rfl, hh8, by omega, fun H9 cc b9 hh9 c0 c1 => ⟨x, rfl, y, rfl, (by show 5 ≤ sizeLine; decide), fun p np => ?_⟩⟩⟩
        refine q _ _ (.when r.toNat cc e1 e2) (((b07.trans b8).trans b9).trans (But.new np)) ((hh9.new np).le (by omega)) ⟨p, x, y, rfl, ?_, ((he1.but b8 hh7).but b9 hh8).new np, ((he2.but b8 hh7).but b9 hh8).new np⟩ ⟨by omega, ⟨c0, c1⟩, ho1, ho2⟩ (by show max e1.dep e2.dep + 1 ≤ _; omega)
        rw [Int.toNat_of_nonneg r0]
        exact SqT.of upd_same
      -- where
      refine ⟨.str sw, rfl, rfl, _, rfl, iteD (fun c => ?_) (fun cr => ?_)⟩
      · have c : sw = "where" := V.str.inj c
        subst c
        refine ⟨.ref a, rfl, .ref a, rfl, a, 1000, _, rfl, by decide, by decide, hh7, by omega, fun H8 r b8 hh8 r0 r1 => ⟨1, _, rfl, rfl, (by show 6 ≤ sizeLine; decide), fun p5 n5 => ?_⟩⟩
        have hh9 := hh8.new (o := .lst [.int 1, .int 250, .int 333, .int 500, .int 1000, .int (1 + r)]) n5
        refine ⟨a, p5, _, _, rfl, (hh8.ne n5).symm, upd_same, (by show 0 < 6; decide), (by show 6 ≤ 1000; decide), hh9, by omega, fun H10 v b10 hh10 hv => ?_⟩
        have key : ∃ cc : Int, v = .int cc ∧ 1 ≤ cc ∧ cc ≤ 1000 := by
          have hv : v ∈ ([.int 1, .int 250, .int 333, .int 500, .int 1000, .int (1 + r)] : List V) := hv
          simp only [List.mem_cons, List.not_mem_nil, or_false] at hv
          rcases hv with rfl | rfl | rfl | rfl | rfl | rfl
          all_goals exact ⟨_, rfl, by omega, by omega⟩
        obtain ⟨cc, rfl, c0, c1⟩ := key
        refine ⟨_, rfl, .ref a, rfl, .int (many : Int), rfl, a, many, _, rfl, by omega, by omega, hh10, by omega, fun H11 j b11 hh11 j0 j1 => ⟨_, rfl, x, rfl, y, rfl, (by show 5 ≤ sizeLine; decide), fun p np => ?_⟩⟩
        refine q _ _ (.whr j.toNat cc e1 e2) (((((b07.trans b8).trans (But.new n5)).trans b10).trans b11).trans (But.new np)) ((hh11.new np).le (by omega)) ⟨p, x, y, rfl, ?_, ((((he1.but b8 hh7).new n5).but b10 hh9).but b11 hh10).new np, ((((he2.but b8 hh7).new n5).but b10 hh9).but b11 hh10).new np⟩ ⟨by omega, ⟨c0, c1⟩, ho1, ho2⟩ (by show max e1.dep e2.dep + 1 ≤ _; omega)
        rw [Int.toNat_of_nonneg j0]
        exact SqT.of upd_same
      -- the others
      refine ⟨_, rfl, x, rfl, y, rfl, (by show 3 ≤ sizeLine; decide), fun p np => ?_⟩
      have key : ∃ o : W4, sw = wn o := by
        rcases hw with rfl | rfl | rfl | rfl | rfl | rfl | rfl | rfl | rfl
        · exact ⟨.sum, rfl⟩
        · exact ⟨.less, rfl⟩
        · exact ⟨.least, rfl⟩
        · exact ⟨.most, rfl⟩
        · exact absurd rfl ct
        · exact absurd rfl cb
        · exact absurd rfl cw
        · exact absurd rfl hsl
        · exact absurd rfl cr
      obtain ⟨o, rfl⟩ := key
      exact q _ _ (.two o e1 e2) (b07.trans (But.new np)) ((hh7.new np).le (by omega)) ⟨p, x, y, rfl, SqT.of upd_same, he1.new np, he2.new np⟩ ⟨ho1, ho2⟩ (by show max e1.dep e2.dep + 1 ≤ _; omega)
end
end NG

namespace NG
open PySem PySem.Spec PyProof.Rows L2
section
variable {P : Program} {w : World} {K : PySem.W.Frag} {mg : Str → Option Value} {base : Heap}
theorem ok_low {f : Addr} {fd : FuncData} (F : Fun K "_law_lowest" "_law_lowest" s_L_lowest f fd) (gF : mg "_law_lowest" = some (.ref f)) (b : Binds K fd ["_law_row"] []) (B : Bl mg) : Cal P w K mg base 1 "_law_lowest" (spLow K) := by
  refine ⟨f, fd, _, F.ok sc_L_lowest (fun vs H Q E h => ?_) (fun cdv A outer s H vs Q E hr h => ?_), gF, F.kp, b⟩
  · obtain ⟨_, _, _, rfl, _⟩ := h
    rfl
  · obtain ⟨p, ns, y, rfl, hp, hb, hl, hy, py, q⟩ := h
    refine ⟨_, (pss_cons (ps_set (i := 1) sc_L_lowest.nd rfl (.inr rfl) pe_int) (pss_cons (ps_for PassesOwn.never rfl (pi_list (pv 0)) (pg_name (i := 2) sc_L_lowest.nd rfl (.inl rfl)) (pss_one (ps_while PassesOwn.never (pt_cmpR op_ne (pv 2) pe_int (nomark _)) (pss_one (ps_asg (pe_tup (pa_cons (pv 2) (pa_cons (pe_op op_mod (pv 1) (pv 2)) pa_nil))) (pg_tup rfl (pgs_cons (pg_name (i := 1) sc_L_lowest.nd rfl (.inr rfl)) (pgs_cons (pg_name (i := 2) sc_L_lowest.nd rfl (.inl rfl)) pgs_nil)))))))) (pss_one (ps_ret (pe_tupleOf (by rfl) B.tuple (pe_lc (own := [("_law_number", 2)]) rfl sc_L_lowest.nd (pi_list (pv 0)) (blkOk_by (N := N_L_lowest) (sc := defScope s_L_lowest) (by decide +kernel)) (fun _ _ _ _ _ => pg_name (i := 2) sc_L_lowest.nd rfl (.inl rfl)) (fun _ _ _ _ _ => pts_nil) (fun _ _ _ _ _ => pe_op op_fdivW (pv 2) (pv 1)))))))), ?_⟩
    refine ⟨.ref p, rfl, p, rfl, ⟨_, SqL.of hp⟩, for_list (xs := ns.map V.int) (fun i σ H' => ∃ y2, σ = [some (.ref p), some (.int (gl (ns.take i) : Int)), y2] ∧ Same H H') ⟨none, rfl, Same.refl _⟩ ?_ ?_ ?_⟩
    · rintro i σ H' hi ⟨y2, rfl, sm⟩
      exact SqL.of (sm _ _ hp)
    · rintro i x σ H' hx ⟨y2, rfl, sm⟩
      rw [List.getElem?_map] at hx
      cases hn : ns[i]? with
      | none => rw [hn] at hx; cases hx
      | some z =>
        rw [hn] at hx
        have ex : V.int z = x := Option.some.inj hx
        subst ex
        have hz := hb z (List.mem_of_getElem? hn)
        refine ⟨fun m σ H' => ∃ u : Nat, σ = [some (.ref p), some (.int (u : Int)), some (.int (m : Int))] ∧ Nat.gcd u m = gl (ns.take (i + 1)) ∧ Same H H', ⟨z.toNat, gl (ns.take i), ?_, (gl_step hn).symm, sm⟩, ?_⟩
        · show [some (.ref p), some (.int _), some (.int z)] = [some (V.ref p), _, _]
          rw [Int.toNat_of_nonneg hz.1]
        · rintro m σ H' ⟨u, rfl, hg, sm⟩
          refine ⟨.int (m : Int), rfl, rfl, _, rfl, ?_⟩
          by_cases h0 : m = 0
          · subst h0
            refine iteFF rfl ?_
            rw [Nat.gcd_zero_right] at hg
            rw [hg]
            exact ⟨_, rfl, sm⟩
          · have hne : ¬ V.int (m : Int) = V.int 0 := fun z => h0 (by have := V.int.inj z; omega)
            refine iteTT (by rw [decide_eq_false hne]; rfl) ?_
            refine ⟨fun σ' H' => ∃ u : Nat, σ' = [some (.ref p), some (.int (m : Int)), some (.int ((u % m : Nat) : Int))] ∧ Nat.gcd u m = gl (ns.take (i + 1)) ∧ Same H H', ?_, ?_⟩
            · rintro σ' H' ⟨u, rfl, hg, sm⟩
              exact ⟨u % m, Nat.mod_lt _ (by omega), m, rfl, by rw [gcd_turn]; exact hg, sm⟩
            · refine ⟨.int (m : Int), rfl, .int (u : Int), rfl, .int (m : Int), rfl, u, m, rfl, rfl, (by show (0 : Int) < m; omega), (by show 2 ≤ sizeLine; decide), fun t nt => ?_⟩
              exact ⟨t, _, rfl, SqT.of upd_same, rfl, _, _, rfl, _, _, rfl, rfl, u, rfl, hg, sm.trans (same_new nt)⟩
    · rintro σ H1 ⟨y2, rfl, sm⟩
      rw [List.length_map, List.take_length]
      have hg := gl_pos hy py
      refine ⟨.ref p, rfl, p, rfl, ⟨_, SqL.of (sm _ _ hp)⟩, fun D nD => lc_list (xs := ns.map V.int) (fun i H' => Same H H' ∧ H' D = some (.lst (((ns.take i).map fun x => x / (gl ns : Int)).map V.int))) ⟨sm.trans (same_new nD), upd_same⟩ (fun i H' _ h => SqL.of (h.1 _ _ hp)) ?_ ?_⟩
      · rintro i x H' hx ⟨sm', hD⟩
        rw [List.getElem?_map] at hx
        cases hn : ns[i]? with
        | none => rw [hn] at hx; cases hx
        | some z =>
          rw [hn] at hx
          have ex : V.int z = x := Option.some.inj hx
          subst ex
          have hgs : gl ns ≤ z.toNat ∨ z = 0 := by
            have hz := hb z (List.mem_of_getElem? hn)
            by_cases h0 : z = 0
            · exact .inr h0
            · exact .inl (Nat.le_of_dvd (by omega) (gl_dvd (List.mem_of_getElem? hn)))
          have hgy : gl ns ≤ y.toNat := Nat.le_of_dvd (by omega) (gl_dvd hy)
          have hyb := hb y hy
          refine ⟨rfl, tYes_in ?_⟩
          refine ⟨.int z, rfl, .int (gl ns : Int), rfl, z, (gl ns : Int), rfl, rfl, wide_div (b := 100) (by omega) (by omega) (by decide) (by decide), _, hD, ?_, ?_, ?_⟩
          · rw [List.length_map, List.length_map, List.length_take]
            exact small1000 (by omega)
          · exact fun b' o e => by
              rw [upd_ne (ne_of_none (sm _ _ e) nD)]
              exact sm' _ _ e
          · rw [upd_same, List.take_add_one, hn, List.map_append, List.map_append]
            rfl
      · rintro H' ⟨sm', hD⟩
        rw [List.length_map, List.take_length] at hD
        refine .inl ⟨D, _, rfl, SqL.of hD, fun t nt => ?_⟩
        obtain ⟨k1, k2, k3⟩ := low_sh hb hl hy py
        exact q _ _ (low ns) (sm'.trans (same_new nt)) ⟨t, rfl, SqT.of upd_same, by unfold low; rw [List.length_map], k1, k2, k3⟩
theorem ok_shares {f : Addr} {fd : FuncData} (F : Fun K "_law_shares" "_law_shares" s_L_shares f fd) (gF : mg "_law_shares" = some (.ref f)) (b : Binds K fd ["_law_hand_here", "_law_many"] []) (B : Bl mg) (c_L_take : Cal P w K mg base 1 "_law_take" spTake) (c_L_of : Cal P w K mg base 2 "_law_of" (spOf K)) (c_L_lowest : Cal P w K mg base 1 "_law_lowest" (spLow K)) : Cal P w K mg base 3 "_law_shares" (spShares K) := by
  refine ⟨f, fd, _, F.ok sc_L_shares (fun vs H Q E h => ?_) (fun cdv A outer s H vs Q E hr h => ?_), gF, F.kp, b⟩
  · obtain ⟨_, _, _, rfl, _⟩ := h
    rfl
  · obtain ⟨a, many, n, rfl, hm1, hm2, hh, hn, q⟩ := h
    refine ⟨_, (pss_cons (ps_set (i := 2) sc_L_shares.nd rfl (.inl rfl) (pe_lst pa_nil)) (pss_cons (ps_for PassesOwn.never rfl (pi_range1 rfl B.range (pa_cons (pv 1) pa_nil)) (pg_name (i := 3) sc_L_shares.nd rfl (.inl rfl)) (pss_cons (ps_set (i := 4) sc_L_shares.nd rfl (.inl rfl) (pe_lst (pa_cons pe_int (pa_cons pe_int (pa_cons pe_int (pa_cons pe_int (pa_cons (pe_c c_L_take hr (by omega) (by rfl) (pa_cons (pv 0) (pa_cons pe_int pa_nil))) (pa_cons (pe_c c_L_take hr (by omega) (by rfl) (pa_cons (pv 0) (pa_cons pe_int pa_nil))) (pa_cons (pe_op op_add (pe_op op_pow pe_int pe_int) (pe_c c_L_take hr (by omega) (by rfl) (pa_cons (pv 0) (pa_cons pe_int pa_nil)))) pa_nil))))))))) (pss_one (ps_expr (pe_bm PySem.F.plainAttrs_list PySem.F.slot_list_append PySem.F.type_list_append mt_append (pv 2) (pa_cons (pe_c c_L_of hr (by omega) (by rfl) (pa_cons (pv 0) (pa_cons (pv 4) pa_nil))) pa_nil)))))) (C8.pss_cut (ps_if (pt_cmpR op_eq (pe_callB (cr_max rfl) (by rfl) B.max (by decide +kernel) (pa_cons (pv 2) pa_nil)) pe_int (nomark _)) (pss_one (ps_asg pe_int (pg_sub (pv 2) (pe_c c_L_take hr (by omega) (by rfl) (pa_cons (pv 0) (pa_cons (pv 1) pa_nil))) set_list))) pss_nil) (pss_one (ps_ret (pe_c c_L_lowest hr (by omega) (by rfl) (pa_cons (pv 2) pa_nil))))))), ?_⟩
    refine ⟨(by show 0 ≤ sizeLine; decide), fun l nl => ?_⟩
    have hla := hh.ne nl
    refine ⟨.int (many : Int), rfl, _, rfl, by omega, by omega, ?_⟩
    refine for_range (n := ((many : Int)).toNat) (fun i σ H' => ∃ y3 y4, ∃ ns : List Int, σ = [some (.ref a), some (.int (many : Int)), some (.ref l), y3, y4] ∧ But a H H' ∧ HandAt H' a (n + 4 * i) ∧ H' l = some (.lst (ns.map V.int)) ∧ ns.length = i ∧ ∀ x ∈ ns, 0 ≤ x ∧ x < 2 ^ 100) ⟨none, none, [], rfl, But.new nl, hh.new nl, upd_same, rfl, fun x h => by cases h⟩ ?_ ?_
    · rintro i σ H1 hi ⟨y3, y4, ns, rfl, b1, hh1, hl1, hlen, hb⟩
      have hi3 : i < 3 := by omega
      refine ⟨.ref a, rfl, a, 12, _, rfl, by decide, by decide, hh1, by omega, fun H2 r2 b2 hh2 r20 r21 => ?_⟩
      refine ⟨.ref a, rfl, a, 1001, _, rfl, by decide, by decide, hh2, by omega, fun H3 r3 b3 hh3 r30 r31 => ?_⟩
      refine ⟨10, 12, rfl, rfl, ⟨by decide, by decide, by decide⟩, .ref a, rfl, a, 9, _, rfl, by decide, by decide, hh3, by omega, fun H4 r4 b4 hh4 r40 r41 => ⟨_, _, rfl, rfl, (by show 7 ≤ sizeLine; decide), fun p np => ?_⟩⟩
      have hpa := hh4.ne np
      have e4 : H4 l = some (.lst (ns.map V.int)) := b4 _ _ hla (b3 _ _ hla (b2 _ _ hla hl1))
      have hpl : l ≠ p := ne_of_none e4 np
      have e5 : (upd H4 p (.lst [.int 0, .int 1, .int 1, .int 2, .int r2, .int r3, .int (10 ^ (12 : Int).toNat + r4)])) l = some (.lst (ns.map V.int)) := (upd_ne hpl).trans e4
      refine ⟨.ref l, rfl, .inl ⟨rfl, _, SqL.of e5⟩, .ref a, rfl, .ref p, rfl, a, p, _, _, rfl, hpa.symm, upd_same, (by show 0 < 7; decide), (by show 7 ≤ 1000; decide), hh4.new np, by omega, fun H6 v b6 hh6 hv => ?_⟩
      have key : ∃ c : Int, v = .int c ∧ 0 ≤ c ∧ c < 2 ^ 100 := by
        have hv : v ∈ ([.int 0, .int 1, .int 1, .int 2, .int r2, .int r3, .int (10 ^ 12 + r4)] : List V) := hv
        simp only [List.mem_cons, List.not_mem_nil, or_false] at hv
        rcases hv with rfl | rfl | rfl | rfl | rfl | rfl | rfl
        all_goals exact ⟨_, rfl, by omega, by omega⟩
      obtain ⟨c, rfl, c0, c1⟩ := key
      have e6 : H6 l = some (.lst (ns.map V.int)) := b6 _ _ hla e5
      refine ⟨l, _, _, rfl, rfl, e6, ?_, ?_⟩
      · rw [List.length_map]
        exact small1000 (by omega)
      · have bb : But a H H6 := ((((b1.trans b2).trans b3).trans b4).trans (But.new np)).trans b6
        refine ⟨_, _, ns ++ [c], rfl, fun b' o nb e => ?_, (hh6.put hla).le (by omega), ?_, ?_, ?_⟩
        · rw [upd_ne (ne_of_none e nl)]
          exact bb _ _ nb e
        · rw [upd_same, List.map_append]
          rfl
        · rw [List.length_append, hlen]
          rfl
        · intro x hx
          rcases List.mem_append.mp hx with hx | hx
          · exact hb x hx
          · rw [List.mem_singleton.mp hx]
            exact ⟨c0, c1⟩
    · rintro σ H1 ⟨y3, y4, ns, rfl, b1, hh1, hl1, hlen, hb⟩
      have hlen : ns.length = many := by omega
      have hh1 : HandAt H1 a (n + 12) := hh1.le (by omega)
      refine ⟨fun σ H' => ∃ y3 y4, ∃ ns : List Int, ∃ y : Int, σ = [some (.ref a), some (.int (many : Int)), some (.ref l), y3, y4] ∧ But a H H' ∧ HandAt H' a (n + 13) ∧ H' l = some (.lst (ns.map V.int)) ∧ ns.length = many ∧ (∀ x ∈ ns, 0 ≤ x ∧ x < 2 ^ 100) ∧ y ∈ ns ∧ 0 < y, ?_, ?_⟩
      · refine ⟨.ref l, rfl, l, ns, rfl, SqL.of hl1, by omega, fun m hm hmax => ⟨rfl, _, rfl, iteD (fun c => ?_) (fun c => ?_)⟩⟩
        · refine ⟨.ref l, rfl, .ref a, rfl, .int (many : Int), rfl, a, _, _, rfl, by omega, by omega, hh1, by omega, fun H2 r b2 hh2 r0 r1 => ?_⟩
          have e2 := b2 _ _ hla hl1
          refine ⟨l, _, r, _, rfl, rfl, e2, ixN_of r0 (by rw [List.length_map]; omega), ?_⟩
          have hj : r.toNat < ns.length := by omega
          refine ⟨_, _, ns.set r.toNat 1, 1, rfl, fun b' o nb e => ?_, hh2.put hla, ?_, ?_, fun x hx => ?_, ?_, by decide⟩
          · rw [upd_ne (ne_of_none e nl)]
            exact b2 _ _ nb (b1 _ _ nb e)
          · rw [upd_same, List.map_set]
          · rw [List.length_set]
            exact hlen
          · rcases List.mem_or_eq_of_mem_set hx with hx | rfl
            · exact hb x hx
            · exact ⟨by decide, by decide⟩
          · exact List.mem_iff_getElem.mpr ⟨r.toNat, by rw [List.length_set]; exact hj, List.getElem_set_self _⟩
        · have hm0 : m ≠ 0 := fun z => c (by rw [z])
          exact ⟨_, _, ns, m, rfl, b1, hh1.le (by omega), hl1, hlen, hb, hm, by have := hb m hm; omega⟩
      · rintro σ H2 ⟨y3, y4, ns, y, rfl, b2, hh2, hl2, hlen, hb, hy, py⟩
        refine ⟨.ref l, rfl, l, ns, y, rfl, hl2, hb, by omega, hy, py, fun H3 v ms sm hv => ?_⟩
        rw [hlen] at hv
        obtain ⟨g, sd, m, e, z1, z2, z3, z4⟩ := hh2
        exact q _ _ ms (b2.trans (But.of sm)) ⟨g, sd, m, sm _ _ e, z1, z2, z3, by omega⟩ hv
theorem ok_regs {f : Addr} {fd : FuncData} (F : Fun K "_law_registers" "_law_registers" s_L_registers f fd) (gF : mg "_law_registers" = some (.ref f)) (b : Binds K fd ["_law_hand_here"] []) (B : Bl mg) (c_L_figure : Cal P w K mg base 3 "_law_figure" spFigure) : Cal P w K mg base 4 "_law_registers" (spRegs K) := by
  refine ⟨f, fd, _, F.ok sc_L_registers (fun vs H Q E h => ?_) (fun cdv A outer s H vs Q E hr h => ?_), gF, F.kp, b⟩
  · obtain ⟨_, _, rfl, _⟩ := h
    rfl
  · obtain ⟨a, n, rfl, hh, hn, q⟩ := h
    refine ⟨_, (pss_one (ps_ret (pe_tupleOf (by rfl) B.tuple (pe_lc (own := [("_law_turn", 1)]) rfl sc_L_registers.nd (pi_range1 rfl B.range (pa_cons pe_int pa_nil)) (blkOk_by (N := N_L_registers) (sc := defScope s_L_registers) (by decide +kernel)) (fun _ _ _ _ _ => pg_name (i := 1) sc_L_registers.nd rfl (.inl rfl)) (fun _ _ _ _ _ => pts_nil) (fun _ _ _ _ _ => pe_c c_L_figure hr (by omega) (by rfl) (pa_cons (pv 0) pa_nil)))))), ?_⟩
    refine ⟨4, rfl, by decide, by decide, fun D nD => lc_range (n := (4 : Int).toNat) (fun i H' => ∃ rs : List Int, But a H H' ∧ HandAt H' a (n + 3 * i) ∧ H' D = some (.lst (rs.map V.int)) ∧ rs.length = i ∧ ∀ x ∈ rs, -1000 ≤ x ∧ x ≤ 1000) ⟨[], But.new nD, hh.new nD, upd_same, rfl, fun x h => by cases h⟩ ?_ ?_⟩
    · rintro i H1 hi ⟨rs, b1, hh1, hD, hlen, hb⟩
      have hi4 : i < 4 := hi
      have hDa := hh.ne nD
      refine ⟨rfl, tYes_in ?_⟩
      refine ⟨.ref a, rfl, a, _, rfl, hh1, by omega, fun H2 c b2 hh2 c0 c1 => ⟨_, b2 _ _ hDa hD, ?_, ?_⟩⟩
      · rw [List.length_map]
        exact small1000 (by omega)
      · refine ⟨rs ++ [c], fun b' o nb e => ?_, (hh2.put hDa).le (by omega), ?_, ?_, ?_⟩
        · rw [upd_ne (ne_of_none e nD)]
          exact b2 _ _ nb (b1 _ _ nb e)
        · rw [upd_same, List.map_append]
          rfl
        · rw [List.length_append, hlen]
          rfl
        · intro x hx
          rcases List.mem_append.mp hx with hx | hx
          · exact hb x hx
          · rw [List.mem_singleton.mp hx]
            exact ⟨c0, c1⟩
    · rintro H1 ⟨rs, b1, hh1, hD, hlen, hb⟩
      refine .inl ⟨D, _, rfl, SqL.of hD, fun t nt => ?_⟩
      exact q _ _ rs (b1.trans (But.new nt)) (hh1.new nt) ⟨t, rfl, SqT.of upd_same, hlen, hb⟩
theorem ok_asked {f : Addr} {fd : FuncData} (F : Fun K "_law_asked" "_law_asked" s_L_asked f fd) (gF : mg "_law_asked" = some (.ref f)) (b : Binds K fd ["_law_hand_here", "_law_many"] []) (B : Bl mg) (c_L_take : Cal P w K mg base 1 "_law_take" spTake) (c_L_lowest : Cal P w K mg base 1 "_law_lowest" (spLow K)) (c_L_shares : Cal P w K mg base 3 "_law_shares" (spShares K)) : Cal P w K mg base 4 "_law_asked" (spAsked K) := by
  refine ⟨f, fd, _, F.ok sc_L_asked (fun vs H Q E h => ?_) (fun cdv A outer s H vs Q E hr h => ?_), gF, F.kp, b⟩
  · obtain ⟨_, _, _, rfl, _⟩ := h
    rfl
  · obtain ⟨a, many, n, rfl, hm1, hm2, hh, hn, q⟩ := h
    refine ⟨_, (pss_cons (ps_if (pt_cmpR op_eq (pe_c c_L_take hr (by omega) (by rfl) (pa_cons (pv 0) (pa_cons pe_int pa_nil))) pe_int (nomark _)) (pss_one (ps_ret (pe_c c_L_shares hr (by omega) (by rfl) (pa_cons (pv 0) (pa_cons (pv 1) pa_nil))))) pss_nil) (pss_cons (ps_set (i := 2) sc_L_asked.nd rfl (.inl rfl) (pe_op op_add pe_int (pe_c c_L_take hr (by omega) (by rfl) (pa_cons (pv 0) (pa_cons pe_int pa_nil))))) (pss_cons (ps_set (i := 3) sc_L_asked.nd rfl (.inl rfl) (pe_c c_L_take hr (by omega) (by rfl) (pa_cons (pv 0) (pa_cons (pe_op op_sub pe_int (pv 2)) pa_nil)))) (pss_one (ps_ret (pe_c c_L_lowest hr (by omega) (by rfl) (pa_cons (pe_cut (pe_ifExp (pt_cmpR op_eq (pv 1) pe_int (nomark _)) (pe_lst (pa_cons (pv 2) (pa_cons (pe_op op_sub pe_int (pv 2)) pa_nil))) (pe_lst (pa_cons (pv 2) (pa_cons (pv 3) (pa_cons (pe_op op_sub (pe_op op_sub pe_int (pv 2)) (pv 3)) pa_nil)))))) pa_nil))))))), ?_⟩
    refine ⟨.ref a, rfl, a, 2, _, rfl, by decide, by decide, hh, by omega, fun H1 r b1 hh1 r0 r1 => ⟨rfl, _, rfl, iteD (fun c => ?_) (fun c => ?_)⟩⟩
    · refine ⟨.ref a, rfl, .int (many : Int), rfl, a, many, _, rfl, by omega, hm2, hh1, by omega, fun H2 v ms b2 hh2 hv => ?_⟩
      exact q _ _ ms (b1.trans b2) (hh2.le (by omega)) hv
    · refine ⟨.ref a, rfl, a, 999, _, rfl, by decide, by decide, hh1, by omega, fun H2 r2 b2 hh2 r20 r21 => ⟨_, _, rfl, rfl, ?_⟩⟩
      refine ⟨.ref a, rfl, .int (1 + r2), rfl, _, _, rfl, rfl, a, _, _, rfl, by omega, by omega, hh2, by omega, fun H3 r3 b3 hh3 r30 r31 => ?_⟩
      have b03 := (b1.trans b2).trans b3
      refine ⟨fun v H' => But a H H' ∧ HandAt H' a (n + 3) ∧ ∃ (p : Addr) (ns : List Int), v = .ref p ∧ H' p = some (.lst (ns.map V.int)) ∧ (∀ x ∈ ns, 0 ≤ x ∧ x < 2 ^ 100) ∧ ns.length = many ∧ (1 + r2) ∈ ns, ?_, ?_⟩
      · refine ⟨.int (many : Int), rfl, rfl, _, rfl, iteD (fun c => ?_) (fun c => ?_)⟩
        · have c2 : many = 2 := by have := V.int.inj c; omega
          refine ⟨.int (1 + r2), rfl, .int (1 + r2), rfl, _, _, rfl, rfl, (by show 2 ≤ sizeLine; decide), fun p np => ⟨b03.trans (But.new np), hh3.new np, p, [1 + r2, 1000 - (1 + r2)], rfl, upd_same, ?_, by rw [c2]; rfl, List.mem_cons_self⟩⟩
          intro x hx
          simp only [List.mem_cons, List.not_mem_nil, or_false] at hx
          omega
        · have c2 : many = 3 := by
            have : many ≠ 2 := fun z => c (by rw [z]; rfl)
            omega
          refine ⟨.int (1 + r2), rfl, .int r3, rfl, .int (1 + r2), rfl, _, _, rfl, rfl, .int r3, rfl, _, _, rfl, rfl, (by show 3 ≤ sizeLine; decide), fun p np => ⟨b03.trans (But.new np), hh3.new np, p, [1 + r2, r3, 1000 - (1 + r2) - r3], rfl, upd_same, ?_, by rw [c2]; rfl, List.mem_cons_self⟩⟩
          intro x hx
          simp only [List.mem_cons, List.not_mem_nil, or_false] at hx
          omega
      · rintro v H4 ⟨b4, hh4, p, ns, rfl, hp, hb, hlen, hy⟩
        refine ⟨p, ns, _, rfl, hp, hb, by omega, hy, by omega, fun H5 v ms sm hv => ?_⟩
        rw [hlen] at hv
        obtain ⟨g, sd, m, e, z1, z2, z3, z4⟩ := hh4
        exact q _ _ ms (b4.trans (But.of sm)) ⟨g, sd, m, sm _ _ e, z1, z2, z3, by omega⟩ hv
end
end NG

namespace NG
open PySem PySem.Spec PyProof.Rows L2
theorem mills_lt {x n f : Int} (h : 0 < n) : x / n < f ↔ x < f * n := Int.ediv_lt_iff_lt_mul h
theorem pick_at (A B : Int) (k : Bool) : atI [V.int A, V.int B] (if k = true then 1 else 0) = some (.int (if k = true then B else A)) := by
  cases k <;> rfl
theorem pick_eq {p q : Prop} [Decidable p] [Decidable q] {A B : Int} (h : p ↔ q) : (if decide p = true then B else A) = if q then B else A := by
  by_cases hp : p
  · rw [decide_eq_true hp, if_pos rfl, if_pos (h.mp hp)]
  · rw [decide_eq_false hp, if_neg Bool.false_ne_true, if_neg (fun z => hp (h.mpr z))]
/-- what stands through a turn -/
structure Fx (K : PySem.W.Frag) (a : Addr) (many : Nat) (e1 e2 : Ex) (rs ss : List Int) (x y r s : V) (lw : Addr) (H : Hp) (n : Nat) : Prop where
  hh : HandAt H a n
  x1 : ExAt K H e1 x
  x2 : ExAt K H e2 y
  rg : RegsAt K H rs r
  sh : ShAt K H many ss s
  ne : lw ≠ a
  wl : H lw = some (.lst [.int (wo rs ss e2), .int (wo rs ss e1)])
theorem Fx.but {K : PySem.W.Frag} {a : Addr} {many : Nat} {e1 e2 : Ex} {rs ss : List Int} {x y r s : V} {lw : Addr} {H H' : Hp} {n n' : Nat} (f : Fx K a many e1 e2 rs ss x y r s lw H n) (b : But a H H') (h : HandAt H' a n') : Fx K a many e1 e2 rs ss x y r s lw H' n' :=
  ⟨h, f.x1.but b f.hh, f.x2.but b f.hh, f.rg.imp fun _ _ q => b.sq f.hh q, f.sh.imp fun _ _ q => b.sq f.hh q, f.ne, b _ _ f.ne f.wl⟩
theorem Fx.same {K : PySem.W.Frag} {a : Addr} {many : Nat} {e1 e2 : Ex} {rs ss : List Int} {x y r s : V} {lw : Addr} {H H' : Hp} {n : Nat} (f : Fx K a many e1 e2 rs ss x y r s lw H n) (b : Same H H') : Fx K a many e1 e2 rs ss x y r s lw H' n := by
  refine f.but (But.of b) ?_
  obtain ⟨g, sd, m, e, z⟩ := f.hh
  exact ⟨g, sd, m, b _ _ e, z⟩
def spOne (K : PySem.W.Frag) : Sp := fun vs H Q _ => ∃ (a : Addr) (many n : Nat) (s : V) (ss : List Int), vs = [.ref a, .int (many : Int), s] ∧ 2 ≤ many ∧ many ≤ 3 ∧ HandAt H a n ∧ n ≤ 999990000 ∧ ShAt K H many ss s ∧
  ∀ H', But a H H' → HandAt H' a (n + 140) → Q (.bl true) H'
section
variable {P : Program} {w : World} {K : PySem.W.Frag} {mg : Str → Option Value} {base : Heap}
theorem ok_one {f : Addr} {fd : FuncData} (F : Fun K "_law_one_right" "_law_one_right" s_L_one_right f fd) (gF : mg "_law_one_right" = some (.ref f)) (b : Binds K fd ["_law_hand_here", "_law_many", "_law_shares_here"] []) (B : Bl mg) (c_L_take : Cal P w K mg base 1 "_law_take" spTake) (c_L_expression : Cal P w K mg base 7 "_law_expression" (spExpr K 3)) (c_L_registers : Cal P w K mg base 4 "_law_registers" (spRegs K)) (c_worth : Cal P w K mg base 7 "worth" (spWorth K 5)) (c_mills : Cal P w K mg base 1 "mills" (spMills K)) : Cal P w K mg base 8 "_law_one_right" (spOne K) := by
  refine ⟨f, fd, _, F.ok sc_L_one_right (fun vs H Q E h => ?_) (fun cdv A outer s H vs Q E hr h => ?_), gF, F.kp, b⟩
  · obtain ⟨_, _, _, _, _, rfl, _⟩ := h
    rfl
  · obtain ⟨a, many, n, sv, ss, rfl, hm1, hm2, hh, hn, hS, q⟩ := h
    refine ⟨_, (pss_cons (ps_par3 (i := 3) (j := 4) (l := 5) rfl sc_L_one_right.nd rfl rfl rfl (by decide) (by decide) (by decide) rfl rfl rfl (pa_cons (pe_c c_L_expression hr (by omega) (by rfl) (pa_cons (pv 0) (pa_cons (pv 1) (pa_cons pe_int (pa_cons pe_int pa_nil))))) (pa_cons (pe_c c_L_expression hr (by omega) (by rfl) (pa_cons (pv 0) (pa_cons (pv 1) (pa_cons pe_int (pa_cons pe_int pa_nil))))) (pa_cons (pe_c c_L_registers hr (by omega) (by rfl) (pa_cons (pv 0) pa_nil)) pa_nil))) (by rfl)) (pss_cons (ps_set (i := 6) sc_L_one_right.nd rfl (.inl rfl) (pe_lst (pa_cons (pe_c c_worth hr (by omega) (by rfl) (pa_cons (pv 4) (pa_cons (pv 5) (pa_cons (pv 2) pa_nil)))) (pa_cons (pe_c c_worth hr (by omega) (by rfl) (pa_cons (pv 3) (pa_cons (pv 5) (pa_cons (pv 2) pa_nil)))) pa_nil)))) (pss_cons (ps_for PassesOwn.never rfl (pi_range1 rfl B.range (pa_cons (pv 1) pa_nil)) (pg_name (i := 7) sc_L_one_right.nd rfl (.inl rfl)) (pss_cons (ps_set (i := 8) sc_L_one_right.nd rfl (.inl rfl) (pe_c c_mills hr (by omega) (by rfl) (pa_cons (pv 2) (pa_cons (pv 7) pa_nil)))) (pss_cons (ps_set (i := 9) sc_L_one_right.nd rfl (.inl rfl) (pe_lst (pa_cons (pe_op op_sub (pv 8) pe_int) (pa_cons (pv 8) (pa_cons (pe_op op_add (pv 8) pe_int) (pa_cons pe_int (pa_cons pe_int (pa_cons (pe_op op_add pe_int (pe_c c_L_take hr (by omega) (by rfl) (pa_cons (pv 0) (pa_cons pe_int pa_nil)))) pa_nil)))))))) (pss_one (ps_for PassesOwn.never rfl (pi_list (pe_lc (own := [("_law_figure_here", 10)]) rfl sc_L_one_right.nd (pi_list (pv 9)) (blkOk_by (N := N_L_one_right) (sc := defScope s_L_one_right) (by decide +kernel)) (fun _ _ _ _ _ => pg_name (i := 10) sc_L_one_right.nd rfl (.inl rfl)) (fun _ _ _ _ _ => pts_one (pt_chain op_le op_le pe_int (pv 10) pe_int)) (fun _ _ _ _ _ => pv 10))) (pg_name (i := 10) sc_L_one_right.nd rfl (.inl rfl)) (pss_cons (ps_set (i := 11) sc_L_one_right.nd rfl (.inl rfl) (pe_tup (pa_cons pe_str (pa_cons (pv 7) (pa_cons (pv 10) (pa_cons (pv 3) (pa_cons (pv 4) pa_nil))))))) (pss_cons (ps_if (pt_cmpR op_ne (pe_c c_worth hr (by omega) (by rfl) (pa_cons (pv 11) (pa_cons (pv 5) (pa_cons (pv 2) pa_nil)))) (pe_ix ix_list (pv 6) (pe_callTy call_int1 (by rfl) B.int (by decide +kernel) (pa_cons (pe_cmpR op_lt (pv 8) (pv 10) (nomark _)) pa_nil)) (fun _ _ => rfl)) (nomark _)) (pss_one (ps_ret pe_bl)) pss_nil) (pss_cons (ps_par (i := 12) (j := 13) rfl sc_L_one_right.nd rfl rfl (by decide) rfl rfl (pa_cons (pe_callB (call_min2 rfl) (by rfl) B.min (by decide +kernel) (pa_cons (pv 10) (pa_cons (pe_ix ix_list (pv 9) (pe_un un_neg pe_int) (fun _ _ => rfl)) pa_nil))) (pa_cons (pe_callB (call_max2 rfl) (by rfl) B.max (by decide +kernel) (pa_cons (pv 10) (pa_cons (pe_ix ix_list (pv 9) (pe_un un_neg pe_int) (fun _ _ => rfl)) pa_nil))) pa_nil)) (by rfl)) (pss_cons (ps_set (i := 14) sc_L_one_right.nd rfl (.inl rfl) (pe_tup (pa_cons pe_str (pa_cons (pv 7) (pa_cons (pv 12) (pa_cons (pv 4) (pa_cons (pe_tup (pa_cons pe_str (pa_cons (pv 7) (pa_cons (pv 13) (pa_cons (pv 3) (pa_cons (pv 4) pa_nil)))))) pa_nil))))))) (pss_one (ps_if (pt_cmpR op_ne (pe_c c_worth hr (by omega) (by rfl) (pa_cons (pv 14) (pa_cons (pv 5) (pa_cons (pv 2) pa_nil)))) (pe_ix ix_list (pv 6) (pe_callTy call_int1 (by rfl) B.int (by decide +kernel) (pa_cons (pe_chain op_le op_lt (pv 12) (pv 8) (pv 13)) pa_nil)) (fun _ _ => rfl)) (nomark _)) (pss_one (ps_ret pe_bl)) pss_nil))))))))))) (pss_one (ps_ret pe_bl))))), ?_⟩
    -- one, other, registers
    refine ⟨.ref a, rfl, .int (many : Int), rfl, a, many, 2, n, rfl, by decide, by omega, by omega, hh, (by show n + 84 ≤ _; omega), fun H1 x e1 b1 hh1 x1 o1 d1 => ?_⟩
    refine ⟨.ref a, rfl, .int (many : Int), rfl, a, many, 1, n + 84, rfl, by decide, by omega, by omega, hh1, (by show n + 84 + 32 ≤ _; omega), fun H2 y e2 b2 hh2 x2 o2 d2 => ?_⟩
    refine ⟨.ref a, rfl, a, n + 84 + 32, rfl, hh2, by omega, fun H3 r rs b3 hh3 rg => ⟨_, _, _, rfl, ?_⟩⟩
    have x1 := (x1.but b2 hh1).but b3 hh2
    have x2 := x2.but b3 hh2
    have hS3 : ShAt K H3 many ss sv := ((hS.imp fun _ _ q => b1.sq hh q).imp fun _ _ q => b2.sq hh1 q).imp fun _ _ q => b3.sq hh2 q
    have b03 := (b1.trans b2).trans b3
    -- worths
    refine ⟨y, rfl, r, rfl, sv, rfl, y, r, sv, e2, many, rs, ss, rfl, x2, o2, by omega, rg, hS3, ?_⟩
    refine ⟨x, rfl, r, rfl, sv, rfl, x, r, sv, e1, many, rs, ss, rfl, x1, o1, by omega, rg, hS3, (by show 2 ≤ sizeLine; decide), fun lw nlw => ?_⟩
    have fx0 : Fx K a many e1 e2 rs ss x y r sv lw (upd H3 lw (.lst [.int (wo rs ss e2), .int (wo rs ss e1)])) (n + 128) :=
      ⟨hh3.new nlw, x1.new nlw, x2.new nlw, rg.imp fun _ _ q => same_sqt (same_new nlw) q, hS3.imp fun _ _ q => same_sqt (same_new nlw) q, hh3.ne nlw, upd_same⟩
    -- for sign
    refine ⟨.int (many : Int), rfl, _, rfl, by omega, by omega, ?_⟩
    refine for_range (n := ((many : Int)).toNat) (fun i σ H' => ∃ y7 y8 y9 y10 y11 y12 y13 y14, σ = [some (.ref a), some (.int (many : Int)), some sv, some x, some y, some r, some (.ref lw), y7, y8, y9, y10, y11, y12, y13, y14] ∧ But a H H' ∧ Fx K a many e1 e2 rs ss x y r sv lw H' (n + 128 + i)) ⟨none, none, none, none, none, none, none, none, rfl, b03.trans (But.new nlw), fx0⟩ ?_ ?_
    · rintro j σ H4 hj ⟨y7, y8, y9, y10, y11, y12, y13, y14, rfl, b4, fx⟩
      rw [Int.zero_add]
      have hj' : j < many := by omega
      obtain ⟨sp, rfl, hs1, hs2, hs3, hs4, hs5⟩ := id fx.sh
      generalize ht : 1000 * ss.getD j 0 / ss.sum = told
      refine ⟨.ref sp, rfl, .int (j : Int), rfl, .ref sp, many, j, ss, rfl, fx.sh, hj', ?_⟩
      rw [ht]
      -- some
      refine ⟨.int told, rfl, _, _, rfl, rfl, .int told, rfl, .int told, rfl, _, _, rfl, rfl, .ref a, rfl, a, 1000, _, rfl, by decide, by decide, fx.hh, by omega, fun H5 r5 b5 hh5 r50 r51 => ⟨_, _, rfl, rfl, (by show 6 ≤ sizeLine; decide), fun ls nls => ?_⟩⟩
      have fx := (fx.but b5 hh5).same (same_new (o := .lst [.int (told - 1), .int told, .int (told + 1), .int 1, .int 1000, .int (1 + r5)]) nls)
      have b5' := (b4.trans b5).trans (But.new (o := .lst [.int (told - 1), .int told, .int (told + 1), .int 1, .int 1000, .int (1 + r5)]) nls)
      have hls : (upd H5 ls (.lst [.int (told - 1), .int told, .int (told + 1), .int 1, .int 1000, .int (1 + r5)])) ls = some (.lst (([told - 1, told, told + 1, 1, 1000, 1 + r5] : List Int).map V.int)) := upd_same
      have e5 : (upd H5 ls (.lst [.int (told - 1), .int told, .int (told + 1), .int 1, .int 1000, .int (1 + r5)])) = upd H5 ls (.lst (([told - 1, told, told + 1, 1, 1000, 1 + r5] : List Int).map V.int)) := rfl
      revert fx b5' hls
      generalize (upd H5 ls (.lst [.int (told - 1), .int told, .int (told + 1), .int 1, .int 1000, .int (1 + r5)])) = H6
      intro fx b6 hls
      -- the comprehension
      refine ⟨.ref ls, rfl, ls, rfl, ⟨_, SqL.of hls⟩, fun D nD => lc_list (xs := ([told - 1, told, told + 1, 1, 1000, 1 + r5] : List Int).map V.int) (fun i H' => ∃ fs : List Int, Same H6 H' ∧ H' D = some (.lst (fs.map V.int)) ∧ (∀ z ∈ fs, 1 ≤ z ∧ z ≤ 1000) ∧ fs.length ≤ i) ⟨[], same_new nD, upd_same, (fun z h => by cases h), Nat.le_refl _⟩ (fun i H' _ h => by obtain ⟨fs, sm, _⟩ := h; exact SqL.of (sm _ _ hls)) ?_ ?_⟩
      · rintro i v H7 hv ⟨fs, sm, hD, hf, hfl⟩
        obtain ⟨z, rfl⟩ : ∃ z : Int, v = .int z := by
          rw [List.getElem?_map] at hv
          cases hz : ([told - 1, told, told + 1, 1, 1000, 1 + r5] : List Int)[i]? with
          | none => rw [hz] at hv; cases hv
          | some z => rw [hz] at hv; exact ⟨z, (Option.some.inj hv).symm⟩
        have hi6 : i < 6 := (List.getElem?_eq_some_iff.mp hv).1
        refine ⟨rfl, .int z, rfl, 1, z, rfl, rfl, _, rfl, iteD (fun c1 => ?_) (fun c1 => ?_)⟩
        · refine ⟨_, _, rfl, rfl, _, rfl, iteD (fun c2 => ?_) (fun c2 => ?_)⟩
          · refine ⟨.int z, rfl, _, hD, ?_, fs ++ [z], fun b' o e => ?_, ?_, ?_, ?_⟩
            · rw [List.length_map]
              exact small1000 (by omega)
            · rw [upd_ne (ne_of_none e nD)]
              exact sm _ _ e
            · rw [upd_same, List.map_append]
              rfl
            · intro u hu
              rcases List.mem_append.mp hu with hu | hu
              · exact hf u hu
              · rw [List.mem_singleton.mp hu]
                exact ⟨c1, c2⟩
            · rw [List.length_append]
              show fs.length + 1 ≤ i + 1
              omega
          · exact ⟨fs, sm, hD, hf, by omega⟩
        · exact ⟨_, rfl, iteF ⟨fs, sm, hD, hf, by omega⟩⟩
      · rintro H7 ⟨fs, sm, hD, hf, hfl⟩
        refine ⟨D, rfl, ⟨_, SqL.of hD⟩, ?_⟩
        have fx := fx.same sm
        have hls := sm _ _ hls
        have b7 := b6.trans (But.of sm)
        refine for_list (xs := fs.map V.int) (fun i σ H' => ∃ y10 y11 y12 y13 y14, σ = [some (.ref a), some (.int (many : Int)), some (.ref sp), some x, some y, some r, some (.ref lw), some (.int (j : Int)), some (.int told), some (.ref ls), y10, y11, y12, y13, y14] ∧ Same H7 H') ⟨_, _, _, _, _, rfl, Same.refl _⟩ (fun i σ H' _ h => by obtain ⟨_, _, _, _, _, _, sm'⟩ := h; exact SqL.of (sm' _ _ hD)) ?_ ?_
        · rintro i v σ H8 hv ⟨y10, y11, y12, y13, y14, rfl, sm8⟩
          obtain ⟨z, rfl, hz⟩ : ∃ z : Int, v = .int z ∧ z ∈ fs := by
            rw [List.getElem?_map] at hv
            cases hz : fs[i]? with
            | none => rw [hz] at hv; cases hv
            | some z => rw [hz] at hv; exact ⟨z, (Option.some.inj hv).symm, List.mem_of_getElem? hz⟩
          obtain ⟨z1, z2⟩ := hf z hz
          have fx8 := fx.same sm8
          have hls8 := sm8 _ _ hls
          -- made
          refine ⟨.int (j : Int), rfl, .int z, rfl, x, rfl, y, rfl, (by show 5 ≤ sizeLine; decide), fun p np => ?_⟩
          have fx9 := fx8.same (same_new (o := .tup [.str "where", .int (j : Int), .int z, x, y]) np)
          have hls9 := same_new (o := .tup [.str "where", .int (j : Int), .int z, x, y]) np _ _ hls8
          have sm9 : Same H7 (upd H8 p (.tup [.str "where", .int (j : Int), .int z, x, y])) := sm8.trans (same_new np)
          have hp : (upd H8 p (.tup [.str "where", .int (j : Int), .int z, x, y])) p = some (.tup [.str "where", .int (j : Int), .int z, x, y]) := upd_same
          revert fx9 hls9 sm9 hp
          generalize (upd H8 p (.tup [.str "where", .int (j : Int), .int z, x, y])) = H9
          intro fx9 hls9 sm9 hp
          refine ⟨.ref p, rfl, r, rfl, .ref sp, rfl, .ref p, r, .ref sp, .whr j z e1 e2, many, rs, ss, rfl, ⟨p, x, y, rfl, SqT.of hp, fx9.x1, fx9.x2⟩, ⟨hj', ⟨z1, z2⟩, o1, o2⟩, (by show max e1.dep e2.dep + 1 ≤ 5; omega), fx9.rg, fx9.sh, ?_⟩
          refine ⟨.ref lw, rfl, .int told, rfl, .int z, rfl, _, _, rfl, rfl, .inr ⟨_, rfl, lw, _, _, _, rfl, rfl, SqL.of fx9.wl, pick_at _ _ _, rfl, _, rfl, iteFF ?_ ?_⟩⟩
          · rw [decide_eq_true]
            · rfl
            · rw [← ht, pick_eq (mills_lt hs4)]
              rfl
          -- low, high
          refine ⟨.int z, rfl, .ref ls, rfl, _, rfl, ls, _, -1, .int (1 + r5), rfl, rfl, SqL.of hls9, rfl, _, _, rfl, .int z, rfl, .ref ls, rfl, _, rfl, ls, _, -1, .int (1 + r5), rfl, rfl, SqL.of hls9, rfl, _, _, rfl, _, _, rfl, ?_⟩
          generalize hlo : (if 1 + r5 < z then 1 + r5 else z) = lo
          generalize hhi : (if 1 + r5 > z then 1 + r5 else z) = hi
          have lo1 : 1 ≤ lo ∧ lo ≤ 1000 := by rw [← hlo]; split <;> omega
          have hi1 : 1 ≤ hi ∧ hi ≤ 1000 := by rw [← hhi]; split <;> omega
          -- between
          refine ⟨.int (j : Int), rfl, .int lo, rfl, y, rfl, .int (j : Int), rfl, .int hi, rfl, x, rfl, y, rfl, (by show 5 ≤ sizeLine; decide), fun p2 np2 => ⟨(by show 5 ≤ sizeLine; decide), fun p3 np3 => ?_⟩⟩
          have fx10 := fx9.same ((same_new (o := .tup [.str "where", .int (j : Int), .int hi, x, y]) np2).trans (same_new (o := .tup [.str "where", .int (j : Int), .int lo, y, .ref p2]) np3))
          have sm10 := sm9.trans ((same_new (o := .tup [.str "where", .int (j : Int), .int hi, x, y]) np2).trans (same_new (o := .tup [.str "where", .int (j : Int), .int lo, y, .ref p2]) np3))
          have hp2 : (upd (upd H9 p2 (.tup [.str "where", .int (j : Int), .int hi, x, y])) p3 (.tup [.str "where", .int (j : Int), .int lo, y, .ref p2])) p2 = some (.tup [.str "where", .int (j : Int), .int hi, x, y]) := same_new np3 _ _ upd_same
          have hp3 : (upd (upd H9 p2 (.tup [.str "where", .int (j : Int), .int hi, x, y])) p3 (.tup [.str "where", .int (j : Int), .int lo, y, .ref p2])) p3 = some (.tup [.str "where", .int (j : Int), .int lo, y, .ref p2]) := upd_same
          revert fx10 sm10 hp2 hp3
          generalize (upd (upd H9 p2 (.tup [.str "where", .int (j : Int), .int hi, x, y])) p3 (.tup [.str "where", .int (j : Int), .int lo, y, .ref p2])) = H10
          intro fx10 sm10 hp2 hp3
          refine ⟨.ref p3, rfl, r, rfl, .ref sp, rfl, .ref p3, r, .ref sp, .whr j lo e2 (.whr j hi e1 e2), many, rs, ss, rfl, ⟨p3, y, .ref p2, rfl, SqT.of hp3, fx10.x2, ⟨p2, x, y, rfl, SqT.of hp2, fx10.x1, fx10.x2⟩⟩, ⟨hj', lo1, o2, hj', hi1, o1, o2⟩, (by show max e2.dep (max e1.dep e2.dep + 1) + 1 ≤ 5; omega), fx10.rg, fx10.sh, ?_⟩
          refine ⟨.ref lw, rfl, ?_⟩
          have fin : ∀ k : Bool, (if 1000 * ss.getD j 0 < lo * ss.sum then wo rs ss e2 else if 1000 * ss.getD j 0 < hi * ss.sum then wo rs ss e1 else wo rs ss e2) = (if k = true then wo rs ss e1 else wo rs ss e2) → (decide (V.int (wo rs ss (.whr j lo e2 (.whr j hi e1 e2))) = V.int (if k = true then wo rs ss e1 else wo rs ss e2))) = true := fun k hk => decide_eq_true (by
            rw [← hk]
            rfl)
          have l1 := mills_lt (x := 1000 * ss.getD j 0) (f := lo) hs4
          have l2 := mills_lt (x := 1000 * ss.getD j 0) (f := hi) hs4
          rw [ht] at l1 l2
          refine ⟨.int lo, rfl, .int told, rfl, _, _, rfl, rfl, _, rfl, iteD (fun c1 => ?_) (fun c1 => ?_)⟩
          · refine ⟨.int hi, rfl, _, _, rfl, rfl, .inr ⟨_, rfl, lw, _, _, _, rfl, rfl, SqL.of fx10.wl, pick_at _ _ _, rfl, _, rfl, iteFF ?_ ?_⟩⟩
            · rw [fin _ ?_]
              · rfl
              · rw [if_neg (fun z => by have := l1.mpr z; omega)]
                by_cases c2 : told < hi
                · rw [if_pos (l2.mp c2), decide_eq_true c2, if_pos rfl]
                · rw [if_neg (fun z => c2 (l2.mpr z)), decide_eq_false c2, if_neg Bool.false_ne_true]
            · exact ⟨_, _, _, _, _, rfl, sm10⟩
          · refine .inr ⟨_, rfl, lw, _, _, _, rfl, rfl, SqL.of fx10.wl, pick_at _ _ _, rfl, _, rfl, iteFF ?_ ?_⟩
            · rw [fin false ?_]
              · rfl
              · rw [if_pos (l1.mp (by omega)), if_neg Bool.false_ne_true]
            · exact ⟨_, _, _, _, _, rfl, sm10⟩
        · rintro σ H8 ⟨y10, y11, y12, y13, y14, rfl, sm8⟩
          exact ⟨_, _, _, _, _, _, _, _, rfl, b7.trans (But.of sm8), (fx.same sm8)⟩
    · rintro σ H4 ⟨y7, y8, y9, y10, y11, y12, y13, y14, rfl, b4, fx⟩
      exact q _ b4 (fx.hh.le (by omega))
end
end NG

namespace NG
open PySem PySem.Spec PyProof.Rows L2
def CInv (K : PySem.W.Frag) (H3 : Hp) (a D : Addr) (many j : Nat) (sv : V) (ss fs : List Int) (m : Nat) (σ : L2.St) (H' : Hp) : Prop :=
  ∃ (R : Addr) (vs : List V) (es : List Ex) (d : Nat) (y7 y8 y9 : Option V), σ = [some (.ref a), some (.int (many : Int)), some sv, some (.int (j : Int)), some (.ref D), none, some (.ref R), y7, y8, y9] ∧ Same H3 H' ∧ H' R = some (.lst vs) ∧ RowsAt K H' vs es ∧ es.length = m ∧
    (es.map (wo [0, 0, 0, 0] ss)).sum = ((fs.map (whn j)).map (wo [0, 0, 0, 0] ss)).sum ∧ (∀ e ∈ es, ExOk many e ∧ e.dep ≤ d) ∧ ((m = 8 ∧ d = 2) ∨ (m = 4 ∧ d = 3) ∨ (m = 2 ∧ d = 4) ∨ (m = 1 ∧ d = 5))
section
variable {P : Program} {w : World} {K : PySem.W.Frag} {mg : Str → Option Value} {base : Heap}
theorem ok_count {f : Addr} {fd : FuncData} (F : Fun K "_law_count_right" "_law_count_right" s_L_count_right f fd) (gF : mg "_law_count_right" = some (.ref f)) (b : Binds K fd ["_law_hand_here", "_law_many", "_law_shares_here"] []) (B : Bl mg) (c_L_take : Cal P w K mg base 1 "_law_take" spTake) (c_worth : Cal P w K mg base 7 "worth" (spWorth K 5)) (c_mills : Cal P w K mg base 1 "mills" (spMills K)) : Cal P w K mg base 8 "_law_count_right" (spCount K) := by
  refine ⟨f, fd, _, F.ok sc_L_count_right (fun vs H Q E h => ?_) (fun cdv A outer s H vs Q E hr h => ?_), gF, F.kp, b⟩
  · obtain ⟨_, _, _, _, _, rfl, _⟩ := h
    rfl
  · obtain ⟨a, many, n, sv, ss, rfl, hm1, hm2, hh, hn, hS, q⟩ := h
    refine ⟨_, (pss_cons (ps_asg (pe_tup (pa_cons (pe_c c_L_take hr (by omega) (by rfl) (pa_cons (pv 0) (pa_cons (pv 1) pa_nil))) (pa_cons (pe_lc (own := [("_law_turn", 5)]) rfl sc_L_count_right.nd (pi_range1 rfl B.range (pa_cons pe_int pa_nil)) (blkOk_by (N := N_L_count_right) (sc := defScope s_L_count_right) (by decide +kernel)) (fun _ _ _ _ _ => pg_name (i := 5) sc_L_count_right.nd rfl (.inl rfl)) (fun _ _ _ _ _ => pts_nil) (fun _ _ _ _ _ => pe_op op_add pe_int (pe_c c_L_take hr (by omega) (by rfl) (pa_cons (pv 0) (pa_cons pe_int pa_nil))))) pa_nil))) (pg_tup rfl (pgs_cons (pg_name (i := 3) sc_L_count_right.nd rfl (.inr rfl)) (pgs_cons (pg_name (i := 4) sc_L_count_right.nd rfl (.inl rfl)) pgs_nil)))) (pss_cons (ps_set (i := 6) sc_L_count_right.nd rfl (.inr rfl) (pe_lc (own := [("_law_figure_here", 7)]) rfl sc_L_count_right.nd (pi_list (pv 4)) (blkOk_by (N := N_L_count_right) (sc := defScope s_L_count_right) (by decide +kernel)) (fun _ _ _ _ _ => pg_name (i := 7) sc_L_count_right.nd rfl (.inl rfl)) (fun _ _ _ _ _ => pts_nil) (fun _ _ _ _ _ => pe_tup (pa_cons pe_str (pa_cons (pv 3) (pa_cons (pv 7) (pa_cons (pe_tup (pa_cons pe_str (pa_cons pe_int pa_nil))) (pa_cons (pe_tup (pa_cons pe_str (pa_cons pe_int pa_nil))) pa_nil)))))))) (pss_cons (ps_while PassesOwn.never (pt_cmpR op_gt (pe_callB call_len_seq (by rfl) B.len PySem.boot_len (pa_cons (pv 6) pa_nil)) pe_int (nomark _)) (pss_one (ps_set (i := 6) sc_L_count_right.nd rfl (.inr rfl) (pe_lc (own := [("_law_k", 8)]) rfl sc_L_count_right.nd (pi_range3 rfl B.range (pa_cons pe_int (pa_cons (pe_callB call_len_seq (by rfl) B.len PySem.boot_len (pa_cons (pv 6) pa_nil)) (pa_cons pe_int pa_nil)))) (blkOk_by (N := N_L_count_right) (sc := defScope s_L_count_right) (by decide +kernel)) (fun _ _ _ _ _ => pg_name (i := 8) sc_L_count_right.nd rfl (.inl rfl)) (fun _ _ _ _ _ => pts_nil) (fun _ _ _ _ _ => pe_tup (pa_cons pe_str (pa_cons (pe_ix (ixl K) (pv 6) (pv 8) (fun _ _ => rfl)) (pa_cons (pe_ix (ixl K) (pv 6) (pe_op op_add (pv 8) pe_int) (fun _ _ => rfl)) pa_nil)))))))) (pss_cons (ps_set (i := 9) sc_L_count_right.nd rfl (.inl rfl) (pe_callB call_len_seq (by rfl) B.len PySem.boot_len (pa_cons (pe_lc (own := [("_law_figure_here", 7)]) rfl sc_L_count_right.nd (pi_list (pv 4)) (blkOk_by (N := N_L_count_right) (sc := defScope s_L_count_right) (by decide +kernel)) (fun _ _ _ _ _ => pg_name (i := 7) sc_L_count_right.nd rfl (.inl rfl)) (fun _ _ _ _ _ => pts_one (pt_cmpR op_le (pv 7) (pe_c c_mills hr (by omega) (by rfl) (pa_cons (pv 2) (pa_cons (pv 3) pa_nil))) (nomark _))) (fun _ _ _ _ _ => pv 7)) pa_nil))) (pss_one (ps_ret (pe_cmpR op_eq (pe_c c_worth hr (by omega) (by rfl) (pa_cons (pe_ix ix_list (pv 6) pe_int (fun _ _ => rfl)) (pa_cons (pe_tup (pa_cons pe_int (pa_cons pe_int (pa_cons pe_int (pa_cons pe_int pa_nil))))) (pa_cons (pv 2) pa_nil)))) (pe_op op_mul (pv 9) (pe_callB (cr_sumT rfl) (by rfl) B.sum (by decide +kernel) (pa_cons (pv 2) pa_nil))) (nomark _)))))))), ?_⟩
    -- sign
    refine ⟨.ref a, rfl, .int (many : Int), rfl, a, _, n, rfl, by omega, by omega, hh, by omega, fun H1 jz b1 hh1 j0 j1 => ?_⟩
    obtain ⟨j, rfl⟩ : ∃ j : Nat, jz = (j : Int) := ⟨jz.toNat, by omega⟩
    have hj : j < many := by omega
    have hS1 : ShAt K H1 many ss sv := hS.imp fun _ _ q => b1.sq hh q
    -- figures
    refine ⟨8, rfl, by decide, by decide, fun D nD => lc_range (n := (8 : Int).toNat) (fun i H' => ∃ fs : List Int, But a H1 H' ∧ HandAt H' a (n + 1 + i) ∧ H' D = some (.lst (fs.map V.int)) ∧ fs.length = i ∧ ∀ z ∈ fs, 1 ≤ z ∧ z ≤ 1000) ⟨[], But.new nD, hh1.new nD, upd_same, rfl, fun x h => by cases h⟩ ?_ ?_⟩
    · rintro i H2 hi ⟨fs, b2, hh2, hD, hlen, hb⟩
      have hi8 : i < 8 := hi
      have hDa := hh1.ne nD
      refine ⟨rfl, tYes_in ?_⟩
      refine ⟨.ref a, rfl, a, 1000, _, rfl, by decide, by decide, hh2, by omega, fun H3 c b3 hh3 c0 c1 => ⟨_, _, rfl, rfl, _, b3 _ _ hDa hD, ?_, ?_⟩⟩
      · rw [List.length_map]
        exact small1000 (by omega)
      · refine ⟨fs ++ [1 + c], fun b' o nb e => ?_, (hh3.put hDa).le (by omega), ?_, ?_, ?_⟩
        · rw [upd_ne (ne_of_none e nD)]
          exact b3 _ _ nb (b2 _ _ nb e)
        · rw [upd_same, List.map_append]
          rfl
        · rw [List.length_append, hlen]
          rfl
        · intro x hx
          rcases List.mem_append.mp hx with hx | hx
          · exact hb x hx
          · rw [List.mem_singleton.mp hx]
            exact ⟨by omega, by omega⟩
    · rintro H2 ⟨fs, b2, hh2, hD, hlen, hb⟩
      have hlen : fs.length = 8 := hlen
      have hS2 : ShAt K H2 many ss sv := hS1.imp fun _ _ q => b2.sq hh1 q
      refine ⟨(by show 2 ≤ sizeLine; decide), fun t nt => ⟨t, _, rfl, SqT.of upd_same, rfl, _, _, rfl, _, _, rfl, rfl, ?_⟩⟩
      have b3 : But a H (upd H2 t (.tup [.int (j : Int), .ref D])) := (b1.trans b2).trans (But.new nt)
      have hh3 : HandAt (upd H2 t (.tup [.int (j : Int), .ref D])) a (n + 9) := (hh2.new nt).le (by show n + 1 + 8 ≤ n + 9; omega)
      have hD3 := same_new (o := .tup [.int (j : Int), .ref D]) nt _ _ hD
      have hS3 : ShAt K (upd H2 t (.tup [.int (j : Int), .ref D])) many ss sv := hS2.imp fun _ _ q => same_sqt (same_new nt) q
      revert b3 hh3 hD3 hS3
      generalize (upd H2 t (.tup [.int (j : Int), .ref D])) = H3
      intro b3 hh3 hD3 hS3
      -- rows
      refine ⟨.ref D, rfl, D, rfl, ⟨_, SqL.of hD3⟩, fun R nR => lc_list (xs := fs.map V.int) (fun i H' => ∃ vs, Same H3 H' ∧ H' R = some (.lst vs) ∧ RowsAt K H' vs ((fs.take i).map (whn j))) ⟨[], same_new nR, upd_same, trivial⟩ (fun i H' _ h => by obtain ⟨_, sm, _⟩ := h; exact SqL.of (sm _ _ hD3)) ?_ ?_⟩
      · rintro i v H4 hv ⟨vs, sm, hR, hrow⟩
        obtain ⟨z, rfl, hz⟩ : ∃ z : Int, v = .int z ∧ fs[i]? = some z := by
          rw [List.getElem?_map] at hv
          cases hz : fs[i]? with
          | none => rw [hz] at hv; cases hv
          | some z => rw [hz] at hv; exact ⟨z, (Option.some.inj hv).symm, rfl⟩
        have hi8 : i < 8 := by have := (List.getElem?_eq_some_iff.mp hz).1; omega
        refine ⟨rfl, tYes_in ?_⟩
        refine ⟨.int (j : Int), rfl, .int z, rfl, (by show 2 ≤ sizeLine; decide), fun p1 n1 => ⟨(by show 2 ≤ sizeLine; decide), fun p2 n2 => ⟨(by show 5 ≤ sizeLine; decide), fun p3 n3 => ?_⟩⟩⟩
        have sm3 : Same H4 _ := ((same_new (o := .tup [.str "fig", .int 0]) n1).trans (same_new (o := .tup [.str "fig", .int 1]) n2)).trans (same_new (o := .tup [.str "where", .int (j : Int), .int z, .ref p1, .ref p2]) n3)
        have q1 := same_new (o := .tup [.str "where", .int (j : Int), .int z, .ref p1, .ref p2]) n3 _ _ (same_new (o := .tup [.str "fig", .int 1]) n2 p1 (.tup [.str "fig", .int 0]) upd_same)
        have q2 := same_new (o := .tup [.str "where", .int (j : Int), .int z, .ref p1, .ref p2]) n3 p2 (.tup [.str "fig", .int 1]) upd_same
        have q3 : (upd (upd (upd H4 p1 (.tup [.str "fig", .int 0])) p2 (.tup [.str "fig", .int 1])) p3 (.tup [.str "where", .int (j : Int), .int z, .ref p1, .ref p2])) p3 = some (.tup [.str "where", .int (j : Int), .int z, .ref p1, .ref p2]) := upd_same
        revert sm3 q1 q2 q3
        generalize (upd (upd (upd H4 p1 (.tup [.str "fig", .int 0])) p2 (.tup [.str "fig", .int 1])) p3 (.tup [.str "where", .int (j : Int), .int z, .ref p1, .ref p2])) = H5
        intro sm3 q1 q2 q3
        have hR5 := sm3 _ _ hR
        have hrl := hrow.len
        rw [List.length_map, List.length_take] at hrl
        have keepA : ∀ p xs, SqT K H5 p xs → SqT K (upd H5 R (.lst (vs ++ [.ref p3]))) p xs := fun p xs h => by
          rcases h with (h | ⟨o, h⟩) | h
          · exact .inl (.inl (by rw [upd_ne (ne_of h hR5 (by intro z; cases z))]; exact h))
          · exact .inl (.inr ⟨o, by rw [upd_ne (ne_of h hR5 (by intro z; cases z))]; exact h⟩)
          · exact .inr h
        refine ⟨vs, hR5, ?_, vs ++ [.ref p3], fun b' o e => ?_, upd_same, ?_⟩
        · exact small1000 (by omega)
        · rw [upd_ne (ne_of_none e nR)]
          exact sm3 _ _ (sm _ _ e)
        · rw [List.take_add_one, hz, List.map_append]
          refine RowsAt.snoc (v := .ref p3) (e := whn j z) ?_ ((hrow.same sm3).imp keepA)
          show ExAt K _ (.whr j z (.fig 0) (.fig 1)) _
          exact ⟨p3, .ref p1, .ref p2, rfl, keepA _ _ (SqT.of q3), ⟨p1, rfl, keepA _ _ (SqT.of q1)⟩, ⟨p2, rfl, keepA _ _ (SqT.of q2)⟩⟩
      · rintro H4 ⟨vs, sm4, hR, hrow⟩
        rw [List.length_map, List.take_length] at hrow
        -- while
        refine ⟨CInv K H3 a D many j sv ss fs, ⟨8, R, vs, fs.map (whn j), 2, none, none, none, rfl, sm4, hR, hrow, by rw [List.length_map]; exact hlen, rfl, ?_, .inl ⟨rfl, rfl⟩⟩, ?_⟩
        · intro e he
          obtain ⟨z, hz, rfl⟩ := List.mem_map.mp he
          have := hb z hz
          exact ⟨⟨hj, this, ⟨by decide, by decide⟩, ⟨by decide, by decide⟩⟩, Nat.le_refl _⟩
        · rintro m σ H5 ⟨R, vs, es, d, y7, y8, y9, rfl, sm5, hR, hrow, hel, hsum, hok, hmd⟩
          have hvl : vs.length = m := hrow.len.trans hel
          refine ⟨.ref R, rfl, R, vs, rfl, .inl (SqL.of hR), _, _, rfl, rfl, _, rfl, iteD (fun c => ?_) (fun c => ?_)⟩
          · have hm : (m = 8 ∨ m = 4 ∨ m = 2) := by omega
            refine ⟨CInv K H3 a D many j sv ss fs (m / 2), fun σ' H' h => ⟨m / 2, by omega, h⟩, ?_⟩
            obtain ⟨ps, pl⟩ := pairUp_sum [0, 0, 0, 0] ss (es := es) (k := m / 2) (by omega)
            have hrg : RgC 0 (vs.length : Int) 2 (m / 2) := by
              rw [hvl]
              rcases hm with rfl | rfl | rfl <;> exact ⟨by decide, by decide, by decide, by decide⟩
            refine ⟨.ref R, rfl, R, vs, rfl, .inl (SqL.of hR), 0, _, 2, m / 2, rfl, hrg, fun D2 nD2 => lc_it walk_rangeC (fun k H' => ∃ vs', Same H5 H' ∧ H' D2 = some (.lst vs') ∧ RowsAt K H' vs' ((pairUp es).take k)) ⟨[], same_new nD2, upd_same, trivial⟩ (fun _ _ _ _ => trivial) ?_ ?_⟩
            · rintro k x _ H6 hk ⟨vs', sm6, hD2, hrow'⟩ ⟨rfl, rfl⟩
              have hR6 := sm6 _ _ hR
              obtain ⟨ea, hea⟩ : ∃ e, es[2 * k]? = some e := ⟨es[2 * k]'(by omega), List.getElem?_eq_getElem _⟩
              obtain ⟨eb, heb⟩ : ∃ e, es[2 * k + 1]? = some e := ⟨es[2 * k + 1]'(by omega), List.getElem?_eq_getElem _⟩
              have hrow6 := hrow.same sm6
              obtain ⟨va, hva, xa⟩ := hrow6.get hea
              obtain ⟨vb, hvb, xb⟩ := hrow6.get heb
              refine ⟨rfl, tYes_in ?_⟩
              refine ⟨.ref R, rfl, .int (0 + (k : Nat) * 2), rfl, R, vs, _, va, rfl, rfl, SqL.of hR6, at_of (j := 2 * k) (by omega) hva, .ref R, rfl, .int (0 + (k : Nat) * 2), rfl, _, _, rfl, rfl, R, vs, _, vb, rfl, rfl, SqL.of hR6, at_of (j := 2 * k + 1) (by omega) hvb, (by show 3 ≤ sizeLine; decide), fun p np => ?_⟩
              have hrl := hrow'.len
              rw [List.length_take] at hrl
              have sm7 : Same H6 (upd H6 p (.tup [.str "sum", va, vb])) := same_new np
              have hp7 : (upd H6 p (.tup [.str "sum", va, vb])) p = some (.tup [.str "sum", va, vb]) := upd_same
              revert sm7 hp7
              generalize (upd H6 p (.tup [.str "sum", va, vb])) = H7
              intro sm7 hp7
              have hD7 := sm7 _ _ hD2
              have keepA : ∀ p' xs, SqT K H7 p' xs → SqT K (upd H7 D2 (.lst (vs' ++ [.ref p]))) p' xs := fun p' xs h => by
                rcases h with (h | ⟨o, h⟩) | h
                · exact .inl (.inl (by rw [upd_ne (ne_of h hD7 (by intro z; cases z))]; exact h))
                · exact .inl (.inr ⟨o, by rw [upd_ne (ne_of h hD7 (by intro z; cases z))]; exact h⟩)
                · exact .inr h
              refine ⟨vs', hD7, small1000 (by omega), vs' ++ [.ref p], fun b' o e => ?_, upd_same, ?_⟩
              · rw [upd_ne (ne_of_none e nD2)]
                exact sm7 _ _ (sm6 _ _ e)
              · rw [List.take_add_one, pairUp_get hea heb]
                refine RowsAt.snoc (v := .ref p) (e := .two .sum ea eb) ?_ ((hrow'.same sm7).imp keepA)
                exact ⟨p, va, vb, rfl, keepA _ _ (SqT.of hp7), (xa.same sm7).imp keepA, (xb.same sm7).imp keepA⟩
            · rintro H6 ⟨vs', sm6, hD2, hrow'⟩
              rw [List.take_of_length_le (by omega)] at hrow'
              refine ⟨D2, vs', pairUp es, d + 1, _, _, _, rfl, sm5.trans sm6, hD2, hrow', pl, ps.trans hsum, pairUp_ok hok, ?_⟩
              omega
          · have hm : m = 1 ∧ d = 5 := by omega
            obtain ⟨rfl, rfl⟩ := hm
            have hS5 : ShAt K H5 many ss sv := hS3.imp fun _ _ q => same_sqt sm5 q
            have hD5 := sm5 _ _ hD3
            obtain ⟨sp, rfl, hs1, hs2, hs3, hs4, hs5⟩ := id hS5
            -- due
            refine ⟨.ref D, rfl, D, rfl, ⟨_, SqL.of hD5⟩, fun G nG => lc_list (xs := fs.map V.int) (fun i H' => Same H5 H' ∧ H' G = some (.lst (((fs.take i).filter fun z => decide (z ≤ 1000 * ss.getD j 0 / ss.sum)).map V.int))) ⟨same_new nG, upd_same⟩ (fun i H' _ h => SqL.of (h.1 _ _ hD5)) ?_ ?_⟩
            · rintro i v H6 hv ⟨sm6, hG⟩
              obtain ⟨z, rfl, hz⟩ : ∃ z : Int, v = .int z ∧ fs[i]? = some z := by
                rw [List.getElem?_map] at hv
                cases hz : fs[i]? with
                | none => rw [hz] at hv; cases hv
                | some z => rw [hz] at hv; exact ⟨z, (Option.some.inj hv).symm, rfl⟩
              have hi8 : i < 8 := by have := (List.getElem?_eq_some_iff.mp hz).1; omega
              refine ⟨rfl, .int z, rfl, .ref sp, rfl, .int (j : Int), rfl, .ref sp, many, j, ss, rfl, hS5.imp fun _ _ q => same_sqt sm6 q, hj, _, _, rfl, rfl, _, rfl, iteD (fun c => ?_) (fun c => ?_)⟩
              · refine ⟨.int z, rfl, _, hG, ?_, fun b' o e => ?_, ?_⟩
                · rw [List.length_map]
                  refine small1000 (Nat.le_trans (List.length_filter_le _ _) ?_)
                  rw [List.length_take]
                  omega
                · rw [upd_ne (ne_of_none e nG)]
                  exact sm6 _ _ e
                · rw [upd_same, List.take_add_one, hz, List.filter_append, List.map_append]
                  show some (HO.lst (_ ++ [V.int z])) = some (HO.lst (_ ++ ((List.filter _ [z]).map V.int)))
                  rw [List.filter_cons_of_pos (by rw [decide_eq_true c])]
                  rfl
              · refine ⟨sm6, ?_⟩
                rw [hG, List.take_add_one, hz, List.filter_append]
                show some (HO.lst _) = some (HO.lst ((_ ++ List.filter _ [z]).map V.int))
                rw [List.filter_cons_of_neg (by rw [decide_eq_false c]; exact Bool.false_ne_true)]
                show _ = some (HO.lst ((_ ++ []).map V.int))
                rw [List.append_nil]
            · rintro H6 ⟨sm6, hG⟩
              rw [List.length_map, List.take_length] at hG
              refine ⟨G, _, rfl, .inl (SqL.of hG), ?_⟩
              rw [List.length_map]
              generalize hdu : (fs.filter fun z => decide (z ≤ 1000 * ss.getD j 0 / ss.sum)).length = due
              have hdl : due ≤ 8 := by
                rw [← hdu, ← hlen]
                exact List.length_filter_le _ _
              have hrow6 := hrow.same sm6
              obtain ⟨e0, he0⟩ : ∃ e, es[0]? = some e := ⟨es[0]'(by omega), List.getElem?_eq_getElem _⟩
              obtain ⟨v0, hv0, x0⟩ := hrow6.get he0
              have hok0 := hok e0 (List.mem_of_getElem? he0)
              have hes : es = [e0] := by
                match es, hel, he0 with
                | [e], _, h => rw [Option.some.inj h]
              refine ⟨.ref R, rfl, R, vs, 0, v0, rfl, rfl, SqL.of (sm6 _ _ hR), at_of (j := 0) rfl hv0, (by show 4 ≤ sizeLine; decide), fun p np => ?_⟩
              have sm7 : Same H6 (upd H6 p (.tup [.int 0, .int 0, .int 0, .int 0])) := same_new np
              have hs7 := same_sqt (sm6.trans sm7) hs1
              refine ⟨.ref sp, rfl, v0, .ref p, .ref sp, e0, many, [0, 0, 0, 0], ss, rfl, x0.same sm7, hok0.1, hok0.2, ⟨p, rfl, SqT.of upd_same, rfl, fun x hx => ?_⟩, hS5.imp fun _ _ q => same_sqt (sm6.trans sm7) q, .int (due : Int), rfl, .ref sp, rfl, sp, ss, rfl, hs7, _, _, rfl, rfl, .inl ⟨by omega, by omega⟩, rfl, ?_⟩
              · simp only [List.mem_cons, List.not_mem_nil, or_false, or_self] at hx
                omega
              · have fin : wo [0, 0, 0, 0] ss e0 = (due : Int) * ss.sum := by
                  have h1 := count_sum [0, 0, 0, 0] ss j hs4 fs
                  rw [hdu, ← hsum, hes] at h1
                  rw [← h1]
                  show _ = wo [0, 0, 0, 0] ss e0 + 0
                  omega
                rw [decide_eq_true (show V.int _ = V.int _ by rw [fin])]
                refine q _ ((b3.trans (But.of (sm5.trans (sm6.trans sm7))))) ?_
                obtain ⟨g, sd, mm, e, z1, z2, z3, z4⟩ := hh3
                exact ⟨g, sd, mm, sm7 _ _ (sm6 _ _ (sm5 _ _ e)), z1, z2, z3, by omega⟩
end
end NG

namespace NG
open PySem PySem.Spec PyProof.Rows L2
section
variable {P : Program} {w : World} {K : PySem.W.Frag} {mg : Str → Option Value} {base : Heap}
def spLaw (K : PySem.W.Frag) : Sp := fun vs H Q _ => ∃ (a : Addr) (ns : List Int), vs = [.ref a] ∧ SqL K H a (ns.map V.int) ∧ ns.length ≤ 63 ∧ ∀ H', Q (.bl true) H'
theorem ok_law {f : Addr} {fd : FuncData} (F : Fun K "law" "law" s_law f fd) (B : Bl mg) (c_L_hand : Cal P w K mg base 1 "_law_hand" (spHand K)) (c_L_take : Cal P w K mg base 1 "_law_take" spTake) (c_L_asked : Cal P w K mg base 4 "_law_asked" (spAsked K)) (c_L_one_right : Cal P w K mg base 8 "_law_one_right" (spOne K)) (c_L_count_right : Cal P w K mg base 8 "_law_count_right" (spCount K)) : FnOk P w K mg base CX0 9 f fd ["_law_script"] (spLaw K) := by
  refine F.ok sc_law (fun vs H Q E h => ?_) (fun cdv A outer s H vs Q E hr h => ?_)
  · obtain ⟨_, _, rfl, _⟩ := h
    rfl
  · obtain ⟨sc, ns, rfl, hS, hl, q⟩ := h
    refine ⟨_, (pss_cons (ps_for PassesOwn.never rfl (pi_range1 rfl B.range (pa_cons (pe_op op_add pe_int (pe_callB (call_min2 rfl) (by rfl) B.min (by decide +kernel) (pa_cons pe_int (pa_cons (pe_callB call_len_seq (by rfl) B.len PySem.boot_len (pa_cons (pv 0) pa_nil)) pa_nil)))) pa_nil)) (pg_name (i := 1) sc_law.nd rfl (.inl rfl)) (pss_cons (ps_set (i := 2) sc_law.nd rfl (.inl rfl) (pe_c c_L_hand hr (by omega) (by rfl) (pa_cons (pv 0) (pa_cons (pv 1) pa_nil)))) (pss_cons (ps_set (i := 3) sc_law.nd rfl (.inl rfl) (pe_op op_add pe_int (pe_c c_L_take hr (by omega) (by rfl) (pa_cons (pv 2) (pa_cons pe_int pa_nil))))) (pss_one (ps_for PassesOwn.never rfl (pi_range1 rfl B.range (pa_cons pe_int pa_nil)) (pg_name (i := 4) sc_law.nd rfl (.inl rfl)) (pss_cons (ps_set (i := 5) sc_law.nd rfl (.inl rfl) (pe_c c_L_asked hr (by omega) (by rfl) (pa_cons (pv 2) (pa_cons (pv 3) pa_nil)))) (pss_one (ps_if (PW.pt (pw_or (pt_not (pt_val (pe_c c_L_one_right hr (by omega) (by rfl) (pa_cons (pv 2) (pa_cons (pv 3) (pa_cons (pv 5) pa_nil)))))) (pw_or1 (pt_not (pt_val (pe_c c_L_count_right hr (by omega) (by rfl) (pa_cons (pv 2) (pa_cons (pv 3) (pa_cons (pv 5) pa_nil))))))))) (pss_one (ps_ret pe_bl)) pss_nil)))))))) (pss_one (ps_ret pe_bl))), ?_⟩
    refine ⟨.ref sc, rfl, sc, _, rfl, .inl hS, _, _, rfl, _, _, rfl, rfl, _, rfl, ?_⟩
    have hb : ∀ z : Int, (if z < 3 then z else 3) ≤ 3 := fun z => by split <;> omega
    have hb0 : ∀ z : Int, 0 ≤ z → 0 ≤ (if z < 3 then z else 3) := fun z hz => by split <;> omega
    have h3 := hb (((ns.map V.int).length : Nat) : Int)
    have h4 := hb0 (((ns.map V.int).length : Nat) : Int) (by omega)
    refine ⟨by omega, by omega, ?_⟩
    refine for_range (fun i σ H' => ∃ y1 y2 y3 y4 y5, σ = [some (.ref sc), y1, y2, y3, y4, y5] ∧ SqL K H' sc (ns.map V.int)) ⟨none, none, none, none, none, rfl, hS⟩ ?_ ?_
    · rintro i σ H1 hi ⟨y1, y2, y3, y4, y5, rfl, hS1⟩
      have hi4 : i < 4 := by omega
      refine ⟨.ref sc, rfl, .int (0 + (i : Int)), rfl, sc, _, ns, rfl, by omega, by omega, hS1, fun p g sd np g0 sd0 => ?_⟩
      have hh1 : HandAt (upd H1 p (.lst [.int g, .int sd, .int 0])) p 0 := ⟨g, sd, 0, upd_same, g0, sd0, by decide, by decide⟩
      have b1 : But p H1 (upd H1 p (.lst [.int g, .int sd, .int 0])) := But.put
      refine ⟨.ref p, rfl, p, 2, 0, rfl, by decide, by decide, hh1, by decide, fun H2 r b2 hh2 r0 r1 => ⟨_, _, rfl, rfl, ?_⟩⟩
      obtain ⟨r, rfl⟩ : ∃ r' : Nat, r = (r' : Int) := ⟨r.toNat, by omega⟩
      have hr2 : r < 2 := by omega
      refine ⟨5, rfl, by decide, by decide, ?_⟩
      refine for_range (n := (5 : Int).toNat) (fun t σ H' => ∃ y4 y5, σ = [some (.ref sc), some (.int (0 + (i : Int))), some (.ref p), some (.int ((2 + r : Nat) : Int)), y4, y5] ∧ But p H1 H' ∧ HandAt H' p (1 + 175 * t)) ⟨y4, y5, rfl, b1.trans b2, hh2⟩ ?_ ?_
      · rintro t σ H3 ht ⟨z4, z5, rfl, b3, hh3⟩
        have ht5 : t < 5 := ht
        refine ⟨.ref p, rfl, _, rfl, p, 2 + r, _, rfl, by omega, by omega, hh3, by omega, fun H4 v ms b4 hh4 hv => ?_⟩
        refine ⟨.ref p, rfl, _, rfl, v, rfl, p, 2 + r, _, v, ms, rfl, by omega, by omega, hh4, by omega, hv, fun H5 b5 hh5 => ⟨true, rfl, iteFF rfl ?_⟩⟩
        refine ⟨.ref p, rfl, _, rfl, v, rfl, p, 2 + r, _, v, ms, rfl, by omega, by omega, hh5, by omega, hv.imp fun _ _ q => b5.sq hh4 q, fun H6 b6 hh6 => ⟨true, rfl, iteFF rfl ?_⟩⟩
        exact ⟨_, _, rfl, ((b3.trans b4).trans b5).trans b6, hh6.le (by omega)⟩
      · rintro σ H3 ⟨z4, z5, rfl, b3, hh3⟩
        exact ⟨_, _, _, _, _, rfl, (b3.same np).seq hS1⟩
    · rintro σ H1 ⟨y1, y2, y3, y4, y5, rfl, hS1⟩
      exact q _
end
end NG

namespace NG
open PySem PySem.Spec PyProof.Rows L2
theorem all_mk {l : PySem.W.OpenLaw} {w : World} {K : PySem.W.Frag} {h : Heap} {mg : Str → Option Value} {fa f_mills f_led_part f_side_part f_join_worths f_worth f_L_hand f_L_take f_L_of f_L_figure f_L_leaf f_L_expression f_L_lowest f_L_shares f_L_registers f_L_asked f_L_one_right f_L_count_right f_law : Addr} (X : K.In h) (G : h.Ns mainGlobals mg) (hfa : mg "law" = some (.ref fa))
    {od_mills an_mills od_led_part an_led_part od_side_part an_side_part od_join_worths an_join_worths od_worth an_worth od_L_hand an_L_hand od_L_take an_L_take od_L_of an_L_of od_L_figure an_L_figure od_L_leaf an_L_leaf od_L_expression an_L_expression od_L_lowest an_L_lowest od_L_shares an_L_shares od_L_registers an_L_registers od_L_asked an_L_asked od_L_one_right an_L_one_right od_L_count_right an_L_count_right od_law an_law : Option Addr} {sl_mills sl_led_part sl_side_part sl_join_worths sl_worth sl_L_hand sl_L_take sl_L_of sl_L_figure sl_L_leaf sl_L_expression sl_L_lowest sl_L_shares sl_L_registers sl_L_asked sl_L_one_right sl_L_count_right sl_law : Array (Option Value)} {oc_mills kV_mills dc_mills pm_mills cd_mills ct_mills oc_led_part kV_led_part dc_led_part pm_led_part cd_led_part ct_led_part oc_side_part kV_side_part dc_side_part pm_side_part cd_side_part ct_side_part oc_join_worths kV_join_worths dc_join_worths pm_join_worths cd_join_worths ct_join_worths oc_worth kV_worth dc_worth pm_worth cd_worth ct_worth oc_L_hand kV_L_hand dc_L_hand pm_L_hand cd_L_hand ct_L_hand oc_L_take kV_L_take dc_L_take pm_L_take cd_L_take ct_L_take oc_L_of kV_L_of dc_L_of pm_L_of cd_L_of ct_L_of oc_L_figure kV_L_figure dc_L_figure pm_L_figure cd_L_figure ct_L_figure oc_L_leaf kV_L_leaf dc_L_leaf pm_L_leaf cd_L_leaf ct_L_leaf oc_L_expression kV_L_expression dc_L_expression pm_L_expression cd_L_expression ct_L_expression oc_L_lowest kV_L_lowest dc_L_lowest pm_L_lowest cd_L_lowest ct_L_lowest oc_L_shares kV_L_shares dc_L_shares pm_L_shares cd_L_shares ct_L_shares oc_L_registers kV_L_registers dc_L_registers pm_L_registers cd_L_registers ct_L_registers oc_L_asked kV_L_asked dc_L_asked pm_L_asked cd_L_asked ct_L_asked oc_L_one_right kV_L_one_right dc_L_one_right pm_L_one_right cd_L_one_right ct_L_one_right oc_L_count_right kV_L_count_right dc_L_count_right pm_L_count_right cd_L_count_right ct_L_count_right oc_law kV_law dc_law pm_law cd_law ct_law : Value}
    (a_mills : PySem.W.nsIn K mainGlobals "mills" = some (some (.ref f_mills))) (l_mills : K.lookup f_mills = some ⟨oc_mills, od_mills, .func (PySem.W.fnOf "mills" "mills" (defArgs s_mills) (defBody s_mills) (defScope s_mills) .none kV_mills dc_mills pm_mills an_mills cd_mills ct_mills), sl_mills⟩) (c_mills : PySem.W.codeIn K cd_mills "mills" = true) (k_mills : PySem.W.keepIn K (.ref f_mills) = true)
    (a_led_part : PySem.W.nsIn K mainGlobals "led_part" = some (some (.ref f_led_part))) (l_led_part : K.lookup f_led_part = some ⟨oc_led_part, od_led_part, .func (PySem.W.fnOf "led_part" "led_part" (defArgs s_led_part) (defBody s_led_part) (defScope s_led_part) .none kV_led_part dc_led_part pm_led_part an_led_part cd_led_part ct_led_part), sl_led_part⟩) (c_led_part : PySem.W.codeIn K cd_led_part "led_part" = true) (k_led_part : PySem.W.keepIn K (.ref f_led_part) = true)
    (a_side_part : PySem.W.nsIn K mainGlobals "side_part" = some (some (.ref f_side_part))) (l_side_part : K.lookup f_side_part = some ⟨oc_side_part, od_side_part, .func (PySem.W.fnOf "side_part" "side_part" (defArgs s_side_part) (defBody s_side_part) (defScope s_side_part) .none kV_side_part dc_side_part pm_side_part an_side_part cd_side_part ct_side_part), sl_side_part⟩) (c_side_part : PySem.W.codeIn K cd_side_part "side_part" = true) (k_side_part : PySem.W.keepIn K (.ref f_side_part) = true)
    (a_join_worths : PySem.W.nsIn K mainGlobals "join_worths" = some (some (.ref f_join_worths))) (l_join_worths : K.lookup f_join_worths = some ⟨oc_join_worths, od_join_worths, .func (PySem.W.fnOf "join_worths" "join_worths" (defArgs s_join_worths) (defBody s_join_worths) (defScope s_join_worths) .none kV_join_worths dc_join_worths pm_join_worths an_join_worths cd_join_worths ct_join_worths), sl_join_worths⟩) (c_join_worths : PySem.W.codeIn K cd_join_worths "join_worths" = true) (k_join_worths : PySem.W.keepIn K (.ref f_join_worths) = true)
    (a_worth : PySem.W.nsIn K mainGlobals "worth" = some (some (.ref f_worth))) (l_worth : K.lookup f_worth = some ⟨oc_worth, od_worth, .func (PySem.W.fnOf "worth" "worth" (defArgs s_worth) (defBody s_worth) (defScope s_worth) .none kV_worth dc_worth pm_worth an_worth cd_worth ct_worth), sl_worth⟩) (c_worth : PySem.W.codeIn K cd_worth "worth" = true) (k_worth : PySem.W.keepIn K (.ref f_worth) = true)
    (a_L_hand : PySem.W.nsIn K mainGlobals "_law_hand" = some (some (.ref f_L_hand))) (l_L_hand : K.lookup f_L_hand = some ⟨oc_L_hand, od_L_hand, .func (PySem.W.fnOf "_law_hand" "_law_hand" (defArgs s_L_hand) (defBody s_L_hand) (defScope s_L_hand) .none kV_L_hand dc_L_hand pm_L_hand an_L_hand cd_L_hand ct_L_hand), sl_L_hand⟩) (c_L_hand : PySem.W.codeIn K cd_L_hand "_law_hand" = true) (k_L_hand : PySem.W.keepIn K (.ref f_L_hand) = true)
    (a_L_take : PySem.W.nsIn K mainGlobals "_law_take" = some (some (.ref f_L_take))) (l_L_take : K.lookup f_L_take = some ⟨oc_L_take, od_L_take, .func (PySem.W.fnOf "_law_take" "_law_take" (defArgs s_L_take) (defBody s_L_take) (defScope s_L_take) .none kV_L_take dc_L_take pm_L_take an_L_take cd_L_take ct_L_take), sl_L_take⟩) (c_L_take : PySem.W.codeIn K cd_L_take "_law_take" = true) (k_L_take : PySem.W.keepIn K (.ref f_L_take) = true)
    (a_L_of : PySem.W.nsIn K mainGlobals "_law_of" = some (some (.ref f_L_of))) (l_L_of : K.lookup f_L_of = some ⟨oc_L_of, od_L_of, .func (PySem.W.fnOf "_law_of" "_law_of" (defArgs s_L_of) (defBody s_L_of) (defScope s_L_of) .none kV_L_of dc_L_of pm_L_of an_L_of cd_L_of ct_L_of), sl_L_of⟩) (c_L_of : PySem.W.codeIn K cd_L_of "_law_of" = true) (k_L_of : PySem.W.keepIn K (.ref f_L_of) = true)
    (a_L_figure : PySem.W.nsIn K mainGlobals "_law_figure" = some (some (.ref f_L_figure))) (l_L_figure : K.lookup f_L_figure = some ⟨oc_L_figure, od_L_figure, .func (PySem.W.fnOf "_law_figure" "_law_figure" (defArgs s_L_figure) (defBody s_L_figure) (defScope s_L_figure) .none kV_L_figure dc_L_figure pm_L_figure an_L_figure cd_L_figure ct_L_figure), sl_L_figure⟩) (c_L_figure : PySem.W.codeIn K cd_L_figure "_law_figure" = true) (k_L_figure : PySem.W.keepIn K (.ref f_L_figure) = true)
    (a_L_leaf : PySem.W.nsIn K mainGlobals "_law_leaf" = some (some (.ref f_L_leaf))) (l_L_leaf : K.lookup f_L_leaf = some ⟨oc_L_leaf, od_L_leaf, .func (PySem.W.fnOf "_law_leaf" "_law_leaf" (defArgs s_L_leaf) (defBody s_L_leaf) (defScope s_L_leaf) .none kV_L_leaf dc_L_leaf pm_L_leaf an_L_leaf cd_L_leaf ct_L_leaf), sl_L_leaf⟩) (c_L_leaf : PySem.W.codeIn K cd_L_leaf "_law_leaf" = true) (k_L_leaf : PySem.W.keepIn K (.ref f_L_leaf) = true)
    (a_L_expression : PySem.W.nsIn K mainGlobals "_law_expression" = some (some (.ref f_L_expression))) (l_L_expression : K.lookup f_L_expression = some ⟨oc_L_expression, od_L_expression, .func (PySem.W.fnOf "_law_expression" "_law_expression" (defArgs s_L_expression) (defBody s_L_expression) (defScope s_L_expression) .none kV_L_expression dc_L_expression pm_L_expression an_L_expression cd_L_expression ct_L_expression), sl_L_expression⟩) (c_L_expression : PySem.W.codeIn K cd_L_expression "_law_expression" = true) (k_L_expression : PySem.W.keepIn K (.ref f_L_expression) = true)
    (a_L_lowest : PySem.W.nsIn K mainGlobals "_law_lowest" = some (some (.ref f_L_lowest))) (l_L_lowest : K.lookup f_L_lowest = some ⟨oc_L_lowest, od_L_lowest, .func (PySem.W.fnOf "_law_lowest" "_law_lowest" (defArgs s_L_lowest) (defBody s_L_lowest) (defScope s_L_lowest) .none kV_L_lowest dc_L_lowest pm_L_lowest an_L_lowest cd_L_lowest ct_L_lowest), sl_L_lowest⟩) (c_L_lowest : PySem.W.codeIn K cd_L_lowest "_law_lowest" = true) (k_L_lowest : PySem.W.keepIn K (.ref f_L_lowest) = true)
    (a_L_shares : PySem.W.nsIn K mainGlobals "_law_shares" = some (some (.ref f_L_shares))) (l_L_shares : K.lookup f_L_shares = some ⟨oc_L_shares, od_L_shares, .func (PySem.W.fnOf "_law_shares" "_law_shares" (defArgs s_L_shares) (defBody s_L_shares) (defScope s_L_shares) .none kV_L_shares dc_L_shares pm_L_shares an_L_shares cd_L_shares ct_L_shares), sl_L_shares⟩) (c_L_shares : PySem.W.codeIn K cd_L_shares "_law_shares" = true) (k_L_shares : PySem.W.keepIn K (.ref f_L_shares) = true)
    (a_L_registers : PySem.W.nsIn K mainGlobals "_law_registers" = some (some (.ref f_L_registers))) (l_L_registers : K.lookup f_L_registers = some ⟨oc_L_registers, od_L_registers, .func (PySem.W.fnOf "_law_registers" "_law_registers" (defArgs s_L_registers) (defBody s_L_registers) (defScope s_L_registers) .none kV_L_registers dc_L_registers pm_L_registers an_L_registers cd_L_registers ct_L_registers), sl_L_registers⟩) (c_L_registers : PySem.W.codeIn K cd_L_registers "_law_registers" = true) (k_L_registers : PySem.W.keepIn K (.ref f_L_registers) = true)
    (a_L_asked : PySem.W.nsIn K mainGlobals "_law_asked" = some (some (.ref f_L_asked))) (l_L_asked : K.lookup f_L_asked = some ⟨oc_L_asked, od_L_asked, .func (PySem.W.fnOf "_law_asked" "_law_asked" (defArgs s_L_asked) (defBody s_L_asked) (defScope s_L_asked) .none kV_L_asked dc_L_asked pm_L_asked an_L_asked cd_L_asked ct_L_asked), sl_L_asked⟩) (c_L_asked : PySem.W.codeIn K cd_L_asked "_law_asked" = true) (k_L_asked : PySem.W.keepIn K (.ref f_L_asked) = true)
    (a_L_one_right : PySem.W.nsIn K mainGlobals "_law_one_right" = some (some (.ref f_L_one_right))) (l_L_one_right : K.lookup f_L_one_right = some ⟨oc_L_one_right, od_L_one_right, .func (PySem.W.fnOf "_law_one_right" "_law_one_right" (defArgs s_L_one_right) (defBody s_L_one_right) (defScope s_L_one_right) .none kV_L_one_right dc_L_one_right pm_L_one_right an_L_one_right cd_L_one_right ct_L_one_right), sl_L_one_right⟩) (c_L_one_right : PySem.W.codeIn K cd_L_one_right "_law_one_right" = true) (k_L_one_right : PySem.W.keepIn K (.ref f_L_one_right) = true)
    (a_L_count_right : PySem.W.nsIn K mainGlobals "_law_count_right" = some (some (.ref f_L_count_right))) (l_L_count_right : K.lookup f_L_count_right = some ⟨oc_L_count_right, od_L_count_right, .func (PySem.W.fnOf "_law_count_right" "_law_count_right" (defArgs s_L_count_right) (defBody s_L_count_right) (defScope s_L_count_right) .none kV_L_count_right dc_L_count_right pm_L_count_right an_L_count_right cd_L_count_right ct_L_count_right), sl_L_count_right⟩) (c_L_count_right : PySem.W.codeIn K cd_L_count_right "_law_count_right" = true) (k_L_count_right : PySem.W.keepIn K (.ref f_L_count_right) = true)
    (a_law : PySem.W.nsIn K mainGlobals "law" = some (some (.ref f_law))) (l_law : K.lookup f_law = some ⟨oc_law, od_law, .func (PySem.W.fnOf "law" "law" (defArgs s_law) (defBody s_law) (defScope s_law) .none kV_law dc_law pm_law an_law cd_law ct_law), sl_law⟩) (c_law : PySem.W.codeIn K cd_law "law" = true) (k_law : PySem.W.keepIn K (.ref f_law) = true)
    (z_len : PySem.W.nsIn K mainGlobals "len" = some none)
    (z_sum : PySem.W.nsIn K mainGlobals "sum" = some none)
    (z_max : PySem.W.nsIn K mainGlobals "max" = some none)
    (z_min : PySem.W.nsIn K mainGlobals "min" = some none)
    (z_abs : PySem.W.nsIn K mainGlobals "abs" = some none)
    (z_int : PySem.W.nsIn K mainGlobals "int" = some none)
    (z_tuple : PySem.W.nsIn K mainGlobals "tuple" = some none)
    (z_range : PySem.W.nsIn K mainGlobals "range" = some none)
    : ∃ fd : FuncData, (∀ (s : Shared) (v : Value), BindsTo s fd ⟨[v], []⟩ [("_law_script", v)]) ∧ ∀ base : Heap, K.In base → base.Ns mainGlobals mg → FnOk l.prog w K mg base CX0 9 fa fd ["_law_script"] (spLaw K) := by
  have e := hfa.symm.trans (PySem.W.mg_of X G a_law)
  cases e
  have F_mills := fun_mk (st := s_mills) l_mills c_mills k_mills
  have g_mills := PySem.W.mg_of X G a_mills
  have b_mills := F_mills.binds (ps := ["shares", "sign"]) fun _ _ _ _ _ _ us hl => match us, hl with | [_, _], _ => rfl
  have F_led_part := fun_mk (st := s_led_part) l_led_part c_led_part k_led_part
  have g_led_part := PySem.W.mg_of X G a_led_part
  have b_led_part := F_led_part.binds (ps := ["expression", "registers"]) fun _ _ _ _ _ _ us hl => match us, hl with | [_, _], _ => rfl
  have F_side_part := fun_mk (st := s_side_part) l_side_part c_side_part k_side_part
  have g_side_part := PySem.W.mg_of X G a_side_part
  have b_side_part := F_side_part.binds (ps := ["expression", "shares"]) fun _ _ _ _ _ _ us hl => match us, hl with | [_, _], _ => rfl
  have F_join_worths := fun_mk (st := s_join_worths) l_join_worths c_join_worths k_join_worths
  have g_join_worths := PySem.W.mg_of X G a_join_worths
  have b_join_worths := F_join_worths.binds (ps := ["word", "first", "second"]) fun _ _ _ _ _ _ us hl => match us, hl with | [_, _, _], _ => rfl
  have F_worth := fun_mk (st := s_worth) l_worth c_worth k_worth
  have g_worth := PySem.W.mg_of X G a_worth
  have b_worth := F_worth.binds (ps := ["expression", "registers", "shares"]) fun _ _ _ _ _ _ us hl => match us, hl with | [_, _, _], _ => rfl
  have F_L_hand := fun_mk (st := s_L_hand) l_L_hand c_L_hand k_L_hand
  have g_L_hand := PySem.W.mg_of X G a_L_hand
  have b_L_hand := F_L_hand.binds (ps := ["_law_script", "_law_k"]) fun _ _ _ _ _ _ us hl => match us, hl with | [_, _], _ => rfl
  have F_L_take := fun_mk (st := s_L_take) l_L_take c_L_take k_L_take
  have g_L_take := PySem.W.mg_of X G a_L_take
  have b_L_take := F_L_take.binds (ps := ["_law_hand_here", "_law_many"]) fun _ _ _ _ _ _ us hl => match us, hl with | [_, _], _ => rfl
  have F_L_of := fun_mk (st := s_L_of) l_L_of c_L_of k_L_of
  have g_L_of := PySem.W.mg_of X G a_L_of
  have b_L_of := F_L_of.binds (ps := ["_law_hand_here", "_law_some"]) fun _ _ _ _ _ _ us hl => match us, hl with | [_, _], _ => rfl
  have F_L_figure := fun_mk (st := s_L_figure) l_L_figure c_L_figure k_L_figure
  have g_L_figure := PySem.W.mg_of X G a_L_figure
  have b_L_figure := F_L_figure.binds (ps := ["_law_hand_here"]) fun _ _ _ _ _ _ us hl => match us, hl with | [_], _ => rfl
  have F_L_leaf := fun_mk (st := s_L_leaf) l_L_leaf c_L_leaf k_L_leaf
  have g_L_leaf := PySem.W.mg_of X G a_L_leaf
  have b_L_leaf := F_L_leaf.binds (ps := ["_law_hand_here", "_law_many"]) fun _ _ _ _ _ _ us hl => match us, hl with | [_, _], _ => rfl
  have F_L_expression := fun_mk (st := s_L_expression) l_L_expression c_L_expression k_L_expression
  have g_L_expression := PySem.W.mg_of X G a_L_expression
  have b_L_expression := F_L_expression.binds (ps := ["_law_hand_here", "_law_many", "_law_level", "_law_jumps"]) fun _ _ _ _ _ _ us hl => match us, hl with | [_, _, _, _], _ => rfl
  have F_L_lowest := fun_mk (st := s_L_lowest) l_L_lowest c_L_lowest k_L_lowest
  have g_L_lowest := PySem.W.mg_of X G a_L_lowest
  have b_L_lowest := F_L_lowest.binds (ps := ["_law_row"]) fun _ _ _ _ _ _ us hl => match us, hl with | [_], _ => rfl
  have F_L_shares := fun_mk (st := s_L_shares) l_L_shares c_L_shares k_L_shares
  have g_L_shares := PySem.W.mg_of X G a_L_shares
  have b_L_shares := F_L_shares.binds (ps := ["_law_hand_here", "_law_many"]) fun _ _ _ _ _ _ us hl => match us, hl with | [_, _], _ => rfl
  have F_L_registers := fun_mk (st := s_L_registers) l_L_registers c_L_registers k_L_registers
  have g_L_registers := PySem.W.mg_of X G a_L_registers
  have b_L_registers := F_L_registers.binds (ps := ["_law_hand_here"]) fun _ _ _ _ _ _ us hl => match us, hl with | [_], _ => rfl
  have F_L_asked := fun_mk (st := s_L_asked) l_L_asked c_L_asked k_L_asked
  have g_L_asked := PySem.W.mg_of X G a_L_asked
  have b_L_asked := F_L_asked.binds (ps := ["_law_hand_here", "_law_many"]) fun _ _ _ _ _ _ us hl => match us, hl with | [_, _], _ => rfl
  have F_L_one_right := fun_mk (st := s_L_one_right) l_L_one_right c_L_one_right k_L_one_right
  have g_L_one_right := PySem.W.mg_of X G a_L_one_right
  have b_L_one_right := F_L_one_right.binds (ps := ["_law_hand_here", "_law_many", "_law_shares_here"]) fun _ _ _ _ _ _ us hl => match us, hl with | [_, _, _], _ => rfl
  have F_L_count_right := fun_mk (st := s_L_count_right) l_L_count_right c_L_count_right k_L_count_right
  have g_L_count_right := PySem.W.mg_of X G a_L_count_right
  have b_L_count_right := F_L_count_right.binds (ps := ["_law_hand_here", "_law_many", "_law_shares_here"]) fun _ _ _ _ _ _ us hl => match us, hl with | [_, _, _], _ => rfl
  have F_law := fun_mk (st := s_law) l_law c_law k_law
  have g_law := PySem.W.mg_of X G a_law
  have B : Bl mg := ⟨PySem.W.mg_none_of X G z_len, PySem.W.mg_none_of X G z_sum, PySem.W.mg_none_of X G z_max, PySem.W.mg_none_of X G z_min, PySem.W.mg_none_of X G z_abs, PySem.W.mg_none_of X G z_int, PySem.W.mg_none_of X G z_tuple, PySem.W.mg_none_of X G z_range⟩
  refine ⟨PySem.W.fnOf "law" "law" (defArgs s_law) (defBody s_law) (defScope s_law) .none kV_law dc_law pm_law an_law cd_law ct_law, fun s v => .of_eq rfl, fun base _ _ => ?_⟩
  have c_hand := ok_hand (P := l.prog) (w := w) (base := base) F_L_hand g_L_hand b_L_hand B
  have c_take := ok_take (P := l.prog) (w := w) (base := base) F_L_take g_L_take b_L_take
  have c_of := ok_of F_L_of g_L_of b_L_of B c_take
  have c_figure := ok_figure F_L_figure g_L_figure b_L_figure B c_take c_of
  have c_leaf := ok_leaf F_L_leaf g_L_leaf b_L_leaf B c_take c_figure
  have c_expr := ok_expr F_L_expression g_L_expression b_L_expression B c_take c_of c_figure c_leaf 3
  have c_low := ok_low (P := l.prog) (w := w) (base := base) F_L_lowest g_L_lowest b_L_lowest B
  have c_shares := ok_shares F_L_shares g_L_shares b_L_shares B c_take c_of c_low
  have c_regs := ok_regs F_L_registers g_L_registers b_L_registers B c_figure
  have c_asked := ok_asked F_L_asked g_L_asked b_L_asked B c_take c_low c_shares
  have c_mills := ok_mills (P := l.prog) (w := w) (base := base) F_mills g_mills b_mills B
  have c_led := ok_led (P := l.prog) (w := w) (base := base) F_led_part g_led_part b_led_part B
  have c_side := ok_side (P := l.prog) (w := w) (base := base) F_side_part g_side_part b_side_part B
  have c_join := ok_joinW (P := l.prog) (w := w) (base := base) F_join_worths g_join_worths b_join_worths B
  have c_worth := ok_worth F_worth g_worth b_worth B c_led c_side c_join 5
  have c_one := ok_one F_L_one_right g_L_one_right b_L_one_right B c_take c_expr c_regs c_worth c_mills
  have c_count := ok_count F_L_count_right g_L_count_right b_L_count_right B c_take c_worth c_mills
  exact ok_law F_law B c_hand c_take c_asked c_one c_count
end NG
open PySem PySem.W PyProof.Rows
set_option maxHeartbeats 0 in
theorem PySem.Challenge.cw_nonegrowsrich_k11_whole_where_by_thousan_holds : PySem.Challenge.rw_nonegrowsrich_k11_whole_where_by_thousan.Holds := by
  w_on; o_law; k_head; (case hw => w_witness2)
  k_fill
  refine L2.walk_of (l := PySem.Challenge.rw_nonegrowsrich_k11_whole_where_by_thousan) (n := 63) (k := 9) (x := "_law_script") (CX := fun _ => L2.CX0) (sp := fun w => NG.spLaw _) rfl (by decide) rfl ⟨rfl, by decide, by decide⟩ (fun w h Y => PySem.W.kIn_of Y) ?F (fun _ _ a ns hl _ hS => ⟨a, ns, rfl, hS, hl, fun _ => rfl⟩) (fun _ _ _ _ _ h => h)
  case F =>
    intro w mg fa h KX G hmg
    refine' NG.all_mk KX G hmg ?a_mills ?l_mills ?c_mills ?k_mills ?a_led_part ?l_led_part ?c_led_part ?k_led_part ?a_side_part ?l_side_part ?c_side_part ?k_side_part ?a_join_worths ?l_join_worths ?c_join_worths ?k_join_worths ?a_worth ?l_worth ?c_worth ?k_worth ?a_L_hand ?l_L_hand ?c_L_hand ?k_L_hand ?a_L_take ?l_L_take ?c_L_take ?k_L_take ?a_L_of ?l_L_of ?c_L_of ?k_L_of ?a_L_figure ?l_L_figure ?c_L_figure ?k_L_figure ?a_L_leaf ?l_L_leaf ?c_L_leaf ?k_L_leaf ?a_L_expression ?l_L_expression ?c_L_expression ?k_L_expression ?a_L_lowest ?l_L_lowest ?c_L_lowest ?k_L_lowest ?a_L_shares ?l_L_shares ?c_L_shares ?k_L_shares ?a_L_registers ?l_L_registers ?c_L_registers ?k_L_registers ?a_L_asked ?l_L_asked ?c_L_asked ?k_L_asked ?a_L_one_right ?l_L_one_right ?c_L_one_right ?k_L_one_right ?a_L_count_right ?l_L_count_right ?c_L_count_right ?k_L_count_right ?a_law ?l_law ?c_law ?k_law ?z_len ?z_sum ?z_max ?z_min ?z_abs ?z_int ?z_tuple ?z_range
    (case a_mills => k_is); (case l_mills => k_is); (case c_mills => k_is); (case k_mills => k_is); (case a_led_part => k_is); (case l_led_part => k_is); (case c_led_part => k_is); (case k_led_part => k_is); (case a_side_part => k_is); (case l_side_part => k_is); (case c_side_part => k_is); (case k_side_part => k_is); (case a_join_worths => k_is); (case l_join_worths => k_is); (case c_join_worths => k_is); (case k_join_worths => k_is); (case a_worth => k_is); (case l_worth => k_is); (case c_worth => k_is); (case k_worth => k_is); (case a_L_hand => k_is); (case l_L_hand => k_is); (case c_L_hand => k_is); (case k_L_hand => k_is); (case a_L_take => k_is); (case l_L_take => k_is); (case c_L_take => k_is); (case k_L_take => k_is); (case a_L_of => k_is); (case l_L_of => k_is); (case c_L_of => k_is); (case k_L_of => k_is); (case a_L_figure => k_is); (case l_L_figure => k_is); (case c_L_figure => k_is); (case k_L_figure => k_is); (case a_L_leaf => k_is); (case l_L_leaf => k_is); (case c_L_leaf => k_is); (case k_L_leaf => k_is); (case a_L_expression => k_is); (case l_L_expression => k_is); (case c_L_expression => k_is); (case k_L_expression => k_is); (case a_L_lowest => k_is); (case l_L_lowest => k_is); (case c_L_lowest => k_is); (case k_L_lowest => k_is); (case a_L_shares => k_is); (case l_L_shares => k_is); (case c_L_shares => k_is); (case k_L_shares => k_is); (case a_L_registers => k_is); (case l_L_registers => k_is); (case c_L_registers => k_is); (case k_L_registers => k_is); (case a_L_asked => k_is); (case l_L_asked => k_is); (case c_L_asked => k_is); (case k_L_asked => k_is); (case a_L_one_right => k_is); (case l_L_one_right => k_is); (case c_L_one_right => k_is); (case k_L_one_right => k_is); (case a_L_count_right => k_is); (case l_L_count_right => k_is); (case c_L_count_right => k_is); (case k_L_count_right => k_is); (case a_law => k_is); (case l_law => k_is); (case c_law => k_is); (case k_law => k_is); (case z_len => k_is); (case z_sum => k_is); (case z_max => k_is); (case z_min => k_is); (case z_abs => k_is); (case z_int => k_is); (case z_tuple => k_is); (case z_range => k_is)

