import PyProof.Rows.All
import Wide.All
import OpenK.AllK
import Wide.FinOn
import HandS.Base
import HandS.Call
import HandS.List
import HandS.Comp
import HandS.Ends
import HandS.Dict
import HandS.Iter
import HandS.Text
import HandS.Words
import HandS.WordsList
import HandS.WordsDict
import HandS.Conv
import HandS.Codes
import HandS.Wide
import HandS.Style
import KE.KTupSum
import PyProof.ReprRoads
import PyProof.ReprLen
import HandS.Walk
import HandS.More
import HandS.Zip
import HandS.IsInst
import HandS.NoneIn
import KE.KRevSl
import HandS.DeepEq
import HandS.TupAny
import HandS.TupMul
import KE.GoesMore
import KE.GoesEnum
import HandS.Sort
import PyProof.FactsAll.tuple_2
import HandS.RaiseMore
import HandS.TupLe
import KE.DataMinMax
import HandS.WideBits
import HandS.Flt
import HandS.Defaults
import PyProof.StrOps2
import PySem.Challenge.RW_nonegrowsrich_k20_doubters_at_their_boun
set_option Elab.async false
set_option linter.all false
set_option maxRecDepth 100000
set_option maxHeartbeats 4000000
namespace NG
open PySem PySem.Spec PyProof.Rows L2

/-! ### sum of a tuple -/
theorem cr_sumT {X : Cx} (hc : X.calm = true) : CallR X (.builtin "sum") (fun vs H Q => ∃ (a : Addr) (ns : List Int), vs = [V.ref a] ∧ SqT X.K H a (ns.map V.int) ∧ Q (.int ns.sum) H) := by
  intro pins s σ H vs us Q I r h
  obtain ⟨a, ns, rfl, hs, q⟩ := h
  obtain ⟨its, rv, hl, _⟩ := I.tuple hs
  rw [Vals.ref1 r]
  have hi := rv.ints
  obtain ⟨xs, e⟩ := hi.allInts.items
  have hn : numsOf (intItems xs).toList = ns := by rw [← e]; exact hi.numsOf
  rw [nums_intItems] at hn
  rw [e] at hl
  refine PySem.W.ktm_sumG (I.ok.hd hc) hl fun h' tk t' hk => ?_
  rw [preSum_eq, List.take_of_length_le (by simp), hn]
  exact ⟨.int _, H, I.kept hk, ⟨_, rfl⟩, q⟩

/-! ### rules whose reading names the written part, for a comprehension's block -/
theorem ixl {X : Cx} (K : PySem.W.Frag) (h : X.K = K := by rfl) : IxR X (rIxL K) := by
  subst h
  exact ix_list
theorem ixt {X : Cx} (K : PySem.W.Frag) (h : X.K = K := by rfl) : IxR X (rIxT K) := by
  subst h
  exact ix_tup
theorem lenK {X : Cx} (K : PySem.W.Frag) (h : X.K = K := by rfl) : CallR X (.builtin "len") (fun xs H Q => ∃ p ys, xs = [.ref p] ∧ (SqL K H p ys ∨ SqT K H p ys) ∧ Q (.int ys.length) H) := by
  subst h
  exact call_len_seq
theorem sumT {X : Cx} (K : PySem.W.Frag) (hc : X.calm = true) (h : X.K = K := by rfl) : CallR X (.builtin "sum") (fun vs H Q => ∃ (a : Addr) (ns : List Int), vs = [V.ref a] ∧ SqT K H a (ns.map V.int) ∧ Q (.int ns.sum) H) := by
  subst h
  exact cr_sumT hc
theorem sumL {X : Cx} (K : PySem.W.Frag) (hc : X.calm = true) (h : X.K = K := by rfl) : CallR X (.builtin "sum") (rSum K) := by
  subst h
  exact cr_sum hc

/-! ### short words -/
theorem iteFF {c : Bool} {A B : Prop} (hc : c = false) (h : B) : if c = true then A else B := by
  subst hc
  exact iteF h
theorem iteTT {c : Bool} {A B : Prop} (hc : c = true) (h : A) : if c = true then A else B := by
  subst hc
  exact iteT h
theorem iteD {p : Prop} [Decidable p] {A B : Prop} (h1 : p → A) (h2 : ¬ p → B) : if decide p = true then A else B := by
  by_cases h : p
  · rw [decide_eq_true h]
    exact iteT (h1 h)
  · rw [decide_eq_false h]
    exact iteF (h2 h)
theorem at_mem {xs : List V} {i : Int} (h0 : 0 ≤ i) (h1 : i < xs.length) : ∃ v, atI xs i = some v ∧ v ∈ xs := by
  have hj : i.toNat < xs.length := by omega
  refine ⟨xs[i.toNat], ?_, List.getElem_mem hj⟩
  exact at_of (j := i.toNat) (by omega) (List.getElem?_eq_getElem hj)
theorem at_int {ns : List Int} {i : Int} (h0 : 0 ≤ i) (h1 : i < ns.length) : atI (ns.map V.int) i = some (.int (ns.getD i.toNat 0)) := by
  have hj : i.toNat < ns.length := by omega
  refine at_of (j := i.toNat) (by omega) ?_
  rw [List.getElem?_map, List.getElem?_eq_getElem hj, List.getD_eq_getElem?_getD, List.getElem?_eq_getElem hj]
  rfl

/-- an expression, with a word behind it -/
def tCutE (t : TE) : TE := fun σ H Q => ∃ M : VK, t σ H M ∧ ∀ v H', M v H' → Q v H'
theorem pe_cut {X : Cx} {e : Expr} {t : TE} (h : PE X e t) : PE X e (tCutE t) :=
  ⟨fun pins s σ H Q I ⟨M, hm, hq⟩ => thn (h.run pins s σ H M I hm) fun u s1 ⟨x, H1, I1, r, q⟩ => ⟨x, H1, I1, r, hq _ _ q⟩⟩

/-! ### heaps: all but one object is as it was -/
def But (a : Addr) (H H' : Hp) : Prop := ∀ b o, b ≠ a → H b = some o → H' b = some o
theorem But.refl (a : Addr) (H : Hp) : But a H H := fun _ _ _ h => h
theorem But.trans {a : Addr} {H H1 H2 : Hp} (x : But a H H1) (y : But a H1 H2) : But a H H2 := fun b o n h => y b o n (x b o n h)
theorem But.of {a : Addr} {H H' : Hp} (x : Same H H') : But a H H' := fun b o _ h => x b o h
theorem But.new {a p : Addr} {H : Hp} {o : HO} (h : H p = none) : But a H (upd H p o) := fun b u _ e => by
  rw [upd_ne (ne_of_none e h)]
  exact e
theorem But.put {a : Addr} {H : Hp} {o : HO} : But a H (upd H a o) := fun b u n e => by
  rw [upd_ne n]
  exact e
theorem But.same {a : Addr} {H H' : Hp} (x : But a H H') (h : H a = none) : Same H H' := fun b o e => x b o (ne_of_none e h) e
theorem same_new {p : Addr} {H : Hp} {o : HO} (h : H p = none) : Same H (upd H p o) := fun b u e => by
  rw [upd_ne (ne_of_none e h)]
  exact e
theorem But.free {a b : Addr} {H H' : Hp} {o : HO} (x : But a H H') (h : H a = some o) (n : H' b = none) (n2 : H' a ≠ none) : H b = none := by
  cases q : H b with
  | none => rfl
  | some u =>
    by_cases e : b = a
    · subst e
      exact absurd n n2
    · rw [x b u e q] at n
      cases n
theorem But.sqt {a p : Addr} {H H' : Hp} {K : PySem.W.Frag} {l xs : List V} (x : But a H H') (h : H a = some (.lst l)) (q : SqT K H p xs) : SqT K H' p xs := by
  rcases q with (q | ⟨o, q⟩) | q
  · exact .inl (.inl (x _ _ (ne_of q h (by intro z; cases z)) q))
  · exact .inl (.inr ⟨o, x _ _ (ne_of q h (by intro z; cases z)) q⟩)
  · exact .inr q
theorem same_sqt {p : Addr} {H H' : Hp} {K : PySem.W.Frag} {xs : List V} (x : Same H H') (q : SqT K H p xs) : SqT K H' p xs := by
  rcases q with (q | ⟨o, q⟩) | q
  · exact .inl (.inl (x _ _ q))
  · exact .inl (.inr ⟨o, x _ _ q⟩)
  · exact .inr q

/-! ### the hand -/
def HandAt (H : Hp) (a : Addr) (n : Nat) : Prop := ∃ g s m : Int, H a = some (.lst [.int g, .int s, .int m]) ∧ 0 ≤ g ∧ 0 ≤ s ∧ 0 ≤ m ∧ m ≤ n
theorem HandAt.le {H : Hp} {a : Addr} {n k : Nat} (h : HandAt H a n) (l : n ≤ k) : HandAt H a k := by
  obtain ⟨g, s, m, e, h1, h2, h3, h4⟩ := h
  exact ⟨g, s, m, e, h1, h2, h3, by omega⟩
theorem HandAt.new {H : Hp} {a p : Addr} {n : Nat} {o : HO} (h : HandAt H a n) (hp : H p = none) : HandAt (upd H p o) a n := by
  obtain ⟨g, s, m, e, h1, h2, h3, h4⟩ := h
  exact ⟨g, s, m, by rw [upd_ne (ne_of_none e hp)]; exact e, h1, h2, h3, h4⟩
theorem HandAt.put {H : Hp} {a p : Addr} {n : Nat} {o : HO} (h : HandAt H a n) (hp : p ≠ a) : HandAt (upd H p o) a n := by
  obtain ⟨g, s, m, e, h1, h2, h3, h4⟩ := h
  exact ⟨g, s, m, by rw [upd_ne (Ne.symm hp)]; exact e, h1, h2, h3, h4⟩
theorem HandAt.ne {H : Hp} {a p : Addr} {n : Nat} (h : HandAt H a n) (hp : H p = none) : p ≠ a := by
  obtain ⟨g, s, m, e, _⟩ := h
  exact (ne_of_none e hp).symm
theorem HandAt.some {H : Hp} {a : Addr} {n : Nat} (h : HandAt H a n) : ∃ l, H a = some (.lst l) := by
  obtain ⟨g, s, m, e, _⟩ := h
  exact ⟨_, e⟩
theorem But.sq {a p : Addr} {H H' : Hp} {K : PySem.W.Frag} {n : Nat} {xs : List V} (x : But a H H') (h : HandAt H a n) (q : SqT K H p xs) : SqT K H' p xs := by
  obtain ⟨l, e⟩ := h.some
  exact x.sqt e q

structure Bl (mg : Str → Option Value) : Prop where
  len : mg "len" = none
  sum : mg "sum" = none
  max : mg "max" = none
  min : mg "min" = none
  abs : mg "abs" = none
  int : mg "int" = none
  tuple : mg "tuple" = none
  range : mg "range" = none
  sorted : mg "sorted" = none
  zip : mg "zip" = none
  isinstance : mg "isinstance" = none
  list : mg "list" = none
  all : mg "all" = none
  repr : mg "repr" = none
  str : mg "str" = none
  enumerate : mg "enumerate" = none

/-! ### a def that may be called by its name -/
structure Cal (P : Program) (w : World) (K : PySem.W.Frag) (mg : Str → Option Value) (base : Heap) (k : Nat) (x : Str) (sp : Sp) : Prop where
  ex : ∃ (f : Addr) (fd : FuncData) (ps : List Str), FnOk P w K mg base CX0 k f fd ps sp ∧ mg x = some (.ref f) ∧ PySem.W.keepIn K (.ref f) = true ∧ Binds K fd ps []
section
variable {X : Cx} {k j : Nat} {x : Str} {sp : Sp} {p pos : Pos} {e : Expr} {es : List Expr} {t : TA}
theorem pe_c (c : Cal X.prog X.w X.K X.mg X.base k x sp) (hr : Room j X.A) (hk : k ≤ j) (hg : Gl X x) (ha : PA X (e :: es) t)
    (hdb : (x == ("__debug__" : Str)) = false := by decide) (he : starEach (e :: es) X.env = (false, eval e X.env) :: starEach es X.env := by rfl) (hpl : (backTo pos (starEach es X.env)).any (·.1) = false := by rfl) :
    PE X (.Call (.Name x p) (e :: es) [] pos) (tCall sp [] E0 t) := by
  obtain ⟨f, fd, ps, F, hm, kp, b⟩ := c.ex
  exact pe_call F (hr.mono hk) hg hm kp b .nil pass0 ha hdb he hpl
end
theorem Cal.mono {P : Program} {w : World} {K : PySem.W.Frag} {mg : Str → Option Value} {base : Heap} {j k : Nat} {x : Str} {sp : Sp} (c : Cal P w K mg base j x sp) (h : j ≤ k) : Cal P w K mg base k x sp := by
  obtain ⟨f, fd, ps, F, r⟩ := c.ex
  exact ⟨f, fd, ps, F.mono h, r⟩

/-! ### promises of the draws -/
def spTake : Sp := fun vs H Q _ => ∃ (a : Addr) (many : Int) (n : Nat), vs = [.ref a, .int many] ∧ 0 < many ∧ many < 2 ^ 62 ∧ HandAt H a n ∧ n ≤ 1000000000 ∧
  ∀ H' r, But a H H' → HandAt H' a (n + 1) → 0 ≤ r → r < many → Q (.int r) H'
def spHand (K : PySem.W.Frag) : Sp := fun vs H Q _ => ∃ (a : Addr) (k : Int) (ns : List Int), vs = [.ref a, .int k] ∧ 0 ≤ k ∧ k < 1000 ∧ SqL K H a (ns.map V.int) ∧
  ∀ p g s, H p = none → 0 ≤ g → 0 ≤ s → Q (.ref p) (upd H p (.lst [.int g, .int s, .int 0]))
/-- an item of a list that is given -/
def spOf (K : PySem.W.Frag) : Sp := fun vs H Q _ => ∃ (a b : Addr) (xs : List V) (n : Nat), vs = [.ref a, .ref b] ∧ a ≠ b ∧ H b = some (.lst xs) ∧ 0 < xs.length ∧ xs.length ≤ 1000 ∧ HandAt H a n ∧ n ≤ 1000000000 ∧
  ∀ H' v, But a H H' → HandAt H' a (n + 1) → v ∈ xs → Q v H'
def spFigure : Sp := fun vs H Q _ => ∃ (a : Addr) (n : Nat), vs = [.ref a] ∧ HandAt H a n ∧ n ≤ 999999990 ∧
  ∀ H' c, But a H H' → HandAt H' a (n + 3) → -1000 ≤ c → c ≤ 1000 → Q (.int c) H'
end NG

namespace NG
open PySem PySem.Spec PyProof.Rows L2

/-! ### promises that are kept while no repr is under way -/
structure FnG (P : Program) (w : World) (K : PySem.W.Frag) (mg : Str → Option Value) (base : Heap) (k : Nat) (f : Addr) (fd : FuncData) (ps : List Str) (sp : Sp) : Prop where
  len : ∀ vs H Q E, sp vs H Q E → vs.length = ps.length
  run : ∀ (A : Around) (outer : List Env) (s : Shared) (H : Hp) (args : Args) (us : List Value) (vs : List V) (Q : VK), A.guards = some [] → Room k A → Env0 P w K mg base A outer s H → BindsTo s fd args (ps.zip us) → Vals vs us → sp vs H Q E0 →
    codeAny (model P w) A (.call (.ref f) args) (CR CX0 outer P w H s Q E0) s
theorem FnG.of {P : Program} {w : World} {K : PySem.W.Frag} {mg : Str → Option Value} {base : Heap} {k : Nat} {f : Addr} {fd : FuncData} {ps : List Str} {sp : Sp} (F : FnOk P w K mg base CX0 k f fd ps sp) : FnG P w K mg base k f fd ps sp :=
  ⟨F.len, fun A outer s H args us vs Q _ hr he hb hv hs => F.run A outer s H args us vs Q E0 hr he hb hv hs⟩
theorem fnG {P : Program} {w : World} {K : PySem.W.Frag} {mg : Str → Option Value} {base : Heap} {x qual : Str} {st : Stmt} {f : Addr} {fd : FuncData} {N ps : List Str} {k : Nat} {sp : Sp} (F : Fun K x qual st f fd) (S : FnScope N ps (defScope st)) (len : ∀ vs H Q E, sp vs H Q E → vs.length = ps.length)
    (walk : ∀ (cdv : Value) (A : Around) (outer : List Env) (s : Shared) (H : Hp) (vs : List V) (Q : VK), A.guards = some [] → Room k (A.deeper (envOfC qual (defScope st) s.heap.objs.size f cdv)) → sp vs H Q E0 →
      ∃ t, PSs (cxOf CX0 P w K mg base N qual (defScope st) f cdv A outer s H E0).nox (defBody st) t ∧ t { nx := fun _ H' => Q .non H', rt := Q } (start N vs) H) : FnG P w K mg base (k + 1) f fd ps sp := by
  obtain ⟨oc, od, kV, doc, pm, an, cdv, ct, osl, rfl, lk, hcd⟩ := F.ex
  refine ⟨len, fun A outer s H args us vs Q hg hr e0 bd rv hs => ?_⟩
  have inK : K.In s.heap := e0.mod.kin.keeps fun b o e => (e0.bs b o e).1
  have nolim : s.heap.NoLimit := e0.mod.nolimit.keeps fun b o e => (e0.bs b o e).1
  refine codeAny_call_function hr.depth (inK _ _ lk) rfl S.co S.gen rfl (PySem.W.codeRec_of inK hcd) (bd _ _ _ _ ?_)
  refine wpAny_newFunctionEnv_cells S.kind (fun y hy => ?_) fun env he s1 ic => ?_
  · obtain ⟨n, v⟩ := y
    rcases S.par n (List.of_mem_zip hy).1 with z | z
    · exact .inl z
    · exact .inr ⟨z, PySem.W.cellsFrom_some _ _ _ (.inl z)⟩
  subst he
  refine ⟨nolim.keeps ic.toInCall.keep, codeAny_func ?_⟩
  obtain ⟨t, ht, hq⟩ := walk cdv A outer s H vs Q hg (hr.deeper _) hs
  have I := inv_start (CX := CX0) (E := E0) S hr.hd e0 (len _ _ _ _ hs) rv ic
  refine wpAny_mono (ht.nox.run [] s1 (start N vs) H _ I hq) (fun fl s' hf => ?_) fun e s' hf => hf
  match fl, hf with
  | .ret u, ⟨v, σ', H', J, r, q⟩ => exact ⟨v, H', J.os, J.bare, J.base, J.hok, r, q⟩
  | .next, ⟨σ', H', J, q⟩ => exact ⟨.non, H', J.os, J.bare, J.base, J.hok, rfl, q⟩
  | .brk, ⟨_, _, _, q⟩ => exact q.elim
  | .cont, ⟨_, _, _, q⟩ => exact q.elim

structure CalG (P : Program) (w : World) (K : PySem.W.Frag) (mg : Str → Option Value) (base : Heap) (k : Nat) (x : Str) (sp : Sp) : Prop where
  ex : ∃ (f : Addr) (fd : FuncData) (ps : List Str), FnG P w K mg base k f fd ps sp ∧ mg x = some (.ref f) ∧ PySem.W.keepIn K (.ref f) = true ∧ Binds K fd ps []
theorem Cal.g {P : Program} {w : World} {K : PySem.W.Frag} {mg : Str → Option Value} {base : Heap} {k : Nat} {x : Str} {sp : Sp} (c : Cal P w K mg base k x sp) : CalG P w K mg base k x sp := by
  obtain ⟨f, fd, ps, F, r⟩ := c.ex
  exact ⟨f, fd, ps, .of F, r⟩
section
variable {X : Cx} {k j : Nat} {x : Str} {sp : Sp} {p pos : Pos} {e : Expr} {es : List Expr} {t : TA}
theorem pe_g (c : CalG X.prog X.w X.K X.mg X.base k x sp) (hgd : X.A.guards = some []) (hr : Room j X.A) (hk : k ≤ j) (hg : Gl X x) (ha : PA X (e :: es) t)
    (hdb : (x == ("__debug__" : Str)) = false := by decide) (he : starEach (e :: es) X.env = (false, eval e X.env) :: starEach es X.env := by rfl) (hpl : (backTo pos (starEach es X.env)).any (·.1) = false := by rfl) :
    PE X (.Call (.Name x p) (e :: es) [] pos) (tCall sp [] E0 t) := by
  obtain ⟨f, fd, ps, F, hm, kp, b⟩ := c.ex
  refine ⟨fun pins s σ H Q I h => wpAny_Call_Name_kw (ld_glob I hg hm ?_ hdb)⟩
  refine PySem.W.callWith_K (h₀ := X.base) I.ok.mod.kin kp (thn (ha.run pos pins s σ H _ I h) fun us s1 ⟨vs, H1, I1, r, q⟩ => ⟨I1.kIn, ?_⟩) he hpl
  have q : sp (vs ++ []) H1 Q E0 := q
  rw [List.append_nil] at q
  have hl : (us ++ []).length = ps.length := by
    rw [List.append_nil, ← r.length]
    exact F.len _ _ _ _ q
  have bd := b s1 us I1.kIn hl
  rw [List.append_nil] at bd
  refine wpAny_call (codeAny_mono (F.run X.A X.stack s1 H1 ⟨us, []⟩ us vs Q hgd (hr.mono hk) I1.env0 bd r q) fun res s' hq => ?_)
  match res, hq with
  | .ok (.ret u), hq => exact I1.after hq
  | .ok .next, hq => exact False.elim hq
  | .ok .brk, hq => exact False.elim hq
  | .ok .cont, hq => exact False.elim hq
  | .error e, hq => exact False.elim hq
end

/-! ### the law's call -/
theorem lawG {P : Program} {w : World} {K : PySem.W.Frag} {mg mb : Str → Option Value} {k : Nat} {fa a : Addr} {fd : FuncData} {x : Str} {sp : Sp} {st : Shared} {vs : List Value} {ns : List Int}
    (inK : K.In st.heap) (gl : st.heap.Ns mainGlobals mg) (bl : st.heap.Ns builtinsNs mb) (blt : ∀ y : Str, y ≠ "__name__" → mb y = bootBuiltins y) (lim : st.heap.NoLimit) (gens : st.gens = #[])
    (at0 : st.heap.get? a = some { cls := .type "list", data := .seq vs.toArray }) (hint : IntsAre vs ns) (short : ns.length ≤ sizeLine) (room : Room k callerA)
    (F : ∀ base : Heap, K.In base → base.Ns mainGlobals mg → FnG P w K mg base k fa fd [x] sp) (bind : ∀ (s : Shared) (u : Value), BindsTo s fd ⟨[u], []⟩ [(x, u)])
    (prom : ∀ H : Hp, Only H → SqL K H a (ns.map V.int) → sp [.ref a] H (fun v _ => v = .bl true) E0) :
    codeAny (model P w) callerA (.call (.ref fa) ⟨[.ref a], []⟩) (fun r s' => r = .ok (.ret (.bool true)) ∧ OldK st.heap s'.heap ∧ s'.os = st.os ∧ AllBare s'.gens) st := by
  have rel := vals_ints hint
  have go : ∀ H : Hp, Only H → SqL K H a (ns.map V.int) → HOk P w H st.heap → (∀ b, H b ≠ none → b = a ∧ K.lookup b = none) →
      codeAny (model P w) callerA (.call (.ref fa) ⟨[.ref a], []⟩) (fun r s' => r = .ok (.ret (.bool true)) ∧ OldK st.heap s'.heap ∧ s'.os = st.os ∧ AllBare s'.gens) st := by
    intro H on sq ok sole
    have dicts : ∀ {b : Addr} {o : Obj} {es : Array DictEntry} {ep : Nat}, st.heap.get? b = some o → o.data = .dict es ep → H b = none := by
      intro b o es ep e d
      by_cases z : H b = none
      · exact z
      · obtain ⟨rfl, _⟩ := sole b z
        rw [at0] at e
        cases e
        cases d
    have names : ∀ {b : Addr} {m : Str → Option Value}, st.heap.Ns b m → (hidT st.heap H).Ns b m := by
      rintro b m ⟨o, es, ep, e, d, r⟩
      exact ⟨o, es, ep, hidT_get e (dicts e d), d, r⟩
    have kin : K.In (hidT st.heap H) := by
      intro b o e
      refine hidT_get (inK b o e) ?_
      by_cases z : H b = none
      · exact z
      · rw [(sole b z).2] at e
        cases e
    have md : Mod K mg (hidT st.heap H) := by
      obtain ⟨mc, l1, l2⟩ := lim
      exact ⟨kin, names gl, ⟨mb, names bl, blt⟩, ⟨mc, names l1, l2⟩⟩
    have env : Env0 P w K mg (hidT st.heap H) callerA [] st H :=
      ⟨rfl, md, fun b o e => of_hidT e, Nat.le_of_eq (hidT_size _ _), trivial, fun b z => absurd (show b ∈ ([] : List Addr) from z) (by simp), ok, .of_eq gens⟩
    refine codeAny_mono ((F _ kin (names gl)).run callerA [] st H ⟨[.ref a], []⟩ [.ref a] [.ref a] _ rfl room env (bind st (.ref a)) (.cons rfl .nil) (prom H on sq)) fun res s' hq => ?_
    match res, hq with
    | .ok .next, hq => exact False.elim hq
    | .ok .brk, hq => exact False.elim hq
    | .ok .cont, hq => exact False.elim hq
    | .error e, hq => exact False.elim hq
    | .ok (.ret u), ⟨v, H', os, bare, un, ok', r, q⟩ =>
      have q : v = .bl true := q
      subst q
      have r : u = Value.bool true := r
      subst r
      refine ⟨rfl, OldK.of_keep fun b o e => ?_, os, bare⟩
      by_cases z : H b = none
      · exact un.keep b o e z (fun y => absurd (show b ∈ ([] : List Addr) from y) (by simp)) (by simp)
      · rcases on b with y | ⟨ob, xs, y⟩
        · exact absurd y z
        · obtain ⟨p1, _⟩ := ok b _ y
          obtain ⟨p2, _⟩ := ok' b _ (un.frzs b ob _ y)
          rw [e] at p1
          cases p1
          exact p2
  by_cases hk : K.lookup a = none
  · refine go (upd (fun _ => none) a (.frz { cls := .type "list", data := .seq vs.toArray } (.lst (ns.map V.int)))) (fun b => ?_) (.inl (.inr ⟨_, upd_same⟩)) (fun b u z => ?_) (fun b z => ?_)
    · by_cases hb : b = a
      · subst hb
        exact .inr ⟨_, _, upd_same⟩
      · exact .inl (upd_ne hb)
    · by_cases hb : b = a
      · subst hb
        rw [upd_same] at z
        cases z
        exact ⟨at0, by rw [List.length_map]; exact short, vs, _, rel, at0⟩
      · rw [upd_ne hb] at z
        cases z
    · by_cases hb : b = a
      · subst hb
        exact ⟨rfl, hk⟩
      · exact absurd (upd_ne hb) z
  · obtain ⟨o, ho⟩ := Option.ne_none_iff_exists'.mp hk
    have e := inK a o ho
    rw [at0] at e
    cases e
    refine go (fun _ => none) (fun _ => .inl rfl) (.inr ⟨_, vs.toArray, _, ho, rfl, rfl, rfl, ?_, by simpa using rel⟩) (fun b u z => by cases z) (fun b z => absurd rfl z)
    rw [List.size_toArray, hint.length]
    exact short
theorem walkG {l : PySem.W.OpenLaw} {n k : Nat} {q : Program} {loose : List Str} {XP : (Str → Option Value) → Heap → Prop} {YP : World → Heap → Prop} {d : DefRec} {K : Params → PySem.W.Frag} {sp : World → Sp} {x : Str}
    (hn : l.most = some n) (hn2 : n ≤ sizeLine) (hdf : d.params.defaults = []) (hr : Room k callerA) (hY : ∀ (w : World) (h : Heap), YP w h → (K w.params).In h)
    (F : ∀ (w : World) (mg : Str → Option Value) (fa : Addr) (h : Heap), (K w.params).In h → h.Ns mainGlobals mg → mg d.name = some (.ref fa) →
      ∃ fd : FuncData, (∀ (s : Shared) (u : Value), BindsTo s fd ⟨[u], []⟩ [(x, u)]) ∧ ∀ base : Heap, (K w.params).In base → base.Ns mainGlobals mg → FnG l.prog w (K w.params) mg base k fa fd [x] (sp w))
    (hsp : ∀ (w : World) (H : Hp) (a : Addr) (ns : List Int), ns.length ≤ n → Only H → SqL (K w.params) H a (ns.map V.int) → sp w [.ref a] H (fun v _ => v = .bl true) E0) :
    PySem.W.WalkO q loose XP YP l.row.toRowW d [] (fun f vs => PySem.call f vs) := by
  refine Att.attach_call hn hdf fun w s0 s1 mg mb fa o pm cd doc a vs ns G Y _ _ _ hmg hobj hints hlen hg => ?_
  have inK := hY w _ Y
  obtain ⟨fd, hb, hF⟩ := F w mg fa _ inK G.T.g hmg
  exact lawG inK G.T.g G.T.b G.T.builtins G.T.nolimit hg hobj hints (Nat.le_trans hlen hn2) hr hF hb fun H on sq => hsp w H a ns hlen on sq

/-! ### repr -/
mutual
theorem Dp_nodict {K : PySem.W.Frag} {H : Hp} : ∀ {d : PyData} {v : V}, Dp K H v d → d.hasDict = false
  | .none, _, _ => by simp only [PyData.hasDict]
  | .bool _, _, _ => by simp only [PyData.hasDict]
  | .int _, _, _ => by simp only [PyData.hasDict]
  | .str _, _, _ => by simp only [PyData.hasDict]
  | .list ds, _, h => by
    cases h with
    | lst _ h => simp only [PyData.hasDict, DpAll_nodict h]
  | .tuple ds, _, h => by
    cases h with
    | tup _ h => simp only [PyData.hasDict, DpAll_nodict h]
  | .dict _, _, h => by cases h
theorem DpAll_nodict {K : PySem.W.Frag} {H : Hp} : ∀ {ds : List PyData} {vs : List V}, DpAll K H vs ds → PyData.hasDictAll ds = false
  | [], _, _ => by simp only [PyData.hasDictAll]
  | d :: ds, _, h => by
    cases h with
    | cons h1 h2 => simp only [PyData.hasDictAll, Dp_nodict h1, DpAll_nodict h2, Bool.or_self]
end
def rRepr (K : PySem.W.Frag) : List V → Hp → VK → Prop := fun vs H Q => ∃ (p : Addr) (d : PyData), vs = [.ref p] ∧ Dp K H (.ref p) d ∧ d.showable = true ∧ d.depth ≤ 60 ∧ d.shown.length ≤ sizeLine ∧ Q (.str d.shown) H
theorem cr_repr {X : Cx} (hg : X.A.guards = some []) (hu : X.A.units + 64 < cLine) : CallR X (.builtin "repr") (rRepr X.K) := by
  intro pins s σ H vs us Q I r h
  obtain ⟨p, d, rfl, hd, hs, hz, hl, q⟩ := h
  rw [Vals.ref1 r]
  obtain ⟨as, rd⟩ := Dp.reads I d (.ref p) (.ref p) hd rfl
  exact repr_of_reads' rd hs (PyData.noDict_hsm (Dp_nodict hd)) hg (by omega) (fun _ _ e => e) (fun h' u tk hk => ⟨.str _, H, I.kept hk, ⟨_, rfl⟩, q⟩) hl
end NG

namespace NG
open PySem PySem.Spec PyProof.Rows L2

/-! ### expressions -/
inductive W4 where
  | sum | less | least | most
  deriving DecidableEq
def wn : W4 → Str
  | .sum => "sum"
  | .less => "less"
  | .least => "least"
  | .most => "most"
inductive Ex where
  | fig (c : Int) | reg (i : Nat) | share (j : Nat)
  | two (w : W4) (a b : Ex)
  | times (f : Int) (a : Ex) | by (i : Nat) (a : Ex)
  | when (i : Nat) (c : Int) (a b : Ex) | whr (j : Nat) (c : Int) (a b : Ex)
def ExAt (K : PySem.W.Frag) (H : Hp) : Ex → V → Prop
  | .fig c, v => ∃ p, v = .ref p ∧ SqT K H p [.str "fig", .int c]
  | .reg i, v => ∃ p, v = .ref p ∧ SqT K H p [.str "reg", .int (i : Int)]
  | .share j, v => ∃ p, v = .ref p ∧ SqT K H p [.str "share", .int (j : Int)]
  | .two w a b, v => ∃ p x y, v = .ref p ∧ SqT K H p [.str (wn w), x, y] ∧ ExAt K H a x ∧ ExAt K H b y
  | .times f a, v => ∃ p x, v = .ref p ∧ SqT K H p [.str "times", .int f, x] ∧ ExAt K H a x
  | .by i a, v => ∃ p x, v = .ref p ∧ SqT K H p [.str "by", .int (i : Int), x] ∧ ExAt K H a x
  | .when i c a b, v => ∃ p x y, v = .ref p ∧ SqT K H p [.str "when", .int (i : Int), .int c, x, y] ∧ ExAt K H a x ∧ ExAt K H b y
  | .whr j c a b, v => ∃ p x y, v = .ref p ∧ SqT K H p [.str "where", .int (j : Int), .int c, x, y] ∧ ExAt K H a x ∧ ExAt K H b y
theorem ExAt.imp {K : PySem.W.Frag} {H H' : Hp} (h : ∀ p xs, SqT K H p xs → SqT K H' p xs) : ∀ {e : Ex} {v : V}, ExAt K H e v → ExAt K H' e v
  | .fig _, _, ⟨p, e, q⟩ => ⟨p, e, h _ _ q⟩
  | .reg _, _, ⟨p, e, q⟩ => ⟨p, e, h _ _ q⟩
  | .share _, _, ⟨p, e, q⟩ => ⟨p, e, h _ _ q⟩
  | .two _ _ _, _, ⟨p, x, y, e, q, a, b⟩ => ⟨p, x, y, e, h _ _ q, ExAt.imp h a, ExAt.imp h b⟩
  | .times _ _, _, ⟨p, x, e, q, a⟩ => ⟨p, x, e, h _ _ q, ExAt.imp h a⟩
  | .by _ _, _, ⟨p, x, e, q, a⟩ => ⟨p, x, e, h _ _ q, ExAt.imp h a⟩
  | .when _ _ _ _, _, ⟨p, x, y, e, q, a, b⟩ => ⟨p, x, y, e, h _ _ q, ExAt.imp h a, ExAt.imp h b⟩
  | .whr _ _ _ _, _, ⟨p, x, y, e, q, a, b⟩ => ⟨p, x, y, e, h _ _ q, ExAt.imp h a, ExAt.imp h b⟩
theorem ExAt.but {K : PySem.W.Frag} {H H' : Hp} {a : Addr} {n : Nat} {e : Ex} {v : V} (x : ExAt K H e v) (b : But a H H') (h : HandAt H a n) : ExAt K H' e v := x.imp fun _ _ q => b.sq h q
theorem ExAt.same {K : PySem.W.Frag} {H H' : Hp} {e : Ex} {v : V} (x : ExAt K H e v) (b : Same H H') : ExAt K H' e v := x.imp fun _ _ q => same_sqt b q
theorem ExAt.new {K : PySem.W.Frag} {H : Hp} {p : Addr} {o : HO} {e : Ex} {v : V} (x : ExAt K H e v) (n : H p = none) : ExAt K (upd H p o) e v := x.same (same_new n)
def ExOk (many : Nat) : Ex → Prop
  | .fig c => -1000 ≤ c ∧ c ≤ 1000
  | .reg i => i < 4
  | .share j => j < many
  | .two _ a b => ExOk many a ∧ ExOk many b
  | .times f a => (-9 ≤ f ∧ f ≤ 9) ∧ ExOk many a
  | .by i a => i < 4 ∧ ExOk many a
  | .when i c a b => i < 4 ∧ (-1000 ≤ c ∧ c ≤ 1000) ∧ ExOk many a ∧ ExOk many b
  | .whr j c a b => j < many ∧ (1 ≤ c ∧ c ≤ 1000) ∧ ExOk many a ∧ ExOk many b
def Ex.dep : Ex → Nat
  | .fig _ => 1
  | .reg _ => 1
  | .share _ => 1
  | .two _ a b => max a.dep b.dep + 1
  | .times _ a => a.dep + 1
  | .by _ a => a.dep + 1
  | .when _ _ a b => max a.dep b.dep + 1
  | .whr _ _ a b => max a.dep b.dep + 1
def jw : W4 → Int → Int → Int
  | .sum, x, y => x + y
  | .less, x, y => x - y
  | .least, x, y => if y < x then y else x
  | .most, x, y => if y > x then y else x
def wo (rs ss : List Int) : Ex → Int
  | .fig c => c * ss.sum
  | .reg i => rs.getD i 0 * ss.sum
  | .share j => 1000 * ss.getD j 0
  | .two w a b => jw w (wo rs ss a) (wo rs ss b)
  | .times f a => f * wo rs ss a
  | .by i a => rs.getD i 0 * wo rs ss a
  | .when i c a b => if rs.getD i 0 < c then wo rs ss a else wo rs ss b
  | .whr j c a b => if 1000 * ss.getD j 0 < c * ss.sum then wo rs ss a else wo rs ss b
theorem at_nth {ns : List Int} {i : Nat} (h : i < ns.length) : atI (ns.map V.int) (i : Int) = some (.int (ns.getD i 0)) := at_int (by omega) (by omega)

def RegsAt (K : PySem.W.Frag) (H : Hp) (rs : List Int) (v : V) : Prop := ∃ p, v = .ref p ∧ SqT K H p (rs.map V.int) ∧ rs.length = 4 ∧ ∀ x ∈ rs, -1000 ≤ x ∧ x ≤ 1000
def ShAt (K : PySem.W.Frag) (H : Hp) (many : Nat) (ss : List Int) (v : V) : Prop := ∃ p, v = .ref p ∧ SqT K H p (ss.map V.int) ∧ ss.length = many ∧ (∀ x ∈ ss, 0 ≤ x ∧ x < 2 ^ 50) ∧ 0 < ss.sum ∧ ss.sum < 2 ^ 60
theorem RegsAt.imp {K : PySem.W.Frag} {H H' : Hp} {rs : List Int} {v : V} (r : RegsAt K H rs v) (h : ∀ p xs, SqT K H p xs → SqT K H' p xs) : RegsAt K H' rs v := by
  obtain ⟨p, e, q, l⟩ := r
  exact ⟨p, e, h _ _ q, l⟩
theorem ShAt.imp {K : PySem.W.Frag} {H H' : Hp} {many : Nat} {rs : List Int} {v : V} (r : ShAt K H many rs v) (h : ∀ p xs, SqT K H p xs → SqT K H' p xs) : ShAt K H' many rs v := by
  obtain ⟨p, e, q, l⟩ := r
  exact ⟨p, e, h _ _ q, l⟩
theorem getD_mem {ns : List Int} {i : Nat} (h : i < ns.length) : ns.getD i 0 ∈ ns := by
  rw [List.getD_eq_getElem?_getD, List.getElem?_eq_getElem h]
  exact List.getElem_mem h

/-! ### promises -/
def spWorth (K : PySem.W.Frag) (n : Nat) : Sp := fun vs H Q _ => ∃ (v r s : V) (e : Ex) (many : Nat) (rs ss : List Int), vs = [v, r, s] ∧ ExAt K H e v ∧ ExOk many e ∧ e.dep ≤ n ∧ RegsAt K H rs r ∧ ShAt K H many ss s ∧ Q (.int (wo rs ss e)) H
def spJoinW : Sp := fun vs H Q _ => ∃ (w : W4) (x y : Int), vs = [.str (wn w), .int x, .int y] ∧ Q (.int (jw w x y)) H
def spLed (K : PySem.W.Frag) : Sp := fun vs H Q _ => ∃ (p : Addr) (r x y : V) (i : Nat) (c : Int) (rs : List Int), vs = [.ref p, r] ∧ SqT K H p [.str "when", .int (i : Int), .int c, x, y] ∧ i < 4 ∧ RegsAt K H rs r ∧ Q (if rs.getD i 0 < c then x else y) H
def spSide (K : PySem.W.Frag) : Sp := fun vs H Q _ => ∃ (p : Addr) (s x y : V) (many j : Nat) (c : Int) (ss : List Int), vs = [.ref p, s] ∧ SqT K H p [.str "where", .int (j : Int), .int c, x, y] ∧ j < many ∧ (1 ≤ c ∧ c ≤ 1000) ∧ ShAt K H many ss s ∧ Q (if 1000 * ss.getD j 0 < c * ss.sum then x else y) H
def spMills (K : PySem.W.Frag) : Sp := fun vs H Q _ => ∃ (s : V) (many j : Nat) (ss : List Int), vs = [s, .int (j : Int)] ∧ ShAt K H many ss s ∧ j < many ∧ Q (.int (1000 * ss.getD j 0 / ss.sum)) H
def cost : Nat → Nat
  | 0 => 6
  | n + 1 => 2 * cost n + 20
theorem cost_ge (l : Nat) : 6 ≤ cost l := by
  cases l with
  | zero => exact Nat.le_refl _
  | succ l =>
    unfold cost
    omega
def spLeaf (K : PySem.W.Frag) : Sp := fun vs H Q _ => ∃ (a : Addr) (many n : Nat), vs = [.ref a, .int (many : Int)] ∧ 1 ≤ many ∧ many ≤ 1000 ∧ HandAt H a n ∧ n ≤ 999999000 ∧
  ∀ H' v e, But a H H' → HandAt H' a (n + 5) → ExAt K H' e v → ExOk many e → e.dep ≤ 1 → Q v H'
def spExpr (K : PySem.W.Frag) (m : Nat) : Sp := fun vs H Q _ => ∃ (a : Addr) (many l n : Nat), vs = [.ref a, .int (many : Int), .int (l : Int), .int 1] ∧ l < m ∧ 1 ≤ many ∧ many ≤ 1000 ∧ HandAt H a n ∧ n + cost l ≤ 999999000 ∧
  ∀ H' v e, But a H H' → HandAt H' a (n + cost l) → ExAt K H' e v → ExOk many e → e.dep ≤ l + 1 → Q v H'
theorem cal_never {P : Program} {w : World} {K : PySem.W.Frag} {mg : Str → Option Value} {base : Heap} {k : Nat} {x qual : Str} {st : Stmt} {f : Addr} {fd : FuncData} {ps : List Str} {sp : Sp} (F : Fun K x qual st f fd) (gF : mg x = some (.ref f)) (b : Binds K fd ps []) (h : ∀ vs H Q E, ¬ sp vs H Q E) : Cal P w K mg base k x sp :=
  ⟨f, fd, ps, ⟨fun vs H Q E q => absurd q (h _ _ _ _), fun A outer s H args us vs Q E _ _ _ _ q => absurd q (h _ _ _ _)⟩, gF, F.kp, b⟩
theorem fn_never {P : Program} {w : World} {K : PySem.W.Frag} {mg : Str → Option Value} {base : Heap} {k : Nat} {f : Addr} {fd : FuncData} {ps : List Str} {sp : Sp} (h : ∀ vs H Q E, ¬ sp vs H Q E) : FnOk P w K mg base CX0 k f fd ps sp :=
  ⟨fun vs H Q E q => absurd q (h _ _ _ _), fun A outer s H args us vs Q E _ _ _ _ q => absurd q (h _ _ _ _)⟩
end NG

namespace NG
open PySem PySem.Spec PyProof.Rows L2

/-! ### the greatest that divides all -/
def gf (g : Nat) (x : Int) : Nat := Nat.gcd g x.toNat
def gl (ns : List Int) : Nat := ns.foldl gf 0
theorem gl_step {ns : List Int} {i : Nat} {x : Int} (h : ns[i]? = some x) : gl (ns.take (i + 1)) = Nat.gcd (gl (ns.take i)) x.toNat := by
  unfold gl
  rw [List.take_add_one, h, List.foldl_append]
  rfl
theorem gf_dvd : ∀ (ns : List Int) (g : Nat), ns.foldl gf g ∣ g ∧ ∀ x ∈ ns, ns.foldl gf g ∣ x.toNat
  | [], g => ⟨Nat.dvd_refl _, fun x h => by cases h⟩
  | y :: ns, g => by
    obtain ⟨h1, h2⟩ := gf_dvd ns (gf g y)
    refine ⟨Nat.dvd_trans h1 (Nat.gcd_dvd_left _ _), fun x hx => ?_⟩
    rcases List.mem_cons.mp hx with rfl | hx
    · exact Nat.dvd_trans h1 (Nat.gcd_dvd_right _ _)
    · exact h2 x hx
theorem gl_dvd {ns : List Int} {x : Int} (h : x ∈ ns) : gl ns ∣ x.toNat := (gf_dvd ns 0).2 x h
theorem gl_pos {ns : List Int} {x : Int} (h : x ∈ ns) (p : 0 < x) : 0 < gl ns := Nat.pos_of_dvd_of_pos (gl_dvd h) (by omega)
theorem sum_nonneg : ∀ {ms : List Int}, (∀ x ∈ ms, 0 ≤ x) → 0 ≤ ms.sum
  | [], _ => by simp
  | y :: ms, h => by
    have := sum_nonneg (ms := ms) fun x hx => h x (List.mem_cons_of_mem _ hx)
    have := h y List.mem_cons_self
    rw [List.sum_cons]
    omega
theorem sum_pos : ∀ {ms : List Int} {x : Int}, (∀ x ∈ ms, 0 ≤ x) → x ∈ ms → 0 < x → 0 < ms.sum
  | y :: ms, x, h, hx, p => by
    have h1 := sum_nonneg (ms := ms) fun x hx => h x (List.mem_cons_of_mem _ hx)
    have h2 := h y List.mem_cons_self
    rw [List.sum_cons]
    rcases List.mem_cons.mp hx with rfl | hx
    · omega
    · have := sum_pos (ms := ms) (fun x hx => h x (List.mem_cons_of_mem _ hx)) hx p
      omega
theorem sum_le {B : Int} : ∀ {ms : List Int}, (∀ x ∈ ms, x ≤ B) → ms.sum ≤ ms.length * B
  | [], _ => by simp
  | y :: ms, h => by
    have h1 := sum_le (ms := ms) fun x hx => h x (List.mem_cons_of_mem _ hx)
    have h2 := h y List.mem_cons_self
    rw [List.sum_cons, List.length_cons, Int.natCast_succ, Int.add_mul]
    omega
theorem div_le_self' {x : Int} {g : Nat} (h : 0 ≤ x) : x / (g : Int) ≤ x := Int.ediv_le_self _ h
/-- what lowest makes -/
def low (ns : List Int) : List Int := ns.map fun x => x / (gl ns : Int)
theorem low_sh {ns : List Int} (hb : ∀ x ∈ ns, 0 ≤ x ∧ x < 2 ^ 50) (hl : ns.length ≤ 1000) {y : Int} (hy : y ∈ ns) (py : 0 < y) :
    (∀ x ∈ low ns, 0 ≤ x ∧ x < 2 ^ 50) ∧ 0 < (low ns).sum ∧ (low ns).sum < 2 ^ 60 := by
  have hg := gl_pos hy py
  have h1 : ∀ x ∈ low ns, 0 ≤ x ∧ x < 2 ^ 50 := fun x hx => by
    obtain ⟨z, hz, rfl⟩ := List.mem_map.mp hx
    have h2 := hb z hz
    exact ⟨Int.ediv_nonneg h2.1 (by omega), Int.lt_of_le_of_lt (div_le_self' h2.1) h2.2⟩
  refine ⟨h1, ?_, ?_⟩
  · refine sum_pos (x := y / (gl ns : Int)) (fun x hx => (h1 x hx).1) (List.mem_map.mpr ⟨y, hy, rfl⟩) ?_
    have hd : (gl ns : Nat) ≤ y.toNat := Nat.le_of_dvd (by omega) (gl_dvd hy)
    exact Int.ediv_pos_of_pos_of_dvd py (by omega) (by
      have : ((gl ns : Nat) : Int) ∣ ((y.toNat : Nat) : Int) := Int.natCast_dvd_natCast.mpr (gl_dvd hy)
      rwa [Int.toNat_of_nonneg (by omega)] at this)
  · have h3 := sum_le (B := 2 ^ 50) (ms := low ns) fun x hx => Int.le_of_lt (h1 x hx).2
    have h4 : (low ns).length ≤ 1000 := by
      unfold low
      rw [List.length_map]
      exact hl
    have h5 : ((low ns).length : Int) * 2 ^ 50 ≤ 1000 * 2 ^ 50 := Int.mul_le_mul_of_nonneg_right (by omega) (by decide)
    have h6 : (1000 : Int) * 2 ^ 50 < 2 ^ 60 := by decide
    omega
theorem gcd_turn {u v : Nat} : Nat.gcd v (u % v) = Nat.gcd u v := by
  rw [Nat.gcd_comm v, ← Nat.gcd_rec, Nat.gcd_comm]
theorem ixN_of {n : Nat} {r : Int} (h0 : 0 ≤ r) (h1 : r < n) : ixN n r = some r.toNat := by
  unfold ixN
  rw [if_pos h0, if_pos h1]

theorem tYes_in {σ : L2.St} {H : Hp} {A B : Hp → Prop} (h : A H) : tYes σ H (fun b H3 => if b = true then A H3 else B H3) := by
  show if true = true then A H else B H
  exact iteT h

/-! ### promises -/
def spLow (K : PySem.W.Frag) : Sp := fun vs H Q _ => ∃ (p : Addr) (ns : List Int) (y : Int), vs = [.ref p] ∧ H p = some (.lst (ns.map V.int)) ∧ (∀ x ∈ ns, 0 ≤ x ∧ x < 2 ^ 50) ∧ ns.length ≤ 1000 ∧ y ∈ ns ∧ 0 < y ∧
  ∀ H' v ms, Same H H' → ShAt K H' ns.length ms v → Q v H'
def spShares (K : PySem.W.Frag) : Sp := fun vs H Q _ => ∃ (a : Addr) (many n : Nat), vs = [.ref a, .int (many : Int)] ∧ 1 ≤ many ∧ many ≤ 3 ∧ HandAt H a n ∧ n ≤ 999998000 ∧
  ∀ H' v ms, But a H H' → HandAt H' a (n + 20) → ShAt K H' many ms v → Q v H'
def spRegs (K : PySem.W.Frag) : Sp := fun vs H Q _ => ∃ (a : Addr) (n : Nat), vs = [.ref a] ∧ HandAt H a n ∧ n ≤ 999998000 ∧
  ∀ H' v rs, But a H H' → HandAt H' a (n + 12) → RegsAt K H' rs v → Q v H'
def spAsked (K : PySem.W.Frag) : Sp := fun vs H Q _ => ∃ (a : Addr) (many n : Nat), vs = [.ref a, .int (many : Int)] ∧ 2 ≤ many ∧ many ≤ 3 ∧ HandAt H a n ∧ n ≤ 999997000 ∧
  ∀ H' v ms, But a H H' → HandAt H' a (n + 25) → ShAt K H' many ms v → Q v H'
end NG

namespace NG
open PySem PySem.Spec PyProof.Rows L2
/-! ### rows of expressions -/
def RowsAt (K : PySem.W.Frag) (H : Hp) : List V → List Ex → Prop
  | [], [] => True
  | v :: vs, e :: es => ExAt K H e v ∧ RowsAt K H vs es
  | _, _ => False
theorem RowsAt.imp {K : PySem.W.Frag} {H H' : Hp} (h : ∀ p xs, SqT K H p xs → SqT K H' p xs) : ∀ {vs : List V} {es : List Ex}, RowsAt K H vs es → RowsAt K H' vs es
  | [], [], _ => trivial
  | _ :: _, _ :: _, ⟨x, r⟩ => ⟨x.imp h, RowsAt.imp h r⟩
theorem RowsAt.same {K : PySem.W.Frag} {H H' : Hp} {vs : List V} {es : List Ex} (r : RowsAt K H vs es) (s : Same H H') : RowsAt K H' vs es := r.imp fun _ _ q => same_sqt s q
theorem RowsAt.len {K : PySem.W.Frag} {H : Hp} : ∀ {vs : List V} {es : List Ex}, RowsAt K H vs es → vs.length = es.length
  | [], [], _ => rfl
  | _ :: _, _ :: _, ⟨_, r⟩ => by rw [List.length_cons, List.length_cons, r.len]
theorem RowsAt.snoc {K : PySem.W.Frag} {H : Hp} {v : V} {e : Ex} (x : ExAt K H e v) : ∀ {vs : List V} {es : List Ex}, RowsAt K H vs es → RowsAt K H (vs ++ [v]) (es ++ [e])
  | [], [], _ => ⟨x, trivial⟩
  | _ :: _, _ :: _, ⟨y, r⟩ => ⟨y, RowsAt.snoc x r⟩
theorem RowsAt.get {K : PySem.W.Frag} {H : Hp} : ∀ {vs : List V} {es : List Ex} {k : Nat} {e : Ex}, RowsAt K H vs es → es[k]? = some e → ∃ v, vs[k]? = some v ∧ ExAt K H e v
  | [], [], _, _, _, h => by simp at h
  | v :: vs, e' :: es, 0, e, ⟨x, r⟩, h => by
    have : e' = e := Option.some.inj h
    subst this
    exact ⟨v, rfl, x⟩
  | v :: vs, e' :: es, k + 1, e, ⟨x, r⟩, h => RowsAt.get (k := k) r h
def pairUp : List Ex → List Ex
  | a :: b :: r => .two .sum a b :: pairUp r
  | _ => []
theorem pairUp_get : ∀ {es : List Ex} {k : Nat} {a b : Ex}, es[2 * k]? = some a → es[2 * k + 1]? = some b → (pairUp es)[k]? = some (.two .sum a b)
  | [], k, _, _, h, _ => by simp at h
  | [_], k, _, _, _, h => by
    have := (List.getElem?_eq_some_iff.mp h).1
    rw [List.length_singleton] at this
    omega
  | x :: y :: r, 0, a, b, h, h2 => by
    have e1 : x = a := Option.some.inj h
    have e2 : y = b := Option.some.inj h2
    rw [← e1, ← e2]
    rfl
  | x :: y :: r, k + 1, a, b, h, h2 => by
    have h : r[2 * k]? = some a := h
    have h2 : r[2 * k + 1]? = some b := h2
    exact pairUp_get (es := r) (k := k) h h2
theorem pairUp_sum (rs ss : List Int) : ∀ {es : List Ex} {k : Nat}, es.length = 2 * k → ((pairUp es).map (wo rs ss)).sum = (es.map (wo rs ss)).sum ∧ (pairUp es).length = k
  | [], k, h => by
    rw [List.length_nil] at h
    exact ⟨rfl, by show 0 = k; omega⟩
  | [_], k, h => by
    rw [List.length_singleton] at h
    omega
  | x :: y :: r, k, h => by
    rw [List.length_cons, List.length_cons] at h
    obtain ⟨h1, h2⟩ := pairUp_sum rs ss (es := r) (k := k - 1) (by omega)
    refine ⟨?_, ?_⟩
    · show (wo rs ss (.two .sum x y) :: (pairUp r).map (wo rs ss)).sum = (wo rs ss x :: wo rs ss y :: r.map (wo rs ss)).sum
      rw [List.sum_cons, List.sum_cons, List.sum_cons, h1]
      show wo rs ss x + wo rs ss y + _ = _
      omega
    · show (pairUp r).length + 1 = k
      omega
theorem pairUp_ok {many d : Nat} : ∀ {es : List Ex}, (∀ e ∈ es, ExOk many e ∧ e.dep ≤ d) → ∀ e ∈ pairUp es, ExOk many e ∧ e.dep ≤ d + 1
  | [], _, e, h => by cases h
  | [_], _, e, h => by cases h
  | x :: y :: r, h, e, he => by
    have hx := h x List.mem_cons_self
    have hy := h y (List.mem_cons_of_mem _ List.mem_cons_self)
    rcases List.mem_cons.mp he with rfl | he
    · refine ⟨⟨hx.1, hy.1⟩, ?_⟩
      show max x.dep y.dep + 1 ≤ d + 1
      omega
    · exact pairUp_ok (es := r) (fun e he => h e (List.mem_cons_of_mem _ (List.mem_cons_of_mem _ he))) e he
def whn (j : Nat) (z : Int) : Ex := .whr j z (.fig 0) (.fig 1)
theorem count_sum (rs ss : List Int) (j : Nat) (h0 : 0 < ss.sum) : ∀ fs : List Int, ((fs.map (whn j)).map (wo rs ss)).sum = ((fs.filter fun z => decide (z ≤ 1000 * ss.getD j 0 / ss.sum)).length : Int) * ss.sum
  | [] => by simp
  | z :: fs => by
    have ih := count_sum rs ss j h0 fs
    have hm : 1000 * ss.getD j 0 / ss.sum < z ↔ 1000 * ss.getD j 0 < z * ss.sum := Int.ediv_lt_iff_lt_mul h0
    show (wo rs ss (whn j z) :: (fs.map (whn j)).map (wo rs ss)).sum = _
    rw [List.sum_cons, ih]
    show (if 1000 * ss.getD j 0 < z * ss.sum then 0 * ss.sum else 1 * ss.sum) + _ = _
    by_cases c : z ≤ 1000 * ss.getD j 0 / ss.sum
    · rw [List.filter_cons_of_pos (by rw [decide_eq_true c]), if_neg (fun q => by have := hm.mpr q; omega), List.length_cons, Int.natCast_succ, Int.add_mul]
      omega
    · rw [List.filter_cons_of_neg (by rw [decide_eq_false c]; exact Bool.false_ne_true), if_pos (hm.mp (by omega))]
      omega
def spCount (K : PySem.W.Frag) : Sp := fun vs H Q _ => ∃ (a : Addr) (many n : Nat) (s : V) (ss : List Int), vs = [.ref a, .int (many : Int), s] ∧ 2 ≤ many ∧ many ≤ 3 ∧ HandAt H a n ∧ n ≤ 999990000 ∧ ShAt K H many ss s ∧
  ∀ H', But a H H' → HandAt H' a (n + 10) → Q (.bl true) H'
end NG

namespace NG
open PySem PySem.Spec PyProof.Rows L2

/-! ### more rules -/
theorem pgtK {X : Cx} (K : PySem.W.Frag) {es : List Expr} {k : Nat} {t : TGs} {n : Nat} {pos : Pos} (hc : X.calm = true) (h : PGs X es t)
    (hn : (assignEach es X.env).length = n := by rfl) (hst : (assignEach es X.env).findIdx? (·.1) = none := by rfl) (hK : X.K = K := by rfl) : PG X (.Tuple es k pos) (gTup K n t) := by
  subst hK
  exact pg_tup hc h hn hst
theorem inK {X : Cx} (K : PySem.W.Frag) (h : X.K = K := by rfl) : OpR X (compareOp .In) (rIn K false) := by
  subst h
  exact op_in_seq
theorem isiK {X : Cx} (K : PySem.W.Frag) (h : X.K = K := by rfl) : CallR X (.builtin "isinstance") (rIsi K) := by
  subst h
  exact call_isi
theorem walk_zipT {K : PySem.W.Frag} {a b : Addr} {xs ys : List V} {n : Nat} (hx : xs.length = n) (hy : ys.length = n) : Walk (RZ.ItzT K a b) n (fun H => SqT K H a xs ∧ SqT K H b ys) (YPair (fun i => xs[i]?) (fun i => ys[i]?)) := by
  refine ⟨fun i H hi q => ?_, fun H q => ⟨xs, ys, q.1, q.2, .inl (by omega)⟩, fun i H v H' hi q y => ?_⟩
  · exact ⟨xs, ys, xs[i]'(by omega), ys[i]'(by omega), q.1, q.2, List.getElem?_eq_getElem _, List.getElem?_eq_getElem _⟩
  · obtain ⟨T, x, z, h1, h2, h3, h4, h5⟩ := y
    exact ⟨T, x, z, h1, h2, h3, h4 xs q.1, h5 ys q.2⟩
def tChain3 (r r' r'' : R2) (ta tb tc td : TE) : TT := fun σ H Q => ta σ H fun x H1 => tb σ H1 fun y H2 => r x y H2 fun z H3 => ∃ k, z = .bl k ∧
  (if k = true then tc σ H3 fun u H4 => r' y u H4 fun z' H5 => ∃ k', z' = .bl k' ∧ (if k' = true then td σ H5 fun v H6 => r'' u v H6 fun z'' H7 => ∃ k'', z'' = .bl k'' ∧ Q k'' H7 else Q false H5) else Q false H3)
theorem pt_chain3 {X : Cx} {a b c d : Expr} {ta tb tc td : TE} {pos : Pos} {o1 o2 o3 : CmpOp} {r1 r2 r3 : R2} (h1 : OpR X (compareOp o1) r1) (h2 : OpR X (compareOp o2) r2) (h3 : OpR X (compareOp o3) r3) (ha : PE X a ta) (hb : PE X b tb) (hc : PE X c tc) (hd : PE X d td)
    (hm : lastMarks [o1, o2, o3] [b, c, d] = false := by with_unfolding_all rfl) : PT X (.Compare a [o1, o2, o3] [b, c, d] pos) (tChain3 r1 r2 r3 ta tb tc td) := by
  refine ⟨fun pins s σ H Q I h => isTrue_chain (thn (ha.run pins s σ H _ I h) fun v1 s1 ⟨x, H1, I1, e1, q1⟩ => test_link (thn (hb.run pins s1 σ H1 _ I1 q1) fun v2 s2 ⟨y, H2, I2, e2, q2⟩ => thn (h1 pins s2 σ H2 x y v1 v2 _ I2 e1 e2 q2) fun v3 s3 ⟨z, H3, I3, e3, k, ek, q3⟩ => ?_)) hm⟩
  subst ek
  cases e3
  refine wpAny_truthy_bool ?_
  cases k with
  | false => exact ite_ff ⟨H3, I3, q3⟩
  | true =>
    refine ite_tt (test_link (thn (hc.run pins s3 σ H3 _ I3 q3) fun v4 s4 ⟨u, H4, I4, e4, q4⟩ => thn (h2 pins s4 σ H4 y u v2 v4 _ I4 e2 e4 q4) fun v5 s5 ⟨z', H5, I5, e5, k', ek', q5⟩ => ?_))
    subst ek'
    cases e5
    refine wpAny_truthy_bool ?_
    cases k' with
    | false => exact ite_ff ⟨H5, I5, q5⟩
    | true =>
      refine ite_tt (test_last (thn (hd.run pins s5 σ H5 _ I5 q5) fun v6 s6 ⟨v, H6, I6, e6, q6⟩ => thn (h3 pins s6 σ H6 u v v4 v6 _ I6 e4 e6 q6) fun v7 s7 ⟨z'', H7, I7, e7, k'', ek'', q7⟩ => ?_))
      subst ek''
      cases e7
      exact wpAny_truthy_bool ⟨H7, I7, q7⟩

/-! ### the shapes of words -/
def shapeOf : Ex → List Str
  | .fig _ => ["figure"]
  | .reg _ => ["place"]
  | .share _ => ["sign"]
  | .two _ _ _ => ["part", "part"]
  | .times _ _ => ["factor", "part"]
  | .by _ _ => ["place", "part"]
  | .when _ _ _ _ => ["place", "figure", "part", "part"]
  | .whr _ _ _ _ => ["sign", "line", "part", "part"]
def wordOf : Ex → Str
  | .fig _ => "fig"
  | .reg _ => "reg"
  | .share _ => "share"
  | .two w _ _ => wn w
  | .times _ _ => "times"
  | .by _ _ => "by"
  | .when _ _ _ _ => "when"
  | .whr _ _ _ _ => "where"
def Shapes (K : PySem.W.Frag) (w : World) (d : Addr) : Prop := ∀ e : Ex, ∃ q, KDct K w d (wordOf e) (.ref q) ∧ ∀ H, SqT K H q ((shapeOf e).map V.str)
def Ex.kids : Ex → List Ex
  | .fig _ => []
  | .reg _ => []
  | .share _ => []
  | .two _ a b => [a, b]
  | .times _ a => [a]
  | .by _ a => [a]
  | .when _ _ a b => [a, b]
  | .whr _ _ a b => [a, b]
/-- the items whose kind is a part -/
def pk : List Str → List V → List V
  | k :: ks, v :: vs => if V.str k = V.str "part" then v :: pk ks vs else pk ks vs
  | _, _ => []
theorem pk_snoc : ∀ {ks : List Str} {vs : List V} {i : Nat} {k : Str} {v : V}, ks[i]? = some k → vs[i]? = some v → pk (ks.take (i + 1)) (vs.take (i + 1)) = pk (ks.take i) (vs.take i) ++ (if V.str k = V.str "part" then [v] else [])
  | [], _, i, _, _, h, _ => by simp at h
  | _ :: _, [], i, _, _, _, h => by simp at h
  | k0 :: ks, v0 :: vs, 0, k, v, h, h2 => by
    have e1 : k0 = k := Option.some.inj h
    have e2 : v0 = v := Option.some.inj h2
    subst e1 e2
    show (if V.str k0 = V.str "part" then v0 :: pk (ks.take 0) (vs.take 0) else pk (ks.take 0) (vs.take 0)) = _
    split <;> rfl
  | k0 :: ks, v0 :: vs, i + 1, k, v, h, h2 => by
    have ih := pk_snoc (ks := ks) (vs := vs) (i := i) h h2
    show (if V.str k0 = V.str "part" then v0 :: pk (ks.take (i + 1)) (vs.take (i + 1)) else pk (ks.take (i + 1)) (vs.take (i + 1))) = (if V.str k0 = V.str "part" then v0 :: pk (ks.take i) (vs.take i) else pk (ks.take i) (vs.take i)) ++ _
    rw [ih]
    split <;> rfl
/-- how an expression lies: its word, then what belongs there -/
theorem ExAt.lies {K : PySem.W.Frag} {H : Hp} : ∀ {e : Ex} {v : V}, ExAt K H e v → ∃ (p : Addr) (xs : List V), v = .ref p ∧ SqT K H p (.str (wordOf e) :: xs) ∧ xs.length = (shapeOf e).length ∧ xs.length ≤ 4 ∧ 0 < xs.length ∧ RowsAt K H (pk (shapeOf e) xs) e.kids
  | .fig _, _, ⟨p, e, q⟩ => ⟨p, _, e, q, rfl, by simp, by simp, trivial⟩
  | .reg _, _, ⟨p, e, q⟩ => ⟨p, _, e, q, rfl, by simp, by simp, trivial⟩
  | .share _, _, ⟨p, e, q⟩ => ⟨p, _, e, q, rfl, by simp, by simp, trivial⟩
  | .two _ _ _, _, ⟨p, x, y, e, q, a, b⟩ => ⟨p, _, e, q, rfl, by simp, by simp, a, b, trivial⟩
  | .times _ _, _, ⟨p, x, e, q, a⟩ => ⟨p, _, e, q, rfl, by simp, by simp, a, trivial⟩
  | .by _ _, _, ⟨p, x, e, q, a⟩ => ⟨p, _, e, q, rfl, by simp, by simp, a, trivial⟩
  | .when _ _ _ _, _, ⟨p, x, y, e, q, a, b⟩ => ⟨p, _, e, q, rfl, by simp, by simp, a, b, trivial⟩
  | .whr _ _ _ _, _, ⟨p, x, y, e, q, a, b⟩ => ⟨p, _, e, q, rfl, by simp, by simp, a, b, trivial⟩
theorem pk_len : ∀ (ks : List Str) (vs : List V), (pk ks vs).length ≤ vs.length
  | [], vs => by
    unfold pk
    exact Nat.zero_le _
  | _ :: _, [] => Nat.le_refl _
  | k :: ks, v :: vs => by
    have := pk_len ks vs
    unfold pk
    split
    · rw [List.length_cons, List.length_cons]
      omega
    · rw [List.length_cons]
      omega

/-! ### spans -/
def mn (x y : Int) : Int := if y < x then y else x
def mx (x y : Int) : Int := if y > x then y else x
theorem mn_le (x y : Int) : mn x y ≤ x ∧ mn x y ≤ y := by unfold mn; split <;> omega
theorem le_mx (x y : Int) : x ≤ mx x y ∧ y ≤ mx x y := by unfold mx; split <;> omega
theorem mn_or (x y : Int) : mn x y = x ∨ mn x y = y := by unfold mn; split <;> simp
theorem mx_or (x y : Int) : mx x y = x ∨ mx x y = y := by unfold mx; split <;> simp
def ab (x : Int) : Int := if x < 0 then -x else x
def js : W4 → Int × Int → Int × Int → Int × Int
  | .sum, x, y => (x.1 + y.1, x.2 + y.2)
  | .less, x, y => (x.1 - y.2, x.2 - y.1)
  | .least, x, y => (mn x.1 y.1, mn x.2 y.2)
  | .most, x, y => (mx x.1 y.1, mx x.2 y.2)
def spn : Ex → Int × Int
  | .fig c => (c, c)
  | .reg _ => (-1000, 1000)
  | .share _ => (0, 1000)
  | .two w a b => js w (spn a) (spn b)
  | .times f a => (mn (f * (spn a).1) (f * (spn a).2), mx (f * (spn a).1) (f * (spn a).2))
  | .by _ a => (-1000 * mx (ab (spn a).1) (ab (spn a).2), 1000 * mx (ab (spn a).1) (ab (spn a).2))
  | .when _ _ a b => (mn (spn a).1 (spn b).1, mx (spn a).2 (spn b).2)
  | .whr _ _ a b => (mn (spn a).1 (spn b).1, mx (spn a).2 (spn b).2)
def SpAt (K : PySem.W.Frag) (H : Hp) (s : Int × Int) (v : V) : Prop := ∃ p, v = .ref p ∧ SqT K H p [.int s.1, .int s.2]
def SpsAt (K : PySem.W.Frag) (H : Hp) : List V → List (Int × Int) → Prop
  | [], [] => True
  | v :: vs, s :: ss => SpAt K H s v ∧ SpsAt K H vs ss
  | _, _ => False
theorem SpsAt.imp {K : PySem.W.Frag} {H H' : Hp} (h : ∀ p xs, SqT K H p xs → SqT K H' p xs) : ∀ {vs : List V} {ss : List (Int × Int)}, SpsAt K H vs ss → SpsAt K H' vs ss
  | [], [], _ => trivial
  | _ :: _, _ :: _, ⟨⟨p, e, q⟩, r⟩ => ⟨⟨p, e, h _ _ q⟩, SpsAt.imp h r⟩
theorem SpsAt.snoc {K : PySem.W.Frag} {H : Hp} {v : V} {s : Int × Int} (x : SpAt K H s v) : ∀ {vs : List V} {ss : List (Int × Int)}, SpsAt K H vs ss → SpsAt K H (vs ++ [v]) (ss ++ [s])
  | [], [], _ => ⟨x, trivial⟩
  | _ :: _, _ :: _, ⟨y, r⟩ => ⟨y, SpsAt.snoc x r⟩
theorem SpsAt.len {K : PySem.W.Frag} {H : Hp} : ∀ {vs : List V} {ss : List (Int × Int)}, SpsAt K H vs ss → vs.length = ss.length
  | [], [], _ => rfl
  | _ :: _, _ :: _, ⟨_, r⟩ => by rw [List.length_cons, List.length_cons, r.len]

theorem int_at {ns : List Int} {i : Nat} {v : V} (h : (ns.map V.int)[i]? = some v) : ∃ z : Int, v = .int z ∧ ns[i]? = some z := by
  rw [List.getElem?_map] at h
  cases e : ns[i]? with
  | none => rw [e] at h; cases h
  | some z => rw [e] at h; exact ⟨z, (Option.some.inj h).symm, rfl⟩
theorem SpsAt.one {K : PySem.W.Frag} {H : Hp} {us : List V} {s : Int × Int} (h : SpsAt K H us [s]) : ∃ p, us = [.ref p] ∧ SqT K H p [.int s.1, .int s.2] := by
  cases us with
  | nil => exact h.elim
  | cons u r =>
    cases r with
    | nil =>
      obtain ⟨⟨p, e, q⟩, _⟩ := h
      exact ⟨p, by rw [e], q⟩
    | cons _ _ => exact h.2.elim
theorem SpsAt.pair {K : PySem.W.Frag} {H : Hp} {us : List V} {s t : Int × Int} (h : SpsAt K H us [s, t]) : ∃ p q, us = [.ref p, .ref q] ∧ SqT K H p [.int s.1, .int s.2] ∧ SqT K H q [.int t.1, .int t.2] := by
  cases us with
  | nil => exact h.elim
  | cons u r =>
    obtain ⟨⟨p, e, q⟩, h2⟩ := h
    obtain ⟨p2, e2, q2⟩ := SpsAt.one h2
    exact ⟨p, p2, by rw [e, e2], q, q2⟩
theorem put_sqt {K : PySem.W.Frag} {H : Hp} {D p : Addr} {us us' xs : List V} (h : H D = some (.lst us)) (q : SqT K H p xs) : SqT K (upd H D (.lst us')) p xs := by
  rcases q with (q | ⟨o, q⟩) | q
  · exact .inl (.inl (by rw [upd_ne (ne_of q h (by intro z; cases z))]; exact q))
  · exact .inl (.inr ⟨o, by rw [upd_ne (ne_of q h (by intro z; cases z))]; exact q⟩)
  · exact .inr q
theorem RowsAt.get' {K : PySem.W.Frag} {H : Hp} : ∀ {vs : List V} {es : List Ex} {k : Nat} {v : V}, RowsAt K H vs es → vs[k]? = some v → ∃ e, es[k]? = some e ∧ ExAt K H e v
  | [], [], _, _, _, h => by simp at h
  | v' :: vs, e :: es, 0, v, ⟨x, r⟩, h => by
    have : v' = v := Option.some.inj h
    subst this
    exact ⟨e, rfl, x⟩
  | v' :: vs, e :: es, k + 1, v, ⟨x, r⟩, h => RowsAt.get' (k := k) r h
theorem mn_of {m a b : Int} (h : m ∈ [a, b]) (hl : ∀ y ∈ [a, b], m ≤ y) : m = mn a b := by
  have h1 := hl a (by simp)
  have h2 := hl b (by simp)
  simp only [List.mem_cons, List.not_mem_nil, or_false] at h
  unfold mn
  split <;> omega
theorem mx_of {m a b : Int} (h : m ∈ [a, b]) (hl : ∀ y ∈ [a, b], y ≤ m) : m = mx a b := by
  have h1 := hl a (by simp)
  have h2 := hl b (by simp)
  simp only [List.mem_cons, List.not_mem_nil, or_false] at h
  unfold mx
  split <;> omega

/-! ### promises -/
def spParts (K : PySem.W.Frag) : Sp := fun vs H Q _ => ∃ (v : V) (e : Ex), vs = [v] ∧ ExAt K H e v ∧ ∀ H' p xs, Same H H' → H p = none → H' p = some (.lst xs) → RowsAt K H' xs e.kids → Q (.ref p) H'
def spJoinS (K : PySem.W.Frag) : Sp := fun vs H Q _ => ∃ (e : Ex) (x y : V) (s t : Int × Int), vs = [.str (wordOf e), x, y] ∧ SpAt K H s x ∧ SpAt K H t y ∧
  ((∃ w a b, e = .two w a b ∧ ∀ H' v, Same H H' → SpAt K H' (js w s t) v → Q v H') ∨ ((∃ i c a b, e = .when i c a b) ∨ (∃ i c a b, e = .whr i c a b)) ∧ ∀ H' v, Same H H' → SpAt K H' (mn s.1 t.1, mx s.2 t.2) v → Q v H')
def spSpan (K : PySem.W.Frag) (n : Nat) : Sp := fun vs H Q _ => ∃ (v : V) (e : Ex) (many : Nat), vs = [v] ∧ ExAt K H e v ∧ ExOk many e ∧ e.dep ≤ n ∧ ∀ H' u, Same H H' → SpAt K H' (spn e) u → Q u H'
theorem kids_dep : ∀ (e : Ex) (k : Ex), k ∈ e.kids → k.dep + 1 ≤ e.dep
  | .fig _, k, h => by cases h
  | .reg _, k, h => by cases h
  | .share _, k, h => by cases h
  | .two w0 a b, k, h => by
    simp only [Ex.kids, List.mem_cons, List.not_mem_nil, or_false] at h
    have e : Ex.dep (.two w0 a b) = max a.dep b.dep + 1 := rfl
    rw [e]
    rcases h with rfl | rfl <;> omega
  | .times _ a, k, h => by
    simp only [Ex.kids, List.mem_cons, List.not_mem_nil, or_false] at h
    subst h
    exact Nat.le_refl _
  | .by _ a, k, h => by
    simp only [Ex.kids, List.mem_cons, List.not_mem_nil, or_false] at h
    subst h
    exact Nat.le_refl _
  | .when i0 c0 a b, k, h => by
    simp only [Ex.kids, List.mem_cons, List.not_mem_nil, or_false] at h
    have e : Ex.dep (.when i0 c0 a b) = max a.dep b.dep + 1 := rfl
    rw [e]
    rcases h with rfl | rfl <;> omega
  | .whr i0 c0 a b, k, h => by
    simp only [Ex.kids, List.mem_cons, List.not_mem_nil, or_false] at h
    have e : Ex.dep (.whr i0 c0 a b) = max a.dep b.dep + 1 := rfl
    rw [e]
    rcases h with rfl | rfl <;> omega
theorem kids_ok {many : Nat} : ∀ (e : Ex) (k : Ex), ExOk many e → k ∈ e.kids → ExOk many k
  | .fig _, k, _, h => by cases h
  | .reg _, k, _, h => by cases h
  | .share _, k, _, h => by cases h
  | .two _ a b, k, o, h => by
    simp only [Ex.kids, List.mem_cons, List.not_mem_nil, or_false] at h
    rcases h with rfl | rfl
    · exact o.1
    · exact o.2
  | .times _ a, k, o, h => by
    simp only [Ex.kids, List.mem_cons, List.not_mem_nil, or_false] at h
    subst h
    exact o.2
  | .by _ a, k, o, h => by
    simp only [Ex.kids, List.mem_cons, List.not_mem_nil, or_false] at h
    subst h
    exact o.2
  | .when _ _ a b, k, o, h => by
    simp only [Ex.kids, List.mem_cons, List.not_mem_nil, or_false] at h
    rcases h with rfl | rfl
    · exact o.2.2.1
    · exact o.2.2.2
  | .whr _ _ a b, k, o, h => by
    simp only [Ex.kids, List.mem_cons, List.not_mem_nil, or_false] at h
    rcases h with rfl | rfl
    · exact o.2.2.1
    · exact o.2.2.2
end NG

namespace NG
open PySem PySem.Spec PyProof.Rows L2
/-! ### what stands around an expression -/
inductive Cx1 where
  | l (w : W4) (x : Ex) | r (w : W4) (x : Ex) | times (f : Int) | by (i : Nat)
  | whenL (i : Nat) (c : Int) (x : Ex) | whenR (i : Nat) (c : Int) (x : Ex) | whrL (j : Nat) (c : Int) (x : Ex) | whrR (j : Nat) (c : Int) (x : Ex)
def Cx1.put : Cx1 → Ex → Ex
  | .l w x, e => .two w e x
  | .r w x, e => .two w x e
  | .times f, e => .times f e
  | .by i, e => .by i e
  | .whenL i c x, e => .when i c e x
  | .whenR i c x, e => .when i c x e
  | .whrL j c x, e => .whr j c e x
  | .whrR j c x, e => .whr j c x e
def Cx1.lay (u : V) : Cx1 → List V × List V
  | .l w _ => ([.str (wn w)], [u])
  | .r w _ => ([.str (wn w), u], [])
  | .times f => ([.str "times", .int f], [])
  | .by i => ([.str "by", .int (i : Int)], [])
  | .whenL i c _ => ([.str "when", .int (i : Int), .int c], [u])
  | .whenR i c _ => ([.str "when", .int (i : Int), .int c, u], [])
  | .whrL j c _ => ([.str "where", .int (j : Int), .int c], [u])
  | .whrR j c _ => ([.str "where", .int (j : Int), .int c, u], [])
def Cx1.leaf (K : PySem.W.Frag) (H : Hp) (u : V) : Cx1 → Prop
  | .l _ x => ExAt K H x u
  | .r _ x => ExAt K H x u
  | .times _ => True
  | .by _ => True
  | .whenL _ _ x => ExAt K H x u
  | .whenR _ _ x => ExAt K H x u
  | .whrL _ _ x => ExAt K H x u
  | .whrR _ _ x => ExAt K H x u
def Cx1.ok (many : Nat) : Cx1 → Prop
  | .l _ x => ExOk many x ∧ x.dep ≤ 1
  | .r _ x => ExOk many x ∧ x.dep ≤ 1
  | .times f => -9 ≤ f ∧ f ≤ 9
  | .by i => i < 4
  | .whenL i c x => i < 4 ∧ (-1000 ≤ c ∧ c ≤ 1000) ∧ ExOk many x ∧ x.dep ≤ 1
  | .whenR i c x => i < 4 ∧ (-1000 ≤ c ∧ c ≤ 1000) ∧ ExOk many x ∧ x.dep ≤ 1
  | .whrL j c x => j < many ∧ (1 ≤ c ∧ c ≤ 1000) ∧ ExOk many x ∧ x.dep ≤ 1
  | .whrR j c x => j < many ∧ (1 ≤ c ∧ c ≤ 1000) ∧ ExOk many x ∧ x.dep ≤ 1
def CtxAt (K : PySem.W.Frag) (H : Hp) (c : Cx1) (v : V) : Prop := ∃ (p pa pr : Addr) (u : V), v = .ref p ∧ SqT K H p [.ref pa, .ref pr] ∧ SqT K H pa (c.lay u).1 ∧ SqT K H pr (c.lay u).2 ∧ c.leaf K H u
theorem CtxAt.imp {K : PySem.W.Frag} {H H' : Hp} {c : Cx1} {v : V} (x : CtxAt K H c v) (h : ∀ p xs, SqT K H p xs → SqT K H' p xs) : CtxAt K H' c v := by
  obtain ⟨p, pa, pr, u, e, q1, q2, q3, lf⟩ := x
  refine ⟨p, pa, pr, u, e, h _ _ q1, h _ _ q2, h _ _ q3, ?_⟩
  cases c with
  | l w x => exact ExAt.imp h lf
  | r w x => exact ExAt.imp h lf
  | times f => trivial
  | «by» i => trivial
  | whenL i c x => exact ExAt.imp h lf
  | whenR i c x => exact ExAt.imp h lf
  | whrL i c x => exact ExAt.imp h lf
  | whrR i c x => exact ExAt.imp h lf
def CtxsAt (K : PySem.W.Frag) (H : Hp) : List V → List Cx1 → Prop
  | [], [] => True
  | v :: vs, c :: cs => CtxAt K H c v ∧ CtxsAt K H vs cs
  | _, _ => False
theorem CtxsAt.imp {K : PySem.W.Frag} {H H' : Hp} (h : ∀ p xs, SqT K H p xs → SqT K H' p xs) : ∀ {vs : List V} {cs : List Cx1}, CtxsAt K H vs cs → CtxsAt K H' vs cs
  | [], [], _ => trivial
  | _ :: _, _ :: _, ⟨x, r⟩ => ⟨x.imp h, CtxsAt.imp h r⟩
theorem CtxsAt.len {K : PySem.W.Frag} {H : Hp} : ∀ {vs : List V} {cs : List Cx1}, CtxsAt K H vs cs → vs.length = cs.length
  | [], [], _ => rfl
  | _ :: _, _ :: _, ⟨_, r⟩ => by rw [List.length_cons, List.length_cons, r.len]
theorem CtxsAt.snoc {K : PySem.W.Frag} {H : Hp} {v : V} {c : Cx1} (x : CtxAt K H c v) : ∀ {vs : List V} {cs : List Cx1}, CtxsAt K H vs cs → CtxsAt K H (vs ++ [v]) (cs ++ [c])
  | [], [], _ => ⟨x, trivial⟩
  | _ :: _, _ :: _, ⟨y, r⟩ => ⟨y, CtxsAt.snoc x r⟩
theorem CtxsAt.get' {K : PySem.W.Frag} {H : Hp} : ∀ {vs : List V} {cs : List Cx1} {k : Nat} {v : V}, CtxsAt K H vs cs → vs[k]? = some v → ∃ c, cs[k]? = some c ∧ CtxAt K H c v
  | [], [], _, _, _, h => by simp at h
  | v' :: vs, e :: es, 0, v, ⟨x, r⟩, h => by
    have : v' = v := Option.some.inj h
    subst this
    exact ⟨e, rfl, x⟩
  | v' :: vs, e :: es, k + 1, v, ⟨x, r⟩, h => CtxsAt.get' (k := k) r h
theorem put_at {K : PySem.W.Frag} {H : Hp} {c : Cx1} {u v : V} {e : Ex} {p : Addr} (hp : SqT K H p ((c.lay u).1 ++ [v] ++ (c.lay u).2)) (lf : c.leaf K H u) (he : ExAt K H e v) : ExAt K H (c.put e) (.ref p) := by
  cases c with
  | l w x => exact ⟨p, v, u, rfl, hp, he, lf⟩
  | r w x => exact ⟨p, u, v, rfl, hp, lf, he⟩
  | times f => exact ⟨p, v, rfl, hp, he⟩
  | «by» i => exact ⟨p, v, rfl, hp, he⟩
  | whenL i c x => exact ⟨p, v, u, rfl, hp, he, lf⟩
  | whenR i c x => exact ⟨p, u, v, rfl, hp, lf, he⟩
  | whrL i c x => exact ⟨p, v, u, rfl, hp, he, lf⟩
  | whrR i c x => exact ⟨p, u, v, rfl, hp, lf, he⟩
theorem put_ok {many : Nat} {c : Cx1} {e : Ex} (o : c.ok many) (oe : ExOk many e) : ExOk many (c.put e) := by
  cases c with
  | l w x => exact ⟨oe, o.1⟩
  | r w x => exact ⟨o.1, oe⟩
  | times f => exact ⟨o, oe⟩
  | «by» i => exact ⟨o, oe⟩
  | whenL i c x => exact ⟨o.1, o.2.1, oe, o.2.2.1⟩
  | whenR i c x => exact ⟨o.1, o.2.1, o.2.2.1, oe⟩
  | whrL i c x => exact ⟨o.1, o.2.1, oe, o.2.2.1⟩
  | whrR i c x => exact ⟨o.1, o.2.1, o.2.2.1, oe⟩
theorem dep_pos (e : Ex) : 1 ≤ e.dep := by cases e <;> (unfold Ex.dep; omega)
theorem put_dep {many : Nat} {c : Cx1} {e : Ex} (o : c.ok many) : (c.put e).dep ≤ e.dep + 1 := by
  have he := dep_pos e
  cases c with
  | l w x => show max e.dep x.dep + 1 ≤ _; have := o.2; omega
  | r w x => show max x.dep e.dep + 1 ≤ _; have := o.2; omega
  | times f => exact Nat.le_refl _
  | «by» i => exact Nat.le_refl _
  | whenL i c x => show max e.dep x.dep + 1 ≤ _; have := o.2.2.2; omega
  | whenR i c x => show max x.dep e.dep + 1 ≤ _; have := o.2.2.2; omega
  | whrL i c x => show max e.dep x.dep + 1 ≤ _; have := o.2.2.2; omega
  | whrR i c x => show max x.dep e.dep + 1 ≤ _; have := o.2.2.2; omega
def putAll (cs : List Cx1) (e : Ex) : Ex := cs.foldl (fun e c => c.put e) e
theorem putAll_ok {many : Nat} : ∀ {cs : List Cx1} {e : Ex}, (∀ c ∈ cs, c.ok many) → ExOk many e → ExOk many (putAll cs e)
  | [], _, _, h => h
  | c :: cs, e, o, h => putAll_ok (cs := cs) (e := c.put e) (fun c' h' => o c' (List.mem_cons_of_mem _ h')) (put_ok (o c List.mem_cons_self) h)
theorem putAll_dep {many : Nat} : ∀ {cs : List Cx1} {e : Ex}, (∀ c ∈ cs, c.ok many) → (putAll cs e).dep ≤ e.dep + cs.length
  | [], _, _ => Nat.le_refl _
  | c :: cs, e, o => by
    have h1 := putAll_dep (cs := cs) (e := c.put e) (fun c' h' => o c' (List.mem_cons_of_mem _ h'))
    have h2 := put_dep (e := e) (o c List.mem_cons_self)
    show (putAll cs (c.put e)).dep ≤ _
    rw [List.length_cons]
    omega
def fac1 (rs : List Int) (F : Int) : Cx1 → Int
  | .times f => F * f
  | .by i => F * rs.getD i 0
  | .r .less _ => 0 - F
  | _ => F
def fac (rs : List Int) (cs : List Cx1) : Int := cs.foldl (fac1 rs) 1

/-! ### a greater part put in -/
def Btw (d m : Int) : Prop := (0 ≤ d ∧ d ≤ m) ∨ (m ≤ d ∧ d ≤ 0)
theorem btw_mul {f d m : Int} (h : Btw d m) : Btw (f * d) (f * m) := by
  rcases Int.le_total 0 f with hf | hf
  · rcases h with ⟨h1, h2⟩ | ⟨h1, h2⟩
    · exact .inl ⟨Int.mul_nonneg hf h1, Int.mul_le_mul_of_nonneg_left h2 hf⟩
    · exact .inr ⟨Int.mul_le_mul_of_nonneg_left h1 hf, Int.mul_nonpos_of_nonneg_of_nonpos hf h2⟩
  · rcases h with ⟨h1, h2⟩ | ⟨h1, h2⟩
    · exact .inr ⟨Int.mul_le_mul_of_nonpos_left hf h2, Int.mul_nonpos_of_nonpos_of_nonneg hf h1⟩
    · exact .inl ⟨Int.mul_nonneg_of_nonpos_of_nonpos hf h2, Int.mul_le_mul_of_nonpos_left hf h1⟩
theorem btw_zero {m : Int} : Btw 0 m := by
  unfold Btw
  omega
theorem btw_jw {d m x y z : Int} (w : W4) (h : Btw d m) (e : d = y - x) (hw : w ≠ .less) : Btw (jw w y z - jw w x z) m := by
  unfold Btw at *
  cases w with
  | sum => simp only [jw]; omega
  | less => exact absurd rfl hw
  | least => simp only [jw]; split <;> split <;> omega
  | most => simp only [jw]; split <;> split <;> omega
theorem btw_jw' {d m x y z : Int} (w : W4) (h : Btw d m) (e : d = y - x) (hw : w ≠ .less) : Btw (jw w z y - jw w z x) m := by
  unfold Btw at *
  cases w with
  | sum => simp only [jw]; omega
  | less => exact absurd rfl hw
  | least => simp only [jw]; split <;> split <;> omega
  | most => simp only [jw]; split <;> split <;> omega
theorem btw_step {rs ss : List Int} {c : Cx1} {e1 e2 : Ex} {F P : Int} (h : Btw (wo rs ss e2 - wo rs ss e1) (F * P)) : Btw (wo rs ss (c.put e2) - wo rs ss (c.put e1)) (fac1 rs F c * P) := by
  cases c with
  | l w x =>
    cases w with
    | less =>
      show Btw ((wo rs ss e2 - wo rs ss x) - (wo rs ss e1 - wo rs ss x)) (F * P)
      rw [show (wo rs ss e2 - wo rs ss x) - (wo rs ss e1 - wo rs ss x) = wo rs ss e2 - wo rs ss e1 by omega]
      exact h
    | sum => exact btw_jw .sum h rfl (by simp)
    | least => exact btw_jw .least h rfl (by simp)
    | most => exact btw_jw .most h rfl (by simp)
  | r w x =>
    cases w with
    | less =>
      show Btw ((wo rs ss x - wo rs ss e2) - (wo rs ss x - wo rs ss e1)) ((0 - F) * P)
      rw [Int.sub_mul, Int.zero_mul]
      unfold Btw at *
      omega
    | sum => exact btw_jw' .sum h rfl (by simp)
    | least => exact btw_jw' .least h rfl (by simp)
    | most => exact btw_jw' .most h rfl (by simp)
  | times f =>
    show Btw (f * wo rs ss e2 - f * wo rs ss e1) (F * f * P)
    rw [← Int.mul_sub, Int.mul_comm F f, Int.mul_assoc]
    exact btw_mul h
  | «by» i =>
    show Btw (rs.getD i 0 * wo rs ss e2 - rs.getD i 0 * wo rs ss e1) (F * rs.getD i 0 * P)
    rw [← Int.mul_sub, Int.mul_comm F, Int.mul_assoc]
    exact btw_mul h
  | whenL i c x =>
    show Btw ((if rs.getD i 0 < c then wo rs ss e2 else wo rs ss x) - (if rs.getD i 0 < c then wo rs ss e1 else wo rs ss x)) (F * P)
    split
    · exact h
    · rw [Int.sub_self]
      exact btw_zero
  | whenR i c x =>
    show Btw ((if rs.getD i 0 < c then wo rs ss x else wo rs ss e2) - (if rs.getD i 0 < c then wo rs ss x else wo rs ss e1)) (F * P)
    split
    · rw [Int.sub_self]
      exact btw_zero
    · exact h
  | whrL j c x =>
    show Btw ((if 1000 * ss.getD j 0 < c * ss.sum then wo rs ss e2 else wo rs ss x) - (if 1000 * ss.getD j 0 < c * ss.sum then wo rs ss e1 else wo rs ss x)) (F * P)
    split
    · exact h
    · rw [Int.sub_self]
      exact btw_zero
  | whrR j c x =>
    show Btw ((if 1000 * ss.getD j 0 < c * ss.sum then wo rs ss x else wo rs ss e2) - (if 1000 * ss.getD j 0 < c * ss.sum then wo rs ss x else wo rs ss e1)) (F * P)
    split
    · rw [Int.sub_self]
      exact btw_zero
    · exact h
theorem btw_all {rs ss : List Int} {P : Int} : ∀ {cs : List Cx1} {e1 e2 : Ex} {F : Int}, Btw (wo rs ss e2 - wo rs ss e1) (F * P) → Btw (wo rs ss (putAll cs e2) - wo rs ss (putAll cs e1)) (cs.foldl (fac1 rs) F * P)
  | [], _, _, _, h => h
  | c :: cs, e1, e2, F, h => btw_all (cs := cs) (e1 := c.put e1) (e2 := c.put e2) (F := fac1 rs F c) (btw_step h)
theorem moved {rs ss : List Int} {cs : List Cx1} {e : Ex} {p : Int} (h : 0 ≤ p * ss.sum) : Btw (wo rs ss (putAll cs (.two .sum e (.fig p))) - wo rs ss (putAll cs e)) (fac rs cs * p * ss.sum) := by
  rw [Int.mul_assoc]
  refine btw_all (F := 1) ?_
  show Btw (wo rs ss e + p * ss.sum - wo rs ss e) (1 * (p * ss.sum))
  rw [Int.one_mul]
  unfold Btw
  omega

/-! ### worths lie in their spans -/
theorem le_sum : ∀ {ss : List Int} {j : Nat}, (∀ x ∈ ss, 0 ≤ x) → j < ss.length → ss.getD j 0 ≤ ss.sum
  | [], _, _, h => by simp at h
  | x :: ss, 0, h, _ => by
    have := sum_nonneg (ms := ss) fun y hy => h y (List.mem_cons_of_mem _ hy)
    show x ≤ (x :: ss).sum
    rw [List.sum_cons]
    omega
  | x :: ss, j + 1, h, hj => by
    have h1 := le_sum (ss := ss) (j := j) (fun y hy => h y (List.mem_cons_of_mem _ hy)) (by simpa using hj)
    have h2 := h x List.mem_cons_self
    show ss.getD j 0 ≤ (x :: ss).sum
    rw [List.sum_cons]
    omega
theorem spn_le : ∀ e : Ex, (spn e).1 ≤ (spn e).2
  | .fig _ => Int.le_refl _
  | .reg _ => by
    show (-1000 : Int) ≤ 1000
    decide
  | .share _ => by
    show (0 : Int) ≤ 1000
    decide
  | .two w a b => by
    have ha := spn_le a
    have hb := spn_le b
    show (js w (spn a) (spn b)).1 ≤ (js w (spn a) (spn b)).2
    cases w with
    | sum => show _ + _ ≤ _ + _; omega
    | less => show _ - _ ≤ _ - _; omega
    | least => show mn _ _ ≤ mn _ _; unfold mn; split <;> split <;> omega
    | most => show mx _ _ ≤ mx _ _; unfold mx; split <;> split <;> omega
  | .times f a => by
    show mn _ _ ≤ mx _ _
    unfold mn mx
    split <;> split <;> omega
  | .by _ a => by
    have h1 : 0 ≤ ab (spn a).1 := by unfold ab; split <;> omega
    have h2 := le_mx (ab (spn a).1) (ab (spn a).2)
    show -1000 * _ ≤ 1000 * _
    omega
  | .when _ _ a b => by
    have ha := spn_le a
    have h1 := mn_le (spn a).1 (spn b).1
    have h2 := le_mx (spn a).2 (spn b).2
    show mn _ _ ≤ mx _ _
    omega
  | .whr _ _ a b => by
    have ha := spn_le a
    have h1 := mn_le (spn a).1 (spn b).1
    have h2 := le_mx (spn a).2 (spn b).2
    show mn _ _ ≤ mx _ _
    omega
theorem mulr_le {a b n : Int} (h : a ≤ b) (hn : 0 ≤ n) : a * n ≤ b * n := Int.mul_le_mul_of_nonneg_right h hn
theorem in_span {many : Nat} {rs ss : List Int} (hr : rs.length = 4) (hrb : ∀ x ∈ rs, -1000 ≤ x ∧ x ≤ 1000) (hs : ss.length = many) (hsb : ∀ x ∈ ss, 0 ≤ x) : ∀ e : Ex, ExOk many e → (spn e).1 * ss.sum ≤ wo rs ss e ∧ wo rs ss e ≤ (spn e).2 * ss.sum
  | .fig c, _ => ⟨Int.le_refl _, Int.le_refl _⟩
  | .reg i, o => by
    have hn := sum_nonneg hsb
    have h := hrb _ (getD_mem (ns := rs) (i := i) (by rw [hr]; exact o))
    exact ⟨mulr_le h.1 hn, mulr_le h.2 hn⟩
  | .share j, o => by
    have o : j < many := o
    have h1 := le_sum (j := j) hsb (by omega)
    have h2 := hsb _ (getD_mem (ns := ss) (i := j) (by omega))
    show 0 * ss.sum ≤ 1000 * ss.getD j 0 ∧ 1000 * ss.getD j 0 ≤ 1000 * ss.sum
    omega
  | .two w a b, o => by
    have ha := in_span hr hrb hs hsb a o.1
    have hb := in_span hr hrb hs hsb b o.2
    have hn := sum_nonneg hsb
    show (js w (spn a) (spn b)).1 * ss.sum ≤ jw w (wo rs ss a) (wo rs ss b) ∧ jw w (wo rs ss a) (wo rs ss b) ≤ (js w (spn a) (spn b)).2 * ss.sum
    cases w with
    | sum =>
      show ((spn a).1 + (spn b).1) * ss.sum ≤ wo rs ss a + wo rs ss b ∧ wo rs ss a + wo rs ss b ≤ ((spn a).2 + (spn b).2) * ss.sum
      rw [Int.add_mul, Int.add_mul]
      omega
    | less =>
      show ((spn a).1 - (spn b).2) * ss.sum ≤ wo rs ss a - wo rs ss b ∧ wo rs ss a - wo rs ss b ≤ ((spn a).2 - (spn b).1) * ss.sum
      rw [Int.sub_mul, Int.sub_mul]
      omega
    | least =>
      have h1 := mn_le (spn a).1 (spn b).1
      have h3 := mulr_le h1.1 hn
      have h4 := mulr_le h1.2 hn
      have h5 := mn_or (spn a).2 (spn b).2
      show mn (spn a).1 (spn b).1 * ss.sum ≤ (if wo rs ss b < wo rs ss a then wo rs ss b else wo rs ss a) ∧ (if wo rs ss b < wo rs ss a then wo rs ss b else wo rs ss a) ≤ mn (spn a).2 (spn b).2 * ss.sum
      rcases h5 with h5 | h5 <;> rw [h5] <;> split <;> omega
    | most =>
      have h1 := le_mx (spn a).2 (spn b).2
      have h3 := mulr_le h1.1 hn
      have h4 := mulr_le h1.2 hn
      have h5 := mx_or (spn a).1 (spn b).1
      show mx (spn a).1 (spn b).1 * ss.sum ≤ (if wo rs ss b > wo rs ss a then wo rs ss b else wo rs ss a) ∧ (if wo rs ss b > wo rs ss a then wo rs ss b else wo rs ss a) ≤ mx (spn a).2 (spn b).2 * ss.sum
      rcases h5 with h5 | h5 <;> rw [h5] <;> split <;> omega
  | .times f a, o => by
    have ha := in_span hr hrb hs hsb a o.2
    have hn := sum_nonneg hsb
    have m1 := mn_le (f * (spn a).1) (f * (spn a).2)
    have m2 := le_mx (f * (spn a).1) (f * (spn a).2)
    have n1 := mulr_le m1.1 hn
    have n2 := mulr_le m1.2 hn
    have n3 := mulr_le m2.1 hn
    have n4 := mulr_le m2.2 hn
    rw [Int.mul_assoc] at n1 n2 n3 n4
    show mn _ _ * ss.sum ≤ f * wo rs ss a ∧ f * wo rs ss a ≤ mx _ _ * ss.sum
    rcases Int.le_total 0 f with hf | hf
    · have p1 := Int.mul_le_mul_of_nonneg_left ha.1 hf
      have p2 := Int.mul_le_mul_of_nonneg_left ha.2 hf
      omega
    · have p1 := Int.mul_le_mul_of_nonpos_left hf ha.1
      have p2 := Int.mul_le_mul_of_nonpos_left hf ha.2
      omega
  | .by i a, o => by
    have ha := in_span hr hrb hs hsb a o.2
    have hn := sum_nonneg hsb
    have hg := hrb _ (getD_mem (ns := rs) (i := i) (by rw [hr]; exact o.1))
    generalize ht : mx (ab (spn a).1) (ab (spn a).2) = t
    have t1 : -t ≤ (spn a).1 ∧ (spn a).2 ≤ t := by
      have h2 := le_mx (ab (spn a).1) (ab (spn a).2)
      rw [ht] at h2
      have h3 : -(spn a).1 ≤ ab (spn a).1 := by unfold ab; split <;> omega
      have h4 : (spn a).2 ≤ ab (spn a).2 := by unfold ab; split <;> omega
      omega
    have w1 : -(t * ss.sum) ≤ wo rs ss a := by
      have := mulr_le t1.1 hn
      rw [Int.neg_mul] at this
      omega
    have w2 : wo rs ss a ≤ t * ss.sum := by
      have := mulr_le t1.2 hn
      omega
    show (-1000 * mx (ab (spn a).1) (ab (spn a).2)) * ss.sum ≤ rs.getD i 0 * wo rs ss a ∧ rs.getD i 0 * wo rs ss a ≤ (1000 * mx (ab (spn a).1) (ab (spn a).2)) * ss.sum
    rw [ht, Int.mul_assoc, Int.mul_assoc]
    generalize rs.getD i 0 = g at *
    generalize t * ss.sum = T at *
    generalize wo rs ss a = x at *
    have hT : 0 ≤ T := by omega
    rcases Int.le_total 0 g with hgn | hgn
    · have p1 := Int.mul_le_mul_of_nonneg_left w1 hgn
      have p2 := Int.mul_le_mul_of_nonneg_left w2 hgn
      have p3 := Int.mul_le_mul_of_nonneg_right hg.2 hT
      rw [Int.mul_neg] at p1
      omega
    · have p1 := Int.mul_le_mul_of_nonpos_left hgn w1
      have p2 := Int.mul_le_mul_of_nonpos_left hgn w2
      have p3 := Int.mul_le_mul_of_nonneg_right hg.1 hT
      rw [Int.mul_neg] at p1
      omega
  | .when i c a b, o => by
    have ha := in_span hr hrb hs hsb a o.2.2.1
    have hb := in_span hr hrb hs hsb b o.2.2.2
    have hn := sum_nonneg hsb
    have m1 := mn_le (spn a).1 (spn b).1
    have m2 := le_mx (spn a).2 (spn b).2
    have n1 := mulr_le m1.1 hn
    have n2 := mulr_le m1.2 hn
    have n3 := mulr_le m2.1 hn
    have n4 := mulr_le m2.2 hn
    show mn _ _ * ss.sum ≤ (if rs.getD i 0 < c then wo rs ss a else wo rs ss b) ∧ (if rs.getD i 0 < c then wo rs ss a else wo rs ss b) ≤ mx _ _ * ss.sum
    split <;> omega
  | .whr j c a b, o => by
    have ha := in_span hr hrb hs hsb a o.2.2.1
    have hb := in_span hr hrb hs hsb b o.2.2.2
    have hn := sum_nonneg hsb
    have m1 := mn_le (spn a).1 (spn b).1
    have m2 := le_mx (spn a).2 (spn b).2
    have n1 := mulr_le m1.1 hn
    have n2 := mulr_le m1.2 hn
    have n3 := mulr_le m2.1 hn
    have n4 := mulr_le m2.2 hn
    show mn _ _ * ss.sum ≤ (if 1000 * ss.getD j 0 < c * ss.sum then wo rs ss a else wo rs ss b) ∧ (if 1000 * ss.getD j 0 < c * ss.sum then wo rs ss a else wo rs ss b) ≤ mx _ _ * ss.sum
    split <;> omega

/-! ### promises -/
def spAround (K : PySem.W.Frag) : Sp := fun vs H Q _ => ∃ (a : Addr) (many n : Nat), vs = [.ref a, .int (many : Int)] ∧ 2 ≤ many ∧ many ≤ 3 ∧ HandAt H a n ∧ n ≤ 999998000 ∧
  ∀ H' p xs cs, But a H H' → HandAt H' a (n + 90) → p ≠ a → H' p = some (.lst xs) → CtxsAt K H' xs cs → (∀ c ∈ cs, c.ok many) → cs.length ≤ 4 → Q (.ref p) H'
def spPut (K : PySem.W.Frag) : Sp := fun vs H Q _ => ∃ (p : Addr) (v : V) (xs : List V) (cs : List Cx1) (e : Ex), vs = [.ref p, v] ∧ H p = some (.lst xs) ∧ CtxsAt K H xs cs ∧ ExAt K H e v ∧ ∀ H' u, Same H H' → ExAt K H' (putAll cs e) u → Q u H'
def spFac (K : PySem.W.Frag) (many : Nat) : Sp := fun vs H Q _ => ∃ (p : Addr) (r : V) (xs : List V) (cs : List Cx1) (rs : List Int), vs = [.ref p, r] ∧ H p = some (.lst xs) ∧ CtxsAt K H xs cs ∧ (∀ c ∈ cs, c.ok many) ∧ RegsAt K H rs r ∧ Q (.int (fac rs cs)) H
end NG

namespace NG
open PySem PySem.Spec PyProof.Rows L2

/-! ### xs[::-1] -/
theorem pe_revL {X : Cx} {e st : Expr} {te ts : TE} {pos p2 : Pos} (he : PE X e te) (hs : PE X st ts) : PE X (.Subscript e (.Slice none none (some st) p2) pos)
    (fun σ H Q => te σ H fun x H1 => ts σ H1 fun y H2 => y = .int (-1) ∧ ∃ a xs, x = .ref a ∧ SqL X.K H2 a xs ∧ ∀ p, H2 p = none → Q (.ref p) (upd H2 p (.lst xs.reverse))) := by
  refine ⟨fun pins s σ H Q I h => ?_⟩
  refine Subscript_ (thn (he.run pins s σ H _ I h) fun v s1 ⟨x, H1, I1, r1, q1⟩ => ?_)
  refine wpAny_Slice ?_
  rw [evalPart_none]
  refine wpAny_pure (wpAny_pure ?_)
  rw [evalPart_some]
  refine thn (hs.run pins s1 σ H1 _ I1 q1) fun vk s2 ⟨y, H2, I2, r2, q2⟩ => ?_
  obtain ⟨rfl, a, xs, rfl, hx, q⟩ := q2
  obtain ⟨t, rfl⟩ := r2
  cases r1
  obtain ⟨its, rv, ht, hz⟩ := I2.list hx
  have I3 : Inv X pins σ H2 { s2 with heap := s2.heap.push { cls := .type "slice", data := .fields #[.none, .none, .int (-1) t] } } := I2.kept (t' := s2.toks) fun b ob q => Heap.get?_push_of_some _ q
  obtain ⟨its', rv', ht', _⟩ := I3.list hx
  have hl := rv'.length
  refine tail_any (ops := [.ref a, .ref s2.heap.objs.size]) ht'.isList.typeIs slot_list_getitem.lookup ?_ (by with_unfolding_all rfl)
  refine wpAny_getItem_list_slice ht'.isList (Heap.IsSliceOf.new ..) .none .none (.int (-1) t) (by decide) ?_ (by rw [List.size_toArray]; omega)
  rw [PySem.W.krv_pick]
  refine ⟨.ref _, _, I3.laid (t' := s2.toks) (o := .lst xs.reverse) (fun b ob q => Heap.get?_push_of_some _ q) (Nat.le_refl _) ?_, rfl, q _ (I3.hok.fresh (Nat.le_refl _))⟩
  refine ⟨by rw [List.length_reverse]; exact hz, its'.reverse, 0, ?_, Heap.get?_push_size _ rfl⟩
  have rev : ∀ {xs : List V} {us : List Value}, Vals xs us → Vals xs.reverse us.reverse := by
    intro xs us r
    induction r with
    | nil => exact .nil
    | cons h t ih =>
      rw [List.reverse_cons, List.reverse_cons]
      exact ih.append (.cons h .nil)
  exact rev rv'

/-! ### calls by keywords alone, handed in from the last parameter to the first -/
theorem Vals.rev {xs : List V} {us : List Value} (r : Vals xs us) : Vals xs.reverse us.reverse := by
  induction r with
  | nil => exact .nil
  | cons h t ih =>
    rw [List.reverse_cons, List.reverse_cons]
    exact ih.append (.cons h .nil)
structure CalK (P : Program) (w : World) (K : PySem.W.Frag) (mg : Str → Option Value) (base : Heap) (k : Nat) (x : Str) (ks : List Str) (sp : Sp) : Prop where
  ex : ∃ (f : Addr) (fd : FuncData), FnG P w K mg base k f fd ks.reverse sp ∧ mg x = some (.ref f) ∧ PySem.W.keepIn K (.ref f) = true ∧ ∀ (s : Shared) (ws : List Value), ws.length = ks.length → BindsTo s fd ⟨[], ks.zip ws⟩ (ks.reverse.zip ws.reverse)
section
variable {X : Cx} {k j : Nat} {x : Str} {ks : List Str} {sp : Sp} {p pos : Pos} {kws : List Keyword} {tk : TA}
theorem pe_kw (c : CalK X.prog X.w X.K X.mg X.base k x ks sp) (hgd : X.A.guards = some []) (hr : Room j X.A) (hk : k ≤ j) (hg : Gl X x) (hkw : PK X kws tk) (hall : (backToKw pos (keywordEach kws X.env)).all (·.1.isSome) = true := by rfl) (hks : (backToKw pos (keywordEach kws X.env)).filterMap (·.1) = ks := by rfl)
    (hdb : (x == ("__debug__" : Str)) = false := by decide) (hpl : ((backTo pos (starEach [] X.env)).any (·.1) || (backToKw pos (keywordEach kws X.env)).any (·.1.isNone)) = false := by rfl) :
    PE X (.Call (.Name x p) [] kws pos) (fun σ H Q => tk σ H fun zs H2 => zs.length = ks.length ∧ sp zs.reverse H2 Q E0) := by
  obtain ⟨f, fd, F, hm, kp, b⟩ := c.ex
  refine ⟨fun pins s σ H Q I h => wpAny_Call_Name_kw (ld_glob I hg hm ?_ hdb)⟩
  refine PySem.W.callWith_KW0 (h₀ := X.base) I.ok.mod.kin kp hall (thn (hkw.run pos pins s σ H _ I h) fun ws s2 ⟨zs, H2, I2, rz, hl, q⟩ => ⟨I2.kIn, ?_⟩) hpl
  rw [hks]
  refine wpAny_call (codeAny_mono (F.run X.A X.stack s2 H2 ⟨[], ks.zip ws⟩ ws.reverse zs.reverse Q hgd (hr.mono hk) I2.env0 (b s2 ws (by rw [← rz.length]; exact hl)) (Vals.rev rz) q) fun res s' hq => ?_)
  match res, hq with
  | .ok (.ret u), hq => exact I2.after hq
  | .ok .next, hq => exact False.elim hq
  | .ok .brk, hq => exact False.elim hq
  | .ok .cont, hq => exact False.elim hq
  | .error e, hq => exact False.elim hq
end

/-! ### an expression as its items -/
inductive Itm where
  | s (x : Str) | i (c : Int) | k (e : Ex)
def ItAt (K : PySem.W.Frag) (H : Hp) : Itm → V → Prop
  | .s x, v => v = .str x
  | .i c, v => v = .int c
  | .k e, v => ExAt K H e v
def ItsAt (K : PySem.W.Frag) (H : Hp) : List V → List Itm → Prop
  | [], [] => True
  | v :: vs, t :: ts => ItAt K H t v ∧ ItsAt K H vs ts
  | _, _ => False
def Ex.items : Ex → List Itm
  | .fig c => [.s "fig", .i c]
  | .reg i => [.s "reg", .i (i : Int)]
  | .share j => [.s "share", .i (j : Int)]
  | .two w a b => [.s (wn w), .k a, .k b]
  | .times f a => [.s "times", .i f, .k a]
  | .by i a => [.s "by", .i (i : Int), .k a]
  | .when i c a b => [.s "when", .i (i : Int), .i c, .k a, .k b]
  | .whr j c a b => [.s "where", .i (j : Int), .i c, .k a, .k b]
def kidsI : List Itm → List Ex
  | [] => []
  | .k e :: r => e :: kidsI r
  | .s _ :: r => kidsI r
  | .i _ :: r => kidsI r
theorem kidsI_items (e : Ex) : kidsI e.items = e.kids := by cases e <;> rfl
theorem kidsI_append : ∀ (l r : List Itm), kidsI (l ++ r) = kidsI l ++ kidsI r
  | [], r => rfl
  | .k e :: l, r => by
    show e :: kidsI (l ++ r) = e :: (kidsI l ++ kidsI r)
    rw [kidsI_append l r]
  | .s _ :: l, r => kidsI_append l r
  | .i _ :: l, r => kidsI_append l r
theorem ExAt.its {K : PySem.W.Frag} {H : Hp} : ∀ {e : Ex} {v : V}, ExAt K H e v → ∃ p xs, v = .ref p ∧ SqT K H p xs ∧ ItsAt K H xs e.items
  | .fig _, _, ⟨p, e, q⟩ => ⟨p, _, e, q, rfl, rfl, trivial⟩
  | .reg _, _, ⟨p, e, q⟩ => ⟨p, _, e, q, rfl, rfl, trivial⟩
  | .share _, _, ⟨p, e, q⟩ => ⟨p, _, e, q, rfl, rfl, trivial⟩
  | .two _ _ _, _, ⟨p, x, y, e, q, a, b⟩ => ⟨p, _, e, q, rfl, a, b, trivial⟩
  | .times _ _, _, ⟨p, x, e, q, a⟩ => ⟨p, _, e, q, rfl, rfl, a, trivial⟩
  | .by _ _, _, ⟨p, x, e, q, a⟩ => ⟨p, _, e, q, rfl, rfl, a, trivial⟩
  | .when _ _ _ _, _, ⟨p, x, y, e, q, a, b⟩ => ⟨p, _, e, q, rfl, rfl, rfl, a, b, trivial⟩
  | .whr _ _ _ _, _, ⟨p, x, y, e, q, a, b⟩ => ⟨p, _, e, q, rfl, rfl, rfl, a, b, trivial⟩
theorem ItsAt.get {K : PySem.W.Frag} {H : Hp} : ∀ {vs : List V} {ts : List Itm} {k : Nat} {v : V}, ItsAt K H vs ts → vs[k]? = some v → ∃ t, ts[k]? = some t ∧ ItAt K H t v
  | [], [], _, _, _, h => by simp at h
  | v' :: vs, t :: ts, 0, v, ⟨x, r⟩, h => by
    have : v' = v := Option.some.inj h
    subst this
    exact ⟨t, rfl, x⟩
  | v' :: vs, t :: ts, k + 1, v, ⟨x, r⟩, h => ItsAt.get (k := k) r h
theorem ItsAt.len {K : PySem.W.Frag} {H : Hp} : ∀ {vs : List V} {ts : List Itm}, ItsAt K H vs ts → vs.length = ts.length
  | [], [], _ => rfl
  | _ :: _, _ :: _, ⟨_, r⟩ => by rw [List.length_cons, List.length_cons, r.len]
theorem tyx_tup {K : PySem.W.Frag} {H : Hp} {p : Addr} {xs : List V} (h : SqT K H p xs) : TyX K H (.ref p) (.type "tuple") := by
  rcases h with (h | ⟨o, h⟩) | ⟨o, its, n, h1, h2, _⟩
  · exact .base (.tup h)
  · exact .fTuple h
  · exact .kTuple h1 h2
def Itm.isK : Itm → Bool
  | .k _ => true
  | _ => false
theorem isi_item {K : PySem.W.Frag} {H : Hp} {t : Itm} {v : V} (h : ItAt K H t v) : ∃ ty, TyX K H v ty ∧ PySem.W.kitOne K ty (.type "tuple") = some t.isK := by
  cases t with
  | s x =>
    have h : v = .str x := h
    subst h
    exact ⟨_, .base (.str x), kit_ty (show kitB "str" "tuple" = some false by decide +kernel)⟩
  | i c =>
    have h : v = .int c := h
    subst h
    exact ⟨_, .base (.int c), kit_ty (show kitB "int" "tuple" = some false by decide +kernel)⟩
  | k e =>
    obtain ⟨p, xs, rfl, hp, _⟩ := ExAt.its h
    exact ⟨_, tyx_tup hp, kit_ty (show kitB "tuple" "tuple" = some true by decide +kernel)⟩

/-! ### as data, for repr -/
def toI : Itm → (Ex → PyData) → PyData
  | .s x, _ => .str x
  | .i c, _ => .int c
  | .k e, f => f e
def toD : Ex → PyData
  | .fig c => .tuple [.str "fig", .int c]
  | .reg i => .tuple [.str "reg", .int (i : Int)]
  | .share j => .tuple [.str "share", .int (j : Int)]
  | .two w a b => .tuple [.str (wn w), toD a, toD b]
  | .times f a => .tuple [.str "times", .int f, toD a]
  | .by i a => .tuple [.str "by", .int (i : Int), toD a]
  | .when i c a b => .tuple [.str "when", .int (i : Int), .int c, toD a, toD b]
  | .whr j c a b => .tuple [.str "where", .int (j : Int), .int c, toD a, toD b]
theorem ExAt.dp {K : PySem.W.Frag} {H : Hp} : ∀ {e : Ex} {v : V}, ExAt K H e v → Dp K H v (toD e)
  | .fig _, _, ⟨p, e, q⟩ => by subst e; exact .tup q (.cons (.str _) (.cons (.int _) .nil))
  | .reg _, _, ⟨p, e, q⟩ => by subst e; exact .tup q (.cons (.str _) (.cons (.int _) .nil))
  | .share _, _, ⟨p, e, q⟩ => by subst e; exact .tup q (.cons (.str _) (.cons (.int _) .nil))
  | .two _ _ _, _, ⟨p, x, y, e, q, a, b⟩ => by subst e; exact .tup q (.cons (.str _) (.cons a.dp (.cons b.dp .nil)))
  | .times _ _, _, ⟨p, x, e, q, a⟩ => by subst e; exact .tup q (.cons (.str _) (.cons (.int _) (.cons a.dp .nil)))
  | .by _ _, _, ⟨p, x, e, q, a⟩ => by subst e; exact .tup q (.cons (.str _) (.cons (.int _) (.cons a.dp .nil)))
  | .when _ _ _ _, _, ⟨p, x, y, e, q, a, b⟩ => by subst e; exact .tup q (.cons (.str _) (.cons (.int _) (.cons (.int _) (.cons a.dp (.cons b.dp .nil)))))
  | .whr _ _ _ _, _, ⟨p, x, y, e, q, a, b⟩ => by subst e; exact .tup q (.cons (.str _) (.cons (.int _) (.cons (.int _) (.cons a.dp (.cons b.dp .nil)))))
/-- short enough to be shown: every number below 2 ^ 600, every sign small -/
structure Shw (d : PyData) (w k : Nat) : Prop where
  sh : d.showable = true
  lf : d.leavesShort 700 = true
  wt : d.weight ≤ w
  dp : d.depth ≤ k
theorem log_of {i : Int} (h : i.natAbs < 2 ^ 600) : i.natAbs.log2 < 600 := PySem.Flt.log2_lt_of (by decide) h
theorem Shw.int {i : Int} (h : i.natAbs < 2 ^ 600) : Shw (.int i) 601 0 := by
  have hl := log_of h
  refine ⟨?_, ?_, ?_, Nat.le_refl _⟩
  · show decide (i.natAbs.log2 < 1920) = true
    exact decide_eq_true (by omega)
  · show decide ((PyData.shown (.int i)).length ≤ 700) = true
    refine decide_eq_true ?_
    have e := int_text_length_le (k := 600) (by decide) hl
    show (Str.ofString (toString i)).length ≤ 700
    rw [PySem.ofString_length]
    omega
  · show (if i == 0 then 0 else i.natAbs.log2 + 1) ≤ 601
    split <;> omega
theorem Shw.small {i : Int} (h : i.natAbs < 2 ^ 15) : Shw (.int i) 15 0 := by
  have hl : i.natAbs.log2 < 15 := PySem.Flt.log2_lt_of (by decide) h
  have h6 := Shw.int (i := i) (Nat.lt_of_lt_of_le h (Nat.pow_le_pow_right (by decide) (by decide)))
  refine ⟨h6.sh, h6.lf, ?_, Nat.le_refl _⟩
  show (if i == 0 then 0 else i.natAbs.log2 + 1) ≤ 15
  split <;> omega
theorem Shw.str {x : Str} (h : (x.cps.toList.all fun c => decide (c < 16 ^ 8)) = true) (hl : x.cps.size ≤ 10) : Shw (.str x) 10 0 := ⟨rfl, h, hl, Nat.le_refl _⟩
structure ShwAll (ds : List PyData) (w k : Nat) : Prop where
  sh : PyData.showableAll ds = true
  lf : PyData.leavesShortAll 700 ds = true
  wt : PyData.weightAll ds ≤ w
  dp : PyData.depthAll ds ≤ k
theorem ShwAll.nil {k : Nat} : ShwAll [] 0 k := ⟨rfl, rfl, Nat.le_refl _, Nat.zero_le _⟩
theorem ShwAll.cons {d : PyData} {ds : List PyData} {w1 w2 k1 k2 k : Nat} (h1 : Shw d w1 k1) (h2 : ShwAll ds w2 k2) (hk1 : k1 ≤ k) (hk2 : k2 ≤ k) : ShwAll (d :: ds) (w1 + 1 + w2) k := by
  refine ⟨?_, ?_, ?_, ?_⟩
  · show (d.showable && PyData.showableAll ds) = true
    rw [h1.sh, h2.sh]
    rfl
  · show (d.leavesShort 700 && PyData.leavesShortAll 700 ds) = true
    rw [h1.lf, h2.lf]
    rfl
  · show d.weight + 1 + PyData.weightAll ds ≤ _
    have := h1.wt
    have := h2.wt
    omega
  · show max d.depth (PyData.depthAll ds) ≤ k
    have := h1.dp
    have := h2.dp
    omega
theorem ShwAll.tup {ds : List PyData} {w k : Nat} (h : ShwAll ds w k) : Shw (.tuple ds) w (k + 1) := ⟨h.sh, h.lf, h.wt, by show PyData.depthAll ds + 1 ≤ k + 1; have := h.dp; omega⟩
theorem ShwAll.lst {ds : List PyData} {w k : Nat} (h : ShwAll ds w k) : Shw (.list ds) w (k + 1) := ⟨h.sh, h.lf, h.wt, by show PyData.depthAll ds + 1 ≤ k + 1; have := h.dp; omega⟩
theorem Shw.mono {d : PyData} {w w' k k' : Nat} (h : Shw d w k) (hw : w ≤ w') (hk : k ≤ k') : Shw d w' k' := ⟨h.sh, h.lf, Nat.le_trans h.wt hw, Nat.le_trans h.dp hk⟩
theorem Shw.fits {d : PyData} {w k : Nat} (h : Shw d w k) (hw : w ≤ 20000) : d.shown.length ≤ sizeLine := by
  have := PyData.shown_le 700 (by decide) d h.lf
  have := h.wt
  have e : sizeLine = 16777216 := by decide
  omega
def wgt : Nat → Nat
  | 0 => 0
  | n + 1 => 2 * wgt n + 60
theorem wgt_mono : ∀ {m n : Nat}, m ≤ n → wgt m ≤ wgt n
  | 0, _, _ => Nat.zero_le _
  | m + 1, 0, h => absurd h (by omega)
  | m + 1, n + 1, h => by
    have := wgt_mono (m := m) (n := n) (by omega)
    show 2 * wgt m + 60 ≤ 2 * wgt n + 60
    omega
theorem shw_ex {many : Nat} (hm : many ≤ 1000) : ∀ {e : Ex}, ExOk many e → Shw (toD e) (wgt e.dep) e.dep
  | .fig c, o => (ShwAll.tup (.cons (.str (by decide) (by decide)) (.cons (.small (by have := o.1; have := o.2; omega)) .nil (Nat.le_refl 0) (Nat.le_refl 0)) (Nat.le_refl 0) (Nat.le_refl 0))).mono (show _ ≤ wgt 1 by decide) (show 0 + 1 ≤ 1 by decide)
  | .reg i, o => by
    have o : i < 4 := o
    exact (ShwAll.tup (.cons (.str (by decide) (by decide)) (.cons (.small (by omega)) .nil (Nat.le_refl 0) (Nat.le_refl 0)) (Nat.le_refl 0) (Nat.le_refl 0))).mono (show _ ≤ wgt 1 by decide) (show 0 + 1 ≤ 1 by decide)
  | .share j, o => by
    have o : j < many := o
    exact (ShwAll.tup (.cons (.str (by decide) (by decide)) (.cons (.small (by omega)) .nil (Nat.le_refl 0) (Nat.le_refl 0)) (Nat.le_refl 0) (Nat.le_refl 0))).mono (show _ ≤ wgt 1 by decide) (show 0 + 1 ≤ 1 by decide)
  | .two w a b, o => by
    have ha := shw_ex hm (e := a) o.1
    have hb := shw_ex hm (e := b) o.2
    have hw : Shw (.str (wn w)) 10 0 := by cases w <;> exact .str (by decide) (by decide)
    have h1 := wgt_mono (Nat.le_max_left a.dep b.dep)
    have h2 := wgt_mono (Nat.le_max_right a.dep b.dep)
    refine (ShwAll.tup (.cons hw (.cons ha (.cons hb .nil (Nat.le_refl _) (Nat.zero_le _)) (Nat.le_max_left a.dep b.dep) (Nat.le_max_right a.dep b.dep)) (Nat.zero_le _) (Nat.le_refl _))).mono ?_ (Nat.le_refl _)
    show 10 + 1 + (wgt a.dep + 1 + (wgt b.dep + 1 + 0)) ≤ 2 * wgt (max a.dep b.dep) + 60
    omega
  | .times f a, o => by
    have ha := shw_ex hm (e := a) o.2
    refine (ShwAll.tup (.cons (.str (by decide) (by decide)) (.cons (.small (by have := o.1; omega)) (.cons ha .nil (Nat.le_refl _) (Nat.zero_le _)) (Nat.zero_le _) (Nat.le_refl _)) (Nat.zero_le _) (Nat.le_refl _))).mono ?_ (Nat.le_refl _)
    show 10 + 1 + (15 + 1 + (wgt a.dep + 1 + 0)) ≤ 2 * wgt a.dep + 60
    omega
  | .by i a, o => by
    have ha := shw_ex hm (e := a) o.2
    refine (ShwAll.tup (.cons (.str (by decide) (by decide)) (.cons (.small (by have := o.1; omega)) (.cons ha .nil (Nat.le_refl _) (Nat.zero_le _)) (Nat.zero_le _) (Nat.le_refl _)) (Nat.zero_le _) (Nat.le_refl _))).mono ?_ (Nat.le_refl _)
    show 10 + 1 + (15 + 1 + (wgt a.dep + 1 + 0)) ≤ 2 * wgt a.dep + 60
    omega
  | .when i c a b, o => by
    have ha := shw_ex hm (e := a) o.2.2.1
    have hb := shw_ex hm (e := b) o.2.2.2
    have h1 := wgt_mono (Nat.le_max_left a.dep b.dep)
    have h2 := wgt_mono (Nat.le_max_right a.dep b.dep)
    refine (ShwAll.tup (.cons (.str (by decide) (by decide)) (.cons (.small (by have := o.1; omega)) (.cons (.small (by have := o.2.1; omega)) (.cons ha (.cons hb .nil (Nat.le_refl _) (Nat.zero_le _)) (Nat.le_max_left a.dep b.dep) (Nat.le_max_right a.dep b.dep)) (Nat.zero_le _) (Nat.le_refl _)) (Nat.zero_le _) (Nat.le_refl _)) (Nat.zero_le _) (Nat.le_refl _))).mono ?_ (Nat.le_refl _)
    show 10 + 1 + (15 + 1 + (15 + 1 + (wgt a.dep + 1 + (wgt b.dep + 1 + 0)))) ≤ 2 * wgt (max a.dep b.dep) + 60
    omega
  | .whr i c a b, o => by
    have ha := shw_ex hm (e := a) o.2.2.1
    have hb := shw_ex hm (e := b) o.2.2.2
    have h1 := wgt_mono (Nat.le_max_left a.dep b.dep)
    have h2 := wgt_mono (Nat.le_max_right a.dep b.dep)
    refine (ShwAll.tup (.cons (.str (by decide) (by decide)) (.cons (.small (by have := o.1; omega)) (.cons (.small (by have := o.2.1; omega)) (.cons ha (.cons hb .nil (Nat.le_refl _) (Nat.zero_le _)) (Nat.le_max_left a.dep b.dep) (Nat.le_max_right a.dep b.dep)) (Nat.zero_le _) (Nat.le_refl _)) (Nat.zero_le _) (Nat.le_refl _)) (Nat.zero_le _) (Nat.le_refl _))).mono ?_ (Nat.le_refl _)
    show 10 + 1 + (15 + 1 + (15 + 1 + (wgt a.dep + 1 + (wgt b.dep + 1 + 0)))) ≤ 2 * wgt (max a.dep b.dep) + 60
    omega
/-- numbers of spans and worths stay below 2 ^ 600 -/
theorem spn_bnd : ∀ {many : Nat} {e : Ex}, ExOk many e → (spn e).1.natAbs ≤ 1000 * 2000 ^ e.dep ∧ (spn e).2.natAbs ≤ 1000 * 2000 ^ e.dep := by
  intro many e
  have up : ∀ {m n : Nat}, m ≤ n → 1000 * 2000 ^ m ≤ 1000 * 2000 ^ n := fun h => Nat.mul_le_mul_left _ (Nat.pow_le_pow_right (by decide) h)
  have nx : ∀ n : Nat, 1000 * 2000 ^ (n + 1) = 2000 * (1000 * 2000 ^ n) := fun n => by rw [Nat.pow_succ]; omega
  induction e with
  | fig c =>
    intro o
    have := o.1
    have := o.2
    show c.natAbs ≤ 1000 * 2000 ^ 1 ∧ c.natAbs ≤ 1000 * 2000 ^ 1
    omega
  | reg i =>
    intro o
    show (-1000 : Int).natAbs ≤ 1000 * 2000 ^ 1 ∧ (1000 : Int).natAbs ≤ 1000 * 2000 ^ 1
    decide
  | share j =>
    intro o
    show (0 : Int).natAbs ≤ 1000 * 2000 ^ 1 ∧ (1000 : Int).natAbs ≤ 1000 * 2000 ^ 1
    decide
  | two w a b iha ihb =>
    intro o
    have ha := iha o.1
    have hb := ihb o.2
    have h1 := up (Nat.le_max_left a.dep b.dep)
    have h2 := up (Nat.le_max_right a.dep b.dep)
    show (js w (spn a) (spn b)).1.natAbs ≤ 1000 * 2000 ^ (max a.dep b.dep + 1) ∧ (js w (spn a) (spn b)).2.natAbs ≤ 1000 * 2000 ^ (max a.dep b.dep + 1)
    rw [nx]
    cases w with
    | sum => simp only [js]; omega
    | less => simp only [js]; omega
    | least => simp only [js, mn]; split <;> split <;> omega
    | most => simp only [js, mx]; split <;> split <;> omega
  | times f a ih =>
    intro o
    have ha := ih o.2
    have hf : f.natAbs ≤ 9 := by have := o.1; omega
    have m1 : (f * (spn a).1).natAbs ≤ 9 * (1000 * 2000 ^ a.dep) := by rw [Int.natAbs_mul]; exact Nat.mul_le_mul hf ha.1
    have m2 : (f * (spn a).2).natAbs ≤ 9 * (1000 * 2000 ^ a.dep) := by rw [Int.natAbs_mul]; exact Nat.mul_le_mul hf ha.2
    show (mn _ _).natAbs ≤ 1000 * 2000 ^ (a.dep + 1) ∧ (mx _ _).natAbs ≤ 1000 * 2000 ^ (a.dep + 1)
    rw [nx]
    unfold mn mx
    split <;> split <;> omega
  | «by» i a ih =>
    intro o
    have ha := ih o.2
    have m1 : (mx (ab (spn a).1) (ab (spn a).2)).natAbs ≤ 1000 * 2000 ^ a.dep := by
      unfold mx ab
      repeat' split
      all_goals omega
    show (-1000 * mx _ _).natAbs ≤ 1000 * 2000 ^ (a.dep + 1) ∧ (1000 * mx _ _).natAbs ≤ 1000 * 2000 ^ (a.dep + 1)
    rw [nx]
    omega
  | when i c a b iha ihb =>
    intro o
    have ha := iha o.2.2.1
    have hb := ihb o.2.2.2
    have h1 := up (Nat.le_max_left a.dep b.dep)
    have h2 := up (Nat.le_max_right a.dep b.dep)
    show (mn _ _).natAbs ≤ 1000 * 2000 ^ (max a.dep b.dep + 1) ∧ (mx _ _).natAbs ≤ 1000 * 2000 ^ (max a.dep b.dep + 1)
    rw [nx]
    unfold mn mx
    split <;> split <;> omega
  | whr i c a b iha ihb =>
    intro o
    have ha := iha o.2.2.1
    have hb := ihb o.2.2.2
    have h1 := up (Nat.le_max_left a.dep b.dep)
    have h2 := up (Nat.le_max_right a.dep b.dep)
    show (mn _ _).natAbs ≤ 1000 * 2000 ^ (max a.dep b.dep + 1) ∧ (mx _ _).natAbs ≤ 1000 * 2000 ^ (max a.dep b.dep + 1)
    rw [nx]
    unfold mn mx
    split <;> split <;> omega
theorem bnd_600 {d : Nat} {x : Int} (hd : d ≤ 10) (h : x.natAbs ≤ 1000 * 2000 ^ d) : x.natAbs < 2 ^ 300 := by
  have h1 : 1000 * 2000 ^ d ≤ 1000 * 2000 ^ 10 := Nat.mul_le_mul_left _ (Nat.pow_le_pow_right (by decide) hd)
  have h2 : (1000 * 2000 ^ 10 : Nat) < 2 ^ 300 := by decide
  omega
end NG

namespace NG
open PySem PySem.Spec PyProof.Rows L2

/-! ### leaves and borders -/
def lvs : Ex → Int
  | .fig _ => 1
  | .reg _ => 1
  | .share _ => 1
  | .two .sum a b => lvs a * lvs b
  | .two .less a b => lvs a * lvs b
  | .two .least a b => lvs a + lvs b
  | .two .most a b => lvs a + lvs b
  | .times _ a => lvs a
  | .by _ a => lvs a
  | .when _ _ a b => mx (lvs a) (lvs b)
  | .whr _ _ a b => lvs a + lvs b
def bds : Ex → Int
  | .fig _ => 0
  | .reg _ => 0
  | .share _ => 0
  | .two .sum a b => bds a + bds b
  | .two .less a b => bds a + bds b
  | .two .least a b => bds a + bds b + lvs a * lvs b
  | .two .most a b => bds a + bds b + lvs a * lvs b
  | .times _ a => bds a
  | .by _ a => bds a
  | .when _ _ a b => mx (bds a) (bds b)
  | .whr _ _ a b => bds a + bds b + 1
def bnd : Nat → Nat
  | 0 => 1
  | n + 1 => bnd n * bnd n + 2 * bnd n
theorem bnd_pos : ∀ n, 1 ≤ bnd n
  | 0 => Nat.le_refl _
  | n + 1 => by
    have := bnd_pos n
    show 1 ≤ bnd n * bnd n + 2 * bnd n
    omega
theorem bnd_up : ∀ {m n : Nat}, m ≤ n → bnd m ≤ bnd n := by
  intro m n h
  induction h with
  | refl => exact Nat.le_refl _
  | step _ ih =>
    refine Nat.le_trans ih ?_
    show _ ≤ bnd _ * bnd _ + 2 * bnd _
    omega
theorem lb_bnd : ∀ e : Ex, (lvs e).natAbs ≤ bnd e.dep ∧ (bds e).natAbs ≤ bnd e.dep := by
  intro e
  have pm : ∀ {x y : Int} {B : Nat}, x.natAbs ≤ B → y.natAbs ≤ B → (x * y).natAbs ≤ B * B := fun hx hy => by rw [Int.natAbs_mul]; exact Nat.mul_le_mul hx hy
  induction e with
  | fig c => exact ⟨by show 1 ≤ bnd 1; exact bnd_pos 1, Nat.zero_le _⟩
  | reg c => exact ⟨by show 1 ≤ bnd 1; exact bnd_pos 1, Nat.zero_le _⟩
  | share c => exact ⟨by show 1 ≤ bnd 1; exact bnd_pos 1, Nat.zero_le _⟩
  | two w a b iha ihb =>
    have h1 := bnd_up (Nat.le_max_left a.dep b.dep)
    have h2 := bnd_up (Nat.le_max_right a.dep b.dep)
    have hm := pm (Nat.le_trans iha.1 h1) (Nat.le_trans ihb.1 h2)
    show (lvs (.two w a b)).natAbs ≤ bnd (max a.dep b.dep) * bnd (max a.dep b.dep) + 2 * bnd (max a.dep b.dep) ∧ (bds (.two w a b)).natAbs ≤ bnd (max a.dep b.dep) * bnd (max a.dep b.dep) + 2 * bnd (max a.dep b.dep)
    cases w <;> simp only [lvs, bds] <;> omega
  | times f a ih =>
    show (lvs a).natAbs ≤ bnd a.dep * bnd a.dep + 2 * bnd a.dep ∧ (bds a).natAbs ≤ bnd a.dep * bnd a.dep + 2 * bnd a.dep
    omega
  | «by» i a ih =>
    show (lvs a).natAbs ≤ bnd a.dep * bnd a.dep + 2 * bnd a.dep ∧ (bds a).natAbs ≤ bnd a.dep * bnd a.dep + 2 * bnd a.dep
    omega
  | when i c a b iha ihb =>
    have h1 := bnd_up (Nat.le_max_left a.dep b.dep)
    have h2 := bnd_up (Nat.le_max_right a.dep b.dep)
    show (mx (lvs a) (lvs b)).natAbs ≤ bnd (max a.dep b.dep) * bnd (max a.dep b.dep) + 2 * bnd (max a.dep b.dep) ∧ (mx (bds a) (bds b)).natAbs ≤ bnd (max a.dep b.dep) * bnd (max a.dep b.dep) + 2 * bnd (max a.dep b.dep)
    unfold mx
    split <;> split <;> omega
  | whr i c a b iha ihb =>
    have h1 := bnd_up (Nat.le_max_left a.dep b.dep)
    have h2 := bnd_up (Nat.le_max_right a.dep b.dep)
    have h3 := bnd_pos (max a.dep b.dep)
    have h4 : bnd (max a.dep b.dep) ≤ bnd (max a.dep b.dep) * bnd (max a.dep b.dep) := Nat.le_mul_of_pos_left _ h3
    show (lvs a + lvs b).natAbs ≤ bnd (max a.dep b.dep) * bnd (max a.dep b.dep) + 2 * bnd (max a.dep b.dep) ∧ (bds a + bds b + 1).natAbs ≤ bnd (max a.dep b.dep) * bnd (max a.dep b.dep) + 2 * bnd (max a.dep b.dep)
    omega
theorem lvs_mul {e : Ex} {y : Int} (h : e.dep ≤ 5) : CMul (lvs e) y := by
  have h1 := (lb_bnd e).1
  have h2 := bnd_up h
  have h3 : bnd 5 < 2 ^ 64 := by decide
  exact .inl ⟨by omega, by omega⟩
theorem lb_600 {e : Ex} (h : e.dep ≤ 6) : (lvs e).natAbs < 2 ^ 600 ∧ (bds e).natAbs < 2 ^ 600 := by
  have h1 := lb_bnd e
  have h2 := bnd_up h
  have h3 : bnd 6 < 2 ^ 600 := by decide
  omega
def spCnt (K : PySem.W.Frag) (f : Ex → Int) (n : Nat) : Sp := fun vs H Q _ => ∃ (v : V) (e : Ex) (many : Nat), vs = [v] ∧ ExAt K H e v ∧ ExOk many e ∧ e.dep ≤ n ∧ e.dep ≤ 6 ∧ ∀ H', Same H H' → Q (.int (f e)) H'
def spLB (K : PySem.W.Frag) (n : Nat) : Sp := fun vs H Q _ => ∃ (v : V) (e : Ex) (many : Nat), vs = [v] ∧ ExAt K H e v ∧ ExOk many e ∧ e.dep ≤ n ∧ e.dep ≤ 6 ∧ ∀ H' u, Same H H' → SpAt K H' (lvs e, bds e) u → Q u H'

/-! ### the law's own reading -/
def Ex.rest : Ex → List Itm
  | .fig c => [.i c]
  | .reg i => [.i (i : Int)]
  | .share j => [.i (j : Int)]
  | .two _ a b => [.k a, .k b]
  | .times f a => [.i f, .k a]
  | .by i a => [.i (i : Int), .k a]
  | .when i c a b => [.i (i : Int), .i c, .k a, .k b]
  | .whr j c a b => [.i (j : Int), .i c, .k a, .k b]
theorem kidsI_rest (e : Ex) : kidsI e.rest = e.kids := by cases e <;> rfl
theorem rest_len (e : Ex) : e.rest.length ≤ 4 := by cases e <;> simp [Ex.rest]
theorem ItsAt.imp {K : PySem.W.Frag} {H H' : Hp} (sm : Same H H') : ∀ {vs : List V} {ts : List Itm}, ItsAt K H vs ts → ItsAt K H' vs ts
  | [], [], _ => trivial
  | _ :: _, .s _ :: _, ⟨x, r⟩ => ⟨x, r.imp sm⟩
  | _ :: _, .i _ :: _, ⟨x, r⟩ => ⟨x, r.imp sm⟩
  | _ :: _, .k e :: _, ⟨x, r⟩ => ⟨ExAt.same (e := e) x sm, r.imp sm⟩
theorem ExAt.rst {K : PySem.W.Frag} {H : Hp} : ∀ {e : Ex} {v : V}, ExAt K H e v → ∃ p xs, v = .ref p ∧ SqT K H p (.str (wordOf e) :: xs) ∧ 0 < xs.length ∧ ItsAt K H xs e.rest
  | .fig _, _, ⟨p, e, q⟩ => ⟨p, _, e, q, by simp, rfl, trivial⟩
  | .reg _, _, ⟨p, e, q⟩ => ⟨p, _, e, q, by simp, rfl, trivial⟩
  | .share _, _, ⟨p, e, q⟩ => ⟨p, _, e, q, by simp, rfl, trivial⟩
  | .two _ _ _, _, ⟨p, x, y, e, q, a, b⟩ => ⟨p, _, e, q, by simp, a, b, trivial⟩
  | .times _ _, _, ⟨p, x, e, q, a⟩ => ⟨p, _, e, q, by simp, rfl, a, trivial⟩
  | .by _ _, _, ⟨p, x, e, q, a⟩ => ⟨p, _, e, q, by simp, rfl, a, trivial⟩
  | .when _ _ _ _, _, ⟨p, x, y, e, q, a, b⟩ => ⟨p, _, e, q, by simp, rfl, rfl, a, b, trivial⟩
  | .whr _ _ _ _, _, ⟨p, x, y, e, q, a, b⟩ => ⟨p, _, e, q, by simp, rfl, rfl, a, b, trivial⟩
theorem cut1 {x : V} {xs : List V} : cutV (x :: xs) (some 1) none = xs := by
  unfold cutV
  rw [show HT.sIx (x :: xs).length 0 (some 1) = min 1 (x :: xs).length from HT.sIx_nat _ 0 1, HT.sIx_none, List.length_cons, show min 1 (xs.length + 1) = 1 by omega]
  show List.take (xs.length + 1 - 1) xs = xs
  rw [Nat.add_sub_cancel, List.take_length]
theorem cut1w {x : V} {xs : List V} (h : 0 < xs.length) : ¬ (HT.sIx (x :: xs).length 0 (some 1) = 0 ∧ HT.sIx (x :: xs).length (x :: xs).length none = (x :: xs).length) := by
  rw [show HT.sIx (x :: xs).length 0 (some 1) = min 1 (x :: xs).length from HT.sIx_nat _ 0 1, List.length_cons]
  omega
theorem kidsI_snoc {ts : List Itm} {i : Nat} {t : Itm} (h : ts[i]? = some t) : kidsI (ts.take (i + 1)) = kidsI (ts.take i) ++ kidsI [t] := by
  rw [List.take_add_one, h, kidsI_append]
  rfl
theorem mem_kidsI {e : Ex} : ∀ {ts : List Itm}, Itm.k e ∈ ts → e ∈ kidsI ts
  | .k e' :: r, h => by
    rcases List.mem_cons.mp h with h | h
    · cases h
      exact List.mem_cons_self
    · exact List.mem_cons_of_mem _ (mem_kidsI h)
  | .s _ :: r, h => by
    rcases List.mem_cons.mp h with h | h
    · cases h
    · exact mem_kidsI (ts := r) h
  | .i _ :: r, h => by
    rcases List.mem_cons.mp h with h | h
    · cases h
    · exact mem_kidsI (ts := r) h
theorem sort2 {ns : List Int} {a b : Int} (hp : ns.Perm [a, b]) (hs : ns.Pairwise (· ≤ ·)) : ns = [mn a b, mx a b] := by
  have hl := hp.length_eq
  match ns, hl with
  | [x, y], _ =>
    have hxy : x ≤ y := by simpa using hs
    have h1 : x = a ∨ x = b := by simpa using hp.mem_iff (a := x)
    have h2 : y = a ∨ y = b := by simpa using hp.mem_iff (a := y)
    have h3 : a = x ∨ a = y := by simpa using (hp.mem_iff (a := a)).mpr (by simp)
    have h4 : b = x ∨ b = y := by simpa using (hp.mem_iff (a := b)).mpr (by simp)
    have e1 : x = mn a b := by unfold mn; split <;> omega
    have e2 : y = mx a b := by unfold mx; split <;> omega
    rw [e1, e2]
theorem far_eq {lo hi : Int} (h : lo ≤ hi) : (if (0 - lo) > hi then (0 - lo) else hi) = mx (ab lo) (ab hi) := by
  unfold mx ab
  repeat' split
  all_goals omega
end NG

namespace NG
open PySem PySem.Spec PyProof.Rows L2
/-! ### rows of expressions as data -/
theorem lay_ex : ∀ e : Ex, (toD e).canLay0 = true
  | .fig _ => by
    show (PyData.canLay0 (.str "fig") && (true && true)) = true
    decide +kernel
  | .reg _ => by
    show (PyData.canLay0 (.str "reg") && (true && true)) = true
    decide +kernel
  | .share _ => by
    show (PyData.canLay0 (.str "share") && (true && true)) = true
    decide +kernel
  | .two w a b => by
    have ha := lay_ex a
    have hb := lay_ex b
    show (PyData.canLay0 (.str (wn w)) && (PyData.canLay0 (toD a) && (PyData.canLay0 (toD b) && true))) = true
    rw [ha, hb]
    cases w <;> decide +kernel
  | .times _ a => by
    have ha := lay_ex a
    show (PyData.canLay0 (.str "times") && (true && (PyData.canLay0 (toD a) && true))) = true
    rw [ha]
    decide +kernel
  | .by _ a => by
    have ha := lay_ex a
    show (PyData.canLay0 (.str "by") && (true && (PyData.canLay0 (toD a) && true))) = true
    rw [ha]
    decide +kernel
  | .when _ _ a b => by
    have ha := lay_ex a
    have hb := lay_ex b
    show (PyData.canLay0 (.str "when") && (true && (true && (PyData.canLay0 (toD a) && (PyData.canLay0 (toD b) && true))))) = true
    rw [ha, hb]
    decide +kernel
  | .whr _ _ a b => by
    have ha := lay_ex a
    have hb := lay_ex b
    show (PyData.canLay0 (.str "where") && (true && (true && (PyData.canLay0 (toD a) && (PyData.canLay0 (toD b) && true))))) = true
    rw [ha, hb]
    decide +kernel
theorem depth_ex : ∀ e : Ex, (toD e).depth ≤ e.dep
  | .fig _ => Nat.le_refl _
  | .reg _ => Nat.le_refl _
  | .share _ => Nat.le_refl _
  | .two w a b => by
    have ha := depth_ex a
    have hb := depth_ex b
    show max 0 (max (toD a).depth (max (toD b).depth 0)) + 1 ≤ max a.dep b.dep + 1
    omega
  | .times _ a => by
    have ha := depth_ex a
    show max 0 (max 0 (max (toD a).depth 0)) + 1 ≤ a.dep + 1
    omega
  | .by _ a => by
    have ha := depth_ex a
    show max 0 (max 0 (max (toD a).depth 0)) + 1 ≤ a.dep + 1
    omega
  | .when _ _ a b => by
    have ha := depth_ex a
    have hb := depth_ex b
    show max 0 (max 0 (max 0 (max (toD a).depth (max (toD b).depth 0)))) + 1 ≤ max a.dep b.dep + 1
    omega
  | .whr _ _ a b => by
    have ha := depth_ex a
    have hb := depth_ex b
    show max 0 (max 0 (max 0 (max (toD a).depth (max (toD b).depth 0)))) + 1 ≤ max a.dep b.dep + 1
    omega
theorem shaped_rows {es : List Ex} (h : ∀ e ∈ es, e.dep ≤ 40) : SeqAt.shaped (.list (es.map toD)) = true := by
  have h1 : PyData.canLayAll0 (es.map toD) = true := by
    clear h
    induction es with
    | nil => rfl
    | cons e r ih =>
      show ((toD e).canLay0 && PyData.canLayAll0 (r.map toD)) = true
      rw [lay_ex e, ih]
      rfl
  have h2 : PyData.depthAll (es.map toD) ≤ 40 := by
    clear h1
    induction es with
    | nil => exact Nat.zero_le _
    | cons e r ih =>
      have a := depth_ex e
      have b := h e (by simp)
      have c := ih fun x hx => h x (List.mem_cons_of_mem _ hx)
      show max (toD e).depth (PyData.depthAll (r.map toD)) ≤ 40
      omega
  show (PyData.canLayAll0 (es.map toD) && decide (PyData.depthAll (es.map toD) + 1 ≤ 64)) = true
  rw [h1, decide_eq_true (by omega)]
  rfl
theorem RowsAt.dps {K : PySem.W.Frag} {H : Hp} : ∀ {vs : List V} {es : List Ex}, RowsAt K H vs es → DpAll K H vs (es.map toD)
  | [], [], _ => .nil
  | _ :: _, _ :: _, ⟨x, r⟩ => .cons x.dp r.dps
theorem RowsAt.append {K : PySem.W.Frag} {H : Hp} : ∀ {vs ws : List V} {es fs : List Ex}, RowsAt K H vs es → RowsAt K H ws fs → RowsAt K H (vs ++ ws) (es ++ fs)
  | [], _, [], _, _, r => r
  | _ :: _, _, _ :: _, _, ⟨x, q⟩, r => ⟨x, q.append r⟩
theorem RowsAt.mem {K : PySem.W.Frag} {H : Hp} : ∀ {vs : List V} {es : List Ex} {v : V}, RowsAt K H vs es → v ∈ vs → ∃ e ∈ es, ExAt K H e v
  | v' :: vs, e :: es, v, ⟨x, r⟩, h => by
    rcases List.mem_cons.mp h with h | h
    · subst h
      exact ⟨e, by simp, x⟩
    · obtain ⟨e', h1, h2⟩ := r.mem h
      exact ⟨e', List.mem_cons_of_mem _ h1, h2⟩
/-! ### slices of lists -/
theorem cut_take {xs : List V} {j : Nat} : cutV xs none (some (j : Int)) = xs.take j := by
  unfold cutV
  rw [HT.sIx_none, HT.sIx_nat, List.drop_zero, Nat.sub_zero]
  by_cases h : j ≤ xs.length
  · rw [Nat.min_eq_left h]
  · rw [Nat.min_eq_right (by omega), List.take_length, List.take_of_length_le (by omega)]
theorem cut_drop {xs : List V} {j : Nat} : cutV xs (some (j : Int)) none = xs.drop j := by
  unfold cutV
  rw [HT.sIx_none, HT.sIx_nat]
  by_cases h : j ≤ xs.length
  · rw [Nat.min_eq_left h, List.take_of_length_le (by rw [List.length_drop]; exact Nat.le_refl _)]
  · rw [Nat.min_eq_right (by omega), Nat.sub_self, List.take_zero, List.drop_of_length_le (by omega)]
/-! ### words within -/
def spWords (K : PySem.W.Frag) (n : Nat) : Sp := fun vs H Q _ => ∃ (v : V) (x : Str) (e : Ex) (many : Nat), vs = [v, .str x] ∧ ExAt K H e v ∧ ExOk many e ∧ e.dep ≤ n ∧ e.dep ≤ 6 ∧
  ∀ H' l us es, Same H H' → H l = none → H' l = some (.lst us) → RowsAt K H' us es → es.length ≤ 3 ^ n → (∀ e' ∈ es, ExOk many e' ∧ wordOf e' = x ∧ e'.dep ≤ e.dep) → Q (.ref l) H'
def spBorder (K : PySem.W.Frag) : Sp := fun vs H Q _ => ∃ (a : Addr) (v : V) (e : Ex) (many n : Nat), vs = [.ref a, v, .int (many : Int)] ∧ ExAt K H e v ∧ ExOk many e ∧ e.dep ≤ 5 ∧ 2 ≤ many ∧ many ≤ 3 ∧ HandAt H a n ∧ n ≤ 999997000 ∧
  ∀ H' u ms, But a H H' → HandAt H' a (n + 20) → ShAt K H' many ms u → Q u H'
def spNear (K : PySem.W.Frag) : Sp := fun vs H Q _ => ∃ (a : Addr) (v : V) (e : Ex) (many n : Nat), vs = [.ref a, v] ∧ ExAt K H e v ∧ ExOk many e ∧ e.dep ≤ 5 ∧ HandAt H a n ∧ n ≤ 999997000 ∧
  ∀ H' u rs, But a H H' → HandAt H' a (n + 15) → RegsAt K H' rs u → Q u H'
theorem is_whr {e : Ex} (h : wordOf e = "where") : ∃ j c a b, e = .whr j c a b := by
  cases e with
  | whr j c a b => exact ⟨j, c, a, b, rfl⟩
  | two w a b => cases w <;> exact absurd h (of_decide_eq_false rfl)
  | fig _ => exact absurd h (of_decide_eq_false rfl)
  | reg _ => exact absurd h (of_decide_eq_false rfl)
  | share _ => exact absurd h (of_decide_eq_false rfl)
  | times _ _ => exact absurd h (of_decide_eq_false rfl)
  | «by» _ _ => exact absurd h (of_decide_eq_false rfl)
  | when _ _ _ _ => exact absurd h (of_decide_eq_false rfl)
theorem is_when {e : Ex} (h : wordOf e = "when") : ∃ j c a b, e = .when j c a b := by
  cases e with
  | when j c a b => exact ⟨j, c, a, b, rfl⟩
  | two w a b => cases w <;> exact absurd h (of_decide_eq_false rfl)
  | fig _ => exact absurd h (of_decide_eq_false rfl)
  | reg _ => exact absurd h (of_decide_eq_false rfl)
  | share _ => exact absurd h (of_decide_eq_false rfl)
  | times _ _ => exact absurd h (of_decide_eq_false rfl)
  | «by» _ _ => exact absurd h (of_decide_eq_false rfl)
  | whr _ _ _ _ => exact absurd h (of_decide_eq_false rfl)
end NG

namespace NG
open PySem PySem.Spec PyProof.Rows L2
/-! ### tuples put together and cut, whatever they hold -/
theorem catA {K : PySem.W.Frag} {H : Hp} {a b : Addr} {xs ys : List V} {Q : VK} (ha : SqT K H a xs) (hb : SqT K H b ys) (hl : xs.length + ys.length ≤ sizeLine) (q : ∀ H' p, Same H H' → SqT K H' p (xs ++ ys) → Q (.ref p) H') : rCatA K (.ref a) (.ref b) H Q := by
  refine ⟨a, b, xs, ys, rfl, rfl, ha, hb, hl, fun h => ?_, fun _ h => ?_, fun _ _ p np => ?_⟩
  · subst h
    exact q H b (Same.refl _) hb
  · subst h
    exact q H a (Same.refl _) (by rw [List.append_nil]; exact ha)
  · exact q _ p (same_new np) (SqT.of upd_same)
theorem cutV_whole {xs : List V} {lo hi : Option Int} (h : HT.sIx xs.length 0 lo = 0 ∧ HT.sIx xs.length xs.length hi = xs.length) : cutV xs lo hi = xs := by
  unfold cutV
  rw [h.1, h.2, List.drop_zero, Nat.sub_zero, List.take_length]
theorem slA {K : PySem.W.Frag} {H : Hp} {a : Addr} {xs : List V} {lo hi : Option Int} {Q : VK} (ha : SqT K H a xs) (q : ∀ H' p, Same H H' → SqT K H' p (cutV xs lo hi) → Q (.ref p) H') : rSlA K (.ref a) lo hi H Q := by
  refine ⟨a, xs, rfl, ha, fun h => ?_, fun _ p np => ?_⟩
  · exact q H a (Same.refl _) (by rw [cutV_whole h]; exact ha)
  · exact q _ p (same_new np) (SqT.of upd_same)
theorem HandAt.same {H H' : Hp} {a : Addr} {n : Nat} (h : HandAt H a n) (s : Same H H') : HandAt H' a n := by
  obtain ⟨g, sd, m, e, z⟩ := h
  exact ⟨g, sd, m, s _ _ e, z⟩

/-! ### deeds -/
inductive D5 where
  | put | add | copy | plus | told
  deriving DecidableEq
def dn : D5 → Str
  | .put => "put"
  | .add => "add"
  | .copy => "copy"
  | .plus => "plus"
  | .told => "told"
inductive Ds where
  | nil
  | op (w : D5) (i : Nat) (x : Int) (r : Ds)
  | when (i : Nat) (c : Int) (a b r : Ds)
def DsAt (K : PySem.W.Frag) (H : Hp) : Ds → List V → Prop
  | .nil, vs => vs = []
  | .op w i x r, vs => ∃ p us, vs = .ref p :: us ∧ SqT K H p [.str (dn w), .int (i : Int), .int x] ∧ DsAt K H r us
  | .when i c a b r, vs => ∃ p pa pb xa xb us, vs = .ref p :: us ∧ SqT K H p [.str "when", .int (i : Int), .int c, .ref pa, .ref pb] ∧ SqT K H pa xa ∧ DsAt K H a xa ∧ SqT K H pb xb ∧ DsAt K H b xb ∧ DsAt K H r us
theorem DsAt.imp {K : PySem.W.Frag} {H H' : Hp} (h : ∀ p xs, SqT K H p xs → SqT K H' p xs) : ∀ {d : Ds} {vs : List V}, DsAt K H d vs → DsAt K H' d vs
  | .nil, _, e => e
  | .op _ _ _ _, _, ⟨p, us, e, q, r⟩ => ⟨p, us, e, h _ _ q, DsAt.imp h r⟩
  | .when _ _ _ _ _, _, ⟨p, pa, pb, xa, xb, us, e, q, qa, a, qb, b, r⟩ => ⟨p, pa, pb, xa, xb, us, e, h _ _ q, h _ _ qa, DsAt.imp h a, h _ _ qb, DsAt.imp h b, DsAt.imp h r⟩
theorem DsAt.same {K : PySem.W.Frag} {H H' : Hp} {d : Ds} {vs : List V} (x : DsAt K H d vs) (s : Same H H') : DsAt K H' d vs := x.imp fun _ _ q => same_sqt s q
def Ds.app : Ds → Ds → Ds
  | .nil, e => e
  | .op w i x r, e => .op w i x (r.app e)
  | .when i c a b r, e => .when i c a b (r.app e)
theorem DsAt.app {K : PySem.W.Frag} {H : Hp} : ∀ {d e : Ds} {vs ws : List V}, DsAt K H d vs → DsAt K H e ws → DsAt K H (d.app e) (vs ++ ws)
  | .nil, _, _, _, e, y => by
    subst e
    exact y
  | .op _ _ _ _, _, _, _, ⟨p, us, e, q, r⟩, y => by
    subst e
    exact ⟨p, _, rfl, q, DsAt.app r y⟩
  | .when _ _ _ _ _, _, _, _, ⟨p, pa, pb, xa, xb, us, e, q, qa, a, qb, b, r⟩, y => by
    subst e
    exact ⟨p, pa, pb, xa, xb, _, rfl, q, qa, a, qb, b, DsAt.app r y⟩
def Ds.cnt : Ds → Nat
  | .nil => 0
  | .op _ _ _ r => 1 + r.cnt
  | .when _ _ a b r => 1 + (a.cnt + b.cnt) + r.cnt
def Ds.len : Ds → Nat
  | .nil => 0
  | .op _ _ _ r => r.len + 1
  | .when _ _ _ _ r => r.len + 1
def Ds.dep : Ds → Nat
  | .nil => 0
  | .op _ _ _ r => max 1 r.dep
  | .when _ _ a b r => max (max a.dep b.dep + 1) r.dep
theorem Ds.len_le : ∀ d : Ds, d.len ≤ d.cnt
  | .nil => Nat.le_refl _
  | .op _ _ _ r => by have := r.len_le; show r.len + 1 ≤ 1 + r.cnt; omega
  | .when _ _ a b r => by have := r.len_le; show r.len + 1 ≤ 1 + (a.cnt + b.cnt) + r.cnt; omega
theorem DsAt.len {K : PySem.W.Frag} {H : Hp} : ∀ {d : Ds} {vs : List V}, DsAt K H d vs → vs.length = d.len
  | .nil, _, e => by subst e; rfl
  | .op _ _ _ _, _, ⟨p, us, e, q, r⟩ => by subst e; rw [List.length_cons, r.len]; rfl
  | .when _ _ _ _ _, _, ⟨p, pa, pb, xa, xb, us, e, q, qa, a, qb, b, r⟩ => by subst e; rw [List.length_cons, r.len]; rfl
theorem Ds.cnt_app : ∀ d e : Ds, (d.app e).cnt = d.cnt + e.cnt
  | .nil, e => by show e.cnt = 0 + e.cnt; omega
  | .op _ _ _ r, e => by show 1 + (r.app e).cnt = 1 + r.cnt + e.cnt; rw [Ds.cnt_app r e]; omega
  | .when _ _ a b r, e => by show 1 + (a.cnt + b.cnt) + (r.app e).cnt = 1 + (a.cnt + b.cnt) + r.cnt + e.cnt; rw [Ds.cnt_app r e]; omega
theorem Ds.dep_app : ∀ d e : Ds, (d.app e).dep = max d.dep e.dep
  | .nil, e => by show e.dep = max 0 e.dep; omega
  | .op _ _ _ r, e => by show max 1 (r.app e).dep = max (max 1 r.dep) e.dep; rw [Ds.dep_app r e]; omega
  | .when _ _ a b r, e => by show max (max a.dep b.dep + 1) (r.app e).dep = max (max (max a.dep b.dep + 1) r.dep) e.dep; rw [Ds.dep_app r e]; omega
def xok (many : Nat) : D5 → Int → Prop
  | .put, x => -1000 ≤ x ∧ x ≤ 1000
  | .add, x => -1000 ≤ x ∧ x ≤ 1000
  | .copy, x => 0 ≤ x ∧ x < 4
  | .plus, x => 0 ≤ x ∧ x < 4
  | .told, x => 0 ≤ x ∧ x < many
theorem xok_small {many : Nat} (hm : many ≤ 1000) : ∀ {w : D5} {x : Int}, xok many w x → -1000 ≤ x ∧ x ≤ 1000
  | .put, _, h => h
  | .add, _, h => h
  | .copy, _, h => by have := h.1; have := h.2; constructor <;> omega
  | .plus, _, h => by have := h.1; have := h.2; constructor <;> omega
  | .told, _, h => by have := h.1; have := h.2; constructor <;> omega
def DsOk (many : Nat) : Ds → Prop
  | .nil => True
  | .op w i x r => i < 4 ∧ xok many w x ∧ DsOk many r
  | .when i c a b r => i < 4 ∧ (-1000 ≤ c ∧ c ≤ 1000) ∧ DsOk many a ∧ DsOk many b ∧ DsOk many r
theorem DsOk.app {many : Nat} : ∀ {d e : Ds}, DsOk many d → DsOk many e → DsOk many (d.app e)
  | .nil, _, _, y => y
  | .op _ _ _ _, _, ⟨h1, h2, h3⟩, y => ⟨h1, h2, DsOk.app h3 y⟩
  | .when _ _ _ _ _, _, ⟨h1, h2, h3, h4, h5⟩, y => ⟨h1, h2, h3, h4, DsOk.app h5 y⟩
def cl (n : Int) : Int := mx (-1000) (mn 1000 n)
theorem cl_in (n : Int) : -1000 ≤ cl n ∧ cl n ≤ 1000 := by
  unfold cl mx mn
  repeat' split
  all_goals omega
def hb (ss : List Int) : D5 → Nat → Int → List Int → Int
  | .put, _, x, _ => x
  | .add, i, x, rs => rs.getD i 0 + x
  | .copy, _, x, rs => rs.getD x.toNat 0
  | .plus, i, x, rs => rs.getD i 0 + rs.getD x.toNat 0
  | .told, _, x, _ => 1000 * ss.getD x.toNat 0 / ss.sum
def ap (ss : List Int) : Ds → List Int → List Int
  | .nil, rs => rs
  | .op w i x r, rs => ap ss r (rs.set i (cl (hb ss w i x rs)))
  | .when i c a b r, rs => ap ss r (if rs.getD i 0 < c then ap ss a rs else ap ss b rs)
def RegOk (rs : List Int) : Prop := rs.length = 4 ∧ ∀ x ∈ rs, -1000 ≤ x ∧ x ≤ 1000
theorem RegOk.set {rs : List Int} (h : RegOk rs) (i : Nat) (n : Int) : RegOk (rs.set i (cl n)) := by
  refine ⟨by rw [List.length_set]; exact h.1, fun x hx => ?_⟩
  rcases List.mem_or_eq_of_mem_set hx with hx | rfl
  · exact h.2 x hx
  · exact cl_in n
theorem RegOk.ap {ss : List Int} : ∀ {d : Ds} {rs : List Int}, RegOk rs → RegOk (ap ss d rs)
  | .nil, _, h => h
  | .op w i x r, rs, h => RegOk.ap (d := r) (h.set i _)
  | .when i c a b r, rs, h => by
    show RegOk (NG.ap ss r (if rs.getD i 0 < c then NG.ap ss a rs else NG.ap ss b rs))
    refine RegOk.ap (d := r) ?_
    split
    · exact RegOk.ap (d := a) h
    · exact RegOk.ap (d := b) h
theorem RegsAt.ok {K : PySem.W.Frag} {H : Hp} {rs : List Int} {v : V} (h : RegsAt K H rs v) : RegOk rs := by
  obtain ⟨p, _, _, l, b⟩ := h
  exact ⟨l, b⟩
theorem RegsAt.same {K : PySem.W.Frag} {H H' : Hp} {rs : List Int} {v : V} (h : RegsAt K H rs v) (s : Same H H') : RegsAt K H' rs v := h.imp fun _ _ q => same_sqt s q
theorem ShAt.same {K : PySem.W.Frag} {H H' : Hp} {many : Nat} {rs : List Int} {v : V} (h : ShAt K H many rs v) (s : Same H H') : ShAt K H' many rs v := h.imp fun _ _ q => same_sqt s q
/-! ### rows of deeds, doubters -/
def BhAt (K : PySem.W.Frag) (H : Hp) : List V → List Ds → Prop
  | [], [] => True
  | v :: vs, d :: ds => (∃ p xs, v = .ref p ∧ SqT K H p xs ∧ DsAt K H d xs) ∧ BhAt K H vs ds
  | _, _ => False
theorem BhAt.imp {K : PySem.W.Frag} {H H' : Hp} (h : ∀ p xs, SqT K H p xs → SqT K H' p xs) : ∀ {vs : List V} {es : List Ds}, BhAt K H vs es → BhAt K H' vs es
  | [], [], _ => trivial
  | _ :: _, _ :: _, ⟨⟨p, xs, e, q, x⟩, r⟩ => ⟨⟨p, xs, e, h _ _ q, x.imp h⟩, BhAt.imp h r⟩
theorem BhAt.same {K : PySem.W.Frag} {H H' : Hp} {vs : List V} {es : List Ds} (r : BhAt K H vs es) (s : Same H H') : BhAt K H' vs es := r.imp fun _ _ q => same_sqt s q
theorem BhAt.len {K : PySem.W.Frag} {H : Hp} : ∀ {vs : List V} {es : List Ds}, BhAt K H vs es → vs.length = es.length
  | [], [], _ => rfl
  | _ :: _, _ :: _, ⟨_, r⟩ => by rw [List.length_cons, List.length_cons, r.len]
theorem BhAt.snoc {K : PySem.W.Frag} {H : Hp} {p : Addr} {xs : List V} {d : Ds} (q : SqT K H p xs) (x : DsAt K H d xs) : ∀ {vs : List V} {es : List Ds}, BhAt K H vs es → BhAt K H (vs ++ [.ref p]) (es ++ [d])
  | [], [], _ => ⟨⟨p, xs, rfl, q, x⟩, trivial⟩
  | _ :: _, _ :: _, ⟨y, r⟩ => ⟨y, BhAt.snoc q x r⟩
theorem BhAt.get {K : PySem.W.Frag} {H : Hp} : ∀ {vs : List V} {es : List Ds} {k : Nat} {d : Ds}, BhAt K H vs es → es[k]? = some d → ∃ p xs, vs[k]? = some (.ref p) ∧ SqT K H p xs ∧ DsAt K H d xs
  | [], [], _, _, _, h => by simp at h
  | v :: vs, e' :: es, 0, e, ⟨⟨p, xs, e1, q, x⟩, r⟩, h => by
    have : e' = e := Option.some.inj h
    subst this
    exact ⟨p, xs, by rw [e1]; rfl, q, x⟩
  | v :: vs, e' :: es, k + 1, e, ⟨x, r⟩, h => BhAt.get (k := k) r h
structure Dbt where
  name : Str
  scale : Nat
  begins : List Int
  stakes : List Ex
  behinds : List Ds
def DbAt (K : PySem.W.Frag) (H : Hp) (D : Dbt) (v : V) : Prop := ∃ (p : Addr) (vb : V) (ps pb : Addr) (us ws : List V), v = .ref p ∧ SqT K H p [.str D.name, .int (D.scale : Int), vb, .ref ps, .ref pb] ∧ RegsAt K H D.begins vb ∧ SqT K H ps us ∧ RowsAt K H us D.stakes ∧ SqT K H pb ws ∧ BhAt K H ws D.behinds
theorem DbAt.imp {K : PySem.W.Frag} {H H' : Hp} {D : Dbt} {v : V} (x : DbAt K H D v) (h : ∀ p xs, SqT K H p xs → SqT K H' p xs) : DbAt K H' D v := by
  obtain ⟨p, vb, ps, pb, us, ws, e, q, r, q1, r1, q2, r2⟩ := x
  exact ⟨p, vb, ps, pb, us, ws, e, h _ _ q, r.imp h, h _ _ q1, r1.imp h, h _ _ q2, r2.imp h⟩
theorem DbAt.same {K : PySem.W.Frag} {H H' : Hp} {D : Dbt} {v : V} (x : DbAt K H D v) (s : Same H H') : DbAt K H' D v := x.imp fun _ _ q => same_sqt s q
/-- names, scale, registers, stakes of a depth, deeds of a depth and a number -/
structure DbOk (many dE dD cD : Nat) (D : Dbt) : Prop where
  nm : D.name = "a" ∨ D.name = "doubter" ∨ D.name = "sceptics" ∨ D.name = "zz"
  sc : D.scale < 5
  rg : RegOk D.begins
  sl : D.stakes.length = many
  st : ∀ e ∈ D.stakes, ExOk many e ∧ e.dep ≤ dE
  bl : D.behinds.length = many
  bh : ∀ d ∈ D.behinds, DsOk many d ∧ d.dep ≤ dD ∧ d.cnt ≤ cD
/-! ### as data -/
def dsD : Ds → List PyData
  | .nil => []
  | .op w i x r => .tuple [.str (dn w), .int (i : Int), .int x] :: dsD r
  | .when i c a b r => .tuple [.str "when", .int (i : Int), .int c, .tuple (dsD a), .tuple (dsD b)] :: dsD r
theorem DsAt.dps {K : PySem.W.Frag} {H : Hp} : ∀ {d : Ds} {vs : List V}, DsAt K H d vs → DpAll K H vs (dsD d)
  | .nil, _, e => by subst e; exact .nil
  | .op _ _ _ _, _, ⟨p, us, e, q, r⟩ => by subst e; exact .cons (.tup q (.cons (.str _) (.cons (.int _) (.cons (.int _) .nil)))) r.dps
  | .when _ _ _ _ _, _, ⟨p, pa, pb, xa, xb, us, e, q, qa, a, qb, b, r⟩ => by subst e; exact .cons (.tup q (.cons (.str _) (.cons (.int _) (.cons (.int _) (.cons (.tup qa a.dps) (.cons (.tup qb b.dps) .nil)))))) r.dps
theorem BhAt.dps {K : PySem.W.Frag} {H : Hp} : ∀ {vs : List V} {es : List Ds}, BhAt K H vs es → DpAll K H vs (es.map fun d => .tuple (dsD d))
  | [], [], _ => .nil
  | _ :: _, _ :: _, ⟨⟨p, xs, e, q, x⟩, r⟩ => by subst e; exact .cons (.tup q x.dps) r.dps
def dbD (D : Dbt) : PyData := .tuple [.str D.name, .int (D.scale : Int), .tuple (D.begins.map PyData.int), .tuple (D.stakes.map toD), .tuple (D.behinds.map fun d => .tuple (dsD d))]
theorem dp_ints {K : PySem.W.Frag} {H : Hp} : ∀ ns : List Int, DpAll K H (ns.map V.int) (ns.map PyData.int)
  | [] => .nil
  | n :: r => .cons (.int n) (dp_ints r)
theorem DbAt.dp {K : PySem.W.Frag} {H : Hp} {D : Dbt} {v : V} (x : DbAt K H D v) : Dp K H v (dbD D) := by
  obtain ⟨p, vb, ps, pb, us, ws, e, q, ⟨pr, e2, r, _⟩, q1, r1, q2, r2⟩ := x
  subst e e2
  exact .tup q (.cons (.str _) (.cons (.int _) (.cons (.tup r (dp_ints _)) (.cons (.tup q1 r1.dps) (.cons (.tup q2 r2.dps) .nil)))))
theorem shw_smalls : ∀ {ns : List Int}, (∀ x ∈ ns, -1000 ≤ x ∧ x ≤ 1000) → ShwAll (ns.map PyData.int) (16 * ns.length) 0
  | [], _ => ShwAll.nil
  | n :: r, h => by
    have h0 := h n (by simp)
    have h1 := Shw.small (i := n) (by omega)
    have h2 := shw_smalls (ns := r) fun x hx => h x (List.mem_cons_of_mem _ hx)
    have h3 := ShwAll.cons h1 h2 (Nat.le_refl 0) (Nat.le_refl 0)
    refine ⟨h3.sh, h3.lf, Nat.le_trans h3.wt ?_, h3.dp⟩
    rw [List.length_cons]
    omega
theorem shw_ds {many : Nat} (hm : many ≤ 1000) : ∀ {d : Ds}, DsOk many d → ShwAll (dsD d) (60 * d.cnt) (2 * d.dep)
  | .nil, _ => ShwAll.nil
  | .op w i x r, ⟨o1, o2, o3⟩ => by
    have hr := shw_ds hm (d := r) o3
    have hx := xok_small hm o2
    have hw : Shw (.str (dn w)) 10 0 := by cases w <;> exact .str (by decide) (by decide)
    have h1 := ShwAll.tup (.cons hw (.cons (.small (i := (i : Int)) (by omega)) (.cons (.small (i := x) (by omega)) .nil (Nat.le_refl 0) (Nat.le_refl 0)) (Nat.le_refl 0) (Nat.le_refl 0)) (Nat.le_refl 0) (Nat.le_refl 0))
    have h2 := ShwAll.cons h1 hr (k := 2 * max 1 r.dep) (by omega) (by omega)
    refine ⟨h2.sh, h2.lf, Nat.le_trans h2.wt ?_, h2.dp⟩
    show 10 + 1 + (15 + 1 + (15 + 1 + 0)) + 1 + 60 * r.cnt ≤ 60 * (1 + r.cnt)
    omega
  | .when i c a b r, ⟨o1, o2, o3, o4, o5⟩ => by
    have ha := (shw_ds hm (d := a) o3).tup
    have hb := (shw_ds hm (d := b) o4).tup
    have hr := shw_ds hm (d := r) o5
    have h1 := ShwAll.tup (.cons (.str (x := "when") (by decide) (by decide)) (.cons (.small (i := (i : Int)) (by omega)) (.cons (.small (i := c) (by omega)) (.cons ha (.cons hb .nil (k := 2 * max a.dep b.dep + 1) (by omega) (Nat.zero_le _)) (by omega) (Nat.le_refl _)) (Nat.zero_le _) (Nat.le_refl _)) (Nat.zero_le _) (Nat.le_refl _)) (Nat.zero_le _) (Nat.le_refl _))
    have h2 := ShwAll.cons h1 hr (k := 2 * max (max a.dep b.dep + 1) r.dep) (by omega) (by omega)
    refine ⟨h2.sh, h2.lf, Nat.le_trans h2.wt ?_, h2.dp⟩
    show 10 + 1 + (15 + 1 + (15 + 1 + (60 * a.cnt + 1 + (60 * b.cnt + 1 + 0)))) + 1 + 60 * r.cnt ≤ 60 * (1 + (a.cnt + b.cnt) + r.cnt)
    omega
theorem shw_list {α : Type} {f : α → PyData} {w k : Nat} : ∀ {xs : List α}, (∀ x ∈ xs, Shw (f x) w k) → ShwAll (xs.map f) ((w + 1) * xs.length) k
  | [], _ => ShwAll.nil
  | n :: r, h => by
    have h1 := h n (by simp)
    have h2 := shw_list (xs := r) fun x hx => h x (List.mem_cons_of_mem _ hx)
    have h3 := ShwAll.cons h1 h2 (Nat.le_refl k) (Nat.le_refl k)
    refine ⟨h3.sh, h3.lf, Nat.le_trans h3.wt ?_, h3.dp⟩
    rw [List.length_cons, Nat.mul_add]
    omega
/-- a doubter's weight -/
theorem shw_db {many dE dD cD : Nat} {D : Dbt} (hm : many ≤ 3) (hE : dE ≤ 8) (hD : dD ≤ 8) (o : DbOk many dE dD cD D) : Shw (dbD D) (120 + 3 * wgt dE + 180 * cD) 20 := by
  have h0 : Shw (.str D.name) 10 0 := by rcases o.nm with e | e | e | e <;> rw [e] <;> exact .str (by decide) (by decide)
  have h1 : Shw (.int (D.scale : Int)) 15 0 := .small (by have := o.sc; omega)
  have h2 := (shw_smalls o.rg.2).tup
  have h3 := (shw_list (f := toD) (w := wgt dE) (k := dE) fun e he => (shw_ex (many := many) (by omega) (o.st e he).1).mono (wgt_mono (o.st e he).2) (o.st e he).2).tup
  have h4 := (shw_list (f := fun d => PyData.tuple (dsD d)) (w := 60 * cD) (k := 2 * dD + 1) fun d hd => ((shw_ds (many := many) (by omega) (o.bh d hd).1).tup).mono (Nat.mul_le_mul_left _ (o.bh d hd).2.2) (by have := (o.bh d hd).2.1; omega)).tup
  have h5 := ShwAll.tup (.cons h0 (.cons h1 (.cons h2 (.cons h3 (.cons h4 (ShwAll.nil (k := 0)) (k := 18) (by omega) (by omega)) (by omega) (Nat.le_refl 18)) (by omega) (Nat.le_refl 18)) (by omega) (Nat.le_refl 18)) (by omega) (Nat.le_refl 18))
  refine h5.mono ?_ (by decide)
  rw [o.sl, o.bl, o.rg.1]
  have a1 : (wgt dE + 1) * many ≤ (wgt dE + 1) * 3 := Nat.mul_le_mul_left _ hm
  have a2 : (60 * cD + 1) * many ≤ (60 * cD + 1) * 3 := Nat.mul_le_mul_left _ hm
  omega
/-! ### promises -/
def spExprJ (K : PySem.W.Frag) (m : Nat) : Sp := fun vs H Q _ => ∃ (a : Addr) (many l n j : Nat), vs = [.ref a, .int (many : Int), .int (l : Int), .int (j : Int)] ∧ j ≤ 1 ∧ l < m ∧ 1 ≤ many ∧ many ≤ 1000 ∧ HandAt H a n ∧ n + cost l ≤ 999999000 ∧
  ∀ H' v e, But a H H' → HandAt H' a (n + cost l) → ExAt K H' e v → ExOk many e → e.dep ≤ l + 1 → Q v H'
/-- a stake: cut to its far -/
def spStake (K : PySem.W.Frag) (m : Nat) : Sp := fun vs H Q _ => ∃ (a : Addr) (many l n j : Nat), vs = [.ref a, .int (many : Int), .int (l : Int), .int (j : Int)] ∧ j ≤ 1 ∧ l < m ∧ 1 ≤ many ∧ many ≤ 1000 ∧ HandAt H a n ∧ n + cost l ≤ 999998000 ∧
  ∀ H' v e, But a H H' → HandAt H' a (n + cost l + 3) → ExAt K H' e v → ExOk many e → e.dep ≤ l + 3 → (∃ c : Int, e = .fig c ∧ -500 ≤ c ∧ c ≤ 500) ∨ (∃ (c : Int) (e' : Ex), e = .two .least (.fig c) (.two .most (.fig (-c)) e') ∧ 1 ≤ c ∧ c ≤ 500 ∧ ExOk many e' ∧ e'.dep ≤ l + 1) → Q v H'
def dB : Nat → Nat
  | 0 => 20
  | n + 1 => 2 * dB n + 30
def dC : Nat → Nat
  | 0 => 3
  | n + 1 => 2 * dC n + 4
theorem dC_ge (n : Nat) : 3 ≤ dC n := by
  cases n with
  | zero => exact Nat.le_refl _
  | succ n => show 3 ≤ 2 * dC n + 4; omega
theorem dB_ge (n : Nat) : 20 ≤ dB n := by
  cases n with
  | zero => exact Nat.le_refl _
  | succ n => show 20 ≤ 2 * dB n + 30; omega
def spDeeds (K : PySem.W.Frag) (m : Nat) : Sp := fun vs H Q _ => ∃ (a : Addr) (many l n : Nat), vs = [.ref a, .int (many : Int), .int (l : Int)] ∧ l < m ∧ l ≤ 3 ∧ 1 ≤ many ∧ many ≤ 1000 ∧ HandAt H a n ∧ n + dB l ≤ 999998000 ∧
  ∀ H' p xs d, But a H H' → HandAt H' a (n + dB l) → SqT K H' p xs → DsAt K H' d xs → DsOk many d → d.dep ≤ l + 1 → d.cnt ≤ dC l → Q (.ref p) H'
def StOk (many l : Nat) (e : Ex) : Prop := (∃ c : Int, e = .fig c ∧ -500 ≤ c ∧ c ≤ 500) ∨ (∃ (c : Int) (e' : Ex), e = .two .least (.fig c) (.two .most (.fig (-c)) e') ∧ 1 ≤ c ∧ c ≤ 500 ∧ ExOk many e' ∧ e'.dep ≤ l + 1)
def spDoubter (K : PySem.W.Frag) (m : Nat) : Sp := fun vs H Q _ => ∃ (a : Addr) (many l n j : Nat), vs = [.ref a, .int (many : Int), .int (l : Int), .int (j : Int)] ∧ j ≤ 1 ∧ l < m ∧ l ≤ 5 ∧ 1 ≤ many ∧ many ≤ 3 ∧ HandAt H a n ∧ n ≤ 999990000 ∧
  ∀ H' v D, But a H H' → HandAt H' a (n + 3 * cost l + 300) → DbAt K H' D v → DbOk many (l + 3) 2 10 D → (∀ e ∈ D.stakes, StOk many l e) → Q v H'
end NG

namespace NG
open PySem PySem.Spec PyProof.Rows L2
/-! ### zip of a list with a tuple -/
def ItLT (K : PySem.W.Frag) (a b : Addr) : It :=
  ⟨fun i H => ∃ (us ws : List V) (u v : V), SqL K H a us ∧ SqT K H b ws ∧ us[i]? = some u ∧ ws[i]? = some v,
   fun i H r H' => ∃ (T : Addr) (u v : V), r = .ref T ∧ H T = none ∧ H' = upd H T (.tup [u, v]) ∧ (∀ us, SqL K H a us → us[i]? = some u) ∧ ∀ ws, SqT K H b ws → ws[i]? = some v,
   fun i H => ∃ us ws : List V, SqL K H a us ∧ SqT K H b ws ∧ us.length = i ∧ ws.length = i⟩
theorem turn_LT {P : Program} {w : World} {K : PySem.W.Frag} {es : List Expr} {k : Nat} {ps : Pos} {a b z TI TO i1 i2 : Addr} (S : ZipSep2 z TI TO i1 i2 [i1, a] [i2, b]) (na : a ≠ i1) (nb : b ≠ i2) :
    Turn P w K (.Tuple es k ps) (ItLT K a b) [z, TI, TO, i1, i2] z (fun i h => IsZip h z TI TO .none ∧ IsTupOf2 h TI (.ref i1) (.ref i2) ∧ (∃ c d, IsTupOf2 h TO c d) ∧ h.IsListIter i1 a i ∧ h.IsTupleIter i2 b i) := by
  have five : ∀ {c : Addr}, c ∈ [z, TI, TO, i1, i2] → c = z ∨ c = TI ∨ c = TO ∨ c = i1 ∨ c = i2 := fun h => by simpa using h
  have lives : ∀ (i : Nat) (h : Heap), (IsZip h z TI TO .none ∧ IsTupOf2 h TI (.ref i1) (.ref i2) ∧ (∃ c d, IsTupOf2 h TO c d) ∧ h.IsListIter i1 a i ∧ h.IsTupleIter i2 b i) → ∀ c ∈ [z, TI, TO, i1, i2], ∃ o, h.get? c = some o ∧ ∀ v, o.data ≠ .cell v := fun i h st c hc => by
    obtain ⟨s1, s2, ⟨x, y, s3⟩, ⟨o4, s4, _, d4⟩, ⟨o5, s5, _, d5⟩⟩ := st
    rcases five hc with rfl | rfl | rfl | rfl | rfl
    · exact ⟨_, s1, fun v q => nomatch q⟩
    · exact ⟨_, s2, fun v q => nomatch q⟩
    · exact ⟨_, s3, fun v q => nomatch q⟩
    · exact ⟨o4, s4, fun v q => by rw [d4] at q; exact nomatch q⟩
    · exact ⟨o5, s5, fun v q => by rw [d5] at q; exact nomatch q⟩
  refine ⟨List.mem_cons_self, lives, fun i h h' st kp => ?_, fun X eP ew eK hc i pins s σ H E I hf st hg => ?_, fun X eP ew eK hc i pins s σ H E I hf st hg => ?_, fun A i s Q E st q => wpAny_pyIter_zip st.1 q⟩
  · obtain ⟨s1, s2, ⟨x, y, s3⟩, s4, s5⟩ := st
    exact ⟨kp _ (by simp) _ s1, kp _ (by simp) _ s2, ⟨x, y, kp _ (by simp) _ s3⟩, s4.at fun o q => kp _ (by simp) o q, s5.at fun o q => kp _ (by simp) o q⟩
  · cases eP
    cases ew
    cases eK
    have lv := lives i _ st
    obtain ⟨s1, s2, s3, s4, s5⟩ := st
    obtain ⟨us, ws, u, v, qa, qb, hu, hv⟩ := hg
    obtain ⟨la, ra, pa, _⟩ := I.list qa
    obtain ⟨lb, rb, pb, _⟩ := I.tuple qb
    obtain ⟨u', eu, ru⟩ := ra.get hu
    obtain ⟨v', ev', rv⟩ := rb.get hv
    have W := WalksT.zipD2 (A := X.A) S (Draws.list (prog := X.prog) (w := X.w) (A := X.A.in1) (I.ok.hd hc) i1 a na la.toArray) (Draws.tuple (A := X.A.in1) (I.ok.hd hc) i2 b nb lb.toArray)
    have il : i < la.length := (List.getElem?_eq_some_iff.mp eu).1
    have ir : i < lb.length := (List.getElem?_eq_some_iff.mp ev').1
    refine W.item i s _ E (by rw [List.size_toArray, List.size_toArray]; omega) ⟨s1, s2, s3, ⟨s4, pa.isList⟩, ⟨s5, pb⟩⟩ fun T vals h1 tk pv hT tT mid k1 => ⟨_, rfl, ?_⟩
    have apT := W.apart i T h1 mid
    refine W.go es k ps i T _ _ _ mid fun h2 st2 k2 => ?_
    obtain ⟨x1, x2, e1, e2, rfl⟩ := pv
    have f1 : x1 = u' := by
      have := e1.symm.trans (show la.toArray[i]? = some u' by simpa using eu)
      exact Option.some.inj this
    have f2 : x2 = v' := by
      have := e2.symm.trans (show lb.toArray[i]? = some v' by simpa using ev')
      exact Option.some.inj this
    subst f1 f2
    obtain ⟨z1, z2, z3, ⟨z4, _⟩, ⟨z5, _⟩⟩ := st2
    have tT2 : h2.IsTuple T #[x1, x2] := tT.at fun o e => k2 T o apT e
    have in5 : ∀ c, c ∉ [z, TI, TO, i1, i2] → c ∉ [z, TO, i1, i2] := fun c h m => h (by
      rcases (by simpa using m : c = z ∨ c = TO ∨ c = i1 ∨ c = i2) with rfl | rfl | rfl | rfl <;> simp)
    have J := I.turnedNew (h' := h2) (t' := tk) (ch := [z, TI, TO, i1, i2]) (T := T) (ob := .tup [u, v]) (fun c o hb' q => k2 c o (in5 c hb') (k1 c o (in5 c hb') q)) hf hT ⟨(by show 2 ≤ sizeLine; decide), [x1, x2], .cons ru (.cons rv .nil), tT2⟩
    refine ⟨.ref T, _, J, rfl, ⟨T, u, v, rfl, I.hok.fresh hT, rfl, fun l hl => ?_, fun l hl => ?_⟩, ⟨z1, z2, z3, z4, z5⟩, fun c hcm => ?_⟩
    · rw [I.list_inj hl qa]
      exact hu
    · rw [I.tuple_inj hl qb]
      exact hv
    · obtain ⟨o, ho, _⟩ := lv c hcm
      have lt := Heap.lt_size ho
      rw [upd_ne (Nat.ne_of_lt (Nat.lt_of_lt_of_le lt hT))]
      exact (hf c hcm).1
  · cases eP
    cases ew
    cases eK
    obtain ⟨s1, s2, s3, s4, s5⟩ := st
    obtain ⟨us, ws, qa, qb, e1, e2⟩ := hg
    obtain ⟨la, ra, pa, _⟩ := I.list qa
    obtain ⟨lb, rb, pb, _⟩ := I.tuple qb
    have W := WalksT.zipD2 (A := X.A) S (Draws.list (prog := X.prog) (w := X.w) (A := X.A.in1) (I.ok.hd hc) i1 a na la.toArray) (Draws.tuple (A := X.A.in1) (I.ok.hd hc) i2 b nb lb.toArray)
    have l1 := ra.length
    have l2 := rb.length
    have en : min la.toArray.size lb.toArray.size = i := by
      rw [List.size_toArray, List.size_toArray]
      omega
    rw [en] at W
    refine W.done s _ E ⟨s1, s2, s3, ⟨s4, pa.isList⟩, ⟨s5, pb⟩⟩ fun h1 tk k1 => ⟨rfl, ?_⟩
    exact I.turnedL (t' := tk) (ch := [z, TI, TO, i1, i2]) (fun c o hb' q => k1 c o (fun m => hb' (by rcases (by simpa using m : c = z ∨ c = TO ∨ c = i1 ∨ c = i2) with rfl | rfl | rfl | rfl <;> simp)) q) hf
def iZipLT (K : PySem.W.Frag) (ta : TA) : TI := fun σ H R => ta σ H fun vs H1 => ∃ a b us ws, vs = [.ref a, .ref b] ∧ SqL K H1 a us ∧ SqT K H1 b ws ∧ R (ItLT K a b) H1
theorem pi_zipLT {X : Cx} {e e2 : Expr} {ta : TA} {p pos tpos : Pos} {elts : List Expr} {kk : Nat} (hg : Gl X "zip") (hm : X.mg "zip" = none) (ha : PA X [e, e2] ta)
    (hs : starEach [e, e2] X.env = (false, eval e X.env) :: starEach [e2] X.env := by rfl) (hpl : (backTo pos (starEach [e2] X.env)).any (·.1) = false := by rfl) : PI X (.Tuple elts kk tpos) (.Call (.Name "zip" p) [e, e2] [] pos) (iZipLT X.K ta) := by
  refine ⟨fun pins s σ H R I h => Call_ (ld_blt I hg hm PyProof.Rows.boot_zip (PyProof.Rows.callWith_type1 (thn (ha.run pos pins s σ H _ I h) fun us s1 ⟨vs, H1, I1, r1, q1⟩ => ?_) hs hpl))⟩
  obtain ⟨a, b, ul, wl, rfl, qa, qb, q⟩ := q1
  obtain ⟨v1, v2, rfl, t1, t2⟩ := vals2 r1
  cases t1
  cases t2
  obtain ⟨la, ra, pa, _⟩ := I1.list qa
  obtain ⟨lb, rb, pb, _⟩ := I1.tuple qb
  obtain ⟨ob, hob, _⟩ := id pb
  have lt1 : a < s1.heap.objs.size := pa.lt
  have lt2 : b < s1.heap.objs.size := Heap.lt_size hob
  refine zip_begins2 (begins_list a la.toArray) (begins_tuple b lb.toArray) pa.isList pb fun h' hz hTI hTO g1 g2 hsz hk => wpAny_pyIter_zip hz ?_
  have J : Inv X pins σ H1 { s1 with heap := h' } := I1.kept (t' := s1.toks) hk
  have S := zip_sep2 (N := s1.heap.objs.size) (fp1 := [a]) (fp2 := [b]) (fun c hc => by rw [List.mem_singleton.mp hc]; exact lt1) (fun c hc => by rw [List.mem_singleton.mp hc]; exact lt2)
  refine ⟨_, _, _, _, H1, rfl, J, turn_LT S (Nat.ne_of_lt lt1) (Nat.ne_of_lt (Nat.lt_succ_of_lt lt2)), ⟨hz, hTI, ⟨_, _, hTO⟩, ⟨_, g1, rfl, rfl⟩, ⟨_, g2, rfl, rfl⟩⟩, fun c hcm => ?_, q⟩
  have le : s1.heap.objs.size ≤ c := by
    rcases (by simpa using hcm : c = s1.heap.objs.size + 4 ∨ c = s1.heap.objs.size + 2 ∨ c = s1.heap.objs.size + 3 ∨ c = s1.heap.objs.size ∨ c = s1.heap.objs.size + 1) with e | e | e | e | e <;> (rw [e]; first | exact Nat.le_refl _ | exact Nat.le_add_right _ _)
  exact I1.fpOk le (I1.hok.fresh le)
theorem walk_LT {K : PySem.W.Frag} {a b : Addr} {us ws : List V} {n : Nat} (hx : us.length = n) (hy : ws.length = n) : Walk (ItLT K a b) n (fun H => SqL K H a us ∧ SqT K H b ws) (YPair (fun i => us[i]?) (fun i => ws[i]?)) := by
  refine ⟨fun i H hi q => ⟨us, ws, us[i]'(by omega), ws[i]'(by omega), q.1, q.2, List.getElem?_eq_getElem _, List.getElem?_eq_getElem _⟩, fun H q => ⟨us, ws, q.1, q.2, hx, hy⟩, fun i H v H' hi q y => ?_⟩
  obtain ⟨T, x, z, h1, h2, h3, h4, h5⟩ := y
  exact ⟨T, x, z, h1, h2, h3, h4 us q.1, h5 ws q.2⟩
end NG

namespace NG
open PySem PySem.Spec PyProof.Rows L2
/-! ### enumerate of a tuple -/
set_option maxHeartbeats 1000000 in
theorem enum_new1 {v : Value} {ob : Obj} {Hv : Heap → Prop} (B : Begins v ob Hv) :
    Meets (Builtin.«enumerate.__new__» ⟨[.type "enumerate", v], []⟩) (fun _ R st => Hv st.heap ∧ R (.ok (.ret (.ref (st.heap.push ob).objs.size))) { st with heap := (st.heap.push ob).push { cls := .type "enumerate", data := .fields #[.none, .bool false, .ref st.heap.objs.size, rawInt 0, .none, .none] } }) := by
  refine .of_wp fun pr wl A R st h => ?_
  obtain ⟨hp, g, d, tk, os⟩ := st
  obtain ⟨hv, hR⟩ := h
  have se := sub_enumerate
  have qi : ∀ {A' : Around} {E : Value → Shared → Prop} {Q : Value → Shared → Prop}, Q (.ref hp.objs.size) ⟨hp.push ob, g, d, tk, os⟩ → wpAny (model pr wl) A' (pyIter v) Q E ⟨hp, g, d, tk, os⟩ := fun q => B.iter pr wl _ _ ⟨hp, g, d, tk, os⟩ _ hv q
  wp_walk using qi
  refine wpAny_stack_any fun sk => wpAny_pure ?_
  split
  · rename_i c _ _ _ _ _
    cases (c == Value.type "enumerate")
    all_goals
      wp_walk using qi
      exact ⟨_, rfl, hR⟩
  · wp_walk using qi
    exact ⟨_, rfl, hR⟩
theorem enum_call1 {pr : Program} {wl : World} {A : Around} {E : Value → Shared → Prop} {st : Shared} {v : Value} {ob : Obj} {Hv : Heap → Prop} {Q : Value → Shared → Prop} (B : Begins v ob Hv) (hv : Hv st.heap)
    (hQ : ∀ h', IsEnum h' (st.heap.objs.size + 1) st.heap.objs.size 0 .none → h'.get? st.heap.objs.size = some ob → (∀ b o, st.heap.get? b = some o → h'.get? b = some o) → Q (.ref (st.heap.objs.size + 1)) { st with heap := h' }) : wpAny (model pr wl) A (call (.type "enumerate") [v]) Q E st := by
  refine callType_new F.called_enumerate (by decide) (F.typeCall_enumerate_1 _) (F.newCall_enumerate_1 _) (fun x => F.args_object_init_2 x _) F.entry_enumerate_new (enum_new1 B) ⟨hv, ?_⟩
  have sz : (st.heap.push ob).objs.size = st.heap.objs.size + 1 := Heap.size_push ..
  show _ ∧ _
  rw [sz]
  have ie : IsEnum ((st.heap.push ob).push { cls := .type "enumerate", data := .fields #[.none, .bool false, .ref st.heap.objs.size, rawInt 0, .none, .none] }) (st.heap.objs.size + 1) st.heap.objs.size 0 .none := by
    have t := Heap.get?_push_size (st.heap.push ob) (o := { cls := .type "enumerate", data := .fields #[.none, .bool false, .ref st.heap.objs.size, rawInt 0, .none, .none] }) rfl
    rw [sz] at t
    exact t
  exact ⟨⟨_, ie, rfl⟩, hQ _ ie (Heap.get?_push_of_some _ (Heap.get?_push_size _ B.free)) fun b o x => Heap.get?_push_of_some _ (Heap.get?_push_of_some _ x)⟩
def ItEn (K : PySem.W.Frag) (a : Addr) : It :=
  ⟨fun i H => ∃ (ws : List V) (v : V), SqT K H a ws ∧ ws[i]? = some v,
   fun i H r H' => ∃ (T : Addr) (v : V), r = .ref T ∧ H T = none ∧ H' = upd H T (.tup [.int (i : Nat), v]) ∧ ∀ ws, SqT K H a ws → ws[i]? = some v,
   fun i H => ∃ ws : List V, SqT K H a ws ∧ ws.length = i⟩
theorem turn_En {P : Program} {w : World} {K : PySem.W.Frag} {es : List Expr} {k : Nat} {ps : Pos} {a e it : Addr} (ne : e ≠ it) (nea : e ≠ a) (na : a ≠ it) :
    Turn P w K (.Tuple es k ps) (ItEn K a) [e, it] e (fun i h => (∃ old, IsEnum h e it ((i : Nat) : Int) old) ∧ h.IsTupleIter it a i) := by
  have two : ∀ {c : Addr}, c ∈ [e, it] → c = e ∨ c = it := fun h => by simpa using h
  have lives : ∀ (i : Nat) (h : Heap), ((∃ old, IsEnum h e it ((i : Nat) : Int) old) ∧ h.IsTupleIter it a i) → ∀ c ∈ [e, it], ∃ o, h.get? c = some o ∧ ∀ v, o.data ≠ .cell v := fun i h st c hc => by
    obtain ⟨⟨old, s1⟩, ⟨o5, s5, _, d5⟩⟩ := st
    rcases two hc with rfl | rfl
    · exact ⟨_, s1, fun v q => nomatch q⟩
    · exact ⟨o5, s5, fun v q => by rw [d5] at q; exact nomatch q⟩
  have hef : e ∉ [it, a] := fun m => by
    rcases (by simpa using m : e = it ∨ e = a) with q | q
    · exact ne q
    · exact nea q
  refine ⟨List.mem_cons_self, lives, fun i h h' st kp => ?_, fun X eP ew eK hc i pins s σ H E I hf st hg => ?_, fun X eP ew eK hc i pins s σ H E I hf st hg => ?_, fun A i s Q E st q => let ⟨⟨_, z⟩, _⟩ := st; wpAny_pyIter_enum z q⟩
  · obtain ⟨⟨old, s1⟩, s5⟩ := st
    exact ⟨⟨old, kp _ (by simp) _ s1⟩, s5.at fun o q => kp _ (by simp) o q⟩
  · cases eP
    cases ew
    cases eK
    have lv := lives i _ st
    obtain ⟨s1, s5⟩ := st
    obtain ⟨ws, v, qb, hv⟩ := hg
    obtain ⟨lb, rb, pb, _⟩ := I.tuple qb
    obtain ⟨v', ev', rv⟩ := rb.get hv
    have W := WalksT.enumerateD (A := X.A) (Draws.tuple (prog := X.prog) (w := X.w) (A := X.A.in1) (I.ok.hd hc) it a na lb.toArray) e ne hef List.mem_cons_self
    have ir : i < lb.length := (List.getElem?_eq_some_iff.mp ev').1
    refine W.item i s _ E (by rw [List.size_toArray]; omega) ⟨s1, s5, pb⟩ fun T vals h1 tk pv hT tT mid k1 => ⟨_, rfl, ?_⟩
    have apT := W.apart i T h1 mid
    refine W.go es k ps i T _ _ _ mid fun h2 st2 k2 => ?_
    obtain ⟨t2, x2, e2, rfl⟩ := pv
    have f2 : x2 = v' := by
      have := e2.symm.trans (show lb.toArray[i]? = some v' by simpa using ev')
      exact Option.some.inj this
    subst f2
    obtain ⟨z1, z5, _⟩ := st2
    have tT2 : h2.IsTuple T #[.int i t2, x2] := tT.at fun o e => k2 T o apT e
    have J := I.turnedNew (h' := h2) (t' := tk) (ch := [e, it]) (T := T) (ob := .tup [.int (i : Nat), v]) (fun c o hb' q => k2 c o hb' (k1 c o hb' q)) hf hT ⟨(by show 2 ≤ sizeLine; decide), [.int i t2, x2], .cons ⟨_, rfl⟩ (.cons rv .nil), tT2⟩
    refine ⟨.ref T, _, J, rfl, ⟨T, v, rfl, I.hok.fresh hT, rfl, fun l hl => ?_⟩, ⟨z1, z5⟩, fun c hcm => ?_⟩
    · rw [I.tuple_inj hl qb]
      exact hv
    · obtain ⟨o, ho, _⟩ := lv c hcm
      have lt := Heap.lt_size ho
      rw [upd_ne (Nat.ne_of_lt (Nat.lt_of_lt_of_le lt hT))]
      exact (hf c hcm).1
  · cases eP
    cases ew
    cases eK
    obtain ⟨s1, s5⟩ := st
    obtain ⟨ws, qb, e2⟩ := hg
    obtain ⟨lb, rb, pb, _⟩ := I.tuple qb
    have W := WalksT.enumerateD (A := X.A) (Draws.tuple (prog := X.prog) (w := X.w) (A := X.A.in1) (I.ok.hd hc) it a na lb.toArray) e ne hef List.mem_cons_self
    have l2 := rb.length
    have en : lb.toArray.size = i := by
      rw [List.size_toArray]
      omega
    rw [en] at W
    refine W.done s _ E ⟨s1, s5, pb⟩ fun h1 tk k1 => ⟨rfl, ?_⟩
    exact I.turnedL (t' := tk) (ch := [e, it]) (fun c o hb' q => k1 c o hb' q) hf
def iEnT (K : PySem.W.Frag) (ta : TA) : TI := fun σ H R => ta σ H fun vs H1 => ∃ a ws, vs = [.ref a] ∧ SqT K H1 a ws ∧ R (ItEn K a) H1
theorem pi_enumT {X : Cx} {x : Expr} {ta : TA} {p pos tpos : Pos} {elts : List Expr} {kk : Nat} (hg : Gl X "enumerate") (hm : X.mg "enumerate" = none) (ha : PA X [x] ta)
    (hs : starEach [x] X.env = [(false, eval x X.env)] := by rfl) : PI X (.Tuple elts kk tpos) (.Call (.Name "enumerate" p) [x] [] pos) (iEnT X.K ta) := by
  refine ⟨fun pins s σ H R I h => Call_ (ld_blt I hg hm boot_enumerate (PyProof.Rows.callWith_type1 (thn (ha.run pos pins s σ H _ I h) fun us s1 ⟨vs, H1, I1, r1, q1⟩ => ?_) hs rfl))⟩
  obtain ⟨a, wl, rfl, qb, q⟩ := q1
  rw [Vals.ref1 r1]
  obtain ⟨lb, rb, pb, _⟩ := I1.tuple qb
  obtain ⟨ob, hob, _⟩ := id pb
  have lt2 : a < s1.heap.objs.size := Heap.lt_size hob
  refine enum_call1 (begins_tuple a lb.toArray) pb fun h' he g2 hk => wpAny_pyIter_enum he ?_
  have J : Inv X pins σ H1 { s1 with heap := h' } := I1.kept (t' := s1.toks) hk
  refine ⟨_, _, _, _, H1, rfl, J, turn_En (a := a) (e := s1.heap.objs.size + 1) (it := s1.heap.objs.size) (Nat.succ_ne_self _) (Nat.ne_of_gt (Nat.lt_succ_of_lt lt2)) (Nat.ne_of_lt lt2), ⟨⟨.none, he⟩, ⟨_, g2, rfl, rfl⟩⟩, fun c hcm => ?_, q⟩
  have le : s1.heap.objs.size ≤ c := by
    rcases (by simpa using hcm : c = s1.heap.objs.size + 1 ∨ c = s1.heap.objs.size) with e | e <;> (rw [e]; first | exact Nat.le_refl _ | exact Nat.le_add_right _ _)
  exact I1.fpOk le (I1.hok.fresh le)
theorem walk_En {K : PySem.W.Frag} {a : Addr} {ws : List V} {n : Nat} (hy : ws.length = n) : Walk (ItEn K a) n (fun H => SqT K H a ws) (YPair (fun i => some (.int (i : Nat))) (fun i => ws[i]?)) := by
  refine ⟨fun i H hi q => ⟨ws, ws[i]'(by omega), q, List.getElem?_eq_getElem _⟩, fun H q => ⟨ws, q, hy⟩, fun i H v H' hi q y => ?_⟩
  obtain ⟨T, z, h1, h2, h3, h4⟩ := y
  exact ⟨T, .int (i : Nat), z, h1, h2, h3, rfl, h4 ws q⟩
end NG

namespace NG
open PySem PySem.Spec PyProof.Rows L2
/-! ### the same with a truth for jumps -/
def spExprB (K : PySem.W.Frag) (m : Nat) : Sp := fun vs H Q _ => ∃ (a : Addr) (many l n : Nat) (j : Bool), vs = [.ref a, .int (many : Int), .int (l : Int), .bl j] ∧ True ∧ l < m ∧ 1 ≤ many ∧ many ≤ 1000 ∧ HandAt H a n ∧ n + cost l ≤ 999999000 ∧
  ∀ H' v e, But a H H' → HandAt H' a (n + cost l) → ExAt K H' e v → ExOk many e → e.dep ≤ l + 1 → Q v H'
/-- a stake: cut to its far -/
def spStakeB (K : PySem.W.Frag) (m : Nat) : Sp := fun vs H Q _ => ∃ (a : Addr) (many l n : Nat) (j : Bool), vs = [.ref a, .int (many : Int), .int (l : Int), .bl j] ∧ True ∧ l < m ∧ 1 ≤ many ∧ many ≤ 1000 ∧ HandAt H a n ∧ n + cost l ≤ 999998000 ∧
  ∀ H' v e, But a H H' → HandAt H' a (n + cost l + 3) → ExAt K H' e v → ExOk many e → e.dep ≤ l + 3 → (∃ c : Int, e = .fig c ∧ -500 ≤ c ∧ c ≤ 500) ∨ (∃ (c : Int) (e' : Ex), e = .two .least (.fig c) (.two .most (.fig (-c)) e') ∧ 1 ≤ c ∧ c ≤ 500 ∧ ExOk many e' ∧ e'.dep ≤ l + 1) → Q v H'
def spDoubterB (K : PySem.W.Frag) (m : Nat) : Sp := fun vs H Q _ => ∃ (a : Addr) (many l n : Nat) (j : Bool), vs = [.ref a, .int (many : Int), .int (l : Int), .bl j] ∧ True ∧ l < m ∧ l ≤ 5 ∧ 1 ≤ many ∧ many ≤ 3 ∧ HandAt H a n ∧ n ≤ 999990000 ∧
  ∀ H' v D, But a H H' → HandAt H' a (n + 3 * cost l + 300) → DbAt K H' D v → DbOk many (l + 3) 2 10 D → (∀ e ∈ D.stakes, StOk many l e) → Q v H'
end NG

namespace NG
open PySem PySem.Spec PyProof.Rows L2
/-! ### a tuple so many times, any number of times -/
theorem mul_itself (l : Addr) (its : Array Value) (n : Nat) (dd : Option Addr) (sl : Array (Option Value)) (x : Int) (u : Tok) (c0 : (decide (x < -(2 ^ 63)) || decide (x ≥ 2 ^ 63)) = false) (c1 : (its.isEmpty || x == 1) = true) :
    Meets (Builtin.«tuple.__mul__» ⟨[.ref l, .int x u], []⟩) (fun _ R st => st.heap.get? l = some { cls := .type "tuple", dict := dd, data := .seq its n, slots := sl } ∧ R (.ok (.ret (Value.ref l))) st) := by
  refine .of_wp fun pr wl A R st h => ?_
  obtain ⟨hp, g, d, tk, os⟩ := st
  obtain ⟨hl, hR⟩ := h
  have f1 := AutoSeq1.idx_int
  wp_walk using wpAny_loadPart' hl
  repeat (first
    | (refine wpAny_ite_false (decide_eq_false (by rw [c0]; exact Bool.false_ne_true)) ?_; wp_walk using wpAny_loadPart' hl)
    | (refine wpAny_ite_true (decide_eq_true c1) ?_; wp_walk using wpAny_loadPart' hl))
  exact ⟨_, rfl, hR⟩
theorem mul_none (l : Addr) (its : Array Value) (n : Nat) (dd : Option Addr) (sl : Array (Option Value)) (x : Int) (u : Tok) (c0 : (decide (x < -(2 ^ 63)) || decide (x ≥ 2 ^ 63)) = false) (c1 : (its.isEmpty || x == 1) = false) (c2 : (decide (x ≤ 0) || its.isEmpty) = true) :
    Meets (Builtin.«tuple.__mul__» ⟨[.ref l, .int x u], []⟩) (fun _ R st => st.heap.get? l = some { cls := .type "tuple", dict := dd, data := .seq its n, slots := sl } ∧ R (.ok (.ret (Value.ref st.heap.objs.size))) { st with heap := st.heap.push { cls := Value.type "tuple", data := Data.seq #[] } }) := by
  refine .of_wp fun pr wl A R st h => ?_
  obtain ⟨hp, g, d, tk, os⟩ := st
  obtain ⟨hl, hR⟩ := h
  have f1 := AutoSeq1.idx_int
  wp_walk using wpAny_loadPart' hl
  repeat (first
    | (refine wpAny_ite_false (decide_eq_false (by rw [c0]; exact Bool.false_ne_true)) ?_; wp_walk using wpAny_loadPart' hl)
    | (refine wpAny_ite_false (decide_eq_false (by rw [c1]; exact Bool.false_ne_true)) ?_; wp_walk using wpAny_loadPart' hl)
    | (refine wpAny_ite_true (decide_eq_true c2) ?_; wp_walk using wpAny_loadPart' hl))
  exact ⟨_, rfl, hR⟩
def rRepA (K : PySem.W.Frag) : R2 := fun x y H Q => ∃ l k xs, x = .ref l ∧ y = .int k ∧ SqT K H l xs ∧ -1000 ≤ k ∧ k ≤ 1000 ∧ xs.length ≤ 1000 ∧ ∀ H' p, Same H H' → SqT K H' p (List.replicate k.toNat xs).flatten → Q (.ref p) H'
theorem op_repA {X : Cx} : OpR X (binaryOp .Mult) (rRepA X.K) := by
  intro pins s σ H x y v u Q I rx ry h
  obtain ⟨l, k, xs, rfl, rfl, hT, h0, h2, hz, q⟩ := h
  by_cases hbig : xs ≠ [] ∧ 2 ≤ k
  · exact op_repT pins s σ H _ _ v u Q I rx ry ⟨l, k, xs, rfl, rfl, hT, hbig.1, hbig.2, h2, hz, fun p np => q _ p (same_new np) (SqT.of upd_same)⟩
  · have rx0 := rx
    cases rx
    obtain ⟨t, rfl⟩ := ry
    obtain ⟨its, r, ⟨⟨cls, dd, data, sl⟩, ho, hc, n, hd⟩, hs⟩ := I.tuple hT
    simp only at hc hd
    subst hc hd
    have hle : its.length = xs.length := r.length.symm
    have c0 : (decide (k < -(2 ^ 63)) || decide (k ≥ 2 ^ 63)) = false := by
      rw [decide_eq_false (by omega), decide_eq_false (by omega)]
      rfl
    by_cases hone : xs = [] ∨ k = 1
    · have c1 : (its.toArray.isEmpty || k == 1) = true := by
        rcases hone with e | e
        · rw [e] at hle
          have : its = [] := List.eq_nil_of_length_eq_zero hle
          rw [this]
          rfl
        · rw [e]
          simp
      have e1 : (List.replicate k.toNat xs).flatten = xs := by
        rcases hone with e | e
        · rw [e]
          simp
        · rw [e]
          simp
      refine wpAny_binaryOp_repeat_ref (T := "tuple") (U := "int") (by decide) ⟨_, ho, rfl⟩ (fun s' => typeIs_int s' k t) noFill_tuple_mul F.fills_int_mul F.slot_int_rmul repeat_tuple F.slot_int_index.lookup
        (call_meets F.slot_int_rmul (typeIs_int s k t) F.entry_int_rmul (F.args_int_rmul_2 _ _) (int_rmul_tuple k t l its.toArray n dd sl) ⟨ho, rfl, ⟨_, ho, rfl⟩, call_meets F.slot_tuple_mul ⟨_, ho, rfl⟩ F.entry_tuple_mul (F.args_tuple_mul_2 _ _) (mul_itself l its.toArray n dd sl k t c0 c1) ⟨ho, ?_⟩⟩)
      exact ⟨.ref l, H, I, rfl, q H l (Same.refl _) (by rw [e1]; exact hT)⟩
    · have hk0 : k ≤ 0 := by
        have h1 : ¬ xs = [] := fun z => hone (.inl z)
        have h2 : ¬ k = 1 := fun z => hone (.inr z)
        have h3 : ¬ 2 ≤ k := fun z => hbig ⟨h1, z⟩
        omega
      have hn : its ≠ [] := fun e => hone (.inl (by
        rw [e] at hle
        exact List.eq_nil_of_length_eq_zero hle.symm))
      have hi : its.toArray.isEmpty = false := by
        cases its with
        | nil => exact absurd rfl hn
        | cons a b => rfl
      have c1 : (its.toArray.isEmpty || k == 1) = false := by
        rw [hi, Bool.false_or]
        exact beq_eq_false_iff_ne.mpr (by omega)
      have c2 : (decide (k ≤ 0) || its.toArray.isEmpty) = true := by
        rw [decide_eq_true hk0]
        rfl
      have e0 : (List.replicate k.toNat xs).flatten = [] := by
        rw [show k.toNat = 0 by omega]
        rfl
      refine wpAny_binaryOp_repeat_ref (T := "tuple") (U := "int") (by decide) ⟨_, ho, rfl⟩ (fun s' => typeIs_int s' k t) noFill_tuple_mul F.fills_int_mul F.slot_int_rmul repeat_tuple F.slot_int_index.lookup
        (call_meets F.slot_int_rmul (typeIs_int s k t) F.entry_int_rmul (F.args_int_rmul_2 _ _) (int_rmul_tuple k t l its.toArray n dd sl) ⟨ho, rfl, ⟨_, ho, rfl⟩, call_meets F.slot_tuple_mul ⟨_, ho, rfl⟩ F.entry_tuple_mul (F.args_tuple_mul_2 _ _) (mul_none l its.toArray n dd sl k t c0 c1 c2) ⟨ho, ?_⟩⟩)
      have np : H s.heap.objs.size = none := I.hok.fresh (Nat.le_refl _)
      refine ⟨.ref s.heap.objs.size, _, I.laid (t' := s.toks) (o := .tup []) (fun b ob q => Heap.get?_push_of_some _ q) (Nat.le_refl _) ?_, rfl, q _ _ (same_new np) (by rw [e0]; exact SqT.of upd_same)⟩
      exact ⟨Nat.zero_le _, [], .nil, IsTup.new _ _⟩
end NG

namespace NG
open PySem PySem.Spec PyProof.Rows L2
/-! ### what is shown, of small numbers -/
structure Shh (d : PyData) (w k : Nat) : Prop where
  sh : d.showable = true
  lf : d.leavesShort 70 = true
  wt : d.weight ≤ w
  dp : d.depth ≤ k
structure ShhAll (ds : List PyData) (w k : Nat) : Prop where
  sh : PyData.showableAll ds = true
  lf : PyData.leavesShortAll 70 ds = true
  wt : PyData.weightAll ds ≤ w
  dp : PyData.depthAll ds ≤ k
theorem Shw.hh {d : PyData} {w k : Nat} (h : Shw d w k) (l : d.leavesShort 70 = true) : Shh d w k := ⟨h.sh, l, h.wt, h.dp⟩
theorem int60 {i : Int} (h : i.natAbs < 2 ^ 60) : PyData.leavesShort 70 (.int i) = true := by
  have hl : i.natAbs.log2 < 60 := PySem.Flt.log2_lt_of (by decide) h
  show decide ((PyData.shown (.int i)).length ≤ 70) = true
  refine decide_eq_true ?_
  have e := int_text_length_le (k := 60) (by decide) hl
  show (Str.ofString (toString i)).length ≤ 70
  rw [PySem.ofString_length]
  omega
theorem Shh.int {i : Int} (h : i.natAbs < 2 ^ 60) : Shh (.int i) 60 0 := by
  have hl : i.natAbs.log2 < 60 := PySem.Flt.log2_lt_of (by decide) h
  have h6 := Shw.int (i := i) (Nat.lt_of_lt_of_le h (Nat.pow_le_pow_right (by decide) (by decide)))
  refine ⟨h6.sh, int60 h, ?_, Nat.le_refl _⟩
  show (if i == 0 then 0 else i.natAbs.log2 + 1) ≤ 60
  split <;> omega
theorem Shh.str {x : Str} (h : (x.cps.toList.all fun c => decide (c < 16 ^ 8)) = true) (hl : x.cps.size ≤ 10) : Shh (.str x) 10 0 := ⟨rfl, h, hl, Nat.le_refl _⟩
theorem ShhAll.nil {k : Nat} : ShhAll [] 0 k := ⟨rfl, rfl, Nat.le_refl _, Nat.zero_le _⟩
theorem ShhAll.cons {d : PyData} {ds : List PyData} {w1 w2 k1 k2 k : Nat} (h1 : Shh d w1 k1) (h2 : ShhAll ds w2 k2) (hk1 : k1 ≤ k) (hk2 : k2 ≤ k) : ShhAll (d :: ds) (w1 + 1 + w2) k := by
  refine ⟨?_, ?_, ?_, ?_⟩
  · show (d.showable && PyData.showableAll ds) = true
    rw [h1.sh, h2.sh]
    rfl
  · show (d.leavesShort 70 && PyData.leavesShortAll 70 ds) = true
    rw [h1.lf, h2.lf]
    rfl
  · show d.weight + 1 + PyData.weightAll ds ≤ _
    have a := h1.wt
    have b := h2.wt
    omega
  · show max d.depth (PyData.depthAll ds) ≤ k
    have a := h1.dp
    have b := h2.dp
    omega
theorem ShhAll.tup {ds : List PyData} {w k : Nat} (h : ShhAll ds w k) : Shh (.tuple ds) w (k + 1) := ⟨h.sh, h.lf, h.wt, by show PyData.depthAll ds + 1 ≤ k + 1; have := h.dp; omega⟩
theorem ShhAll.lst {ds : List PyData} {w k : Nat} (h : ShhAll ds w k) : Shh (.list ds) w (k + 1) := ⟨h.sh, h.lf, h.wt, by show PyData.depthAll ds + 1 ≤ k + 1; have := h.dp; omega⟩
theorem Shh.mono {d : PyData} {w w' k k' : Nat} (h : Shh d w k) (hw : w ≤ w') (hk : k ≤ k') : Shh d w' k' := ⟨h.sh, h.lf, Nat.le_trans h.wt hw, Nat.le_trans h.dp hk⟩
theorem ShhAll.mono {d : List PyData} {w w' k k' : Nat} (h : ShhAll d w k) (hw : w ≤ w') (hk : k ≤ k') : ShhAll d w' k' := ⟨h.sh, h.lf, Nat.le_trans h.wt hw, Nat.le_trans h.dp hk⟩
theorem Shh.fits {d : PyData} {w k : Nat} (h : Shh d w k) (hw : w ≤ 230000) : d.shown.length ≤ sizeLine := by
  have := PyData.shown_le 70 (by decide) d h.lf
  have := h.wt
  have e : sizeLine = 16777216 := by decide
  omega
theorem ShhAll.app {es : List PyData} {w2 k : Nat} : ∀ {ds : List PyData} {w1 : Nat}, ShhAll ds w1 k → ShhAll es w2 k → ShhAll (ds ++ es) (w1 + w2) k
  | [], w1, _, h2 => h2.mono (by omega) (Nat.le_refl _)
  | d :: ds, w1, h1, h2 => by
    have s1 : (d.showable && PyData.showableAll ds) = true := h1.sh
    have s2 : (d.leavesShort 70 && PyData.leavesShortAll 70 ds) = true := h1.lf
    have s3 : d.weight + 1 + PyData.weightAll ds ≤ w1 := h1.wt
    have s4 : max d.depth (PyData.depthAll ds) ≤ k := h1.dp
    have s1 := Bool.and_eq_true_iff.mp s1
    have s2 := Bool.and_eq_true_iff.mp s2
    have hd : Shh d d.weight k := ⟨s1.1, s2.1, Nat.le_refl _, by omega⟩
    have hr : ShhAll ds (PyData.weightAll ds) k := ⟨s1.2, s2.2, Nat.le_refl _, by omega⟩
    exact (ShhAll.cons hd (ShhAll.app hr h2) (Nat.le_refl _) (Nat.le_refl _)).mono (by omega) (Nat.le_refl _)
theorem lf_and {d : PyData} {ds : List PyData} (h : d.leavesShort 70 = true) (t : PyData.leavesShortAll 70 ds = true) : PyData.leavesShortAll 70 (d :: ds) = true := by
  show (d.leavesShort 70 && PyData.leavesShortAll 70 ds) = true
  rw [h, t]
  rfl
theorem lf_ex {many : Nat} (hm : many ≤ 1000) : ∀ {e : Ex}, ExOk many e → (toD e).leavesShort 70 = true
  | .fig c, o => lf_and (d := .str "fig") (by decide) (lf_and (int60 (by have := o.1; have := o.2; omega)) rfl)
  | .reg i, o => lf_and (d := .str "reg") (by decide) (lf_and (int60 (by have o : i < 4 := o; omega)) rfl)
  | .share j, o => lf_and (d := .str "share") (by decide) (lf_and (int60 (by have o : j < many := o; omega)) rfl)
  | .two w a b, o => lf_and (d := .str (wn w)) (by cases w <;> decide) (lf_and (lf_ex hm o.1) (lf_and (lf_ex hm o.2) rfl))
  | .times f a, o => lf_and (d := .str "times") (by decide) (lf_and (int60 (by have := o.1.1; have := o.1.2; omega)) (lf_and (lf_ex hm o.2) rfl))
  | .by i a, o => lf_and (d := .str "by") (by decide) (lf_and (int60 (by have := o.1; omega)) (lf_and (lf_ex hm o.2) rfl))
  | .when i c a b, o => lf_and (d := .str "when") (by decide) (lf_and (int60 (by have := o.1; omega)) (lf_and (int60 (by have := o.2.1.1; have := o.2.1.2; omega)) (lf_and (lf_ex hm o.2.2.1) (lf_and (lf_ex hm o.2.2.2) rfl))))
  | .whr j c a b, o => lf_and (d := .str "where") (by decide) (lf_and (int60 (by have := o.1; omega)) (lf_and (int60 (by have := o.2.1.1; have := o.2.1.2; omega)) (lf_and (lf_ex hm o.2.2.1) (lf_and (lf_ex hm o.2.2.2) rfl))))
theorem lf_ds {many : Nat} (hm : many ≤ 1000) : ∀ {d : Ds}, DsOk many d → PyData.leavesShortAll 70 (dsD d) = true
  | .nil, _ => rfl
  | .op w i x r, o => lf_and (d := .tuple [.str (dn w), .int (i : Int), .int x]) (lf_and (d := .str (dn w)) (by cases w <;> decide) (lf_and (int60 (by have := o.1; omega)) (lf_and (int60 (by have := xok_small hm o.2.1; omega)) rfl))) (lf_ds hm o.2.2)
  | .when i c a b r, o => lf_and (d := .tuple [.str "when", .int (i : Int), .int c, .tuple (dsD a), .tuple (dsD b)]) (lf_and (d := .str "when") (by decide) (lf_and (int60 (by have := o.1; omega)) (lf_and (int60 (by have := o.2.1.1; have := o.2.1.2; omega)) (lf_and (d := .tuple (dsD a)) (lf_ds hm o.2.2.1) (lf_and (d := .tuple (dsD b)) (lf_ds hm o.2.2.2.1) rfl))))) (lf_ds hm o.2.2.2.2)
theorem lf_list {α : Type} {f : α → PyData} : ∀ {xs : List α}, (∀ x ∈ xs, (f x).leavesShort 70 = true) → PyData.leavesShortAll 70 (xs.map f) = true
  | [], _ => rfl
  | x :: r, h => lf_and (h x (by simp)) (lf_list fun y hy => h y (List.mem_cons_of_mem _ hy))
theorem lf_db {many dE dD cD : Nat} {D : Dbt} (hm : many ≤ 1000) (o : DbOk many dE dD cD D) : (dbD D).leavesShort 70 = true := by
  refine lf_and (d := .str D.name) (by rcases o.nm with e | e | e | e <;> rw [e] <;> decide) (lf_and (int60 (by have := o.sc; omega)) (lf_and (d := .tuple (D.begins.map PyData.int)) (lf_list fun x hx => int60 (by have := o.rg.2 x hx; omega)) (lf_and (d := .tuple (D.stakes.map toD)) (lf_list fun e he => lf_ex hm (o.st e he).1) (lf_and (d := .tuple (D.behinds.map fun d => .tuple (dsD d))) (lf_list fun d hd => ?_) rfl))))
  exact lf_ds hm (o.bh d hd).1
end NG

namespace NG
open PySem PySem.Spec PyProof.Rows L2
/-! ### ones, members -/
structure One where
  dbt : Dbt
  regs : List Int
  weight : Int
  motes : Int
  owed : Int
  days : Int
  got : Int
def OneAt (K : PySem.W.Frag) (H : Hp) (o : One) (v : V) : Prop := ∃ (p : Addr) (dv rv : V), v = .ref p ∧ SqT K H p [.str "one", dv, rv, .int o.weight, .int o.motes, .int o.owed, .int o.days, .int o.got] ∧ DbAt K H o.dbt dv ∧ RegsAt K H o.regs rv
theorem OneAt.imp {K : PySem.W.Frag} {H H' : Hp} {o : One} {v : V} (x : OneAt K H o v) (h : ∀ p xs, SqT K H p xs → SqT K H' p xs) : OneAt K H' o v := by
  obtain ⟨p, dv, rv, e, q, d, r⟩ := x
  exact ⟨p, dv, rv, e, h _ _ q, d.imp h, r.imp h⟩
def oneD (o : One) : PyData := .tuple [.str "one", dbD o.dbt, .tuple (o.regs.map PyData.int), .int o.weight, .int o.motes, .int o.owed, .int o.days, .int o.got]
theorem OneAt.dp {K : PySem.W.Frag} {H : Hp} {o : One} {v : V} (x : OneAt K H o v) : Dp K H v (oneD o) := by
  obtain ⟨p, dv, rv, e, q, d, ⟨pr, e2, r, _⟩⟩ := x
  subst e e2
  exact .tup q (.cons (.str _) (.cons d.dp (.cons (.tup r (dp_ints _)) (.cons (.int _) (.cons (.int _) (.cons (.int _) (.cons (.int _) (.cons (.int _) .nil))))))))
structure OneOk (many dE dD cD : Nat) (o : One) : Prop where
  db : DbOk many dE dD cD o.dbt
  rg : RegOk o.regs
  w1 : 1 ≤ o.weight ∧ o.weight ≤ 1000000000000
  m1 : 0 ≤ o.motes ∧ o.motes ≤ 3000000000000
  o1 : 0 ≤ o.owed ∧ o.owed ≤ 99
  d1 : 0 ≤ o.days ∧ o.days ≤ 40
  g1 : -5000000000 ≤ o.got ∧ o.got ≤ 5000000000
theorem shh_one {many dE dD cD : Nat} {o : One} (hm : many ≤ 3) (hE : dE ≤ 8) (hD : dD ≤ 8) (h : OneOk many dE dD cD o) : Shh (oneD o) (600 + 3 * wgt dE + 180 * cD) 22 := by
  have h1 : Shh (.str "one") 10 0 := .str (by decide) (by decide)
  have h2 := (shw_db hm hE hD h.db).hh (lf_db (by omega) h.db)
  have h3 : Shh (.tuple (o.regs.map PyData.int)) (16 * o.regs.length) 1 := ((shw_smalls h.rg.2).tup).hh (lf_list fun x hx => int60 (by have := h.rg.2 x hx; omega))
  have i1 : Shh (.int o.weight) 60 0 := .int (by have := h.w1; omega)
  have i2 : Shh (.int o.motes) 60 0 := .int (by have := h.m1; omega)
  have i3 : Shh (.int o.owed) 60 0 := .int (by have := h.o1; omega)
  have i4 : Shh (.int o.days) 60 0 := .int (by have := h.d1; omega)
  have i5 : Shh (.int o.got) 60 0 := .int (by have := h.g1; omega)
  have hl := h.rg.1
  rw [hl] at h3
  have z : ShhAll [PyData.str "one", dbD o.dbt, .tuple (o.regs.map PyData.int), .int o.weight, .int o.motes, .int o.owed, .int o.days, .int o.got] _ 21 := .cons h1 (.cons h2 (.cons h3 (.cons i1 (.cons i2 (.cons i3 (.cons i4 (.cons i5 (ShhAll.nil (k := 0)) (k := 21) (by omega) (by omega)) (by omega) (Nat.le_refl _)) (by omega) (Nat.le_refl _)) (by omega) (Nat.le_refl _)) (by omega) (Nat.le_refl _)) (by omega) (Nat.le_refl _)) (by omega) (Nat.le_refl _)) (by omega) (Nat.le_refl _)
  exact z.tup.mono (by omega) (by omega)
inductive Ms where
  | nil
  | one (o : One) (r : Ms)
  | house (nm : Str) (m r : Ms)
inductive Mk where
  | one (o : One)
  | house (nm : Str) (m : Ms)
def MsAt (K : PySem.W.Frag) (H : Hp) : Ms → List V → Prop
  | .nil, vs => vs = []
  | .one o r, vs => ∃ v us, vs = v :: us ∧ OneAt K H o v ∧ MsAt K H r us
  | .house nm m r, vs => ∃ p pm xs us, vs = .ref p :: us ∧ SqT K H p [.str "house", .str nm, .ref pm] ∧ SqT K H pm xs ∧ MsAt K H m xs ∧ MsAt K H r us
theorem MsAt.imp {K : PySem.W.Frag} {H H' : Hp} (h : ∀ p xs, SqT K H p xs → SqT K H' p xs) : ∀ {m : Ms} {vs : List V}, MsAt K H m vs → MsAt K H' m vs
  | .nil, _, e => e
  | .one _ _, _, ⟨v, us, e, q, r⟩ => ⟨v, us, e, q.imp h, MsAt.imp h r⟩
  | .house _ _ _, _, ⟨p, pm, xs, us, e, q, qm, m, r⟩ => ⟨p, pm, xs, us, e, h _ _ q, h _ _ qm, MsAt.imp h m, MsAt.imp h r⟩
theorem MsAt.same {K : PySem.W.Frag} {H H' : Hp} {m : Ms} {vs : List V} (x : MsAt K H m vs) (s : Same H H') : MsAt K H' m vs := x.imp fun _ _ q => same_sqt s q
def MkAt (K : PySem.W.Frag) (H : Hp) : Mk → V → Prop
  | .one o, v => OneAt K H o v
  | .house nm m, v => ∃ p pm xs, v = .ref p ∧ SqT K H p [.str "house", .str nm, .ref pm] ∧ SqT K H pm xs ∧ MsAt K H m xs
theorem MkAt.imp {K : PySem.W.Frag} {H H' : Hp} (h : ∀ p xs, SqT K H p xs → SqT K H' p xs) : ∀ {m : Mk} {v : V}, MkAt K H m v → MkAt K H' m v
  | .one _, _, x => OneAt.imp x h
  | .house _ _, _, ⟨p, pm, xs, e, q, qm, m⟩ => ⟨p, pm, xs, e, h _ _ q, h _ _ qm, m.imp h⟩
def msD : Ms → List PyData
  | .nil => []
  | .one o r => oneD o :: msD r
  | .house nm m r => .tuple [.str "house", .str nm, .tuple (msD m)] :: msD r
def mkD : Mk → PyData
  | .one o => oneD o
  | .house nm m => .tuple [.str "house", .str nm, .tuple (msD m)]
theorem MsAt.dps {K : PySem.W.Frag} {H : Hp} : ∀ {m : Ms} {vs : List V}, MsAt K H m vs → DpAll K H vs (msD m)
  | .nil, _, e => by subst e; exact .nil
  | .one _ _, _, ⟨v, us, e, q, r⟩ => by subst e; exact .cons q.dp r.dps
  | .house _ _ _, _, ⟨p, pm, xs, us, e, q, qm, m, r⟩ => by subst e; exact .cons (.tup q (.cons (.str _) (.cons (.str _) (.cons (.tup qm m.dps) .nil)))) r.dps
theorem MkAt.dp {K : PySem.W.Frag} {H : Hp} : ∀ {m : Mk} {v : V}, MkAt K H m v → Dp K H v (mkD m)
  | .one _, _, x => OneAt.dp x
  | .house _ _, _, ⟨p, pm, xs, e, q, qm, m⟩ => by subst e; exact .tup q (.cons (.str _) (.cons (.str _) (.cons (.tup qm m.dps) .nil)))
theorem MkAt.ref {K : PySem.W.Frag} {H : Hp} : ∀ {m : Mk} {v : V}, MkAt K H m v → ∃ p, v = .ref p
  | .one _, _, ⟨p, _, _, e, _⟩ => ⟨p, e⟩
  | .house _ _, _, ⟨p, _, _, e, _⟩ => ⟨p, e⟩
def mkW : Mk → Str
  | .one _ => "one"
  | .house _ _ => "house"
/-- the word ahead -/
theorem MkAt.wd {K : PySem.W.Frag} {H : Hp} : ∀ {m : Mk} {v : V}, MkAt K H m v → ∃ p xs, v = .ref p ∧ SqT K H p (.str (mkW m) :: xs)
  | .one _, _, ⟨p, _, _, e, q, _⟩ => ⟨p, _, e, q⟩
  | .house _ _, _, ⟨p, _, _, e, q, _⟩ => ⟨p, _, e, q⟩
def Ms.cnt : Ms → Nat
  | .nil => 0
  | .one _ r => 1 + r.cnt
  | .house _ m r => 1 + m.cnt + r.cnt
def Ms.len : Ms → Nat
  | .nil => 0
  | .one _ r => r.len + 1
  | .house _ _ r => r.len + 1
def Ms.dep : Ms → Nat
  | .nil => 0
  | .one _ r => r.dep
  | .house _ m r => max (m.dep + 1) r.dep
theorem Ms.len_le : ∀ m : Ms, m.len ≤ m.cnt
  | .nil => Nat.le_refl _
  | .one _ r => by have := r.len_le; show r.len + 1 ≤ 1 + r.cnt; omega
  | .house _ m r => by have := r.len_le; show r.len + 1 ≤ 1 + m.cnt + r.cnt; omega
theorem MsAt.len {K : PySem.W.Frag} {H : Hp} : ∀ {m : Ms} {vs : List V}, MsAt K H m vs → vs.length = m.len
  | .nil, _, e => by subst e; rfl
  | .one _ _, _, ⟨v, us, e, q, r⟩ => by subst e; rw [List.length_cons, r.len]; rfl
  | .house _ _ _, _, ⟨p, pm, xs, us, e, q, qm, m, r⟩ => by subst e; rw [List.length_cons, r.len]; rfl
def Ms.app : Ms → Ms → Ms
  | .nil, e => e
  | .one o r, e => .one o (r.app e)
  | .house nm m r, e => .house nm m (r.app e)
theorem MsAt.app {K : PySem.W.Frag} {H : Hp} : ∀ {d e : Ms} {vs ws : List V}, MsAt K H d vs → MsAt K H e ws → MsAt K H (d.app e) (vs ++ ws)
  | .nil, _, _, _, e, y => by subst e; exact y
  | .one _ _, _, _, _, ⟨v, us, e, q, r⟩, y => by subst e; exact ⟨v, _, rfl, q, MsAt.app r y⟩
  | .house _ _ _, _, _, _, ⟨p, pm, xs, us, e, q, qm, m, r⟩, y => by subst e; exact ⟨p, pm, xs, _, rfl, q, qm, m, MsAt.app r y⟩
theorem Ms.cnt_app : ∀ d e : Ms, (d.app e).cnt = d.cnt + e.cnt
  | .nil, e => by show e.cnt = 0 + e.cnt; omega
  | .one _ r, e => by show 1 + (r.app e).cnt = 1 + r.cnt + e.cnt; rw [Ms.cnt_app r e]; omega
  | .house _ m r, e => by show 1 + m.cnt + (r.app e).cnt = 1 + m.cnt + r.cnt + e.cnt; rw [Ms.cnt_app r e]; omega
theorem Ms.dep_app : ∀ d e : Ms, (d.app e).dep = max d.dep e.dep
  | .nil, e => by show e.dep = max 0 e.dep; omega
  | .one _ r, e => Ms.dep_app r e
  | .house _ m r, e => by show max (m.dep + 1) (r.app e).dep = max (max (m.dep + 1) r.dep) e.dep; rw [Ms.dep_app r e]; omega
/-- each one in it -/
def Ms.all (P : One → Prop) : Ms → Prop
  | .nil => True
  | .one o r => P o ∧ r.all P
  | .house _ m r => m.all P ∧ r.all P
theorem Ms.all_app {P : One → Prop} : ∀ {d e : Ms}, d.all P → e.all P → (d.app e).all P
  | .nil, _, _, y => y
  | .one _ _, _, ⟨a, b⟩, y => ⟨a, Ms.all_app b y⟩
  | .house _ _ _, _, ⟨a, b⟩, y => ⟨a, Ms.all_app b y⟩
def nmOk (nm : Str) : Prop := (nm.cps.toList.all fun c => decide (c < 16 ^ 8)) = true ∧ nm.cps.size ≤ 10
def Ms.nms : Ms → Prop
  | .nil => True
  | .one _ r => r.nms
  | .house nm m r => nmOk nm ∧ m.nms ∧ r.nms
theorem Ms.nms_app : ∀ {d e : Ms}, d.nms → e.nms → (d.app e).nms
  | .nil, _, _, y => y
  | .one _ r, _, a, y => Ms.nms_app (d := r) a y
  | .house _ _ _, _, ⟨n, a, b⟩, y => ⟨n, a, Ms.nms_app b y⟩
def Ms.tl : Ms → Ms
  | .nil => .nil
  | .one _ r => r
  | .house _ _ r => r
def Ms.hd : Ms → Option Mk
  | .nil => none
  | .one o _ => some (.one o)
  | .house nm m _ => some (.house nm m)
def Ms.drop : Nat → Ms → Ms
  | 0, d => d
  | n + 1, d => (d.drop n).tl
theorem MsAt.tl {K : PySem.W.Frag} {H : Hp} : ∀ {d : Ms} {vs : List V}, MsAt K H d vs → MsAt K H d.tl (vs.drop 1)
  | .nil, _, e => by subst e; rfl
  | .one _ _, _, ⟨v, us, e, q, r⟩ => by subst e; exact r
  | .house _ _ _, _, ⟨p, pm, xs, us, e, q, qm, m, r⟩ => by subst e; exact r
theorem MsAt.drop {K : PySem.W.Frag} {H : Hp} {d : Ms} {vs : List V} (h : MsAt K H d vs) : ∀ n, MsAt K H (d.drop n) (vs.drop n)
  | 0 => h
  | n + 1 => by
    have := (MsAt.drop h n).tl
    rw [List.drop_drop] at this
    exact this
theorem MsAt.head {K : PySem.W.Frag} {H : Hp} : ∀ {d : Ms} {v : V} {us : List V}, MsAt K H d (v :: us) → ∃ k, d.hd = some k ∧ MkAt K H k v
  | .one o _, _, _, ⟨v, us, e, q, r⟩ => by cases e; exact ⟨.one o, rfl, q⟩
  | .house nm m _, _, _, ⟨p, pm, xs, us, e, q, qm, mm, r⟩ => by cases e; exact ⟨.house nm m, rfl, p, pm, xs, rfl, q, qm, mm⟩
theorem MsAt.nth {K : PySem.W.Frag} {H : Hp} {d : Ms} {vs : List V} {i : Nat} {v : V} (h : MsAt K H d vs) (hi : vs[i]? = some v) : ∃ k, (d.drop i).hd = some k ∧ MkAt K H k v := by
  have hil := (List.getElem?_eq_some_iff.mp hi).1
  have hd := h.drop i
  rw [List.drop_eq_getElem_cons hil, (List.getElem?_eq_some_iff.mp hi).2] at hd
  exact hd.head
theorem Ms.dep_tl : ∀ d : Ms, d.tl.dep ≤ d.dep
  | .nil => Nat.le_refl _
  | .one _ r => Nat.le_refl _
  | .house _ m r => by show r.dep ≤ max (m.dep + 1) r.dep; omega
theorem Ms.dep_drop (d : Ms) : ∀ n, (d.drop n).dep ≤ d.dep
  | 0 => Nat.le_refl _
  | n + 1 => Nat.le_trans (Ms.dep_tl _) (Ms.dep_drop d n)
theorem Ms.cnt_tl : ∀ d : Ms, d.tl.cnt ≤ d.cnt
  | .nil => Nat.le_refl _
  | .one _ r => by show r.cnt ≤ 1 + r.cnt; omega
  | .house _ m r => by show r.cnt ≤ 1 + m.cnt + r.cnt; omega
theorem Ms.cnt_drop (d : Ms) : ∀ n, (d.drop n).cnt ≤ d.cnt
  | 0 => Nat.le_refl _
  | n + 1 => Nat.le_trans (Ms.cnt_tl _) (Ms.cnt_drop d n)
/-- a house ahead lies deeper, is smaller -/
theorem Ms.hd_house {d : Ms} {nm : Str} {m : Ms} (h : d.hd = some (.house nm m)) : m.dep + 1 ≤ d.dep ∧ m.cnt + 1 ≤ d.cnt := by
  cases d with
  | nil => cases h
  | one o r => cases h
  | house n2 m2 r =>
    cases h
    exact ⟨by show m.dep + 1 ≤ max (m.dep + 1) r.dep; omega, by show m.cnt + 1 ≤ 1 + m.cnt + r.cnt; omega⟩
/-! ### all that stand, with their paths -/
def stdI : Ms → List Int → Int → List (List Int × Mk)
  | .nil, _, _ => []
  | .one o r, path, i => (path ++ [i], .one o) :: stdI r path (i + 1)
  | .house nm m r, path, i => (path ++ [i], .house nm m) :: (stdI m (path ++ [i]) 0 ++ stdI r path (i + 1))
def stdH : Option Mk → List Int → Int → List (List Int × Mk)
  | none, _, _ => []
  | some (.one o), path, i => [(path ++ [i], .one o)]
  | some (.house nm m), path, i => (path ++ [i], .house nm m) :: stdI m (path ++ [i]) 0
theorem stdI_step : ∀ (d : Ms) (path : List Int) (i : Int), stdI d path i = stdH d.hd path i ++ stdI d.tl path (i + 1)
  | .nil, _, _ => rfl
  | .one _ _, _, _ => rfl
  | .house _ _ _, _, _ => rfl
theorem stdI_len : ∀ (d : Ms) (path : List Int) (i : Int), (stdI d path i).length = d.cnt
  | .nil, _, _ => rfl
  | .one _ r, path, i => by show (stdI r path (i + 1)).length + 1 = 1 + r.cnt; rw [stdI_len r]; omega
  | .house _ m r, path, i => by show (stdI m (path ++ [i]) 0 ++ stdI r path (i + 1)).length + 1 = 1 + m.cnt + r.cnt; rw [List.length_append, stdI_len m, stdI_len r]; omega
def PrAt (K : PySem.W.Frag) (H : Hp) (x : List Int × Mk) (u : V) : Prop := ∃ (t h : Addr) (v : V), u = .ref t ∧ SqT K H t [.ref h, v] ∧ SqT K H h (x.1.map V.int) ∧ MkAt K H x.2 v
theorem PrAt.imp {K : PySem.W.Frag} {H H' : Hp} (h : ∀ p xs, SqT K H p xs → SqT K H' p xs) {x : List Int × Mk} {u : V} (y : PrAt K H x u) : PrAt K H' x u := by
  obtain ⟨t, q, v, e, a, b, c⟩ := y
  exact ⟨t, q, v, e, h _ _ a, h _ _ b, c.imp h⟩
def PrsAt (K : PySem.W.Frag) (H : Hp) : List V → List (List Int × Mk) → Prop
  | [], [] => True
  | u :: us, x :: xs => PrAt K H x u ∧ PrsAt K H us xs
  | _, _ => False
theorem PrsAt.imp {K : PySem.W.Frag} {H H' : Hp} (h : ∀ p xs, SqT K H p xs → SqT K H' p xs) : ∀ {us : List V} {xs : List (List Int × Mk)}, PrsAt K H us xs → PrsAt K H' us xs
  | [], [], _ => trivial
  | _ :: _, _ :: _, ⟨x, r⟩ => ⟨x.imp h, PrsAt.imp h r⟩
theorem PrsAt.app {K : PySem.W.Frag} {H : Hp} : ∀ {us ws : List V} {xs ys : List (List Int × Mk)}, PrsAt K H us xs → PrsAt K H ws ys → PrsAt K H (us ++ ws) (xs ++ ys)
  | [], _, [], _, _, y => y
  | _ :: _, _, _ :: _, _, ⟨x, r⟩, y => ⟨x, PrsAt.app r y⟩
theorem PrsAt.len {K : PySem.W.Frag} {H : Hp} : ∀ {us : List V} {xs : List (List Int × Mk)}, PrsAt K H us xs → us.length = xs.length
  | [], [], _ => rfl
  | _ :: _, _ :: _, ⟨_, r⟩ => by rw [List.length_cons, List.length_cons, r.len]
theorem PrsAt.get {K : PySem.W.Frag} {H : Hp} : ∀ {us : List V} {xs : List (List Int × Mk)} {i : Nat} {u : V}, PrsAt K H us xs → us[i]? = some u → ∃ x, xs[i]? = some x ∧ PrAt K H x u
  | [], [], _, _, _, h => by simp at h
  | v :: us, x :: xs, 0, u, ⟨y, r⟩, h => by
    have : v = u := Option.some.inj h
    subst this
    exact ⟨x, rfl, y⟩
  | v :: us, x :: xs, i + 1, u, ⟨y, r⟩, h => PrsAt.get (i := i) r h
def prD (x : List Int × Mk) : PyData := .tuple [.tuple (x.1.map PyData.int), mkD x.2]
theorem PrAt.dp {K : PySem.W.Frag} {H : Hp} {x : List Int × Mk} {u : V} (y : PrAt K H x u) : Dp K H u (prD x) := by
  obtain ⟨t, q, v, e, a, b, c⟩ := y
  subst e
  exact .tup a (.cons (.tup b (dp_ints _)) (.cons c.dp .nil))
theorem PrsAt.dps {K : PySem.W.Frag} {H : Hp} : ∀ {us : List V} {xs : List (List Int × Mk)}, PrsAt K H us xs → DpAll K H us (xs.map prD)
  | [], [], _ => .nil
  | _ :: _, _ :: _, ⟨x, r⟩ => .cons x.dp r.dps
def isOne (x : List Int × Mk) : Bool := match x.2 with
  | .one _ => true
  | .house _ _ => false
def toOne (x : List Int × Mk) : Option One := match x.2 with
  | .one o => some o
  | .house _ _ => none
def onesI (m : Ms) : List (List Int × Mk) := (stdI m [] 0).filter isOne
def aoI : Ms → List One
  | .nil => []
  | .one o r => o :: aoI r
  | .house _ m r => aoI m ++ aoI r
theorem ao_std : ∀ (d : Ms) (path : List Int) (i : Int), ((stdI d path i).filter isOne).filterMap toOne = aoI d
  | .nil, _, _ => rfl
  | .one o r, path, i => by
    show (((path ++ [i], Mk.one o) :: stdI r path (i + 1)).filter isOne).filterMap toOne = o :: aoI r
    rw [List.filter_cons_of_pos (by rfl), List.filterMap_cons_some (b := o) (by rfl), ao_std r]
  | .house nm m r, path, i => by
    show (((path ++ [i], Mk.house nm m) :: (stdI m (path ++ [i]) 0 ++ stdI r path (i + 1))).filter isOne).filterMap toOne = aoI m ++ aoI r
    rw [List.filter_cons_of_neg (by intro h; cases h), List.filter_append, List.filterMap_append, ao_std m, ao_std r]
theorem ones_map : ∀ {xs : List (List Int × Mk)}, (∀ x ∈ xs, isOne x = true) → (xs.filterMap toOne).length = xs.length
  | [], _ => rfl
  | (p, .one o) :: r, h => by
    rw [List.filterMap_cons_some (b := o) (by rfl), List.length_cons, List.length_cons, ones_map fun x hx => h x (List.mem_cons_of_mem _ hx)]
  | (p, .house nm m) :: r, h => by
    have := h (p, .house nm m) (by simp)
    cases this
theorem ones_len (m : Ms) : (onesI m).length = (aoI m).length := by
  have h := ones_map (xs := onesI m) fun x hx => (List.mem_filter.mp hx).2
  rw [← h]
  unfold onesI
  rw [ao_std]
def motesI (m : Ms) : Int := ((aoI m).map (·.motes)).sum
theorem ao_len : ∀ d : Ms, (aoI d).length ≤ d.cnt
  | .nil => Nat.le_refl _
  | .one _ r => by have := ao_len r; show (aoI r).length + 1 ≤ 1 + r.cnt; omega
  | .house _ m r => by have := ao_len m; have := ao_len r; show (aoI m ++ aoI r).length ≤ 1 + m.cnt + r.cnt; rw [List.length_append]; omega
theorem ao_all {P : One → Prop} : ∀ {d : Ms}, d.all P → ∀ o ∈ aoI d, P o
  | .nil, _, o, h => by cases h
  | .one _ r, ⟨a, b⟩, o, h => by
    rcases List.mem_cons.mp h with rfl | h
    · exact a
    · exact ao_all b o h
  | .house _ m r, ⟨a, b⟩, o, h => by
    rcases List.mem_append.mp h with h | h
    · exact ao_all a o h
    · exact ao_all b o h
theorem ao_app : ∀ d e : Ms, aoI (d.app e) = aoI d ++ aoI e
  | .nil, e => rfl
  | .one o r, e => by show o :: aoI (r.app e) = o :: (aoI r ++ aoI e); rw [ao_app r e]
  | .house _ m r, e => by show aoI m ++ aoI (r.app e) = aoI m ++ aoI r ++ aoI e; rw [ao_app r e, List.append_assoc]
/-! ### promises -/
def spStands (K : PySem.W.Frag) (n : Nat) : Sp := fun vs H Q _ => ∃ (p q : Addr) (xs : List V) (m : Ms) (path : List Int), vs = [.ref p, .ref q] ∧ SqT K H p xs ∧ MsAt K H m xs ∧ m.dep < n ∧ m.cnt ≤ 300 ∧ SqT K H q (path.map V.int) ∧ path.length + m.dep ≤ 100 ∧
  ∀ H' l us, Same H H' → H l = none → H' l = some (.lst us) → PrsAt K H' us (stdI m path 0) → Q (.ref l) H'
def spOnes (K : PySem.W.Frag) (n : Nat) : Sp := fun vs H Q _ => ∃ (p pm : Addr) (xs : List V) (many : Int) (m : Ms), vs = [.ref p] ∧ SqT K H p [.int many, .ref pm] ∧ SqT K H pm xs ∧ MsAt K H m xs ∧ m.dep < n ∧ m.cnt ≤ 300 ∧ m.dep ≤ 50 ∧
  ∀ H' t us, Same H H' → SqT K H' t us → PrsAt K H' us (onesI m) → Q (.ref t) H'
def spMotes (K : PySem.W.Frag) (n : Nat) : Sp := fun vs H Q _ => ∃ (p pm : Addr) (xs : List V) (many : Int) (m : Ms), vs = [.ref p] ∧ SqT K H p [.int many, .ref pm] ∧ SqT K H pm xs ∧ MsAt K H m xs ∧ m.dep < n ∧ m.cnt ≤ 300 ∧ m.dep ≤ 50 ∧
  ∀ H', Same H H' → Q (.int (motesI m)) H'
end NG

namespace NG
open PySem PySem.Spec PyProof.Rows L2
theorem reprK {X : Cx} (K : PySem.W.Frag) (hg : X.A.guards = some []) (hu : X.A.units + 64 < cLine) (h : X.K = K := by rfl) : CallR X (.builtin "repr") (rRepr K) := by
  subst h
  exact cr_repr hg hu
/-! ### what is shown of members -/
theorem shh_list {α : Type} {f : α → PyData} {w k : Nat} : ∀ {xs : List α}, (∀ x ∈ xs, Shh (f x) w k) → ShhAll (xs.map f) ((w + 1) * xs.length) k
  | [], _ => ShhAll.nil
  | n :: r, h => by
    have h1 := h n (by simp)
    have h2 := shh_list (xs := r) fun x hx => h x (List.mem_cons_of_mem _ hx)
    refine (ShhAll.cons h1 h2 (Nat.le_refl k) (Nat.le_refl k)).mono ?_ (Nat.le_refl k)
    rw [List.length_cons, Nat.mul_add]
    omega
theorem shh_ms {many dE dD cD : Nat} (hm : many ≤ 3) (hE : dE ≤ 8) (hD : dD ≤ 8) : ∀ {m : Ms}, m.all (OneOk many dE dD cD) → m.nms → ShhAll (msD m) ((700 + 3 * wgt dE + 180 * cD) * m.cnt) (22 + 2 * m.dep)
  | .nil, _, _ => ShhAll.nil
  | .one o r, a, n => by
    have h1 := shh_one hm hE hD a.1
    have h2 := shh_ms hm hE hD (m := r) a.2 n
    refine (ShhAll.cons h1 h2 (k := 22 + 2 * r.dep) (by omega) (Nat.le_refl _)).mono ?_ (Nat.le_refl _)
    show _ ≤ (700 + 3 * wgt dE + 180 * cD) * (1 + r.cnt)
    rw [Nat.mul_add, Nat.mul_one]
    omega
  | .house nm m r, a, n => by
    have h1 := (shh_ms hm hE hD (m := m) a.1 n.2.1).tup
    have h2 := shh_ms hm hE hD (m := r) a.2 n.2.2
    have s1 : Shh (.str "house") 10 0 := .str (by decide) (by decide)
    have s2 : Shh (.str nm) 10 0 := .str n.1.1 n.1.2
    have h3 := (ShhAll.cons s1 (.cons s2 (.cons h1 (ShhAll.nil (k := 0)) (k := 23 + 2 * m.dep) (by omega) (by omega)) (by omega) (Nat.le_refl _)) (by omega) (Nat.le_refl _)).tup
    refine (ShhAll.cons h3 h2 (k := 22 + 2 * max (m.dep + 1) r.dep) (by omega) (by omega)).mono ?_ (Nat.le_refl _)
    show _ ≤ (700 + 3 * wgt dE + 180 * cD) * (1 + m.cnt + r.cnt)
    rw [Nat.mul_add, Nat.mul_add, Nat.mul_one]
    omega
theorem std_path : ∀ (d : Ms) (path : List Int) (i : Int), 0 ≤ i → i + (d.cnt : Int) ≤ 300 → ∀ x ∈ stdI d path i, x.1.length ≤ path.length + d.dep + 1 ∧ ∀ e ∈ x.1, e ∈ path ∨ (0 ≤ e ∧ e ≤ 300)
  | .nil, _, _, _, _, x, h => by cases h
  | .one o r, path, i, i0, i1, x, h => by
    have i1 : i + ((1 + r.cnt : Nat) : Int) ≤ 300 := i1
    have h : x ∈ (path ++ [i], Mk.one o) :: stdI r path (i + 1) := h
    rcases List.mem_cons.mp h with rfl | h
    · refine ⟨by rw [List.length_append]; show path.length + 1 ≤ _; omega, fun e he => ?_⟩
      rcases List.mem_append.mp he with he | he
      · exact .inl he
      · rw [List.mem_singleton.mp he]
        exact .inr ⟨i0, by omega⟩
    · exact std_path r path (i + 1) (by omega) (by omega) x h
  | .house nm m r, path, i, i0, i1, x, h => by
    have i1 : i + ((1 + m.cnt + r.cnt : Nat) : Int) ≤ 300 := i1
    have h : x ∈ (path ++ [i], Mk.house nm m) :: (stdI m (path ++ [i]) 0 ++ stdI r path (i + 1)) := h
    show x.1.length ≤ path.length + max (m.dep + 1) r.dep + 1 ∧ _
    rcases List.mem_cons.mp h with rfl | h
    · refine ⟨by rw [List.length_append]; show path.length + 1 ≤ _; omega, fun e he => ?_⟩
      rcases List.mem_append.mp he with he | he
      · exact .inl he
      · rw [List.mem_singleton.mp he]
        exact .inr ⟨i0, by omega⟩
    · rcases List.mem_append.mp h with h | h
      · obtain ⟨h1, h2⟩ := std_path m (path ++ [i]) 0 (by decide) (by omega) x h
        refine ⟨by rw [List.length_append] at h1; have h1 : x.1.length ≤ path.length + 1 + m.dep + 1 := h1; omega, fun e he => ?_⟩
        rcases h2 e he with he | he
        · rcases List.mem_append.mp he with he | he
          · exact .inl he
          · rw [List.mem_singleton.mp he]
            exact .inr ⟨i0, by omega⟩
        · exact .inr he
      · obtain ⟨h1, h2⟩ := std_path r path (i + 1) (by omega) (by omega) x h
        exact ⟨by omega, h2⟩
theorem std_all {P : One → Prop} : ∀ (d : Ms) (path : List Int) (i : Int), d.all P → ∀ x ∈ stdI d path i, ∀ o, x.2 = .one o → P o
  | .nil, _, _, _, x, h, _, _ => by cases h
  | .one o r, path, i, a, x, h, o2, e => by
    have h : x ∈ (path ++ [i], Mk.one o) :: stdI r path (i + 1) := h
    rcases List.mem_cons.mp h with rfl | h
    · cases e
      exact a.1
    · exact std_all r path (i + 1) a.2 x h o2 e
  | .house nm m r, path, i, a, x, h, o2, e => by
    have h : x ∈ (path ++ [i], Mk.house nm m) :: (stdI m (path ++ [i]) 0 ++ stdI r path (i + 1)) := h
    rcases List.mem_cons.mp h with rfl | h
    · cases e
    · rcases List.mem_append.mp h with h | h
      · exact std_all m (path ++ [i]) 0 a.1 x h o2 e
      · exact std_all r path (i + 1) a.2 x h o2 e
theorem std_house : ∀ (d : Ms) (path : List Int) (i : Int), ∀ x ∈ stdI d path i, ∀ nm m2, x.2 = .house nm m2 → m2.dep + 1 ≤ d.dep ∧ m2.cnt + 1 ≤ d.cnt
  | .nil, _, _, x, h, _, _, _ => by cases h
  | .one o r, path, i, x, h, nm, m2, e => by
    have h : x ∈ (path ++ [i], Mk.one o) :: stdI r path (i + 1) := h
    rcases List.mem_cons.mp h with rfl | h
    · cases e
    · obtain ⟨h1, h2⟩ := std_house r path (i + 1) x h nm m2 e
      exact ⟨h1, by show m2.cnt + 1 ≤ 1 + r.cnt; omega⟩
  | .house nm m r, path, i, x, h, nm2, m2, e => by
    have h : x ∈ (path ++ [i], Mk.house nm m) :: (stdI m (path ++ [i]) 0 ++ stdI r path (i + 1)) := h
    show m2.dep + 1 ≤ max (m.dep + 1) r.dep ∧ m2.cnt + 1 ≤ 1 + m.cnt + r.cnt
    rcases List.mem_cons.mp h with rfl | h
    · cases e
      exact ⟨by omega, by omega⟩
    · rcases List.mem_append.mp h with h | h
      · obtain ⟨h1, h2⟩ := std_house m (path ++ [i]) 0 x h nm2 m2 e
        exact ⟨by omega, by omega⟩
      · obtain ⟨h1, h2⟩ := std_house r path (i + 1) x h nm2 m2 e
        exact ⟨by omega, by omega⟩
/-- a pair of a path and a one, as shown -/
theorem shh_pr {many dE dD cD : Nat} {m : Ms} (hm : many ≤ 3) (hE : dE ≤ 8) (hD : dD ≤ 8) (a : m.all (OneOk many dE dD cD)) (hc : m.cnt ≤ 300) (hd : m.dep ≤ 20) : ∀ x ∈ onesI m, ∃ o, x.2 = .one o ∧ OneOk many dE dD cD o ∧ Shh (prD x) (1000 + 3 * wgt dE + 180 * cD) 23 := fun x hx => by
  obtain ⟨h1, h2⟩ := List.mem_filter.mp hx
  obtain ⟨p1, p2⟩ := std_path m [] 0 (by decide) (by omega) x h1
  obtain ⟨pth, k⟩ := x
  cases k with
  | house nm m2 => cases h2
  | one o =>
    have ho := std_all m [] 0 a _ h1 o rfl
    refine ⟨o, rfl, ho, ?_⟩
    have hb : ∀ e ∈ pth, -1000 ≤ e ∧ e ≤ 1000 := fun e he => by
      rcases p2 e he with z | z
      · cases z
      · omega
    have s1 : Shh (.tuple (pth.map PyData.int)) (16 * pth.length) 1 := ((shw_smalls hb).tup).hh (lf_list fun e he => int60 (by have := hb e he; omega))
    have s2 := shh_one hm hE hD ho
    have pl : pth.length ≤ 21 := by
      have p1 : pth.length ≤ 0 + m.dep + 1 := p1
      omega
    exact ((ShhAll.cons s1 (.cons s2 (ShhAll.nil (k := 0)) (k := 22) (by omega) (by omega)) (by omega) (Nat.le_refl _)).tup).mono (by omega) (by omega)
theorem shh_ones {many dE dD cD : Nat} {m : Ms} (hm : many ≤ 3) (hE : dE ≤ 8) (hD : dD ≤ 8) (a : m.all (OneOk many dE dD cD)) (hc : m.cnt ≤ 300) (hd : m.dep ≤ 20) : Shh (.tuple ((onesI m).map prD)) ((1001 + 3 * wgt dE + 180 * cD) * m.cnt) 24 := by
  have h := shh_list (f := prD) (xs := onesI m) (w := 1000 + 3 * wgt dE + 180 * cD) (k := 23) fun x hx => by
    obtain ⟨o, _, _, h⟩ := shh_pr hm hE hD a hc hd x hx
    exact h
  refine h.tup.mono (Nat.mul_le_mul (by omega) ?_) (by decide)
  rw [ones_len]
  exact ao_len m
theorem motes_bnd {many dE dD cD : Nat} {m : Ms} (a : m.all (OneOk many dE dD cD)) (hc : m.cnt ≤ 300) : (motesI m).natAbs.log2 < 1920 := by
  have h0 : ∀ x ∈ (aoI m).map One.motes, 0 ≤ x ∧ x ≤ 3000000000000 := fun x hx => by
    obtain ⟨o, ho, rfl⟩ := List.mem_map.mp hx
    exact (ao_all a o ho).m1
  have h1 := sum_nonneg (ms := (aoI m).map One.motes) fun x hx => (h0 x hx).1
  have h2 := sum_le (B := 3000000000000) (ms := (aoI m).map One.motes) fun x hx => (h0 x hx).2
  rw [List.length_map] at h2
  have h3 := ao_len m
  have h4 : ((aoI m).length : Int) * 3000000000000 ≤ 300 * 3000000000000 := Int.mul_le_mul_of_nonneg_right (by omega) (by decide)
  have h5 : (motesI m).natAbs < 2 ^ 60 := by
    show (((aoI m).map One.motes).sum).natAbs < 2 ^ 60
    omega
  have := PySem.Flt.log2_lt_of (k := 60) (by decide) h5
  omega
theorem w3 : wgt 3 = 420 := rfl
theorem shh_house {many : Nat} {m : Ms} (hm : many ≤ 3) (a : m.all (OneOk many 3 2 10)) (n : m.nms) (hc : m.cnt ≤ 40) (hd : m.dep ≤ 6) : Shh (.tuple [.int (many : Int), .tuple (msD m)]) 200000 60 := by
  have h1 := (shh_ms hm (by decide) (by decide) a n).tup
  rw [w3] at h1
  have h2 : Shh (.int (many : Int)) 60 0 := .int (by omega)
  have h3 := (ShhAll.cons h2 (.cons h1 (ShhAll.nil (k := 0)) (k := 35) (by omega) (by omega)) (by omega) (Nat.le_refl _)).tup
  exact h3.mono (by omega) (by omega)
theorem shh_ones' {many : Nat} {m : Ms} (hm : many ≤ 3) (a : m.all (OneOk many 3 2 10)) (hc : m.cnt ≤ 40) (hd : m.dep ≤ 6) : Shh (.tuple ((onesI m).map prD)) 200000 60 := by
  have h := shh_ones hm (by decide) (by decide) a (by omega) (by omega)
  rw [w3] at h
  exact h.mono (by omega) (by omega)
theorem shh_one' {many : Nat} {o : One} (hm : many ≤ 3) (a : OneOk many 3 2 10 o) : Shh (oneD o) 200000 60 := by
  have h := shh_one hm (by decide) (by decide) a
  rw [w3] at h
  exact h.mono (by omega) (by omega)
def ofOnes : List One → Ms
  | [] => .nil
  | o :: r => .one o (ofOnes r)
theorem ofOnes_cnt : ∀ os, (ofOnes os).cnt = os.length
  | [] => rfl
  | o :: r => by show 1 + (ofOnes r).cnt = r.length + 1; rw [ofOnes_cnt r]; omega
theorem ofOnes_dep : ∀ os, (ofOnes os).dep = 0
  | [] => rfl
  | o :: r => ofOnes_dep r
theorem ofOnes_nms : ∀ os, (ofOnes os).nms
  | [] => trivial
  | o :: r => ofOnes_nms r
theorem ofOnes_all {P : One → Prop} : ∀ {os : List One}, (∀ o ∈ os, P o) → (ofOnes os).all P
  | [], _ => trivial
  | o :: r, h => ⟨h o (by simp), ofOnes_all fun x hx => h x (List.mem_cons_of_mem _ hx)⟩
end NG

namespace NG
open PySem PySem.Spec PyProof.Rows L2
/-! ### xs[i] read ahead of xs[i] += .. -/
theorem get_neg {X : Cx} : PGet X (fun o i H Q => ∃ (p : Addr) (xs : List V) (k : Int) (z : V), o = .ref p ∧ i = .int k ∧ k < 0 ∧ SqL X.K H p xs ∧ atI xs k = some z ∧ Q z H) := by
  intro pins s σ H o i ov iv Q I ro ri h
  obtain ⟨p, xs, k, z, rfl, rfl, hk, hq, he, q⟩ := h
  cases ro
  obtain ⟨t, rfl⟩ := ri
  obtain ⟨its, r, pl, hz⟩ := I.list hq
  obtain ⟨j, h1, h2, h3, h4, h5⟩ := atI_get he
  obtain ⟨w, ew, rw'⟩ := r.get h2
  have hl := r.length
  have hn := line63
  have hj : (k + (its.toArray.size : Int)).toNat = j := by
    rw [seqIndex_neg (by omega) h4] at h1
    rw [List.size_toArray, ← hl]
    exact Option.some.inj h1
  exact wpAny_getItem_list_neg pl.isList hk (by rw [List.size_toArray]; omega) (by omega) (by rw [hj]; simpa using ew) ⟨z, H, I, rw', q⟩
theorem slAK {X : Cx} (K : PySem.W.Frag) (h : X.K = K := by rfl) : SlR X (rSlA K) := by
  subst h
  exact sl_tupA
theorem catAK {X : Cx} (K : PySem.W.Frag) (h : X.K = K := by rfl) : OpR X (binaryOp .Add) (rCatA K) := by
  subst h
  exact op_catA
theorem pilK {X : Cx} (K : PySem.W.Frag) {tg l : Expr} {tl : TE} (hl : PE X l tl) (h : X.K = K := by rfl) : PI X tg l (iList K tl) := by
  subst h
  exact pi_list hl
theorem pitK {X : Cx} (K : PySem.W.Frag) {tg l : Expr} {tl : TE} (hl : PE X l tl) (h : X.K = K := by rfl) : PI X tg l (iTup K tl) := by
  subst h
  exact pi_tup hl
end NG

namespace NG
open PySem PySem.Spec PyProof.Rows L2
/-! ### zip of a tuple with a list -/
def ItTL (K : PySem.W.Frag) (a b : Addr) : It :=
  ⟨fun i H => ∃ (us ws : List V) (u v : V), SqT K H a us ∧ SqL K H b ws ∧ us[i]? = some u ∧ ws[i]? = some v,
   fun i H r H' => ∃ (T : Addr) (u v : V), r = .ref T ∧ H T = none ∧ H' = upd H T (.tup [u, v]) ∧ (∀ us, SqT K H a us → us[i]? = some u) ∧ ∀ ws, SqL K H b ws → ws[i]? = some v,
   fun i H => ∃ us ws : List V, SqT K H a us ∧ SqL K H b ws ∧ us.length = i ∧ ws.length = i⟩
theorem turn_TL {P : Program} {w : World} {K : PySem.W.Frag} {es : List Expr} {k : Nat} {ps : Pos} {a b z TI TO i1 i2 : Addr} (S : ZipSep2 z TI TO i1 i2 [i1, a] [i2, b]) (na : a ≠ i1) (nb : b ≠ i2) :
    Turn P w K (.Tuple es k ps) (ItTL K a b) [z, TI, TO, i1, i2] z (fun i h => IsZip h z TI TO .none ∧ IsTupOf2 h TI (.ref i1) (.ref i2) ∧ (∃ c d, IsTupOf2 h TO c d) ∧ h.IsTupleIter i1 a i ∧ h.IsListIter i2 b i) := by
  have five : ∀ {c : Addr}, c ∈ [z, TI, TO, i1, i2] → c = z ∨ c = TI ∨ c = TO ∨ c = i1 ∨ c = i2 := fun h => by simpa using h
  have lives : ∀ (i : Nat) (h : Heap), (IsZip h z TI TO .none ∧ IsTupOf2 h TI (.ref i1) (.ref i2) ∧ (∃ c d, IsTupOf2 h TO c d) ∧ h.IsTupleIter i1 a i ∧ h.IsListIter i2 b i) → ∀ c ∈ [z, TI, TO, i1, i2], ∃ o, h.get? c = some o ∧ ∀ v, o.data ≠ .cell v := fun i h st c hc => by
    obtain ⟨s1, s2, ⟨x, y, s3⟩, ⟨o4, s4, _, d4⟩, ⟨o5, s5, _, d5⟩⟩ := st
    rcases five hc with rfl | rfl | rfl | rfl | rfl
    · exact ⟨_, s1, fun v q => nomatch q⟩
    · exact ⟨_, s2, fun v q => nomatch q⟩
    · exact ⟨_, s3, fun v q => nomatch q⟩
    · exact ⟨o4, s4, fun v q => by rw [d4] at q; exact nomatch q⟩
    · exact ⟨o5, s5, fun v q => by rw [d5] at q; exact nomatch q⟩
  refine ⟨List.mem_cons_self, lives, fun i h h' st kp => ?_, fun X eP ew eK hc i pins s σ H E I hf st hg => ?_, fun X eP ew eK hc i pins s σ H E I hf st hg => ?_, fun A i s Q E st q => wpAny_pyIter_zip st.1 q⟩
  · obtain ⟨s1, s2, ⟨x, y, s3⟩, s4, s5⟩ := st
    exact ⟨kp _ (by simp) _ s1, kp _ (by simp) _ s2, ⟨x, y, kp _ (by simp) _ s3⟩, s4.at fun o q => kp _ (by simp) o q, s5.at fun o q => kp _ (by simp) o q⟩
  · cases eP
    cases ew
    cases eK
    have lv := lives i _ st
    obtain ⟨s1, s2, s3, s4, s5⟩ := st
    obtain ⟨us, ws, u, v, qa, qb, hu, hv⟩ := hg
    obtain ⟨la, ra, pa, _⟩ := I.tuple qa
    obtain ⟨lb, rb, pb, _⟩ := I.list qb
    obtain ⟨u', eu, ru⟩ := ra.get hu
    obtain ⟨v', ev', rv⟩ := rb.get hv
    have W := WalksT.zipD2 (A := X.A) S (Draws.tuple (A := X.A.in1) (I.ok.hd hc) i1 a na la.toArray) (Draws.list (prog := X.prog) (w := X.w) (A := X.A.in1) (I.ok.hd hc) i2 b nb lb.toArray)
    have il : i < la.length := (List.getElem?_eq_some_iff.mp eu).1
    have ir : i < lb.length := (List.getElem?_eq_some_iff.mp ev').1
    refine W.item i s _ E (by rw [List.size_toArray, List.size_toArray]; omega) ⟨s1, s2, s3, ⟨s4, pa⟩, ⟨s5, pb.isList⟩⟩ fun T vals h1 tk pv hT tT mid k1 => ⟨_, rfl, ?_⟩
    have apT := W.apart i T h1 mid
    refine W.go es k ps i T _ _ _ mid fun h2 st2 k2 => ?_
    obtain ⟨x1, x2, e1, e2, rfl⟩ := pv
    have f1 : x1 = u' := by
      have := e1.symm.trans (show la.toArray[i]? = some u' by simpa using eu)
      exact Option.some.inj this
    have f2 : x2 = v' := by
      have := e2.symm.trans (show lb.toArray[i]? = some v' by simpa using ev')
      exact Option.some.inj this
    subst f1 f2
    obtain ⟨z1, z2, z3, ⟨z4, _⟩, ⟨z5, _⟩⟩ := st2
    have tT2 : h2.IsTuple T #[x1, x2] := tT.at fun o e => k2 T o apT e
    have in5 : ∀ c, c ∉ [z, TI, TO, i1, i2] → c ∉ [z, TO, i1, i2] := fun c h m => h (by
      rcases (by simpa using m : c = z ∨ c = TO ∨ c = i1 ∨ c = i2) with rfl | rfl | rfl | rfl <;> simp)
    have J := I.turnedNew (h' := h2) (t' := tk) (ch := [z, TI, TO, i1, i2]) (T := T) (ob := .tup [u, v]) (fun c o hb' q => k2 c o (in5 c hb') (k1 c o (in5 c hb') q)) hf hT ⟨(by show 2 ≤ sizeLine; decide), [x1, x2], .cons ru (.cons rv .nil), tT2⟩
    refine ⟨.ref T, _, J, rfl, ⟨T, u, v, rfl, I.hok.fresh hT, rfl, fun l hl => ?_, fun l hl => ?_⟩, ⟨z1, z2, z3, z4, z5⟩, fun c hcm => ?_⟩
    · rw [I.tuple_inj hl qa]
      exact hu
    · rw [I.list_inj hl qb]
      exact hv
    · obtain ⟨o, ho, _⟩ := lv c hcm
      have lt := Heap.lt_size ho
      rw [upd_ne (Nat.ne_of_lt (Nat.lt_of_lt_of_le lt hT))]
      exact (hf c hcm).1
  · cases eP
    cases ew
    cases eK
    obtain ⟨s1, s2, s3, s4, s5⟩ := st
    obtain ⟨us, ws, qa, qb, e1, e2⟩ := hg
    obtain ⟨la, ra, pa, _⟩ := I.tuple qa
    obtain ⟨lb, rb, pb, _⟩ := I.list qb
    have W := WalksT.zipD2 (A := X.A) S (Draws.tuple (A := X.A.in1) (I.ok.hd hc) i1 a na la.toArray) (Draws.list (prog := X.prog) (w := X.w) (A := X.A.in1) (I.ok.hd hc) i2 b nb lb.toArray)
    have l1 := ra.length
    have l2 := rb.length
    have en : min la.toArray.size lb.toArray.size = i := by
      rw [List.size_toArray, List.size_toArray]
      omega
    rw [en] at W
    refine W.done s _ E ⟨s1, s2, s3, ⟨s4, pa⟩, ⟨s5, pb.isList⟩⟩ fun h1 tk k1 => ⟨rfl, ?_⟩
    exact I.turnedL (t' := tk) (ch := [z, TI, TO, i1, i2]) (fun c o hb' q => k1 c o (fun m => hb' (by rcases (by simpa using m : c = z ∨ c = TO ∨ c = i1 ∨ c = i2) with rfl | rfl | rfl | rfl <;> simp)) q) hf
def iZipTL (K : PySem.W.Frag) (ta : TA) : TI := fun σ H R => ta σ H fun vs H1 => ∃ a b us ws, vs = [.ref a, .ref b] ∧ SqT K H1 a us ∧ SqL K H1 b ws ∧ R (ItTL K a b) H1
theorem pi_zipTL {X : Cx} {e e2 : Expr} {ta : TA} {p pos tpos : Pos} {elts : List Expr} {kk : Nat} (hg : Gl X "zip") (hm : X.mg "zip" = none) (ha : PA X [e, e2] ta)
    (hs : starEach [e, e2] X.env = (false, eval e X.env) :: starEach [e2] X.env := by rfl) (hpl : (backTo pos (starEach [e2] X.env)).any (·.1) = false := by rfl) : PI X (.Tuple elts kk tpos) (.Call (.Name "zip" p) [e, e2] [] pos) (iZipTL X.K ta) := by
  refine ⟨fun pins s σ H R I h => Call_ (ld_blt I hg hm PyProof.Rows.boot_zip (PyProof.Rows.callWith_type1 (thn (ha.run pos pins s σ H _ I h) fun us s1 ⟨vs, H1, I1, r1, q1⟩ => ?_) hs hpl))⟩
  obtain ⟨a, b, ul, wl, rfl, qa, qb, q⟩ := q1
  obtain ⟨v1, v2, rfl, t1, t2⟩ := vals2 r1
  cases t1
  cases t2
  obtain ⟨la, ra, pa, _⟩ := I1.tuple qa
  obtain ⟨lb, rb, pb, _⟩ := I1.list qb
  obtain ⟨ob, hob, _⟩ := id pa
  have lt1 : a < s1.heap.objs.size := Heap.lt_size hob
  have lt2 : b < s1.heap.objs.size := pb.lt
  refine zip_begins2 (begins_tuple a la.toArray) (begins_list b lb.toArray) pa pb.isList fun h' hz hTI hTO g1 g2 hsz hk => wpAny_pyIter_zip hz ?_
  have J : Inv X pins σ H1 { s1 with heap := h' } := I1.kept (t' := s1.toks) hk
  have S := zip_sep2 (N := s1.heap.objs.size) (fp1 := [a]) (fp2 := [b]) (fun c hc => by rw [List.mem_singleton.mp hc]; exact lt1) (fun c hc => by rw [List.mem_singleton.mp hc]; exact lt2)
  refine ⟨_, _, _, _, H1, rfl, J, turn_TL S (Nat.ne_of_lt lt1) (Nat.ne_of_lt (Nat.lt_succ_of_lt lt2)), ⟨hz, hTI, ⟨_, _, hTO⟩, ⟨_, g1, rfl, rfl⟩, ⟨_, g2, rfl, rfl⟩⟩, fun c hcm => ?_, q⟩
  have le : s1.heap.objs.size ≤ c := by
    rcases (by simpa using hcm : c = s1.heap.objs.size + 4 ∨ c = s1.heap.objs.size + 2 ∨ c = s1.heap.objs.size + 3 ∨ c = s1.heap.objs.size ∨ c = s1.heap.objs.size + 1) with e | e | e | e | e <;> (rw [e]; first | exact Nat.le_refl _ | exact Nat.le_add_right _ _)
  exact I1.fpOk le (I1.hok.fresh le)
theorem walk_TL {K : PySem.W.Frag} {a b : Addr} {us ws : List V} {n : Nat} (hx : us.length = n) (hy : ws.length = n) : Walk (ItTL K a b) n (fun H => SqT K H a us ∧ SqL K H b ws) (YPair (fun i => us[i]?) (fun i => ws[i]?)) := by
  refine ⟨fun i H hi q => ⟨us, ws, us[i]'(by omega), ws[i]'(by omega), q.1, q.2, List.getElem?_eq_getElem _, List.getElem?_eq_getElem _⟩, fun H q => ⟨us, ws, q.1, q.2, hx, hy⟩, fun i H v H' hi q y => ?_⟩
  obtain ⟨T, x, z, h1, h2, h3, h4, h5⟩ := y
  exact ⟨T, x, z, h1, h2, h3, h4 us q.1, h5 ws q.2⟩
theorem tupK {X : Cx} (K : PySem.W.Frag) {a : Expr} {ta : TE} {p pos : Pos} (hg : Gl X "tuple") (hm : X.mg "tuple" = none) (ha : PE X a ta) (na : starEach [a] X.env = (false, eval a X.env) :: starEach [] X.env := by rfl) (h : X.K = K := by rfl) :
    PE X (.Call (.Name "tuple" p) [a] [] pos) (tThen ta (kTup K)) := by
  subst h
  exact pe_tupleOf hg hm ha na
/-! ### max of a tuple of ints -/
def rMaxT (K : PySem.W.Frag) : List V → Hp → VK → Prop := fun vs H Q => ∃ (a : Addr) (n : Int) (ns : List Int), vs = [V.ref a] ∧ SqT K H a ((n :: ns).map V.int) ∧ Q (.int (ns.foldl max n)) H
theorem depth_ints : ∀ ns : List Int, PyData.depthAll (ns.map PyData.int) = 0
  | [] => rfl
  | n :: r => by
    rw [List.map_cons]
    show max (PyData.depth (.int n)) (PyData.depthAll (r.map PyData.int)) = 0
    rw [depth_ints r]
    rfl
theorem cr_maxT {X : Cx} (hc : X.calm = true) (hu : X.A.units + 64 < cLine) : CallR X (.builtin "max") (rMaxT X.K) := by
  intro pins s σ H vs us Q I r h
  obtain ⟨a, n, ns, rfl, hs, q⟩ := h
  obtain ⟨its, rv, p, _⟩ := I.tuple hs
  rw [Vals.ref1 r]
  obtain ⟨as, hr⟩ := Dp.readsAll I ((n :: ns).map PyData.int) _ its (dp_ints (n :: ns)) rv
  rw [List.map_cons] at hr
  have al : PySem.W.AlikeAll (PyData.int n :: ns.map PyData.int) := ⟨fun x hx y hy => by
    rw [← List.map_cons (f := PyData.int)] at hx hy
    obtain ⟨i, _, rfl⟩ := List.mem_map.mp hx
    obtain ⟨j, _, rfl⟩ := List.mem_map.mp hy
    rfl, fun x hx => by
    rw [← List.map_cons (f := PyData.int)] at hx
    obtain ⟨i, _, rfl⟩ := List.mem_map.mp hx
    exact fun e => nomatch e⟩
  refine PySem.W.max_tuple_data (I.ok.hd hc) p (by simpa using hr) al (by rw [← List.map_cons (f := PyData.int), depth_ints]; omega) fun i v h' tk bs _ rd hk => ?_
  rw [PySem.W.maxD_ints] at rd
  cases rd
  exact ⟨.int _, H, I.kept hk, ⟨_, rfl⟩, q⟩
theorem foldl_max_spec : ∀ (ns : List Int) (n : Int), (n ≤ ns.foldl max n ∧ ∀ x ∈ ns, x ≤ ns.foldl max n) ∧ (ns.foldl max n = n ∨ ns.foldl max n ∈ ns)
  | [], n => ⟨⟨Int.le_refl _, fun _ h => absurd h (by simp)⟩, .inl rfl⟩
  | k :: r, n => by
    rw [List.foldl_cons]
    obtain ⟨⟨h1, h2⟩, h3⟩ := foldl_max_spec r (max n k)
    have e1 : n ≤ max n k := Int.le_max_left ..
    have e2 : k ≤ max n k := Int.le_max_right ..
    refine ⟨⟨Int.le_trans e1 h1, fun x hx => ?_⟩, ?_⟩
    · rcases List.mem_cons.mp hx with rfl | hx
      · exact Int.le_trans e2 h1
      · exact h2 x hx
    · rcases h3 with h3 | h3
      · rw [h3]
        by_cases c : n ≤ k
        · rw [Int.max_eq_right c]
          exact .inr (by simp)
        · rw [Int.max_eq_left (by omega)]
          exact .inl rfl
      · exact .inr (List.mem_cons_of_mem _ h3)
/-! ### gains -/
def dotI (ss ps : List Int) : Int := (List.zipWith (· * ·) ss ps).sum
def gainI (ss ps : List Int) (p : Int) : Int := ss.sum * p - dotI ss ps
def rightI (ss ps : List Int) (g : Int) : Bool := (List.zipWith (fun s p => (s == 0 || p == g)) ss ps).all id
theorem dot_lin (c d : Int) : ∀ ss ps : List Int, ss.length = ps.length → dotI ss (ps.map fun p => c * p - d) = c * dotI ss ps - d * ss.sum
  | [], [], _ => by simp [dotI]
  | s :: ss, p :: ps, h => by
    have ih := dot_lin c d ss ps (by simpa using h)
    unfold dotI at ih ⊢
    rw [List.map_cons, List.zipWith_cons_cons, List.zipWith_cons_cons, List.sum_cons, List.sum_cons, List.sum_cons, ih, Int.mul_add, Int.mul_add]
    have e1 : s * (c * p - d) = c * (s * p) - d * s := by rw [Int.mul_sub, Int.mul_left_comm, Int.mul_comm s d]
    omega
theorem gains_nought (ss ps : List Int) (h : ss.length = ps.length) : dotI ss (ps.map (gainI ss ps)) = 0 := by
  show dotI ss (ps.map fun p => ss.sum * p - dotI ss ps) = 0
  rw [dot_lin _ _ _ _ h, Int.mul_comm]
  omega
theorem dot_gap (g : Int) : ∀ ss ps : List Int, ss.length = ps.length → (∀ s ∈ ss, 0 ≤ s) → (∀ p ∈ ps, p ≤ g) → dotI ss ps ≤ ss.sum * g ∧ (dotI ss ps = ss.sum * g ↔ rightI ss ps g = true)
  | [], [], _, _, _ => by simp [dotI, rightI]
  | s :: ss, p :: ps, h, hs, hp => by
    obtain ⟨i1, i2⟩ := dot_gap g ss ps (by simpa using h) (fun x hx => hs x (List.mem_cons_of_mem _ hx)) (fun x hx => hp x (List.mem_cons_of_mem _ hx))
    have s0 := hs s (by simp)
    have p0 := hp p (by simp)
    have e : (List.zipWith (fun x1 x2 => x1 * x2) (s :: ss) (p :: ps)).sum = s * p + dotI ss ps := by
      rw [List.zipWith_cons_cons, List.sum_cons]
      rfl
    have er : rightI (s :: ss) (p :: ps) g = ((s == 0 || p == g) && rightI ss ps g) := rfl
    have m : s * p ≤ s * g := Int.mul_le_mul_of_nonneg_left p0 s0
    have es : (s :: ss).sum * g = s * g + ss.sum * g := by rw [List.sum_cons, Int.add_mul]
    have ed : dotI (s :: ss) (p :: ps) = s * p + dotI ss ps := e
    rw [es, ed, er]
    refine ⟨by omega, ?_⟩
    have eq : s * p = s * g ↔ (s == 0 || p == g) = true := by
      rw [Bool.or_eq_true, beq_iff_eq, beq_iff_eq]
      constructor
      · intro q
        by_cases z : s = 0
        · exact .inl z
        · exact .inr (Int.eq_of_mul_eq_mul_left z q)
      · rintro (rfl | rfl)
        · rw [Int.zero_mul, Int.zero_mul]
        · rfl
    rw [Bool.and_eq_true, ← i2, ← eq]
    omega
/-- who is right: just where the greatest gain is at most 0 -/
theorem right_iff {ss ps : List Int} {g m : Int} (h : ss.length = ps.length) (hs : ∀ s ∈ ss, 0 ≤ s) (h0 : 0 < ss.sum) (hg : g ∈ ps) (hp : ∀ p ∈ ps, p ≤ g) (hm : m ∈ ps.map (gainI ss ps)) (hx : ∀ y ∈ ps.map (gainI ss ps), y ≤ m) : rightI ss ps g = decide (m ≤ 0) := by
  obtain ⟨g1, g2⟩ := dot_gap g ss ps h hs hp
  obtain ⟨p, hpm, rfl⟩ := List.mem_map.mp hm
  have k1 := hx (gainI ss ps g) (List.mem_map_of_mem hg)
  have k2 : ss.sum * p ≤ ss.sum * g := Int.mul_le_mul_of_nonneg_left (hp p hpm) (Int.le_of_lt h0)
  unfold gainI at k1 ⊢
  rw [Bool.eq_iff_iff, ← g2, decide_eq_true_iff]
  constructor
  · intro e
    omega
  · intro e
    omega
end NG

namespace NG
open PySem PySem.Spec PyProof.Rows L2
/-! ### repr of a number, a truth or None -/
def shV : V → Option Str
  | .int i => if i.natAbs.log2 < 1920 then some (Str.ofString (toString i)) else none
  | .bl b => some (if b = true then Str.ofString "True" else Str.ofString "False")
  | .non => some (Str.ofString "None")
  | _ => none
def rReprV : List V → Hp → VK → Prop := fun vs H Q => ∃ (v : V) (x : Str), vs = [v] ∧ shV v = some x ∧ Q (.str x) H
theorem cr_reprV {X : Cx} : CallR X (.builtin "repr") rReprV := by
  intro pins s σ H vs us Q I r h
  obtain ⟨v, x, rfl, hx, q⟩ := h
  obtain ⟨u, rfl, t⟩ := vals1 r
  cases v with
  | int i =>
    have hx : (if i.natAbs.log2 < 1920 then some (Str.ofString (toString i)) else none) = some x := hx
    by_cases hz : i.natAbs.log2 < 1920
    · rw [if_pos hz] at hx
      have hx := Option.some.inj hx
      subst hx
      obtain ⟨t, rfl⟩ := t
      exact PySem.P.repr_of_int hz ⟨.str _, H, I.tok (s.toks + 1), ⟨_, rfl⟩, q⟩
    · rw [if_neg hz] at hx
      cases hx
  | bl b =>
    cases hx
    have t : u = Value.bool b := t
    subst t
    exact PySem.P.repr_of_bool ⟨.str _, H, I.tok (s.toks + 1), ⟨_, rfl⟩, q⟩
  | non =>
    cases hx
    have t : u = Value.none := t
    subst t
    exact PySem.P.repr_of_none ⟨.str _, H, I.tok (s.toks + 1), ⟨_, rfl⟩, q⟩
  | _ => cases hx
theorem shV_int {i : Int} (h : i.natAbs < 2 ^ 1000) : ∃ x, shV (.int i) = some x := by
  refine ⟨Str.ofString (toString i), ?_⟩
  show (if i.natAbs.log2 < 1920 then some (Str.ofString (toString i)) else none) = _
  rw [if_pos]
  by_cases h0 : i.natAbs = 0
  · rw [h0]; decide
  · have := (Nat.log2_lt h0).mpr h
    omega
/-! ### one promise out of another -/
theorem FnOk.mono {P : Program} {w : World} {K : PySem.W.Frag} {mg : Str → Option Value} {base : Heap} {CX : CXT} {k : Nat} {f : Addr} {fd : FuncData} {ps : List Str} {sp sp' : Sp} (F : FnOk P w K mg base CX k f fd ps sp) (h : ∀ vs H Q E, sp' vs H Q E → sp vs H Q E) : FnOk P w K mg base CX k f fd ps sp' :=
  ⟨fun vs H Q E x => F.len vs H Q E (h vs H Q E x), fun A outer s H args us vs Q E r e b v x => F.run A outer s H args us vs Q E r e b v (h vs H Q E x)⟩
end NG

namespace NG
open PySem PySem.Spec PyProof.Rows L2
/-! ### rough numbers -/
def bl (n : Nat) : Nat := if n = 0 then 0 else n.log2 + 1
theorem bl_eq (n : Nat) : Builtin.Int.intBits (n : Int) = bl n := by
  unfold Builtin.Int.intBits bl
  rw [Int.natAbs_natCast]
  by_cases h : n = 0
  · subst h
    rfl
  · rw [if_neg h, if_neg (by simpa using h)]
theorem lt_bl (n : Nat) : n < 2 ^ bl n := by
  unfold bl
  by_cases h : n = 0
  · subst h
    decide
  · rw [if_neg h]
    exact Nat.lt_log2_self
theorem bl_le {n k : Nat} (h : n < 2 ^ k) : bl n ≤ k := by
  unfold bl
  by_cases h0 : n = 0
  · rw [if_pos h0]
    exact Nat.zero_le _
  · rw [if_neg h0]
    exact (Nat.log2_lt h0).mpr h
theorem pow_bl {n : Nat} (h : n ≠ 0) : 2 ^ (bl n - 1) ≤ n ∧ 1 ≤ bl n := by
  unfold bl
  rw [if_neg h]
  exact ⟨Nat.log2_self_le h, by omega⟩
def cd (h s : Nat) : Nat := (h + 2 ^ s - 1) / 2 ^ s
theorem cd_cast (h s : Nat) : -(-(h : Int) / 2 ^ s) = ((cd h s : Nat) : Int) := by
  have hp : 0 < 2 ^ s := Nat.pow_pos (by decide)
  have e : (2 : Int) ^ s = ((2 ^ s : Nat) : Int) := by push_cast; rfl
  rw [e]
  unfold cd
  generalize 2 ^ s = p at hp
  have d1 := Nat.div_add_mod (h + p - 1) p
  have d2 := Nat.mod_lt (h + p - 1) hp
  generalize (h + p - 1) / p = q at *
  generalize (h + p - 1) % p = r at *
  have key : -(h : Int) / (p : Int) = -(q : Int) := by
    have a1 : -(q : Int) ≤ -(h : Int) / (p : Int) := by
      rw [Int.le_ediv_iff_mul_le (by omega)]
      have : (h : Int) ≤ (q : Int) * (p : Int) := by
        have z : h ≤ p * q := by omega
        have z2 : ((p * q : Nat) : Int) = (q : Int) * (p : Int) := by push_cast; exact Int.mul_comm _ _
        omega
      rw [Int.neg_mul]
      omega
    have a2 : -(h : Int) / (p : Int) < -(q : Int) + 1 := by
      rw [Int.ediv_lt_iff_lt_mul (by omega), Int.add_mul, Int.neg_mul, Int.one_mul]
      have z2 : ((p * q : Nat) : Int) = (q : Int) * (p : Int) := by push_cast; exact Int.mul_comm _ _
      omega
    omega
  rw [key]
  omega
abbrev Rg := Nat × Nat × Nat
structure Rgh (L bits x : Nat) (r : Rg) : Prop where
  lo : r.1 * 2 ^ r.2.2 ≤ x
  hi : x ≤ r.2.1 * 2 ^ r.2.2
  le : r.1 ≤ r.2.1
  sz : r.2.1 ≤ 2 ^ bits
  ex : L ≤ bits → r = (x, x, 0)
def trimR (lo hi sh bits : Nat) : Rg := (lo / 2 ^ (bl hi - bits), cd hi (bl hi - bits), sh + (bl hi - bits))
theorem trim_ok {L bits x lo hi sh : Nat} (h1 : lo * 2 ^ sh ≤ x) (h2 : x ≤ hi * 2 ^ sh) (h3 : lo ≤ hi) (hx : x < 2 ^ L) (ex : L ≤ bits → lo = x ∧ hi = x ∧ sh = 0) : Rgh L bits x (trimR lo hi sh bits) := by
  unfold trimR
  have hb := lt_bl hi
  generalize hs : bl hi - bits = s
  have hp : 0 < 2 ^ s := Nat.pow_pos (by decide)
  have d1 := Nat.div_add_mod (hi + 2 ^ s - 1) (2 ^ s)
  have d2 := Nat.mod_lt (hi + 2 ^ s - 1) hp
  have hc : hi ≤ cd hi s * 2 ^ s := by
    unfold cd
    rw [Nat.mul_comm]
    omega
  refine ⟨?_, ?_, ?_, ?_, ?_⟩
  · show lo / 2 ^ s * 2 ^ (sh + s) ≤ x
    rw [Nat.add_comm, Nat.pow_add, ← Nat.mul_assoc]
    exact Nat.le_trans (Nat.mul_le_mul_right _ (Nat.div_mul_le_self lo (2 ^ s))) h1
  · show x ≤ cd hi s * 2 ^ (sh + s)
    rw [Nat.add_comm, Nat.pow_add, ← Nat.mul_assoc]
    exact Nat.le_trans h2 (Nat.mul_le_mul_right _ hc)
  · show lo / 2 ^ s ≤ cd hi s
    exact Nat.div_le_div_right (by omega)
  · show cd hi s ≤ 2 ^ bits
    have : hi < 2 ^ bits * 2 ^ s := by
      rw [← Nat.pow_add]
      exact Nat.lt_of_lt_of_le hb (Nat.pow_le_pow_right (by decide) (by omega))
    unfold cd
    rw [← Nat.lt_succ_iff, Nat.div_lt_iff_lt_mul hp, Nat.succ_mul]
    omega
  · intro hL
    obtain ⟨rfl, rfl, rfl⟩ := ex hL
    have := bl_le hx
    have e0 : s = 0 := by omega
    subst e0
    unfold cd
    simp
def timesR (a b : Rg) (bits : Nat) : Rg := trimR (a.1 * b.1) (a.2.1 * b.2.1) (a.2.2 + b.2.2) bits
theorem times_ok {L bits x y : Nat} {a b : Rg} (ha : Rgh L bits x a) (hb : Rgh L bits y b) (h : x * y < 2 ^ L) : Rgh L bits (x * y) (timesR a b bits) := by
  refine trim_ok ?_ ?_ (Nat.mul_le_mul ha.le hb.le) h ?_
  · rw [Nat.pow_add, show a.1 * b.1 * (2 ^ a.2.2 * 2 ^ b.2.2) = (a.1 * 2 ^ a.2.2) * (b.1 * 2 ^ b.2.2) by grind]
    exact Nat.mul_le_mul ha.lo hb.lo
  · rw [Nat.pow_add, show a.2.1 * b.2.1 * (2 ^ a.2.2 * 2 ^ b.2.2) = (a.2.1 * 2 ^ a.2.2) * (b.2.1 * 2 ^ b.2.2) by grind]
    exact Nat.mul_le_mul ha.hi hb.hi
  · intro hL
    rw [ha.ex hL, hb.ex hL]
    exact ⟨rfl, rfl, rfl⟩
theorem one_ok {L bits : Nat} : Rgh L bits 1 (1, 1, 0) := ⟨by decide, by decide, by decide, Nat.pow_pos (by decide), fun _ => rfl⟩
theorem plain_ok {L bits x : Nat} (h : x < 2 ^ L) : Rgh L bits x (trimR x x 0 bits) := trim_ok (by simp) (by simp) (Nat.le_refl _) h fun _ => ⟨rfl, rfl, rfl⟩
/-- n * 2 ^ s > m * 2 ^ t -/
def abv (n s m t : Nat) : Bool := decide (m * 2 ^ t < n * 2 ^ s)
theorem abv_zero {n s m t : Nat} (h : n = 0 ∨ m = 0) : abv n s m t = decide (m < n) := by
  unfold abv
  have hs : 0 < 2 ^ s := Nat.pow_pos (by decide)
  rcases h with rfl | rfl
  · rw [decide_eq_false (by omega), decide_eq_false (by omega)]
  · by_cases hn : n = 0
    · subst hn
      rw [decide_eq_false (by omega), decide_eq_false (by omega)]
    · have : 0 < n * 2 ^ s := Nat.mul_pos (by omega) hs
      rw [decide_eq_true (by omega), decide_eq_true (by omega)]
theorem abv_size {n s m t : Nat} (hn : n ≠ 0) (hm : m ≠ 0) (h : bl n + s ≠ bl m + t) : abv n s m t = decide (bl m + t < bl n + s) := by
  have key : ∀ {n s m t : Nat}, n ≠ 0 → bl m + t < bl n + s → m * 2 ^ t < n * 2 ^ s := fun {n s m t} hn h => by
    have h1 := lt_bl m
    obtain ⟨h2, h3⟩ := pow_bl hn
    have a1 : m * 2 ^ t < 2 ^ (bl m + t) := by
      rw [Nat.pow_add]
      exact (Nat.mul_lt_mul_right (Nat.pow_pos (by decide))).mpr h1
    have a2 : 2 ^ (bl n - 1 + s) ≤ n * 2 ^ s := by
      rw [Nat.pow_add]
      exact Nat.mul_le_mul_right _ h2
    have a3 : (2 : Nat) ^ (bl m + t) ≤ 2 ^ (bl n - 1 + s) := Nat.pow_le_pow_right (by decide) (by omega)
    omega
  unfold abv
  by_cases c : bl m + t < bl n + s
  · rw [decide_eq_true (key hn c), decide_eq_true c]
  · have := key (n := m) (s := t) (m := n) (t := s) hm (by omega)
    rw [decide_eq_false (by omega), decide_eq_false c]
theorem abv_shift {n s m t : Nat} : abv n s m t = decide (m * 2 ^ (t - min s t) < n * 2 ^ (s - min s t)) := by
  unfold abv
  have e : ∀ a k l : Nat, l ≤ k → a * 2 ^ k = a * 2 ^ (k - l) * 2 ^ l := fun a k l h => by
    rw [Nat.mul_assoc, ← Nat.pow_add, Nat.sub_add_cancel h]
  rw [e m t (min s t) (Nat.min_le_right _ _), e n s (min s t) (Nat.min_le_left _ _)]
  have hp : 0 < 2 ^ min s t := Nat.pow_pos (by decide)
  rw [decide_eq_decide]
  exact Nat.mul_lt_mul_right hp
def cmpR (a b : Rg) : Int := if abv a.1 a.2.2 b.2.1 b.2.2 = true then 1 else if abv a.2.1 a.2.2 b.1 b.2.2 = true then 0 else -1
theorem cmp_ok {L bits x y : Nat} {a b : Rg} (ha : Rgh L bits x a) (hb : Rgh L bits y b) : (cmpR a b = 1 ∧ y < x) ∨ (cmpR a b = -1 ∧ x ≤ y) ∨ (cmpR a b = 0 ∧ bits < L) := by
  unfold cmpR
  by_cases c : abv a.1 a.2.2 b.2.1 b.2.2 = true
  · rw [if_pos c]
    unfold abv at c
    have c := of_decide_eq_true c
    have := ha.lo
    have := hb.hi
    exact .inl ⟨rfl, by omega⟩
  · rw [if_neg c]
    by_cases d : abv a.2.1 a.2.2 b.1 b.2.2 = true
    · rw [if_pos d]
      refine .inr (.inr ⟨rfl, ?_⟩)
      by_cases hL : L ≤ bits
      · rw [ha.ex hL, hb.ex hL] at c d
        exact absurd d c
      · omega
    · rw [if_neg d]
      unfold abv at d
      have d : ¬ (b.1 * 2 ^ b.2.2 < a.2.1 * 2 ^ a.2.2) := fun z => d (decide_eq_true z)
      have := ha.hi
      have := hb.lo
      exact .inr (.inl ⟨rfl, by omega⟩)

/-! ### the greatest off -/
def tkN (far days w j : Nat) : Nat := (500 + far) ^ j * (500 - far) ^ (2 * days - j) * (w * w)
def gvN (days held : Nat) : Nat := 500 ^ (2 * days) * (held * held)
def bornN (far days w held j : Nat) : Bool := decide (tkN far days w j ≤ gvN days held)
theorem tk_up {far days w j : Nat} (h : j < 2 * days) : tkN far days w j ≤ tkN far days w (j + 1) := by
  unfold tkN
  refine Nat.mul_le_mul_right _ ?_
  rw [show 2 * days - j = 2 * days - (j + 1) + 1 by omega, Nat.pow_succ, Nat.pow_succ]
  rw [show (500 + far) ^ j * ((500 - far) ^ (2 * days - (j + 1)) * (500 - far)) = (500 + far) ^ j * (500 - far) * (500 - far) ^ (2 * days - (j + 1)) by grind]
  exact Nat.mul_le_mul_right _ (Nat.mul_le_mul_left _ (by omega))
theorem tk_mono {far days w i : Nat} : ∀ {k : Nat}, i + k ≤ 2 * days → tkN far days w i ≤ tkN far days w (i + k)
  | 0, _ => Nat.le_refl _
  | k + 1, h => Nat.le_trans (tk_mono (k := k) (by omega)) (tk_up (by omega))
theorem born_down {far days w held i j : Nat} (hij : i ≤ j) (hj : j ≤ 2 * days) (h : bornN far days w held j = true) : bornN far days w held i = true := by
  unfold bornN at *
  have h := of_decide_eq_true h
  have := tk_mono (far := far) (days := days) (w := w) (i := i) (k := j - i) (by omega)
  rw [show i + (j - i) = j by omega] at this
  exact decide_eq_true (by omega)
def lastJ (P : Nat → Bool) : Nat → Option Nat
  | 0 => none
  | n + 1 => if P n = true then some n else lastJ P n
theorem lastJ_none {P : Nat → Bool} : ∀ {n : Nat}, (∀ j, j < n → P j = false) → lastJ P n = none
  | 0, _ => rfl
  | n + 1, h => by
    unfold lastJ
    rw [if_neg (by rw [h n (by omega)]; exact Bool.false_ne_true)]
    exact lastJ_none fun j hj => h j (by omega)
theorem lastJ_some {P : Nat → Bool} {l : Nat} (hl : P l = true) : ∀ {n : Nat}, l < n → (∀ j, l < j → j < n → P j = false) → lastJ P n = some l
  | 0, h, _ => by omega
  | n + 1, h, hj => by
    unfold lastJ
    by_cases e : l = n
    · subst e
      rw [if_pos hl]
    · rw [if_neg (by rw [hj n (by omega) (by omega)]; exact Bool.false_ne_true)]
      exact lastJ_some hl (by omega) fun j h1 h2 => hj j h1 (by omega)
def moI (far days w held : Nat) : Option Nat := lastJ (bornN far days w held) (2 * days + 1)
def moV (days : Nat) : Option Nat → V
  | none => .non
  | some j => .int ((j : Int) - (days : Int))
theorem mo_none {far days w held : Nat} (h : bornN far days w held 0 = false) : moI far days w held = none := lastJ_none fun j hj => by
  by_cases c : bornN far days w held j = true
  · rw [born_down (Nat.zero_le j) (by omega) c] at h
    cases h
  · simpa using c
theorem mo_some {far days w held l : Nat} (hl : l ≤ 2 * days) (h : bornN far days w held l = true) (hn : l = 2 * days ∨ bornN far days w held (l + 1) = false) : moI far days w held = some l := by
  refine lastJ_some h (by omega) fun j h1 h2 => ?_
  rcases hn with e | e
  · omega
  · by_cases c : bornN far days w held j = true
    · rw [born_down (i := l + 1) (by omega) (by omega) c] at e
      cases e
    · simpa using c
/-! ### sizes -/
theorem pow_size {b e k : Nat} (hb : b < 2 ^ k) : b ^ e ≤ 2 ^ (k * e) := by
  rw [Nat.pow_mul]
  exact Nat.pow_le_pow_left (Nat.le_of_lt hb) e
def LL : Nat := 25000
theorem pw_size {b e : Nat} (hb : b < 1024) (he : e ≤ 2000) : b ^ e ≤ 2 ^ 20000 := by
  have h := pow_size (b := b) (e := e) (k := 10) hb
  exact Nat.le_trans h (Nat.pow_le_pow_right (by decide) (by omega))
theorem size_lt {a b : Nat} (h : a < b) : (2 : Nat) ^ a < 2 ^ b := Nat.pow_lt_pow_right (by decide) h
theorem pw_LL {b e : Nat} (hb : b < 1024) (he : e ≤ 2000) : b ^ e < 2 ^ LL := Nat.lt_of_le_of_lt (pw_size hb he) (size_lt (by decide))

/-! ### on the heap -/
def RgAt (K : PySem.W.Frag) (H : Hp) (r : Rg) (v : V) : Prop := ∃ p, v = .ref p ∧ SqT K H p [.int (r.1 : Int), .int (r.2.1 : Int), .int (r.2.2 : Int)]
theorem RgAt.same {K : PySem.W.Frag} {H H' : Hp} {x : Rg} {v : V} (r : RgAt K H x v) (s : Same H H') : RgAt K H' x v := by
  obtain ⟨p, e, q⟩ := r
  exact ⟨p, e, same_sqt s q⟩
def spTrim (K : PySem.W.Frag) : Sp := fun vs H Q _ => ∃ lo hi sh bits : Nat, vs = [.int (lo : Int), .int (hi : Int), .int (sh : Int), .int (bits : Int)] ∧ ∀ H' v, Same H H' → RgAt K H' (trimR lo hi sh bits) v → Q v H'
def spTimes (K : PySem.W.Frag) : Sp := fun vs H Q _ => ∃ (u v : V) (a b : Rg) (bits : Nat), vs = [u, v, .int (bits : Int)] ∧ RgAt K H a u ∧ RgAt K H b v ∧ bits ≤ 200000 ∧ a.1 ≤ a.2.1 ∧ b.1 ≤ b.2.1 ∧ a.2.1 ≤ 2 ^ bits ∧ b.2.1 ≤ 2 ^ bits ∧ ∀ H' v, Same H H' → RgAt K H' (timesR a b bits) v → Q v H'
def spRPower (K : PySem.W.Frag) : Sp := fun vs H Q _ => ∃ b e bits : Nat, vs = [.int (b : Int), .int (e : Int), .int (bits : Int)] ∧ b < 1024 ∧ e ≤ 1000 ∧ bits ≤ 200000 ∧ ∀ H' v r, Same H H' → RgAt K H' r v → Rgh LL bits (b ^ e) r → Q v H'
def spAbove : Sp := fun vs H Q _ => ∃ n s m t : Nat, vs = [.int (n : Int), .int (s : Int), .int (m : Int), .int (t : Int)] ∧ n < 2 ^ 300000 ∧ m < 2 ^ 300000 ∧ Q (.bl (abv n s m t)) H
def spCompared (K : PySem.W.Frag) : Sp := fun vs H Q _ => ∃ (u v : V) (a b : Rg), vs = [u, v] ∧ RgAt K H a u ∧ RgAt K H b v ∧ a.1 ≤ a.2.1 ∧ b.1 ≤ b.2.1 ∧ a.2.1 < 2 ^ 300000 ∧ b.2.1 < 2 ^ 300000 ∧ Q (.int (cmpR a b)) H
structure OffOk (far days w held : Nat) : Prop where
  f : far ≤ 500
  d : days ≤ 500
  w : w < 2 ^ 64
  h : held < 2 ^ 64
def spWithin (K : PySem.W.Frag) : Sp := fun vs H Q _ => ∃ far days w held j bits : Nat, vs = [.int (far : Int), .int (days : Int), .int (w : Int), .int (held : Int), .int ((j : Int) - (days : Int)), .int (bits : Int)] ∧ OffOk far days w held ∧ j ≤ 2 * days ∧ bits ≤ 200000 ∧
  ∀ H' c, Same H H' → ((c = 1 ∧ bornN far days w held j = false) ∨ (c = -1 ∧ bornN far days w held j = true) ∨ (c = 0 ∧ bits < LL)) → Q (.int c) H'
def spSureIn (K : PySem.W.Frag) : Sp := fun vs H Q _ => ∃ far days w held j : Nat, vs = [.int (far : Int), .int (days : Int), .int (w : Int), .int (held : Int), .int ((j : Int) - (days : Int))] ∧ OffOk far days w held ∧ j ≤ 2 * days ∧
  ∀ H', Same H H' → Q (.bl (bornN far days w held j)) H'
def spMostOff (K : PySem.W.Frag) : Sp := fun vs H Q _ => ∃ far days w held : Nat, vs = [.int (far : Int), .int (days : Int), .int (w : Int), .int (held : Int)] ∧ OffOk far days w held ∧ ∀ H', Same H H' → Q (moV days (moI far days w held)) H'
end NG

namespace NG
open PySem PySem.Spec PyProof.Rows L2
/-! ### comprehensions of two for -/
theorem lc2_tup {K : PySem.W.Frag} {a : Addr} {xs : List V} {g : TG} {tt : TT} {B : L2.St → Hp → (Hp → Prop) → Prop} {vs : List Nat} {σ : L2.St} {H1 : Hp} {D : Addr} {Qd : Hp → Prop} (Pv : Nat → Hp → Prop) (h0 : Pv 0 (upd H1 D (.lst []))) (hl : ∀ i H, i ≤ xs.length → Pv i H → SqT K H a xs)
    (hs : ∀ i x H, xs[i]? = some x → Pv i H → g x (wipe σ vs) H fun σ2 H2 => wipe σ2 vs = wipe σ vs ∧ tt σ2 H2 fun b H3 => if b = true then B σ2 H3 (Pv (i + 1)) else Pv (i + 1) H3) (hd : ∀ H, Pv xs.length H → Qd H) :
    ∃ W : Nat → Nat → Hp → Prop, (∃ m, W 0 m (upd H1 D (.lst []))) ∧ ∀ i m H, W i m H →
      ((Itt K a).stop i H ∧ Qd H) ∨ ((Itt K a).go i H ∧ ∃ Nx : Hp → Prop, (∀ H', Nx H' → ∃ m', m' < m ∧ W (i + 1) m' H') ∧ ∀ x H', (Itt K a).yld i H x H' → g x (wipe σ vs) H' fun σ2 H2 => wipe σ2 vs = wipe σ vs ∧ tt σ2 H2 fun b H3 =>
        if b = true then B σ2 H3 Nx else Nx H3) := by
  refine ⟨fun i m H => m = xs.length - i ∧ i ≤ xs.length ∧ Pv i H, ⟨xs.length, by simp, Nat.zero_le _, h0⟩, ?_⟩
  rintro i m H ⟨rfl, hi, p⟩
  have q := hl i H hi p
  by_cases hlt : i < xs.length
  · refine .inr ⟨⟨xs, xs[i], q, by simp [hlt]⟩, Pv (i + 1), fun H' p' => ⟨xs.length - (i + 1), by omega, rfl, hlt, p'⟩, fun x H' y => ?_⟩
    obtain ⟨e, y⟩ := y
    subst e
    exact hs i x _ (y xs q) p
  · have e : i = xs.length := by omega
    subst e
    exact .inl ⟨⟨xs, q, Nat.le_refl _⟩, hd H p⟩
theorem in_tup {K : PySem.W.Frag} {a : Addr} {xs : List V} {g : TG} {tt : TT} {te : TE} {vs : List Nat} {σ : L2.St} {H1 : Hp} {D : Addr} {Qd : Hp → Prop} (Pv : Nat → Hp → Prop) (h0 : Pv 0 H1) (hl : ∀ i H, i ≤ xs.length → Pv i H → SqT K H a xs)
    (hs : ∀ i x H, xs[i]? = some x → Pv i H → g x (wipe σ vs) H fun σ2 H2 => wipe σ2 vs = wipe σ vs ∧ tt σ2 H2 fun b H3 =>
      if b = true then te σ2 H3 fun y H4 => ∃ acc, H4 D = some (.lst acc) ∧ acc.length < sizeLine ∧ Pv (i + 1) (upd H4 D (.lst (acc ++ [y]))) else Pv (i + 1) H3) (hd : ∀ H, Pv xs.length H → Qd H) :
    ∃ W : Nat → Nat → Hp → Prop, (∃ m, W 0 m H1) ∧ ∀ i m H, W i m H →
      ((Itt K a).stop i H ∧ Qd H) ∨ ((Itt K a).go i H ∧ ∃ Nx : Hp → Prop, (∀ H', Nx H' → ∃ m', m' < m ∧ W (i + 1) m' H') ∧ ∀ x H', (Itt K a).yld i H x H' → g x (wipe σ vs) H' fun σ2 H2 => wipe σ2 vs = wipe σ vs ∧ tt σ2 H2 fun b H3 =>
        if b = true then te σ2 H3 fun y H4 => ∃ acc, H4 D = some (.lst acc) ∧ acc.length < sizeLine ∧ Nx (upd H4 D (.lst (acc ++ [y]))) else Nx H3) := by
  refine ⟨fun i m H => m = xs.length - i ∧ i ≤ xs.length ∧ Pv i H, ⟨xs.length, by simp, Nat.zero_le _, h0⟩, ?_⟩
  rintro i m H ⟨rfl, hi, p⟩
  have q := hl i H hi p
  by_cases hlt : i < xs.length
  · refine .inr ⟨⟨xs, xs[i], q, by simp [hlt]⟩, Pv (i + 1), fun H' p' => ⟨xs.length - (i + 1), by omega, rfl, hlt, p'⟩, fun x H' y => ?_⟩
    obtain ⟨e, y⟩ := y
    subst e
    exact hs i x _ (y xs q) p
  · have e : i = xs.length := by omega
    subst e
    exact .inl ⟨⟨xs, q, Nat.le_refl _⟩, hd H p⟩
/-! ### max of three ints -/
theorem cr_max3 {X : Cx} (hc : X.calm = true) : CallR X (.builtin "max") (fun xs H Q => ∃ i j k : Int, xs = [.int i, .int j, .int k] ∧ Q (.int (mx (mx i j) k)) H) := by
  intro pins s σ H xs us Q I r h
  obtain ⟨i, j, k, rfl, q⟩ := h
  refine call_max3Nu hc pins s σ H _ us Q I r ⟨_, _, _, _, rfl, ?_, q⟩
  have e2 : ∀ a b : Int, nuMax2 (.int a) (.int b) = some (.int (mx a b)) := fun a b => by
    show (some (decide (a < b))).map (fun c => if c = true then V.int b else V.int a) = _
    unfold mx
    by_cases c : a < b
    · rw [decide_eq_true c, if_pos c]
      rfl
    · rw [decide_eq_false c, if_neg c]
      rfl
  show (nuMax2 (.int i) (.int j)).bind _ = _
  rw [e2]
  show nuMax2 (.int (mx i j)) (.int k) = _
  rw [e2]
/-! ### bounds of doubters -/
def farS (a : Int) (e : Ex) : Int := mx (mx a (ab (spn e).1)) (ab (spn e).2)
def farI (es : List Ex) : Int := es.foldl farS 0
def endsI (es : List Ex) : List Int := es.flatMap fun e => [ab (spn e).1, ab (spn e).2]
theorem ab_nn (x : Int) : 0 ≤ ab x := by unfold ab; split <;> omega
theorem farF_ge : ∀ (es : List Ex) (a : Int), a ≤ es.foldl farS a ∧ ∀ x ∈ endsI es, x ≤ es.foldl farS a
  | [], a => ⟨Int.le_refl _, fun x h => by cases h⟩
  | e :: es, a => by
    obtain ⟨h1, h2⟩ := farF_ge es (farS a e)
    have k1 := le_mx a (ab (spn e).1)
    have k2 := le_mx (mx a (ab (spn e).1)) (ab (spn e).2)
    have k3 : farS a e = mx (mx a (ab (spn e).1)) (ab (spn e).2) := rfl
    refine ⟨?_, fun x hx => ?_⟩
    · show a ≤ es.foldl farS (farS a e)
      omega
    · show x ≤ es.foldl farS (farS a e)
      have hx : x ∈ [ab (spn e).1, ab (spn e).2] ++ endsI es := hx
      rcases List.mem_append.mp hx with hx | hx
      · simp only [List.mem_cons, List.not_mem_nil, or_false] at hx
        rcases hx with rfl | rfl <;> omega
      · exact h2 x hx
theorem farF_or : ∀ (es : List Ex) (a : Int), es.foldl farS a = a ∨ es.foldl farS a ∈ endsI es
  | [], a => .inl rfl
  | e :: es, a => by
    show es.foldl farS (farS a e) = a ∨ es.foldl farS (farS a e) ∈ [ab (spn e).1, ab (spn e).2] ++ endsI es
    rcases farF_or es (farS a e) with h | h
    · rw [h]
      unfold farS
      rcases mx_or (mx a (ab (spn e).1)) (ab (spn e).2) with z | z
      · rw [z]
        rcases mx_or a (ab (spn e).1) with y | y
        · exact .inl y
        · rw [y]
          exact .inr (List.mem_append_left _ (by simp))
      · rw [z]
        exact .inr (List.mem_append_left _ (by simp))
    · exact .inr (List.mem_append_right _ h)
theorem far_max {es : List Ex} {m : Int} (h0 : es ≠ []) (hm : m ∈ endsI es) (hx : ∀ y ∈ endsI es, y ≤ m) : m = farI es := by
  obtain ⟨h1, h2⟩ := farF_ge es 0
  have k := h2 m hm
  have nn : ∀ y ∈ endsI es, 0 ≤ y := fun y hy => by
    obtain ⟨e, _, hy⟩ := List.mem_flatMap.mp hy
    simp only [List.mem_cons, List.not_mem_nil, or_false] at hy
    rcases hy with rfl | rfl <;> exact ab_nn _
  have k2 := nn m hm
  unfold farI
  rcases farF_or es 0 with h | h
  · omega
  · have := hx _ h
    omega
def pw2 : Nat → Int
  | 0 => 1
  | 1 => 2
  | 2 => 4
  | 3 => 8
  | _ => 16
theorem pw2_bnd (s : Nat) : 1 ≤ pw2 s ∧ pw2 s ≤ 16 := by
  match s with
  | 0 => decide
  | 1 => decide
  | 2 => decide
  | 3 => decide
  | _ + 4 => show (1 : Int) ≤ 16 ∧ (16 : Int) ≤ 16; decide
def bndI (D : Dbt) : Int := mx 1 ((farI D.stakes + pw2 D.scale - 1) / pw2 D.scale)
theorem st_ends {many l : Nat} {e : Ex} (h : StOk many l e) : ab (spn e).1 ≤ 500 ∧ ab (spn e).2 ≤ 500 := by
  have k : ∀ {x : Int}, -500 ≤ x → x ≤ 500 → ab x ≤ 500 := fun h1 h2 => by unfold ab; split <;> omega
  rcases h with ⟨c, rfl, h1, h2⟩ | ⟨c, e', rfl, h1, h2, _⟩
  · exact ⟨k h1 h2, k h1 h2⟩
  · have z : ∀ y : Int, -500 ≤ mn c (mx (-c) y) ∧ mn c (mx (-c) y) ≤ 500 := fun y => by
      unfold mn mx
      split <;> split <;> omega
    exact ⟨k (z _).1 (z _).2, k (z _).1 (z _).2⟩
theorem far_500 {many l : Nat} {es : List Ex} (h : ∀ e ∈ es, StOk many l e) : 0 ≤ farI es ∧ farI es ≤ 500 := by
  refine ⟨(farF_ge es 0).1, ?_⟩
  unfold farI
  rcases farF_or es 0 with k | k
  · omega
  · obtain ⟨e, he, hy⟩ := List.mem_flatMap.mp k
    have := st_ends (h e he)
    simp only [List.mem_cons, List.not_mem_nil, or_false] at hy
    rcases hy with hy | hy <;> omega
theorem bnd_500 {many l : Nat} {D : Dbt} (h : ∀ e ∈ D.stakes, StOk many l e) : 1 ≤ bndI D ∧ bndI D ≤ 500 := by
  have h1 := far_500 h
  have h2 := pw2_bnd D.scale
  unfold bndI
  have h3 : (farI D.stakes + pw2 D.scale - 1) / pw2 D.scale ≤ 500 := by
    have : (farI D.stakes + pw2 D.scale - 1) / pw2 D.scale < 501 := by
      rw [Int.ediv_lt_iff_lt_mul (by omega)]
      omega
    omega
  unfold mx
  split <;> omega
end NG

namespace NG
open PySem PySem.Spec PyProof.Rows L2
/-! ### a statement that is never reached -/
theorem ps_dead {X : Cx} {st : Stmt} : PS X st (fun _ _ _ => False) := ⟨fun _ _ _ _ _ _ h => h.elim⟩
/-! ### min of a tuple of ints -/
def rMinT (K : PySem.W.Frag) : List V → Hp → VK → Prop := fun vs H Q => ∃ (a : Addr) (n : Int) (ns : List Int), vs = [V.ref a] ∧ SqT K H a ((n :: ns).map V.int) ∧ Q (.int (ns.foldl min n)) H
theorem cr_minT {X : Cx} (hc : X.calm = true) (hu : X.A.units + 64 < cLine) : CallR X (.builtin "min") (rMinT X.K) := by
  intro pins s σ H vs us Q I r h
  obtain ⟨a, n, ns, rfl, hs, q⟩ := h
  obtain ⟨its, rv, p, _⟩ := I.tuple hs
  rw [Vals.ref1 r]
  obtain ⟨as, hr⟩ := Dp.readsAll I ((n :: ns).map PyData.int) _ its (dp_ints (n :: ns)) rv
  rw [List.map_cons] at hr
  have al : PySem.W.AlikeAll (PyData.int n :: ns.map PyData.int) := ⟨fun x hx y hy => by
    rw [← List.map_cons (f := PyData.int)] at hx hy
    obtain ⟨i, _, rfl⟩ := List.mem_map.mp hx
    obtain ⟨j, _, rfl⟩ := List.mem_map.mp hy
    rfl, fun x hx => by
    rw [← List.map_cons (f := PyData.int)] at hx
    obtain ⟨i, _, rfl⟩ := List.mem_map.mp hx
    exact fun e => nomatch e⟩
  refine PySem.W.min_tuple_data (I.ok.hd hc) p (by simpa using hr) al (by rw [← List.map_cons (f := PyData.int), depth_ints]; omega) fun i v h' tk bs _ rd hk => ?_
  rw [PySem.W.minD_ints] at rd
  cases rd
  exact ⟨.int _, H, I.kept hk, ⟨_, rfl⟩, q⟩
/-! ### days of ones -/
def wsI (ss : List Int) (o : One) : List Int := o.dbt.stakes.map (wo o.regs ss)
def fullI (ss : List Int) (o : One) : Int := 1000 * pw2 o.dbt.scale * ss.sum * ss.sum
def winI (ss : List Int) (j : Nat) (o : One) : Int := ss.sum * (wsI ss o).getD j 0 - dotI ss (wsI ss o)
def alikeI : List Int → Bool
  | [] => true
  | n :: ns => decide (ns.foldl min n = ns.foldl max n)
theorem alike_eq (n : Int) (ns : List Int) : (ns.foldl min n == ns.foldl max n) = alikeI (n :: ns) := by
  show _ = decide (ns.foldl min n = ns.foldl max n)
  rw [Bool.eq_iff_iff]
  simp
def dayO (rg : List Int → Ds → List Int → List Int) (ss : List Int) (j : Nat) (o : One) : One :=
  ⟨o.dbt, rg ss (o.dbt.behinds.getD j .nil) o.regs, o.weight, o.motes * (fullI ss o + winI ss j o) / fullI ss o, -(-o.owed * (fullI ss o + winI ss j o) / fullI ss o) + 1, if alikeI (wsI ss o) = true then o.days else o.days + 1, o.got + 1000000000 * winI ss j o / fullI ss o⟩
def dayMs (rg : List Int → Ds → List Int → List Int) (ss : List Int) (j : Nat) : Ms → Ms
  | .nil => .nil
  | .one o r => .one (dayO rg ss j o) (dayMs rg ss j r)
  | .house nm m r => .house nm (dayMs rg ss j m) (dayMs rg ss j r)
theorem day_ao (rg : List Int → Ds → List Int → List Int) (ss : List Int) (j : Nat) : ∀ m : Ms, aoI (dayMs rg ss j m) = (aoI m).map (dayO rg ss j)
  | .nil => rfl
  | .one o r => by
    show _ :: aoI (dayMs rg ss j r) = _
    rw [day_ao rg ss j r]
    rfl
  | .house nm m r => by
    show aoI (dayMs rg ss j m) ++ aoI (dayMs rg ss j r) = _
    rw [day_ao rg ss j m, day_ao rg ss j r, ← List.map_append]
    rfl
/-! ### members as a list -/
def mks : Ms → List Mk
  | .nil => []
  | .one o r => .one o :: mks r
  | .house nm m r => .house nm m :: mks r
def MksAt (K : PySem.W.Frag) (H : Hp) : List V → List Mk → Prop
  | [], [] => True
  | v :: vs, e :: es => MkAt K H e v ∧ MksAt K H vs es
  | _, _ => False
theorem MksAt.imp {K : PySem.W.Frag} {H H' : Hp} (h : ∀ p xs, SqT K H p xs → SqT K H' p xs) : ∀ {vs : List V} {es : List Mk}, MksAt K H vs es → MksAt K H' vs es
  | [], [], _ => trivial
  | _ :: _, _ :: _, ⟨x, r⟩ => ⟨x.imp h, MksAt.imp h r⟩
theorem MksAt.len {K : PySem.W.Frag} {H : Hp} : ∀ {vs : List V} {es : List Mk}, MksAt K H vs es → vs.length = es.length
  | [], [], _ => rfl
  | _ :: _, _ :: _, ⟨_, r⟩ => by rw [List.length_cons, List.length_cons, r.len]
theorem MksAt.snoc {K : PySem.W.Frag} {H : Hp} {v : V} {e : Mk} (x : MkAt K H e v) : ∀ {vs : List V} {es : List Mk}, MksAt K H vs es → MksAt K H (vs ++ [v]) (es ++ [e])
  | [], [], _ => ⟨x, trivial⟩
  | _ :: _, _ :: _, ⟨y, r⟩ => ⟨y, MksAt.snoc x r⟩
theorem MksAt.get' {K : PySem.W.Frag} {H : Hp} : ∀ {vs : List V} {es : List Mk} {k : Nat} {v : V}, MksAt K H vs es → vs[k]? = some v → ∃ e, es[k]? = some e ∧ MkAt K H e v
  | [], [], _, _, _, h => by simp at h
  | v :: vs, e' :: es, 0, v', ⟨x, r⟩, h => by
    have : v = v' := Option.some.inj h
    subst this
    exact ⟨e', rfl, x⟩
  | v :: vs, e' :: es, k + 1, e, ⟨x, r⟩, h => MksAt.get' (k := k) r h
theorem MsAt.mks {K : PySem.W.Frag} {H : Hp} : ∀ {m : Ms} {vs : List V}, MsAt K H m vs → MksAt K H vs (mks m)
  | .nil, vs, h => by
    have h : vs = [] := h
    subst h
    exact trivial
  | .one o r, _, ⟨v, us, e, q, h⟩ => by
    subst e
    exact ⟨q, MsAt.mks h⟩
  | .house nm m r, _, ⟨p, pm, xs, us, e, q, qm, h1, h2⟩ => by
    subst e
    exact ⟨⟨p, pm, xs, rfl, q, qm, h1⟩, MsAt.mks h2⟩
theorem MksAt.ms {K : PySem.W.Frag} {H : Hp} : ∀ {m : Ms} {vs : List V}, MksAt K H vs (NG.mks m) → MsAt K H m vs
  | .nil, [], _ => rfl
  | .nil, _ :: _, h => h.elim
  | .one o r, [], h => h.elim
  | .one o r, v :: vs, ⟨x, h⟩ => ⟨v, vs, rfl, x, MksAt.ms h⟩
  | .house nm m r, [], h => h.elim
  | .house nm m r, v :: vs, ⟨⟨p, pm, xs, e, q, qm, h1⟩, h⟩ => by
    subst e
    exact ⟨p, pm, xs, vs, rfl, q, qm, h1, MksAt.ms h⟩
def dayMk (rg : List Int → Ds → List Int → List Int) (ss : List Int) (j : Nat) : Mk → Mk
  | .one o => .one (dayO rg ss j o)
  | .house nm m => .house nm (dayMs rg ss j m)
theorem mks_day (rg : List Int → Ds → List Int → List Int) (ss : List Int) (j : Nat) : ∀ m : Ms, mks (dayMs rg ss j m) = (mks m).map (dayMk rg ss j)
  | .nil => rfl
  | .one o r => by
    show _ :: mks (dayMs rg ss j r) = _
    rw [mks_day rg ss j r]
    rfl
  | .house nm m r => by
    show _ :: mks (dayMs rg ss j r) = _
    rw [mks_day rg ss j r]
    rfl
theorem mks_len : ∀ m : Ms, (mks m).length ≤ m.cnt
  | .nil => Nat.le_refl _
  | .one o r => by
    have := mks_len r
    show (mks r).length + 1 ≤ 1 + r.cnt
    omega
  | .house nm m r => by
    have := mks_len r
    show (mks r).length + 1 ≤ 1 + m.cnt + r.cnt
    omega
def MkD (P : One → Prop) (d c : Nat) : Mk → Prop
  | .one o => P o
  | .house _ m => m.dep < d ∧ m.cnt ≤ c ∧ m.all P
theorem mks_ok {P : One → Prop} {c : Nat} : ∀ {m : Ms} {d : Nat}, m.dep < d + 1 → m.cnt ≤ c → m.all P → ∀ k ∈ mks m, MkD P d c k
  | .nil, _, _, _, _, k, hk => by cases hk
  | .one o r, d, h1, h2, h3, k, hk => by
    have h1 : r.dep < d + 1 := h1
    have h2 : 1 + r.cnt ≤ c := h2
    rcases List.mem_cons.mp hk with rfl | hk
    · exact h3.1
    · exact mks_ok h1 (by omega) h3.2 k hk
  | .house nm m r, d, h1, h2, h3, k, hk => by
    have h1 : max (m.dep + 1) r.dep < d + 1 := h1
    have h2 : 1 + m.cnt + r.cnt ≤ c := h2
    rcases List.mem_cons.mp hk with rfl | hk
    · exact ⟨by omega, by omega, h3.1⟩
    · exact mks_ok (by omega) (by omega) h3.2 k hk
end NG

namespace NG
open PySem PySem.Spec PyProof.Rows L2
/-! ### rules with the fragment named, for use inside a comprehension -/
theorem maxTK {X : Cx} (K : PySem.W.Frag) (hc : X.calm = true) (hu : X.A.units + 64 < cLine) (h : X.K = K := by rfl) : CallR X (.builtin "max") (rMaxT K) := by
  subst h; exact cr_maxT hc hu
theorem minTK {X : Cx} (K : PySem.W.Frag) (hc : X.calm = true) (hu : X.A.units + 64 < cLine) (h : X.K = K := by rfl) : CallR X (.builtin "min") (rMinT K) := by
  subst h; exact cr_minT hc hu
theorem eqDK {X : Cx} (K : PySem.W.Frag) (hu : X.A.units + 64 < cLine) (h : X.K = K := by rfl) : OpR X (compareOp .Eq) (rEqD K) := by
  subst h; exact op_eqD hu
theorem neDK {X : Cx} (K : PySem.W.Frag) (hu : X.A.units + 64 < cLine) (h : X.K = K := by rfl) : OpR X (compareOp .NotEq) (rNeD K) := by
  subst h; exact op_neD hu
end NG

namespace NG
open PySem PySem.Spec PyProof.Rows L2
/-! ### a word among a written dict's keys -/
def rInKd (K : PySem.W.Frag) (w : World) : R2 := fun x y H Q => ∃ z p v, x = .str z ∧ y = .ref p ∧ KDct K w p z v ∧ (p == sysModules) = false ∧ Q (.bl true) H
def rNinKd (K : PySem.W.Frag) (w : World) : R2 := fun x y H Q => ∃ z p v, x = .str z ∧ y = .ref p ∧ KDct K w p z v ∧ (p == sysModules) = false ∧ Q (.bl false) H
theorem op_inKd {X : Cx} : OpR X (compareOp .In) (rInKd X.K X.w) := by
  intro pins s σ H x y v u Q I rx ry h
  obtain ⟨z, p, v0, rfl, rfl, ⟨es, n, u0, hl, hk, e, ru⟩, low, q⟩ := h
  exact op_in_kd (X := X) ⟨hl, hk, low⟩ pins s σ H _ _ v u Q I rx ry ⟨z, some u0, rfl, rfl, e, q⟩
theorem op_ninKd {X : Cx} : OpR X (compareOp .NotIn) (rNinKd X.K X.w) := by
  intro pins s σ H x y v u Q I rx ry h
  obtain ⟨z, p, v0, rfl, rfl, ⟨es, n, u0, hl, hk, e, ru⟩, low, q⟩ := h
  exact op_notIn_kd (X := X) ⟨hl, hk, low⟩ pins s σ H _ _ v u Q I rx ry ⟨z, some u0, rfl, rfl, e, q⟩
/-! ### kinds of things -/
def tyd : PyData → String
  | .none => "NoneType"
  | .bool _ => "bool"
  | .int _ => "int"
  | .str _ => "str"
  | .list _ => "list"
  | .tuple _ => "tuple"
  | .dict _ => "dict"
theorem Dp.tyx {K : PySem.W.Frag} {H : Hp} {d : PyData} {v : V} (h : Dp K H v d) : TyX K H v (.type (tyd d)) := by
  cases h with
  | non => exact .base .non
  | bl b => exact .base (.bl b)
  | int i => exact .base (.int i)
  | str x => exact .base (.str x)
  | lst q _ =>
    rcases q with (q | ⟨o, q⟩) | ⟨o, its, n, h1, h2, _⟩
    · exact .base (.lst q)
    · exact .base (.frz q)
    · exact .kList h1 h2
  | tup q _ => exact tyx_tup q
def isInt : PyData → Bool
  | .int _ => true
  | _ => false
theorem rIsi_of {K : PySem.W.Frag} {H : Hp} {d : PyData} {v : V} {T : String} {b : Bool} {Q : VK} (h : Dp K H v d) (k : kitB (tyd d) T = some b) (q : Q (.bl b) H) : rIsi K [v, .ty T] H Q :=
  ⟨v, .ty T, _, _, b, rfl, .ty T, Dp.tyx h, kit_ty k, q⟩
def kB : PyData → Bool
  | .bool _ => true
  | _ => false
def kI : PyData → Bool
  | .int _ => true
  | .bool _ => true
  | _ => false
theorem kit_int (d : PyData) : kitB (tyd d) "int" = some (kI d) := by
  cases d with
  | none => exact (by decide +kernel : kitB "NoneType" "int" = some false)
  | bool _ => exact (by decide +kernel : kitB "bool" "int" = some true)
  | int _ => exact (by decide +kernel : kitB "int" "int" = some true)
  | str _ => exact (by decide +kernel : kitB "str" "int" = some false)
  | list _ => exact (by decide +kernel : kitB "list" "int" = some false)
  | tuple _ => exact (by decide +kernel : kitB "tuple" "int" = some false)
  | dict _ => exact (by decide +kernel : kitB "dict" "int" = some false)
theorem kit_bool (d : PyData) : kitB (tyd d) "bool" = some (kB d) := by
  cases d with
  | none => exact (by decide +kernel : kitB "NoneType" "bool" = some false)
  | bool _ => exact (by decide +kernel : kitB "bool" "bool" = some true)
  | int _ => exact (by decide +kernel : kitB "int" "bool" = some false)
  | str _ => exact (by decide +kernel : kitB "str" "bool" = some false)
  | list _ => exact (by decide +kernel : kitB "list" "bool" = some false)
  | tuple _ => exact (by decide +kernel : kitB "tuple" "bool" = some false)
  | dict _ => exact (by decide +kernel : kitB "dict" "bool" = some false)
def kT : PyData → Bool
  | .tuple _ => true
  | _ => false
theorem kit_tup (d : PyData) : kitB (tyd d) "tuple" = some (kT d) := by
  cases d with
  | none => exact (by decide +kernel : kitB "NoneType" "tuple" = some false)
  | bool _ => exact (by decide +kernel : kitB "bool" "tuple" = some false)
  | int _ => exact (by decide +kernel : kitB "int" "tuple" = some false)
  | str _ => exact (by decide +kernel : kitB "str" "tuple" = some false)
  | list _ => exact (by decide +kernel : kitB "list" "tuple" = some false)
  | tuple _ => exact (by decide +kernel : kitB "tuple" "tuple" = some true)
  | dict _ => exact (by decide +kernel : kitB "dict" "tuple" = some false)
theorem isInt_eq (d : PyData) : (kI d && !kB d) = isInt d := by
  cases d <;> rfl
mutual
theorem dp_same {K : PySem.W.Frag} {H H' : Hp} (s : Same H H') : ∀ {d : PyData} {v : V}, Dp K H v d → Dp K H' v d
  | .none, _, .non => .non
  | .bool _, _, .bl b => .bl b
  | .int _, _, .int i => .int i
  | .str _, _, .str x => .str x
  | .list _, _, .lst q a => .lst (s.seq q) (dpall_same s a)
  | .tuple _, _, .tup q a => .tup (same_sqt s q) (dpall_same s a)
theorem dpall_same {K : PySem.W.Frag} {H H' : Hp} (s : Same H H') : ∀ {ds : List PyData} {vs : List V}, DpAll K H vs ds → DpAll K H' vs ds
  | [], _, .nil => .nil
  | _ :: _, _, .cons a b => .cons (dp_same s a) (dpall_same s b)
end
theorem dpall_len {K : PySem.W.Frag} {H : Hp} : ∀ {ds : List PyData} {vs : List V}, DpAll K H vs ds → vs.length = ds.length
  | [], _, .nil => rfl
  | _ :: _, _, .cons _ b => by rw [List.length_cons, List.length_cons, dpall_len b]
theorem dpall_get {K : PySem.W.Frag} {H : Hp} : ∀ {ds : List PyData} {vs : List V} {i : Nat} {v : V}, DpAll K H vs ds → vs[i]? = some v → ∃ d, ds[i]? = some d ∧ Dp K H v d
  | [], _, _, _, .nil, h => by simp at h
  | d :: _, _, 0, v, .cons a _, h => by
    have := Option.some.inj h
    subst this
    exact ⟨d, rfl, a⟩
  | _ :: _, _, i + 1, v, .cons _ b, h => dpall_get (i := i) b h
theorem dpall_drop {K : PySem.W.Frag} {H : Hp} : ∀ {n : Nat} {ds : List PyData} {vs : List V}, DpAll K H vs ds → DpAll K H (vs.drop n) (ds.drop n)
  | 0, _, _, h => h
  | _ + 1, [], _, .nil => by simpa using (.nil : DpAll K H [] [])
  | n + 1, _ :: _, _, .cons _ b => by
    rw [List.drop_succ_cons, List.drop_succ_cons]
    exact dpall_drop b
theorem dpall_snoc {K : PySem.W.Frag} {H : Hp} {v : V} {d : PyData} (x : Dp K H v d) : ∀ {ds : List PyData} {vs : List V}, DpAll K H vs ds → DpAll K H (vs ++ [v]) (ds ++ [d])
  | [], _, .nil => .cons x .nil
  | _ :: _, _, .cons a b => .cons a (dpall_snoc x b)
/-! ### kinds of places, words, shapes -/
inductive Kd where
  | part | sign | figure | place | factor | line
  deriving DecidableEq
def kdn : Kd → Str
  | .part => "part"
  | .sign => "sign"
  | .figure => "figure"
  | .place => "place"
  | .factor => "factor"
  | .line => "line"
def bndE : Kd → Int × Int
  | .part => (0, 0)
  | .sign => (0, 0)
  | .figure => (-1000, 1000)
  | .place => (0, 3)
  | .factor => (-9, 9)
  | .line => (1, 1000)
inductive We where
  | fig | reg | share | two (w : W4) | times | by | when | whr
  deriving DecidableEq
def wen : We → Str
  | .fig => "fig"
  | .reg => "reg"
  | .share => "share"
  | .two w => wn w
  | .times => "times"
  | .by => "by"
  | .when => "when"
  | .whr => "where"
def wsh : We → List Kd
  | .fig => [.figure]
  | .reg => [.place]
  | .share => [.sign]
  | .two _ => [.part, .part]
  | .times => [.factor, .part]
  | .by => [.place, .part]
  | .when => [.place, .figure, .part, .part]
  | .whr => [.sign, .line, .part, .part]
def weOf (x : Str) : Option We :=
  if x = "fig" then some .fig else if x = "reg" then some .reg else if x = "share" then some .share else if x = "sum" then some (.two .sum) else if x = "less" then some (.two .less)
  else if x = "least" then some (.two .least) else if x = "most" then some (.two .most) else if x = "times" then some .times else if x = "by" then some .by else if x = "when" then some .when else if x = "where" then some .whr else none
theorem weOf_wen (w : We) : weOf (wen w) = some w := by
  cases w with
  | two o => cases o <;> decide
  | _ => decide
inductive Wb where
  | op (w : D5) | when
def wbn : Wb → Str
  | .op w => dn w
  | .when => "when"
def wbsh : Wb → List Kd
  | .op .put => [.place, .figure]
  | .op .add => [.place, .figure]
  | .op .copy => [.place, .place]
  | .op .plus => [.place, .place]
  | .op .told => [.place, .sign]
  | .when => [.place, .figure, .part, .part]
def wbOf (x : Str) : Option Wb :=
  if x = "put" then some (.op .put) else if x = "add" then some (.op .add) else if x = "copy" then some (.op .copy) else if x = "plus" then some (.op .plus) else if x = "told" then some (.op .told) else if x = "when" then some .when else none
theorem wbOf_wbn (w : Wb) : wbOf (wbn w) = some w := by
  cases w with
  | op o => cases o <;> rfl
  | when => rfl
theorem wsh_len (w : We) : (wsh w).length ≤ 4 := by
  cases w with
  | two o => exact (by decide : 2 ≤ 4)
  | _ => decide
theorem wbsh_len (w : Wb) : (wbsh w).length ≤ 4 := by
  cases w with
  | op o => cases o <;> decide
  | when => decide
/-! ### what fits -/
def inD (lo hi : Int) : PyData → Bool
  | .int i => decide (lo ≤ i) && decide (i ≤ hi)
  | _ => false
def fitD (many : Int) : Kd → PyData → Bool
  | .part, _ => true
  | .sign, d => inD 0 (many - 1) d
  | .figure, d => inD (-1000) 1000 d
  | .place, d => inD 0 3 d
  | .factor, d => inD (-9) 9 d
  | .line, d => inD 1 1000 d
def fitsD (many : Int) : List Kd → List PyData → Bool
  | k :: ks, d :: ds => fitD many k d && fitsD many ks ds
  | [], [] => true
  | _, _ => false
theorem fitsD_len {many : Int} : ∀ {ks : List Kd} {ds : List PyData}, fitsD many ks ds = true → ds.length = ks.length
  | [], [], _ => rfl
  | _ :: _, _ :: _, h => by
    unfold fitsD at h
    rw [Bool.and_eq_true] at h
    rw [List.length_cons, List.length_cons, fitsD_len h.2]
  | [], _ :: _, h => by cases h
  | _ :: _, [], h => by cases h
theorem fitsD_ne {many : Int} {ks : List Kd} {ds : List PyData} (h : ds.length ≠ ks.length) : fitsD many ks ds = false := by
  cases e : fitsD many ks ds with
  | false => rfl
  | true => exact absurd (fitsD_len e) h
theorem fitsD_zip {many : Int} : ∀ {ks : List Kd} {ds : List PyData}, ds.length = ks.length → fitsD many ks ds = (List.zipWith (fitD many) ks ds).all id
  | [], [], _ => rfl
  | k :: ks, d :: ds, h => by
    rw [List.zipWith_cons_cons, List.all_cons, ← fitsD_zip (by simpa using h)]
    rfl
  | [], _ :: _, h => by simp at h
  | _ :: _, [], h => by simp at h
def partsD : List Kd → List PyData → List PyData
  | k :: ks, d :: ds => if k = .part then d :: partsD ks ds else partsD ks ds
  | _, _ => []
theorem partsD_len : ∀ (ks : List Kd) (ds : List PyData), (partsD ks ds).length ≤ ds.length
  | [], _ => Nat.zero_le _
  | _ :: _, [] => Nat.zero_le _
  | k :: ks, d :: ds => by
    have := partsD_len ks ds
    unfold partsD
    split <;> simp only [List.length_cons] <;> omega
theorem partsD_snoc : ∀ {ks : List Kd} {ds : List PyData} {i : Nat} {k : Kd} {d : PyData}, ks[i]? = some k → ds[i]? = some d → partsD (ks.take (i + 1)) (ds.take (i + 1)) = partsD (ks.take i) (ds.take i) ++ (if k = .part then [d] else [])
  | [], _, i, _, _, h, _ => by simp at h
  | _ :: _, [], i, _, _, _, h => by simp at h
  | k0 :: ks, d0 :: ds, 0, k, d, h, h2 => by
    have e1 : k0 = k := Option.some.inj h
    have e2 : d0 = d := Option.some.inj h2
    subst e1 e2
    simp [partsD]
  | k0 :: ks, d0 :: ds, i + 1, k, d, h, h2 => by
    have ih := partsD_snoc (ks := ks) (ds := ds) (i := i) h h2
    rw [List.take_succ_cons, List.take_succ_cons, List.take_succ_cons, List.take_succ_cons]
    unfold partsD
    split
    · rw [ih, List.cons_append]
    · exact ih
/-! ### how many parts, deeds -/
def addE : Nat → List Nat → Nat
  | t, [] => t
  | t, i :: r => if i = 0 then 0 else addE (t + i) r
def cntE (many : Int) : Nat → PyData → Nat
  | 0, _ => 0
  | k + 1, d => match d with
    | .tuple (.str x :: ds) => match weOf x with
      | some w => if fitsD many (wsh w) ds = true then addE 1 ((partsD (wsh w) ds).map (cntE many k)) else 0
      | none => 0
    | _ => 0
theorem cntE_eq (many : Int) (k : Nat) (w : We) (ds : List PyData) : cntE many (k + 1) (.tuple (.str (wen w) :: ds)) = if fitsD many (wsh w) ds = true then addE 1 ((partsD (wsh w) ds).map (cntE many k)) else 0 := by
  unfold cntE
  simp only [weOf_wen]
def wdE (many : Int) : Nat → PyData → Prop
  | 0, d => ∃ w ds, d = .tuple (.str (wen w) :: ds)
  | k + 1, d => ∃ w ds, d = .tuple (.str (wen w) :: ds) ∧ (fitsD many (wsh w) ds = true → ∀ x ∈ partsD (wsh w) ds, wdE many k x)
def isEx (many : Int) (d : PyData) : Bool := decide (1 ≤ cntE many 8 d) && decide (cntE many 8 d ≤ 40)
def exD : Nat → PyData → Ex
  | 0, _ => .fig 0
  | k + 1, d => match d with
    | .tuple (.str x :: ds) => match weOf x, ds with
      | some .fig, [.int c] => .fig c
      | some .reg, [.int i] => .reg i.toNat
      | some .share, [.int j] => .share j.toNat
      | some (.two w), [a, b] => .two w (exD k a) (exD k b)
      | some .times, [.int f, a] => .times f (exD k a)
      | some .by, [.int i, a] => .by i.toNat (exD k a)
      | some .when, [.int i, .int c, a, b] => .when i.toNat c (exD k a) (exD k b)
      | some .whr, [.int i, .int c, a, b] => .whr i.toNat c (exD k a) (exD k b)
      | _, _ => .fig 0
    | _ => .fig 0
def stakeD (many : Int) (sc : Nat) (d : PyData) : Bool := isEx many d && (decide (-(500 * pw2 sc) ≤ (spn (exD 8 d)).1) && decide ((spn (exD 8 d)).2 ≤ 500 * pw2 sc))
def addB : Nat → List (Option Nat) → Option Nat
  | t, [] => some t
  | _, none :: _ => none
  | t, some i :: r => addB (t + i) r
def sumB : Nat → List (Option Nat) → Option Nat
  | t, [] => some t
  | _, none :: _ => none
  | t, some i :: r => if 20 < t + i then none else sumB (t + i) r
def deedD (many : Int) (f : PyData → Option Nat) : PyData → Option Nat
  | .tuple (.str x :: ds) => match wbOf x with
    | some w => if fitsD many (wbsh w) ds = true then addB 1 ((ds.drop 2).map f) else none
    | none => none
  | _ => none
theorem deedD_eq (many : Int) (f : PyData → Option Nat) (w : Wb) (ds : List PyData) : deedD many f (.tuple (.str (wbn w) :: ds)) = if fitsD many (wbsh w) ds = true then addB 1 ((ds.drop 2).map f) else none := by
  unfold deedD
  simp only [wbOf_wbn]
def cntB (many : Int) : Nat → PyData → Option Nat
  | 0, d => match d with
    | .tuple [] => some 0
    | _ => none
  | k + 1, d => match d with
    | .tuple ds => sumB 0 (ds.map (deedD many (cntB many k)))
    | _ => none
def wdB (many : Int) : Nat → PyData → Prop
  | 0, _ => True
  | k + 1, d => ∀ ds, d = .tuple ds → ∀ x ∈ ds, ∃ w es, x = .tuple (.str (wbn w) :: es) ∧ (fitsD many (wbsh w) es = true → ∀ y ∈ es.drop 2, wdB many k y)
def optV : Option Nat → V
  | none => .non
  | some n => .int (n : Int)
def nameD (z : Str) : Bool := (decide (1 ≤ z.length) && decide (z.length ≤ 8)) && (z.cps.toList.all fun c => decide (c ∈ ("abcdefghijklmnopqrstuvwxyz" : Str).cps.toList))
def regsD (ds : List PyData) : Bool := decide (ds.length = 4) && ds.all (inD (-1000) 1000)
def dbtD (many : Nat) (nm : Str) (sc : Int) (rg st bh : List PyData) : Bool :=
  if (nameD nm && (decide (0 ≤ sc) && decide (sc ≤ 4)) && regsD rg) = true then (decide (st.length = many) && st.all (stakeD many sc.toNat)) && (decide (bh.length = many) && bh.all fun d => (cntB many 4 d).isSome) else false
/-! ### the tables -/
def TabE (K : PySem.W.Frag) (w : World) (a : Addr) : Prop := (a == sysModules) = false ∧ ∀ x : We, ∃ q, KDct K w a (wen x) (.ref q) ∧ ∀ H, SqT K H q ((wsh x).map fun k => V.str (kdn k))
def TabB (K : PySem.W.Frag) (w : World) (a : Addr) : Prop := (a == sysModules) = false ∧ ∀ x : Wb, ∃ q, KDct K w a (wbn x) (.ref q) ∧ ∀ H, SqT K H q ((wbsh x).map fun k => V.str (kdn k))
def TabN (K : PySem.W.Frag) (w : World) (a : Addr) : Prop := ∀ k : Kd, k ≠ .part → k ≠ .sign → ∃ q, KDct K w a (kdn k) (.ref q) ∧ ∀ H, SqT K H q [.int (bndE k).1, .int (bndE k).2]
theorem TabE.of {K : PySem.W.Frag} {w : World} {a : Addr} (h : Shapes K w a) (l : (a == sysModules) = false) : TabE K w a := ⟨l, fun x => by
  cases x with
  | fig => exact h (.fig 0)
  | reg => exact h (.reg 0)
  | share => exact h (.share 0)
  | two o => exact h (.two o (.fig 0) (.fig 0))
  | times => exact h (.times 0 (.fig 0))
  | «by» => exact h (.by 0 (.fig 0))
  | when => exact h (.when 0 0 (.fig 0) (.fig 0))
  | whr => exact h (.whr 0 0 (.fig 0) (.fig 0))⟩
/-! ### data of expressions -/
theorem ExAt.of {K : PySem.W.Frag} {H : Hp} : ∀ {e : Ex} {v : V}, Dp K H v (toD e) → ExAt K H e v := by
  intro e
  induction e with
  | fig c => intro v h; unfold toD at h; cases h with | tup q a => cases a with | cons a b => cases a; cases b with | cons a b => cases a; cases b; exact ⟨_, rfl, q⟩
  | reg c => intro v h; unfold toD at h; cases h with | tup q a => cases a with | cons a b => cases a; cases b with | cons a b => cases a; cases b; exact ⟨_, rfl, q⟩
  | share c => intro v h; unfold toD at h; cases h with | tup q a => cases a with | cons a b => cases a; cases b with | cons a b => cases a; cases b; exact ⟨_, rfl, q⟩
  | two w x y ihx ihy => intro v h; unfold toD at h; cases h with | tup q a => cases a with | cons a b => cases a; cases b with | cons a b => cases b with | cons c b => cases b; exact ⟨_, _, _, rfl, q, ihx a, ihy c⟩
  | times f x ih => intro v h; unfold toD at h; cases h with | tup q a => cases a with | cons a b => cases a; cases b with | cons a b => cases a; cases b with | cons c b => cases b; exact ⟨_, _, rfl, q, ih c⟩
  | «by» f x ih => intro v h; unfold toD at h; cases h with | tup q a => cases a with | cons a b => cases a; cases b with | cons a b => cases a; cases b with | cons c b => cases b; exact ⟨_, _, rfl, q, ih c⟩
  | when i c x y ihx ihy => intro v h; unfold toD at h; cases h with | tup q a => cases a with | cons a b => cases a; cases b with | cons a b => cases a; cases b with | cons a b => cases a; cases b with | cons d b => cases b with | cons e b => cases b; exact ⟨_, _, _, rfl, q, ihx d, ihy e⟩
  | whr i c x y ihx ihy => intro v h; unfold toD at h; cases h with | tup q a => cases a with | cons a b => cases a; cases b with | cons a b => cases a; cases b with | cons a b => cases a; cases b with | cons d b => cases b with | cons e b => cases b; exact ⟨_, _, _, rfl, q, ihx d, ihy e⟩
theorem inD_int {lo hi : Int} {d : PyData} (h : inD lo hi d = true) : ∃ i, d = .int i ∧ lo ≤ i ∧ i ≤ hi := by
  cases d with
  | int i =>
    unfold inD at h
    rw [Bool.and_eq_true, decide_eq_true_eq, decide_eq_true_eq] at h
    exact ⟨i, rfl, h.1, h.2⟩
  | _ => cases h
theorem addE_pos : ∀ {l : List Nat} {t : Nat}, 0 < addE t l → ∀ i ∈ l, 0 < i
  | [], _, _, i, h => by cases h
  | j :: r, t, h, i, hi => by
    unfold addE at h
    split at h
    · omega
    · rcases List.mem_cons.mp hi with rfl | hi
      · omega
      · exact addE_pos h i hi
theorem exD_of {many : Nat} : ∀ {k : Nat} {d : PyData}, 0 < cntE many k d → toD (exD k d) = d ∧ ExOk many (exD k d) ∧ (exD k d).dep ≤ k
  | 0, _, h => by exact absurd h (by unfold cntE; omega)
  | k + 1, d, h => by
    match d, h with
    | .tuple (.str x :: ds), h =>
      unfold cntE at h
      simp only at h
      cases hw : weOf x with
      | none => rw [hw] at h; simp at h
      | some w =>
        rw [hw] at h
        simp only at h
        by_cases hf : fitsD many (wsh w) ds = true
        · rw [if_pos hf] at h
          have hp := addE_pos h
          have hx : x = wen w := by
            unfold weOf at hw
            repeat' split at hw
            all_goals first | (cases hw; assumption) | cases hw
          subst hx
          have ih : ∀ {y : PyData}, y ∈ partsD (wsh w) ds → toD (exD k y) = y ∧ ExOk many (exD k y) ∧ (exD k y).dep ≤ k := fun hy => exD_of (hp _ (List.mem_map.mpr ⟨_, hy, rfl⟩))
          have hl := fitsD_len hf
          unfold exD
          simp only [weOf_wen]
          cases w with
          | fig =>
            match ds, hl with
            | [a], _ =>
              simp only [wsh, fitsD, fitD, Bool.and_true] at hf
              obtain ⟨i, rfl, h1, h2⟩ := inD_int hf
              exact ⟨rfl, ⟨h1, h2⟩, by show 1 ≤ k + 1; omega⟩
          | reg =>
            match ds, hl with
            | [a], _ =>
              simp only [wsh, fitsD, fitD, Bool.and_true] at hf
              obtain ⟨i, rfl, h1, h2⟩ := inD_int hf
              exact ⟨by show PyData.tuple [.str "reg", .int ((i.toNat : Nat) : Int)] = _; rw [Int.toNat_of_nonneg h1]; rfl, by show i.toNat < 4; omega, by show 1 ≤ k + 1; omega⟩
          | share =>
            match ds, hl with
            | [a], _ =>
              simp only [wsh, fitsD, fitD, Bool.and_true] at hf
              obtain ⟨i, rfl, h1, h2⟩ := inD_int hf
              exact ⟨by show PyData.tuple [.str "share", .int ((i.toNat : Nat) : Int)] = _; rw [Int.toNat_of_nonneg h1]; rfl, by show i.toNat < many; omega, by show 1 ≤ k + 1; omega⟩
          | two o =>
            match ds, hl with
            | [a, b], _ =>
              have ha := ih (y := a) (by simp [wsh, partsD])
              have hb := ih (y := b) (by simp [wsh, partsD])
              exact ⟨by show PyData.tuple [.str (wn o), toD (exD k a), toD (exD k b)] = _; rw [ha.1, hb.1]; rfl, ⟨ha.2.1, hb.2.1⟩, by show max (exD k a).dep (exD k b).dep + 1 ≤ k + 1; omega⟩
          | times =>
            match ds, hl with
            | [a, b], _ =>
              have hb := ih (y := b) (by simp [wsh, partsD])
              simp only [wsh, fitsD, fitD, Bool.and_true] at hf
              obtain ⟨i, rfl, h1, h2⟩ := inD_int hf
              exact ⟨by show PyData.tuple [.str "times", .int i, toD (exD k b)] = _; rw [hb.1]; rfl, ⟨⟨h1, h2⟩, hb.2.1⟩, by show (exD k b).dep + 1 ≤ k + 1; omega⟩
          | «by» =>
            match ds, hl with
            | [a, b], _ =>
              have hb := ih (y := b) (by simp [wsh, partsD])
              simp only [wsh, fitsD, fitD, Bool.and_true] at hf
              obtain ⟨i, rfl, h1, h2⟩ := inD_int hf
              exact ⟨by show PyData.tuple [.str "by", .int ((i.toNat : Nat) : Int), toD (exD k b)] = _; rw [hb.1, Int.toNat_of_nonneg h1]; rfl, ⟨by show i.toNat < 4; omega, hb.2.1⟩, by show (exD k b).dep + 1 ≤ k + 1; omega⟩
          | when =>
            match ds, hl with
            | [a, b, c, e], _ =>
              have hc := ih (y := c) (by simp [wsh, partsD])
              have he := ih (y := e) (by simp [wsh, partsD])
              simp only [wsh, fitsD, fitD, Bool.and_true, Bool.and_eq_true] at hf
              obtain ⟨i, rfl, h1, h2⟩ := inD_int hf.1
              obtain ⟨j, rfl, h3, h4⟩ := inD_int hf.2
              exact ⟨by show PyData.tuple [.str "when", .int ((i.toNat : Nat) : Int), .int j, toD (exD k c), toD (exD k e)] = _; rw [hc.1, he.1, Int.toNat_of_nonneg h1]; rfl, ⟨by show i.toNat < 4; omega, ⟨h3, h4⟩, hc.2.1, he.2.1⟩, by show max (exD k c).dep (exD k e).dep + 1 ≤ k + 1; omega⟩
          | whr =>
            match ds, hl with
            | [a, b, c, e], _ =>
              have hc := ih (y := c) (by simp [wsh, partsD])
              have he := ih (y := e) (by simp [wsh, partsD])
              simp only [wsh, fitsD, fitD, Bool.and_true, Bool.and_eq_true] at hf
              obtain ⟨i, rfl, h1, h2⟩ := inD_int hf.1
              obtain ⟨j, rfl, h3, h4⟩ := inD_int hf.2
              exact ⟨by show PyData.tuple [.str "where", .int ((i.toNat : Nat) : Int), .int j, toD (exD k c), toD (exD k e)] = _; rw [hc.1, he.1, Int.toNat_of_nonneg h1]; rfl, ⟨by show i.toNat < many; omega, ⟨h3, h4⟩, hc.2.1, he.2.1⟩, by show max (exD k c).dep (exD k e).dep + 1 ≤ k + 1; omega⟩
        · rw [if_neg hf] at h
          omega
    | .tuple [], h => simp [cntE] at h
    | .tuple (.none :: _), h => simp [cntE] at h
    | .tuple (.bool _ :: _), h => simp [cntE] at h
    | .tuple (.int _ :: _), h => simp [cntE] at h
    | .tuple (.list _ :: _), h => simp [cntE] at h
    | .tuple (.tuple _ :: _), h => simp [cntE] at h
    | .tuple (.dict _ :: _), h => simp [cntE] at h
    | .none, h => simp [cntE] at h
    | .bool _, h => simp [cntE] at h
    | .int _, h => simp [cntE] at h
    | .str _, h => simp [cntE] at h
    | .list _, h => simp [cntE] at h
    | .dict _, h => simp [cntE] at h
theorem dep_pos' : ∀ e : Ex, 1 ≤ e.dep
  | .fig _ => Nat.le_refl _
  | .reg _ => Nat.le_refl _
  | .share _ => Nat.le_refl _
  | .two _ a b => by show 1 ≤ max a.dep b.dep + 1; omega
  | .times _ a => by show 1 ≤ a.dep + 1; omega
  | .by _ a => by show 1 ≤ a.dep + 1; omega
  | .when _ _ a b => by show 1 ≤ max a.dep b.dep + 1; omega
  | .whr _ _ a b => by show 1 ≤ max a.dep b.dep + 1; omega
def Ex.size : Ex → Nat
  | .fig _ => 1
  | .reg _ => 1
  | .share _ => 1
  | .two _ a b => 1 + a.size + b.size
  | .times _ a => 1 + a.size
  | .by _ a => 1 + a.size
  | .when _ _ a b => 1 + a.size + b.size
  | .whr _ _ a b => 1 + a.size + b.size
theorem inD_of {lo hi i : Int} (h1 : lo ≤ i) (h2 : i ≤ hi) : inD lo hi (.int i) = true := by
  show (decide (lo ≤ i) && decide (i ≤ hi)) = true
  rw [decide_eq_true h1, decide_eq_true h2]
  rfl
theorem size_pos : ∀ e : Ex, 0 < e.size
  | .fig _ => Nat.one_pos
  | .reg _ => Nat.one_pos
  | .share _ => Nat.one_pos
  | .two _ a b => by show 0 < 1 + a.size + b.size; omega
  | .times _ a => by show 0 < 1 + a.size; omega
  | .by _ a => by show 0 < 1 + a.size; omega
  | .when _ _ a b => by show 0 < 1 + a.size + b.size; omega
  | .whr _ _ a b => by show 0 < 1 + a.size + b.size; omega
def weE : Ex → We
  | .fig _ => .fig
  | .reg _ => .reg
  | .share _ => .share
  | .two w _ _ => .two w
  | .times _ _ => .times
  | .by _ _ => .by
  | .when _ _ _ _ => .when
  | .whr _ _ _ _ => .whr
def itE : Ex → List PyData
  | .fig c => [.int c]
  | .reg i => [.int (i : Int)]
  | .share j => [.int (j : Int)]
  | .two _ a b => [toD a, toD b]
  | .times f a => [.int f, toD a]
  | .by i a => [.int (i : Int), toD a]
  | .when i c a b => [.int (i : Int), .int c, toD a, toD b]
  | .whr j c a b => [.int (j : Int), .int c, toD a, toD b]
theorem toD_eq : ∀ e : Ex, toD e = .tuple (.str (wen (weE e)) :: itE e)
  | .fig _ => rfl
  | .reg _ => rfl
  | .share _ => rfl
  | .two _ _ _ => rfl
  | .times _ _ => rfl
  | .by _ _ => rfl
  | .when _ _ _ _ => rfl
  | .whr _ _ _ _ => rfl
theorem itE_fits {many : Nat} : ∀ {e : Ex}, ExOk many e → fitsD many (wsh (weE e)) (itE e) = true
  | .fig c, h => by simp only [weE, wsh, itE, fitsD, fitD]; rw [inD_of h.1 h.2]; rfl
  | .reg i, h => by
    have h : i < 4 := h
    simp only [weE, wsh, itE, fitsD, fitD]; rw [inD_of (by omega) (by omega)]; rfl
  | .share j, h => by
    have h : j < many := h
    simp only [weE, wsh, itE, fitsD, fitD]; rw [inD_of (by omega) (by omega)]; rfl
  | .two w a b, h => rfl
  | .times f a, h => by simp only [weE, wsh, itE, fitsD, fitD]; rw [inD_of h.1.1 h.1.2]; rfl
  | .by i a, h => by
    have h1 : i < 4 := h.1
    simp only [weE, wsh, itE, fitsD, fitD]; rw [inD_of (by omega) (by omega)]; rfl
  | .when i c a b, h => by
    have h1 : i < 4 := h.1
    simp only [weE, wsh, itE, fitsD, fitD]; rw [inD_of (by omega) (by omega), inD_of h.2.1.1 h.2.1.2]; rfl
  | .whr j c a b, h => by
    have h1 : j < many := h.1
    simp only [weE, wsh, itE, fitsD, fitD]; rw [inD_of (by omega) (by omega), inD_of h.2.1.1 h.2.1.2]; rfl
theorem itE_parts : ∀ e : Ex, partsD (wsh (weE e)) (itE e) = e.kids.map toD
  | .fig _ => rfl
  | .reg _ => rfl
  | .share _ => rfl
  | .two _ _ _ => rfl
  | .times _ _ => rfl
  | .by _ _ => rfl
  | .when _ _ _ _ => rfl
  | .whr _ _ _ _ => rfl
theorem wdE_of {many : Nat} : ∀ {k : Nat} {e : Ex}, ExOk many e → wdE many k (toD e)
  | 0, e, _ => ⟨weE e, itE e, toD_eq e⟩
  | k + 1, e, h => ⟨weE e, itE e, toD_eq e, fun _ x hx => by
    rw [itE_parts] at hx
    obtain ⟨y, hy, rfl⟩ := List.mem_map.mp hx
    exact wdE_of (kids_ok e y h hy)⟩
theorem cntE_of {many : Nat} : ∀ {k : Nat} {e : Ex}, ExOk many e → e.dep ≤ k → cntE many k (toD e) = e.size
  | 0, e, _, h => absurd h (by have := dep_pos' e; omega)
  | k + 1, e, h, hd => by
    rw [toD_eq, cntE_eq, if_pos (itE_fits h), itE_parts, List.map_map]
    have ih : ∀ y ∈ e.kids, cntE many k (toD y) = y.size := fun y hy => cntE_of (kids_ok e y h hy) (by have := kids_dep e y hy; omega)
    rw [show e.kids.map (cntE many k ∘ toD) = e.kids.map Ex.size from List.map_congr_left ih]
    cases e with
    | fig => rfl
    | reg => rfl
    | share => rfl
    | two w a b =>
      have := size_pos a
      have := size_pos b
      show addE 1 [a.size, b.size] = 1 + a.size + b.size
      simp only [addE]
      rw [if_neg (by omega), if_neg (by omega)]
    | times f a =>
      have := size_pos a
      show addE 1 [a.size] = 1 + a.size
      simp only [addE]
      rw [if_neg (by omega)]
    | «by» f a =>
      have := size_pos a
      show addE 1 [a.size] = 1 + a.size
      simp only [addE]
      rw [if_neg (by omega)]
    | when i c a b =>
      have := size_pos a
      have := size_pos b
      show addE 1 [a.size, b.size] = 1 + a.size + b.size
      simp only [addE]
      rw [if_neg (by omega), if_neg (by omega)]
    | whr i c a b =>
      have := size_pos a
      have := size_pos b
      show addE 1 [a.size, b.size] = 1 + a.size + b.size
      simp only [addE]
      rw [if_neg (by omega), if_neg (by omega)]
theorem exD_toD : ∀ {k : Nat} {e : Ex}, e.dep ≤ k → exD k (toD e) = e
  | 0, e, h => absurd h (by have := dep_pos' e; omega)
  | k + 1, e, h => by
    rw [toD_eq]
    unfold exD
    simp only [weOf_wen]
    cases e with
    | fig c => rfl
    | reg i => rfl
    | share j => rfl
    | two w a b =>
      have h : max a.dep b.dep + 1 ≤ k + 1 := h
      show Ex.two w (exD k (toD a)) (exD k (toD b)) = _
      rw [exD_toD (e := a) (by omega), exD_toD (e := b) (by omega)]
    | times f a =>
      have h : a.dep + 1 ≤ k + 1 := h
      show Ex.times f (exD k (toD a)) = _
      rw [exD_toD (e := a) (by omega)]
    | «by» f a =>
      have h : a.dep + 1 ≤ k + 1 := h
      show Ex.by f (exD k (toD a)) = _
      rw [exD_toD (e := a) (by omega)]
    | when i c a b =>
      have h : max a.dep b.dep + 1 ≤ k + 1 := h
      show Ex.when i c (exD k (toD a)) (exD k (toD b)) = _
      rw [exD_toD (e := a) (by omega), exD_toD (e := b) (by omega)]
    | whr i c a b =>
      have h : max a.dep b.dep + 1 ≤ k + 1 := h
      show Ex.whr i c (exD k (toD a)) (exD k (toD b)) = _
      rw [exD_toD (e := a) (by omega), exD_toD (e := b) (by omega)]
/-- a stake that is one -/
theorem stakeD_of {many sc : Nat} {e : Ex} (h : ExOk many e) (hd : e.dep ≤ 8) : stakeD many sc (toD e) = (decide (e.size ≤ 40) && (decide (-(500 * pw2 sc) ≤ (spn e).1) && decide ((spn e).2 ≤ 500 * pw2 sc))) := by
  unfold stakeD isEx
  rw [cntE_of h hd, exD_toD hd, decide_eq_true (show 1 ≤ e.size from size_pos e), Bool.true_and]
end NG

namespace NG
open PySem PySem.Spec PyProof.Rows L2
/-! ### a def with defaults, called by fewer arguments -/
structure CalD (P : Program) (w : World) (K : PySem.W.Frag) (mg : Str → Option Value) (base : Heap) (k : Nat) (x : Str) (dvs : List V) (sp : Sp) : Prop where
  ex : ∃ (f : Addr) (fd : FuncData) (ps : List Str) (ds : List Value), FnOk P w K mg base CX0 k f fd ps sp ∧ mg x = some (.ref f) ∧ PySem.W.keepIn K (.ref f) = true ∧ Binds K fd ps ds ∧ Vals dvs ds
theorem pe_cd {X : Cx} {k j : Nat} {x : Str} {dvs : List V} {sp : Sp} {p pos : Pos} {e : Expr} {es : List Expr} {t : TA} (c : CalD X.prog X.w X.K X.mg X.base k x dvs sp) (hr : Room j X.A) (hk : k ≤ j) (hg : Gl X x) (ha : PA X (e :: es) t)
    (hdb : (x == ("__debug__" : Str)) = false := by decide) (he : starEach (e :: es) X.env = (false, eval e X.env) :: starEach es X.env := by rfl) (hpl : (backTo pos (starEach es X.env)).any (·.1) = false := by rfl) :
    PE X (.Call (.Name x p) (e :: es) [] pos) (tCall sp dvs E0 t) := by
  obtain ⟨f, fd, ps, ds, F, hm, kp, b, hd⟩ := c.ex
  exact pe_call F (hr.mono hk) hg hm kp b hd pass0 ha hdb he hpl
theorem fund_mk {K : PySem.W.Frag} {x qual : Str} {st : Stmt} {f dT : Addr} {oc : Value} {od odT : Option Addr} {kV doc pm : Value} {an : Option Addr} {cdv ct : Value} {osl slT : Array (Option Value)} {its : Array Value} {m : Nat} {dvs : List V}
    (l : K.lookup f = some ⟨oc, od, .func (PySem.W.fnOf x qual (defArgs st) (defBody st) (defScope st) (.ref dT) kV doc pm an cdv ct), osl⟩) (c : PySem.W.codeIn K cdv qual = true) (kp : PySem.W.keepIn K (.ref f) = true)
    (lt : K.lookup dT = some ⟨.type "tuple", odT, .seq its m, slT⟩) (hv : Vals dvs its.toList) (hn : dvs ≠ []) : FunD K x qual (defArgs st) (defBody st) (defScope st) dvs [] f (PySem.W.fnOf x qual (defArgs st) (defBody st) (defScope st) (.ref dT) kV doc pm an cdv ct) :=
  ⟨⟨oc, od, .ref dT, kV, doc, pm, an, cdv, ct, osl, rfl, l, c, .inr ⟨hn, dT, _, its.toList, m, rfl, lt, by simp, hv⟩, .inl rfl⟩, kp⟩
theorem fund_ok {P : Program} {w : World} {K : PySem.W.Frag} {mg : Str → Option Value} {base : Heap} {x qual : Str} {params : Arguments} {body : List Stmt} {scope : Scope} {dvs : List V} {kws : List (Str × V)} {f : Addr} {fd : FuncData} {N ps : List Str} {k : Nat} {sp : Sp} (F : FunD K x qual params body scope dvs kws f fd) (S : FnScope N ps scope) (len : ∀ vs H Q E, sp vs H Q E → vs.length = ps.length)
    (hbody : ∀ (cdv : Value) (A : Around) (outer : List Env) (s : Shared) (H : Hp) (vs : List V) (Q : VK) (E : XK), Room k (A.deeper (envOfC qual scope s.heap.objs.size f cdv)) → sp vs H Q E →
      ∃ t, PSs (cxOf CX0 P w K mg base N qual scope f cdv A outer s H E).nox body t ∧ t { nx := fun _ H' => Q .non H', rt := Q } (start N vs) H) : FnOk P w K mg base CX0 (k + 1) f fd ps sp :=
  F.ok S len fun cdv A outer s H vs Q E hr h => by
    obtain ⟨t, ht, hq⟩ := hbody cdv A outer s H vs Q E hr h
    exact ⟨t, ht.nox, hq⟩
theorem binds_full {K : PySem.W.Frag} {fd : FuncData} {ps : List Str} {dvs : List V} {n : Nat} (h : ∃ ds, Vals (List.drop n dvs) ds ∧ L2.Binds K fd ps ds) (hn : List.drop n dvs = []) : L2.Binds K fd ps [] := by
  obtain ⟨ds, hd, hb⟩ := h
  rw [hn] at hd
  cases hd
  exact hb
/-! ### expressions without where words -/
def noW : Ex → Prop
  | .fig _ => True
  | .reg _ => True
  | .share _ => True
  | .two _ a b => noW a ∧ noW b
  | .times _ a => noW a
  | .by _ a => noW a
  | .when _ _ a b => noW a ∧ noW b
  | .whr _ _ _ _ => False
theorem noW_kids : ∀ {e : Ex}, noW e → ∀ k ∈ e.kids, noW k
  | .fig _, _, k, hk => by cases hk
  | .reg _, _, k, hk => by cases hk
  | .share _, _, k, hk => by cases hk
  | .two _ a b, h, k, hk => by
    rcases List.mem_cons.mp hk with rfl | hk
    · exact h.1
    · rw [List.mem_singleton.mp hk]; exact h.2
  | .times _ a, h, k, hk => by rw [List.mem_singleton.mp hk]; exact h
  | .by _ a, h, k, hk => by rw [List.mem_singleton.mp hk]; exact h
  | .when _ _ a b, h, k, hk => by
    rcases List.mem_cons.mp hk with rfl | hk
    · exact h.1
    · rw [List.mem_singleton.mp hk]; exact h.2
  | .whr _ _ _ _, h, k, hk => h.elim
end NG

namespace NG
open PySem PySem.Spec PyProof.Rows L2
/-! ### doubters that are such -/
theorem sumB_cons {t i : Nat} {r : List (Option Nat)} (h : t + i ≤ 20) : sumB t (some i :: r) = sumB (t + i) r := by
  show (if 20 < t + i then none else sumB (t + i) r) = _
  rw [if_neg (by omega)]
theorem cntB_sum (many : Int) (k : Nat) (ds : List PyData) (h : ds = [] ∨ ∃ k', k = k' + 1) : cntB many k (.tuple ds) = sumB 0 (ds.map (deedD many (cntB many (k - 1)))) := by
  rcases h with rfl | ⟨k', rfl⟩
  · cases k <;> rfl
  · rfl
theorem op_fits {many : Nat} {o : D5} {i : Nat} {x : Int} (hi : i < 4) (hx : xok many o x) : fitsD many (wbsh (.op o)) [.int (i : Int), .int x] = true := by
  cases o with
  | put => simp only [wbsh, fitsD, fitD]; rw [inD_of (by omega) (by omega), inD_of hx.1 hx.2]; rfl
  | add => simp only [wbsh, fitsD, fitD]; rw [inD_of (by omega) (by omega), inD_of hx.1 hx.2]; rfl
  | copy => have h1 := hx.1; have h2 := hx.2; simp only [wbsh, fitsD, fitD]; rw [inD_of (by omega) (by omega), inD_of h1 (by omega)]; rfl
  | plus => have h1 := hx.1; have h2 := hx.2; simp only [wbsh, fitsD, fitD]; rw [inD_of (by omega) (by omega), inD_of h1 (by omega)]; rfl
  | told => have h1 := hx.1; have h2 := hx.2; simp only [wbsh, fitsD, fitD]; rw [inD_of (by omega) (by omega), inD_of h1 (by omega)]; rfl
theorem cntB_of {many : Nat} : ∀ {d : Ds} {k t : Nat}, DsOk many d → d.dep ≤ k → t + d.cnt ≤ 20 → sumB t ((dsD d).map (deedD many (cntB many (k - 1)))) = some (t + d.cnt)
  | .nil, k, t, _, _, _ => rfl
  | .op o i x r, k, t, ⟨h1, h2, h3⟩, hd, hc => by
    have hd : max 1 r.dep ≤ k := hd
    have hc : t + (1 + r.cnt) ≤ 20 := hc
    have e : deedD many (cntB many (k - 1)) (.tuple [.str (dn o), .int (i : Int), .int x]) = some 1 := by
      have := deedD_eq many (cntB many (k - 1)) (.op o) [.int (i : Int), .int x]
      rw [if_pos (op_fits h1 h2)] at this
      exact this
    show sumB t (deedD many (cntB many (k - 1)) (.tuple [.str (dn o), .int (i : Int), .int x]) :: (dsD r).map (deedD many (cntB many (k - 1)))) = some (t + (1 + r.cnt))
    rw [e, sumB_cons (by omega), cntB_of h3 (by omega) (by omega)]
    congr 1
    omega
  | .when i c a b r, k, t, ⟨h1, h2, h3, h4, h5⟩, hd, hc => by
    have hd : max (max a.dep b.dep + 1) r.dep ≤ k := hd
    have hc : t + (1 + (a.cnt + b.cnt) + r.cnt) ≤ 20 := hc
    have ca : cntB many (k - 1) (.tuple (dsD a)) = some a.cnt := by
      rw [cntB_sum many (k - 1) (dsD a) (by
        cases a with
        | nil => exact .inl rfl
        | op o i x r => have : max 1 r.dep ≤ k - 1 := by have h : (Ds.op o i x r).dep = max 1 r.dep := rfl; omega
                        exact .inr ⟨k - 2, by omega⟩
        | when i c a b r => have : max (max a.dep b.dep + 1) r.dep ≤ k - 1 := by have h : (Ds.when i c a b r).dep = max (max a.dep b.dep + 1) r.dep := rfl; omega
                            exact .inr ⟨k - 2, by omega⟩), cntB_of h3 (by omega) (by omega), Nat.zero_add]
    have cb : cntB many (k - 1) (.tuple (dsD b)) = some b.cnt := by
      rw [cntB_sum many (k - 1) (dsD b) (by
        cases b with
        | nil => exact .inl rfl
        | op o i x r => have : max 1 r.dep ≤ k - 1 := by have h : (Ds.op o i x r).dep = max 1 r.dep := rfl; omega
                        exact .inr ⟨k - 2, by omega⟩
        | when i c a b r => have : max (max a.dep b.dep + 1) r.dep ≤ k - 1 := by have h : (Ds.when i c a b r).dep = max (max a.dep b.dep + 1) r.dep := rfl; omega
                            exact .inr ⟨k - 2, by omega⟩), cntB_of h4 (by omega) (by omega), Nat.zero_add]
    have e : deedD many (cntB many (k - 1)) (.tuple [.str "when", .int (i : Int), .int c, .tuple (dsD a), .tuple (dsD b)]) = some (1 + a.cnt + b.cnt) := by
      have := deedD_eq many (cntB many (k - 1)) .when [.int (i : Int), .int c, .tuple (dsD a), .tuple (dsD b)]
      rw [if_pos (by simp only [wbsh, fitsD, fitD]; rw [inD_of (by omega) (by omega), inD_of h2.1 h2.2]; rfl)] at this
      refine this.trans ?_
      show addB 1 [cntB many (k - 1) (.tuple (dsD a)), cntB many (k - 1) (.tuple (dsD b))] = _
      rw [ca, cb]
      rfl
    show sumB t (deedD many (cntB many (k - 1)) (.tuple [.str "when", .int (i : Int), .int c, .tuple (dsD a), .tuple (dsD b)]) :: (dsD r).map (deedD many (cntB many (k - 1)))) = some (t + (1 + (a.cnt + b.cnt) + r.cnt))
    rw [e, sumB_cons (by omega), cntB_of h5 (by omega) (by omega)]
    congr 1
    omega
theorem wdB_of {many : Int} : ∀ {k : Nat} {d : Ds}, wdB many k (.tuple (dsD d))
  | 0, _ => trivial
  | k + 1, d => fun ds e x hx => by
    cases e
    have go : ∀ {d : Ds}, x ∈ dsD d → ∃ w es, x = .tuple (.str (wbn w) :: es) ∧ (fitsD many (wbsh w) es = true → ∀ y ∈ es.drop 2, wdB many k y) := by
      intro d
      induction d with
      | nil => intro hx; cases hx
      | op o i z r ih =>
        intro hx
        rcases List.mem_cons.mp hx with rfl | hx
        · exact ⟨.op o, _, rfl, fun _ y hy => by cases hy⟩
        · exact ih hx
      | when i c a b r iha ihb ih =>
        intro hx
        rcases List.mem_cons.mp hx with rfl | hx
        · refine ⟨.when, _, rfl, fun _ y hy => ?_⟩
          rcases List.mem_cons.mp hy with rfl | hy
          · exact wdB_of
          · rw [List.mem_singleton.mp hy]
            exact wdB_of
        · exact ih hx
    exact go hx
structure DbFit (many : Nat) (D : Dbt) : Prop where
  nm : nameD D.name = true
  sc : D.scale < 5
  rg : RegOk D.begins
  sl : D.stakes.length = many
  st : ∀ e ∈ D.stakes, ExOk many e ∧ e.dep ≤ 8 ∧ e.size ≤ 40 ∧ -(500 * pw2 D.scale) ≤ (spn e).1 ∧ (spn e).2 ≤ 500 * pw2 D.scale
  bl : D.behinds.length = many
  bh : ∀ d ∈ D.behinds, DsOk many d ∧ d.dep ≤ 4 ∧ d.cnt ≤ 20
theorem all_map_of {α β : Type} {f : α → β} {p : β → Bool} {l : List α} (h : ∀ x ∈ l, p (f x) = true) : (l.map f).all p = true := by
  rw [List.all_eq_true]
  intro y hy
  obtain ⟨x, hx, rfl⟩ := List.mem_map.mp hy
  exact h x hx
theorem dbtD_true {many : Nat} {D : Dbt} (h : DbFit many D) : dbtD many D.name (D.scale : Int) (D.begins.map PyData.int) (D.stakes.map toD) (D.behinds.map fun d => .tuple (dsD d)) = true := by
  unfold dbtD
  have h1 : regsD (D.begins.map PyData.int) = true := by
    unfold regsD
    rw [List.length_map, decide_eq_true h.rg.1, Bool.true_and]
    exact all_map_of fun x hx => inD_of (h.rg.2 x hx).1 (h.rg.2 x hx).2
  have hsc := h.sc
  rw [h.nm, decide_eq_true (show (0 : Int) ≤ (D.scale : Int) by omega), decide_eq_true (show (D.scale : Int) ≤ 4 by omega), h1]
  refine (if_pos rfl).trans ?_
  rw [List.length_map, List.length_map, decide_eq_true h.sl, decide_eq_true h.bl, Bool.true_and, Bool.true_and, Bool.and_eq_true]
  refine ⟨all_map_of fun e he => ?_, all_map_of fun d hd => ?_⟩
  · obtain ⟨a1, a2, a3, a4, a5⟩ := h.st e he
    rw [Int.toNat_natCast, stakeD_of a1 a2, decide_eq_true a3, decide_eq_true a4, decide_eq_true a5]
    rfl
  · obtain ⟨a1, a2, a3⟩ := h.bh d hd
    rw [cntB_sum many 4 (dsD d) (.inr ⟨3, rfl⟩), cntB_of (k := 4) (t := 0) a1 a2 (by omega)]
    rfl
/-! ### laid out -/
theorem laymap {α : Type} {f : α → PyData} : ∀ {l : List α}, (∀ x ∈ l, (f x).canLay0 = true) → PyData.canLayAll0 (l.map f) = true
  | [], _ => rfl
  | x :: r, h => by
    show ((f x).canLay0 && PyData.canLayAll0 (r.map f)) = true
    rw [h x (List.mem_cons_self ..), laymap fun y hy => h y (List.mem_cons_of_mem _ hy)]
    rfl
theorem depmap {α : Type} {f : α → PyData} {k : Nat} : ∀ {l : List α}, (∀ x ∈ l, (f x).depth ≤ k) → PyData.depthAll (l.map f) ≤ k
  | [], _ => Nat.zero_le _
  | x :: r, h => by
    have a := h x (List.mem_cons_self ..)
    have b := depmap (l := r) fun y hy => h y (List.mem_cons_of_mem _ hy)
    show max (f x).depth (PyData.depthAll (r.map f)) ≤ k
    omega
theorem layds : ∀ d : Ds, PyData.canLayAll0 (dsD d) = true
  | .nil => rfl
  | .op o i x r => by
    show (((PyData.canLay0 (.str (dn o))) && (true && (true && true))) && PyData.canLayAll0 (dsD r)) = true
    rw [layds r]
    cases o <;> decide +kernel
  | .when i c a b r => by
    show ((PyData.canLay0 (.str "when") && (true && (true && (PyData.canLayAll0 (dsD a) && (PyData.canLayAll0 (dsD b) && true))))) && PyData.canLayAll0 (dsD r)) = true
    rw [layds a, layds b, layds r]
    decide +kernel
theorem depds : ∀ d : Ds, PyData.depthAll (dsD d) ≤ 2 * d.dep
  | .nil => Nat.zero_le _
  | .op o i x r => by
    have := depds r
    show max (max 0 (max 0 (max 0 0)) + 1) (PyData.depthAll (dsD r)) ≤ 2 * max 1 r.dep
    omega
  | .when i c a b r => by
    have h1 := depds a
    have h2 := depds b
    have h3 := depds r
    show max (max 0 (max 0 (max 0 (max (PyData.depthAll (dsD a) + 1) (max (PyData.depthAll (dsD b) + 1) 0)))) + 1) (PyData.depthAll (dsD r)) ≤ 2 * max (max a.dep b.dep + 1) r.dep
    omega
theorem shaped_db {many : Nat} {D : Dbt} (hn : PyData.canLay0 (.str D.name) = true) (h : DbFit many D) : SeqAt.shaped (dbD D) = true := by
  have h2 : PyData.canLayAll0 (D.begins.map PyData.int) = true := laymap fun _ _ => rfl
  have h3 : PyData.canLayAll0 (D.stakes.map toD) = true := laymap fun e _ => lay_ex e
  have h4 : PyData.canLayAll0 (D.behinds.map fun d => .tuple (dsD d)) = true := laymap fun d _ => layds d
  have d2 : PyData.depthAll (D.begins.map PyData.int) ≤ 0 := depmap fun _ _ => Nat.le_refl _
  have d3 : PyData.depthAll (D.stakes.map toD) ≤ 8 := depmap fun e he => Nat.le_trans (depth_ex e) (h.st e he).2.1
  have d4 : PyData.depthAll (D.behinds.map fun d => .tuple (dsD d)) ≤ 9 := depmap fun d hd => by
    have a := depds d
    have b := (h.bh d hd).2.1
    show PyData.depthAll (dsD d) + 1 ≤ 9
    omega
  show ((PyData.canLay0 (.str D.name) && (true && (PyData.canLayAll0 (D.begins.map PyData.int) && (PyData.canLayAll0 (D.stakes.map toD) && (PyData.canLayAll0 (D.behinds.map fun d => .tuple (dsD d)) && true))))) && decide (max 0 (max 0 (max (PyData.depthAll (D.begins.map PyData.int) + 1) (max (PyData.depthAll (D.stakes.map toD) + 1) (max (PyData.depthAll (D.behinds.map fun d => .tuple (dsD d)) + 1) 0)))) + 1 ≤ 64)) = true
  rw [hn, h2, h3, h4, decide_eq_true (by omega)]
  rfl
/-! ### shares told, rows of ints shown -/
theorem shw_ints : ∀ {ns : List Int}, (∀ x ∈ ns, x.natAbs < 2 ^ 600) → ShwAll (ns.map PyData.int) (602 * ns.length) 0
  | [], _ => ShwAll.nil
  | n :: r, h => by
    have h1 := Shw.int (i := n) (h n (List.mem_cons_self ..))
    have h2 := shw_ints (ns := r) fun x hx => h x (List.mem_cons_of_mem _ hx)
    have h3 := ShwAll.cons h1 h2 (Nat.le_refl 0) (Nat.le_refl 0)
    refine ⟨h3.sh, h3.lf, Nat.le_trans h3.wt ?_, h3.dp⟩
    rw [List.length_cons]
    omega
end NG

namespace NG
open PySem PySem.Spec PyProof.Rows L2
/-! ### calls by keywords alone, in the parameters' own order -/
structure CalKO (P : Program) (w : World) (K : PySem.W.Frag) (mg : Str → Option Value) (base : Heap) (k : Nat) (x : Str) (ks : List Str) (sp : Sp) : Prop where
  ex : ∃ (f : Addr) (fd : FuncData), FnG P w K mg base k f fd ks sp ∧ mg x = some (.ref f) ∧ PySem.W.keepIn K (.ref f) = true ∧ ∀ (s : Shared) (ws : List Value), ws.length = ks.length → BindsTo s fd ⟨[], ks.zip ws⟩ (ks.zip ws)
section
variable {X : Cx} {k j : Nat} {x : Str} {ks : List Str} {sp : Sp} {p pos : Pos} {kws : List Keyword} {tk : TA}
theorem pe_kwO (c : CalKO X.prog X.w X.K X.mg X.base k x ks sp) (hgd : X.A.guards = some []) (hr : Room j X.A) (hk : k ≤ j) (hg : Gl X x) (hkw : PK X kws tk) (hall : (backToKw pos (keywordEach kws X.env)).all (·.1.isSome) = true := by rfl) (hks : (backToKw pos (keywordEach kws X.env)).filterMap (·.1) = ks := by rfl)
    (hdb : (x == ("__debug__" : Str)) = false := by decide) (hpl : ((backTo pos (starEach [] X.env)).any (·.1) || (backToKw pos (keywordEach kws X.env)).any (·.1.isNone)) = false := by rfl) :
    PE X (.Call (.Name x p) [] kws pos) (fun σ H Q => tk σ H fun zs H2 => zs.length = ks.length ∧ sp zs H2 Q E0) := by
  obtain ⟨f, fd, F, hm, kp, b⟩ := c.ex
  refine ⟨fun pins s σ H Q I h => wpAny_Call_Name_kw (ld_glob I hg hm ?_ hdb)⟩
  refine PySem.W.callWith_KW0 (h₀ := X.base) I.ok.mod.kin kp hall (thn (hkw.run pos pins s σ H _ I h) fun ws s2 ⟨zs, H2, I2, rz, hl, q⟩ => ⟨I2.kIn, ?_⟩) hpl
  rw [hks]
  refine wpAny_call (codeAny_mono (F.run X.A X.stack s2 H2 ⟨[], ks.zip ws⟩ ws zs Q hgd (hr.mono hk) I2.env0 (b s2 ws (by rw [← rz.length]; exact hl)) rz q) fun res s' hq => ?_)
  match res, hq with
  | .ok (.ret u), hq => exact I2.after hq
  | .ok .next, hq => exact False.elim hq
  | .ok .brk, hq => exact False.elim hq
  | .ok .cont, hq => exact False.elim hq
  | .error e, hq => exact False.elim hq
end
/-! ### too deep -/
theorem addE_zero : ∀ {l : List Nat} {t : Nat}, 0 ∈ l → addE t l = 0
  | [], _, h => by cases h
  | x :: l, t, h => by
    unfold addE
    by_cases c : x = 0
    · rw [if_pos c]
    · rw [if_neg c]
      refine addE_zero ?_
      rcases List.mem_cons.mp h with e | h
      · exact absurd e.symm c
      · exact h
theorem cnt_part {many : Int} {k : Nat} {w : We} {ds : List PyData} {x : PyData} (hx : x ∈ partsD (wsh w) ds) (h0 : cntE many k x = 0) : cntE many (k + 1) (.tuple (.str (wen w) :: ds)) = 0 := by
  rw [cntE_eq]
  split
  · exact addE_zero (List.mem_map.mpr ⟨x, hx, h0⟩)
  · rfl
theorem cnt_deep {many : Nat} : ∀ {k : Nat} {e : Ex}, ExOk many e → k < e.dep → cntE many k (toD e) = 0
  | 0, e, _, _ => by unfold cntE; rfl
  | k + 1, e, h, hd => by
    have key : ∃ y ∈ e.kids, k < y.dep := by
      cases e with
      | fig => exact absurd hd (by show ¬ (k + 1 < 1); omega)
      | reg => exact absurd hd (by show ¬ (k + 1 < 1); omega)
      | share => exact absurd hd (by show ¬ (k + 1 < 1); omega)
      | two w a b =>
        have hd : k + 1 < max a.dep b.dep + 1 := hd
        by_cases c : k < a.dep
        · exact ⟨a, by simp [Ex.kids], c⟩
        · exact ⟨b, by simp [Ex.kids], by omega⟩
      | times f a =>
        have hd : k + 1 < a.dep + 1 := hd
        exact ⟨a, by simp [Ex.kids], by omega⟩
      | «by» f a =>
        have hd : k + 1 < a.dep + 1 := hd
        exact ⟨a, by simp [Ex.kids], by omega⟩
      | when i c a b =>
        have hd : k + 1 < max a.dep b.dep + 1 := hd
        by_cases c : k < a.dep
        · exact ⟨a, by simp [Ex.kids], c⟩
        · exact ⟨b, by simp [Ex.kids], by omega⟩
      | whr i c a b =>
        have hd : k + 1 < max a.dep b.dep + 1 := hd
        by_cases c : k < a.dep
        · exact ⟨a, by simp [Ex.kids], c⟩
        · exact ⟨b, by simp [Ex.kids], by omega⟩
    obtain ⟨y, hy, hk⟩ := key
    rw [toD_eq]
    exact cnt_part (x := toD y) (by rw [itE_parts]; exact List.mem_map.mpr ⟨y, hy, rfl⟩) (cnt_deep (kids_ok e y h hy) hk)
/-! ### one thing sunk a level deeper -/
inductive Snk (many : Nat) (d : PyData) : PyData → Prop
  | times (i : Nat) (h : i < many) : Snk many d (.tuple [.str "times", .int (-(i : Int)), d])
  | «by» (i : Nat) (h : i < many) : Snk many d (.tuple [.str "by", .int (i : Int), d])
  | two1 (w : W4) (l : Ex) (h : ExOk many l) (hl : l.dep ≤ 1) : Snk many d (.tuple [.str (wn w), toD l, d])
  | two2 (w : W4) (l : Ex) (h : ExOk many l) (hl : l.dep ≤ 1) : Snk many d (.tuple [.str (wn w), d, toD l])
  | when (i : Nat) (c : Int) (l : Ex) (hi : i < many) (h1 : -1000 ≤ c) (h2 : c ≤ 1000) (h : ExOk many l) (hl : l.dep ≤ 1) : Snk many d (.tuple [.str "when", .int (i : Int), .int c, toD l, d])
  | whr (i : Nat) (c : Int) (l : Ex) (hi : i < many) (h1 : 1 ≤ c) (h2 : c ≤ 1000) (h : ExOk many l) (hl : l.dep ≤ 1) : Snk many d (.tuple [.str "where", .int (i : Int), .int c, d, toD l])
theorem leaf_size {l : Ex} (h : l.dep ≤ 1) : l.size = 1 ∧ l.dep = 1 := by
  cases l with
  | fig => exact ⟨rfl, rfl⟩
  | reg => exact ⟨rfl, rfl⟩
  | share => exact ⟨rfl, rfl⟩
  | two w a b => exact absurd h (by have := dep_pos' a; show ¬ (max a.dep b.dep + 1 ≤ 1); omega)
  | times f a => exact absurd h (by have := dep_pos' a; show ¬ (a.dep + 1 ≤ 1); omega)
  | «by» f a => exact absurd h (by have := dep_pos' a; show ¬ (a.dep + 1 ≤ 1); omega)
  | when i c a b => exact absurd h (by have := dep_pos' a; show ¬ (max a.dep b.dep + 1 ≤ 1); omega)
  | whr i c a b => exact absurd h (by have := dep_pos' a; show ¬ (max a.dep b.dep + 1 ≤ 1); omega)
theorem snk_good {many : Nat} {e : Ex} {d2 : PyData} (hm : many ≤ 3) (h : Snk many (toD e) d2) (ho : ExOk many e) : ∃ e2, d2 = toD e2 ∧ ExOk many e2 ∧ e2.dep = e.dep + 1 ∧ e2.size ≤ e.size + 2 := by
  have hp := dep_pos' e
  cases h with
  | times i h => exact ⟨.times (-(i : Int)) e, rfl, ⟨⟨by omega, by omega⟩, ho⟩, rfl, by show 1 + e.size ≤ _; omega⟩
  | «by» i h => exact ⟨.by i e, rfl, ⟨by omega, ho⟩, rfl, by show 1 + e.size ≤ _; omega⟩
  | two1 w l h hl =>
    obtain ⟨a1, a2⟩ := leaf_size hl
    exact ⟨.two w l e, rfl, ⟨h, ho⟩, by show max l.dep e.dep + 1 = _; omega, by show 1 + l.size + e.size ≤ _; omega⟩
  | two2 w l h hl =>
    obtain ⟨a1, a2⟩ := leaf_size hl
    exact ⟨.two w e l, rfl, ⟨ho, h⟩, by show max e.dep l.dep + 1 = _; omega, by show 1 + e.size + l.size ≤ _; omega⟩
  | when i c l hi h1 h2 h hl =>
    obtain ⟨a1, a2⟩ := leaf_size hl
    exact ⟨.when i c l e, rfl, ⟨by omega, ⟨h1, h2⟩, h, ho⟩, by show max l.dep e.dep + 1 = _; omega, by show 1 + l.size + e.size ≤ _; omega⟩
  | whr i c l hi h1 h2 h hl =>
    obtain ⟨a1, a2⟩ := leaf_size hl
    exact ⟨.whr i c e l, rfl, ⟨hi, ⟨h1, h2⟩, ho, h⟩, by show max e.dep l.dep + 1 = _; omega, by show 1 + e.size + l.size ≤ _; omega⟩
theorem snk_word {many : Nat} {d d2 : PyData} (h : Snk many d d2) : ∃ (w : We) (ds : List PyData), d2 = .tuple (.str (wen w) :: ds) ∧ d ∈ partsD (wsh w) ds ∧ ∀ x ∈ partsD (wsh w) ds, x = d ∨ ∃ l, x = toD l ∧ ExOk many l := by
  cases h with
  | times i h => exact ⟨.times, _, rfl, List.mem_cons_self .., fun x hx => .inl (List.mem_singleton.mp hx)⟩
  | «by» i h => exact ⟨.by, _, rfl, List.mem_cons_self .., fun x hx => .inl (List.mem_singleton.mp hx)⟩
  | two1 w l h hl =>
    refine ⟨.two w, [toD l, d], rfl, by cases w <;> exact List.mem_cons_of_mem _ (List.mem_cons_self ..), fun x hx => ?_⟩
    have hx : x ∈ [toD l, d] := by cases w <;> exact hx
    rcases List.mem_cons.mp hx with e | hx
    · exact .inr ⟨l, e, h⟩
    · exact .inl (List.mem_singleton.mp hx)
  | two2 w l h hl =>
    refine ⟨.two w, [d, toD l], rfl, by cases w <;> exact List.mem_cons_self .., fun x hx => ?_⟩
    have hx : x ∈ [d, toD l] := by cases w <;> exact hx
    rcases List.mem_cons.mp hx with e | hx
    · exact .inl e
    · exact .inr ⟨l, List.mem_singleton.mp hx, h⟩
  | when i c l hi h1 h2 h hl =>
    refine ⟨.when, [.int (i : Int), .int c, toD l, d], rfl, List.mem_cons_of_mem _ (List.mem_cons_self ..), fun x hx => ?_⟩
    have hx : x ∈ [toD l, d] := hx
    rcases List.mem_cons.mp hx with e | hx
    · exact .inr ⟨l, e, h⟩
    · exact .inl (List.mem_singleton.mp hx)
  | whr i c l hi h1 h2 h hl =>
    refine ⟨.whr, [.int (i : Int), .int c, d, toD l], rfl, List.mem_cons_self .., fun x hx => ?_⟩
    have hx : x ∈ [d, toD l] := hx
    rcases List.mem_cons.mp hx with e | hx
    · exact .inl e
    · exact .inr ⟨l, List.mem_singleton.mp hx, h⟩
theorem snk_bad {many : Nat} {d d2 : PyData} (h : Snk many d d2) (hb : ∀ k, cntE many k d = 0) : ∀ k, cntE many k d2 = 0 := by
  obtain ⟨w, ds, rfl, hd, _⟩ := snk_word h
  intro k
  cases k with
  | zero => unfold cntE; rfl
  | succ k => exact cnt_part hd (hb k)
theorem snk_wd {many : Nat} {d d2 : PyData} (h : Snk many d d2) (hw : ∀ k, wdE many k d) : ∀ k, wdE many k d2 := by
  obtain ⟨w, ds, rfl, _, hx⟩ := snk_word h
  intro k
  cases k with
  | zero => exact ⟨w, ds, rfl⟩
  | succ k =>
    refine ⟨w, ds, rfl, fun _ x hxm => ?_⟩
    rcases hx x hxm with e | ⟨l, e, ho⟩
    · rw [e]; exact hw k
    · rw [e]; exact wdE_of ho
/-- sunk so many times -/
inductive Snks (many : Nat) (d : PyData) : Nat → PyData → Prop
  | nil : Snks many d 0 d
  | step {n : Nat} {d1 d2 : PyData} (h : Snks many d n d1) (s : Snk many d1 d2) : Snks many d (n + 1) d2
theorem snks_good {many : Nat} {e : Ex} {n : Nat} {d2 : PyData} (hm : many ≤ 3) (h : Snks many (toD e) n d2) (ho : ExOk many e) : ∃ e2, d2 = toD e2 ∧ ExOk many e2 ∧ e2.dep = e.dep + n ∧ e2.size ≤ e.size + 2 * n := by
  induction h with
  | nil => exact ⟨e, rfl, ho, rfl, by omega⟩
  | step h s ih =>
    obtain ⟨e1, rfl, o1, p1, q1⟩ := ih
    obtain ⟨e2, rfl, o2, p2, q2⟩ := snk_good hm s o1
    exact ⟨e2, rfl, o2, by omega, by omega⟩
theorem snks_bad {many : Nat} {d : PyData} {n : Nat} {d2 : PyData} (h : Snks many d n d2) (hb : ∀ k, cntE many k d = 0) : ∀ k, cntE many k d2 = 0 := by
  induction h with
  | nil => exact hb
  | step h s ih => exact snk_bad s ih
theorem snks_wd {many : Nat} {d : PyData} {n : Nat} {d2 : PyData} (h : Snks many d n d2) (hw : ∀ k, wdE many k d) : ∀ k, wdE many k d2 := by
  induction h with
  | nil => exact hw
  | step h s ih => exact snk_wd s ih
/-! ### things of tuples alone -/
mutual
def tpo : PyData → Bool
  | .tuple ds => tpoAll ds
  | .int _ => true
  | .str _ => true
  | _ => false
def tpoAll : List PyData → Bool
  | [] => true
  | d :: ds => tpo d && tpoAll ds
end
mutual
theorem dp_imp {K : PySem.W.Frag} {H H' : Hp} (h : ∀ p xs, SqT K H p xs → SqT K H' p xs) : ∀ {d : PyData} {v : V}, tpo d = true → Dp K H v d → Dp K H' v d
  | .int _, _, _, x => by cases x; exact .int _
  | .str _, _, _, x => by cases x; exact .str _
  | .tuple ds, _, ht, x => by
    cases x with
    | tup q hA => exact .tup (h _ _ q) (dpall_imp h (by unfold tpo at ht; exact ht) hA)
  | .none, _, ht, _ => by unfold tpo at ht; cases ht
  | .bool _, _, ht, _ => by unfold tpo at ht; cases ht
  | .list _, _, ht, _ => by unfold tpo at ht; cases ht
  | .dict _, _, ht, _ => by unfold tpo at ht; cases ht
theorem dpall_imp {K : PySem.W.Frag} {H H' : Hp} (h : ∀ p xs, SqT K H p xs → SqT K H' p xs) : ∀ {ds : List PyData} {vs : List V}, tpoAll ds = true → DpAll K H vs ds → DpAll K H' vs ds
  | [], _, _, x => by cases x; exact .nil
  | d :: ds, _, ht, x => by
    unfold tpoAll at ht
    rw [Bool.and_eq_true] at ht
    cases x with
    | cons h1 h2 => exact .cons (dp_imp h ht.1 h1) (dpall_imp h ht.2 h2)
end
theorem dp_but {K : PySem.W.Frag} {H H' : Hp} {a : Addr} {n : Nat} (b : But a H H') (hh : HandAt H a n) {d : PyData} {v : V} (t : tpo d = true) (x : Dp K H v d) : Dp K H' v d := dp_imp (fun _ _ q => b.sq hh q) t x
theorem tpo_ex : ∀ e : Ex, tpo (toD e) = true
  | .fig _ => rfl
  | .reg _ => rfl
  | .share _ => rfl
  | .two w a b => by show (true && (tpo (toD a) && (tpo (toD b) && true))) = true; rw [tpo_ex a, tpo_ex b]; rfl
  | .times f a => by show (true && (true && (tpo (toD a) && true))) = true; rw [tpo_ex a]; rfl
  | .by i a => by show (true && (true && (tpo (toD a) && true))) = true; rw [tpo_ex a]; rfl
  | .when i c a b => by show (true && (true && (true && (tpo (toD a) && (tpo (toD b) && true))))) = true; rw [tpo_ex a, tpo_ex b]; rfl
  | .whr i c a b => by show (true && (true && (true && (tpo (toD a) && (tpo (toD b) && true))))) = true; rw [tpo_ex a, tpo_ex b]; rfl
theorem snk_tpo {many : Nat} {d d2 : PyData} (h : Snk many d d2) (t : tpo d = true) : tpo d2 = true := by
  cases h with
  | times i h => show (true && (true && (tpo d && true))) = true; rw [t]; rfl
  | «by» i h => show (true && (true && (tpo d && true))) = true; rw [t]; rfl
  | two1 w l h hl => show (true && (tpo (toD l) && (tpo d && true))) = true; rw [t, tpo_ex l]; rfl
  | two2 w l h hl => show (true && (tpo d && (tpo (toD l) && true))) = true; rw [t, tpo_ex l]; rfl
  | when i c l hi h1 h2 h hl => show (true && (true && (true && (tpo (toD l) && (tpo d && true))))) = true; rw [t, tpo_ex l]; rfl
  | whr i c l hi h1 h2 h hl => show (true && (true && (true && (tpo d && (tpo (toD l) && true))))) = true; rw [t, tpo_ex l]; rfl
theorem snks_tpo {many : Nat} {d : PyData} {n : Nat} {d2 : PyData} (h : Snks many d n d2) (t : tpo d = true) : tpo d2 = true := by
  induction h with
  | nil => exact t
  | step h s ih => exact snk_tpo s ih
/-! ### what is_expression says of them -/
theorem isEx_of {many : Nat} {e : Ex} (h : ExOk many e) : isEx many (toD e) = decide (e.dep ≤ 8 ∧ e.size ≤ 40) := by
  unfold isEx
  by_cases c : e.dep ≤ 8
  · rw [cntE_of h c]
    have := size_pos e
    by_cases c2 : e.size ≤ 40
    · rw [decide_eq_true (show 1 ≤ e.size by omega), decide_eq_true c2, decide_eq_true ⟨c, c2⟩]
      rfl
    · rw [decide_eq_false c2, decide_eq_false (show ¬ (e.dep ≤ 8 ∧ e.size ≤ 40) from fun z => c2 z.2), Bool.and_false]
  · rw [cnt_deep h (by omega), decide_eq_false (show ¬ (e.dep ≤ 8 ∧ e.size ≤ 40) from fun z => c z.1)]
    rfl
theorem isEx_bad {many : Nat} {d : PyData} (h : ∀ k, cntE many k d = 0) : isEx many d = false := by
  unfold isEx
  rw [h 8]
  rfl
end NG

namespace NG
open PySem PySem.Spec PyProof.Rows L2
def topS (i : Nat) : Stmt := PySem.Challenge.pw_nonegrowsrich_k20_doubters_at_their_boun.main.body.getD i (.Pass ⟨0, 0, 0, 0⟩)
abbrev s_is_number : Stmt := topS 1
abbrev N_is_number : List Str := ["thing"]
theorem sc_is_number : FnScope ["thing"] ["thing"] (defScope s_is_number) := ⟨rfl, rfl, rfl, by decide +kernel, rfl, by decide +kernel, by decide +kernel⟩
abbrev s_is_within : Stmt := topS 2
abbrev N_is_within : List Str := ["thing", "low", "high"]
theorem sc_is_within : FnScope ["thing", "low", "high"] ["thing", "low", "high"] (defScope s_is_within) := ⟨rfl, rfl, rfl, by decide +kernel, rfl, by decide +kernel, by decide +kernel⟩
abbrev s_fits : Stmt := topS 9
abbrev N_fits : List Str := ["kind", "thing", "many", "low", "high"]
theorem sc_fits : FnScope ["kind", "thing", "many", "low", "high"] ["kind", "thing", "many"] (defScope s_fits) := ⟨rfl, rfl, rfl, by decide +kernel, rfl, by decide +kernel, by decide +kernel⟩
abbrev s_first_word : Stmt := topS 10
abbrev N_first_word : List Str := ["thing"]
theorem sc_first_word : FnScope ["thing"] ["thing"] (defScope s_first_word) := ⟨rfl, rfl, rfl, by decide +kernel, rfl, by decide +kernel, by decide +kernel⟩
abbrev s_fits_shape : Stmt := topS 11
abbrev N_fits_shape : List Str := ["thing", "shape", "many", "kind", "item"]
theorem sc_fits_shape : FnScope ["thing", "shape", "many", "kind", "item"] ["thing", "shape", "many"] (defScope s_fits_shape) := ⟨rfl, rfl, rfl, by decide +kernel, rfl, by decide +kernel, by decide +kernel⟩
abbrev s_has_shape : Stmt := topS 12
abbrev N_has_shape : List Str := ["thing", "many", "word"]
theorem sc_has_shape : FnScope ["thing", "many", "word"] ["thing", "many"] (defScope s_has_shape) := ⟨rfl, rfl, rfl, by decide +kernel, rfl, by decide +kernel, by decide +kernel⟩
abbrev s_is_registers : Stmt := topS 13
abbrev N_is_registers : List Str := ["thing", "low", "high", "number"]
theorem sc_is_registers : FnScope ["thing", "low", "high", "number"] ["thing"] (defScope s_is_registers) := ⟨rfl, rfl, rfl, by decide +kernel, rfl, by decide +kernel, by decide +kernel⟩
abbrev s_parts : Stmt := topS 14
abbrev N_parts : List Str := ["expression", "shape", "kind", "item"]
theorem sc_parts : FnScope ["expression", "shape", "kind", "item"] ["expression"] (defScope s_parts) := ⟨rfl, rfl, rfl, by decide +kernel, rfl, by decide +kernel, by decide +kernel⟩
abbrev s_count_parts : Stmt := topS 15
abbrev N_count_parts : List Str := ["thing", "many", "deep", "total", "part", "inside"]
theorem sc_count_parts : FnScope ["thing", "many", "deep", "total", "part", "inside"] ["thing", "many", "deep"] (defScope s_count_parts) := ⟨rfl, rfl, rfl, by decide +kernel, rfl, by decide +kernel, by decide +kernel⟩
abbrev s_is_expression : Stmt := topS 16
abbrev N_is_expression : List Str := ["thing", "many"]
theorem sc_is_expression : FnScope ["thing", "many"] ["thing", "many"] (defScope s_is_expression) := ⟨rfl, rfl, rfl, by decide +kernel, rfl, by decide +kernel, by decide +kernel⟩
abbrev s_join_spans : Stmt := topS 17
abbrev N_join_spans : List Str := ["word", "first", "second", "low", "high", "lower", "higher"]
theorem sc_join_spans : FnScope ["word", "first", "second", "low", "high", "lower", "higher"] ["word", "first", "second"] (defScope s_join_spans) := ⟨rfl, rfl, rfl, by decide +kernel, rfl, by decide +kernel, by decide +kernel⟩
abbrev s_span : Stmt := topS 18
abbrev N_span : List Str := ["expression", "word", "spans", "part", "ends", "end", "furthest"]
theorem sc_span : FnScope ["expression", "word", "spans", "part", "ends", "end", "furthest"] ["expression"] (defScope s_span) := ⟨rfl, rfl, rfl, by decide +kernel, rfl, by decide +kernel, by decide +kernel⟩
abbrev s_is_name : Stmt := topS 27
abbrev N_is_name : List Str := ["thing", "letter"]
theorem sc_is_name : FnScope ["thing", "letter"] ["thing"] (defScope s_is_name) := ⟨rfl, rfl, rfl, by decide +kernel, rfl, by decide +kernel, by decide +kernel⟩
abbrev s_power : Stmt := topS 28
abbrev N_power : List Str := ["scale"]
theorem sc_power : FnScope ["scale"] ["scale"] (defScope s_power) := ⟨rfl, rfl, rfl, by decide +kernel, rfl, by decide +kernel, by decide +kernel⟩
abbrev s_count_deed : Stmt := topS 29
abbrev N_count_deed : List Str := ["thing", "many", "deep", "word", "total", "inner", "inside"]
theorem sc_count_deed : FnScope ["thing", "many", "deep", "word", "total", "inner", "inside"] ["thing", "many", "deep"] (defScope s_count_deed) := ⟨rfl, rfl, rfl, by decide +kernel, rfl, by decide +kernel, by decide +kernel⟩
abbrev s_count_deeds : Stmt := topS 30
abbrev N_count_deeds : List Str := ["thing", "many", "deep", "total", "deed", "inside"]
theorem sc_count_deeds : FnScope ["thing", "many", "deep", "total", "deed", "inside"] ["thing", "many", "deep"] (defScope s_count_deeds) := ⟨rfl, rfl, rfl, by decide +kernel, rfl, by decide +kernel, by decide +kernel⟩
abbrev s_is_stake : Stmt := topS 31
abbrev N_is_stake : List Str := ["thing", "scale", "many", "low", "high", "widest"]
theorem sc_is_stake : FnScope ["thing", "scale", "many", "low", "high", "widest"] ["thing", "scale", "many"] (defScope s_is_stake) := ⟨rfl, rfl, rfl, by decide +kernel, rfl, by decide +kernel, by decide +kernel⟩
abbrev s_are_stakes : Stmt := topS 32
abbrev N_are_stakes : List Str := ["thing", "scale", "many", "stake"]
theorem sc_are_stakes : FnScope ["thing", "scale", "many", "stake"] ["thing", "scale", "many"] (defScope s_are_stakes) := ⟨rfl, rfl, rfl, by decide +kernel, rfl, by decide +kernel, by decide +kernel⟩
abbrev s_are_behinds : Stmt := topS 33
abbrev N_are_behinds : List Str := ["thing", "many", "deeds"]
theorem sc_are_behinds : FnScope ["thing", "many", "deeds"] ["thing", "many"] (defScope s_are_behinds) := ⟨rfl, rfl, rfl, by decide +kernel, rfl, by decide +kernel, by decide +kernel⟩
abbrev s_is_doubter : Stmt := topS 34
abbrev N_is_doubter : List Str := ["thing", "many", "name", "scale", "begins", "stakes", "behinds"]
theorem sc_is_doubter : FnScope ["thing", "many", "name", "scale", "begins", "stakes", "behinds"] ["thing", "many"] (defScope s_is_doubter) := ⟨rfl, rfl, rfl, by decide +kernel, rfl, by decide +kernel, by decide +kernel⟩
abbrev s_L_hand : Stmt := topS 36
abbrev N_L_hand : List Str := ["_law_script", "_law_k", "_law_cell", "_law_great"]
theorem sc_L_hand : FnScope ["_law_script", "_law_k", "_law_cell", "_law_great"] ["_law_script", "_law_k"] (defScope s_L_hand) := ⟨rfl, rfl, rfl, by decide +kernel, rfl, by decide +kernel, by decide +kernel⟩
abbrev s_L_take : Stmt := topS 37
abbrev N_L_take : List Str := ["_law_hand_here", "_law_wide", "_law_digit", "_law_primes", "_law_prime", "_law_drawn"]
theorem sc_L_take : FnScope ["_law_hand_here", "_law_wide", "_law_digit", "_law_primes", "_law_prime", "_law_drawn"] ["_law_hand_here", "_law_wide"] (defScope s_L_take) := ⟨rfl, rfl, rfl, by decide +kernel, rfl, by decide +kernel, by decide +kernel⟩
abbrev s_L_of : Stmt := topS 38
abbrev N_L_of : List Str := ["_law_hand_here", "_law_some"]
theorem sc_L_of : FnScope ["_law_hand_here", "_law_some"] ["_law_hand_here", "_law_some"] (defScope s_L_of) := ⟨rfl, rfl, rfl, by decide +kernel, rfl, by decide +kernel, by decide +kernel⟩
abbrev s_L_figure : Stmt := topS 39
abbrev N_L_figure : List Str := ["_law_hand_here", "_law_some"]
theorem sc_L_figure : FnScope ["_law_hand_here", "_law_some"] ["_law_hand_here"] (defScope s_L_figure) := ⟨rfl, rfl, rfl, by decide +kernel, rfl, by decide +kernel, by decide +kernel⟩
abbrev s_L_registers : Stmt := topS 40
abbrev N_L_registers : List Str := ["_law_hand_here", "_law_turn"]
theorem sc_L_registers : FnScope ["_law_hand_here", "_law_turn"] ["_law_hand_here"] (defScope s_L_registers) := ⟨rfl, rfl, rfl, by decide +kernel, rfl, by decide +kernel, by decide +kernel⟩
abbrev s_L_leaf : Stmt := topS 41
abbrev N_L_leaf : List Str := ["_law_hand_here", "_law_wide", "_law_sort"]
theorem sc_L_leaf : FnScope ["_law_hand_here", "_law_wide", "_law_sort"] ["_law_hand_here", "_law_wide"] (defScope s_L_leaf) := ⟨rfl, rfl, rfl, by decide +kernel, rfl, by decide +kernel, by decide +kernel⟩
abbrev s_L_expression : Stmt := topS 42
abbrev N_L_expression : List Str := ["_law_hand_here", "_law_wide", "_law_level", "_law_jumps", "_law_words", "_law_word", "_law_one", "_law_other", "_law_grains"]
theorem sc_L_expression : FnScope ["_law_hand_here", "_law_wide", "_law_level", "_law_jumps", "_law_words", "_law_word", "_law_one", "_law_other", "_law_grains"] ["_law_hand_here", "_law_wide", "_law_level", "_law_jumps"] (defScope s_L_expression) := ⟨rfl, rfl, rfl, by decide +kernel, rfl, by decide +kernel, by decide +kernel⟩
abbrev s_L_stake : Stmt := topS 43
abbrev N_L_stake : List Str := ["_law_hand_here", "_law_wide", "_law_level", "_law_jumps", "_law_far", "_law_inner"]
theorem sc_L_stake : FnScope ["_law_hand_here", "_law_wide", "_law_level", "_law_jumps", "_law_far", "_law_inner"] ["_law_hand_here", "_law_wide", "_law_level", "_law_jumps"] (defScope s_L_stake) := ⟨rfl, rfl, rfl, by decide +kernel, rfl, by decide +kernel, by decide +kernel⟩
abbrev s_L_deeds : Stmt := topS 44
abbrev N_L_deeds : List Str := ["_law_hand_here", "_law_wide", "_law_deep", "_law_found", "_law_turn", "_law_i", "_law_word", "_law_parts"]
theorem sc_L_deeds : FnScope ["_law_hand_here", "_law_wide", "_law_deep", "_law_found", "_law_turn", "_law_i", "_law_word", "_law_parts"] ["_law_hand_here", "_law_wide", "_law_deep"] (defScope s_L_deeds) := ⟨rfl, rfl, rfl, by decide +kernel, rfl, by decide +kernel, by decide +kernel⟩
abbrev s_L_doubter : Stmt := topS 45
abbrev N_L_doubter : List Str := ["_law_hand_here", "_law_wide", "_law_level", "_law_jumps", "_law_name", "_law_scale", "_law_stakes", "_law_face", "_law_behinds"]
theorem sc_L_doubter : FnScope ["_law_hand_here", "_law_wide", "_law_level", "_law_jumps", "_law_name", "_law_scale", "_law_stakes", "_law_face", "_law_behinds"] ["_law_hand_here", "_law_wide", "_law_level", "_law_jumps"] (defScope s_L_doubter) := ⟨rfl, rfl, rfl, by decide +kernel, rfl, by decide +kernel, by decide +kernel⟩
abbrev s_L_put : Stmt := topS 46
abbrev N_L_put : List Str := ["_law_sceptic", "_law_at", "_law_lump"]
theorem sc_L_put : FnScope ["_law_sceptic", "_law_at", "_law_lump"] ["_law_sceptic", "_law_at", "_law_lump"] (defScope s_L_put) := ⟨rfl, rfl, rfl, by decide +kernel, rfl, by decide +kernel, by decide +kernel⟩
abbrev s_L_part : Stmt := topS 47
abbrev N_L_part : List Str := ["_law_row", "_law_at", "_law_lump"]
theorem sc_L_part : FnScope ["_law_row", "_law_at", "_law_lump"] ["_law_row", "_law_at", "_law_lump"] (defScope s_L_part) := ⟨rfl, rfl, rfl, by decide +kernel, rfl, by decide +kernel, by decide +kernel⟩
abbrev s_L_piled : Stmt := topS 48
abbrev N_L_piled : List Str := ["_law_phrase", "_law_wide", "_law_half"]
theorem sc_L_piled : FnScope ["_law_phrase", "_law_wide", "_law_half"] ["_law_phrase", "_law_wide"] (defScope s_L_piled) := ⟨rfl, rfl, rfl, by decide +kernel, rfl, by decide +kernel, by decide +kernel⟩
abbrev s_L_stakes_cases : Stmt := topS 49
abbrev N_L_stakes_cases : List Str := ["_law_scale", "_law_far", "_law_top", "_law_less", "_law_some", "_law_great"]
theorem sc_L_stakes_cases : FnScope ["_law_scale", "_law_far", "_law_top", "_law_less", "_law_some", "_law_great"] ["_law_scale"] (defScope s_L_stakes_cases) := ⟨rfl, rfl, rfl, by decide +kernel, rfl, by decide +kernel, by decide +kernel⟩
abbrev s_L_expressions : Stmt := topS 50
abbrev N_L_expressions : List Str := ["_law_hand_here", "_law_wide", "_law_small", "_law_some", "_law_deep", "_law_turn", "_law_word", "_law_at", "_law_good", "_law_odd", "_law_nought", "_law_full", "_law_number"]
theorem sc_L_expressions : FnScope ["_law_hand_here", "_law_wide", "_law_small", "_law_some", "_law_deep", "_law_turn", "_law_word", "_law_at", "_law_good", "_law_odd", "_law_nought", "_law_full", "_law_number"] ["_law_hand_here", "_law_wide"] (defScope s_L_expressions) := ⟨rfl, rfl, rfl, by decide +kernel, rfl, by decide +kernel, by decide +kernel⟩
abbrev s_L_deeds_cases : Stmt := topS 51
abbrev N_L_deeds_cases : List Str := ["_law_hand_here", "_law_wide", "_law_deed", "_law_some", "_law_nested", "_law_turn", "_law_bare", "_law_odd"]
theorem sc_L_deeds_cases : FnScope ["_law_hand_here", "_law_wide", "_law_deed", "_law_some", "_law_nested", "_law_turn", "_law_bare", "_law_odd"] ["_law_hand_here", "_law_wide"] (defScope s_L_deeds_cases) := ⟨rfl, rfl, rfl, by decide +kernel, rfl, by decide +kernel, by decide +kernel⟩
abbrev s_L_all_cases : Stmt := topS 52
abbrev N_L_all_cases : List Str := ["_law_hand_here", "_law_good", "_law_wide", "_law_name", "_law_scale", "_law_begins", "_law_stakes", "_law_behinds", "_law_face", "_law_cases", "_law_letter", "_law_size", "_law_one", "_law_text", "_law_odd", "_law_number", "_law_idle", "_law_stake_here", "_law_due", "_law_deeds_here", "_law_at", "_law_row"]
theorem sc_L_all_cases : FnScope ["_law_hand_here", "_law_good", "_law_wide", "_law_name", "_law_scale", "_law_begins", "_law_stakes", "_law_behinds", "_law_face", "_law_cases", "_law_letter", "_law_size", "_law_one", "_law_text", "_law_odd", "_law_number", "_law_idle", "_law_stake_here", "_law_due", "_law_deeds_here", "_law_at", "_law_row"] ["_law_hand_here", "_law_good", "_law_wide"] (defScope s_L_all_cases) := ⟨rfl, rfl, rfl, by decide +kernel, rfl, by decide +kernel, by decide +kernel⟩
abbrev s_law : Stmt := topS 53
abbrev N_law : List Str := ["_law_script", "_law_k", "_law_hand_here", "_law_wide", "_law_good", "_law_lump", "_law_due"]
theorem sc_law : FnScope ["_law_script", "_law_k", "_law_hand_here", "_law_wide", "_law_good", "_law_lump", "_law_due"] ["_law_script"] (defScope s_law) := ⟨rfl, rfl, rfl, by decide +kernel, rfl, by decide +kernel, by decide +kernel⟩

end NG

namespace NG
open PySem PySem.Spec PyProof.Rows L2
section
variable {P : Program} {w : World} {K : PySem.W.Frag} {mg : Str → Option Value} {base : Heap}
theorem primes_at {m : Int} (h : 0 ≤ m) : ∃ p : Int, atI ([.int 2147483647, .int 2147483629, .int 2147483587, .int 2147483579, .int 2147483563, .int 2147483549, .int 2147483543, .int 2147483497] : List V) (m % 8) = some (.int p) ∧ 1000 < p ∧ p < 2147483648 := by
  have h1 : m % 8 = 0 ∨ m % 8 = 1 ∨ m % 8 = 2 ∨ m % 8 = 3 ∨ m % 8 = 4 ∨ m % 8 = 5 ∨ m % 8 = 6 ∨ m % 8 = 7 := by omega
  rcases h1 with e | e | e | e | e | e | e | e <;> rw [e] <;> exact ⟨_, rfl, by decide, by decide⟩
theorem ok_take {f : Addr} {fd : FuncData} (F : Fun K "_law_take" "_law_take" s_L_take f fd) (gF : mg "_law_take" = some (.ref f)) (b : Binds K fd ["_law_hand_here", "_law_wide"] []) : Cal P w K mg base 1 "_law_take" spTake := by
  refine ⟨f, fd, _, F.ok sc_L_take (fun vs H Q E h => ?_) (fun cdv A outer s H vs Q E hr h => ?_), gF, F.kp, b⟩
  · obtain ⟨a, m, n, rfl, _⟩ := h
    rfl
  · obtain ⟨a, many, n, rfl, hm, hm2, ⟨g, sd, m, e, hg, hs, h0, hn⟩, hN, q⟩ := h
    refine ⟨_, (pss_cons (ps_if (pt_cmpR op_gt (pe_ix ix_list (pv 0) pe_int (fun _ _ => rfl)) pe_int (nomark _)) (pss_cons (ps_set (i := 2) sc_L_take.nd rfl (.inl rfl) (pe_op op_mod (pe_ix ix_list (pv 0) pe_int (fun _ _ => rfl)) (pv 1))) (pss_cons (ps_asg (pe_op op_fdivW (pe_ix ix_list (pv 0) pe_int (fun _ _ => rfl)) (pv 1)) (pg_sub (pv 0) pe_int set_list)) (pss_one (ps_ret (pv 2))))) pss_nil) (pss_cons (ps_asg (pe_op op_add (pe_ix ix_list (pv 0) pe_int (fun _ _ => rfl)) pe_int) (pg_sub (pv 0) pe_int set_list)) (pss_cons (ps_set (i := 3) sc_L_take.nd rfl (.inl rfl) (pe_lst (pa_cons pe_int (pa_cons pe_int (pa_cons pe_int (pa_cons pe_int (pa_cons pe_int (pa_cons pe_int (pa_cons pe_int (pa_cons pe_int pa_nil)))))))))) (pss_cons (ps_set (i := 4) sc_L_take.nd rfl (.inl rfl) (pe_ix ix_list (pv 3) (pe_op op_mod (pe_ix ix_list (pv 0) pe_int (fun _ _ => rfl)) pe_int) (fun _ _ => rfl))) (pss_cons (ps_set (i := 5) sc_L_take.nd rfl (.inl rfl) (pe_op op_add (pe_op op_mod (pe_op op_mod (pe_op op_add (pe_ix ix_list (pv 0) pe_int (fun _ _ => rfl)) (pe_op op_mul (pe_op op_mul pe_int (pe_ix ix_list (pv 0) pe_int (fun _ _ => rfl))) (pe_ix ix_list (pv 0) pe_int (fun _ _ => rfl)))) (pe_op op_pow (pv 4) pe_int)) (pv 4)) pe_int)) (pss_one (ps_ret (pe_op op_mod (pe_op op_fdiv (pe_op op_mod (pe_op op_mul (pv 5) (pe_op op_add (pe_op op_mod (pv 5) pe_int) (pe_ix ix_list (pv 0) pe_int (fun _ _ => rfl)))) (pv 4)) pe_int) (pv 1))))))))), ?_⟩
    refine ⟨.ref a, rfl, a, _, 0, .int g, rfl, rfl, SqL.of e, rfl, g, 0, rfl, rfl, _, rfl, iteD (fun c => ?_) (fun c => ?_)⟩
    · refine ⟨.ref a, rfl, a, _, 0, .int g, rfl, rfl, SqL.of e, rfl, .int many, rfl, g, many, rfl, rfl, hm, ?_⟩
      refine ⟨.ref a, rfl, a, _, 0, .int g, rfl, rfl, SqL.of e, rfl, .int many, rfl, g, many, rfl, rfl, wide_div (b := 62) hm (by omega) (by decide) (by decide), ?_⟩
      refine ⟨.ref a, rfl, a, _, 0, 0, rfl, rfl, e, rfl, ?_⟩
      refine ⟨.int (g % many), rfl, q _ _ But.put ?_ (Int.emod_nonneg _ (by omega)) (Int.emod_lt_of_pos _ hm)⟩
      exact ⟨g / many, sd, m, upd_same, Int.ediv_nonneg hg (by omega), hs, h0, by omega⟩
    · refine ⟨.ref a, rfl, a, _, 2, .int m, rfl, rfl, SqL.of e, rfl, m, 1, rfl, rfl, ?_⟩
      refine ⟨.ref a, rfl, a, _, 2, 2, rfl, rfl, e, rfl, ?_⟩
      have e1 : (upd H a (.lst [.int g, .int sd, .int (m + 1)])) a = some (.lst [.int g, .int sd, .int (m + 1)]) := upd_same
      refine ⟨by decide, fun p np => ?_⟩
      have npa : p ≠ a := (ne_of_none e1 np).symm
      obtain ⟨pr, hat, hp1, hp2⟩ := primes_at (m := m + 1) (by omega)
      have e2 : (upd (upd H a (.lst [.int g, .int sd, .int (m + 1)])) p (.lst [.int 2147483647, .int 2147483629, .int 2147483587, .int 2147483579, .int 2147483563, .int 2147483549, .int 2147483543, .int 2147483497])) a = some (.lst [.int g, .int sd, .int (m + 1)]) := by rw [upd_ne npa.symm]; exact e1
      have e3 : (upd (upd H a (.lst [.int g, .int sd, .int (m + 1)])) p (.lst [.int 2147483647, .int 2147483629, .int 2147483587, .int 2147483579, .int 2147483563, .int 2147483549, .int 2147483543, .int 2147483497])) p = some (.lst [.int 2147483647, .int 2147483629, .int 2147483587, .int 2147483579, .int 2147483563, .int 2147483549, .int 2147483543, .int 2147483497]) := upd_same
      refine ⟨.ref p, rfl, .ref a, rfl, a, _, 2, .int (m + 1), rfl, rfl, SqL.of e2, rfl, m + 1, 8, rfl, rfl, (by show (0 : Int) < 8; decide), p, _, (m + 1) % 8, .int pr, rfl, rfl, SqL.of e3, hat, ?_⟩
      have hsq : (0 : Int) < pr ^ (2 : Int).toNat := by
        show 0 < pr ^ 2
        exact Int.pow_pos (by omega)
      refine ⟨.ref a, rfl, a, _, 1, .int sd, rfl, rfl, SqL.of e2, rfl, .ref a, rfl, a, _, 2, .int (m + 1), rfl, rfl, SqL.of e2, rfl, 69621, m + 1, rfl, rfl, .inl ⟨by decide, by decide⟩, .ref a, rfl, a, _, 2, .int (m + 1), rfl, rfl, SqL.of e2, rfl, _, _, rfl, rfl, .inr ⟨by omega, by omega⟩, _, _, rfl, rfl,
        .int pr, rfl, pr, 2, rfl, rfl, ⟨by decide, by decide, by omega⟩, _, _, rfl, rfl, hsq, .int pr, rfl, _, pr, rfl, rfl, (by show 0 < pr; omega), _, 1, rfl, rfl, ?_⟩
      generalize hz : (sd + 69621 * (m + 1) * (m + 1)) % pr ^ (2 : Int).toNat % pr = z
      have hz0 : 0 ≤ z := by rw [← hz]; exact Int.emod_nonneg _ (by omega)
      have hz1 : z < pr := by rw [← hz]; exact Int.emod_lt_of_pos _ (by omega)
      refine ⟨.int (z + 1), rfl, .int (z + 1), rfl, z + 1, 1009, rfl, rfl, (by show (0 : Int) < 1009; decide), .ref a, rfl, a, _, 2, .int (m + 1), rfl, rfl, SqL.of e2, rfl, _, _, rfl, rfl, z + 1, _, rfl, rfl, .inl ⟨by omega, by omega⟩, .int pr, rfl, _, pr, rfl, rfl, (by show 0 < pr; omega), _, 7, rfl, rfl, ⟨by decide, by decide⟩, .int many, rfl, _, many, rfl, rfl, hm, ?_⟩
      refine q _ _ ?_ ⟨g, sd, m + 1, e2, hg, hs, by omega, by omega⟩ (Int.emod_nonneg _ (by omega)) (Int.emod_lt_of_pos _ hm)
      exact But.put.trans (But.new np)
end
end NG

namespace NG
open PySem PySem.Spec PyProof.Rows L2
section
variable {P : Program} {w : World} {K : PySem.W.Frag} {mg : Str → Option Value} {base : Heap}
theorem ok_hand {f : Addr} {fd : FuncData} (F : Fun K "_law_hand" "_law_hand" s_L_hand f fd) (gF : mg "_law_hand" = some (.ref f)) (b : Binds K fd ["_law_script", "_law_k"] []) (B : Bl mg) : Cal P w K mg base 1 "_law_hand" (spHand K) := by
  refine ⟨f, fd, _, F.ok sc_L_hand (fun vs H Q E h => ?_) (fun cdv A outer s H vs Q E hr h => ?_), gF, F.kp, b⟩
  · obtain ⟨a, m, n, rfl, _⟩ := h
    rfl
  · obtain ⟨a, k, ns, rfl, hk0, hk1, hS, q⟩ := h
    refine ⟨_, (pss_cons (ps_set (i := 2) sc_L_hand.nd rfl (.inl rfl) (pe_cut (pe_ifExp (pt_cmpR op_lt (pv 1) (pe_callB call_len_seq (by rfl) B.len PySem.boot_len (pa_cons (pv 0) pa_nil)) (nomark _)) (pe_ix ix_list (pv 0) (pv 1) (fun _ _ => rfl)) pe_int))) (pss_cons (ps_set (i := 3) sc_L_hand.nd rfl (.inl rfl) (pe_op op_mul (pe_op op_mod (pe_callB call_abs (by rfl) B.abs (by decide +kernel) (pa_cons (pv 2) pa_nil)) (pe_op op_mulW (pe_op op_pow pe_int pe_int) (pe_op op_pow pe_int pe_int))) (pe_callTy call_int1 (by rfl) B.int (by decide +kernel) (pa_cons (pe_cmpR op_ge (pe_callB call_abs (by rfl) B.abs (by decide +kernel) (pa_cons (pv 2) pa_nil)) (pe_op op_pow pe_int pe_int) (nomark _)) pa_nil)))) (pss_one (ps_ret (pe_lst (pa_cons (pv 3) (pa_cons (pe_op op_add (pe_op op_add (pe_op op_mod (pv 2) pe_int) (pe_op op_mul pe_int (pv 1))) pe_int) (pa_cons pe_int pa_nil)))))))), ?_⟩
    refine ⟨fun v H' => H' = H ∧ ∃ c : Int, v = .int c, ?_, fun v H' hv => ?_⟩
    · refine ⟨.int k, rfl, .ref a, rfl, a, _, rfl, .inl hS, k, _, rfl, rfl, _, rfl, iteD (fun c => ?_) (fun c => ?_)⟩
      · exact ⟨.ref a, rfl, .int k, rfl, a, _, k, _, rfl, rfl, hS, at_int hk0 (by rw [List.length_map] at c; exact c), rfl, _, rfl⟩
      · exact ⟨rfl, 0, rfl⟩
    · obtain ⟨rfl, c, rfl⟩ := hv
      refine ⟨.int c, rfl, c, rfl, 10, 60, rfl, rfl, ⟨by decide, by decide, by decide⟩, 10, 60, rfl, rfl, ⟨by decide, by decide, by decide⟩, _, _, rfl, rfl, wide_mul (a := 300) (b := 300) (by decide) (by decide) (by decide) (by decide) (by decide), _, _, rfl, rfl, (by show (0 : Int) < 10 ^ 60 * 10 ^ 60; decide), ?_⟩
      refine ⟨.int c, rfl, c, rfl, 10, 18, rfl, rfl, ⟨by decide, by decide, by decide⟩, _, _, rfl, rfl, .inr ⟨_, rfl, ?_⟩⟩
      have h01 : ∀ z : Bool, (0 : Int) ≤ (if z = true then 1 else 0) ∧ (if z = true then (1 : Int) else 0) ≤ 1 := by
        intro z
        cases z <;> decide
      refine ⟨_, _, rfl, rfl, .inr ⟨by have := h01 (decide ((10 : Int) ^ (18 : Int).toNat ≤ if c < 0 then -c else c)); omega, by have := h01 (decide ((10 : Int) ^ (18 : Int).toNat ≤ if c < 0 then -c else c)); omega⟩, ?_⟩
      refine ⟨_, rfl, .int c, rfl, c, 2305843009213693951, rfl, rfl, (by show (0 : Int) < 2305843009213693951; decide), .int k, rfl, 104729, k, rfl, rfl, .inl ⟨by decide, by decide⟩, _, _, rfl, rfl, _, 7, rfl, rfl, (by show 3 ≤ sizeLine; decide), fun p np => ?_⟩
      refine q p _ _ np (Int.mul_nonneg (Int.emod_nonneg _ (by show (10 : Int) ^ 60 * 10 ^ 60 ≠ 0; decide)) (h01 _).1) ?_
      have : 0 ≤ c % 2305843009213693951 := Int.emod_nonneg _ (by decide)
      omega
theorem ok_of {f : Addr} {fd : FuncData} (F : Fun K "_law_of" "_law_of" s_L_of f fd) (gF : mg "_law_of" = some (.ref f)) (b : Binds K fd ["_law_hand_here", "_law_some"] []) (B : Bl mg) (c_L_take : Cal P w K mg base 1 "_law_take" spTake) : Cal P w K mg base 2 "_law_of" (spOf K) := by
  refine ⟨f, fd, _, F.ok sc_L_of (fun vs H Q E h => ?_) (fun cdv A outer s H vs Q E hr h => ?_), gF, F.kp, b⟩
  · obtain ⟨a, m, n, _, rfl, _⟩ := h
    rfl
  · obtain ⟨a, l, xs, n, rfl, hal, hl, h0, h1, hh, hn, q⟩ := h
    refine ⟨_, (pss_one (ps_ret (pe_ix ix_list (pv 1) (pe_c c_L_take hr (by omega) (by rfl) (pa_cons (pv 0) (pa_cons (pe_callB call_len_seq (by rfl) B.len PySem.boot_len (pa_cons (pv 1) pa_nil)) pa_nil))) (fun _ _ => rfl)))), ?_⟩
    refine ⟨.ref l, rfl, .ref a, rfl, .ref l, rfl, l, _, rfl, .inl (SqL.of hl), ?_⟩
    refine ⟨a, _, n, rfl, by omega, by omega, hh, hn, fun H' r bt hh' r0 r1 => ?_⟩
    have hl' : H' l = some (.lst xs) := bt _ _ (Ne.symm hal) hl
    obtain ⟨v, hv, hm⟩ := at_mem (xs := xs) r0 r1
    exact ⟨l, _, r, v, rfl, rfl, SqL.of hl', hv, q _ _ bt hh' hm⟩
theorem ok_figure {f : Addr} {fd : FuncData} (F : Fun K "_law_figure" "_law_figure" s_L_figure f fd) (gF : mg "_law_figure" = some (.ref f)) (b : Binds K fd ["_law_hand_here"] []) (B : Bl mg) (c_L_take : Cal P w K mg base 1 "_law_take" spTake) (c_L_of : Cal P w K mg base 2 "_law_of" (spOf K)) : Cal P w K mg base 3 "_law_figure" spFigure := by
  refine ⟨f, fd, _, F.ok sc_L_figure (fun vs H Q E h => ?_) (fun cdv A outer s H vs Q E hr h => ?_), gF, F.kp, b⟩
  · obtain ⟨a, m, rfl, _⟩ := h
    rfl
  · obtain ⟨a, n, rfl, hh, hn, q⟩ := h
    refine ⟨_, (pss_cons (ps_set (i := 1) sc_L_figure.nd rfl (.inl rfl) (pe_lst (pa_cons pe_int (pa_cons pe_int (pa_cons (pe_un un_neg pe_int) (pa_cons pe_int (pa_cons pe_int (pa_cons pe_int (pa_cons pe_int (pa_cons (pe_un un_neg pe_int) (pa_cons pe_int (pa_cons (pe_un un_neg pe_int) pa_nil)))))))))))) (pss_one (ps_ret (pe_c c_L_of hr (by omega) (by rfl) (pa_cons (pv 0) (pa_cons (pe_op op_cat (pv 1) (pe_lst (pa_cons (pe_op op_sub (pe_c c_L_take hr (by omega) (by rfl) (pa_cons (pv 0) (pa_cons pe_int pa_nil))) pe_int) (pa_cons (pe_op op_sub (pe_c c_L_take hr (by omega) (by rfl) (pa_cons (pv 0) (pa_cons pe_int pa_nil))) pe_int) pa_nil)))) pa_nil)))))), ?_⟩
    refine ⟨_, rfl, _, rfl, _, rfl, (by show 10 ≤ sizeLine; decide), fun l nl => ?_⟩
    have hla := hh.ne nl
    have hl : (upd H l (.lst [.int 0, .int 1, .int (-1), .int 50, .int 100, .int 250, .int 500, .int (-500), .int 1000, .int (-1000)])) l = _ := upd_same
    refine ⟨.ref a, rfl, .ref l, rfl, .ref a, rfl, a, 2001, n, rfl, by decide, by decide, hh.new nl, by omega, fun H1 r1 b1 hh1 r10 r11 => ⟨_, _, rfl, rfl, ?_⟩⟩
    refine ⟨.ref a, rfl, a, 201, n + 1, rfl, by decide, by decide, hh1, by omega, fun H2 r2 b2 hh2 r20 r21 => ⟨_, _, rfl, rfl, ?_⟩⟩
    refine ⟨(by show 2 ≤ sizeLine; decide), fun l2 nl2 => ?_⟩
    have hl2a := hh2.ne nl2
    have e1 : H2 l = some (.lst [.int 0, .int 1, .int (-1), .int 50, .int 100, .int 250, .int 500, .int (-500), .int 1000, .int (-1000)]) := b2 _ _ hla (b1 _ _ hla hl)
    refine ⟨l, l2, _, _, rfl, rfl, by rw [upd_ne (ne_of_none e1 nl2)]; exact e1, upd_same, (by show 12 ≤ sizeLine; decide), fun l3 nl3 => ?_⟩
    have hh3 := (hh2.new (o := .lst [.int (r1 - 1000), .int (r2 - 100)]) nl2)
    refine ⟨a, l3, _, n + 2, rfl, (hh3.ne nl3).symm, upd_same, (by show 0 < 12; decide), (by show 12 ≤ 1000; decide), hh3.new nl3, by omega, fun H4 v b4 hh4 hv => ?_⟩
    have bb : But a H H4 := (((((But.new nl).trans b1).trans b2).trans (But.new nl2)).trans (But.new nl3)).trans b4
    have key : ∃ c : Int, v = .int c ∧ -1000 ≤ c ∧ c ≤ 1000 := by
      simp only [List.cons_append, List.nil_append, List.mem_cons, List.not_mem_nil, or_false] at hv
      rcases hv with rfl | rfl | rfl | rfl | rfl | rfl | rfl | rfl | rfl | rfl | rfl | rfl
      all_goals exact ⟨_, rfl, by omega, by omega⟩
    obtain ⟨c, rfl, c0, c1⟩ := key
    exact q _ _ bb hh4 c0 c1
end
end NG

namespace NG
open PySem PySem.Spec PyProof.Rows L2
theorem wn_ne {o : W4} {s : Str} (h : s = "fig" ∨ s = "reg" ∨ s = "share" ∨ s = "times" ∨ s = "by" ∨ s = "when" ∨ s = "where") : decide (V.str (wn o) = V.str s) = false := by
  rcases h with rfl | rfl | rfl | rfl | rfl | rfl | rfl <;> cases o <;> decide
end NG

namespace NG
open PySem PySem.Spec PyProof.Rows L2
section
variable {P : Program} {w : World} {K : PySem.W.Frag} {mg : Str → Option Value} {base : Heap}
theorem ok_parts {f a_SHAPES : Addr} {fd : FuncData} (F : Fun K "parts" "parts" s_parts f fd) (gF : mg "parts" = some (.ref f)) (b : Binds K fd ["expression"] []) (B : Bl mg) (mg_SHAPES : mg "SHAPES" = some (.ref a_SHAPES)) (hSh : Shapes K w a_SHAPES) : Cal P w K mg base 1 "parts" (spParts K) := by
  refine ⟨f, fd, _, F.ok sc_parts (fun vs H Q E h => ?_) (fun cdv A outer s H vs Q E hr h => ?_), gF, F.kp, b⟩
  · obtain ⟨_, _, rfl, _⟩ := h
    rfl
  · obtain ⟨v, e, rfl, he, q⟩ := h
    obtain ⟨p, xs, rfl, hp, hl, hl4, hl0, hrow⟩ := he.lies
    obtain ⟨sq, hkd, hsq⟩ := hSh e
    refine ⟨_, (pss_cons (ps_set (i := 1) sc_parts.nd rfl (.inl rfl) (pe_ix ix_kdict (pe_glob (v := .ref a_SHAPES) (by rfl) mg_SHAPES rfl) (pe_ix ix_tup (pv 0) pe_int (fun _ _ => rfl)) (fun _ _ => rfl))) (pss_one (ps_ret (pe_lc (own := [("kind", 2), ("item", 3)]) rfl sc_parts.nd (RZ.pi_zipA (by rfl) B.zip (pa_cons (pv 1) (pa_cons (pe_slice sl_tup (pv 0) (po_some pe_int) po_none) pa_nil))) (blkOk_by (N := N_parts) (sc := defScope s_parts) (by decide +kernel)) (fun _ _ _ _ _ => pgtK (n := 2) K rfl (pgs_cons (pg_name (i := 2) sc_parts.nd rfl (.inl rfl)) (pgs_cons (pg_name (i := 3) sc_parts.nd rfl (.inl rfl)) pgs_nil))) (fun _ _ _ _ _ => pts_one (pt_cmpR op_eq (pv 2) pe_str (nomark _))) (fun _ _ _ _ _ => pv 3))))), ?_⟩
    refine ⟨.ref p, rfl, p, _, 0, _, rfl, rfl, hp, at_of (j := 0) rfl rfl, a_SHAPES, _, .ref sq, rfl, rfl, hkd, ?_⟩
    have hcut : cutV (V.str (wordOf e) :: xs) (some 1) none = xs := by
      unfold cutV
      rw [show HT.sIx (V.str (wordOf e) :: xs).length 0 (some 1) = min 1 (V.str (wordOf e) :: xs).length from HT.sIx_nat _ 0 1, HT.sIx_none, List.length_cons, show min 1 (xs.length + 1) = 1 by omega]
      show List.take (xs.length + 1 - 1) xs = xs
      rw [Nat.add_sub_cancel, List.take_length]
    refine ⟨.ref sq, rfl, .ref p, rfl, 1, rfl, p, _, rfl, hp, ?_, fun c nc => ?_⟩
    · rw [show HT.sIx (V.str (wordOf e) :: xs).length 0 (some 1) = min 1 (V.str (wordOf e) :: xs).length from HT.sIx_nat _ 0 1, List.length_cons]
      omega
    rw [hcut]
    have smc : Same H (upd H c (.tup xs)) := same_new nc
    have hc : (upd H c (.tup xs)) c = some (.tup xs) := upd_same
    have hlk : ((shapeOf e).map V.str).length = xs.length := by rw [List.length_map]; exact hl.symm
    refine ⟨sq, c, (shapeOf e).map V.str, xs, rfl, .inr ⟨hsq _, SqT.of hc, fun D nD => lc_it (walk_zipT hlk rfl) (fun i H' => Same (upd H c (.tup xs)) H' ∧ H' D = some (.lst (pk ((shapeOf e).take i) (xs.take i)))) ⟨same_new nD, upd_same⟩ (fun i H' _ h => ⟨hsq _, SqT.of (h.1 _ _ hc)⟩) ?_ ?_⟩⟩
    · rintro i x H1 H2 hi ⟨sm, hD⟩ ⟨T, k, it, rfl, nT, rfl, e1, e2⟩
      have e1 : ((shapeOf e).map V.str)[i]? = some k := e1
      have e2 : xs[i]? = some it := e2
      rw [List.getElem?_map] at e1
      cases hk : (shapeOf e)[i]? with
      | none => rw [hk] at e1; cases e1
      | some ks =>
        rw [hk] at e1
        have ek : V.str ks = k := Option.some.inj e1
        subst ek
        have sm2 := sm.trans (same_new (o := .tup [V.str ks, it]) nT)
        have hD2 := same_new (o := .tup [V.str ks, it]) nT _ _ hD
        refine ⟨T, _, rfl, SqT.of upd_same, rfl, _, _, rfl, _, _, rfl, rfl, rfl, .str ks, rfl, rfl, _, rfl, iteD (fun cq => ?_) (fun cq => ?_)⟩
        · refine ⟨it, rfl, _, hD2, ?_, fun b' o eb => ?_, ?_⟩
          · refine small1000 (Nat.le_trans (pk_len _ _) ?_)
            rw [List.length_take]
            omega
          · rw [upd_ne (ne_of_none eb nD)]
            exact sm2 _ _ eb
          · rw [upd_same, pk_snoc hk e2, if_pos cq]
        · refine ⟨sm2, ?_⟩
          rw [hD2, pk_snoc hk e2, if_neg cq, List.append_nil]
    · rintro H1 ⟨sm, hD⟩
      rw [List.take_of_length_le (by rw [hl]; exact Nat.le_refl _), List.take_length] at hD
      have smt := smc.trans sm
      exact q _ D _ smt (smc.free nD) hD (hrow.same smt)
theorem ok_joinS {f : Addr} {fd : FuncData} (F : Fun K "join_spans" "join_spans" s_join_spans f fd) (gF : mg "join_spans" = some (.ref f)) (b : Binds K fd ["word", "first", "second"] []) (B : Bl mg) : Cal P w K mg base 1 "join_spans" (spJoinS K) := by
  refine ⟨f, fd, _, F.ok sc_join_spans (fun vs H Q E h => ?_) (fun cdv A outer s H vs Q E hr h => ?_), gF, F.kp, b⟩
  · obtain ⟨_, _, _, _, _, rfl, _⟩ := h
    rfl
  · obtain ⟨e, _, _, ⟨x1, x2⟩, ⟨y1, y2⟩, rfl, ⟨px, rfl, hx⟩, ⟨py, rfl, hy⟩, q⟩ := h
    refine ⟨_, (pss_cons (ps_asg (pv 1) (pg_tup rfl (pgs_cons (pg_name (i := 3) sc_join_spans.nd rfl (.inl rfl)) (pgs_cons (pg_name (i := 4) sc_join_spans.nd rfl (.inl rfl)) pgs_nil)))) (pss_cons (ps_asg (pv 2) (pg_tup rfl (pgs_cons (pg_name (i := 5) sc_join_spans.nd rfl (.inl rfl)) (pgs_cons (pg_name (i := 6) sc_join_spans.nd rfl (.inl rfl)) pgs_nil)))) (pss_cons (ps_if (pt_cmpR op_eq (pv 0) pe_str (nomark _)) (pss_one (ps_ret (pe_tup (pa_cons (pe_op op_add (pv 3) (pv 5)) (pa_cons (pe_op op_add (pv 4) (pv 6)) pa_nil))))) pss_nil) (pss_cons (ps_if (pt_cmpR op_eq (pv 0) pe_str (nomark _)) (pss_one (ps_ret (pe_tup (pa_cons (pe_op op_sub (pv 3) (pv 6)) (pa_cons (pe_op op_sub (pv 4) (pv 5)) pa_nil))))) pss_nil) (pss_cons (ps_if (pt_cmpR op_eq (pv 0) pe_str (nomark _)) (pss_one (ps_ret (pe_tup (pa_cons (pe_callB (call_min2 rfl) (by rfl) B.min (by decide +kernel) (pa_cons (pv 3) (pa_cons (pv 5) pa_nil))) (pa_cons (pe_callB (call_min2 rfl) (by rfl) B.min (by decide +kernel) (pa_cons (pv 4) (pa_cons (pv 6) pa_nil))) pa_nil))))) pss_nil) (pss_cons (ps_if (pt_cmpR op_eq (pv 0) pe_str (nomark _)) (pss_one (ps_ret (pe_tup (pa_cons (pe_callB (call_max2 rfl) (by rfl) B.max (by decide +kernel) (pa_cons (pv 3) (pa_cons (pv 5) pa_nil))) (pa_cons (pe_callB (call_max2 rfl) (by rfl) B.max (by decide +kernel) (pa_cons (pv 4) (pa_cons (pv 6) pa_nil))) pa_nil))))) pss_nil) (pss_one (ps_ret (pe_tup (pa_cons (pe_callB (call_min2 rfl) (by rfl) B.min (by decide +kernel) (pa_cons (pv 3) (pa_cons (pv 5) pa_nil))) (pa_cons (pe_callB (call_max2 rfl) (by rfl) B.max (by decide +kernel) (pa_cons (pv 4) (pa_cons (pv 6) pa_nil))) pa_nil))))))))))), ?_⟩
    refine ⟨.ref px, rfl, px, _, rfl, hx, rfl, _, _, rfl, _, _, rfl, rfl, .ref py, rfl, py, _, rfl, hy, rfl, _, _, rfl, _, _, rfl, rfl, ?_⟩
    refine ⟨_, rfl, rfl, _, rfl, ?_⟩
    rcases q with ⟨o, a, bb, rfl, q⟩ | ⟨he, q⟩
    · cases o with
      | sum =>
        refine iteTT rfl ?_
        exact ⟨_, rfl, _, rfl, _, _, rfl, rfl, _, rfl, _, rfl, _, _, rfl, rfl, (by show 2 ≤ sizeLine; decide), fun p np => q _ _ (same_new np) ⟨p, rfl, SqT.of upd_same⟩⟩
      | less =>
        refine iteFF rfl ⟨_, rfl, rfl, _, rfl, iteTT rfl ?_⟩
        exact ⟨_, rfl, _, rfl, _, _, rfl, rfl, _, rfl, _, rfl, _, _, rfl, rfl, (by show 2 ≤ sizeLine; decide), fun p np => q _ _ (same_new np) ⟨p, rfl, SqT.of upd_same⟩⟩
      | least =>
        refine iteFF rfl ⟨_, rfl, rfl, _, rfl, iteFF rfl ⟨_, rfl, rfl, _, rfl, iteTT rfl ?_⟩⟩
        exact ⟨_, rfl, _, rfl, _, _, rfl, _, rfl, _, rfl, _, _, rfl, (by show 2 ≤ sizeLine; decide), fun p np => q _ _ (same_new np) ⟨p, rfl, SqT.of upd_same⟩⟩
      | most =>
        refine iteFF rfl ⟨_, rfl, rfl, _, rfl, iteFF rfl ⟨_, rfl, rfl, _, rfl, iteFF rfl ⟨_, rfl, rfl, _, rfl, iteTT rfl ?_⟩⟩⟩
        exact ⟨_, rfl, _, rfl, _, _, rfl, _, rfl, _, rfl, _, _, rfl, (by show 2 ≤ sizeLine; decide), fun p np => q _ _ (same_new np) ⟨p, rfl, SqT.of upd_same⟩⟩
    · have hw : wordOf e = "when" ∨ wordOf e = "where" := by
        rcases he with ⟨_, _, _, _, rfl⟩ | ⟨_, _, _, _, rfl⟩
        · exact .inl rfl
        · exact .inr rfl
      have nn : ∀ s : Str, s = "sum" ∨ s = "less" ∨ s = "least" ∨ s = "most" → decide (V.str (wordOf e) = V.str s) = false := fun s hs => by
        rcases hw with h | h <;> rw [h] <;> rcases hs with rfl | rfl | rfl | rfl <;> decide
      refine iteFF (nn _ (by simp)) ⟨_, rfl, rfl, _, rfl, iteFF (nn _ (by simp)) ⟨_, rfl, rfl, _, rfl, iteFF (nn _ (by simp)) ⟨_, rfl, rfl, _, rfl, iteFF (nn _ (by simp)) ?_⟩⟩⟩
      exact ⟨_, rfl, _, rfl, _, _, rfl, _, rfl, _, rfl, _, _, rfl, (by show 2 ≤ sizeLine; decide), fun p np => q _ _ (same_new np) ⟨p, rfl, SqT.of upd_same⟩⟩
end
end NG

namespace NG
open PySem PySem.Spec PyProof.Rows L2
/-! ### promises of the looks at things -/
def spIsNum (K : PySem.W.Frag) : Sp := fun vs H Q _ => ∃ (v : V) (d : PyData), vs = [v] ∧ Dp K H v d ∧ Q (.bl (isInt d)) H
def spInB (K : PySem.W.Frag) : Sp := fun vs H Q _ => ∃ (v : V) (lo hi : Int) (d : PyData), vs = [v, .int lo, .int hi] ∧ Dp K H v d ∧ Q (.bl (inD lo hi d)) H
def spFits (K : PySem.W.Frag) : Sp := fun vs H Q _ => ∃ (k : Kd) (v : V) (many : Int) (d : PyData), vs = [.str (kdn k), v, .int many] ∧ Dp K H v d ∧ ∀ H', Same H H' → Q (.bl (fitD many k d)) H'
def spFirst (K : PySem.W.Frag) : Sp := fun vs H Q _ => ∃ (p : Addr) (x : Str) (xs : List V), vs = [.ref p] ∧ SqT K H p (.str x :: xs) ∧ Q (.str x) H
def spFitsSh (K : PySem.W.Frag) : Sp := fun vs H Q _ => ∃ (p q : Addr) (many : Int) (x : Str) (xs : List V) (ds : List PyData) (ks : List Kd), vs = [.ref p, .ref q, .int many] ∧ SqT K H p (.str x :: xs) ∧ DpAll K H xs ds ∧ (∀ H', SqT K H' q (ks.map fun k => V.str (kdn k))) ∧ ks.length ≤ 4 ∧ ∀ H', Same H H' → Q (.bl (fitsD many ks ds)) H'
def spHasSh (K : PySem.W.Frag) : Sp := fun vs H Q _ => ∃ (p : Addr) (many : Int) (w : We) (xs : List V) (ds : List PyData), vs = [.ref p, .int many] ∧ SqT K H p (.str (wen w) :: xs) ∧ DpAll K H xs ds ∧ ∀ H', Same H H' → Q (.bl (fitsD many (wsh w) ds)) H'
def spPartsD (K : PySem.W.Frag) : Sp := fun vs H Q _ => ∃ (p : Addr) (w : We) (xs : List V) (ds : List PyData), vs = [.ref p] ∧ SqT K H p (.str (wen w) :: xs) ∧ DpAll K H xs ds ∧ ds.length = (wsh w).length ∧ ∀ H' l us, Same H H' → H l = none → H' l = some (.lst us) → DpAll K H' us (partsD (wsh w) ds) → Q (.ref l) H'
def spCntE (K : PySem.W.Frag) (n : Nat) : Sp := fun vs H Q _ => ∃ (v : V) (many : Int) (k : Nat) (d : PyData), vs = [v, .int many, .int (k : Int)] ∧ k < n ∧ Dp K H v d ∧ wdE many k d ∧ ∀ H', Same H H' → Q (.int (cntE many k d : Nat)) H'
def spIsEx (K : PySem.W.Frag) : Sp := fun vs H Q _ => ∃ (v : V) (many : Int) (d : PyData), vs = [v, .int many] ∧ Dp K H v d ∧ wdE many 8 d ∧ ∀ H', Same H H' → Q (.bl (isEx many d)) H'
def spIsRegs (K : PySem.W.Frag) : Sp := fun vs H Q _ => ∃ (p : Addr) (xs : List V) (ds : List PyData), vs = [.ref p] ∧ SqT K H p xs ∧ DpAll K H xs ds ∧ ∀ H', Same H H' → Q (.bl (regsD ds)) H'
section
variable {P : Program} {w : World} {K : PySem.W.Frag} {mg : Str → Option Value} {base : Heap}
theorem ok_isnum {f : Addr} {fd : FuncData} (F : Fun K "is_number" "is_number" s_is_number f fd) (gF : mg "is_number" = some (.ref f)) (b : Binds K fd ["thing"] []) (B : Bl mg) (n_bool : mg "bool" = none) : Cal P w K mg base 1 "is_number" (spIsNum K) := by
  refine ⟨f, fd, _, F.ok sc_is_number (fun vs H Q E h => ?_) (fun cdv A outer s H vs Q E hr h => ?_), gF, F.kp, b⟩
  · obtain ⟨_, _, rfl, _⟩ := h
    rfl
  · obtain ⟨v, d, rfl, hd, q⟩ := h
    refine ⟨_, (pss_one (ps_ret (pe_and (pe_callB call_isi (by rfl) B.isinstance (by decide +kernel) (pa_cons (pv 0) (pa_cons (pe_bltn (v := .ty "int") (by rfl) B.int (by decide +kernel) rfl) pa_nil))) (pe_one (pe_not (pe_callB call_isi (by rfl) B.isinstance (by decide +kernel) (pa_cons (pv 0) (pa_cons (pe_bltn (v := .ty "bool") (by rfl) n_bool (by decide +kernel) rfl) pa_nil)))))))), ?_⟩
    refine ⟨v, rfl, v, .ty "int", _, _, _, rfl, .ty _, Dp.tyx hd, kit_ty (kit_int d), _, rfl, ?_⟩
    rw [← isInt_eq d] at q
    cases hk : kI d with
    | false =>
      rw [hk] at q
      exact iteFF rfl q
    | true =>
      rw [hk] at q
      exact iteTT rfl ⟨v, rfl, v, .ty "bool", _, _, _, rfl, .ty _, Dp.tyx hd, kit_ty (kit_bool d), _, rfl, q⟩
theorem ok_iswithin {f : Addr} {fd : FuncData} (F : Fun K "is_within" "is_within" s_is_within f fd) (gF : mg "is_within" = some (.ref f)) (b : Binds K fd ["thing", "low", "high"] []) (c_is_number : Cal P w K mg base 1 "is_number" (spIsNum K)) : Cal P w K mg base 2 "is_within" (spInB K) := by
  refine ⟨f, fd, _, F.ok sc_is_within (fun vs H Q E h => ?_) (fun cdv A outer s H vs Q E hr h => ?_), gF, F.kp, b⟩
  · obtain ⟨_, _, _, _, rfl, _⟩ := h
    rfl
  · obtain ⟨v, lo, hi, d, rfl, hd, q⟩ := h
    refine ⟨_, (pss_one (ps_ret (pe_and (pe_c c_is_number hr (by omega) (by rfl) (pa_cons (pv 0) pa_nil)) (pe_one (pe_chain op_le op_le (pv 1) (pv 0) (pv 2)))))), ?_⟩
    refine ⟨v, rfl, v, d, rfl, hd, _, rfl, ?_⟩
    cases hd with
    | int i =>
      refine iteTT rfl ⟨.int lo, rfl, .int i, rfl, _, _, rfl, rfl, _, rfl, ?_⟩
      have q : Q (.bl (decide (lo ≤ i) && decide (i ≤ hi))) H := q
      by_cases c : lo ≤ i
      · rw [decide_eq_true c] at q ⊢
        exact iteT ⟨.int hi, rfl, _, _, rfl, rfl, q⟩
      · rw [decide_eq_false c] at q ⊢
        exact iteF q
    | non => exact iteFF rfl q
    | bl _ => exact iteFF rfl q
    | str _ => exact iteFF rfl q
    | lst _ _ => exact iteFF rfl q
    | tup _ _ => exact iteFF rfl q
theorem ok_fits {f a_BOUNDS : Addr} {fd : FuncData} (F : Fun K "fits" "fits" s_fits f fd) (gF : mg "fits" = some (.ref f)) (b : Binds K fd ["kind", "thing", "many"] []) (mg_BOUNDS : mg "BOUNDS" = some (.ref a_BOUNDS)) (hN : TabN K w a_BOUNDS) (c_is_within : Cal P w K mg base 2 "is_within" (spInB K)) : Cal P w K mg base 3 "fits" (spFits K) := by
  refine ⟨f, fd, _, F.ok sc_fits (fun vs H Q E h => ?_) (fun cdv A outer s H vs Q E hr h => ?_), gF, F.kp, b⟩
  · obtain ⟨_, _, _, _, rfl, _⟩ := h
    rfl
  · obtain ⟨k, v, many, d, rfl, hd, q⟩ := h
    refine ⟨_, (pss_cons (ps_if (pt_cmpR op_eq (pv 0) pe_str (nomark _)) (pss_one (ps_ret pe_bl)) pss_nil) (pss_cons (ps_asg (pe_cut (pe_ifExp (pt_cmpR op_eq (pv 0) pe_str (nomark _)) (pe_tup (pa_cons pe_int (pa_cons (pe_op op_sub (pv 2) pe_int) pa_nil))) (pe_ix ix_kdict (pe_glob (v := .ref a_BOUNDS) (by rfl) mg_BOUNDS rfl) (pv 0) (fun _ _ => rfl)))) (pg_tup rfl (pgs_cons (pg_name (i := 3) sc_fits.nd rfl (.inl rfl)) (pgs_cons (pg_name (i := 4) sc_fits.nd rfl (.inl rfl)) pgs_nil)))) (pss_one (ps_ret (pe_c c_is_within hr (by omega) (by rfl) (pa_cons (pv 1) (pa_cons (pv 3) (pa_cons (pv 4) pa_nil)))))))), ?_⟩
    cases k with
    | part => exact ⟨_, rfl, rfl, _, rfl, iteTT (by decide) (q H (Same.refl _))⟩
    | sign =>
      refine ⟨_, rfl, rfl, _, rfl, iteFF (by decide) ⟨fun u H' => Same H H' ∧ ∃ bq, u = .ref bq ∧ SqT K H' bq [.int 0, .int (many - 1)], ⟨_, rfl, rfl, _, rfl, iteTT (by decide) ⟨_, rfl, _, _, rfl, rfl, (by show 2 ≤ sizeLine; decide), fun p np => ⟨same_new np, p, rfl, SqT.of upd_same⟩⟩⟩, ?_⟩⟩
      rintro u H1 ⟨sm, b1, rfl, hb1⟩
      exact ⟨b1, _, rfl, hb1, rfl, _, _, rfl, _, _, rfl, rfl, v, rfl, _, rfl, _, rfl, v, _, _, d, rfl, dp_same sm hd, q _ sm⟩
    | figure =>
      obtain ⟨bq, hkd, hsq⟩ := hN .figure (by decide) (by decide)
      refine ⟨_, rfl, rfl, _, rfl, iteFF (by decide) ⟨fun u H' => Same H H' ∧ ∃ bq, u = .ref bq ∧ SqT K H' bq [.int (bndE .figure).1, .int (bndE .figure).2], ⟨_, rfl, rfl, _, rfl, iteFF (by decide) ⟨_, rfl, a_BOUNDS, _, _, rfl, rfl, hkd, Same.refl _, bq, rfl, hsq _⟩⟩, ?_⟩⟩
      rintro u H1 ⟨sm, b1, rfl, hb1⟩
      exact ⟨b1, _, rfl, hb1, rfl, _, _, rfl, _, _, rfl, rfl, v, rfl, _, rfl, _, rfl, v, _, _, d, rfl, dp_same sm hd, q _ sm⟩
    | place =>
      obtain ⟨bq, hkd, hsq⟩ := hN .place (by decide) (by decide)
      refine ⟨_, rfl, rfl, _, rfl, iteFF (by decide) ⟨fun u H' => Same H H' ∧ ∃ bq, u = .ref bq ∧ SqT K H' bq [.int (bndE .place).1, .int (bndE .place).2], ⟨_, rfl, rfl, _, rfl, iteFF (by decide) ⟨_, rfl, a_BOUNDS, _, _, rfl, rfl, hkd, Same.refl _, bq, rfl, hsq _⟩⟩, ?_⟩⟩
      rintro u H1 ⟨sm, b1, rfl, hb1⟩
      exact ⟨b1, _, rfl, hb1, rfl, _, _, rfl, _, _, rfl, rfl, v, rfl, _, rfl, _, rfl, v, _, _, d, rfl, dp_same sm hd, q _ sm⟩
    | factor =>
      obtain ⟨bq, hkd, hsq⟩ := hN .factor (by decide) (by decide)
      refine ⟨_, rfl, rfl, _, rfl, iteFF (by decide) ⟨fun u H' => Same H H' ∧ ∃ bq, u = .ref bq ∧ SqT K H' bq [.int (bndE .factor).1, .int (bndE .factor).2], ⟨_, rfl, rfl, _, rfl, iteFF (by decide) ⟨_, rfl, a_BOUNDS, _, _, rfl, rfl, hkd, Same.refl _, bq, rfl, hsq _⟩⟩, ?_⟩⟩
      rintro u H1 ⟨sm, b1, rfl, hb1⟩
      exact ⟨b1, _, rfl, hb1, rfl, _, _, rfl, _, _, rfl, rfl, v, rfl, _, rfl, _, rfl, v, _, _, d, rfl, dp_same sm hd, q _ sm⟩
    | line =>
      obtain ⟨bq, hkd, hsq⟩ := hN .line (by decide) (by decide)
      refine ⟨_, rfl, rfl, _, rfl, iteFF (by decide) ⟨fun u H' => Same H H' ∧ ∃ bq, u = .ref bq ∧ SqT K H' bq [.int (bndE .line).1, .int (bndE .line).2], ⟨_, rfl, rfl, _, rfl, iteFF (by decide) ⟨_, rfl, a_BOUNDS, _, _, rfl, rfl, hkd, Same.refl _, bq, rfl, hsq _⟩⟩, ?_⟩⟩
      rintro u H1 ⟨sm, b1, rfl, hb1⟩
      exact ⟨b1, _, rfl, hb1, rfl, _, _, rfl, _, _, rfl, rfl, v, rfl, _, rfl, _, rfl, v, _, _, d, rfl, dp_same sm hd, q _ sm⟩
theorem ok_firstword {f : Addr} {fd : FuncData} (F : Fun K "first_word" "first_word" s_first_word f fd) (gF : mg "first_word" = some (.ref f)) (b : Binds K fd ["thing"] []) (B : Bl mg) : Cal P w K mg base 1 "first_word" (spFirst K) := by
  refine ⟨f, fd, _, F.ok sc_first_word (fun vs H Q E h => ?_) (fun cdv A outer s H vs Q E hr h => ?_), gF, F.kp, b⟩
  · obtain ⟨_, _, _, rfl, _⟩ := h
    rfl
  · obtain ⟨p, x, xs, rfl, hp, q⟩ := h
    refine ⟨_, (pss_cons (ps_if (PW.pt (pw_and (pt_val (pe_callB call_isi (by rfl) B.isinstance (by decide +kernel) (pa_cons (pv 0) (pa_cons (pe_bltn (v := .ty "tuple") (by rfl) B.tuple (by decide +kernel) rfl) pa_nil)))) (pw_and (pt_truth (pv 0) (by intro _; rfl)) (pw_and1 (pt_val (pe_callB call_isi (by rfl) B.isinstance (by decide +kernel) (pa_cons (pe_ix ix_tup (pv 0) pe_int (fun _ _ => rfl)) (pa_cons (pe_bltn (v := .ty "str") (by rfl) B.str (by decide +kernel) rfl) pa_nil)))))))) (pss_one (ps_ret (pe_ix ix_tup (pv 0) pe_int (fun _ _ => rfl)))) pss_nil) (pss_one (ps_ret pe_non))), ?_⟩
    refine ⟨.ref p, rfl, .ref p, .ty "tuple", _, _, true, rfl, .ty _, tyx_tup hp, kit_ty (show kitB "tuple" "tuple" = some true by decide +kernel), true, rfl, iteTT rfl ?_⟩
    refine ⟨.ref p, rfl, true, .inr (.inl ⟨_, hp, rfl⟩), iteTT rfl ?_⟩
    refine ⟨.ref p, rfl, p, _, 0, _, rfl, rfl, hp, at_of (j := 0) rfl rfl, .str x, .ty "str", _, _, true, rfl, .ty _, .base (.str x), kit_ty (show kitB "str" "str" = some true by decide +kernel), true, rfl, iteTT rfl ?_⟩
    exact ⟨.ref p, rfl, p, _, 0, _, rfl, rfl, hp, at_of (j := 0) rfl rfl, q⟩
theorem cutT1 {x : V} {xs : List V} : cutV (x :: xs) (some 1) none = xs := by
  unfold cutV
  rw [show HT.sIx (x :: xs).length 0 (some 1) = min 1 (x :: xs).length from HT.sIx_nat _ 0 1, HT.sIx_none, List.length_cons, show min 1 (xs.length + 1) = 1 by omega]
  show List.take (xs.length + 1 - 1) xs = xs
  rw [Nat.add_sub_cancel, List.take_length]
theorem ok_fitsshape {f : Addr} {fd : FuncData} (F : Fun K "fits_shape" "fits_shape" s_fits_shape f fd) (gF : mg "fits_shape" = some (.ref f)) (b : Binds K fd ["thing", "shape", "many"] []) (B : Bl mg) (c_fits : Cal P w K mg base 3 "fits" (spFits K)) : Cal P w K mg base 4 "fits_shape" (spFitsSh K) := by
  refine ⟨f, fd, _, F.ok sc_fits_shape (fun vs H Q E h => ?_) (fun cdv A outer s H vs Q E hr h => ?_), gF, F.kp, b⟩
  · obtain ⟨_, _, _, _, _, _, _, rfl, _⟩ := h
    rfl
  · obtain ⟨p, sq, many, x, xs, ds, ks, rfl, hp, hds, hsq, hk4, q⟩ := h
    refine ⟨_, (pss_cons (ps_if (pt_cmpR op_ne (pe_callB call_len_seq (by rfl) B.len PySem.boot_len (pa_cons (pv 0) pa_nil)) (pe_op op_add (pe_callB call_len_seq (by rfl) B.len PySem.boot_len (pa_cons (pv 1) pa_nil)) pe_int) (nomark _)) (pss_one (ps_ret pe_bl)) pss_nil) (pss_one (ps_ret (pe_callB (cr_all rfl) (by rfl) B.all (by decide +kernel) (pa_cons (pe_lc (own := [("kind", 3), ("item", 4)]) rfl sc_fits_shape.nd (RZ.pi_zipA (by rfl) B.zip (pa_cons (pv 1) (pa_cons (pe_slice sl_tupA (pv 0) (po_some pe_int) po_none) pa_nil))) (blkOk_by (N := N_fits_shape) (sc := defScope s_fits_shape) (by decide +kernel)) (fun _ _ _ _ _ => pgtK (n := 2) K rfl (pgs_cons (pg_name (i := 3) sc_fits_shape.nd rfl (.inl rfl)) (pgs_cons (pg_name (i := 4) sc_fits_shape.nd rfl (.inl rfl)) pgs_nil))) (fun _ _ _ _ _ => pts_nil) (fun _ _ _ _ _ => pe_c c_fits hr (by omega) (by rfl) (pa_cons (pv 3) (pa_cons (pv 4) (pa_cons (pv 2) pa_nil))))) pa_nil))))), ?_⟩
    have hlx := dpall_len hds
    refine ⟨.ref p, rfl, p, _, rfl, .inr hp, .ref sq, rfl, sq, _, rfl, .inr (hsq _), _, _, rfl, rfl, rfl, _, rfl, ?_⟩
    by_cases c : ds.length = ks.length
    · refine iteFF (by simp [hlx, c]) ?_
      refine ⟨.ref sq, rfl, .ref p, rfl, 1, rfl, ?_⟩
      dsimp only [tNoPart]
      refine slA hp fun H1 c1 sm1 hc1 => ?_
      rw [cutT1] at hc1
      have hlk : (ks.map fun k => V.str (kdn k)).length = xs.length := by rw [List.length_map]; omega
      refine ⟨sq, c1, (ks.map fun k => V.str (kdn k)), xs, rfl, .inr ⟨hsq _, hc1, fun D nD => lc_it (walk_zipT hlk rfl) (fun i H' => Same H1 H' ∧ H' D = some (.lst (((List.zipWith (fitD many) ks ds).take i).map V.bl))) ⟨same_new nD, upd_same⟩ (fun i H' _ h => ⟨hsq _, same_sqt h.1 hc1⟩) ?_ ?_⟩⟩
      · rintro i y H2 H3 hi ⟨sm, hD⟩ ⟨T, k, it, rfl, nT, rfl, e1, e2⟩
        have e1 : (ks.map fun k => V.str (kdn k))[i]? = some k := e1
        have e2 : xs[i]? = some it := e2
        rw [List.getElem?_map] at e1
        cases hk : ks[i]? with
        | none => rw [hk] at e1; cases e1
        | some kk =>
          rw [hk] at e1
          have ek : V.str (kdn kk) = k := Option.some.inj e1
          subst ek
          obtain ⟨dd, hdd, hdp⟩ := dpall_get hds e2
          have sm2 := sm.trans (same_new (o := .tup [V.str (kdn kk), it]) nT)
          have hD2 := same_new (o := .tup [V.str (kdn kk), it]) nT _ _ hD
          refine ⟨T, _, rfl, SqT.of upd_same, rfl, _, _, rfl, _, _, rfl, rfl, rfl, tYes_in ⟨_, rfl, _, rfl, _, rfl, kk, it, many, dd, rfl, dp_same (sm1.trans sm2) hdp, fun H4 sm4 => ?_⟩⟩
          refine ⟨_, sm4 _ _ hD2, ?_, fun b' o eb => ?_, ?_⟩
          · rw [List.length_map, List.length_take]
            exact small1000 (by have : (List.zipWith (fitD many) ks ds).length ≤ 4 := by rw [List.length_zipWith]; omega
                                omega)
          · rw [upd_ne (ne_of_none eb nD)]
            exact sm4 _ _ (sm2 _ _ eb)
          · rw [upd_same, List.take_add_one, show (List.zipWith (fitD many) ks ds)[i]? = some (fitD many kk dd) by rw [List.getElem?_zipWith, hk, hdd], List.map_append]
            rfl
      · rintro H2 ⟨sm, hD⟩
        rw [List.take_of_length_le (by rw [List.length_zipWith]; omega)] at hD
        refine ⟨D, _, rfl, SqL.of hD, ?_⟩
        rw [← fitsD_zip c]
        exact q _ (sm1.trans sm)
    · refine iteTT (by simp [hlx]; omega) ?_
      have := q H (Same.refl _)
      rw [fitsD_ne c] at this
      exact this
theorem ok_hasshape {f a_SHAPES : Addr} {fd : FuncData} (F : Fun K "has_shape" "has_shape" s_has_shape f fd) (gF : mg "has_shape" = some (.ref f)) (b : Binds K fd ["thing", "many"] []) (mg_SHAPES : mg "SHAPES" = some (.ref a_SHAPES)) (hE : TabE K w a_SHAPES) (c_first_word : Cal P w K mg base 1 "first_word" (spFirst K)) (c_fits_shape : Cal P w K mg base 4 "fits_shape" (spFitsSh K)) : Cal P w K mg base 5 "has_shape" (spHasSh K) := by
  refine ⟨f, fd, _, F.ok sc_has_shape (fun vs H Q E h => ?_) (fun cdv A outer s H vs Q E hr h => ?_), gF, F.kp, b⟩
  · obtain ⟨_, _, _, _, _, rfl, _⟩ := h
    rfl
  · obtain ⟨p, many, x, xs, ds, rfl, hp, hds, q⟩ := h
    refine ⟨_, (pss_cons (ps_set (i := 2) sc_has_shape.nd rfl (.inl rfl) (pe_c c_first_word hr (by omega) (by rfl) (pa_cons (pv 0) pa_nil))) (pss_one (ps_ret (pe_and (pe_cmpR op_inKd (pv 2) (pe_glob (v := .ref a_SHAPES) (by rfl) mg_SHAPES rfl) (by rfl)) (pe_one (pe_c c_fits_shape hr (by omega) (by rfl) (pa_cons (pv 0) (pa_cons (pe_ix ix_kdict (pe_glob (v := .ref a_SHAPES) (by rfl) mg_SHAPES rfl) (pv 2) (fun _ _ => rfl)) (pa_cons (pv 1) pa_nil))))))))), ?_⟩
    obtain ⟨sq, hkd, hsq⟩ := hE.2 x
    refine ⟨.ref p, rfl, p, _, xs, rfl, hp, _, rfl, _, a_SHAPES, _, rfl, rfl, hkd, hE.1, true, rfl, iteTT rfl ?_⟩
    exact ⟨.ref p, rfl, _, rfl, a_SHAPES, _, .ref sq, rfl, rfl, hkd, _, rfl, p, sq, many, _, xs, ds, _, rfl, hp, hds, hsq, wsh_len x, q⟩
theorem ok_isregs {f a_BOUNDS : Addr} {fd : FuncData} (F : Fun K "is_registers" "is_registers" s_is_registers f fd) (gF : mg "is_registers" = some (.ref f)) (b : Binds K fd ["thing"] []) (B : Bl mg) (mg_BOUNDS : mg "BOUNDS" = some (.ref a_BOUNDS)) (hN : TabN K w a_BOUNDS) {t1 : Tok} (mg_HOW_MANY_REGISTERS : mg "HOW_MANY_REGISTERS" = some (.int 4 t1)) (c_is_within : Cal P w K mg base 2 "is_within" (spInB K)) : Cal P w K mg base 3 "is_registers" (spIsRegs K) := by
  refine ⟨f, fd, _, F.ok sc_is_registers (fun vs H Q E h => ?_) (fun cdv A outer s H vs Q E hr h => ?_), gF, F.kp, b⟩
  · obtain ⟨_, _, _, rfl, _⟩ := h
    rfl
  · obtain ⟨p, xs, ds, rfl, hp, hds, q⟩ := h
    refine ⟨_, (pss_cons (ps_if (PW.pt (pw_or (pt_not (pt_val (pe_callB call_isi (by rfl) B.isinstance (by decide +kernel) (pa_cons (pv 0) (pa_cons (pe_bltn (v := .ty "tuple") (by rfl) B.tuple (by decide +kernel) rfl) pa_nil))))) (pw_or1 (pt_cmpR op_ne (pe_callB call_len_seq (by rfl) B.len PySem.boot_len (pa_cons (pv 0) pa_nil)) (pe_glob (v := .int (4)) (by rfl) mg_HOW_MANY_REGISTERS ⟨_, rfl⟩) (nomark _))))) (pss_one (ps_ret pe_bl)) pss_nil) (pss_cons (ps_asg (pe_ix ix_kdict (pe_glob (v := .ref a_BOUNDS) (by rfl) mg_BOUNDS rfl) pe_str (fun _ _ => rfl)) (pg_tup rfl (pgs_cons (pg_name (i := 1) sc_is_registers.nd rfl (.inr rfl)) (pgs_cons (pg_name (i := 2) sc_is_registers.nd rfl (.inr rfl)) pgs_nil)))) (pss_one (ps_ret (pe_callB (cr_all rfl) (by rfl) B.all (by decide +kernel) (pa_cons (pe_lc (own := [("number", 3)]) rfl sc_is_registers.nd (pi_tup (pv 0)) (blkOk_by (N := N_is_registers) (sc := defScope s_is_registers) (by decide +kernel)) (fun _ _ _ _ _ => pg_name (i := 3) sc_is_registers.nd rfl (.inl rfl)) (fun _ _ _ _ _ => pts_nil) (fun _ _ _ _ _ => pe_c c_is_within hr (by omega) (by rfl) (pa_cons (pv 3) (pa_cons (pv 1) (pa_cons (pv 2) pa_nil))))) pa_nil)))))), ?_⟩
    have hlx := dpall_len hds
    refine ⟨.ref p, rfl, .ref p, .ty "tuple", _, _, true, rfl, .ty _, tyx_tup hp, kit_ty (show kitB "tuple" "tuple" = some true by decide +kernel), true, rfl, iteFF rfl ?_⟩
    refine ⟨.ref p, rfl, p, _, rfl, .inr hp, rfl, _, rfl, ?_⟩
    by_cases c : ds.length = 4
    · refine iteFF (by simp [hlx, c]) ?_
      obtain ⟨bq, hkd, hbq⟩ := hN .figure (by decide) (by decide)
      refine ⟨a_BOUNDS, _, _, rfl, rfl, hkd, bq, _, rfl, hbq _, rfl, _, _, rfl, _, _, rfl, rfl, .ref p, rfl, p, rfl, ⟨_, hp⟩, fun D nD => lc_it walk_tup (fun i H' => Same H H' ∧ H' D = some (.lst (((ds.map (inD (-1000) 1000)).take i).map V.bl))) ⟨same_new nD, upd_same⟩ (fun i H' _ h => same_sqt h.1 hp) ?_ ?_⟩
      · rintro i y H2 H3 hi ⟨sm, hD⟩ ⟨rfl, hy⟩
        obtain ⟨dd, hdd, hdp⟩ := dpall_get hds hy
        refine ⟨rfl, tYes_in ⟨_, rfl, _, rfl, _, rfl, y, -1000, 1000, dd, rfl, dp_same sm hdp, _, hD, ?_, fun b' o eb => ?_, ?_⟩⟩
        · rw [List.length_map, List.length_take]
          exact small1000 (by omega)
        · rw [upd_ne (ne_of_none eb nD)]
          exact sm _ _ eb
        · rw [upd_same, List.take_add_one, List.getElem?_map, hdd, List.map_append]
          rfl
      · rintro H2 ⟨sm, hD⟩
        rw [List.take_of_length_le (by rw [List.length_map]; omega)] at hD
        refine ⟨D, _, rfl, SqL.of hD, ?_⟩
        have := q H2 sm
        unfold regsD at this
        rw [decide_eq_true c, Bool.true_and] at this
        rw [List.all_map]
        exact this
    · refine iteTT (by simp [hlx]; omega) ?_
      have := q H (Same.refl _)
      unfold regsD at this
      rw [decide_eq_false c] at this
      exact this
def pkK : List Kd → List V → List V
  | k :: ks, d :: ds => if k = .part then d :: pkK ks ds else pkK ks ds
  | _, _ => []
theorem pkK_len : ∀ (ks : List Kd) (ds : List V), (pkK ks ds).length ≤ ds.length
  | [], _ => Nat.zero_le _
  | _ :: _, [] => Nat.zero_le _
  | k :: ks, d :: ds => by
    have := pkK_len ks ds
    unfold pkK
    split <;> simp only [List.length_cons] <;> omega
theorem pkK_snoc : ∀ {ks : List Kd} {ds : List V} {i : Nat} {k : Kd} {d : V}, ks[i]? = some k → ds[i]? = some d → pkK (ks.take (i + 1)) (ds.take (i + 1)) = pkK (ks.take i) (ds.take i) ++ (if k = .part then [d] else [])
  | [], _, i, _, _, h, _ => by simp at h
  | _ :: _, [], i, _, _, _, h => by simp at h
  | k0 :: ks, d0 :: ds, 0, k, d, h, h2 => by
    have e1 : k0 = k := Option.some.inj h
    have e2 : d0 = d := Option.some.inj h2
    subst e1 e2
    simp [pkK]
  | k0 :: ks, d0 :: ds, i + 1, k, d, h, h2 => by
    have ih := pkK_snoc (ks := ks) (ds := ds) (i := i) h h2
    rw [List.take_succ_cons, List.take_succ_cons, List.take_succ_cons, List.take_succ_cons]
    unfold pkK
    split
    · rw [ih, List.cons_append]
    · exact ih
theorem pkK_dp {K : PySem.W.Frag} {H : Hp} : ∀ {ks : List Kd} {ds : List PyData} {xs : List V}, DpAll K H xs ds → DpAll K H (pkK ks xs) (partsD ks ds)
  | [], [], _, .nil => .nil
  | [], _ :: _, _, .cons _ _ => .nil
  | _ :: _, [], _, .nil => .nil
  | k :: ks, d :: ds, _, .cons a b => by
    unfold pkK partsD
    split
    · exact .cons a (pkK_dp b)
    · exact pkK_dp b
theorem ok_partsD {f a_SHAPES : Addr} {fd : FuncData} (F : Fun K "parts" "parts" s_parts f fd) (gF : mg "parts" = some (.ref f)) (b : Binds K fd ["expression"] []) (B : Bl mg) (mg_SHAPES : mg "SHAPES" = some (.ref a_SHAPES)) (hE : TabE K w a_SHAPES) : Cal P w K mg base 1 "parts" (spPartsD K) := by
  refine ⟨f, fd, _, F.ok sc_parts (fun vs H Q E h => ?_) (fun cdv A outer s H vs Q E hr h => ?_), gF, F.kp, b⟩
  · obtain ⟨_, _, _, _, rfl, _⟩ := h
    rfl
  · obtain ⟨p, x, xs, ds, rfl, hp, hds, hl, q⟩ := h
    obtain ⟨sq, hkd, hsq⟩ := hE.2 x
    have hlx := dpall_len hds
    have hl4 := wsh_len x
    refine ⟨_, (pss_cons (ps_set (i := 1) sc_parts.nd rfl (.inl rfl) (pe_ix ix_kdict (pe_glob (v := .ref a_SHAPES) (by rfl) mg_SHAPES rfl) (pe_ix ix_tup (pv 0) pe_int (fun _ _ => rfl)) (fun _ _ => rfl))) (pss_one (ps_ret (pe_lc (own := [("kind", 2), ("item", 3)]) rfl sc_parts.nd (RZ.pi_zipA (by rfl) B.zip (pa_cons (pv 1) (pa_cons (pe_slice sl_tup (pv 0) (po_some pe_int) po_none) pa_nil))) (blkOk_by (N := N_parts) (sc := defScope s_parts) (by decide +kernel)) (fun _ _ _ _ _ => pgtK (n := 2) K rfl (pgs_cons (pg_name (i := 2) sc_parts.nd rfl (.inl rfl)) (pgs_cons (pg_name (i := 3) sc_parts.nd rfl (.inl rfl)) pgs_nil))) (fun _ _ _ _ _ => pts_one (pt_cmpR op_eq (pv 2) pe_str (nomark _))) (fun _ _ _ _ _ => pv 3))))), ?_⟩
    refine ⟨.ref p, rfl, p, _, 0, _, rfl, rfl, hp, at_of (j := 0) rfl rfl, a_SHAPES, _, .ref sq, rfl, rfl, hkd, ?_⟩
    refine ⟨.ref sq, rfl, .ref p, rfl, 1, rfl, p, _, rfl, hp, ?_, fun c nc => ?_⟩
    · rw [show HT.sIx (V.str (wen x) :: xs).length 0 (some 1) = min 1 (V.str (wen x) :: xs).length from HT.sIx_nat _ 0 1, List.length_cons]
      have : 0 < (wsh x).length := by cases x <;> exact Nat.succ_pos _
      omega
    rw [cutT1]
    have smc : Same H (upd H c (.tup xs)) := same_new nc
    have hc : (upd H c (.tup xs)) c = some (.tup xs) := upd_same
    have hlk : ((wsh x).map fun k => V.str (kdn k)).length = xs.length := by rw [List.length_map]; omega
    refine ⟨sq, c, _, xs, rfl, .inr ⟨hsq _, SqT.of hc, fun D nD => lc_it (walk_zipT hlk rfl) (fun i H' => Same (upd H c (.tup xs)) H' ∧ H' D = some (.lst (pkK ((wsh x).take i) (xs.take i)))) ⟨same_new nD, upd_same⟩ (fun i H' _ h => ⟨hsq _, SqT.of (h.1 _ _ hc)⟩) ?_ ?_⟩⟩
    · rintro i y H1 H2 hi ⟨sm, hD⟩ ⟨T, k, it, rfl, nT, rfl, e1, e2⟩
      have e1 : ((wsh x).map fun k => V.str (kdn k))[i]? = some k := e1
      have e2 : xs[i]? = some it := e2
      rw [List.getElem?_map] at e1
      cases hk : (wsh x)[i]? with
      | none => rw [hk] at e1; cases e1
      | some kk =>
        rw [hk] at e1
        have ek : V.str (kdn kk) = k := Option.some.inj e1
        subst ek
        obtain ⟨dd, hdd, hdp⟩ := dpall_get hds e2
        have sT := same_new (o := .tup [V.str (kdn kk), it]) nT
        have sm2 := sm.trans sT
        have hD2 := sT _ _ hD
        refine ⟨T, _, rfl, SqT.of upd_same, rfl, _, _, rfl, _, _, rfl, rfl, rfl, .str (kdn kk), rfl, rfl, _, rfl, ?_⟩
        by_cases cq : kk = .part
        · subst cq
          refine iteTT (by decide) ⟨it, rfl, _, hD2, ?_, fun b' o eb => ?_, ?_⟩
          · refine small1000 (Nat.le_trans (pkK_len _ _) ?_)
            rw [List.length_take]
            omega
          · rw [upd_ne (ne_of_none eb nD)]
            exact sm2 _ _ eb
          · rw [upd_same, pkK_snoc hk e2, if_pos rfl]
        · refine iteFF (by cases kk <;> first | exact absurd rfl cq | decide) ⟨sm2, ?_⟩
          rw [hD2, pkK_snoc hk e2, if_neg cq, List.append_nil]
    · rintro H1 ⟨sm, hD⟩
      rw [List.take_of_length_le (by rw [← hlk, List.length_map]; exact Nat.le_refl _), List.take_length] at hD
      have smt := smc.trans sm
      exact q _ D _ smt (smc.free nD) hD (dpall_same smt (pkK_dp hds))
end
end NG

namespace NG
open PySem PySem.Spec PyProof.Rows L2
def spIsName (K : PySem.W.Frag) : Sp := fun vs H Q _ => ∃ (z : Str), vs = [.str z] ∧ z.length ≤ 1000 ∧ ∀ H', Same H H' → Q (.bl (nameD z)) H'
def spCntB (K : PySem.W.Frag) (n : Nat) : Sp := fun vs H Q _ => ∃ (v : V) (many : Int) (k : Nat) (d : PyData), vs = [v, .int many, .int (k : Int)] ∧ k < n ∧ Dp K H v d ∧ wdB many k d ∧ ∀ H', Same H H' → Q (optV (cntB many k d)) H'
def spDeed (K : PySem.W.Frag) (n : Nat) : Sp := fun vs H Q _ => ∃ (p : Addr) (many : Int) (k : Nat) (w : Wb) (xs : List V) (es : List PyData), vs = [.ref p, .int many, .int ((k : Int) + 1)] ∧ k < n ∧ SqT K H p (.str (wbn w) :: xs) ∧ DpAll K H xs es ∧ (fitsD many (wbsh w) es = true → ∀ y ∈ es.drop 2, wdB many k y) ∧ ∀ H', Same H H' → Q (optV (deedD many (cntB many k) (.tuple (.str (wbn w) :: es)))) H'
theorem addE_drop {l : List Nat} {t i j : Nat} (h : l[i]? = some j) : addE t (l.drop i) = if j = 0 then 0 else addE (t + j) (l.drop (i + 1)) := by
  have hi := (List.getElem?_eq_some_iff.mp h).1
  rw [List.drop_eq_getElem_cons hi, (List.getElem?_eq_some_iff.mp h).2]
  rfl
theorem addB_drop {l : List (Option Nat)} {t i : Nat} {j : Option Nat} (h : l[i]? = some j) : addB t (l.drop i) = j.bind fun n => addB (t + n) (l.drop (i + 1)) := by
  have hi := (List.getElem?_eq_some_iff.mp h).1
  rw [List.drop_eq_getElem_cons hi, (List.getElem?_eq_some_iff.mp h).2]
  cases j <;> rfl
theorem sumB_drop {l : List (Option Nat)} {t i : Nat} {j : Option Nat} (h : l[i]? = some j) : sumB t (l.drop i) = j.bind fun n => if 20 < t + n then none else sumB (t + n) (l.drop (i + 1)) := by
  have hi := (List.getElem?_eq_some_iff.mp h).1
  rw [List.drop_eq_getElem_cons hi, (List.getElem?_eq_some_iff.mp h).2]
  cases j <;> rfl
theorem cutT3 {x : V} {xs : List V} : cutV (x :: xs) (some 3) none = xs.drop 2 := by
  unfold cutV
  rw [show HT.sIx (x :: xs).length 0 (some 3) = min 3 (x :: xs).length from HT.sIx_nat _ 0 3, HT.sIx_none, List.length_cons]
  by_cases c : 2 ≤ xs.length
  · rw [show min 3 (xs.length + 1) = 3 by omega]
    show List.take (xs.length + 1 - 3) (xs.drop 2) = xs.drop 2
    rw [List.take_of_length_le (by rw [List.length_drop]; omega)]
  · rw [show min 3 (xs.length + 1) = xs.length + 1 by omega]
    rw [show xs.drop 2 = [] from List.drop_of_length_le (by omega), show (x :: xs).drop (xs.length + 1) = [] from List.drop_of_length_le (by simp), List.take_nil]
section
variable {P : Program} {w : World} {K : PySem.W.Frag} {mg : Str → Option Value} {base : Heap}
theorem ok_cntE {f : Addr} {fd : FuncData} (F : Fun K "count_parts" "count_parts" s_count_parts f fd) (gF : mg "count_parts" = some (.ref f)) (b : Binds K fd ["thing", "many", "deep"] []) (c_has_shape : Cal P w K mg base 5 "has_shape" (spHasSh K)) (c_parts : Cal P w K mg base 1 "parts" (spPartsD K)) : ∀ n, Cal P w K mg base (n + 6) "count_parts" (spCntE K n)
  | 0 => cal_never F gF b fun vs H Q E => by rintro ⟨_, _, k, _, _, hk, _⟩; omega
  | n + 1 => by
    have c_count_parts := ok_cntE F gF b c_has_shape c_parts n
    refine ⟨f, fd, _, F.ok sc_count_parts (fun vs H Q E h => ?_) (fun cdv A outer s H vs Q E hr h => ?_), gF, F.kp, b⟩
    · obtain ⟨_, _, _, _, rfl, _⟩ := h
      rfl
    · obtain ⟨v, many, k, d, rfl, hk, hd, hw, q⟩ := h
      refine ⟨_, (pss_cons (ps_if (PW.pt (pw_or (pt_cmpR op_eq (pv 2) pe_int (nomark _)) (pw_or1 (pt_not (pt_val (pe_c c_has_shape hr (by omega) (by rfl) (pa_cons (pv 0) (pa_cons (pv 1) pa_nil)))))))) (pss_one (ps_ret pe_int)) pss_nil) (pss_cons (ps_set (i := 3) sc_count_parts.nd rfl (.inl rfl) pe_int) (pss_cons (ps_for PassesOwn.never rfl (pi_list (pe_c c_parts hr (by omega) (by rfl) (pa_cons (pv 0) pa_nil))) (pg_name (i := 4) sc_count_parts.nd rfl (.inl rfl)) (pss_cons (ps_set (i := 5) sc_count_parts.nd rfl (.inl rfl) (pe_c c_count_parts hr (by omega) (by rfl) (pa_cons (pv 4) (pa_cons (pv 1) (pa_cons (pe_op op_sub (pv 2) pe_int) pa_nil))))) (pss_cons (ps_if (pt_cmpR op_eq (pv 5) pe_int (nomark _)) (pss_one (ps_ret pe_int)) pss_nil) (pss_one (ps_aug (i := 3) sc_count_parts.nd rfl (.inl rfl) (pv 5) ip_add))))) (pss_one (ps_ret (pv 3)))))), ?_⟩
      cases k with
      | zero => exact ⟨_, rfl, rfl, _, rfl, iteTT (by rfl) (iteTT rfl (q _ (Same.refl _)))⟩
      | succ k =>
        obtain ⟨x, ds, rfl, hwd⟩ := hw
        cases hd with
        | @tup p xs0 _ hp ha =>
          cases ha with
          | @cons y xs _ _ hy hds =>
            cases hy
            rw [cntE_eq] at q
            refine ⟨_, rfl, rfl, _, rfl, iteFF (by rw [decide_eq_false (by intro e; cases e)]) ?_⟩
            refine ⟨_, rfl, _, rfl, p, many, x, xs, ds, rfl, hp, hds, fun H1 sm1 => ⟨_, rfl, ?_⟩⟩
            by_cases c : fitsD many (wsh x) ds = true
            · rw [if_pos c] at q
              rw [c]
              refine iteFF rfl ?_
              refine ⟨_, rfl, p, x, xs, ds, rfl, same_sqt sm1 hp, dpall_same sm1 hds, fitsD_len c, fun H2 l us sm2 nl hl hus => ?_⟩
              have hlen := dpall_len hus
              refine ⟨l, rfl, ⟨_, SqL.of hl⟩, for_list (xs := us) (fun i σ H' => ∃ (t : Nat) (y4 y5 : Option V), σ = [some (.ref p), some (.int many), some (.int ((k + 1 : Nat) : Int)), some (.int (t : Int)), y4, y5] ∧ Same H2 H' ∧ addE 1 ((partsD (wsh x) ds).map (cntE many k)) = addE t (((partsD (wsh x) ds).map (cntE many k)).drop i)) ⟨1, none, none, rfl, Same.refl _, rfl⟩ (fun i σ H' _ h => ?_) ?_ ?_⟩
              · obtain ⟨_, _, _, _, sm, _⟩ := h
                exact SqL.of (sm _ _ hl)
              · rintro i y σ H3 hy ⟨t, y4, y5, rfl, sm3, e⟩
                obtain ⟨dd, hdd, hdp⟩ := dpall_get hus hy
                have hm : ((partsD (wsh x) ds).map (cntE many k))[i]? = some (cntE many k dd) := by rw [List.getElem?_map, hdd]; rfl
                rw [addE_drop hm] at e
                refine ⟨_, rfl, _, rfl, _, rfl, _, _, rfl, rfl, y, many, k, dd, ?_, by omega, dp_same sm3 hdp, hwd c dd (List.mem_of_getElem? hdd), fun H4 sm4 => ?_⟩
                · show [y, V.int many, V.int (((k + 1 : Nat) : Int) - 1)] = _
                  rw [show ((k + 1 : Nat) : Int) - 1 = (k : Int) by omega]
                by_cases c0 : cntE many k dd = 0
                · rw [if_pos c0] at e
                  rw [e] at q
                  exact ⟨_, rfl, rfl, _, rfl, iteTT (by rw [c0]; rfl) (q _ (((sm1.trans sm2).trans sm3).trans sm4))⟩
                · rw [if_neg c0] at e
                  refine ⟨_, rfl, rfl, _, rfl, iteFF (decide_eq_false fun e => c0 (by have := V.int.inj e; omega)) ?_⟩
                  exact ⟨_, rfl, _, rfl, _, _, rfl, rfl, t + cntE many k dd, _, _, rfl, sm3.trans sm4, e⟩
              · rintro σ H3 ⟨t, y4, y5, rfl, sm3, e⟩
                rw [List.drop_of_length_le (by rw [List.length_map, hlen]; exact Nat.le_refl _)] at e
                rw [e] at q
                exact ⟨_, rfl, q _ ((sm1.trans sm2).trans sm3)⟩
            · rw [if_neg c] at q
              rw [Bool.not_eq_true] at c
              rw [c]
              exact iteTT rfl (q _ sm1)
theorem ok_isex {f : Addr} {fd : FuncData} (F : Fun K "is_expression" "is_expression" s_is_expression f fd) (gF : mg "is_expression" = some (.ref f)) (b : Binds K fd ["thing", "many"] []) {t1 t2 : Tok} (mg_MOST_DEEP_expressions : mg "MOST_DEEP_expressions" = some (.int 8 t1)) (mg_MOST_PARTS : mg "MOST_PARTS" = some (.int 40 t2)) (c_count_parts : Cal P w K mg base 15 "count_parts" (spCntE K 9)) : Cal P w K mg base 16 "is_expression" (spIsEx K) := by
  refine ⟨f, fd, _, F.ok sc_is_expression (fun vs H Q E h => ?_) (fun cdv A outer s H vs Q E hr h => ?_), gF, F.kp, b⟩
  · obtain ⟨_, _, _, rfl, _⟩ := h
    rfl
  · obtain ⟨v, many, d, rfl, hd, hw, q⟩ := h
    refine ⟨_, (pss_one (ps_ret (pe_chain op_le op_le pe_int (pe_c c_count_parts hr (by omega) (by rfl) (pa_cons (pv 0) (pa_cons (pv 1) (pa_cons (pe_glob (v := .int (8)) (by rfl) mg_MOST_DEEP_expressions ⟨_, rfl⟩) pa_nil)))) (pe_glob (v := .int (40)) (by rfl) mg_MOST_PARTS ⟨_, rfl⟩)))), ?_⟩
    refine ⟨_, rfl, _, rfl, v, many, 8, d, rfl, by decide, hd, hw, fun H1 sm1 => ?_⟩
    have q := q H1 sm1
    unfold isEx at q
    refine ⟨_, _, rfl, rfl, _, rfl, ?_⟩
    by_cases c : 1 ≤ cntE many 8 d
    · rw [decide_eq_true c, Bool.true_and] at q
      refine iteTT (decide_eq_true (by omega)) ⟨_, _, rfl, rfl, ?_⟩
      show Q (.bl (decide (((cntE many 8 d : Nat) : Int) ≤ 40))) H1
      rw [show decide (((cntE many 8 d : Nat) : Int) ≤ 40) = decide (cntE many 8 d ≤ 40) by rw [decide_eq_decide]; omega]
      exact q
    · rw [decide_eq_false c, Bool.false_and] at q
      exact iteFF (decide_eq_false (by omega)) q
theorem ok_isname {f : Addr} {fd : FuncData} (F : Fun K "is_name" "is_name" s_is_name f fd) (gF : mg "is_name" = some (.ref f)) (b : Binds K fd ["thing"] []) (B : Bl mg) {t1 t2 : Tok} (mg_LONGEST_NAME : mg "LONGEST_NAME" = some (.int 8 t1)) (mg_LETTERS : mg "LETTERS" = some (.str "abcdefghijklmnopqrstuvwxyz" t2)) : Cal P w K mg base 1 "is_name" (spIsName K) := by
  refine ⟨f, fd, _, F.ok sc_is_name (fun vs H Q E h => ?_) (fun cdv A outer s H vs Q E hr h => ?_), gF, F.kp, b⟩
  · obtain ⟨_, rfl, _⟩ := h
    rfl
  · obtain ⟨z, rfl, hz, q⟩ := h
    refine ⟨_, (pss_cons (ps_if (PW.pt (pw_or (pt_not (pt_val (pe_callB call_isi (by rfl) B.isinstance (by decide +kernel) (pa_cons (pv 0) (pa_cons (pe_bltn (v := .ty "str") (by rfl) B.str (by decide +kernel) rfl) pa_nil))))) (pw_or1 (pt_not (pt_chain op_le op_le pe_int (pe_callB call_len_str (by rfl) B.len PySem.boot_len (pa_cons (pv 0) pa_nil)) (pe_glob (v := .int (8)) (by rfl) mg_LONGEST_NAME ⟨_, rfl⟩)))))) (pss_one (ps_ret pe_bl)) pss_nil) (pss_one (ps_ret (pe_callB (cr_all rfl) (by rfl) B.all (by decide +kernel) (pa_cons (pe_lc (own := [("letter", 1)]) rfl sc_is_name.nd (pi_str (pv 0)) (blkOk_by (N := N_is_name) (sc := defScope s_is_name) (by decide +kernel)) (fun _ _ _ _ _ => pg_name (i := 1) sc_is_name.nd rfl (.inl rfl)) (fun _ _ _ _ _ => pts_nil) (fun _ _ _ _ _ => pe_cmpR op_in_sign (pv 1) (pe_glob (v := .str "abcdefghijklmnopqrstuvwxyz") (by rfl) mg_LETTERS ⟨_, rfl⟩) (by rfl))) pa_nil))))), ?_⟩
    refine ⟨_, rfl, .str z, .ty "str", _, _, true, rfl, .ty _, .base (.str z), kit_ty (show kitB "str" "str" = some true by decide +kernel), true, rfl, iteFF rfl ?_⟩
    refine ⟨_, rfl, z, rfl, Nat.le_of_lt (small1000 (by omega)), _, _, rfl, rfl, _, rfl, ?_⟩
    by_cases c1 : 1 ≤ z.length
    · refine iteTT (decide_eq_true (by omega)) ⟨_, _, rfl, rfl, _, rfl, ?_⟩
      by_cases c2 : z.length ≤ 8
      · rw [decide_eq_true (show ((z.length : Nat) : Int) ≤ 8 by omega)]
        refine iteFF rfl ?_
        refine ⟨_, rfl, z, rfl, fun D nD => lc_it walk_str (fun i H' => Same H H' ∧ H' D = some (.lst (((z.cps.toList.map fun c => decide (c ∈ ("abcdefghijklmnopqrstuvwxyz" : Str).cps.toList)).take i).map V.bl))) ⟨same_new nD, upd_same⟩ (fun i H' _ h => trivial) ?_ ?_⟩
        · rintro i y H2 H3 hi ⟨sm, hD⟩ ⟨rfl, c, hc, rfl⟩
          refine ⟨rfl, tYes_in ⟨_, rfl, c, _, rfl, rfl, _, hD, ?_, fun b' o eb => ?_, ?_⟩⟩
          · rw [List.length_map, List.length_take, List.length_map]
            exact small1000 (by have : z.cps.toList.length = z.length := Array.length_toList; omega)
          · rw [upd_ne (ne_of_none eb nD)]
            exact sm _ _ eb
          · rw [upd_same, List.take_add_one, List.getElem?_map, Array.getElem?_toList, hc, List.map_append]
            rfl
        · rintro H2 ⟨sm, hD⟩
          rw [List.take_of_length_le (by rw [List.length_map, Array.length_toList]; exact Nat.le_refl _)] at hD
          refine ⟨D, _, rfl, SqL.of hD, ?_⟩
          have := q H2 sm
          unfold nameD at this
          rw [decide_eq_true c1, decide_eq_true c2, Bool.true_and, Bool.true_and] at this
          rw [List.all_map]
          exact this
      · rw [decide_eq_false (show ¬ ((z.length : Nat) : Int) ≤ 8 by omega)]
        refine iteTT rfl ?_
        have := q H (Same.refl _)
        unfold nameD at this
        rw [decide_eq_true c1, decide_eq_false c2] at this
        exact this
    · refine iteFF (decide_eq_false (by omega)) ⟨_, rfl, iteTT rfl ?_⟩
      have := q H (Same.refl _)
      unfold nameD at this
      rw [decide_eq_false c1] at this
      exact this
theorem ok_deed {f a_DEEDS : Addr} {fd : FuncData} (F : Fun K "count_deed" "count_deed" s_count_deed f fd) (gF : mg "count_deed" = some (.ref f)) (b : Binds K fd ["thing", "many", "deep"] []) (mg_DEEDS : mg "DEEDS" = some (.ref a_DEEDS)) (hB : TabB K w a_DEEDS) (c_first_word : Cal P w K mg base 1 "first_word" (spFirst K)) (c_fits_shape : Cal P w K mg base 4 "fits_shape" (spFitsSh K)) {n lv : Nat} (hlv : 4 ≤ lv) (c_count_deeds : Cal P w K mg base lv "count_deeds" (spCntB K n)) : Cal P w K mg base (lv + 1) "count_deed" (spDeed K n) := by
  refine ⟨f, fd, _, F.ok sc_count_deed (fun vs H Q E h => ?_) (fun cdv A outer s H vs Q E hr h => ?_), gF, F.kp, b⟩
  · obtain ⟨_, _, _, _, _, _, rfl, _⟩ := h
    rfl
  · obtain ⟨p, many, k, x, xs, es, rfl, hk, hp, hes, hwd, q⟩ := h
    refine ⟨_, (pss_cons (ps_set (i := 3) sc_count_deed.nd rfl (.inl rfl) (pe_c c_first_word hr (by omega) (by rfl) (pa_cons (pv 0) pa_nil))) (pss_cons (ps_if (PW.pt (pw_or (pt_cmpR op_ninKd (pv 3) (pe_glob (v := .ref a_DEEDS) (by rfl) mg_DEEDS rfl) (by rfl)) (pw_or1 (pt_not (pt_val (pe_c c_fits_shape hr (by omega) (by rfl) (pa_cons (pv 0) (pa_cons (pe_ix ix_kdict (pe_glob (v := .ref a_DEEDS) (by rfl) mg_DEEDS rfl) (pv 3) (fun _ _ => rfl)) (pa_cons (pv 1) pa_nil))))))))) (pss_one (ps_ret pe_non)) pss_nil) (pss_cons (ps_set (i := 4) sc_count_deed.nd rfl (.inl rfl) pe_int) (pss_cons (ps_for PassesOwn.never rfl (pi_tup (pe_slice sl_tupA (pv 0) (po_some pe_int) po_none)) (pg_name (i := 5) sc_count_deed.nd rfl (.inl rfl)) (pss_cons (ps_set (i := 6) sc_count_deed.nd rfl (.inl rfl) (pe_c c_count_deeds hr (by omega) (by rfl) (pa_cons (pv 5) (pa_cons (pv 1) (pa_cons (pe_op op_sub (pv 2) pe_int) pa_nil))))) (pss_cons (ps_if (pt_cmpR op_isN (pv 6) pe_non (nomark _)) (pss_one (ps_ret pe_non)) pss_nil) (pss_one (ps_aug (i := 4) sc_count_deed.nd rfl (.inl rfl) (pv 6) ip_add))))) (pss_one (ps_ret (pv 4))))))), ?_⟩
    obtain ⟨sq, hkd, hsq⟩ := hB.2 x
    rw [deedD_eq] at q
    refine ⟨_, rfl, p, _, xs, rfl, hp, _, rfl, _, a_DEEDS, _, rfl, rfl, hkd, hB.1, _, rfl, iteFF rfl ?_⟩
    refine ⟨_, rfl, _, rfl, a_DEEDS, _, .ref sq, rfl, rfl, hkd, _, rfl, p, sq, many, _, xs, es, _, rfl, hp, hes, hsq, wbsh_len x, fun H1 sm1 => ⟨_, rfl, ?_⟩⟩
    by_cases c : fitsD many (wbsh x) es = true
    · rw [if_pos c] at q
      rw [c]
      refine iteFF rfl ?_
      refine ⟨_, rfl, 3, rfl, ?_⟩
      dsimp only [tNoPart]
      refine slA (same_sqt sm1 hp) fun H2 c2 sm2 hc2 => ?_
      rw [cutT3] at hc2
      have sm12 := sm1.trans sm2
      have hus := dpall_drop (n := 2) (dpall_same sm12 hes)
      have hlen := dpall_len hus
      refine ⟨c2, rfl, ⟨_, hc2⟩, ?_⟩
      refine for_tup (K := K) (a := c2) (xs := xs.drop 2) (σ := [some (.ref p), some (.int many), some (.int ((k : Int) + 1)), some (.str (wbn x)), some (.int 1), none, none]) (H := H2) (g := gName 5) (D := { nx := tRet (tVar 4) { nx := fun x H' => Q V.non H', rt := Q }, rt := Q }) (fun i σ H' => ∃ (t : Nat) (y5 y6 : Option V), σ = [some (.ref p), some (.int many), some (.int ((k : Int) + 1)), some (.str (wbn x)), some (.int (t : Int)), y5, y6] ∧ Same H2 H' ∧ addB 1 ((es.drop 2).map (cntB many k)) = addB t (((es.drop 2).map (cntB many k)).drop i)) ⟨1, none, none, by rfl, Same.refl _, by rfl⟩ (fun i σ H' _ h => ?_) ?_ ?_
      · obtain ⟨_, _, _, _, sm, _⟩ := h
        exact same_sqt sm hc2
      · rintro i y σ H3 hy ⟨t, y5, y6, rfl, sm3, e⟩
        obtain ⟨dd, hdd, hdp⟩ := dpall_get hus hy
        have hm : ((es.drop 2).map (cntB many k))[i]? = some (cntB many k dd) := by rw [List.getElem?_map, hdd]; rfl
        rw [addB_drop hm] at e
        have hwy := hwd c dd (List.mem_of_getElem? hdd)
        refine ⟨_, rfl, _, rfl, _, rfl, _, _, rfl, rfl, y, many, k, dd, ?_, hk, dp_same sm3 hdp, hwy, fun H4 sm4 => ?_⟩
        · show [y, V.int many, V.int ((k : Int) + 1 - 1)] = _
          rw [show (k : Int) + 1 - 1 = (k : Int) by omega]
        cases hc0 : cntB many k dd with
        | none =>
          rw [hc0] at e
          rw [e] at q
          exact ⟨_, rfl, rfl, _, rfl, iteTT rfl (q _ ((sm12.trans sm3).trans sm4))⟩
        | some j =>
          rw [hc0] at e
          exact ⟨_, rfl, rfl, _, rfl, iteFF rfl ⟨_, rfl, _, rfl, _, _, rfl, rfl, t + j, _, _, rfl, sm3.trans sm4, e⟩⟩
      · rintro σ H3 ⟨t, y5, y6, rfl, sm3, e⟩
        have hdr : ((es.drop 2).map (cntB many k)).drop (xs.drop 2).length = [] := List.drop_of_length_le (by rw [List.length_map, hlen]; exact Nat.le_refl _)
        rw [hdr] at e
        rw [e] at q
        exact ⟨_, rfl, q _ (sm12.trans sm3)⟩
    · rw [if_neg c] at q
      rw [Bool.not_eq_true] at c
      rw [c]
      exact iteTT rfl (q _ sm1)
theorem ok_deeds' {f g a_DEEDS : Addr} {fd gd : FuncData} (F : Fun K "count_deeds" "count_deeds" s_count_deeds f fd) (gF : mg "count_deeds" = some (.ref f)) (b : Binds K fd ["thing", "many", "deep"] []) (B : Bl mg) (G : Fun K "count_deed" "count_deed" s_count_deed g gd) (gG : mg "count_deed" = some (.ref g)) (bG : Binds K gd ["thing", "many", "deep"] []) (mg_DEEDS : mg "DEEDS" = some (.ref a_DEEDS)) (hB : TabB K w a_DEEDS) {t1 : Tok} (mg_MOST_DEEDS : mg "MOST_DEEDS" = some (.int 20 t1)) (c_first_word : Cal P w K mg base 1 "first_word" (spFirst K)) (c_fits_shape : Cal P w K mg base 4 "fits_shape" (spFitsSh K)) : ∀ n, Cal P w K mg base (2 * n + 4) "count_deeds" (spCntB K n)
  | 0 => cal_never F gF b fun vs H Q E => by rintro ⟨_, _, k, _, _, hk, _⟩; omega
  | n + 1 => by
    have c_count_deed := ok_deed G gG bG mg_DEEDS hB c_first_word c_fits_shape (by omega) (ok_deeds' F gF b B G gG bG mg_DEEDS hB mg_MOST_DEEDS c_first_word c_fits_shape n)
    refine Cal.mono (j := 2 * n + 6) ⟨f, fd, _, F.ok sc_count_deeds (fun vs H Q E h => ?_) (fun cdv A outer s H vs Q E hr h => ?_), gF, F.kp, b⟩ (by omega)
    · obtain ⟨_, _, _, _, rfl, _⟩ := h
      rfl
    · obtain ⟨v, many, k, d, rfl, hk, hd, hw, q⟩ := h
      refine ⟨_, (C8.pss_cut (ps_if (PW.pt (pw_or (pt_not (pt_val (pe_callB call_isi (by rfl) B.isinstance (by decide +kernel) (pa_cons (pv 0) (pa_cons (pe_bltn (v := .ty "tuple") (by rfl) B.tuple (by decide +kernel) rfl) pa_nil))))) (pw_or1 (PW.pt (pw_and (pt_truth (pv 0) (by intro _; rfl)) (pw_and1 (pt_cmpR op_eq (pv 2) pe_int (nomark _)))))))) (pss_one (ps_ret pe_non)) pss_nil) (pss_cons (ps_set (i := 3) sc_count_deeds.nd rfl (.inl rfl) pe_int) (pss_cons (ps_for PassesOwn.never rfl (pi_tup (pv 0)) (pg_name (i := 4) sc_count_deeds.nd rfl (.inl rfl)) (pss_cons (ps_set (i := 5) sc_count_deeds.nd rfl (.inl rfl) (pe_c c_count_deed hr (by omega) (by rfl) (pa_cons (pv 4) (pa_cons (pv 1) (pa_cons (pv 2) pa_nil))))) (pss_cons (ps_if (PW.pt (pw_or (pt_cmpR op_isN (pv 5) pe_non (nomark _)) (pw_or1 (pt_cmpR op_gt (pe_op op_add (pv 3) (pv 5)) (pe_glob (v := .int (20)) (by rfl) mg_MOST_DEEDS ⟨_, rfl⟩) (nomark _))))) (pss_one (ps_ret pe_non)) pss_nil) (pss_one (ps_aug (i := 3) sc_count_deeds.nd rfl (.inl rfl) (pv 5) ip_add))))) (pss_one (ps_ret (pv 3)))))), ?_⟩
      refine ⟨fun σ H' => σ = [some v, some (.int many), some (.int (k : Int)), none, none, none] ∧ H' = H ∧ ∃ p xs ds, v = .ref p ∧ d = .tuple ds ∧ SqT K H p xs ∧ DpAll K H xs ds ∧ (ds = [] ∨ ∃ k', k = k' + 1), ?_, ?_⟩
      · refine ⟨_, rfl, v, .ty "tuple", _, _, _, rfl, .ty _, Dp.tyx hd, kit_ty (kit_tup d), _, rfl, ?_⟩
        cases hd with
        | @tup p xs ds hp hds =>
          refine iteFF rfl ⟨_, rfl, !xs.isEmpty, .inr (.inl ⟨_, hp, rfl⟩), ?_⟩
          have hlx := dpall_len hds
          cases xs with
          | nil => exact iteFF rfl (iteFF rfl ⟨rfl, rfl, p, [], ds, rfl, rfl, hp, hds, .inl (List.eq_nil_of_length_eq_zero (by simpa using hlx.symm))⟩)
          | cons x xs =>
            refine iteTT rfl ⟨_, rfl, rfl, _, rfl, ?_⟩
            cases k with
            | zero =>
              cases ds with
              | nil => simp at hlx
              | cons d0 ds => exact iteTT (by rfl) (q _ (Same.refl _))
            | succ k' => exact iteFF (decide_eq_false (by intro e; cases e)) ⟨rfl, rfl, p, _, ds, rfl, rfl, hp, hds, .inr ⟨k', rfl⟩⟩
        | non => exact iteTT rfl (iteTT rfl (by have := q _ (Same.refl _); cases k <;> exact this))
        | bl _ => exact iteTT rfl (iteTT rfl (by have := q _ (Same.refl _); cases k <;> exact this))
        | int _ => exact iteTT rfl (iteTT rfl (by have := q _ (Same.refl _); cases k <;> exact this))
        | str _ => exact iteTT rfl (iteTT rfl (by have := q _ (Same.refl _); cases k <;> exact this))
        | lst _ _ => exact iteTT rfl (iteTT rfl (by have := q _ (Same.refl _); cases k <;> exact this))
      · rintro σ H1 ⟨rfl, rfl, p, xs, ds, rfl, rfl, hp, hds, hor⟩
        have hlx := dpall_len hds
        refine ⟨_, rfl, p, rfl, ⟨_, hp⟩, for_tup (xs := xs) (fun i σ H' => ∃ (t : Nat) (y4 y5 : Option V), σ = [some (.ref p), some (.int many), some (.int (k : Int)), some (.int (t : Int)), y4, y5] ∧ Same H1 H' ∧ cntB many k (.tuple ds) = sumB t ((ds.map (deedD many (cntB many (k - 1)))).drop i)) ⟨0, none, none, rfl, Same.refl _, ?_⟩ (fun i σ H' _ h => ?_) ?_ ?_⟩
        · rw [List.drop_zero]
          rcases hor with rfl | ⟨k', rfl⟩
          · cases k <;> rfl
          · rfl
        · obtain ⟨_, _, _, _, sm, _⟩ := h
          exact same_sqt sm hp
        · rintro i y σ H3 hy ⟨t, y4, y5, rfl, sm3, e⟩
          obtain ⟨dd, hdd, hdp⟩ := dpall_get hds hy
          rcases hor with rfl | ⟨k', rfl⟩
          · simp at hdd
          obtain ⟨x, es, rfl, hwy⟩ := hw ds rfl dd (List.mem_of_getElem? hdd)
          have hm : (ds.map (deedD many (cntB many (k' + 1 - 1))))[i]? = some (deedD many (cntB many k') (.tuple (.str (wbn x) :: es))) := by rw [List.getElem?_map, hdd]; rfl
          rw [sumB_drop hm] at e
          cases hdp with
          | @tup py zs0 _ hpy ha =>
            cases ha with
            | @cons _ zs _ _ hz hzs =>
              cases hz
              refine ⟨_, rfl, _, rfl, _, rfl, py, many, k', x, zs, es, rfl, by omega, same_sqt sm3 hpy, dpall_same sm3 hzs, hwy, fun H4 sm4 => ?_⟩
              cases hc : deedD many (cntB many k') (.tuple (.str (wbn x) :: es)) with
              | none =>
                rw [hc] at e
                rw [e] at q
                exact ⟨_, rfl, rfl, _, rfl, iteTT rfl (iteTT rfl (q _ (sm3.trans sm4)))⟩
              | some j =>
                rw [hc] at e
                dsimp only [Option.bind] at e
                refine ⟨_, rfl, rfl, _, rfl, iteFF rfl ⟨_, rfl, _, rfl, _, _, rfl, rfl, _, _, rfl, rfl, _, rfl, ?_⟩⟩
                by_cases c : 20 < t + j
                · rw [if_pos c] at e
                  rw [e] at q
                  exact iteTT (decide_eq_true (by omega)) (q _ (sm3.trans sm4))
                · rw [if_neg c] at e
                  exact iteFF (decide_eq_false (by omega)) ⟨_, rfl, _, rfl, _, _, rfl, rfl, t + j, _, _, rfl, sm3.trans sm4, e⟩
        · rintro σ H3 ⟨t, y4, y5, rfl, sm3, e⟩
          rw [List.drop_of_length_le (by rw [List.length_map, hlx]; exact Nat.le_refl _)] at e
          rw [e] at q
          exact ⟨_, rfl, q _ sm3⟩
end
end NG

namespace NG
open PySem PySem.Spec PyProof.Rows L2
section
variable {P : Program} {w : World} {K : PySem.W.Frag} {mg : Str → Option Value} {base : Heap}
theorem fn_span {f : Addr} {fd : FuncData} (F : Fun K "span" "span" s_span f fd) (gF : mg "span" = some (.ref f)) (b : Binds K fd ["expression"] []) (B : Bl mg) (c_parts : Cal P w K mg base 1 "parts" (spParts K)) (c_join_spans : Cal P w K mg base 1 "join_spans" (spJoinS K)) : ∀ n, FnOk P w K mg base CX0 (n + 2) f fd ["expression"] (spSpan K n) := by
  intro n
  induction n with
  | zero =>
    refine fn_never fun vs H Q E h => ?_
    obtain ⟨_, e, _, _, _, _, hd, _⟩ := h
    cases e <;> (unfold Ex.dep at hd; omega)
  | succ n ih =>
  have c_span : Cal P w K mg base (n + 2) "span" (spSpan K n) := ⟨f, fd, _, ih, gF, F.kp, b⟩
  refine F.ok sc_span (fun vs H Q E h => ?_) (fun cdv A outer s H vs Q E hr h => ?_)
  · obtain ⟨_, _, _, rfl, _⟩ := h
    rfl
  · obtain ⟨v, e, many, rfl, he, ho, hd, q⟩ := h
    refine ⟨_, (pss_cons (ps_set (i := 1) sc_span.nd rfl (.inl rfl) (pe_ix ix_tup (pv 0) pe_int (fun _ _ => rfl))) (pss_cons (ps_if (pt_cmpR op_eq (pv 1) pe_str (nomark _)) (pss_one (ps_ret (pe_tup (pa_cons (pe_ix ix_tup (pv 0) pe_int (fun _ _ => rfl)) (pa_cons (pe_ix ix_tup (pv 0) pe_int (fun _ _ => rfl)) pa_nil))))) pss_nil) (pss_cons (ps_if (pt_cmpR op_eq (pv 1) pe_str (nomark _)) (pss_one (ps_ret (pe_tup (pa_cons (pe_un un_neg pe_int) (pa_cons pe_int pa_nil))))) pss_nil) (pss_cons (ps_if (pt_cmpR op_eq (pv 1) pe_str (nomark _)) (pss_one (ps_ret (pe_tup (pa_cons pe_int (pa_cons pe_int pa_nil))))) pss_nil) (pss_cons (ps_setLc (i := 2) (own := [("part", 3)]) rfl sc_span.nd rfl rfl (sw_true rfl rfl rfl (by decide +kernel)) (pi_list (pe_c c_parts hr (by omega) (by rfl) (pa_cons (pv 0) pa_nil))) (blkOk_by (N := N_span) (sc := defScope s_span) (by decide +kernel)) (fun _ _ _ _ _ => pg_name (i := 3) sc_span.nd rfl (.inl rfl)) (fun _ _ _ _ _ => pts_nil) (fun _ _ _ _ _ => pe_c c_span hr (by omega) (by rfl) (pa_cons (pv 3) pa_nil))) (pss_cons (ps_if (pt_cmpR op_eq (pv 1) pe_str (nomark _)) (pss_cons (ps_setLc (i := 4) (own := [("end", 5)]) rfl sc_span.nd rfl rfl (sw_true rfl rfl rfl (by decide +kernel)) (pi_tup (pe_ix ix_list (pv 2) pe_int (fun _ _ => rfl))) (blkOk_by (N := N_span) (sc := defScope s_span) (by decide +kernel)) (fun _ _ _ _ _ => pg_name (i := 5) sc_span.nd rfl (.inl rfl)) (fun _ _ _ _ _ => pts_nil) (fun _ _ _ _ _ => pe_op op_mul (pe_ix (ixt K) (pv 0) pe_int (fun _ _ => rfl)) (pv 5))) (pss_one (ps_ret (pe_tup (pa_cons (pe_callB (cr_min rfl) (by rfl) B.min (by decide +kernel) (pa_cons (pv 4) pa_nil)) (pa_cons (pe_callB (cr_max rfl) (by rfl) B.max (by decide +kernel) (pa_cons (pv 4) pa_nil)) pa_nil)))))) pss_nil) (pss_cons (ps_if (pt_cmpR op_eq (pv 1) pe_str (nomark _)) (pss_cons (ps_set (i := 6) sc_span.nd rfl (.inl rfl) (pe_callB (cr_max rfl) (by rfl) B.max (by decide +kernel) (pa_cons (pe_lc (own := [("end", 5)]) rfl sc_span.nd (pi_tup (pe_ix ix_list (pv 2) pe_int (fun _ _ => rfl))) (blkOk_by (N := N_span) (sc := defScope s_span) (by decide +kernel)) (fun _ _ _ _ _ => pg_name (i := 5) sc_span.nd rfl (.inl rfl)) (fun _ _ _ _ _ => pts_nil) (fun _ _ _ _ _ => pe_callB call_abs (by rfl) B.abs (by decide +kernel) (pa_cons (pv 5) pa_nil))) pa_nil))) (pss_one (ps_ret (pe_tup (pa_cons (pe_op op_mul (pe_un un_neg pe_int) (pv 6)) (pa_cons (pe_op op_mul pe_int (pv 6)) pa_nil)))))) pss_nil) (pss_one (ps_ret (pe_c c_join_spans hr (by omega) (by rfl) (pa_cons (pv 1) (pa_cons (pe_ix ix_list (pv 2) pe_int (fun _ _ => rfl)) (pa_cons (pe_ix ix_list (pv 2) pe_int (fun _ _ => rfl)) pa_nil))))))))))))), ?_⟩
    obtain ⟨p, xs, rfl, hp, hl, hl4, hl0, hrow⟩ := he.lies
    refine ⟨.ref p, rfl, p, _, 0, _, rfl, rfl, hp, at_of (j := 0) rfl rfl, ?_⟩
    refine ⟨_, rfl, rfl, _, rfl, ?_⟩
    by_cases hleaf : e.kids = []
    · cases e with
      | fig c =>
        refine iteTT rfl ?_
        have hp : SqT K H p [.str "fig", .int c] := by
          obtain ⟨p', e', q'⟩ := he
          cases e'
          exact q'
        exact ⟨.ref p, rfl, p, _, 1, _, rfl, rfl, hp, rfl, .ref p, rfl, p, _, 1, _, rfl, rfl, hp, rfl, (by show 2 ≤ sizeLine; decide), fun t nt => q _ _ (same_new nt) ⟨t, rfl, SqT.of upd_same⟩⟩
      | reg i =>
        refine iteFF rfl ⟨_, rfl, rfl, _, rfl, iteTT rfl ?_⟩
        exact ⟨_, rfl, (by show 2 ≤ sizeLine; decide), fun t nt => q _ _ (same_new nt) ⟨t, rfl, SqT.of upd_same⟩⟩
      | share j =>
        refine iteFF rfl ⟨_, rfl, rfl, _, rfl, iteFF rfl ⟨_, rfl, rfl, _, rfl, iteTT rfl ?_⟩⟩
        exact ⟨(by show 2 ≤ sizeLine; decide), fun t nt => q _ _ (same_new nt) ⟨t, rfl, SqT.of upd_same⟩⟩
      | two o a b => cases hleaf
      | times f a => cases hleaf
      | «by» i a => cases hleaf
      | when i c a b => cases hleaf
      | whr i c a b => cases hleaf
    · have nn : ∀ s : Str, s = "fig" ∨ s = "reg" ∨ s = "share" → decide (V.str (wordOf e) = V.str s) = false := fun s hs => by
        cases e with
        | fig c => exact absurd rfl hleaf
        | reg c => exact absurd rfl hleaf
        | share c => exact absurd rfl hleaf
        | two o a b => rcases hs with rfl | rfl | rfl <;> exact wn_ne (by simp)
        | times f a => rcases hs with rfl | rfl | rfl <;> rfl
        | «by» i a => rcases hs with rfl | rfl | rfl <;> rfl
        | when i c a b => rcases hs with rfl | rfl | rfl <;> rfl
        | whr i c a b => rcases hs with rfl | rfl | rfl <;> rfl
      refine iteFF (nn _ (by simp)) ⟨_, rfl, rfl, _, rfl, iteFF (nn _ (by simp)) ⟨_, rfl, rfl, _, rfl, iteFF (nn _ (by simp)) ?_⟩⟩
      refine ⟨.ref p, rfl, .ref p, e, rfl, he, fun H1 l xs1 sm1 nl hl1 hrow1 => ⟨l, rfl, ⟨_, SqL.of hl1⟩, fun D nD => lc_list (xs := xs1) (fun i H' => Same H1 H' ∧ ∃ us, H' D = some (.lst us) ∧ SpsAt K H' us ((e.kids.take i).map spn)) ⟨same_new nD, [], upd_same, trivial⟩ (fun i H' _ h => SqL.of (h.1 _ _ hl1)) ?_ ?_⟩⟩
      · rintro i x H2 hx ⟨sm2, us, hD, hus⟩
        obtain ⟨k, hk, xk⟩ := hrow1.get' hx
        have hkm := List.mem_of_getElem? hk
        have hkd := kids_dep e k hkm
        refine ⟨rfl, tYes_in ?_⟩
        refine ⟨x, rfl, x, k, many, rfl, xk.same sm2, kids_ok e k ho hkm, by omega, fun H3 u sm3 hu => ?_⟩
        have hD3 := sm3 _ _ hD
        have hlen := hus.len
        rw [List.length_map, List.length_take] at hlen
        have hkl : e.kids.length ≤ 2 := by cases e <;> simp [Ex.kids]
        refine ⟨us, hD3, small1000 (by omega), fun b' o eb => ?_, us ++ [u], upd_same, ?_⟩
        · rw [upd_ne (ne_of_none eb nD)]
          exact sm3 _ _ (sm2 _ _ eb)
        · rw [List.take_add_one, hk, List.map_append]
          refine SpsAt.snoc (s := spn k) (v := u) ?_ ((hus.imp fun _ _ q => same_sqt sm3 q).imp fun _ _ q => put_sqt hD3 q)
          obtain ⟨pu, eu, qu⟩ := hu
          exact ⟨pu, eu, put_sqt hD3 qu⟩
      · rintro H2 ⟨sm2, us, hD, hus⟩
        rw [hrow1.len, List.take_length] at hus
        have sm02 := sm1.trans sm2
        clear hrow1 hl1 nD nl
        have hp2 := same_sqt sm02 hp
        refine ⟨_, rfl, rfl, _, rfl, ?_⟩
        cases e with
        | fig c => exact absurd rfl hleaf
        | reg c => exact absurd rfl hleaf
        | share c => exact absurd rfl hleaf
        | times fa a =>
          obtain ⟨⟨o1, o2⟩, oa⟩ := ho
          refine iteTT rfl ?_
          obtain ⟨pu, rfl, hu⟩ := hus.one
          obtain ⟨p', x', e', q', _⟩ := he
          cases e'
          have hpf := same_sqt sm02 q'
          refine ⟨.ref D, rfl, D, _, 0, _, rfl, rfl, SqL.of hD, rfl, pu, rfl, ⟨_, hu⟩, fun D2 nD2 => lc_tup (xs := [(spn a).1, (spn a).2].map V.int) (fun i H' => Same H2 H' ∧ H' D2 = some (.lst ((([(spn a).1, (spn a).2].take i).map (fa * ·)).map V.int))) ⟨same_new nD2, upd_same⟩ (fun i H' _ h => same_sqt h.1 hu) ?_ ?_⟩
          · rintro i v H3 hv ⟨sm3, hD2⟩
            obtain ⟨z, rfl, hz⟩ := int_at hv
            have hi2 : i < 2 := (List.getElem?_eq_some_iff.mp hz).1
            refine ⟨rfl, tYes_in ?_⟩
            refine ⟨.ref p, rfl, p, _, 1, _, rfl, rfl, same_sqt sm3 hpf, rfl, .int z, rfl, fa, z, rfl, rfl, .inl ⟨by omega, by omega⟩, _, hD2, ?_, fun b' o eb => ?_, ?_⟩
            · rw [List.length_map, List.length_map, List.length_take]
              exact small1000 (by omega)
            · rw [upd_ne (ne_of_none eb nD2)]
              exact sm3 _ _ eb
            · rw [upd_same, List.take_add_one, hz, List.map_append, List.map_append]
              rfl
          · rintro H3 ⟨sm3, hD2⟩
            refine ⟨.ref D2, rfl, D2, [fa * (spn a).1, fa * (spn a).2], rfl, SqL.of hD2, (by show 0 < 2; decide), fun m hm hle => ⟨.ref D2, rfl, D2, [fa * (spn a).1, fa * (spn a).2], rfl, SqL.of hD2, (by show 0 < 2; decide), fun M hM hge => ⟨(by show 2 ≤ sizeLine; decide), fun t nt => ?_⟩⟩⟩
            rw [mn_of hm hle, mx_of hM hge]
            exact q _ _ (sm02.trans (sm3.trans (same_new nt))) ⟨t, rfl, SqT.of upd_same⟩
        | «by» i a =>
          refine iteFF rfl ⟨_, rfl, rfl, _, rfl, iteTT rfl ?_⟩
          obtain ⟨pu, rfl, hu⟩ := hus.one
          refine ⟨.ref D, rfl, D, _, 0, _, rfl, rfl, SqL.of hD, rfl, pu, rfl, ⟨_, hu⟩, fun D2 nD2 => lc_tup (xs := [(spn a).1, (spn a).2].map V.int) (fun i H' => Same H2 H' ∧ H' D2 = some (.lst ((([(spn a).1, (spn a).2].take i).map ab).map V.int))) ⟨same_new nD2, upd_same⟩ (fun i H' _ h => same_sqt h.1 hu) ?_ ?_⟩
          · rintro i v H3 hv ⟨sm3, hD2⟩
            obtain ⟨z, rfl, hz⟩ := int_at hv
            have hi2 : i < 2 := (List.getElem?_eq_some_iff.mp hz).1
            refine ⟨rfl, tYes_in ?_⟩
            refine ⟨.int z, rfl, z, rfl, _, hD2, ?_, fun b' o eb => ?_, ?_⟩
            · rw [List.length_map, List.length_map, List.length_take]
              exact small1000 (by omega)
            · rw [upd_ne (ne_of_none eb nD2)]
              exact sm3 _ _ eb
            · rw [upd_same, List.take_add_one, hz, List.map_append, List.map_append]
              rfl
          · rintro H3 ⟨sm3, hD2⟩
            refine ⟨D2, [ab (spn a).1, ab (spn a).2], rfl, SqL.of hD2, (by show 0 < 2; decide), fun M hM hge => ?_⟩
            rw [mx_of hM hge]
            refine ⟨_, rfl, .int _, rfl, _, _, rfl, rfl, .inl ⟨by decide, by decide⟩, .int _, rfl, _, _, rfl, rfl, .inl ⟨by decide, by decide⟩, (by show 2 ≤ sizeLine; decide), fun t nt => ?_⟩
            exact q _ _ (sm02.trans (sm3.trans (same_new nt))) ⟨t, rfl, SqT.of upd_same⟩
        | two o a b =>
          refine iteFF (wn_ne (by simp)) ⟨_, rfl, rfl, _, rfl, iteFF (wn_ne (by simp)) ?_⟩
          obtain ⟨pu, pw, rfl, hu, hw⟩ := hus.pair
          refine ⟨_, rfl, .ref D, rfl, D, _, 0, _, rfl, rfl, SqL.of hD, rfl, .ref D, rfl, D, _, 1, _, rfl, rfl, SqL.of hD, rfl, .two o a b, _, _, spn a, spn b, rfl, ⟨pu, rfl, hu⟩, ⟨pw, rfl, hw⟩, .inl ⟨o, a, b, rfl, fun H3 v sm3 hv => ?_⟩⟩
          exact q _ _ (sm02.trans sm3) hv
        | when i c a b =>
          refine iteFF rfl ⟨_, rfl, rfl, _, rfl, iteFF rfl ?_⟩
          obtain ⟨pu, pw, rfl, hu, hw⟩ := hus.pair
          refine ⟨_, rfl, .ref D, rfl, D, _, 0, _, rfl, rfl, SqL.of hD, rfl, .ref D, rfl, D, _, 1, _, rfl, rfl, SqL.of hD, rfl, .when i c a b, _, _, spn a, spn b, rfl, ⟨pu, rfl, hu⟩, ⟨pw, rfl, hw⟩, .inr ⟨.inl ⟨i, c, a, b, rfl⟩, fun H3 v sm3 hv => ?_⟩⟩
          exact q _ _ (sm02.trans sm3) hv
        | whr i c a b =>
          refine iteFF rfl ⟨_, rfl, rfl, _, rfl, iteFF rfl ?_⟩
          obtain ⟨pu, pw, rfl, hu, hw⟩ := hus.pair
          refine ⟨_, rfl, .ref D, rfl, D, _, 0, _, rfl, rfl, SqL.of hD, rfl, .ref D, rfl, D, _, 1, _, rfl, rfl, SqL.of hD, rfl, .whr i c a b, _, _, spn a, spn b, rfl, ⟨pu, rfl, hu⟩, ⟨pw, rfl, hw⟩, .inr ⟨.inr ⟨i, c, a, b, rfl⟩, fun H3 v sm3 hv => ?_⟩⟩
          exact q _ _ (sm02.trans sm3) hv
theorem ok_span {f : Addr} {fd : FuncData} (F : Fun K "span" "span" s_span f fd) (gF : mg "span" = some (.ref f)) (b : Binds K fd ["expression"] []) (B : Bl mg) (c_parts : Cal P w K mg base 1 "parts" (spParts K)) (c_join_spans : Cal P w K mg base 1 "join_spans" (spJoinS K)) : ∀ n, Cal P w K mg base (n + 2) "span" (spSpan K n) := fun n => ⟨f, fd, _, fn_span F gF b B c_parts c_join_spans n, gF, F.kp, b⟩
end
end NG

namespace NG
open PySem PySem.Spec PyProof.Rows L2
def spPow2 : Sp := fun vs H Q _ => ∃ s : Nat, vs = [.int (s : Int)] ∧ s < 5 ∧ Q (.int (pw2 s)) H
def spBound (K : PySem.W.Frag) (n : Nat) : Sp := fun vs H Q _ => ∃ (dv : V) (D : Dbt) (many : Nat), vs = [dv] ∧ DbAt K H D dv ∧ 1 ≤ D.stakes.length ∧ D.stakes.length ≤ 3 ∧ (∀ e ∈ D.stakes, ExOk many e ∧ e.dep ≤ n) ∧ D.scale < 5 ∧ ∀ H', Same H H' → Q (.int (bndI D)) H'
theorem ends_snoc {es : List Ex} {i : Nat} {e : Ex} (h : es[i]? = some e) : endsI (es.take (i + 1)) = endsI (es.take i) ++ [ab (spn e).1, ab (spn e).2] := by
  unfold endsI
  rw [List.take_add_one, h, List.flatMap_append]
  simp
theorem ends_len : ∀ es : List Ex, (endsI es).length = 2 * es.length
  | [] => rfl
  | e :: es => by
    show ([ab (spn e).1, ab (spn e).2] ++ endsI es).length = _
    rw [List.length_append, ends_len es]
    show 2 + 2 * es.length = 2 * (es.length + 1)
    omega
section
variable {P : Program} {w : World} {K : PySem.W.Frag} {mg : Str → Option Value} {base : Heap}
theorem ok_pow2 {f : Addr} {fd : FuncData} (F : Fun K "power" "power" s_power f fd) (gF : mg "power" = some (.ref f)) (b : Binds K fd ["scale"] []) (B : Bl mg) : Cal P w K mg base 1 "power" spPow2 := by
  refine ⟨f, fd, _, F.ok sc_power (fun vs H Q E h => ?_) (fun cdv A outer s H vs Q E hr h => ?_), gF, F.kp, b⟩
  · obtain ⟨_, rfl, _⟩ := h
    rfl
  · obtain ⟨sc, rfl, hs, q⟩ := h
    refine ⟨_, (pss_one (ps_ret (pe_op op_shl pe_int (pe_callB (call_max2 rfl) (by rfl) B.max (by decide +kernel) (pa_cons pe_int (pa_cons (pv 0) pa_nil)))))), ?_⟩
    have : sc = 0 ∨ sc = 1 ∨ sc = 2 ∨ sc = 3 ∨ sc = 4 := by omega
    rcases this with rfl | rfl | rfl | rfl | rfl <;> exact ⟨_, rfl, _, _, rfl, _, _, rfl, rfl, ⟨by decide, by decide, by decide⟩, q⟩
end
end NG

namespace NG
open PySem PySem.Spec PyProof.Rows L2
/-! ### stakes, behinds, the whole -/
def spIsStake (K : PySem.W.Frag) : Sp := fun vs H Q _ => ∃ (v : V) (sc many : Nat) (d : PyData), vs = [v, .int (sc : Int), .int (many : Int)] ∧ sc < 5 ∧ Dp K H v d ∧ wdE many 8 d ∧ ∀ H', Same H H' → Q (.bl (stakeD many sc d)) H'
def spAreSt (K : PySem.W.Frag) : Sp := fun vs H Q _ => ∃ (p : Addr) (sc many : Nat) (xs : List V) (ds : List PyData), vs = [.ref p, .int (sc : Int), .int (many : Int)] ∧ many ≤ 3 ∧ sc < 5 ∧ SqT K H p xs ∧ DpAll K H xs ds ∧ (∀ d ∈ ds, wdE many 8 d) ∧ ∀ H', Same H H' → Q (.bl (decide (ds.length = many) && ds.all (stakeD many sc))) H'
def spAreBh (K : PySem.W.Frag) : Sp := fun vs H Q _ => ∃ (p : Addr) (many : Nat) (xs : List V) (ds : List PyData), vs = [.ref p, .int (many : Int)] ∧ many ≤ 3 ∧ SqT K H p xs ∧ DpAll K H xs ds ∧ (∀ d ∈ ds, wdB many 4 d) ∧ ∀ H', Same H H' → Q (.bl (decide (ds.length = many) && ds.all fun d => (cntB many 4 d).isSome)) H'
def spIsDb (K : PySem.W.Frag) : Sp := fun vs H Q _ => ∃ (p : Addr) (many : Nat) (nm : Str) (sc : Int) (pr ps pb : Addr) (xr xs xb : List V) (rg st bh : List PyData), vs = [.ref p, .int (many : Int)] ∧ many ≤ 3 ∧ SqT K H p [.str nm, .int sc, .ref pr, .ref ps, .ref pb] ∧ nm.length ≤ 1000 ∧ SqT K H pr xr ∧ DpAll K H xr rg ∧ SqT K H ps xs ∧ DpAll K H xs st ∧ SqT K H pb xb ∧ DpAll K H xb bh ∧ (∀ d ∈ st, wdE many 8 d) ∧ (∀ d ∈ bh, wdB many 4 d) ∧ ∀ H', Same H H' → Q (.bl (dbtD many nm sc rg st bh)) H'
section
variable {P : Program} {w : World} {K : PySem.W.Frag} {mg : Str → Option Value} {base : Heap}
theorem ok_isstake {f : Addr} {fd : FuncData} (F : Fun K "is_stake" "is_stake" s_is_stake f fd) (gF : mg "is_stake" = some (.ref f)) (b : Binds K fd ["thing", "scale", "many"] []) {t1 : Tok} (mg_WIDEST : mg "WIDEST" = some (.int 500 t1)) (c_power : Cal P w K mg base 1 "power" spPow2) (c_is_expression : Cal P w K mg base 16 "is_expression" (spIsEx K)) {n : Nat} (hn : n ≤ 14) (h8 : 8 ≤ n) (c_span : Cal P w K mg base (n + 2) "span" (spSpan K n)) : Cal P w K mg base 17 "is_stake" (spIsStake K) := by
  refine ⟨f, fd, _, F.ok sc_is_stake (fun vs H Q E h => ?_) (fun cdv A outer s H vs Q E hr h => ?_), gF, F.kp, b⟩
  · obtain ⟨_, _, _, _, rfl, _⟩ := h
    rfl
  · obtain ⟨v, sc, many, d, rfl, hsc, hd, hw, q⟩ := h
    refine ⟨_, (pss_cons (ps_if (pt_not (pt_val (pe_c c_is_expression hr (by omega) (by rfl) (pa_cons (pv 0) (pa_cons (pv 2) pa_nil))))) (pss_one (ps_ret pe_bl)) pss_nil) (pss_cons (ps_asg (pe_c c_span hr (by omega) (by rfl) (pa_cons (pv 0) pa_nil)) (pg_tup rfl (pgs_cons (pg_name (i := 3) sc_is_stake.nd rfl (.inl rfl)) (pgs_cons (pg_name (i := 4) sc_is_stake.nd rfl (.inl rfl)) pgs_nil)))) (pss_cons (ps_set (i := 5) sc_is_stake.nd rfl (.inl rfl) (pe_op op_mul (pe_glob (v := .int (500)) (by rfl) mg_WIDEST ⟨_, rfl⟩) (pe_c c_power hr (by omega) (by rfl) (pa_cons (pv 1) pa_nil)))) (pss_one (ps_ret (pe_and (pe_cmpR op_le (pe_un un_neg (pv 5)) (pv 3) (nomark _)) (pe_one (pe_cmpR op_le (pv 4) (pv 5) (nomark _))))))))), ?_⟩
    refine ⟨_, rfl, _, rfl, v, many, d, rfl, hd, hw, fun H1 sm1 => ⟨_, rfl, ?_⟩⟩
    cases c : isEx many d with
    | false =>
      refine iteTT rfl ?_
      have := q H1 sm1
      unfold stakeD at this
      rw [c] at this
      exact this
    | true =>
      refine iteFF rfl ?_
      have hp : 0 < cntE many 8 d := by
        unfold isEx at c
        rw [Bool.and_eq_true, decide_eq_true_eq] at c
        omega
      obtain ⟨e1, e2, e3⟩ := exD_of hp
      have hE : ExAt K H1 (exD 8 d) v := ExAt.of (by rw [e1]; exact dp_same sm1 hd)
      refine ⟨_, rfl, v, exD 8 d, many, rfl, hE, e2, by omega, fun H2 u sm2 hu => ?_⟩
      obtain ⟨pu, rfl, hpu⟩ := hu
      refine ⟨pu, _, rfl, hpu, rfl, _, _, rfl, _, _, rfl, rfl, ?_⟩
      have hp2 := pw2_bnd sc
      refine ⟨_, rfl, sc, rfl, hsc, 500, pw2 sc, rfl, rfl, .inl ⟨by decide, by decide⟩, _, rfl, _, rfl, _, rfl, _, _, rfl, rfl, _, rfl, ?_⟩
      have := q H2 (sm1.trans sm2)
      unfold stakeD at this
      rw [c, Bool.true_and] at this
      by_cases c1 : -(500 * pw2 sc) ≤ (spn (exD 8 d)).1
      · rw [decide_eq_true c1, Bool.true_and] at this
        exact iteTT (decide_eq_true c1) ⟨_, rfl, _, rfl, _, _, rfl, rfl, this⟩
      · rw [decide_eq_false c1, Bool.false_and] at this
        exact iteFF (decide_eq_false c1) this
theorem ok_arestakes {f : Addr} {fd : FuncData} (F : Fun K "are_stakes" "are_stakes" s_are_stakes f fd) (gF : mg "are_stakes" = some (.ref f)) (b : Binds K fd ["thing", "scale", "many"] []) (B : Bl mg) (c_is_stake : Cal P w K mg base 17 "is_stake" (spIsStake K)) : Cal P w K mg base 18 "are_stakes" (spAreSt K) := by
  refine ⟨f, fd, _, F.ok sc_are_stakes (fun vs H Q E h => ?_) (fun cdv A outer s H vs Q E hr h => ?_), gF, F.kp, b⟩
  · obtain ⟨_, _, _, _, _, rfl, _⟩ := h
    rfl
  · obtain ⟨p, sc, many, xs, ds, rfl, hm3, hsc, hp, hds, hwd, q⟩ := h
    refine ⟨_, (pss_cons (ps_if (PW.pt (pw_or (pt_not (pt_val (pe_callB call_isi (by rfl) B.isinstance (by decide +kernel) (pa_cons (pv 0) (pa_cons (pe_bltn (v := .ty "tuple") (by rfl) B.tuple (by decide +kernel) rfl) pa_nil))))) (pw_or1 (pt_cmpR op_ne (pe_callB call_len_seq (by rfl) B.len PySem.boot_len (pa_cons (pv 0) pa_nil)) (pv 2) (nomark _))))) (pss_one (ps_ret pe_bl)) pss_nil) (pss_one (ps_ret (pe_callB (cr_all rfl) (by rfl) B.all (by decide +kernel) (pa_cons (pe_lc (own := [("stake", 3)]) rfl sc_are_stakes.nd (pi_tup (pv 0)) (blkOk_by (N := N_are_stakes) (sc := defScope s_are_stakes) (by decide +kernel)) (fun _ _ _ _ _ => pg_name (i := 3) sc_are_stakes.nd rfl (.inl rfl)) (fun _ _ _ _ _ => pts_nil) (fun _ _ _ _ _ => pe_c c_is_stake hr (by omega) (by rfl) (pa_cons (pv 3) (pa_cons (pv 1) (pa_cons (pv 2) pa_nil))))) pa_nil))))), ?_⟩
    have hlx := dpall_len hds
    refine ⟨.ref p, rfl, .ref p, .ty "tuple", _, _, true, rfl, .ty _, tyx_tup hp, kit_ty (show kitB "tuple" "tuple" = some true by decide +kernel), true, rfl, iteFF rfl ?_⟩
    refine ⟨.ref p, rfl, p, _, rfl, .inr hp, _, rfl, rfl, _, rfl, ?_⟩
    by_cases c : ds.length = many
    · refine iteFF (by simp [hlx, c]) ?_
      refine ⟨.ref p, rfl, p, rfl, ⟨_, hp⟩, fun D nD => lc_tup (xs := xs) (fun i H' => Same H H' ∧ H' D = some (.lst (((ds.map (stakeD many sc)).take i).map V.bl))) ⟨same_new nD, upd_same⟩ (fun i H' _ h => same_sqt h.1 hp) ?_ ?_⟩
      · rintro i y H2 hy ⟨sm, hD⟩
        have hi := (List.getElem?_eq_some_iff.mp hy).1
        obtain ⟨dd, hdd, hdp⟩ := dpall_get hds hy
        refine ⟨rfl, tYes_in ⟨_, rfl, _, rfl, _, rfl, y, sc, many, dd, rfl, hsc, dp_same sm hdp, hwd dd (List.mem_of_getElem? hdd), fun H3 sm3 => ⟨_, sm3 _ _ hD, ?_, fun b' o eb => ?_, ?_⟩⟩⟩
        · rw [List.length_map, List.length_take]
          exact small1000 (by omega)
        · rw [upd_ne (ne_of_none eb nD)]
          exact sm3 _ _ (sm _ _ eb)
        · rw [upd_same, List.take_add_one, List.getElem?_map, hdd, List.map_append]
          rfl
      · rintro H2 ⟨sm, hD⟩
        rw [List.take_of_length_le (by rw [List.length_map]; omega)] at hD
        refine ⟨D, _, rfl, SqL.of hD, ?_⟩
        have := q H2 sm
        rw [decide_eq_true c, Bool.true_and] at this
        rw [List.all_map]
        exact this
    · refine iteTT (by simp [hlx]; omega) ?_
      have := q H (Same.refl _)
      rw [decide_eq_false c] at this
      exact this
theorem ok_arebehinds {f : Addr} {fd : FuncData} (F : Fun K "are_behinds" "are_behinds" s_are_behinds f fd) (gF : mg "are_behinds" = some (.ref f)) (b : Binds K fd ["thing", "many"] []) (B : Bl mg) {t1 : Tok} (mg_MOST_DEEP_doubters : mg "MOST_DEEP_doubters" = some (.int 4 t1)) {lv : Nat} (c_count_deeds : Cal P w K mg base 14 "count_deeds" (spCntB K 5)) : Cal P w K mg base 15 "are_behinds" (spAreBh K) := by
  refine ⟨f, fd, _, F.ok sc_are_behinds (fun vs H Q E h => ?_) (fun cdv A outer s H vs Q E hr h => ?_), gF, F.kp, b⟩
  · obtain ⟨_, _, _, _, rfl, _⟩ := h
    rfl
  · obtain ⟨p, many, xs, ds, rfl, hm3, hp, hds, hwd, q⟩ := h
    refine ⟨_, (pss_cons (ps_if (PW.pt (pw_or (pt_not (pt_val (pe_callB call_isi (by rfl) B.isinstance (by decide +kernel) (pa_cons (pv 0) (pa_cons (pe_bltn (v := .ty "tuple") (by rfl) B.tuple (by decide +kernel) rfl) pa_nil))))) (pw_or1 (pt_cmpR op_ne (pe_callB call_len_seq (by rfl) B.len PySem.boot_len (pa_cons (pv 0) pa_nil)) (pv 1) (nomark _))))) (pss_one (ps_ret pe_bl)) pss_nil) (pss_one (ps_ret (pe_callB (cr_all rfl) (by rfl) B.all (by decide +kernel) (pa_cons (pe_lc (own := [("deeds", 2)]) rfl sc_are_behinds.nd (pi_tup (pv 0)) (blkOk_by (N := N_are_behinds) (sc := defScope s_are_behinds) (by decide +kernel)) (fun _ _ _ _ _ => pg_name (i := 2) sc_are_behinds.nd rfl (.inl rfl)) (fun _ _ _ _ _ => pts_nil) (fun _ _ _ _ _ => pe_cmpR op_notN (pe_c c_count_deeds hr (by omega) (by rfl) (pa_cons (pv 2) (pa_cons (pv 1) (pa_cons (pe_glob (v := .int (4)) (by rfl) mg_MOST_DEEP_doubters ⟨_, rfl⟩) pa_nil)))) pe_non (nomark _))) pa_nil))))), ?_⟩
    have hlx := dpall_len hds
    refine ⟨.ref p, rfl, .ref p, .ty "tuple", _, _, true, rfl, .ty _, tyx_tup hp, kit_ty (show kitB "tuple" "tuple" = some true by decide +kernel), true, rfl, iteFF rfl ?_⟩
    refine ⟨.ref p, rfl, p, _, rfl, .inr hp, _, rfl, rfl, _, rfl, ?_⟩
    by_cases c : ds.length = many
    · refine iteFF (by simp [hlx, c]) ?_
      refine ⟨.ref p, rfl, p, rfl, ⟨_, hp⟩, fun D nD => lc_tup (xs := xs) (fun i H' => Same H H' ∧ H' D = some (.lst (((ds.map fun d => (cntB many 4 d).isSome).take i).map V.bl))) ⟨same_new nD, upd_same⟩ (fun i H' _ h => same_sqt h.1 hp) ?_ ?_⟩
      · rintro i y H2 hy ⟨sm, hD⟩
        have hi := (List.getElem?_eq_some_iff.mp hy).1
        obtain ⟨dd, hdd, hdp⟩ := dpall_get hds hy
        refine ⟨rfl, tYes_in ⟨_, rfl, _, rfl, y, many, 4, dd, rfl, by decide, dp_same sm hdp, hwd dd (List.mem_of_getElem? hdd), fun H3 sm3 => ⟨rfl, _, sm3 _ _ hD, ?_, fun b' o eb => ?_, ?_⟩⟩⟩
        · rw [List.length_map, List.length_take]
          exact small1000 (by omega)
        · rw [upd_ne (ne_of_none eb nD)]
          exact sm3 _ _ (sm _ _ eb)
        · rw [upd_same, List.take_add_one, List.getElem?_map, hdd, List.map_append]
          have e : (!decide (optV (cntB many 4 dd) = V.non)) = (cntB many 4 dd).isSome := by
            cases cntB many 4 dd with
            | none => rfl
            | some j => rfl
          show some (HO.lst (_ ++ [V.bl (!decide (optV (cntB many 4 dd) = V.non))])) = _
          rw [e]
          rfl
      · rintro H2 ⟨sm, hD⟩
        rw [List.take_of_length_le (by rw [List.length_map]; omega)] at hD
        refine ⟨D, _, rfl, SqL.of hD, ?_⟩
        have := q H2 sm
        rw [decide_eq_true c, Bool.true_and] at this
        rw [List.all_map]
        exact this
    · refine iteTT (by simp [hlx]; omega) ?_
      have := q H (Same.refl _)
      rw [decide_eq_false c] at this
      exact this
theorem ok_isdb {f : Addr} {fd : FuncData} (F : Fun K "is_doubter" "is_doubter" s_is_doubter f fd) (gF : mg "is_doubter" = some (.ref f)) (b : Binds K fd ["thing", "many"] []) (B : Bl mg) {t1 : Tok} (mg_GREATEST_SCALE : mg "GREATEST_SCALE" = some (.int 4 t1)) (c_is_name : Cal P w K mg base 1 "is_name" (spIsName K)) (c_is_within : Cal P w K mg base 2 "is_within" (spInB K)) (c_is_registers : Cal P w K mg base 3 "is_registers" (spIsRegs K)) (c_are_stakes : Cal P w K mg base 18 "are_stakes" (spAreSt K)) (c_are_behinds : Cal P w K mg base 15 "are_behinds" (spAreBh K)) : Cal P w K mg base 19 "is_doubter" (spIsDb K) := by
  refine ⟨f, fd, _, F.ok sc_is_doubter (fun vs H Q E h => ?_) (fun cdv A outer s H vs Q E hr h => ?_), gF, F.kp, b⟩
  · obtain ⟨_, _, _, _, _, _, _, _, _, _, _, _, _, rfl, _⟩ := h
    rfl
  · obtain ⟨p, many, nm, sc, pr, ps, pb, xr, xs, xb, rg, st, bh, rfl, hm3, hp, hnm, hpr, hrg, hps, hst, hpb, hbh, hws, hwb, q⟩ := h
    refine ⟨_, (pss_cons (ps_if (PW.pt (pw_or (pt_not (pt_val (pe_callB call_isi (by rfl) B.isinstance (by decide +kernel) (pa_cons (pv 0) (pa_cons (pe_bltn (v := .ty "tuple") (by rfl) B.tuple (by decide +kernel) rfl) pa_nil))))) (pw_or1 (pt_cmpR op_ne (pe_callB call_len_seq (by rfl) B.len PySem.boot_len (pa_cons (pv 0) pa_nil)) pe_int (nomark _))))) (pss_one (ps_ret pe_bl)) pss_nil) (pss_cons (ps_asg (pv 0) (pg_tup rfl (pgs_cons (pg_name (i := 2) sc_is_doubter.nd rfl (.inl rfl)) (pgs_cons (pg_name (i := 3) sc_is_doubter.nd rfl (.inl rfl)) (pgs_cons (pg_name (i := 4) sc_is_doubter.nd rfl (.inl rfl)) (pgs_cons (pg_name (i := 5) sc_is_doubter.nd rfl (.inl rfl)) (pgs_cons (pg_name (i := 6) sc_is_doubter.nd rfl (.inl rfl)) pgs_nil))))))) (pss_cons (ps_if (PW.pt (pw_or (pt_not (pt_val (pe_c c_is_name hr (by omega) (by rfl) (pa_cons (pv 2) pa_nil)))) (pw_or (pt_not (pt_val (pe_c c_is_within hr (by omega) (by rfl) (pa_cons (pv 3) (pa_cons pe_int (pa_cons (pe_glob (v := .int (4)) (by rfl) mg_GREATEST_SCALE ⟨_, rfl⟩) pa_nil)))))) (pw_or1 (pt_not (pt_val (pe_c c_is_registers hr (by omega) (by rfl) (pa_cons (pv 4) pa_nil)))))))) (pss_one (ps_ret pe_bl)) pss_nil) (pss_one (ps_ret (pe_and (pe_c c_are_stakes hr (by omega) (by rfl) (pa_cons (pv 5) (pa_cons (pv 3) (pa_cons (pv 1) pa_nil)))) (pe_one (pe_c c_are_behinds hr (by omega) (by rfl) (pa_cons (pv 6) (pa_cons (pv 1) pa_nil)))))))))), ?_⟩
    refine ⟨.ref p, rfl, .ref p, .ty "tuple", _, _, true, rfl, .ty _, tyx_tup hp, kit_ty (show kitB "tuple" "tuple" = some true by decide +kernel), true, rfl, iteFF rfl ?_⟩
    refine ⟨.ref p, rfl, p, _, rfl, .inr hp, rfl, _, rfl, iteFF (by rfl) ?_⟩
    refine ⟨.ref p, rfl, p, _, rfl, hp, rfl, _, _, rfl, _, _, rfl, _, _, rfl, _, _, rfl, _, _, rfl, rfl, ?_⟩
    unfold dbtD at q
    refine ⟨_, rfl, nm, rfl, hnm, fun H1 sm1 => ⟨_, rfl, ?_⟩⟩
    cases c1 : nameD nm with
    | false =>
      rw [c1, Bool.false_and, Bool.false_and] at q
      exact iteTT rfl (iteTT rfl (q _ sm1))
    | true =>
      refine iteFF rfl ⟨_, rfl, _, 0, 4, .int sc, rfl, .int sc, _, rfl, ?_⟩
      cases c2 : inD 0 4 (.int sc) with
      | false =>
        rw [c1, Bool.true_and, show (decide (0 ≤ sc) && decide (sc ≤ 4)) = false from c2, Bool.false_and] at q
        exact iteTT rfl (iteTT rfl (q _ sm1))
      | true =>
        obtain ⟨sc', e, h0, h4⟩ := inD_int c2
        cases e
        refine iteFF rfl ⟨_, rfl, pr, xr, rg, rfl, same_sqt sm1 hpr, dpall_same sm1 hrg, fun H2 sm2 => ⟨_, rfl, ?_⟩⟩
        have sm12 := sm1.trans sm2
        cases c3 : regsD rg with
        | false =>
          rw [c3, Bool.and_false] at q
          exact iteTT rfl (q _ sm12)
        | true =>
          rw [c1, Bool.true_and, show (decide (0 ≤ sc) && decide (sc ≤ 4)) = true from c2, c3] at q
          refine iteFF rfl ?_
          obtain ⟨sn, hsn⟩ : ∃ sn : Nat, sc = (sn : Int) := ⟨sc.toNat, by omega⟩
          subst hsn
          refine ⟨_, rfl, _, rfl, _, rfl, ps, sn, many, xs, st, rfl, hm3, by omega, same_sqt sm12 hps, dpall_same sm12 hst, hws, fun H3 sm3 => ⟨_, rfl, ?_⟩⟩
          have sm123 := sm12.trans sm3
          cases c4 : (decide (st.length = many) && st.all (stakeD many sn)) with
          | false =>
            have := q _ sm123
            rw [if_pos (show (true && true) = true from rfl), Int.toNat_natCast, c4] at this
            exact iteFF rfl this
          | true =>
            refine iteTT rfl ⟨_, rfl, _, rfl, pb, many, xb, bh, rfl, hm3, same_sqt sm123 hpb, dpall_same sm123 hbh, hwb, fun H4 sm4 => ?_⟩
            have := q _ (sm123.trans sm4)
            rw [if_pos (show (true && true) = true from rfl), Int.toNat_natCast, c4, Bool.true_and] at this
            exact this
end
end NG

namespace NG
open PySem PySem.Spec PyProof.Rows L2
section
variable {P : Program} {w : World} {K : PySem.W.Frag} {mg : Str → Option Value} {base : Heap}
theorem ok_leaf {f : Addr} {fd : FuncData} (F : Fun K "_law_leaf" "_law_leaf" s_L_leaf f fd) (gF : mg "_law_leaf" = some (.ref f)) (b : Binds K fd ["_law_hand_here", "_law_wide"] []) (B : Bl mg) (c_L_take : Cal P w K mg base 1 "_law_take" spTake) (c_L_figure : Cal P w K mg base 3 "_law_figure" spFigure) : Cal P w K mg base 4 "_law_leaf" (spLeaf K) := by
  refine ⟨f, fd, _, F.ok sc_L_leaf (fun vs H Q E h => ?_) (fun cdv A outer s H vs Q E hr h => ?_), gF, F.kp, b⟩
  · obtain ⟨_, _, _, rfl, _⟩ := h
    rfl
  · obtain ⟨a, many, n, rfl, hm1, hm2, hh, hn, q⟩ := h
    refine ⟨_, (pss_cons (ps_set (i := 2) sc_L_leaf.nd rfl (.inl rfl) (pe_c c_L_take hr (by omega) (by rfl) (pa_cons (pv 0) (pa_cons pe_int pa_nil)))) (pss_cons (ps_if (pt_cmpR op_eq (pv 2) pe_int (nomark _)) (pss_one (ps_ret (pe_tup (pa_cons pe_str (pa_cons (pe_c c_L_take hr (by omega) (by rfl) (pa_cons (pv 0) (pa_cons pe_int pa_nil))) pa_nil))))) pss_nil) (pss_one (ps_ret (pe_ifExp (pt_cmpR op_eq (pv 2) pe_int (nomark _)) (pe_tup (pa_cons pe_str (pa_cons (pe_c c_L_figure hr (by omega) (by rfl) (pa_cons (pv 0) pa_nil)) pa_nil))) (pe_tup (pa_cons pe_str (pa_cons (pe_c c_L_take hr (by omega) (by rfl) (pa_cons (pv 0) (pa_cons (pv 1) pa_nil))) pa_nil)))))))), ?_⟩
    refine ⟨.ref a, rfl, a, 4, n, rfl, by decide, by decide, hh, by omega, fun H1 r b1 hh1 r0 r1 => ?_⟩
    refine ⟨.int r, rfl, rfl, _, rfl, iteD (fun c => ?_) (fun c => ?_)⟩
    · refine ⟨.ref a, rfl, a, 4, n + 1, rfl, by decide, by decide, hh1, by omega, fun H2 r2 b2 hh2 r20 r21 => ⟨(by show 2 ≤ sizeLine; decide), fun p np => ?_⟩⟩
      refine q _ _ (.reg r2.toNat) ((b1.trans b2).trans (But.new np)) ((hh2.new np).le (by omega)) ⟨p, rfl, ?_⟩ (by show r2.toNat < 4; omega) (Nat.le_refl _)
      rw [Int.toNat_of_nonneg r20]
      exact SqT.of upd_same
    · refine ⟨.int r, rfl, rfl, _, rfl, iteD (fun c => ?_) (fun c => ?_)⟩
      · refine ⟨.ref a, rfl, a, n + 1, rfl, hh1, by omega, fun H2 r2 b2 hh2 r20 r21 => ⟨(by show 2 ≤ sizeLine; decide), fun p np => ?_⟩⟩
        exact q _ _ (.fig r2) ((b1.trans b2).trans (But.new np)) ((hh2.new np).le (by omega)) ⟨p, rfl, SqT.of upd_same⟩ ⟨r20, r21⟩ (Nat.le_refl _)
      · refine ⟨.ref a, rfl, .int (many : Int), rfl, a, _, n + 1, rfl, by omega, by omega, hh1, by omega, fun H2 r2 b2 hh2 r20 r21 => ⟨(by show 2 ≤ sizeLine; decide), fun p np => ?_⟩⟩
        refine q _ _ (.share r2.toNat) ((b1.trans b2).trans (But.new np)) ((hh2.new np).le (by omega)) ⟨p, rfl, ?_⟩ (by show r2.toNat < many; omega) (Nat.le_refl _)
        rw [Int.toNat_of_nonneg r20]
        exact SqT.of upd_same
def isW (s : Str) : Prop := s = "sum" ∨ s = "less" ∨ s = "least" ∨ s = "most" ∨ s = "times" ∨ s = "by" ∨ s = "when" ∨ s = "leaf" ∨ s = "where"
theorem ok_expr {f : Addr} {fd : FuncData} (F : Fun K "_law_expression" "_law_expression" s_L_expression f fd) (gF : mg "_law_expression" = some (.ref f)) (b : Binds K fd ["_law_hand_here", "_law_wide", "_law_level", "_law_jumps"] []) (B : Bl mg) (c_L_take : Cal P w K mg base 1 "_law_take" spTake) (c_L_of : Cal P w K mg base 2 "_law_of" (spOf K)) (c_L_figure : Cal P w K mg base 3 "_law_figure" spFigure) (c_L_leaf : Cal P w K mg base 4 "_law_leaf" (spLeaf K)) : ∀ n, Cal P w K mg base (n + 4) "_law_expression" (spExprJ K n) := by
  intro n
  induction n with
  | zero =>
    refine cal_never F gF b fun vs H Q E h => ?_
    obtain ⟨_, _, l, _, _, _, _, hl, _⟩ := h
    omega
  | succ n c_L_expression =>
  refine ⟨f, fd, _, F.ok sc_L_expression (fun vs H Q E h => ?_) (fun cdv A outer s H vs Q E hr h => ?_), gF, F.kp, b⟩
  · obtain ⟨_, _, _, _, _, rfl, _⟩ := h
    rfl
  · obtain ⟨a, many, l, k, j, rfl, hj, hl, hm1, hm2, hh, hk, q⟩ := h
    refine ⟨_, (pss_cons (ps_set (i := 4) sc_L_expression.nd rfl (.inl rfl) (pe_lst (pa_cons pe_str (pa_cons pe_str (pa_cons pe_str (pa_cons pe_str (pa_cons pe_str (pa_cons pe_str (pa_cons pe_str (pa_cons pe_str (pa_cons pe_str (pa_cons pe_str pa_nil)))))))))))) (pss_cons (ps_set (i := 4) sc_L_expression.nd rfl (.inl rfl) (pe_op op_cat (pv 4) (pe_op op_rep (pe_lst (pa_cons pe_str (pa_cons pe_str pa_nil))) (pv 3)))) (pss_cons (ps_set (i := 5) sc_L_expression.nd rfl (.inl rfl) (pe_cut (pe_ifExp (pt_cmpR op_eq (pv 2) pe_int (nomark _)) pe_str (pe_c c_L_of hr (by omega) (by rfl) (pa_cons (pv 0) (pa_cons (pv 4) pa_nil)))))) (pss_cons (ps_if (pt_cmpR op_eq (pv 5) pe_str (nomark _)) (pss_one (ps_ret (pe_c c_L_leaf hr (by omega) (by rfl) (pa_cons (pv 0) (pa_cons (pv 1) pa_nil))))) pss_nil) (pss_cons (ps_set (i := 6) sc_L_expression.nd rfl (.inl rfl) (pe_c c_L_expression hr (by omega) (by rfl) (pa_cons (pv 0) (pa_cons (pv 1) (pa_cons (pe_op op_sub (pv 2) pe_int) (pa_cons (pv 3) pa_nil)))))) (pss_cons (ps_if (pt_cmpR op_eq (pv 5) pe_str (nomark _)) (pss_one (ps_ret (pe_tup (pa_cons (pv 5) (pa_cons (pe_op op_sub (pe_c c_L_take hr (by omega) (by rfl) (pa_cons (pv 0) (pa_cons pe_int pa_nil))) pe_int) (pa_cons (pv 6) pa_nil)))))) pss_nil) (pss_cons (ps_if (pt_cmpR op_eq (pv 5) pe_str (nomark _)) (pss_one (ps_ret (pe_tup (pa_cons (pv 5) (pa_cons (pe_c c_L_take hr (by omega) (by rfl) (pa_cons (pv 0) (pa_cons pe_int pa_nil))) (pa_cons (pv 6) pa_nil)))))) pss_nil) (pss_cons (ps_set (i := 7) sc_L_expression.nd rfl (.inl rfl) (pe_c c_L_expression hr (by omega) (by rfl) (pa_cons (pv 0) (pa_cons (pv 1) (pa_cons (pe_op op_sub (pv 2) pe_int) (pa_cons (pv 3) pa_nil)))))) (pss_cons (ps_if (pt_cmpR op_eq (pv 5) pe_str (nomark _)) (pss_one (ps_ret (pe_tup (pa_cons (pv 5) (pa_cons (pe_c c_L_take hr (by omega) (by rfl) (pa_cons (pv 0) (pa_cons pe_int pa_nil))) (pa_cons (pe_c c_L_figure hr (by omega) (by rfl) (pa_cons (pv 0) pa_nil)) (pa_cons (pv 6) (pa_cons (pv 7) pa_nil)))))))) pss_nil) (pss_cons (ps_if (pt_cmpR op_eq (pv 5) pe_str (nomark _)) (pss_cons (ps_set (i := 8) sc_L_expression.nd rfl (.inl rfl) (pe_c c_L_of hr (by omega) (by rfl) (pa_cons (pv 0) (pa_cons (pe_lst (pa_cons pe_int (pa_cons pe_int (pa_cons pe_int (pa_cons pe_int (pa_cons pe_int (pa_cons (pe_op op_add pe_int (pe_c c_L_take hr (by omega) (by rfl) (pa_cons (pv 0) (pa_cons pe_int pa_nil)))) pa_nil))))))) pa_nil)))) (pss_one (ps_ret (pe_tup (pa_cons (pv 5) (pa_cons (pe_c c_L_take hr (by omega) (by rfl) (pa_cons (pv 0) (pa_cons (pv 1) pa_nil))) (pa_cons (pv 8) (pa_cons (pv 6) (pa_cons (pv 7) pa_nil))))))))) pss_nil) (pss_one (ps_ret (pe_tup (pa_cons (pv 5) (pa_cons (pv 6) (pa_cons (pv 7) pa_nil)))))))))))))))), ?_⟩
    refine ⟨(by show 10 ≤ sizeLine; decide), fun p1 n1 => ?_⟩
    have hh1 := hh.new (o := .lst [.str "sum", .str "less", .str "least", .str "most", .str "least", .str "most", .str "times", .str "by", .str "when", .str "leaf"]) n1
    refine ⟨.ref p1, rfl, (by show 2 ≤ sizeLine; decide), fun p2 n2 => ?_⟩
    have e1 : (upd H p1 (.lst [.str "sum", .str "less", .str "least", .str "most", .str "least", .str "most", .str "times", .str "by", .str "when", .str "leaf"])) p1 = _ := upd_same
    have hh2 := hh1.new (o := .lst [.str "where", .str "where"]) n2
    refine ⟨.int (j : Int), rfl, p2, (j : Int), _, rfl, rfl, upd_same, by omega, by omega, Nat.le_of_lt (small1000 (by show 2 * ((j : Int)).toNat ≤ 1000; omega)), fun p3 n3 => ?_⟩
    have hws : ∀ v ∈ (List.replicate ((j : Int)).toNat [V.str "where", V.str "where"]).flatten, v = V.str "where" := by
      intro v hv
      obtain ⟨l, hl, hv⟩ := List.mem_flatten.mp hv
      rw [(List.mem_replicate.mp hl).2] at hv
      simp only [List.mem_cons, List.not_mem_nil, or_false] at hv
      rcases hv with h | h <;> exact h
    have hwl : ((List.replicate ((j : Int)).toNat [V.str "where", V.str "where"]).flatten).length ≤ 2 := by
      have : j = 0 ∨ j = 1 := by omega
      rcases this with rfl | rfl <;> decide
    generalize (List.replicate ((j : Int)).toNat [V.str "where", V.str "where"]).flatten = ws at n3 hws hwl ⊢
    have hh3 := hh2.new (o := .lst ws) n3
    have e2 : (upd (upd H p1 (.lst [.str "sum", .str "less", .str "least", .str "most", .str "least", .str "most", .str "times", .str "by", .str "when", .str "leaf"])) p2 (.lst [.str "where", .str "where"])) p1 = _ := (upd_ne (ne_of_none e1 n2)).trans e1
    refine ⟨p1, p3, _, _, rfl, rfl, (upd_ne (ne_of_none e2 n3)).trans e2, upd_same, Nat.le_of_lt (small1000 (by show 10 + ws.length ≤ 1000; omega)), fun p4 n4 => ?_⟩
    have hh4 := hh3.new (o := .lst ([.str "sum", .str "less", .str "least", .str "most", .str "least", .str "most", .str "times", .str "by", .str "when", .str "leaf"] ++ ws)) n4
    have b4 : But a H _ := (((But.new (a := a) n1).trans (But.new n2)).trans (But.new n3)).trans (But.new (o := .lst ([.str "sum", .str "less", .str "least", .str "most", .str "least", .str "most", .str "times", .str "by", .str "when", .str "leaf"] ++ ws)) n4)
    have ne4 := hh3.ne n4
    -- the word
    refine ⟨fun v H' => But a H H' ∧ HandAt H' a (k + 1) ∧ ∃ s : Str, v = .str s ∧ isW s ∧ (l = 0 → s = "leaf"), ?_, fun v H5 hv => ?_⟩
    · refine ⟨.int (l : Int), rfl, rfl, _, rfl, iteD (fun c => ?_) (fun c => ?_)⟩
      · exact ⟨b4, hh4.le (by omega), _, rfl, by unfold isW; simp, fun _ => rfl⟩
      · refine ⟨.ref a, rfl, .ref p4, rfl, a, p4, _, k, rfl, ne4.symm, upd_same, (by rw [List.length_append]; show 0 < 10 + ws.length; omega), (by rw [List.length_append]; show 10 + ws.length ≤ 1000; omega), hh4, by omega, fun H5 v b5 hh5 hv => ⟨b4.trans b5, hh5, ?_⟩⟩
        have hl0 : l ≠ 0 := fun z => c (by rw [z]; rfl)
        have key : ∃ s : Str, v = .str s ∧ isW s := by
          rcases List.mem_append.mp hv with hv | hv
          · simp only [List.mem_cons, List.not_mem_nil, or_false] at hv
            rcases hv with rfl | rfl | rfl | rfl | rfl | rfl | rfl | rfl | rfl | rfl
            all_goals exact ⟨_, rfl, by unfold isW; simp⟩
          · exact ⟨_, hws v hv, by unfold isW; simp⟩
        obtain ⟨s, rfl, hs⟩ := key
        exact ⟨s, rfl, hs, fun z => absurd z hl0⟩
    obtain ⟨b5, hh5, sw, rfl, hw, hl0⟩ := hv
    refine ⟨.str sw, rfl, rfl, _, rfl, iteD (fun c => ?_) (fun c => ?_)⟩
    · refine ⟨.ref a, rfl, .int (many : Int), rfl, a, many, k + 1, rfl, hm1, hm2, hh5, by have := cost_ge l; omega, fun H6 v e b6 hh6 he ho hd => ?_⟩
      exact q _ _ e (b5.trans b6) (hh6.le (by have := cost_ge l; omega)) he ho (by omega)
    · have hsl : sw ≠ "leaf" := fun z => c (by rw [z])
      obtain ⟨l', rfl⟩ : ∃ l', l = l' + 1 := by
        cases l with
        | zero => exact absurd (hl0 rfl) hsl
        | succ l' => exact ⟨l', rfl⟩
      have hcost : cost (l' + 1) = 2 * cost l' + 20 := rfl
      have elev : V.int (((l' + 1 : Nat) : Int) - 1) = V.int (l' : Int) := by
        congr 1
        omega
      refine ⟨.ref a, rfl, .int (many : Int), rfl, .int ((l' + 1 : Nat) : Int), rfl, _, 1, rfl, rfl, .int (j : Int), rfl, a, many, l', k + 1, j, (by show [V.ref a, V.int (many : Int), V.int (((l' + 1 : Nat) : Int) - 1), V.int (j : Int)] = _; rw [elev]), hj, by omega, hm1, hm2, hh5, by omega, fun H6 x e1 b6 hh6 he1 ho1 hd1 => ?_⟩
      have b06 := b5.trans b6
      -- times
      refine ⟨.str sw, rfl, rfl, _, rfl, iteD (fun c => ?_) (fun ct => ?_)⟩
      · have c : sw = "times" := V.str.inj c
        subst c
        refine ⟨_, rfl, .ref a, rfl, a, 19, _, rfl, by decide, by decide, hh6, by omega, fun H7 r b7 hh7 r0 r1 => ⟨_, 9, rfl, rfl, x, rfl, (by show 3 ≤ sizeLine; decide), fun p np => ?_⟩⟩
        exact q _ _ (.times (r - 9) e1) ((b06.trans b7).trans (But.new np)) ((hh7.new np).le (by omega)) ⟨p, x, rfl, SqT.of upd_same, (he1.but b7 hh6).new np⟩ ⟨⟨by omega, by omega⟩, ho1⟩ (by show e1.dep + 1 ≤ _; omega)
      -- by
      refine ⟨.str sw, rfl, rfl, _, rfl, iteD (fun c => ?_) (fun cb => ?_)⟩
      · have c : sw = "by" := V.str.inj c
        subst c
        refine ⟨_, rfl, .ref a, rfl, a, 4, _, rfl, by decide, by decide, hh6, by omega, fun H7 r b7 hh7 r0 r1 => ⟨x, rfl, (by show 3 ≤ sizeLine; decide), fun p np => ?_⟩⟩
        refine q _ _ (.by r.toNat e1) ((b06.trans b7).trans (But.new np)) ((hh7.new np).le (by omega)) ⟨p, x, rfl, ?_, (he1.but b7 hh6).new np⟩ ⟨by omega, ho1⟩ (by show e1.dep + 1 ≤ _; omega)
        rw [Int.toNat_of_nonneg r0]
        exact SqT.of upd_same
      -- the other part
      refine ⟨.ref a, rfl, .int (many : Int), rfl, .int ((l' + 1 : Nat) : Int), rfl, _, 1, rfl, rfl, .int (j : Int), rfl, a, many, l', k + 1 + cost l', j, (by show [V.ref a, V.int (many : Int), V.int (((l' + 1 : Nat) : Int) - 1), V.int (j : Int)] = _; rw [elev]), hj, by omega, hm1, hm2, hh6, by omega, fun H7 y e2 b7 hh7 he2 ho2 hd2 => ?_⟩
      have b07 := b06.trans b7
      have he1 := he1.but b7 hh6
      -- when
      refine ⟨.str sw, rfl, rfl, _, rfl, iteD (fun c => ?_) (fun cw => ?_)⟩
      · have c : sw = "when" := V.str.inj c
        subst c
        refine ⟨_, rfl, .ref a, rfl, a, 4, _, rfl, by decide, by decide, hh7, by omega, fun H8 r b8 hh8 r0 r1 => ⟨.ref a, rfl, a, _, rfl, hh8, by omega, fun H9 cc b9 hh9 c0 c1 => ⟨x, rfl, y, rfl, (by show 5 ≤ sizeLine; decide), fun p np => ?_⟩⟩⟩
        refine q _ _ (.when r.toNat cc e1 e2) (((b07.trans b8).trans b9).trans (But.new np)) ((hh9.new np).le (by omega)) ⟨p, x, y, rfl, ?_, ((he1.but b8 hh7).but b9 hh8).new np, ((he2.but b8 hh7).but b9 hh8).new np⟩ ⟨by omega, ⟨c0, c1⟩, ho1, ho2⟩ (by show max e1.dep e2.dep + 1 ≤ _; omega)
        rw [Int.toNat_of_nonneg r0]
        exact SqT.of upd_same
      -- where
      refine ⟨.str sw, rfl, rfl, _, rfl, iteD (fun c => ?_) (fun cr => ?_)⟩
      · have c : sw = "where" := V.str.inj c
        subst c
        refine ⟨.ref a, rfl, .ref a, rfl, a, 1000, _, rfl, by decide, by decide, hh7, by omega, fun H8 r b8 hh8 r0 r1 => ⟨1, _, rfl, rfl, (by show 6 ≤ sizeLine; decide), fun p5 n5 => ?_⟩⟩
        have hh9 := hh8.new (o := .lst [.int 1, .int 250, .int 333, .int 500, .int 1000, .int (1 + r)]) n5
        refine ⟨a, p5, _, _, rfl, (hh8.ne n5).symm, upd_same, (by show 0 < 6; decide), (by show 6 ≤ 1000; decide), hh9, by omega, fun H10 v b10 hh10 hv => ?_⟩
        have key : ∃ cc : Int, v = .int cc ∧ 1 ≤ cc ∧ cc ≤ 1000 := by
          have hv : v ∈ ([.int 1, .int 250, .int 333, .int 500, .int 1000, .int (1 + r)] : List V) := hv
          simp only [List.mem_cons, List.not_mem_nil, or_false] at hv
          rcases hv with rfl | rfl | rfl | rfl | rfl | rfl
          all_goals exact ⟨_, rfl, by omega, by omega⟩
        obtain ⟨cc, rfl, c0, c1⟩ := key
        refine ⟨_, rfl, .ref a, rfl, .int (many : Int), rfl, a, many, _, rfl, by omega, by omega, hh10, by omega, fun H11 j b11 hh11 j0 j1 => ⟨_, rfl, x, rfl, y, rfl, (by show 5 ≤ sizeLine; decide), fun p np => ?_⟩⟩
        refine q _ _ (.whr j.toNat cc e1 e2) (((((b07.trans b8).trans (But.new n5)).trans b10).trans b11).trans (But.new np)) ((hh11.new np).le (by omega)) ⟨p, x, y, rfl, ?_, ((((he1.but b8 hh7).new n5).but b10 hh9).but b11 hh10).new np, ((((he2.but b8 hh7).new n5).but b10 hh9).but b11 hh10).new np⟩ ⟨by omega, ⟨c0, c1⟩, ho1, ho2⟩ (by show max e1.dep e2.dep + 1 ≤ _; omega)
        rw [Int.toNat_of_nonneg j0]
        exact SqT.of upd_same
      -- the others
      refine ⟨_, rfl, x, rfl, y, rfl, (by show 3 ≤ sizeLine; decide), fun p np => ?_⟩
      have key : ∃ o : W4, sw = wn o := by
        rcases hw with rfl | rfl | rfl | rfl | rfl | rfl | rfl | rfl | rfl
        · exact ⟨.sum, rfl⟩
        · exact ⟨.less, rfl⟩
        · exact ⟨.least, rfl⟩
        · exact ⟨.most, rfl⟩
        · exact absurd rfl ct
        · exact absurd rfl cb
        · exact absurd rfl cw
        · exact absurd rfl hsl
        · exact absurd rfl cr
      obtain ⟨o, rfl⟩ := key
      exact q _ _ (.two o e1 e2) (b07.trans (But.new np)) ((hh7.new np).le (by omega)) ⟨p, x, y, rfl, SqT.of upd_same, he1.new np, he2.new np⟩ ⟨ho1, ho2⟩ (by show max e1.dep e2.dep + 1 ≤ _; omega)
end
end NG

namespace NG
open PySem PySem.Spec PyProof.Rows L2
section
variable {P : Program} {w : World} {K : PySem.W.Frag} {mg : Str → Option Value} {base : Heap}
theorem ok_regs {f : Addr} {fd : FuncData} (F : Fun K "_law_registers" "_law_registers" s_L_registers f fd) (gF : mg "_law_registers" = some (.ref f)) (b : Binds K fd ["_law_hand_here"] []) (B : Bl mg) (c_L_figure : Cal P w K mg base 3 "_law_figure" spFigure) : Cal P w K mg base 4 "_law_registers" (spRegs K) := by
  refine ⟨f, fd, _, F.ok sc_L_registers (fun vs H Q E h => ?_) (fun cdv A outer s H vs Q E hr h => ?_), gF, F.kp, b⟩
  · obtain ⟨_, _, rfl, _⟩ := h
    rfl
  · obtain ⟨a, n, rfl, hh, hn, q⟩ := h
    refine ⟨_, (pss_one (ps_ret (pe_tupleOf (by rfl) B.tuple (pe_lc (own := [("_law_turn", 1)]) rfl sc_L_registers.nd (pi_range1 rfl B.range (pa_cons pe_int pa_nil)) (blkOk_by (N := N_L_registers) (sc := defScope s_L_registers) (by decide +kernel)) (fun _ _ _ _ _ => pg_name (i := 1) sc_L_registers.nd rfl (.inl rfl)) (fun _ _ _ _ _ => pts_nil) (fun _ _ _ _ _ => pe_c c_L_figure hr (by omega) (by rfl) (pa_cons (pv 0) pa_nil)))))), ?_⟩
    refine ⟨4, rfl, by decide, by decide, fun D nD => lc_range (n := (4 : Int).toNat) (fun i H' => ∃ rs : List Int, But a H H' ∧ HandAt H' a (n + 3 * i) ∧ H' D = some (.lst (rs.map V.int)) ∧ rs.length = i ∧ ∀ x ∈ rs, -1000 ≤ x ∧ x ≤ 1000) ⟨[], But.new nD, hh.new nD, upd_same, rfl, fun x h => by cases h⟩ ?_ ?_⟩
    · rintro i H1 hi ⟨rs, b1, hh1, hD, hlen, hb⟩
      have hi4 : i < 4 := hi
      have hDa := hh.ne nD
      refine ⟨rfl, tYes_in ?_⟩
      refine ⟨.ref a, rfl, a, _, rfl, hh1, by omega, fun H2 c b2 hh2 c0 c1 => ⟨_, b2 _ _ hDa hD, ?_, ?_⟩⟩
      · rw [List.length_map]
        exact small1000 (by omega)
      · refine ⟨rs ++ [c], fun b' o nb e => ?_, (hh2.put hDa).le (by omega), ?_, ?_, ?_⟩
        · rw [upd_ne (ne_of_none e nD)]
          exact b2 _ _ nb (b1 _ _ nb e)
        · rw [upd_same, List.map_append]
          rfl
        · rw [List.length_append, hlen]
          rfl
        · intro x hx
          rcases List.mem_append.mp hx with hx | hx
          · exact hb x hx
          · rw [List.mem_singleton.mp hx]
            exact ⟨c0, c1⟩
    · rintro H1 ⟨rs, b1, hh1, hD, hlen, hb⟩
      refine .inl ⟨D, _, rfl, SqL.of hD, fun t nt => ?_⟩
      exact q _ _ rs (b1.trans (But.new nt)) (hh1.new nt) ⟨t, rfl, SqT.of upd_same, hlen, hb⟩
end
end NG

namespace NG
open PySem PySem.Spec PyProof.Rows L2
section
variable {P : Program} {w : World} {K : PySem.W.Frag} {mg : Str → Option Value} {base : Heap}
theorem ok_stake {f : Addr} {fd : FuncData} (F : Fun K "_law_stake" "_law_stake" s_L_stake f fd) (gF : mg "_law_stake" = some (.ref f)) (b : Binds K fd ["_law_hand_here", "_law_wide", "_law_level", "_law_jumps"] []) (B : Bl mg) (c_L_take : Cal P w K mg base 1 "_law_take" spTake) (c_L_of : Cal P w K mg base 2 "_law_of" (spOf K)) {m : Nat} (c_L_expression : Cal P w K mg base (m + 4) "_law_expression" (spExprJ K m)) : Cal P w K mg base (m + 5) "_law_stake" (spStake K m) := by
  refine ⟨f, fd, _, F.ok sc_L_stake (fun vs H Q E h => ?_) (fun cdv A outer s H vs Q E hr h => ?_), gF, F.kp, b⟩
  · obtain ⟨_, _, _, _, _, rfl, _⟩ := h
    rfl
  · obtain ⟨a, many, l, n, j, rfl, hj, hl, hm1, hm2, hh, hn, q⟩ := h
    refine ⟨_, (pss_cons (ps_set (i := 4) sc_L_stake.nd rfl (.inl rfl) (pe_c c_L_of hr (by omega) (by rfl) (pa_cons (pv 0) (pa_cons (pe_lst (pa_cons pe_int (pa_cons pe_int (pa_cons pe_int (pa_cons pe_int (pa_cons (pe_op op_add pe_int (pe_c c_L_take hr (by omega) (by rfl) (pa_cons (pv 0) (pa_cons pe_int pa_nil)))) pa_nil)))))) pa_nil)))) (pss_cons (ps_if (pt_cmpR op_eq (pe_c c_L_take hr (by omega) (by rfl) (pa_cons (pv 0) (pa_cons pe_int pa_nil))) pe_int (nomark _)) (pss_one (ps_ret (pe_tup (pa_cons pe_str (pa_cons (pe_c c_L_of hr (by omega) (by rfl) (pa_cons (pv 0) (pa_cons (pe_lst (pa_cons pe_int (pa_cons pe_int (pa_cons (pv 4) (pa_cons (pe_un un_neg (pv 4)) pa_nil))))) pa_nil))) pa_nil))))) pss_nil) (pss_cons (ps_set (i := 5) sc_L_stake.nd rfl (.inl rfl) (pe_tup (pa_cons pe_str (pa_cons (pe_tup (pa_cons pe_str (pa_cons (pe_un un_neg (pv 4)) pa_nil))) (pa_cons (pe_c c_L_expression hr (by omega) (by rfl) (pa_cons (pv 0) (pa_cons (pv 1) (pa_cons (pv 2) (pa_cons (pv 3) pa_nil))))) pa_nil))))) (pss_one (ps_ret (pe_tup (pa_cons pe_str (pa_cons (pe_tup (pa_cons pe_str (pa_cons (pv 4) pa_nil))) (pa_cons (pv 5) pa_nil))))))))), ?_⟩
    have two_le : 2 ≤ sizeLine := by decide
    have three_le : 3 ≤ sizeLine := by decide
    have hcl := cost_ge l
    refine ⟨.ref a, rfl, .ref a, rfl, a, 500, n, rfl, by decide, by decide, hh, by omega, fun H1 r b1 hh1 r0 r1 => ⟨1, r, rfl, rfl, (by show 5 ≤ sizeLine; decide), fun p1 n1 => ?_⟩⟩
    have ne1 := hh1.ne n1
    refine ⟨a, p1, _, n + 1, rfl, ne1.symm, upd_same, (by show 0 < 5; decide), (by show 5 ≤ 1000; decide), hh1.new n1, by omega, fun H2 v b2 hh2 hv => ?_⟩
    have key : ∃ c : Int, v = .int c ∧ 1 ≤ c ∧ c ≤ 500 := by
      have hv : v ∈ ([.int 500, .int 125, .int 50, .int 1, .int (1 + r)] : List V) := hv
      simp only [List.mem_cons, List.not_mem_nil, or_false] at hv
      rcases hv with rfl | rfl | rfl | rfl | rfl
      all_goals exact ⟨_, rfl, by omega, by omega⟩
    obtain ⟨c, rfl, c0, c1⟩ := key
    have b02 := (b1.trans (But.new n1)).trans b2
    refine ⟨.ref a, rfl, a, 4, _, rfl, by decide, by decide, hh2, by omega, fun H3 z b3 hh3 z0 z1 => ⟨rfl, _, rfl, iteD (fun cz => ?_) (fun cz => ?_)⟩⟩
    · refine ⟨.ref a, rfl, .int c, rfl, .int c, rfl, c, rfl, (by show 4 ≤ sizeLine; decide), fun p2 n2 => ?_⟩
      have ne2 := hh3.ne n2
      refine ⟨a, p2, _, _, rfl, ne2.symm, upd_same, (by show 0 < 4; decide), (by show 4 ≤ 1000; decide), hh3.new n2, by omega, fun H4 v b4 hh4 hv => ⟨two_le, fun p3 n3 => ?_⟩⟩
      have key : ∃ c : Int, v = .int c ∧ -500 ≤ c ∧ c ≤ 500 := by
        have hv : v ∈ ([.int 0, .int 0, .int c, .int (-c)] : List V) := hv
        simp only [List.mem_cons, List.not_mem_nil, or_false] at hv
        rcases hv with rfl | rfl | rfl | rfl
        all_goals exact ⟨_, rfl, by omega, by omega⟩
      obtain ⟨x, rfl, x0, x1⟩ := key
      exact q _ _ (.fig x) ((((b02.trans b3).trans (But.new n2)).trans b4).trans (But.new n3)) ((hh4.new n3).le (by omega)) ⟨p3, rfl, SqT.of upd_same⟩ ⟨by omega, by omega⟩ (by show 1 ≤ l + 3; omega) (.inl ⟨x, rfl, x0, x1⟩)
    · refine ⟨.int c, rfl, c, rfl, two_le, fun p4 n4 => ?_⟩
      have hh4 := hh3.new (o := .tup [.str "fig", .int (-c)]) n4
      have h4 : (upd H3 p4 (.tup [.str "fig", .int (-c)])) p4 = some (.tup [.str "fig", .int (-c)]) := upd_same
      have b4 := (b02.trans b3).trans (But.new (o := .tup [.str "fig", .int (-c)]) n4)
      generalize upd H3 p4 (.tup [.str "fig", .int (-c)]) = H4 at hh4 h4 b4
      refine ⟨.ref a, rfl, .int (many : Int), rfl, .int (l : Int), rfl, .int (j : Int), rfl, a, many, l, _, j, rfl, hj, hl, hm1, hm2, hh4, by omega, fun H5 v e b5 hh5 he ho hd => ⟨three_le, fun p5 n5 => ?_⟩⟩
      have h5 : ExAt K H5 (.fig (-c)) (.ref p4) := ⟨p4, rfl, b5.sq hh4 (SqT.of h4)⟩
      have hh6 := hh5.new (o := .tup [.str "most", .ref p4, v]) n5
      have hi6 : ExAt K (upd H5 p5 (.tup [.str "most", .ref p4, v])) (.two .most (.fig (-c)) e) (.ref p5) := ⟨p5, .ref p4, v, rfl, SqT.of upd_same, h5.new n5, he.new n5⟩
      have b6 := (b4.trans b5).trans (But.new (o := .tup [.str "most", .ref p4, v]) n5)
      generalize upd H5 p5 (.tup [.str "most", .ref p4, v]) = H6 at hh6 hi6 b6
      refine ⟨.int c, rfl, two_le, fun p7 n7 => ⟨.ref p5, rfl, three_le, fun p8 n8 => ?_⟩⟩
      have hh7 := hh6.new (o := .tup [.str "fig", .int c]) n7
      have h7 : ExAt K (upd H6 p7 (.tup [.str "fig", .int c])) (.fig c) (.ref p7) := ⟨p7, rfl, SqT.of upd_same⟩
      have hi7 := hi6.new (o := .tup [.str "fig", .int c]) n7
      refine q _ _ (.two .least (.fig c) (.two .most (.fig (-c)) e)) ((b6.trans (But.new n7)).trans (But.new n8)) ((hh7.new n8).le (by omega)) ⟨p8, .ref p7, .ref p5, rfl, SqT.of upd_same, h7.new n8, hi7.new n8⟩ ⟨⟨by omega, by omega⟩, ⟨by omega, by omega⟩, ho⟩ ?_ (.inr ⟨c, e, rfl, c0, c1, ho, hd⟩)
      show max 1 (max 1 e.dep + 1) + 1 ≤ l + 3
      omega
theorem ok_deeds {f : Addr} {fd : FuncData} (F : Fun K "_law_deeds" "_law_deeds" s_L_deeds f fd) (gF : mg "_law_deeds" = some (.ref f)) (b : Binds K fd ["_law_hand_here", "_law_wide", "_law_deep"] []) (B : Bl mg) (c_L_take : Cal P w K mg base 1 "_law_take" spTake) (c_L_of : Cal P w K mg base 2 "_law_of" (spOf K)) (c_L_figure : Cal P w K mg base 3 "_law_figure" spFigure) : ∀ n, Cal P w K mg base (n + 4) "_law_deeds" (spDeeds K n) := by
  intro n
  induction n with
  | zero =>
    refine cal_never F gF b fun vs H Q E h => ?_
    obtain ⟨_, _, l, _, _, hl, _⟩ := h
    omega
  | succ m c_L_deeds =>
  refine ⟨f, fd, _, F.ok sc_L_deeds (fun vs H Q E h => ?_) (fun cdv A outer s H vs Q E hr h => ?_), gF, F.kp, b⟩
  · obtain ⟨_, _, _, _, rfl, _⟩ := h
    rfl
  · obtain ⟨a, many, l, n, rfl, hl, hl3, hm1, hm2, hh, hn, q⟩ := h
    refine ⟨_, (pss_cons (ps_set (i := 3) sc_L_deeds.nd rfl (.inl rfl) (pe_lst pa_nil)) (pss_cons (ps_for PassesOwn.never rfl (pi_range1 rfl B.range (pa_cons (pe_c c_L_take hr (by omega) (by rfl) (pa_cons (pv 0) (pa_cons pe_int pa_nil))) pa_nil)) (pg_name (i := 4) sc_L_deeds.nd rfl (.inl rfl)) (pss_cons (ps_par (i := 5) (j := 6) rfl sc_L_deeds.nd rfl rfl (by decide) rfl rfl (pa_cons (pe_c c_L_take hr (by omega) (by rfl) (pa_cons (pv 0) (pa_cons pe_int pa_nil))) (pa_cons (pe_c c_L_of hr (by omega) (by rfl) (pa_cons (pv 0) (pa_cons (pe_lst (pa_cons pe_str (pa_cons pe_str (pa_cons pe_str (pa_cons pe_str (pa_cons pe_str (pa_cons pe_str pa_nil))))))) pa_nil))) pa_nil)) (by rfl)) (pss_one (ps_if (pt_cmpR op_in_seq (pv 6) (pe_tup (pa_cons pe_str (pa_cons pe_str pa_nil))) (by rfl)) (pss_one (ps_expr (pe_bm PySem.F.plainAttrs_list PySem.F.slot_list_append PySem.F.type_list_append mt_append (pv 3) (pa_cons (pe_tup (pa_cons (pv 6) (pa_cons (pv 5) (pa_cons (pe_c c_L_figure hr (by omega) (by rfl) (pa_cons (pv 0) pa_nil)) pa_nil)))) pa_nil)))) (pss_one (ps_if (pt_cmpR op_in_seq (pv 6) (pe_tup (pa_cons pe_str (pa_cons pe_str pa_nil))) (by rfl)) (pss_one (ps_expr (pe_bm PySem.F.plainAttrs_list PySem.F.slot_list_append PySem.F.type_list_append mt_append (pv 3) (pa_cons (pe_tup (pa_cons (pv 6) (pa_cons (pv 5) (pa_cons (pe_c c_L_take hr (by omega) (by rfl) (pa_cons (pv 0) (pa_cons pe_int pa_nil))) pa_nil)))) pa_nil)))) (pss_one (ps_expr (pe_bm PySem.F.plainAttrs_list PySem.F.slot_list_append PySem.F.type_list_append mt_append (pv 3) (pa_cons (pe_tup (pa_cons (pv 6) (pa_cons (pv 5) (pa_cons (pe_c c_L_take hr (by omega) (by rfl) (pa_cons (pv 0) (pa_cons (pv 1) pa_nil))) pa_nil)))) pa_nil)))))))))) (C8.pss_cut (ps_if (PW.pt (pw_and (pt_cmpR op_gt (pv 2) pe_int (nomark _)) (pw_and1 (pt_cmpR op_eq (pe_c c_L_take hr (by omega) (by rfl) (pa_cons (pv 0) (pa_cons pe_int pa_nil))) pe_int (nomark _))))) (pss_cons (ps_setLc (i := 7) (own := [("_law_turn", 4)]) rfl sc_L_deeds.nd rfl rfl (sw_true rfl rfl rfl (by decide +kernel)) (pi_range1 rfl B.range (pa_cons pe_int pa_nil)) (blkOk_by (N := N_L_deeds) (sc := defScope s_L_deeds) (by decide +kernel)) (fun _ _ _ _ _ => pg_name (i := 4) sc_L_deeds.nd rfl (.inl rfl)) (fun _ _ _ _ _ => pts_nil) (fun _ _ _ _ _ => pe_c c_L_deeds hr (by omega) (by rfl) (pa_cons (pv 0) (pa_cons (pv 1) (pa_cons (pe_op op_sub (pv 2) pe_int) pa_nil))))) (pss_one (ps_expr (pe_bm PySem.F.plainAttrs_list PySem.F.slot_list_append PySem.F.type_list_append mt_append (pv 3) (pa_cons (pe_tup (pa_cons pe_str (pa_cons (pe_c c_L_take hr (by omega) (by rfl) (pa_cons (pv 0) (pa_cons pe_int pa_nil))) (pa_cons (pe_c c_L_figure hr (by omega) (by rfl) (pa_cons (pv 0) pa_nil)) (pa_cons (pe_ix ix_list (pv 7) pe_int (fun _ _ => rfl)) (pa_cons (pe_ix ix_list (pv 7) pe_int (fun _ _ => rfl)) pa_nil)))))) pa_nil))))) pss_nil) (pss_one (ps_ret (pe_tupleOf (by rfl) B.tuple (pv 3))))))), ?_⟩
    have two_le : 2 ≤ sizeLine := by decide
    have three_le : 3 ≤ sizeLine := by decide
    have hBg := dB_ge l
    have hCg := dC_ge l
    have hCl : dC l ≤ 52 := by
      have : l = 0 ∨ l = 1 ∨ l = 2 ∨ l = 3 := by omega
      rcases this with rfl | rfl | rfl | rfl <;> decide
    refine ⟨(by show 0 ≤ sizeLine; decide), fun g ng => ?_⟩
    have hga := hh.ne ng
    refine ⟨.ref a, rfl, a, 4, n, rfl, by decide, by decide, hh.new ng, by omega, fun H0 t0 b0 hh0 t00 t01 => ⟨t0, rfl, by omega, by omega, ?_⟩⟩
    have hg0 := b0 _ _ hga (upd_same (o := .lst []))
    have bb0 : But a H H0 := (But.new ng).trans b0
    refine for_range (n := t0.toNat) (fun i σ H' => ∃ y4 y5 y6 us d, σ = [some (.ref a), some (.int (many : Int)), some (.int (l : Int)), some (.ref g), y4, y5, y6, none] ∧ But a H H' ∧ HandAt H' a (n + 1 + 5 * i) ∧ H' g = some (.lst us) ∧ DsAt K H' d us ∧ DsOk many d ∧ d.dep ≤ 1 ∧ d.cnt ≤ i) ⟨none, none, none, [], .nil, rfl, bb0, hh0, hg0, rfl, trivial, by decide, Nat.le_refl _⟩ ?_ ?_
    · rintro i σ H1 hi ⟨y4, y5, y6, us, d, rfl, b1, hh1, hg1, hd1, ho1, hdp, hdc⟩
      have hi3 : i < 3 := by omega
      have hul : us.length ≤ 3 := by
        have h1 := hd1.len
        have h2 := d.len_le
        omega
      refine ⟨.ref a, rfl, a, 4, _, rfl, by decide, by decide, hh1, by omega, fun H2 r b2 hh2 r0 r1 => ⟨.ref a, rfl, (by show 6 ≤ sizeLine; decide), fun p1 n1 => ?_⟩⟩
      have ne1 := hh2.ne n1
      refine ⟨a, p1, _, _, rfl, ne1.symm, upd_same, (by show 0 < 6; decide), (by show 6 ≤ 1000; decide), hh2.new n1, by omega, fun H3 v b3 hh3 hv => ⟨_, _, rfl, ?_⟩⟩
      have key : ∃ dw : D5, v = .str (dn dw) := by
        have hv : v ∈ ([.str "put", .str "add", .str "copy", .str "plus", .str "told", .str "add"] : List V) := hv
        simp only [List.mem_cons, List.not_mem_nil, or_false] at hv
        rcases hv with rfl | rfl | rfl | rfl | rfl | rfl
        · exact ⟨.put, rfl⟩
        · exact ⟨.add, rfl⟩
        · exact ⟨.copy, rfl⟩
        · exact ⟨.plus, rfl⟩
        · exact ⟨.told, rfl⟩
        · exact ⟨.add, rfl⟩
      obtain ⟨dw, rfl⟩ := key
      have b13 : But a H1 H3 := (b2.trans (But.new n1)).trans b3
      obtain ⟨r, rfl⟩ : ∃ r' : Nat, r = (r' : Int) := ⟨r.toNat, by omega⟩
      have fin : ∀ (x : Int) (Hx : Hp) (k : Nat), But a H1 Hx → HandAt Hx a k → k ≤ n + 1 + 5 * (i + 1) → xok many dw x → ∀ t, Hx t = none →
          ∃ xs, (upd Hx t (.tup [.str (dn dw), .int (r : Int), .int x])) g = some (.lst xs) ∧ xs.length < sizeLine ∧ ∃ y4 y5 y6 us d, ([some (.ref a), some (.int (many : Int)), some (.int (l : Int)), some (.ref g), some (.int (0 + (i : Int))), some (.int (r : Int)), some (.str (dn dw)), none] : L2.St) = [some (.ref a), some (.int (many : Int)), some (.int (l : Int)), some (.ref g), y4, y5, y6, none] ∧ But a H (upd (upd Hx t (.tup [.str (dn dw), .int (r : Int), .int x])) g (.lst (xs ++ [.ref t]))) ∧ HandAt (upd (upd Hx t (.tup [.str (dn dw), .int (r : Int), .int x])) g (.lst (xs ++ [.ref t]))) a (n + 1 + 5 * (i + 1)) ∧ (upd (upd Hx t (.tup [.str (dn dw), .int (r : Int), .int x])) g (.lst (xs ++ [.ref t]))) g = some (.lst us) ∧ DsAt K (upd (upd Hx t (.tup [.str (dn dw), .int (r : Int), .int x])) g (.lst (xs ++ [.ref t]))) d us ∧ DsOk many d ∧ d.dep ≤ 1 ∧ d.cnt ≤ i + 1 := by
        intro x Hx k bx hx hk ok t nt
        have hgx := bx _ _ hga hg1
        have smt := same_new (o := .tup [.str (dn dw), .int (r : Int), .int x]) nt
        have htt : (upd Hx t (.tup [.str (dn dw), .int (r : Int), .int x])) t = some (.tup [.str (dn dw), .int (r : Int), .int x]) := upd_same
        have hht := hx.new (o := .tup [.str (dn dw), .int (r : Int), .int x]) nt
        have hgt := smt _ _ hgx
        have hdt := (hd1.imp fun _ _ q => bx.sq hh1 q).same smt
        have bt := b1.trans (bx.trans (But.of smt))
        clear smt
        generalize upd Hx t (.tup [.str (dn dw), .int (r : Int), .int x]) = Ht at htt hht hgt hdt bt
        refine ⟨us, hgt, small1000 (by omega), _, _, _, us ++ [.ref t], d.app (.op dw r x .nil), rfl, fun b' o nb eb => ?_, (hht.put hga).le hk, upd_same, ?_, ho1.app ⟨by omega, ok, trivial⟩, ?_, ?_⟩
        · rw [upd_ne (ne_of_none eb ng)]
          exact bt _ _ nb eb
        · exact (DsAt.app (e := .op dw r x .nil) (ws := [.ref t]) hdt ⟨t, [], rfl, SqT.of htt, rfl⟩).imp fun _ _ q => put_sqt hgt q
        · rw [Ds.dep_app]
          show max d.dep (max 1 0) ≤ 1
          omega
        · rw [Ds.cnt_app]
          show d.cnt + (1 + 0) ≤ i + 1
          omega
      have tails : ∀ (x : Int) (Hx : Hp) (k : Nat), But a H1 Hx → HandAt Hx a k → k ≤ n + 1 + 5 * (i + 1) → xok many dw x → ∀ t, Hx t = none → _ := fin
      have hg3 := b13 _ _ hga hg1
      have go2 : ∀ (tq : Addr) (nq : H3 tq = none) (o : HO), But a H1 (upd H3 tq o) ∧ HandAt (upd H3 tq o) a (n + 1 + 5 * i + 1 + 1) ∧ (upd H3 tq o) g = some (.lst us) := fun tq nq o => ⟨b13.trans (But.new nq), hh3.new nq, (same_new nq) _ _ hg3⟩
      cases dw with
      | put =>
        refine ⟨_, rfl, two_le, fun t1 nt1 => ⟨t1, _, rfl, .inr (SqT.of upd_same), rfl, rfl, _, rfl, iteTT rfl ?_⟩⟩
        obtain ⟨bq, hq, gq⟩ := go2 t1 nt1 (.tup [.str "put", .str "add"])
        refine ⟨.ref g, rfl, .inl ⟨rfl, _, SqL.of gq⟩, _, rfl, .int (r : Int), rfl, .ref a, rfl, a, _, rfl, hq, by omega, fun H5 x b5 hh5 x0 x1 => ⟨three_le, fun t nt => ?_⟩⟩
        obtain ⟨xs, e1, e2, e3⟩ := fin x H5 _ (bq.trans b5) hh5 (by omega) ⟨x0, x1⟩ t nt
        exact ⟨g, xs, _, rfl, rfl, e1, e2, e3⟩
      | add =>
        refine ⟨_, rfl, two_le, fun t1 nt1 => ⟨t1, _, rfl, .inr (SqT.of upd_same), rfl, rfl, _, rfl, iteTT rfl ?_⟩⟩
        obtain ⟨bq, hq, gq⟩ := go2 t1 nt1 (.tup [.str "put", .str "add"])
        refine ⟨.ref g, rfl, .inl ⟨rfl, _, SqL.of gq⟩, _, rfl, .int (r : Int), rfl, .ref a, rfl, a, _, rfl, hq, by omega, fun H5 x b5 hh5 x0 x1 => ⟨three_le, fun t nt => ?_⟩⟩
        obtain ⟨xs, e1, e2, e3⟩ := fin x H5 _ (bq.trans b5) hh5 (by omega) ⟨x0, x1⟩ t nt
        exact ⟨g, xs, _, rfl, rfl, e1, e2, e3⟩
      | copy =>
        refine ⟨_, rfl, two_le, fun t1 nt1 => ⟨t1, _, rfl, .inr (SqT.of upd_same), rfl, rfl, _, rfl, iteFF rfl ?_⟩⟩
        obtain ⟨bq, hq, gq⟩ := go2 t1 nt1 (.tup [.str "put", .str "add"])
        refine ⟨_, rfl, two_le, fun t2 nt2 => ⟨t2, _, rfl, .inr (SqT.of upd_same), rfl, rfl, _, rfl, iteTT rfl ?_⟩⟩
        have gq2 := (same_new (o := .tup [.str "copy", .str "plus"]) nt2) _ _ gq
        refine ⟨.ref g, rfl, .inl ⟨rfl, _, SqL.of gq2⟩, _, rfl, .int (r : Int), rfl, .ref a, rfl, a, 4, _, rfl, by decide, by decide, hq.new nt2, by omega, fun H5 x b5 hh5 x0 x1 => ⟨three_le, fun t nt => ?_⟩⟩
        obtain ⟨xs, e1, e2, e3⟩ := fin x H5 _ ((bq.trans (But.new nt2)).trans b5) hh5 (by omega) ⟨x0, x1⟩ t nt
        exact ⟨g, xs, _, rfl, rfl, e1, e2, e3⟩
      | plus =>
        refine ⟨_, rfl, two_le, fun t1 nt1 => ⟨t1, _, rfl, .inr (SqT.of upd_same), rfl, rfl, _, rfl, iteFF rfl ?_⟩⟩
        obtain ⟨bq, hq, gq⟩ := go2 t1 nt1 (.tup [.str "put", .str "add"])
        refine ⟨_, rfl, two_le, fun t2 nt2 => ⟨t2, _, rfl, .inr (SqT.of upd_same), rfl, rfl, _, rfl, iteTT rfl ?_⟩⟩
        have gq2 := (same_new (o := .tup [.str "copy", .str "plus"]) nt2) _ _ gq
        refine ⟨.ref g, rfl, .inl ⟨rfl, _, SqL.of gq2⟩, _, rfl, .int (r : Int), rfl, .ref a, rfl, a, 4, _, rfl, by decide, by decide, hq.new nt2, by omega, fun H5 x b5 hh5 x0 x1 => ⟨three_le, fun t nt => ?_⟩⟩
        obtain ⟨xs, e1, e2, e3⟩ := fin x H5 _ ((bq.trans (But.new nt2)).trans b5) hh5 (by omega) ⟨x0, x1⟩ t nt
        exact ⟨g, xs, _, rfl, rfl, e1, e2, e3⟩
      | told =>
        refine ⟨_, rfl, two_le, fun t1 nt1 => ⟨t1, _, rfl, .inr (SqT.of upd_same), rfl, rfl, _, rfl, iteFF rfl ?_⟩⟩
        obtain ⟨bq, hq, gq⟩ := go2 t1 nt1 (.tup [.str "put", .str "add"])
        refine ⟨_, rfl, two_le, fun t2 nt2 => ⟨t2, _, rfl, .inr (SqT.of upd_same), rfl, rfl, _, rfl, iteFF rfl ?_⟩⟩
        have gq2 := (same_new (o := .tup [.str "copy", .str "plus"]) nt2) _ _ gq
        refine ⟨.ref g, rfl, .inl ⟨rfl, _, SqL.of gq2⟩, _, rfl, .int (r : Int), rfl, .ref a, rfl, .int (many : Int), rfl, a, many, _, rfl, by omega, by omega, hq.new nt2, by omega, fun H5 x b5 hh5 x0 x1 => ⟨three_le, fun t nt => ?_⟩⟩
        obtain ⟨xs, e1, e2, e3⟩ := fin x H5 _ ((bq.trans (But.new nt2)).trans b5) hh5 (by omega) ⟨x0, x1⟩ t nt
        exact ⟨g, xs, _, rfl, rfl, e1, e2, e3⟩
    · rintro σ H1 ⟨y4, y5, y6, us, d, rfl, b1, hh1, hg1, hd1, ho1, hdp, hdc⟩
      have hh1 : HandAt H1 a (n + 16) := hh1.le (by omega)
      have hdc : d.cnt ≤ 3 := by omega
      have hul : us.length ≤ 3 := by
        have h1 := hd1.len
        have h2 := d.len_le
        omega
      refine ⟨fun σ H' => ∃ y4 y5 y6 y7 us d, σ = [some (.ref a), some (.int (many : Int)), some (.int (l : Int)), some (.ref g), y4, y5, y6, y7] ∧ But a H H' ∧ HandAt H' a (n + dB l) ∧ H' g = some (.lst us) ∧ DsAt K H' d us ∧ DsOk many d ∧ d.dep ≤ l + 1 ∧ d.cnt ≤ dC l, ?_, ?_⟩
      · refine ⟨.int (l : Int), rfl, _, _, rfl, rfl, _, rfl, iteD (fun c => ?_) (fun c => ?_)⟩
        · obtain ⟨l', rfl⟩ : ∃ l', l = l' + 1 := ⟨l - 1, by omega⟩
          have eB : dB (l' + 1) = 2 * dB l' + 30 := rfl
          have eC : dC (l' + 1) = 2 * dC l' + 4 := rfl
          refine ⟨.ref a, rfl, a, 3, _, rfl, by decide, by decide, hh1, by omega, fun H2 z b2 hh2 z0 z1 => ⟨rfl, _, rfl, iteD (fun cz => ?_) (fun cz => ?_)⟩⟩
          · have hg2 := b2 _ _ hga hg1
            refine ⟨2, rfl, by decide, by decide, fun D nD => lc_range (n := (2 : Int).toNat) (fun j H' => ∃ ws ds, But a H2 H' ∧ HandAt H' a (n + 17 + dB l' * j) ∧ H' D = some (.lst ws) ∧ BhAt K H' ws ds ∧ ds.length = j ∧ ∀ d ∈ ds, DsOk many d ∧ d.dep ≤ l' + 1 ∧ d.cnt ≤ dC l') ⟨[], [], But.new nD, hh2.new nD, upd_same, trivial, rfl, fun x h => by cases h⟩ ?_ ?_⟩
            · rintro j H5 hj ⟨ws, ds, b5, hh5, hD, hbh, hel, hes⟩
              have hj : j < 2 := hj
              have hDa : D ≠ a := hh2.ne nD
              have elev : V.int (((l' + 1 : Nat) : Int) - 1) = V.int (l' : Int) := by
                congr 1
                omega
              have hjb : dB l' * j + dB l' ≤ 2 * dB l' := by
                have : j = 0 ∨ j = 1 := by omega
                rcases this with rfl | rfl <;> omega
              refine ⟨rfl, tYes_in ?_⟩
              refine ⟨.ref a, rfl, .int (many : Int), rfl, .int ((l' + 1 : Nat) : Int), rfl, _, 1, rfl, rfl, a, many, l', _, (by show [V.ref a, V.int (many : Int), V.int (((l' + 1 : Nat) : Int) - 1)] = _; rw [elev]), by omega, by omega, hm1, hm2, hh5, by omega, fun H6 p xs d b6 hh6 hp hd ho hdp hdc => ?_⟩
              have hD6 := b6 _ _ hDa hD
              have hwl := hbh.len
              refine ⟨ws, hD6, small1000 (by omega), ws ++ [.ref p], ds ++ [d], fun b' o nb eb => ?_, (hh6.le (by rw [Nat.mul_add]; omega)).put hDa, upd_same, BhAt.snoc (put_sqt hD6 hp) (hd.imp fun _ _ q => put_sqt hD6 q) ((hbh.imp fun _ _ q => b6.sq hh5 q).imp fun _ _ q => put_sqt hD6 q), by rw [List.length_append, hel]; rfl, fun e' he' => ?_⟩
              · rw [upd_ne (ne_of_none eb nD)]
                exact b6 _ _ nb (b5 _ _ nb eb)
              · rcases List.mem_append.mp he' with h | h
                · exact hes _ h
                · rw [List.mem_singleton.mp h]
                  exact ⟨ho, hdp, hdc⟩
            · rintro H5 ⟨ws, ds, b5, hh5, hD, hbh, hel, hes⟩
              have hel : ds.length = 2 := hel
              match ds, hel, hbh, hes with
              | [d1, d2], _, hbh, hes =>
              obtain ⟨w1, w2, rfl⟩ : ∃ w1 w2, ws = [w1, w2] := by
                have := hbh.len
                match ws, this with
                | [w1, w2], _ => exact ⟨w1, w2, rfl⟩
              obtain ⟨⟨p1, x1, rfl, q1, e1⟩, ⟨p2, x2, rfl, q2, e2⟩, _⟩ := hbh
              obtain ⟨k1, k2, k3⟩ := hes d1 (by simp)
              obtain ⟨m1, m2, m3⟩ := hes d2 (by simp)
              have hDa : D ≠ a := hh2.ne nD
              have hg5 := b5 _ _ hga hg2
              have hh5 : HandAt H5 a (n + 17 + dB l' * 2) := hh5
              refine ⟨.ref g, rfl, .inl ⟨rfl, _, SqL.of hg5⟩, .ref a, rfl, a, 4, _, rfl, by decide, by decide, hh5, by omega, fun H6 r b6 hh6 r0 r1 => ⟨.ref a, rfl, a, _, rfl, hh6, by omega, fun H7 x b7 hh7 x0 x1' => ?_⟩⟩
              have b57 := b6.trans b7
              have hD7 := b57 _ _ hDa hD
              refine ⟨.ref D, rfl, D, _, 0, _, rfl, rfl, SqL.of hD7, rfl, .ref D, rfl, D, _, 1, _, rfl, rfl, SqL.of hD7, rfl, (by show 5 ≤ sizeLine; decide), fun t nt => ?_⟩
              obtain ⟨r, rfl⟩ : ∃ r' : Nat, r = (r' : Int) := ⟨r.toNat, by omega⟩
              have smt := same_new (o := .tup [.str "when", .int (r : Int), .int x, .ref p1, .ref p2]) nt
              have htt : (upd H7 t (.tup [.str "when", .int (r : Int), .int x, .ref p1, .ref p2])) t = some (.tup [.str "when", .int (r : Int), .int x, .ref p1, .ref p2]) := upd_same
              have hht := hh7.new (o := .tup [.str "when", .int (r : Int), .int x, .ref p1, .ref p2]) nt
              have sq : ∀ p xs, SqT K H5 p xs → SqT K (upd H7 t (.tup [.str "when", .int (r : Int), .int x, .ref p1, .ref p2])) p xs := fun _ _ h => same_sqt smt (b7.sq hh6 (b6.sq hh5 h))
              have sq1 : ∀ p xs, SqT K H1 p xs → SqT K (upd H7 t (.tup [.str "when", .int (r : Int), .int x, .ref p1, .ref p2])) p xs := fun _ _ h => sq _ _ (b5.sq hh2 (b2.sq hh1 h))
              have hgt := smt _ _ (b57 _ _ hga hg5)
              have bt := ((b1.trans b2).trans (b5.trans b57)).trans (But.of smt)
              have new : DsAt K (upd H7 t (.tup [.str "when", .int (r : Int), .int x, .ref p1, .ref p2])) (.when r x d1 d2 .nil) [.ref t] := ⟨t, p1, p2, x1, x2, [], rfl, SqT.of htt, sq _ _ q1, e1.imp sq, sq _ _ q2, e2.imp sq, rfl⟩
              have hdt := DsAt.app (hd1.imp sq1) new
              clear new sq sq1 smt htt
              generalize upd H7 t (.tup [.str "when", .int (r : Int), .int x, .ref p1, .ref p2]) = Ht at hht hgt bt hdt
              refine ⟨g, us, _, rfl, rfl, hgt, small1000 (by omega), _, _, _, _, us ++ [.ref t], d.app (.when r x d1 d2 .nil), rfl, fun b' o nb eb => ?_, (hht.put hga).le (by omega), upd_same, hdt.imp fun _ _ q => put_sqt hgt q, ho1.app ⟨by omega, ⟨x0, x1'⟩, k1, m1, trivial⟩, ?_, ?_⟩
              · rw [upd_ne (ne_of_none eb ng)]
                exact bt _ _ nb eb
              · rw [Ds.dep_app]
                show max d.dep (max (max d1.dep d2.dep + 1) 0) ≤ l' + 1 + 1
                omega
              · rw [Ds.cnt_app]
                show d.cnt + (1 + (d1.cnt + d2.cnt) + 0) ≤ _
                omega
          · exact ⟨_, _, _, _, us, d, rfl, b1.trans b2, hh2.le (by omega), b2 _ _ hga hg1, hd1.imp fun _ _ q => b2.sq hh1 q, ho1, by omega, by omega⟩
        · exact ⟨_, _, _, _, us, d, rfl, b1, hh1.le (by omega), hg1, hd1, ho1, by omega, by omega⟩
      · rintro σ H2 ⟨y4, y5, y6, y7, us, d, rfl, b2, hh2, hg2, hd2, ho2, hdp2, hdc2⟩
        refine ⟨.ref g, rfl, .inl ⟨g, us, rfl, SqL.of hg2, fun t nt => ?_⟩⟩
        exact q _ t us d (b2.trans (But.new nt)) (hh2.new nt) (SqT.of upd_same) (hd2.same (same_new nt)) ho2 hdp2 hdc2
theorem ok_doubter {f : Addr} {fd : FuncData} (F : Fun K "_law_doubter" "_law_doubter" s_L_doubter f fd) (gF : mg "_law_doubter" = some (.ref f)) (b : Binds K fd ["_law_hand_here", "_law_wide", "_law_level", "_law_jumps"] []) (B : Bl mg) (c_L_take : Cal P w K mg base 1 "_law_take" spTake) (c_L_of : Cal P w K mg base 2 "_law_of" (spOf K)) (c_L_registers : Cal P w K mg base 4 "_law_registers" (spRegs K)) {m : Nat} (c_L_stake : Cal P w K mg base (m + 5) "_law_stake" (spStake K m)) (c_L_deeds : Cal P w K mg base 6 "_law_deeds" (spDeeds K 2)) : Cal P w K mg base (m + 7) "_law_doubter" (spDoubter K m) := by
  refine ⟨f, fd, _, F.ok sc_L_doubter (fun vs H Q E h => ?_) (fun cdv A outer s H vs Q E hr h => ?_), gF, F.kp, b⟩
  · obtain ⟨_, _, _, _, _, rfl, _⟩ := h
    rfl
  · obtain ⟨a, many, l, n, j, rfl, hj, hl, hl5, hm1, hm2, hh, hn, q⟩ := h
    refine ⟨_, (pss_cons (ps_par (i := 4) (j := 5) rfl sc_L_doubter.nd rfl rfl (by decide) rfl rfl (pa_cons (pe_c c_L_of hr (by omega) (by rfl) (pa_cons (pv 0) (pa_cons (pe_lst (pa_cons pe_str (pa_cons pe_str (pa_cons pe_str (pa_cons pe_str pa_nil))))) pa_nil))) (pa_cons (pe_c c_L_take hr (by omega) (by rfl) (pa_cons (pv 0) (pa_cons pe_int pa_nil))) pa_nil)) (by rfl)) (pss_cons (ps_set (i := 6) sc_L_doubter.nd rfl (.inl rfl) (pe_tupleOf (by rfl) B.tuple (pe_lc (own := [("_law_face", 7)]) rfl sc_L_doubter.nd (pi_range1 rfl B.range (pa_cons (pv 1) pa_nil)) (blkOk_by (N := N_L_doubter) (sc := defScope s_L_doubter) (by decide +kernel)) (fun _ _ _ _ _ => pg_name (i := 7) sc_L_doubter.nd rfl (.inl rfl)) (fun _ _ _ _ _ => pts_nil) (fun _ _ _ _ _ => pe_c c_L_stake hr (by omega) (by rfl) (pa_cons (pv 0) (pa_cons (pv 1) (pa_cons (pv 2) (pa_cons (pv 3) pa_nil)))))))) (pss_cons (ps_set (i := 8) sc_L_doubter.nd rfl (.inl rfl) (pe_tupleOf (by rfl) B.tuple (pe_lc (own := [("_law_face", 7)]) rfl sc_L_doubter.nd (pi_range1 rfl B.range (pa_cons (pv 1) pa_nil)) (blkOk_by (N := N_L_doubter) (sc := defScope s_L_doubter) (by decide +kernel)) (fun _ _ _ _ _ => pg_name (i := 7) sc_L_doubter.nd rfl (.inl rfl)) (fun _ _ _ _ _ => pts_nil) (fun _ _ _ _ _ => pe_c c_L_deeds hr (by omega) (by rfl) (pa_cons (pv 0) (pa_cons (pv 1) (pa_cons pe_int pa_nil))))))) (pss_one (ps_ret (pe_tup (pa_cons (pv 4) (pa_cons (pv 5) (pa_cons (pe_c c_L_registers hr (by omega) (by rfl) (pa_cons (pv 0) pa_nil)) (pa_cons (pv 6) (pa_cons (pv 8) pa_nil))))))))))), ?_⟩
    have hcl : cost l ≤ 900 := by
      have : l = 0 ∨ l = 1 ∨ l = 2 ∨ l = 3 ∨ l = 4 ∨ l = 5 := by omega
      rcases this with rfl | rfl | rfl | rfl | rfl | rfl <;> decide
    refine ⟨.ref a, rfl, (by show 4 ≤ sizeLine; decide), fun p1 n1 => ?_⟩
    have ne1 := hh.ne n1
    refine ⟨a, p1, _, n, rfl, ne1.symm, upd_same, (by show 0 < 4; decide), (by show 4 ≤ 1000; decide), hh.new n1, by omega, fun H1 nv b1 hh1 hv => ?_⟩
    have key : ∃ x : Str, nv = .str x ∧ (x = "a" ∨ x = "doubter" ∨ x = "sceptics" ∨ x = "zz") := by
      have hv : nv ∈ ([.str "a", .str "doubter", .str "sceptics", .str "zz"] : List V) := hv
      simp only [List.mem_cons, List.not_mem_nil, or_false] at hv
      rcases hv with rfl | rfl | rfl | rfl
      all_goals exact ⟨_, rfl, by simp⟩
    obtain ⟨nm, rfl, hnm⟩ := key
    refine ⟨.ref a, rfl, a, 5, _, rfl, by decide, by decide, hh1, by omega, fun H2 sc b2 hh2 s0 s1 => ⟨_, _, rfl, ?_⟩⟩
    obtain ⟨sc, rfl⟩ : ∃ r' : Nat, sc = (r' : Int) := ⟨sc.toNat, by omega⟩
    have b02 : But a H H2 := ((But.new n1).trans b1).trans b2
    refine ⟨.int (many : Int), rfl, _, rfl, by omega, by omega, fun D nD => lc_range (n := ((many : Int)).toNat) (fun i H' => ∃ us es, But a H2 H' ∧ HandAt H' a (n + 2 + (cost l + 3) * i) ∧ H' D = some (.lst us) ∧ RowsAt K H' us es ∧ es.length = i ∧ ∀ e ∈ es, (ExOk many e ∧ e.dep ≤ l + 3) ∧ StOk many l e) ⟨[], [], But.new nD, hh2.new nD, upd_same, trivial, rfl, fun x h => by cases h⟩ ?_ ?_⟩
    · rintro i H5 hi ⟨us, es, b5, hh5, hD, hrow, hel, hes⟩
      have hi : i < 3 := by omega
      have hDa : D ≠ a := hh2.ne nD
      have hib : (cost l + 3) * i ≤ 903 * 2 := Nat.mul_le_mul (by omega) (by omega)
      refine ⟨rfl, tYes_in ?_⟩
      refine ⟨.ref a, rfl, .int (many : Int), rfl, .int (l : Int), rfl, .int (j : Int), rfl, a, many, l, _, j, rfl, hj, hl, hm1, by omega, hh5, by omega, fun H6 v e b6 hh6 he ho hd hst => ?_⟩
      have hD6 := b6 _ _ hDa hD
      have hwl := hrow.len
      refine ⟨us, hD6, small1000 (by omega), us ++ [v], es ++ [e], fun b' o nb eb => ?_, (hh6.le (by rw [Nat.mul_add]; omega)).put hDa, upd_same, RowsAt.snoc (he.imp fun _ _ q => put_sqt hD6 q) ((hrow.imp fun _ _ q => b6.sq hh5 q).imp fun _ _ q => put_sqt hD6 q), by rw [List.length_append, hel]; rfl, fun e' he' => ?_⟩
      · rw [upd_ne (ne_of_none eb nD)]
        exact b6 _ _ nb (b5 _ _ nb eb)
      · rcases List.mem_append.mp he' with h | h
        · exact hes _ h
        · rw [List.mem_singleton.mp h]
          exact ⟨⟨ho, hd⟩, hst⟩
    · rintro H5 ⟨us, es, b5, hh5, hD, hrow, hel, hes⟩
      have hel : es.length = many := by omega
      have hib : (cost l + 3) * ((many : Int)).toNat ≤ (cost l + 3) * 3 := Nat.mul_le_mul_left _ (by omega)
      have hh5 : HandAt H5 a (n + 11 + 3 * cost l) := hh5.le (by omega)
      refine .inl ⟨D, us, rfl, SqL.of hD, fun T nT => ?_⟩
      have smT := same_new (o := .tup us) nT
      have hT : (upd H5 T (.tup us)) T = some (.tup us) := upd_same
      have hhT := hh5.new (o := .tup us) nT
      have hrT := hrow.same smT
      have bT := (b02.trans b5).trans (But.of smT)
      clear smT
      generalize upd H5 T (.tup us) = H6 at hT hhT hrT bT
      refine ⟨.int (many : Int), rfl, _, rfl, by omega, by omega, fun D2 nD2 => lc_range (n := ((many : Int)).toNat) (fun i H' => ∃ ws ds, But a H6 H' ∧ HandAt H' a (n + 11 + 3 * cost l + 70 * i) ∧ H' D2 = some (.lst ws) ∧ BhAt K H' ws ds ∧ ds.length = i ∧ ∀ d ∈ ds, DsOk many d ∧ d.dep ≤ 2 ∧ d.cnt ≤ 10) ⟨[], [], But.new nD2, hhT.new nD2, upd_same, trivial, rfl, fun x h => by cases h⟩ ?_ ?_⟩
      · rintro i H7 hi ⟨ws, ds, b7, hh7, hD7, hbh, hdl, hds⟩
        have hi : i < 3 := by omega
        have hDa : D2 ≠ a := hhT.ne nD2
        refine ⟨rfl, tYes_in ?_⟩
        refine ⟨.ref a, rfl, .int (many : Int), rfl, a, many, 1, _, rfl, by decide, by decide, hm1, by omega, hh7, (by show _ + 70 ≤ _; omega), fun H8 p xs d b8 hh8 hp hd ho hdp hdc => ?_⟩
        have hD8 := b8 _ _ hDa hD7
        have hwl := hbh.len
        refine ⟨ws, hD8, small1000 (by omega), ws ++ [.ref p], ds ++ [d], fun b' o nb eb => ?_, (hh8.le (by show _ + 70 ≤ _; omega)).put hDa, upd_same, BhAt.snoc (put_sqt hD8 hp) (hd.imp fun _ _ q => put_sqt hD8 q) ((hbh.imp fun _ _ q => b8.sq hh7 q).imp fun _ _ q => put_sqt hD8 q), by rw [List.length_append, hdl]; rfl, fun e' he' => ?_⟩
        · rw [upd_ne (ne_of_none eb nD2)]
          exact b8 _ _ nb (b7 _ _ nb eb)
        · rcases List.mem_append.mp he' with h | h
          · exact hds _ h
          · rw [List.mem_singleton.mp h]
            exact ⟨ho, hdp, hdc⟩
      · rintro H7 ⟨ws, ds, b7, hh7, hD7, hbh, hdl, hds⟩
        have hdl : ds.length = many := by omega
        have hh7 : HandAt H7 a (n + 221 + 3 * cost l) := hh7.le (by omega)
        refine .inl ⟨D2, ws, rfl, SqL.of hD7, fun T2 nT2 => ?_⟩
        have smT2 := same_new (o := .tup ws) nT2
        have hT2 : (upd H7 T2 (.tup ws)) T2 = some (.tup ws) := upd_same
        have hhT2 := hh7.new (o := .tup ws) nT2
        have hbT2 := hbh.same smT2
        have bT2 := b7.trans (But.of smT2)
        clear smT2
        generalize upd H7 T2 (.tup ws) = H8 at hT2 hhT2 hbT2 bT2
        refine ⟨_, rfl, _, rfl, .ref a, rfl, a, _, rfl, hhT2, by omega, fun H9 v rs b9 hh9 hR => ⟨.ref T, rfl, .ref T2, rfl, (by show 5 ≤ sizeLine; decide), fun t nt => ?_⟩⟩
        have s10 := same_new (o := .tup [.str nm, .int (sc : Int), v, .ref T, .ref T2]) nt
        have sq69 : ∀ p xs, SqT K H6 p xs → SqT K (upd H9 t (.tup [.str nm, .int (sc : Int), v, .ref T, .ref T2])) p xs := fun _ _ h => same_sqt s10 (b9.sq hhT2 (bT2.sq hhT h))
        have sq89 : ∀ p xs, SqT K H8 p xs → SqT K (upd H9 t (.tup [.str nm, .int (sc : Int), v, .ref T, .ref T2])) p xs := fun _ _ h => same_sqt s10 (b9.sq hhT2 h)
        refine q _ _ ⟨nm, sc, rs, es, ds⟩ (((bT.trans bT2).trans b9).trans (But.of s10)) ((hh9.new nt).le (by omega)) ⟨t, v, T, T2, us, ws, rfl, SqT.of upd_same, hR.same s10, sq69 _ _ (SqT.of hT), hrT.imp sq69, sq89 _ _ (SqT.of hT2), hbT2.imp sq89⟩ ⟨hnm, by show sc < 5; omega, hR.ok, hel, fun e he => (hes e he).1, hdl, hds⟩ fun e he => (hes e he).2
end
end NG

set_option maxHeartbeats 16000000
namespace NG
open PySem PySem.Spec PyProof.Rows L2
theorem put_new {H0 H : Hp} {a : Addr} {o : HO} (h : H0 a = none) (S : Same H0 H) : Same H0 (upd H a o) := fun b u eb => by
  rw [upd_ne (ne_of_none eb h)]
  exact S _ _ eb
theorem put_sqtD {K : PySem.W.Frag} {H : Hp} {a p : Addr} {kvs : List (Key × V)} {o : HO} {xs : List V} (h : H a = some (.dK kvs)) (q : SqT K H p xs) : SqT K (upd H a o) p xs := by
  rcases q with (q | ⟨ob, q⟩) | q
  · exact .inl (.inl (by rw [upd_ne (by intro e; rw [e, h] at q; cases q)]; exact q))
  · exact .inl (.inr ⟨ob, by rw [upd_ne (by intro e; rw [e, h] at q; cases q)]; exact q⟩)
  · exact .inr q
def topD : Nat → PyData
  | 0 => .tuple [.str "fig", .int 500]
  | 1 => .tuple [.str "fig", .int 1000]
  | 2 => .tuple [.str "times", .int 2, .tuple [.str "fig", .int 1000]]
  | 3 => .tuple [.str "times", .int 4, .tuple [.str "fig", .int 1000]]
  | _ => .tuple [.str "times", .int 8, .tuple [.str "fig", .int 1000]]
theorem topD_tpo {sc : Nat} (h : sc < 5) : tpo (topD sc) = true := by
  rcases (by omega : sc = 0 ∨ sc = 1 ∨ sc = 2 ∨ sc = 3 ∨ sc = 4) with rfl | rfl | rfl | rfl | rfl <;> rfl
/-- what tells a stake, and whether it is one -/
def CaseS (K : PySem.W.Frag) (many sc : Nat) (H : Hp) (v : V) : Prop := ∃ (d : PyData) (due : Bool), Dp K H v (.tuple [d, .bool due]) ∧ tpo d = true ∧ wdE many 8 d ∧ stakeD many sc d = due
theorem CaseS.imp {K : PySem.W.Frag} {many sc : Nat} {H H' : Hp} {v : V} (h : ∀ p xs, SqT K H p xs → SqT K H' p xs) (c : CaseS K many sc H v) : CaseS K many sc H' v := by
  obtain ⟨d, due, x, t, w, s⟩ := c
  cases x with
  | tup q r =>
    cases r with
    | cons x r =>
      cases r with
      | cons y r =>
        cases r
        cases y
        exact ⟨d, due, .tup (h _ _ q) (.cons (dp_imp h t x) (.cons (.bl _) .nil)), t, w, s⟩
theorem CaseS.same {K : PySem.W.Frag} {many sc : Nat} {H H' : Hp} {v : V} (c : CaseS K many sc H v) (s : Same H H') : CaseS K many sc H' v := c.imp fun _ _ q => same_sqt s q
theorem CaseS.put {K : PySem.W.Frag} {many sc : Nat} {H : Hp} {v : V} {a : Addr} {us ws : List V} (c : CaseS K many sc H v) (h : H a = some (.lst us)) : CaseS K many sc (upd H a (.lst ws)) v := c.imp fun _ _ q => put_sqt h q
def chkS (many sc : Nat) (d : PyData) (due : Bool) : Bool := tpo d && (decide (0 < cntE many 8 d) && (stakeD many sc d == due))
theorem mk_case {K : PySem.W.Frag} {many sc : Nat} {H : Hp} {v : V} {d : PyData} {due : Bool} (c : chkS many sc d due = true) (x : Dp K H v (.tuple [d, .bool due])) : CaseS K many sc H v := by
  unfold chkS at c
  rw [Bool.and_eq_true, Bool.and_eq_true, decide_eq_true_eq, beq_iff_eq] at c
  obtain ⟨c1, c2, c3⟩ := c
  refine ⟨d, due, x, c1, ?_, c3⟩
  obtain ⟨e1, e2, e3⟩ := exD_of c2
  rw [← e1]
  exact wdE_of e2
def spCases (K : PySem.W.Frag) : Sp := fun vs H Q _ => ∃ many sc : Nat, vs = [.int (sc : Int)] ∧ (many = 2 ∨ many = 3) ∧ sc < 5 ∧ ∀ H' l us, Same H H' → H l = none → H' l = some (.lst us) → us.length ≤ 30 → (∀ v ∈ us, CaseS K many sc H' v) → Q (.ref l) H'
theorem ck0 {many sc : Nat} (hm : many = 2 ∨ many = 3) (h5 : sc < 5) : chkS many sc (topD sc) (true) = true := by
  rcases (by omega : sc = 0 ∨ sc = 1 ∨ sc = 2 ∨ sc = 3 ∨ sc = 4) with rfl | rfl | rfl | rfl | rfl
  all_goals (rcases hm with rfl | rfl <;> decide +kernel)
theorem ck1 {many sc : Nat} (hm : many = 2 ∨ many = 3) (h5 : sc < 5) : chkS many sc (.tuple [.str "times", .int (-1), topD sc]) (true) = true := by
  rcases (by omega : sc = 0 ∨ sc = 1 ∨ sc = 2 ∨ sc = 3 ∨ sc = 4) with rfl | rfl | rfl | rfl | rfl
  all_goals (rcases hm with rfl | rfl <;> decide +kernel)
theorem ck2 {many sc : Nat} (hm : many = 2 ∨ many = 3) (h5 : sc < 5) : chkS many sc (.tuple [.str "sum", topD sc, .tuple [.str "fig", .int 1]]) (false) = true := by
  rcases (by omega : sc = 0 ∨ sc = 1 ∨ sc = 2 ∨ sc = 3 ∨ sc = 4) with rfl | rfl | rfl | rfl | rfl
  all_goals (rcases hm with rfl | rfl <;> decide +kernel)
theorem ck3 {many sc : Nat} (hm : many = 2 ∨ many = 3) (h5 : sc < 5) : chkS many sc (.tuple [.str "less", .tuple [.str "times", .int (-1), topD sc], .tuple [.str "fig", .int 1]]) (false) = true := by
  rcases (by omega : sc = 0 ∨ sc = 1 ∨ sc = 2 ∨ sc = 3 ∨ sc = 4) with rfl | rfl | rfl | rfl | rfl
  all_goals (rcases hm with rfl | rfl <;> decide +kernel)
theorem ck4 {many sc : Nat} (hm : many = 2 ∨ many = 3) (h5 : sc < 5) : chkS many sc (.tuple [.str "share", .int 1]) ((decide ((1000 : Int) ≤ (500 * pw2 sc)))) = true := by
  rcases (by omega : sc = 0 ∨ sc = 1 ∨ sc = 2 ∨ sc = 3 ∨ sc = 4) with rfl | rfl | rfl | rfl | rfl
  all_goals (rcases hm with rfl | rfl <;> decide +kernel)
theorem ck5 {many sc : Nat} (hm : many = 2 ∨ many = 3) (h5 : sc < 5) : chkS many sc (.tuple [.str "times", .int (-8), .tuple [.str "share", .int 0]]) ((decide ((8000 : Int) ≤ (500 * pw2 sc)))) = true := by
  rcases (by omega : sc = 0 ∨ sc = 1 ∨ sc = 2 ∨ sc = 3 ∨ sc = 4) with rfl | rfl | rfl | rfl | rfl
  all_goals (rcases hm with rfl | rfl <;> decide +kernel)
theorem ck6 {many sc : Nat} (hm : many = 2 ∨ many = 3) (h5 : sc < 5) : chkS many sc (.tuple [.str "reg", .int 3]) ((decide ((1000 : Int) ≤ (500 * pw2 sc)))) = true := by
  rcases (by omega : sc = 0 ∨ sc = 1 ∨ sc = 2 ∨ sc = 3 ∨ sc = 4) with rfl | rfl | rfl | rfl | rfl
  all_goals (rcases hm with rfl | rfl <;> decide +kernel)
theorem ck7 {many sc : Nat} (hm : many = 2 ∨ many = 3) (h5 : sc < 5) : chkS many sc (.tuple [.str "by", .int 0, .tuple [.str "fig", .int (-8)]]) ((decide ((8000 : Int) ≤ (500 * pw2 sc)))) = true := by
  rcases (by omega : sc = 0 ∨ sc = 1 ∨ sc = 2 ∨ sc = 3 ∨ sc = 4) with rfl | rfl | rfl | rfl | rfl
  all_goals (rcases hm with rfl | rfl <;> decide +kernel)
theorem ck8 {many sc : Nat} (hm : many = 2 ∨ many = 3) (h5 : sc < 5) : chkS many sc (.tuple [.str "by", .int 1, .tuple [.str "fig", .int 9]]) (false) = true := by
  rcases (by omega : sc = 0 ∨ sc = 1 ∨ sc = 2 ∨ sc = 3 ∨ sc = 4) with rfl | rfl | rfl | rfl | rfl
  all_goals (rcases hm with rfl | rfl <;> decide +kernel)
theorem ck9 {many sc : Nat} (hm : many = 2 ∨ many = 3) (h5 : sc < 5) : chkS many sc (.tuple [.str "by", .int 2, .tuple [.str "fig", .int 0]]) (true) = true := by
  rcases (by omega : sc = 0 ∨ sc = 1 ∨ sc = 2 ∨ sc = 3 ∨ sc = 4) with rfl | rfl | rfl | rfl | rfl
  all_goals (rcases hm with rfl | rfl <;> decide +kernel)
theorem ck10 {many sc : Nat} (hm : many = 2 ∨ many = 3) (h5 : sc < 5) : chkS many sc (.tuple [.str "least", topD sc, .tuple [.str "times", .int 9, .tuple [.str "share", .int 0]]]) (true) = true := by
  rcases (by omega : sc = 0 ∨ sc = 1 ∨ sc = 2 ∨ sc = 3 ∨ sc = 4) with rfl | rfl | rfl | rfl | rfl
  all_goals (rcases hm with rfl | rfl <;> decide +kernel)
theorem ck11 {many sc : Nat} (hm : many = 2 ∨ many = 3) (h5 : sc < 5) : chkS many sc (.tuple [.str "most", .tuple [.str "times", .int (-1), topD sc], .tuple [.str "times", .int 9, .tuple [.str "reg", .int 0]]]) (false) = true := by
  rcases (by omega : sc = 0 ∨ sc = 1 ∨ sc = 2 ∨ sc = 3 ∨ sc = 4) with rfl | rfl | rfl | rfl | rfl
  all_goals (rcases hm with rfl | rfl <;> decide +kernel)
theorem ck12 {many sc : Nat} (hm : many = 2 ∨ many = 3) (h5 : sc < 5) : chkS many sc (.tuple [.str "least", topD sc, .tuple [.str "most", .tuple [.str "times", .int (-1), topD sc], .tuple [.str "times", .int 9, .tuple [.str "reg", .int 0]]]]) (true) = true := by
  rcases (by omega : sc = 0 ∨ sc = 1 ∨ sc = 2 ∨ sc = 3 ∨ sc = 4) with rfl | rfl | rfl | rfl | rfl
  all_goals (rcases hm with rfl | rfl <;> decide +kernel)
theorem ck13 {many sc : Nat} (hm : many = 2 ∨ many = 3) (h5 : sc < 5) : chkS many sc (.tuple [.str "when", .int 0, .int 0, topD sc, .tuple [.str "sum", topD sc, .tuple [.str "fig", .int 1]]]) (false) = true := by
  rcases (by omega : sc = 0 ∨ sc = 1 ∨ sc = 2 ∨ sc = 3 ∨ sc = 4) with rfl | rfl | rfl | rfl | rfl
  all_goals (rcases hm with rfl | rfl <;> decide +kernel)
theorem ck14 {many sc : Nat} (hm : many = 2 ∨ many = 3) (h5 : sc < 5) : chkS many sc (.tuple [.str "where", .int 0, .int 500, .tuple [.str "sum", .tuple [.str "times", .int (-1), topD sc], .tuple [.str "fig", .int (-1)]], topD sc]) (false) = true := by
  rcases (by omega : sc = 0 ∨ sc = 1 ∨ sc = 2 ∨ sc = 3 ∨ sc = 4) with rfl | rfl | rfl | rfl | rfl
  all_goals (rcases hm with rfl | rfl <;> decide +kernel)
theorem ck15 {many sc : Nat} (hm : many = 2 ∨ many = 3) (h5 : sc < 5) : chkS many sc (.tuple [.str "less", .tuple [.str "share", .int 0], .tuple [.str "share", .int 1]]) ((decide ((1000 : Int) ≤ (500 * pw2 sc)))) = true := by
  rcases (by omega : sc = 0 ∨ sc = 1 ∨ sc = 2 ∨ sc = 3 ∨ sc = 4) with rfl | rfl | rfl | rfl | rfl
  all_goals (rcases hm with rfl | rfl <;> decide +kernel)
section
variable {P : Program} {w : World} {K : PySem.W.Frag} {mg : Str → Option Value} {base : Heap}
theorem ok_stcases {f : Addr} {fd : FuncData} (F : Fun K "_law_stakes_cases" "_law_stakes_cases" s_L_stakes_cases f fd) (gF : mg "_law_stakes_cases" = some (.ref f)) (b : Binds K fd ["_law_scale"] []) (B : Bl mg) : Cal P w K mg base 1 "_law_stakes_cases" (spCases K) := by
  refine ⟨f, fd, _, F.ok sc_L_stakes_cases (fun vs H Q E h => ?_) (fun cdv A outer s H vs Q E hr h => ?_), gF, F.kp, b⟩
  · obtain ⟨_, _, rfl, _⟩ := h
    rfl
  · obtain ⟨many, sc, rfl, hm, h5, q⟩ := h
    refine ⟨_, (C8.pss_cut (ps_set (i := 1) sc_L_stakes_cases.nd rfl (.inl rfl) (pe_op op_mul pe_int (pe_op op_shl pe_int (pv 0)))) (C8.pss_cut (ps_set (i := 2) sc_L_stakes_cases.nd rfl (.inl rfl) (pe_dget (hu_of hr) (pe_disp (pps_cons pe_int (pe_tup (pa_cons pe_str (pa_cons pe_int pa_nil))) (pps_cons pe_int (pe_tup (pa_cons pe_str (pa_cons pe_int pa_nil))) (pps_cons pe_int (pe_tup (pa_cons pe_str (pa_cons pe_int (pa_cons (pe_tup (pa_cons pe_str (pa_cons pe_int pa_nil))) pa_nil)))) (pps_cons pe_int (pe_tup (pa_cons pe_str (pa_cons pe_int (pa_cons (pe_tup (pa_cons pe_str (pa_cons pe_int pa_nil))) pa_nil)))) (pps_cons pe_int (pe_tup (pa_cons pe_str (pa_cons pe_int (pa_cons (pe_tup (pa_cons pe_str (pa_cons pe_int pa_nil))) pa_nil)))) pps_nil))))) (by rfl) (by rfl) (by simp) (by decide)) (pv 0) (fun _ _ => rfl))) (pss_cons (ps_set (i := 3) sc_L_stakes_cases.nd rfl (.inl rfl) (pe_tup (pa_cons pe_str (pa_cons (pe_un un_neg pe_int) (pa_cons (pv 2) pa_nil))))) (pss_cons (ps_set (i := 4) sc_L_stakes_cases.nd rfl (.inl rfl) (pe_lst (pa_cons (pe_tup (pa_cons (pv 2) (pa_cons pe_bl pa_nil))) (pa_cons (pe_tup (pa_cons (pv 3) (pa_cons pe_bl pa_nil))) (pa_cons (pe_tup (pa_cons (pe_tup (pa_cons pe_str (pa_cons (pv 2) (pa_cons (pe_tup (pa_cons pe_str (pa_cons pe_int pa_nil))) pa_nil)))) (pa_cons pe_bl pa_nil))) (pa_cons (pe_tup (pa_cons (pe_tup (pa_cons pe_str (pa_cons (pv 3) (pa_cons (pe_tup (pa_cons pe_str (pa_cons pe_int pa_nil))) pa_nil)))) (pa_cons pe_bl pa_nil))) pa_nil)))))) (pss_cons (ps_set (i := 4) sc_L_stakes_cases.nd rfl (.inl rfl) (pe_op op_cat (pv 4) (pe_lst (pa_cons (pe_tup (pa_cons (pe_tup (pa_cons pe_str (pa_cons pe_int pa_nil))) (pa_cons (pe_cmpR op_ge (pv 1) pe_int (nomark _)) pa_nil))) (pa_cons (pe_tup (pa_cons (pe_tup (pa_cons pe_str (pa_cons (pe_un un_neg pe_int) (pa_cons (pe_tup (pa_cons pe_str (pa_cons pe_int pa_nil))) pa_nil)))) (pa_cons (pe_cmpR op_ge (pv 1) pe_int (nomark _)) pa_nil))) pa_nil))))) (pss_cons (ps_set (i := 4) sc_L_stakes_cases.nd rfl (.inl rfl) (pe_op op_cat (pv 4) (pe_lst (pa_cons (pe_tup (pa_cons (pe_tup (pa_cons pe_str (pa_cons pe_int pa_nil))) (pa_cons (pe_cmpR op_ge (pv 1) pe_int (nomark _)) pa_nil))) (pa_cons (pe_tup (pa_cons (pe_tup (pa_cons pe_str (pa_cons pe_int (pa_cons (pe_tup (pa_cons pe_str (pa_cons (pe_un un_neg pe_int) pa_nil))) pa_nil)))) (pa_cons (pe_cmpR op_ge (pv 1) pe_int (nomark _)) pa_nil))) pa_nil))))) (pss_cons (ps_set (i := 4) sc_L_stakes_cases.nd rfl (.inl rfl) (pe_op op_cat (pv 4) (pe_lst (pa_cons (pe_tup (pa_cons (pe_tup (pa_cons pe_str (pa_cons pe_int (pa_cons (pe_tup (pa_cons pe_str (pa_cons pe_int pa_nil))) pa_nil)))) (pa_cons pe_bl pa_nil))) (pa_cons (pe_tup (pa_cons (pe_tup (pa_cons pe_str (pa_cons pe_int (pa_cons (pe_tup (pa_cons pe_str (pa_cons pe_int pa_nil))) pa_nil)))) (pa_cons pe_bl pa_nil))) pa_nil))))) (pss_cons (ps_set (i := 5) sc_L_stakes_cases.nd rfl (.inl rfl) (pe_tup (pa_cons pe_str (pa_cons pe_int (pa_cons (pe_tup (pa_cons pe_str (pa_cons pe_int pa_nil))) pa_nil))))) (pss_cons (ps_set (i := 4) sc_L_stakes_cases.nd rfl (.inl rfl) (pe_op op_cat (pv 4) (pe_lst (pa_cons (pe_tup (pa_cons (pe_tup (pa_cons pe_str (pa_cons (pv 2) (pa_cons (pe_tup (pa_cons pe_str (pa_cons pe_int (pa_cons (pe_tup (pa_cons pe_str (pa_cons pe_int pa_nil))) pa_nil)))) pa_nil)))) (pa_cons pe_bl pa_nil))) (pa_cons (pe_tup (pa_cons (pe_tup (pa_cons pe_str (pa_cons (pv 3) (pa_cons (pv 5) pa_nil)))) (pa_cons pe_bl pa_nil))) pa_nil))))) (pss_cons (ps_expr (pe_bm PySem.F.plainAttrs_list PySem.F.slot_list_append PySem.F.type_list_append mt_append (pv 4) (pa_cons (pe_tup (pa_cons (pe_tup (pa_cons pe_str (pa_cons (pv 2) (pa_cons (pe_tup (pa_cons pe_str (pa_cons (pv 3) (pa_cons (pv 5) pa_nil)))) pa_nil)))) (pa_cons pe_bl pa_nil))) pa_nil))) (pss_cons (ps_expr (pe_bm PySem.F.plainAttrs_list PySem.F.slot_list_append PySem.F.type_list_append mt_append (pv 4) (pa_cons (pe_tup (pa_cons (pe_tup (pa_cons pe_str (pa_cons pe_int (pa_cons pe_int (pa_cons (pv 2) (pa_cons (pe_tup (pa_cons pe_str (pa_cons (pv 2) (pa_cons (pe_tup (pa_cons pe_str (pa_cons pe_int pa_nil))) pa_nil)))) pa_nil)))))) (pa_cons pe_bl pa_nil))) pa_nil))) (pss_cons (ps_expr (pe_bm PySem.F.plainAttrs_list PySem.F.slot_list_append PySem.F.type_list_append mt_append (pv 4) (pa_cons (pe_tup (pa_cons (pe_tup (pa_cons pe_str (pa_cons pe_int (pa_cons pe_int (pa_cons (pe_tup (pa_cons pe_str (pa_cons (pv 3) (pa_cons (pe_tup (pa_cons pe_str (pa_cons (pe_un un_neg pe_int) pa_nil))) pa_nil)))) (pa_cons (pv 2) pa_nil)))))) (pa_cons pe_bl pa_nil))) pa_nil))) (pss_cons (ps_expr (pe_bm PySem.F.plainAttrs_list PySem.F.slot_list_append PySem.F.type_list_append mt_append (pv 4) (pa_cons (pe_tup (pa_cons (pe_tup (pa_cons pe_str (pa_cons (pe_tup (pa_cons pe_str (pa_cons pe_int pa_nil))) (pa_cons (pe_tup (pa_cons pe_str (pa_cons pe_int pa_nil))) pa_nil)))) (pa_cons (pe_cmpR op_ge (pv 1) pe_int (nomark _)) pa_nil))) pa_nil))) (pss_one (ps_ret (pv 4)))))))))))))))), ?_⟩
    refine ⟨fun σ' H' => σ' = [some (.int (sc : Int)), some (.int (500 * pw2 sc)), none, none, none, none] ∧ H = H', ?_, ?_⟩
    · rcases (by omega : sc = 0 ∨ sc = 1 ∨ sc = 2 ∨ sc = 3 ∨ sc = 4) with rfl | rfl | rfl | rfl | rfl <;> exact ⟨_, rfl, _, _, rfl, rfl, ⟨by decide, by decide, by decide⟩, 500, _, rfl, rfl, .inl ⟨by decide, by decide⟩, rfl, rfl⟩
    rintro σ' H' ⟨rfl, rfl⟩
    refine ⟨fun σ' H' => ∃ top, σ' = [some (.int (sc : Int)), some (.int (500 * pw2 sc)), some top, none, none, none] ∧ Same H H' ∧ Dp K H' top (topD sc), ?_, ?_⟩
    · have S := Same.refl H
      refine fun dp ndp => ?_
      have s0 := same_new (o := HO.dK []) ndp
      have hd0 : (upd H dp (.dK [])) dp = some (.dK []) := upd_same
      have hn0 := S.free ndp
      have S := S.trans s0
      generalize upd H dp (.dK []) = Hd at hd0 S ⊢
      clear s0
      refine ⟨(by show 2 ≤ sizeLine; decide), fun p1 n1 => ?_⟩
      try dsimp only at n1 ⊢
      have s1 := same_new (o := .tup [V.str "fig", V.int 500]) n1
      have d1 : Dp K (upd Hd p1 (.tup [V.str "fig", V.int 500])) (.ref p1) (.tuple [.str "fig", .int 500]) := .tup (SqT.of upd_same) (.cons (.str _) (.cons (.int _) .nil))
      have hd0 := s1 _ _ hd0
      have S := S.trans s1
      generalize upd Hd p1 (.tup [V.str "fig", V.int 500]) = H1 at d1 hd0 S ⊢
      clear s1
      refine ⟨(by show 2 ≤ sizeLine; decide), fun p2 n2 => ?_⟩
      try dsimp only at n2 ⊢
      have s2 := same_new (o := .tup [V.str "fig", V.int 1000]) n2
      have d2 : Dp K (upd H1 p2 (.tup [V.str "fig", V.int 1000])) (.ref p2) (.tuple [.str "fig", .int 1000]) := .tup (SqT.of upd_same) (.cons (.str _) (.cons (.int _) .nil))
      have d1 := dp_same s2 d1
      have hd0 := s2 _ _ hd0
      have S := S.trans s2
      generalize upd H1 p2 (.tup [V.str "fig", V.int 1000]) = H2 at d2 d1 hd0 S ⊢
      clear s2
      refine ⟨(by show 2 ≤ sizeLine; decide), fun p3 n3 => ?_⟩
      try dsimp only at n3 ⊢
      have s3 := same_new (o := .tup [V.str "fig", V.int 1000]) n3
      have d3 : Dp K (upd H2 p3 (.tup [V.str "fig", V.int 1000])) (.ref p3) (.tuple [.str "fig", .int 1000]) := .tup (SqT.of upd_same) (.cons (.str _) (.cons (.int _) .nil))
      have d1 := dp_same s3 d1
      have d2 := dp_same s3 d2
      have hd0 := s3 _ _ hd0
      have S := S.trans s3
      generalize upd H2 p3 (.tup [V.str "fig", V.int 1000]) = H3 at d3 d1 d2 hd0 S ⊢
      clear s3
      refine ⟨(by show 3 ≤ sizeLine; decide), fun p4 n4 => ?_⟩
      try dsimp only at n4 ⊢
      have s4 := same_new (o := .tup [V.str "times", V.int 2, V.ref p3]) n4
      have d4 : Dp K (upd H3 p4 (.tup [V.str "times", V.int 2, V.ref p3])) (.ref p4) (.tuple [.str "times", .int 2, .tuple [.str "fig", .int 1000]]) := .tup (SqT.of upd_same) (.cons (.str _) (.cons (.int _) (.cons (dp_same s4 d3) .nil)))
      have d1 := dp_same s4 d1
      have d2 := dp_same s4 d2
      have hd0 := s4 _ _ hd0
      have S := S.trans s4
      generalize upd H3 p4 (.tup [V.str "times", V.int 2, V.ref p3]) = H4 at d4 d1 d2 hd0 S ⊢
      clear s4
      refine ⟨(by show 2 ≤ sizeLine; decide), fun p5 n5 => ?_⟩
      try dsimp only at n5 ⊢
      have s5 := same_new (o := .tup [V.str "fig", V.int 1000]) n5
      have d5 : Dp K (upd H4 p5 (.tup [V.str "fig", V.int 1000])) (.ref p5) (.tuple [.str "fig", .int 1000]) := .tup (SqT.of upd_same) (.cons (.str _) (.cons (.int _) .nil))
      have d1 := dp_same s5 d1
      have d2 := dp_same s5 d2
      have d4 := dp_same s5 d4
      have hd0 := s5 _ _ hd0
      have S := S.trans s5
      generalize upd H4 p5 (.tup [V.str "fig", V.int 1000]) = H5 at d5 d1 d2 d4 hd0 S ⊢
      clear s5
      refine ⟨(by show 3 ≤ sizeLine; decide), fun p6 n6 => ?_⟩
      try dsimp only at n6 ⊢
      have s6 := same_new (o := .tup [V.str "times", V.int 4, V.ref p5]) n6
      have d6 : Dp K (upd H5 p6 (.tup [V.str "times", V.int 4, V.ref p5])) (.ref p6) (.tuple [.str "times", .int 4, .tuple [.str "fig", .int 1000]]) := .tup (SqT.of upd_same) (.cons (.str _) (.cons (.int _) (.cons (dp_same s6 d5) .nil)))
      have d1 := dp_same s6 d1
      have d2 := dp_same s6 d2
      have d4 := dp_same s6 d4
      have hd0 := s6 _ _ hd0
      have S := S.trans s6
      generalize upd H5 p6 (.tup [V.str "times", V.int 4, V.ref p5]) = H6 at d6 d1 d2 d4 hd0 S ⊢
      clear s6
      refine ⟨(by show 2 ≤ sizeLine; decide), fun p7 n7 => ?_⟩
      try dsimp only at n7 ⊢
      have s7 := same_new (o := .tup [V.str "fig", V.int 1000]) n7
      have d7 : Dp K (upd H6 p7 (.tup [V.str "fig", V.int 1000])) (.ref p7) (.tuple [.str "fig", .int 1000]) := .tup (SqT.of upd_same) (.cons (.str _) (.cons (.int _) .nil))
      have d1 := dp_same s7 d1
      have d2 := dp_same s7 d2
      have d4 := dp_same s7 d4
      have d6 := dp_same s7 d6
      have hd0 := s7 _ _ hd0
      have S := S.trans s7
      generalize upd H6 p7 (.tup [V.str "fig", V.int 1000]) = H7 at d7 d1 d2 d4 d6 hd0 S ⊢
      clear s7
      refine ⟨(by show 3 ≤ sizeLine; decide), fun p8 n8 => ?_⟩
      try dsimp only at n8 ⊢
      have s8 := same_new (o := .tup [V.str "times", V.int 8, V.ref p7]) n8
      have d8 : Dp K (upd H7 p8 (.tup [V.str "times", V.int 8, V.ref p7])) (.ref p8) (.tuple [.str "times", .int 8, .tuple [.str "fig", .int 1000]]) := .tup (SqT.of upd_same) (.cons (.str _) (.cons (.int _) (.cons (dp_same s8 d7) .nil)))
      have d1 := dp_same s8 d1
      have d2 := dp_same s8 d2
      have d4 := dp_same s8 d4
      have d6 := dp_same s8 d6
      have hd0 := s8 _ _ hd0
      have S := S.trans s8
      generalize upd H7 p8 (.tup [V.str "times", V.int 8, V.ref p7]) = H8 at d8 d1 d2 d4 d6 hd0 S ⊢
      clear s8
      refine ⟨hd0, [(Sum.inl 0, V.ref p1), (Sum.inl 1, V.ref p2), (Sum.inl 2, V.ref p4), (Sum.inl 3, V.ref p6), (Sum.inl 4, V.ref p8)], rfl, (by show 5 ≤ 15; decide), ?_⟩
      have key : ∃ top, valV (mergeK [] [(Sum.inl 0, V.ref p1), (Sum.inl 1, V.ref p2), (Sum.inl 2, V.ref p4), (Sum.inl 3, V.ref p6), (Sum.inl 4, V.ref p8)]) (Sum.inl (sc : Int)) = some top ∧ Dp K H8 top (topD sc) := by
        rcases (by omega : sc = 0 ∨ sc = 1 ∨ sc = 2 ∨ sc = 3 ∨ sc = 4) with rfl | rfl | rfl | rfl | rfl
        · exact ⟨_, rfl, d1⟩
        · exact ⟨_, rfl, d2⟩
        · exact ⟨_, rfl, d4⟩
        · exact ⟨_, rfl, d6⟩
        · exact ⟨_, rfl, d8⟩
      obtain ⟨top, ht1, ht2⟩ := key
      have S2 := put_new (o := HO.dK (mergeK [] [(Sum.inl 0, V.ref p1), (Sum.inl 1, V.ref p2), (Sum.inl 2, V.ref p4), (Sum.inl 3, V.ref p6), (Sum.inl 4, V.ref p8)])) hn0 S
      refine ⟨_, rfl, dp, top, rfl, .inl ⟨_, Sum.inl (sc : Int), .inl upd_same, rfl, ht1.symm⟩, top, rfl, S2, ?_⟩
      exact dp_imp (fun p xs h => put_sqtD hd0 h) (topD_tpo (by omega)) ht2
    rintro σ' H1 ⟨top, rfl, S, dtop⟩
    have t_dtop := topD_tpo h5
    refine ⟨_, rfl, ?_⟩
    refine ⟨_, rfl, ?_⟩
    refine ⟨(by show 3 ≤ sizeLine; decide), fun p51 n51 => ?_⟩
    try dsimp only at n51 ⊢
    have s51 := same_new (o := .tup [V.str "times", V.int (-1), top]) n51
    have d51 : Dp K (upd H1 p51 (.tup [V.str "times", V.int (-1), top])) (.ref p51) (.tuple [.str "times", .int (-1), topD sc]) := .tup (SqT.of upd_same) (.cons (.str _) (.cons (.int _) (.cons (dp_same s51 dtop) .nil)))
    have dtop := dp_same s51 dtop
    have S := S.trans s51
    generalize upd H1 p51 (.tup [V.str "times", V.int (-1), top]) = H51 at d51 dtop S ⊢
    clear s51
    have t_d51 : tpo (.tuple [.str "times", .int (-1), topD sc]) = true := by simp only [tpo, tpoAll, topD_tpo h5, Bool.and_true]
    refine ⟨_, rfl, ?_⟩
    refine ⟨(by show 2 ≤ sizeLine; decide), fun p52 n52 => ?_⟩
    try dsimp only at n52 ⊢
    have s52 := same_new (o := .tup [top, V.bl true]) n52
    have d52 : Dp K (upd H51 p52 (.tup [top, V.bl true])) (.ref p52) (.tuple [topD sc, .bool true]) := .tup (SqT.of upd_same) (.cons (dp_same s52 dtop) (.cons (.bl _) .nil))
    have dtop := dp_same s52 dtop
    have d51 := dp_same s52 d51
    have S := S.trans s52
    generalize upd H51 p52 (.tup [top, V.bl true]) = H52 at d52 dtop d51 S ⊢
    clear s52
    refine ⟨_, rfl, ?_⟩
    refine ⟨(by show 2 ≤ sizeLine; decide), fun p53 n53 => ?_⟩
    try dsimp only at n53 ⊢
    have s53 := same_new (o := .tup [V.ref p51, V.bl true]) n53
    have d53 : Dp K (upd H52 p53 (.tup [V.ref p51, V.bl true])) (.ref p53) (.tuple [.tuple [.str "times", .int (-1), topD sc], .bool true]) := .tup (SqT.of upd_same) (.cons (dp_same s53 d51) (.cons (.bl _) .nil))
    have dtop := dp_same s53 dtop
    have d51 := dp_same s53 d51
    have d52 := dp_same s53 d52
    have S := S.trans s53
    generalize upd H52 p53 (.tup [V.ref p51, V.bl true]) = H53 at d53 dtop d51 d52 S ⊢
    clear s53
    refine ⟨_, rfl, ?_⟩
    refine ⟨(by show 2 ≤ sizeLine; decide), fun p54 n54 => ?_⟩
    try dsimp only at n54 ⊢
    have s54 := same_new (o := .tup [V.str "fig", V.int 1]) n54
    have d54 : Dp K (upd H53 p54 (.tup [V.str "fig", V.int 1])) (.ref p54) (.tuple [.str "fig", .int 1]) := .tup (SqT.of upd_same) (.cons (.str _) (.cons (.int _) .nil))
    have dtop := dp_same s54 dtop
    have d51 := dp_same s54 d51
    have d52 := dp_same s54 d52
    have d53 := dp_same s54 d53
    have S := S.trans s54
    generalize upd H53 p54 (.tup [V.str "fig", V.int 1]) = H54 at d54 dtop d51 d52 d53 S ⊢
    clear s54
    refine ⟨(by show 3 ≤ sizeLine; decide), fun p55 n55 => ?_⟩
    try dsimp only at n55 ⊢
    have s55 := same_new (o := .tup [V.str "sum", top, V.ref p54]) n55
    have d55 : Dp K (upd H54 p55 (.tup [V.str "sum", top, V.ref p54])) (.ref p55) (.tuple [.str "sum", topD sc, .tuple [.str "fig", .int 1]]) := .tup (SqT.of upd_same) (.cons (.str _) (.cons (dp_same s55 dtop) (.cons (dp_same s55 d54) .nil)))
    have dtop := dp_same s55 dtop
    have d51 := dp_same s55 d51
    have d52 := dp_same s55 d52
    have d53 := dp_same s55 d53
    have S := S.trans s55
    generalize upd H54 p55 (.tup [V.str "sum", top, V.ref p54]) = H55 at d55 dtop d51 d52 d53 S ⊢
    clear s55
    refine ⟨(by show 2 ≤ sizeLine; decide), fun p56 n56 => ?_⟩
    try dsimp only at n56 ⊢
    have s56 := same_new (o := .tup [V.ref p55, V.bl false]) n56
    have d56 : Dp K (upd H55 p56 (.tup [V.ref p55, V.bl false])) (.ref p56) (.tuple [.tuple [.str "sum", topD sc, .tuple [.str "fig", .int 1]], .bool false]) := .tup (SqT.of upd_same) (.cons (dp_same s56 d55) (.cons (.bl _) .nil))
    have dtop := dp_same s56 dtop
    have d51 := dp_same s56 d51
    have d52 := dp_same s56 d52
    have d53 := dp_same s56 d53
    have S := S.trans s56
    generalize upd H55 p56 (.tup [V.ref p55, V.bl false]) = H56 at d56 dtop d51 d52 d53 S ⊢
    clear s56
    refine ⟨_, rfl, ?_⟩
    refine ⟨(by show 2 ≤ sizeLine; decide), fun p57 n57 => ?_⟩
    try dsimp only at n57 ⊢
    have s57 := same_new (o := .tup [V.str "fig", V.int 1]) n57
    have d57 : Dp K (upd H56 p57 (.tup [V.str "fig", V.int 1])) (.ref p57) (.tuple [.str "fig", .int 1]) := .tup (SqT.of upd_same) (.cons (.str _) (.cons (.int _) .nil))
    have dtop := dp_same s57 dtop
    have d51 := dp_same s57 d51
    have d52 := dp_same s57 d52
    have d53 := dp_same s57 d53
    have d56 := dp_same s57 d56
    have S := S.trans s57
    generalize upd H56 p57 (.tup [V.str "fig", V.int 1]) = H57 at d57 dtop d51 d52 d53 d56 S ⊢
    clear s57
    refine ⟨(by show 3 ≤ sizeLine; decide), fun p58 n58 => ?_⟩
    try dsimp only at n58 ⊢
    have s58 := same_new (o := .tup [V.str "less", V.ref p51, V.ref p57]) n58
    have d58 : Dp K (upd H57 p58 (.tup [V.str "less", V.ref p51, V.ref p57])) (.ref p58) (.tuple [.str "less", .tuple [.str "times", .int (-1), topD sc], .tuple [.str "fig", .int 1]]) := .tup (SqT.of upd_same) (.cons (.str _) (.cons (dp_same s58 d51) (.cons (dp_same s58 d57) .nil)))
    have dtop := dp_same s58 dtop
    have d51 := dp_same s58 d51
    have d52 := dp_same s58 d52
    have d53 := dp_same s58 d53
    have d56 := dp_same s58 d56
    have S := S.trans s58
    generalize upd H57 p58 (.tup [V.str "less", V.ref p51, V.ref p57]) = H58 at d58 dtop d51 d52 d53 d56 S ⊢
    clear s58
    refine ⟨(by show 2 ≤ sizeLine; decide), fun p59 n59 => ?_⟩
    try dsimp only at n59 ⊢
    have s59 := same_new (o := .tup [V.ref p58, V.bl false]) n59
    have d59 : Dp K (upd H58 p59 (.tup [V.ref p58, V.bl false])) (.ref p59) (.tuple [.tuple [.str "less", .tuple [.str "times", .int (-1), topD sc], .tuple [.str "fig", .int 1]], .bool false]) := .tup (SqT.of upd_same) (.cons (dp_same s59 d58) (.cons (.bl _) .nil))
    have dtop := dp_same s59 dtop
    have d51 := dp_same s59 d51
    have d52 := dp_same s59 d52
    have d53 := dp_same s59 d53
    have d56 := dp_same s59 d56
    have S := S.trans s59
    generalize upd H58 p59 (.tup [V.ref p58, V.bl false]) = H59 at d59 dtop d51 d52 d53 d56 S ⊢
    clear s59
    refine ⟨(by show 4 ≤ sizeLine; decide), fun p60 n60 => ?_⟩
    try dsimp only at n60 ⊢
    have s60 := same_new (o := .lst [V.ref p52, V.ref p53, V.ref p56, V.ref p59]) n60
    have hn60 := S.free n60
    have hl60 : (upd H59 p60 (.lst [V.ref p52, V.ref p53, V.ref p56, V.ref p59])) p60 = some (.lst [V.ref p52, V.ref p53, V.ref p56, V.ref p59]) := upd_same
    have cl60 : ∀ v ∈ ([V.ref p52, V.ref p53, V.ref p56, V.ref p59] : List V), CaseS K many sc (upd H59 p60 (.lst [V.ref p52, V.ref p53, V.ref p56, V.ref p59])) v := fun v hv => by
      simp only [List.mem_cons, List.not_mem_nil, or_false] at hv
      rcases hv with rfl | rfl | rfl | rfl
      · exact mk_case (ck0 hm h5) (dp_same s60 d52)
      · exact mk_case (ck1 hm h5) (dp_same s60 d53)
      · exact mk_case (ck2 hm h5) (dp_same s60 d56)
      · exact mk_case (ck3 hm h5) (dp_same s60 d59)
    have dtop := dp_same s60 dtop
    have d51 := dp_same s60 d51
    have S := S.trans s60
    generalize upd H59 p60 (.lst [V.ref p52, V.ref p53, V.ref p56, V.ref p59]) = H60 at hl60 cl60 dtop d51 S ⊢
    clear s60
    have hu60 : ([V.ref p52, V.ref p53, V.ref p56, V.ref p59] : List V).length ≤ 4 := by show 4 ≤ 4; decide
    generalize ([V.ref p52, V.ref p53, V.ref p56, V.ref p59] : List V) = us60 at hl60 cl60 hu60
    refine ⟨_, rfl, ?_⟩
    refine ⟨(by show 2 ≤ sizeLine; decide), fun p61 n61 => ?_⟩
    try dsimp only at n61 ⊢
    have s61 := same_new (o := .tup [V.str "share", V.int 1]) n61
    have d61 : Dp K (upd H60 p61 (.tup [V.str "share", V.int 1])) (.ref p61) (.tuple [.str "share", .int 1]) := .tup (SqT.of upd_same) (.cons (.str _) (.cons (.int _) .nil))
    have dtop := dp_same s61 dtop
    have d51 := dp_same s61 d51
    have hl60 := s61 _ _ hl60
    have cl60 := fun v hv => (cl60 v hv).same s61
    have S := S.trans s61
    generalize upd H60 p61 (.tup [V.str "share", V.int 1]) = H61 at d61 dtop d51 hl60 cl60 S ⊢
    clear s61
    refine ⟨_, rfl, _, _, rfl, rfl, ?_⟩
    refine ⟨(by show 2 ≤ sizeLine; decide), fun p62 n62 => ?_⟩
    try dsimp only at n62 ⊢
    have s62 := same_new (o := .tup [V.ref p61, V.bl (decide ((1000 : Int) ≤ (500 * pw2 sc)))]) n62
    have d62 : Dp K (upd H61 p62 (.tup [V.ref p61, V.bl (decide ((1000 : Int) ≤ (500 * pw2 sc)))])) (.ref p62) (.tuple [.tuple [.str "share", .int 1], .bool (decide ((1000 : Int) ≤ (500 * pw2 sc)))]) := .tup (SqT.of upd_same) (.cons (dp_same s62 d61) (.cons (.bl _) .nil))
    have dtop := dp_same s62 dtop
    have d51 := dp_same s62 d51
    have hl60 := s62 _ _ hl60
    have cl60 := fun v hv => (cl60 v hv).same s62
    have S := S.trans s62
    generalize upd H61 p62 (.tup [V.ref p61, V.bl (decide ((1000 : Int) ≤ (500 * pw2 sc)))]) = H62 at d62 dtop d51 hl60 cl60 S ⊢
    clear s62
    refine ⟨_, rfl, ?_⟩
    refine ⟨(by show 2 ≤ sizeLine; decide), fun p63 n63 => ?_⟩
    try dsimp only at n63 ⊢
    have s63 := same_new (o := .tup [V.str "share", V.int 0]) n63
    have d63 : Dp K (upd H62 p63 (.tup [V.str "share", V.int 0])) (.ref p63) (.tuple [.str "share", .int 0]) := .tup (SqT.of upd_same) (.cons (.str _) (.cons (.int _) .nil))
    have dtop := dp_same s63 dtop
    have d51 := dp_same s63 d51
    have d62 := dp_same s63 d62
    have hl60 := s63 _ _ hl60
    have cl60 := fun v hv => (cl60 v hv).same s63
    have S := S.trans s63
    generalize upd H62 p63 (.tup [V.str "share", V.int 0]) = H63 at d63 dtop d51 d62 hl60 cl60 S ⊢
    clear s63
    refine ⟨(by show 3 ≤ sizeLine; decide), fun p64 n64 => ?_⟩
    try dsimp only at n64 ⊢
    have s64 := same_new (o := .tup [V.str "times", V.int (-8), V.ref p63]) n64
    have d64 : Dp K (upd H63 p64 (.tup [V.str "times", V.int (-8), V.ref p63])) (.ref p64) (.tuple [.str "times", .int (-8), .tuple [.str "share", .int 0]]) := .tup (SqT.of upd_same) (.cons (.str _) (.cons (.int _) (.cons (dp_same s64 d63) .nil)))
    have dtop := dp_same s64 dtop
    have d51 := dp_same s64 d51
    have d62 := dp_same s64 d62
    have hl60 := s64 _ _ hl60
    have cl60 := fun v hv => (cl60 v hv).same s64
    have S := S.trans s64
    generalize upd H63 p64 (.tup [V.str "times", V.int (-8), V.ref p63]) = H64 at d64 dtop d51 d62 hl60 cl60 S ⊢
    clear s64
    refine ⟨_, rfl, _, _, rfl, rfl, ?_⟩
    refine ⟨(by show 2 ≤ sizeLine; decide), fun p65 n65 => ?_⟩
    try dsimp only at n65 ⊢
    have s65 := same_new (o := .tup [V.ref p64, V.bl (decide ((8000 : Int) ≤ (500 * pw2 sc)))]) n65
    have d65 : Dp K (upd H64 p65 (.tup [V.ref p64, V.bl (decide ((8000 : Int) ≤ (500 * pw2 sc)))])) (.ref p65) (.tuple [.tuple [.str "times", .int (-8), .tuple [.str "share", .int 0]], .bool (decide ((8000 : Int) ≤ (500 * pw2 sc)))]) := .tup (SqT.of upd_same) (.cons (dp_same s65 d64) (.cons (.bl _) .nil))
    have dtop := dp_same s65 dtop
    have d51 := dp_same s65 d51
    have d62 := dp_same s65 d62
    have hl60 := s65 _ _ hl60
    have cl60 := fun v hv => (cl60 v hv).same s65
    have S := S.trans s65
    generalize upd H64 p65 (.tup [V.ref p64, V.bl (decide ((8000 : Int) ≤ (500 * pw2 sc)))]) = H65 at d65 dtop d51 d62 hl60 cl60 S ⊢
    clear s65
    refine ⟨(by show 2 ≤ sizeLine; decide), fun p66 n66 => ?_⟩
    try dsimp only at n66 ⊢
    have s66 := same_new (o := .lst [V.ref p62, V.ref p65]) n66
    have hn66 := S.free n66
    have hl66 : (upd H65 p66 (.lst [V.ref p62, V.ref p65])) p66 = some (.lst [V.ref p62, V.ref p65]) := upd_same
    have cl66 : ∀ v ∈ ([V.ref p62, V.ref p65] : List V), CaseS K many sc (upd H65 p66 (.lst [V.ref p62, V.ref p65])) v := fun v hv => by
      simp only [List.mem_cons, List.not_mem_nil, or_false] at hv
      rcases hv with rfl | rfl
      · exact mk_case (ck4 hm h5) (dp_same s66 d62)
      · exact mk_case (ck5 hm h5) (dp_same s66 d65)
    have dtop := dp_same s66 dtop
    have d51 := dp_same s66 d51
    have hl60 := s66 _ _ hl60
    have cl60 := fun v hv => (cl60 v hv).same s66
    have S := S.trans s66
    generalize upd H65 p66 (.lst [V.ref p62, V.ref p65]) = H66 at hl66 cl66 dtop d51 hl60 cl60 S ⊢
    clear s66
    refine ⟨p60, p66, us60, [V.ref p62, V.ref p65], rfl, rfl, hl60, hl66, (Nat.le_of_lt (small1000 (by show us60.length + 2 ≤ 1000; omega))), fun p67 n67 => ?_⟩
    try dsimp only [List.cons_append, List.nil_append] at n67 ⊢
    have s67 := same_new (o := .lst (us60 ++ [V.ref p62, V.ref p65])) n67
    have hn67 := S.free n67
    have hl67 : (upd H66 p67 (.lst (us60 ++ [V.ref p62, V.ref p65]))) p67 = some (.lst (us60 ++ [V.ref p62, V.ref p65])) := upd_same
    have cl67 : ∀ v ∈ us60 ++ [V.ref p62, V.ref p65], CaseS K many sc (upd H66 p67 (.lst (us60 ++ [V.ref p62, V.ref p65]))) v := fun v hv => (List.mem_append.mp hv).elim (fun h => (cl60 v h).same s67) (fun h => (cl66 v h).same s67)
    have hu67 : (us60 ++ [V.ref p62, V.ref p65]).length ≤ 6 := by rw [List.length_append]; show us60.length + 2 ≤ 6; omega
    have dtop := dp_same s67 dtop
    have d51 := dp_same s67 d51
    have S := S.trans s67
    generalize upd H66 p67 (.lst (us60 ++ [V.ref p62, V.ref p65])) = H67 at hl67 cl67 dtop d51 S ⊢
    clear s67
    generalize us60 ++ [V.ref p62, V.ref p65] = us67 at hl67 cl67 hu67
    clear hl60 cl60 hu60 hl66 cl66
    refine ⟨_, rfl, ?_⟩
    refine ⟨(by show 2 ≤ sizeLine; decide), fun p68 n68 => ?_⟩
    try dsimp only at n68 ⊢
    have s68 := same_new (o := .tup [V.str "reg", V.int 3]) n68
    have d68 : Dp K (upd H67 p68 (.tup [V.str "reg", V.int 3])) (.ref p68) (.tuple [.str "reg", .int 3]) := .tup (SqT.of upd_same) (.cons (.str _) (.cons (.int _) .nil))
    have dtop := dp_same s68 dtop
    have d51 := dp_same s68 d51
    have hl67 := s68 _ _ hl67
    have cl67 := fun v hv => (cl67 v hv).same s68
    have S := S.trans s68
    generalize upd H67 p68 (.tup [V.str "reg", V.int 3]) = H68 at d68 dtop d51 hl67 cl67 S ⊢
    clear s68
    refine ⟨_, rfl, _, _, rfl, rfl, ?_⟩
    refine ⟨(by show 2 ≤ sizeLine; decide), fun p69 n69 => ?_⟩
    try dsimp only at n69 ⊢
    have s69 := same_new (o := .tup [V.ref p68, V.bl (decide ((1000 : Int) ≤ (500 * pw2 sc)))]) n69
    have d69 : Dp K (upd H68 p69 (.tup [V.ref p68, V.bl (decide ((1000 : Int) ≤ (500 * pw2 sc)))])) (.ref p69) (.tuple [.tuple [.str "reg", .int 3], .bool (decide ((1000 : Int) ≤ (500 * pw2 sc)))]) := .tup (SqT.of upd_same) (.cons (dp_same s69 d68) (.cons (.bl _) .nil))
    have dtop := dp_same s69 dtop
    have d51 := dp_same s69 d51
    have hl67 := s69 _ _ hl67
    have cl67 := fun v hv => (cl67 v hv).same s69
    have S := S.trans s69
    generalize upd H68 p69 (.tup [V.ref p68, V.bl (decide ((1000 : Int) ≤ (500 * pw2 sc)))]) = H69 at d69 dtop d51 hl67 cl67 S ⊢
    clear s69
    refine ⟨_, rfl, ?_⟩
    refine ⟨(by show 2 ≤ sizeLine; decide), fun p70 n70 => ?_⟩
    try dsimp only at n70 ⊢
    have s70 := same_new (o := .tup [V.str "fig", V.int (-8)]) n70
    have d70 : Dp K (upd H69 p70 (.tup [V.str "fig", V.int (-8)])) (.ref p70) (.tuple [.str "fig", .int (-8)]) := .tup (SqT.of upd_same) (.cons (.str _) (.cons (.int _) .nil))
    have dtop := dp_same s70 dtop
    have d51 := dp_same s70 d51
    have d69 := dp_same s70 d69
    have hl67 := s70 _ _ hl67
    have cl67 := fun v hv => (cl67 v hv).same s70
    have S := S.trans s70
    generalize upd H69 p70 (.tup [V.str "fig", V.int (-8)]) = H70 at d70 dtop d51 d69 hl67 cl67 S ⊢
    clear s70
    refine ⟨(by show 3 ≤ sizeLine; decide), fun p71 n71 => ?_⟩
    try dsimp only at n71 ⊢
    have s71 := same_new (o := .tup [V.str "by", V.int 0, V.ref p70]) n71
    have d71 : Dp K (upd H70 p71 (.tup [V.str "by", V.int 0, V.ref p70])) (.ref p71) (.tuple [.str "by", .int 0, .tuple [.str "fig", .int (-8)]]) := .tup (SqT.of upd_same) (.cons (.str _) (.cons (.int _) (.cons (dp_same s71 d70) .nil)))
    have dtop := dp_same s71 dtop
    have d51 := dp_same s71 d51
    have d69 := dp_same s71 d69
    have hl67 := s71 _ _ hl67
    have cl67 := fun v hv => (cl67 v hv).same s71
    have S := S.trans s71
    generalize upd H70 p71 (.tup [V.str "by", V.int 0, V.ref p70]) = H71 at d71 dtop d51 d69 hl67 cl67 S ⊢
    clear s71
    refine ⟨_, rfl, _, _, rfl, rfl, ?_⟩
    refine ⟨(by show 2 ≤ sizeLine; decide), fun p72 n72 => ?_⟩
    try dsimp only at n72 ⊢
    have s72 := same_new (o := .tup [V.ref p71, V.bl (decide ((8000 : Int) ≤ (500 * pw2 sc)))]) n72
    have d72 : Dp K (upd H71 p72 (.tup [V.ref p71, V.bl (decide ((8000 : Int) ≤ (500 * pw2 sc)))])) (.ref p72) (.tuple [.tuple [.str "by", .int 0, .tuple [.str "fig", .int (-8)]], .bool (decide ((8000 : Int) ≤ (500 * pw2 sc)))]) := .tup (SqT.of upd_same) (.cons (dp_same s72 d71) (.cons (.bl _) .nil))
    have dtop := dp_same s72 dtop
    have d51 := dp_same s72 d51
    have d69 := dp_same s72 d69
    have hl67 := s72 _ _ hl67
    have cl67 := fun v hv => (cl67 v hv).same s72
    have S := S.trans s72
    generalize upd H71 p72 (.tup [V.ref p71, V.bl (decide ((8000 : Int) ≤ (500 * pw2 sc)))]) = H72 at d72 dtop d51 d69 hl67 cl67 S ⊢
    clear s72
    refine ⟨(by show 2 ≤ sizeLine; decide), fun p73 n73 => ?_⟩
    try dsimp only at n73 ⊢
    have s73 := same_new (o := .lst [V.ref p69, V.ref p72]) n73
    have hn73 := S.free n73
    have hl73 : (upd H72 p73 (.lst [V.ref p69, V.ref p72])) p73 = some (.lst [V.ref p69, V.ref p72]) := upd_same
    have cl73 : ∀ v ∈ ([V.ref p69, V.ref p72] : List V), CaseS K many sc (upd H72 p73 (.lst [V.ref p69, V.ref p72])) v := fun v hv => by
      simp only [List.mem_cons, List.not_mem_nil, or_false] at hv
      rcases hv with rfl | rfl
      · exact mk_case (ck6 hm h5) (dp_same s73 d69)
      · exact mk_case (ck7 hm h5) (dp_same s73 d72)
    have dtop := dp_same s73 dtop
    have d51 := dp_same s73 d51
    have hl67 := s73 _ _ hl67
    have cl67 := fun v hv => (cl67 v hv).same s73
    have S := S.trans s73
    generalize upd H72 p73 (.lst [V.ref p69, V.ref p72]) = H73 at hl73 cl73 dtop d51 hl67 cl67 S ⊢
    clear s73
    refine ⟨p67, p73, us67, [V.ref p69, V.ref p72], rfl, rfl, hl67, hl73, (Nat.le_of_lt (small1000 (by show us67.length + 2 ≤ 1000; omega))), fun p74 n74 => ?_⟩
    try dsimp only [List.cons_append, List.nil_append] at n74 ⊢
    have s74 := same_new (o := .lst (us67 ++ [V.ref p69, V.ref p72])) n74
    have hn74 := S.free n74
    have hl74 : (upd H73 p74 (.lst (us67 ++ [V.ref p69, V.ref p72]))) p74 = some (.lst (us67 ++ [V.ref p69, V.ref p72])) := upd_same
    have cl74 : ∀ v ∈ us67 ++ [V.ref p69, V.ref p72], CaseS K many sc (upd H73 p74 (.lst (us67 ++ [V.ref p69, V.ref p72]))) v := fun v hv => (List.mem_append.mp hv).elim (fun h => (cl67 v h).same s74) (fun h => (cl73 v h).same s74)
    have hu74 : (us67 ++ [V.ref p69, V.ref p72]).length ≤ 8 := by rw [List.length_append]; show us67.length + 2 ≤ 8; omega
    have dtop := dp_same s74 dtop
    have d51 := dp_same s74 d51
    have S := S.trans s74
    generalize upd H73 p74 (.lst (us67 ++ [V.ref p69, V.ref p72])) = H74 at hl74 cl74 dtop d51 S ⊢
    clear s74
    generalize us67 ++ [V.ref p69, V.ref p72] = us74 at hl74 cl74 hu74
    clear hl67 cl67 hu67 hl73 cl73
    refine ⟨_, rfl, ?_⟩
    refine ⟨(by show 2 ≤ sizeLine; decide), fun p75 n75 => ?_⟩
    try dsimp only at n75 ⊢
    have s75 := same_new (o := .tup [V.str "fig", V.int 9]) n75
    have d75 : Dp K (upd H74 p75 (.tup [V.str "fig", V.int 9])) (.ref p75) (.tuple [.str "fig", .int 9]) := .tup (SqT.of upd_same) (.cons (.str _) (.cons (.int _) .nil))
    have dtop := dp_same s75 dtop
    have d51 := dp_same s75 d51
    have hl74 := s75 _ _ hl74
    have cl74 := fun v hv => (cl74 v hv).same s75
    have S := S.trans s75
    generalize upd H74 p75 (.tup [V.str "fig", V.int 9]) = H75 at d75 dtop d51 hl74 cl74 S ⊢
    clear s75
    refine ⟨(by show 3 ≤ sizeLine; decide), fun p76 n76 => ?_⟩
    try dsimp only at n76 ⊢
    have s76 := same_new (o := .tup [V.str "by", V.int 1, V.ref p75]) n76
    have d76 : Dp K (upd H75 p76 (.tup [V.str "by", V.int 1, V.ref p75])) (.ref p76) (.tuple [.str "by", .int 1, .tuple [.str "fig", .int 9]]) := .tup (SqT.of upd_same) (.cons (.str _) (.cons (.int _) (.cons (dp_same s76 d75) .nil)))
    have dtop := dp_same s76 dtop
    have d51 := dp_same s76 d51
    have hl74 := s76 _ _ hl74
    have cl74 := fun v hv => (cl74 v hv).same s76
    have S := S.trans s76
    generalize upd H75 p76 (.tup [V.str "by", V.int 1, V.ref p75]) = H76 at d76 dtop d51 hl74 cl74 S ⊢
    clear s76
    refine ⟨(by show 2 ≤ sizeLine; decide), fun p77 n77 => ?_⟩
    try dsimp only at n77 ⊢
    have s77 := same_new (o := .tup [V.ref p76, V.bl false]) n77
    have d77 : Dp K (upd H76 p77 (.tup [V.ref p76, V.bl false])) (.ref p77) (.tuple [.tuple [.str "by", .int 1, .tuple [.str "fig", .int 9]], .bool false]) := .tup (SqT.of upd_same) (.cons (dp_same s77 d76) (.cons (.bl _) .nil))
    have dtop := dp_same s77 dtop
    have d51 := dp_same s77 d51
    have hl74 := s77 _ _ hl74
    have cl74 := fun v hv => (cl74 v hv).same s77
    have S := S.trans s77
    generalize upd H76 p77 (.tup [V.ref p76, V.bl false]) = H77 at d77 dtop d51 hl74 cl74 S ⊢
    clear s77
    refine ⟨(by show 2 ≤ sizeLine; decide), fun p78 n78 => ?_⟩
    try dsimp only at n78 ⊢
    have s78 := same_new (o := .tup [V.str "fig", V.int 0]) n78
    have d78 : Dp K (upd H77 p78 (.tup [V.str "fig", V.int 0])) (.ref p78) (.tuple [.str "fig", .int 0]) := .tup (SqT.of upd_same) (.cons (.str _) (.cons (.int _) .nil))
    have dtop := dp_same s78 dtop
    have d51 := dp_same s78 d51
    have d77 := dp_same s78 d77
    have hl74 := s78 _ _ hl74
    have cl74 := fun v hv => (cl74 v hv).same s78
    have S := S.trans s78
    generalize upd H77 p78 (.tup [V.str "fig", V.int 0]) = H78 at d78 dtop d51 d77 hl74 cl74 S ⊢
    clear s78
    refine ⟨(by show 3 ≤ sizeLine; decide), fun p79 n79 => ?_⟩
    try dsimp only at n79 ⊢
    have s79 := same_new (o := .tup [V.str "by", V.int 2, V.ref p78]) n79
    have d79 : Dp K (upd H78 p79 (.tup [V.str "by", V.int 2, V.ref p78])) (.ref p79) (.tuple [.str "by", .int 2, .tuple [.str "fig", .int 0]]) := .tup (SqT.of upd_same) (.cons (.str _) (.cons (.int _) (.cons (dp_same s79 d78) .nil)))
    have dtop := dp_same s79 dtop
    have d51 := dp_same s79 d51
    have d77 := dp_same s79 d77
    have hl74 := s79 _ _ hl74
    have cl74 := fun v hv => (cl74 v hv).same s79
    have S := S.trans s79
    generalize upd H78 p79 (.tup [V.str "by", V.int 2, V.ref p78]) = H79 at d79 dtop d51 d77 hl74 cl74 S ⊢
    clear s79
    refine ⟨(by show 2 ≤ sizeLine; decide), fun p80 n80 => ?_⟩
    try dsimp only at n80 ⊢
    have s80 := same_new (o := .tup [V.ref p79, V.bl true]) n80
    have d80 : Dp K (upd H79 p80 (.tup [V.ref p79, V.bl true])) (.ref p80) (.tuple [.tuple [.str "by", .int 2, .tuple [.str "fig", .int 0]], .bool true]) := .tup (SqT.of upd_same) (.cons (dp_same s80 d79) (.cons (.bl _) .nil))
    have dtop := dp_same s80 dtop
    have d51 := dp_same s80 d51
    have d77 := dp_same s80 d77
    have hl74 := s80 _ _ hl74
    have cl74 := fun v hv => (cl74 v hv).same s80
    have S := S.trans s80
    generalize upd H79 p80 (.tup [V.ref p79, V.bl true]) = H80 at d80 dtop d51 d77 hl74 cl74 S ⊢
    clear s80
    refine ⟨(by show 2 ≤ sizeLine; decide), fun p81 n81 => ?_⟩
    try dsimp only at n81 ⊢
    have s81 := same_new (o := .lst [V.ref p77, V.ref p80]) n81
    have hn81 := S.free n81
    have hl81 : (upd H80 p81 (.lst [V.ref p77, V.ref p80])) p81 = some (.lst [V.ref p77, V.ref p80]) := upd_same
    have cl81 : ∀ v ∈ ([V.ref p77, V.ref p80] : List V), CaseS K many sc (upd H80 p81 (.lst [V.ref p77, V.ref p80])) v := fun v hv => by
      simp only [List.mem_cons, List.not_mem_nil, or_false] at hv
      rcases hv with rfl | rfl
      · exact mk_case (ck8 hm h5) (dp_same s81 d77)
      · exact mk_case (ck9 hm h5) (dp_same s81 d80)
    have dtop := dp_same s81 dtop
    have d51 := dp_same s81 d51
    have hl74 := s81 _ _ hl74
    have cl74 := fun v hv => (cl74 v hv).same s81
    have S := S.trans s81
    generalize upd H80 p81 (.lst [V.ref p77, V.ref p80]) = H81 at hl81 cl81 dtop d51 hl74 cl74 S ⊢
    clear s81
    refine ⟨p74, p81, us74, [V.ref p77, V.ref p80], rfl, rfl, hl74, hl81, (Nat.le_of_lt (small1000 (by show us74.length + 2 ≤ 1000; omega))), fun p82 n82 => ?_⟩
    try dsimp only [List.cons_append, List.nil_append] at n82 ⊢
    have s82 := same_new (o := .lst (us74 ++ [V.ref p77, V.ref p80])) n82
    have hn82 := S.free n82
    have hl82 : (upd H81 p82 (.lst (us74 ++ [V.ref p77, V.ref p80]))) p82 = some (.lst (us74 ++ [V.ref p77, V.ref p80])) := upd_same
    have cl82 : ∀ v ∈ us74 ++ [V.ref p77, V.ref p80], CaseS K many sc (upd H81 p82 (.lst (us74 ++ [V.ref p77, V.ref p80]))) v := fun v hv => (List.mem_append.mp hv).elim (fun h => (cl74 v h).same s82) (fun h => (cl81 v h).same s82)
    have hu82 : (us74 ++ [V.ref p77, V.ref p80]).length ≤ 10 := by rw [List.length_append]; show us74.length + 2 ≤ 10; omega
    have dtop := dp_same s82 dtop
    have d51 := dp_same s82 d51
    have S := S.trans s82
    generalize upd H81 p82 (.lst (us74 ++ [V.ref p77, V.ref p80])) = H82 at hl82 cl82 dtop d51 S ⊢
    clear s82
    generalize us74 ++ [V.ref p77, V.ref p80] = us82 at hl82 cl82 hu82
    clear hl74 cl74 hu74 hl81 cl81
    refine ⟨(by show 2 ≤ sizeLine; decide), fun p83 n83 => ?_⟩
    try dsimp only at n83 ⊢
    have s83 := same_new (o := .tup [V.str "reg", V.int 0]) n83
    have d83 : Dp K (upd H82 p83 (.tup [V.str "reg", V.int 0])) (.ref p83) (.tuple [.str "reg", .int 0]) := .tup (SqT.of upd_same) (.cons (.str _) (.cons (.int _) .nil))
    have dtop := dp_same s83 dtop
    have d51 := dp_same s83 d51
    have hl82 := s83 _ _ hl82
    have cl82 := fun v hv => (cl82 v hv).same s83
    have S := S.trans s83
    generalize upd H82 p83 (.tup [V.str "reg", V.int 0]) = H83 at d83 dtop d51 hl82 cl82 S ⊢
    clear s83
    refine ⟨(by show 3 ≤ sizeLine; decide), fun p84 n84 => ?_⟩
    try dsimp only at n84 ⊢
    have s84 := same_new (o := .tup [V.str "times", V.int 9, V.ref p83]) n84
    have d84 : Dp K (upd H83 p84 (.tup [V.str "times", V.int 9, V.ref p83])) (.ref p84) (.tuple [.str "times", .int 9, .tuple [.str "reg", .int 0]]) := .tup (SqT.of upd_same) (.cons (.str _) (.cons (.int _) (.cons (dp_same s84 d83) .nil)))
    have dtop := dp_same s84 dtop
    have d51 := dp_same s84 d51
    have hl82 := s84 _ _ hl82
    have cl82 := fun v hv => (cl82 v hv).same s84
    have S := S.trans s84
    generalize upd H83 p84 (.tup [V.str "times", V.int 9, V.ref p83]) = H84 at d84 dtop d51 hl82 cl82 S ⊢
    clear s84
    have t_d84 : tpo (.tuple [.str "times", .int 9, .tuple [.str "reg", .int 0]]) = true := by simp only [tpo, tpoAll, topD_tpo h5, Bool.and_true]
    refine ⟨_, rfl, ?_⟩
    refine ⟨_, rfl, ?_⟩
    refine ⟨(by show 2 ≤ sizeLine; decide), fun p85 n85 => ?_⟩
    try dsimp only at n85 ⊢
    have s85 := same_new (o := .tup [V.str "share", V.int 0]) n85
    have d85 : Dp K (upd H84 p85 (.tup [V.str "share", V.int 0])) (.ref p85) (.tuple [.str "share", .int 0]) := .tup (SqT.of upd_same) (.cons (.str _) (.cons (.int _) .nil))
    have dtop := dp_same s85 dtop
    have d51 := dp_same s85 d51
    have d84 := dp_same s85 d84
    have hl82 := s85 _ _ hl82
    have cl82 := fun v hv => (cl82 v hv).same s85
    have S := S.trans s85
    generalize upd H84 p85 (.tup [V.str "share", V.int 0]) = H85 at d85 dtop d51 d84 hl82 cl82 S ⊢
    clear s85
    refine ⟨(by show 3 ≤ sizeLine; decide), fun p86 n86 => ?_⟩
    try dsimp only at n86 ⊢
    have s86 := same_new (o := .tup [V.str "times", V.int 9, V.ref p85]) n86
    have d86 : Dp K (upd H85 p86 (.tup [V.str "times", V.int 9, V.ref p85])) (.ref p86) (.tuple [.str "times", .int 9, .tuple [.str "share", .int 0]]) := .tup (SqT.of upd_same) (.cons (.str _) (.cons (.int _) (.cons (dp_same s86 d85) .nil)))
    have dtop := dp_same s86 dtop
    have d51 := dp_same s86 d51
    have d84 := dp_same s86 d84
    have hl82 := s86 _ _ hl82
    have cl82 := fun v hv => (cl82 v hv).same s86
    have S := S.trans s86
    generalize upd H85 p86 (.tup [V.str "times", V.int 9, V.ref p85]) = H86 at d86 dtop d51 d84 hl82 cl82 S ⊢
    clear s86
    refine ⟨(by show 3 ≤ sizeLine; decide), fun p87 n87 => ?_⟩
    try dsimp only at n87 ⊢
    have s87 := same_new (o := .tup [V.str "least", top, V.ref p86]) n87
    have d87 : Dp K (upd H86 p87 (.tup [V.str "least", top, V.ref p86])) (.ref p87) (.tuple [.str "least", topD sc, .tuple [.str "times", .int 9, .tuple [.str "share", .int 0]]]) := .tup (SqT.of upd_same) (.cons (.str _) (.cons (dp_same s87 dtop) (.cons (dp_same s87 d86) .nil)))
    have dtop := dp_same s87 dtop
    have d51 := dp_same s87 d51
    have d84 := dp_same s87 d84
    have hl82 := s87 _ _ hl82
    have cl82 := fun v hv => (cl82 v hv).same s87
    have S := S.trans s87
    generalize upd H86 p87 (.tup [V.str "least", top, V.ref p86]) = H87 at d87 dtop d51 d84 hl82 cl82 S ⊢
    clear s87
    refine ⟨(by show 2 ≤ sizeLine; decide), fun p88 n88 => ?_⟩
    try dsimp only at n88 ⊢
    have s88 := same_new (o := .tup [V.ref p87, V.bl true]) n88
    have d88 : Dp K (upd H87 p88 (.tup [V.ref p87, V.bl true])) (.ref p88) (.tuple [.tuple [.str "least", topD sc, .tuple [.str "times", .int 9, .tuple [.str "share", .int 0]]], .bool true]) := .tup (SqT.of upd_same) (.cons (dp_same s88 d87) (.cons (.bl _) .nil))
    have dtop := dp_same s88 dtop
    have d51 := dp_same s88 d51
    have d84 := dp_same s88 d84
    have hl82 := s88 _ _ hl82
    have cl82 := fun v hv => (cl82 v hv).same s88
    have S := S.trans s88
    generalize upd H87 p88 (.tup [V.ref p87, V.bl true]) = H88 at d88 dtop d51 d84 hl82 cl82 S ⊢
    clear s88
    refine ⟨_, rfl, ?_⟩
    refine ⟨_, rfl, ?_⟩
    refine ⟨(by show 3 ≤ sizeLine; decide), fun p89 n89 => ?_⟩
    try dsimp only at n89 ⊢
    have s89 := same_new (o := .tup [V.str "most", V.ref p51, V.ref p84]) n89
    have d89 : Dp K (upd H88 p89 (.tup [V.str "most", V.ref p51, V.ref p84])) (.ref p89) (.tuple [.str "most", .tuple [.str "times", .int (-1), topD sc], .tuple [.str "times", .int 9, .tuple [.str "reg", .int 0]]]) := .tup (SqT.of upd_same) (.cons (.str _) (.cons (dp_same s89 d51) (.cons (dp_same s89 d84) .nil)))
    have dtop := dp_same s89 dtop
    have d51 := dp_same s89 d51
    have d84 := dp_same s89 d84
    have d88 := dp_same s89 d88
    have hl82 := s89 _ _ hl82
    have cl82 := fun v hv => (cl82 v hv).same s89
    have S := S.trans s89
    generalize upd H88 p89 (.tup [V.str "most", V.ref p51, V.ref p84]) = H89 at d89 dtop d51 d84 d88 hl82 cl82 S ⊢
    clear s89
    refine ⟨(by show 2 ≤ sizeLine; decide), fun p90 n90 => ?_⟩
    try dsimp only at n90 ⊢
    have s90 := same_new (o := .tup [V.ref p89, V.bl false]) n90
    have d90 : Dp K (upd H89 p90 (.tup [V.ref p89, V.bl false])) (.ref p90) (.tuple [.tuple [.str "most", .tuple [.str "times", .int (-1), topD sc], .tuple [.str "times", .int 9, .tuple [.str "reg", .int 0]]], .bool false]) := .tup (SqT.of upd_same) (.cons (dp_same s90 d89) (.cons (.bl _) .nil))
    have dtop := dp_same s90 dtop
    have d51 := dp_same s90 d51
    have d84 := dp_same s90 d84
    have d88 := dp_same s90 d88
    have hl82 := s90 _ _ hl82
    have cl82 := fun v hv => (cl82 v hv).same s90
    have S := S.trans s90
    generalize upd H89 p90 (.tup [V.ref p89, V.bl false]) = H90 at d90 dtop d51 d84 d88 hl82 cl82 S ⊢
    clear s90
    refine ⟨(by show 2 ≤ sizeLine; decide), fun p91 n91 => ?_⟩
    try dsimp only at n91 ⊢
    have s91 := same_new (o := .lst [V.ref p88, V.ref p90]) n91
    have hn91 := S.free n91
    have hl91 : (upd H90 p91 (.lst [V.ref p88, V.ref p90])) p91 = some (.lst [V.ref p88, V.ref p90]) := upd_same
    have cl91 : ∀ v ∈ ([V.ref p88, V.ref p90] : List V), CaseS K many sc (upd H90 p91 (.lst [V.ref p88, V.ref p90])) v := fun v hv => by
      simp only [List.mem_cons, List.not_mem_nil, or_false] at hv
      rcases hv with rfl | rfl
      · exact mk_case (ck10 hm h5) (dp_same s91 d88)
      · exact mk_case (ck11 hm h5) (dp_same s91 d90)
    have dtop := dp_same s91 dtop
    have d51 := dp_same s91 d51
    have d84 := dp_same s91 d84
    have hl82 := s91 _ _ hl82
    have cl82 := fun v hv => (cl82 v hv).same s91
    have S := S.trans s91
    generalize upd H90 p91 (.lst [V.ref p88, V.ref p90]) = H91 at hl91 cl91 dtop d51 d84 hl82 cl82 S ⊢
    clear s91
    refine ⟨p82, p91, us82, [V.ref p88, V.ref p90], rfl, rfl, hl82, hl91, (Nat.le_of_lt (small1000 (by show us82.length + 2 ≤ 1000; omega))), fun p92 n92 => ?_⟩
    try dsimp only [List.cons_append, List.nil_append] at n92 ⊢
    have s92 := same_new (o := .lst (us82 ++ [V.ref p88, V.ref p90])) n92
    have hn92 := S.free n92
    have hl92 : (upd H91 p92 (.lst (us82 ++ [V.ref p88, V.ref p90]))) p92 = some (.lst (us82 ++ [V.ref p88, V.ref p90])) := upd_same
    have cl92 : ∀ v ∈ us82 ++ [V.ref p88, V.ref p90], CaseS K many sc (upd H91 p92 (.lst (us82 ++ [V.ref p88, V.ref p90]))) v := fun v hv => (List.mem_append.mp hv).elim (fun h => (cl82 v h).same s92) (fun h => (cl91 v h).same s92)
    have hu92 : (us82 ++ [V.ref p88, V.ref p90]).length ≤ 12 := by rw [List.length_append]; show us82.length + 2 ≤ 12; omega
    have dtop := dp_same s92 dtop
    have d51 := dp_same s92 d51
    have d84 := dp_same s92 d84
    have S := S.trans s92
    generalize upd H91 p92 (.lst (us82 ++ [V.ref p88, V.ref p90])) = H92 at hl92 cl92 dtop d51 d84 S ⊢
    clear s92
    generalize us82 ++ [V.ref p88, V.ref p90] = us92 at hl92 cl92 hu92
    clear hl82 cl82 hu82 hl91 cl91
    refine ⟨_, rfl, .inl ⟨rfl, _, SqL.of hl92⟩, ?_⟩
    refine ⟨_, rfl, ?_⟩
    refine ⟨_, rfl, ?_⟩
    refine ⟨_, rfl, ?_⟩
    refine ⟨(by show 3 ≤ sizeLine; decide), fun p93 n93 => ?_⟩
    try dsimp only at n93 ⊢
    have s93 := same_new (o := .tup [V.str "most", V.ref p51, V.ref p84]) n93
    have d93 : Dp K (upd H92 p93 (.tup [V.str "most", V.ref p51, V.ref p84])) (.ref p93) (.tuple [.str "most", .tuple [.str "times", .int (-1), topD sc], .tuple [.str "times", .int 9, .tuple [.str "reg", .int 0]]]) := .tup (SqT.of upd_same) (.cons (.str _) (.cons (dp_same s93 d51) (.cons (dp_same s93 d84) .nil)))
    have dtop := dp_same s93 dtop
    have d51 := dp_same s93 d51
    have d84 := dp_same s93 d84
    have hl92 := s93 _ _ hl92
    have cl92 := fun v hv => (cl92 v hv).same s93
    have S := S.trans s93
    generalize upd H92 p93 (.tup [V.str "most", V.ref p51, V.ref p84]) = H93 at d93 dtop d51 d84 hl92 cl92 S ⊢
    clear s93
    refine ⟨(by show 3 ≤ sizeLine; decide), fun p94 n94 => ?_⟩
    try dsimp only at n94 ⊢
    have s94 := same_new (o := .tup [V.str "least", top, V.ref p93]) n94
    have d94 : Dp K (upd H93 p94 (.tup [V.str "least", top, V.ref p93])) (.ref p94) (.tuple [.str "least", topD sc, .tuple [.str "most", .tuple [.str "times", .int (-1), topD sc], .tuple [.str "times", .int 9, .tuple [.str "reg", .int 0]]]]) := .tup (SqT.of upd_same) (.cons (.str _) (.cons (dp_same s94 dtop) (.cons (dp_same s94 d93) .nil)))
    have dtop := dp_same s94 dtop
    have d51 := dp_same s94 d51
    have d84 := dp_same s94 d84
    have hl92 := s94 _ _ hl92
    have cl92 := fun v hv => (cl92 v hv).same s94
    have S := S.trans s94
    generalize upd H93 p94 (.tup [V.str "least", top, V.ref p93]) = H94 at d94 dtop d51 d84 hl92 cl92 S ⊢
    clear s94
    refine ⟨(by show 2 ≤ sizeLine; decide), fun p95 n95 => ?_⟩
    try dsimp only at n95 ⊢
    have s95 := same_new (o := .tup [V.ref p94, V.bl true]) n95
    have d95 : Dp K (upd H94 p95 (.tup [V.ref p94, V.bl true])) (.ref p95) (.tuple [.tuple [.str "least", topD sc, .tuple [.str "most", .tuple [.str "times", .int (-1), topD sc], .tuple [.str "times", .int 9, .tuple [.str "reg", .int 0]]]], .bool true]) := .tup (SqT.of upd_same) (.cons (dp_same s95 d94) (.cons (.bl _) .nil))
    have dtop := dp_same s95 dtop
    have d51 := dp_same s95 d51
    have d84 := dp_same s95 d84
    have hl92 := s95 _ _ hl92
    have cl92 := fun v hv => (cl92 v hv).same s95
    have S := S.trans s95
    generalize upd H94 p95 (.tup [V.ref p94, V.bl true]) = H95 at d95 dtop d51 d84 hl92 cl92 S ⊢
    clear s95
    refine ⟨p92, _, _, rfl, rfl, hl92, small1000 (by omega), ?_⟩
    have hl96 : (upd H95 p92 (.lst (us92 ++ [V.ref p95]))) p92 = some (.lst (us92 ++ [V.ref p95])) := upd_same
    have cl96 : ∀ v ∈ us92 ++ [V.ref p95], CaseS K many sc (upd H95 p92 (.lst (us92 ++ [V.ref p95]))) v := fun v hv => (List.mem_append.mp hv).elim (fun h => (cl92 v h).put hl92) (fun h => by rw [List.mem_singleton.mp h]; exact CaseS.put (mk_case (ck12 hm h5) d95) hl92)
    have hu96 : (us92 ++ [V.ref p95]).length ≤ 13 := by rw [List.length_append]; show us92.length + 1 ≤ 13; omega
    have dtop := dp_imp (fun _ _ h => put_sqt (us' := (us92 ++ [V.ref p95])) hl92 h) t_dtop dtop
    have d51 := dp_imp (fun _ _ h => put_sqt (us' := (us92 ++ [V.ref p95])) hl92 h) t_d51 d51
    have d84 := dp_imp (fun _ _ h => put_sqt (us' := (us92 ++ [V.ref p95])) hl92 h) t_d84 d84
    have S := put_new (o := .lst (us92 ++ [V.ref p95])) hn92 S
    generalize upd H95 p92 (.lst (us92 ++ [V.ref p95])) = H96 at hl96 cl96 dtop d51 d84 S ⊢
    generalize us92 ++ [V.ref p95] = us96 at hl96 cl96 hu96
    clear hl92 cl92 hu92
    refine ⟨_, rfl, .inl ⟨rfl, _, SqL.of hl96⟩, ?_⟩
    refine ⟨_, rfl, ?_⟩
    refine ⟨_, rfl, ?_⟩
    refine ⟨(by show 2 ≤ sizeLine; decide), fun p97 n97 => ?_⟩
    try dsimp only at n97 ⊢
    have s97 := same_new (o := .tup [V.str "fig", V.int 1]) n97
    have d97 : Dp K (upd H96 p97 (.tup [V.str "fig", V.int 1])) (.ref p97) (.tuple [.str "fig", .int 1]) := .tup (SqT.of upd_same) (.cons (.str _) (.cons (.int _) .nil))
    have dtop := dp_same s97 dtop
    have d51 := dp_same s97 d51
    have d84 := dp_same s97 d84
    have hl96 := s97 _ _ hl96
    have cl96 := fun v hv => (cl96 v hv).same s97
    have S := S.trans s97
    generalize upd H96 p97 (.tup [V.str "fig", V.int 1]) = H97 at d97 dtop d51 d84 hl96 cl96 S ⊢
    clear s97
    refine ⟨(by show 3 ≤ sizeLine; decide), fun p98 n98 => ?_⟩
    try dsimp only at n98 ⊢
    have s98 := same_new (o := .tup [V.str "sum", top, V.ref p97]) n98
    have d98 : Dp K (upd H97 p98 (.tup [V.str "sum", top, V.ref p97])) (.ref p98) (.tuple [.str "sum", topD sc, .tuple [.str "fig", .int 1]]) := .tup (SqT.of upd_same) (.cons (.str _) (.cons (dp_same s98 dtop) (.cons (dp_same s98 d97) .nil)))
    have dtop := dp_same s98 dtop
    have d51 := dp_same s98 d51
    have d84 := dp_same s98 d84
    have hl96 := s98 _ _ hl96
    have cl96 := fun v hv => (cl96 v hv).same s98
    have S := S.trans s98
    generalize upd H97 p98 (.tup [V.str "sum", top, V.ref p97]) = H98 at d98 dtop d51 d84 hl96 cl96 S ⊢
    clear s98
    refine ⟨(by show 5 ≤ sizeLine; decide), fun p99 n99 => ?_⟩
    try dsimp only at n99 ⊢
    have s99 := same_new (o := .tup [V.str "when", V.int 0, V.int 0, top, V.ref p98]) n99
    have d99 : Dp K (upd H98 p99 (.tup [V.str "when", V.int 0, V.int 0, top, V.ref p98])) (.ref p99) (.tuple [.str "when", .int 0, .int 0, topD sc, .tuple [.str "sum", topD sc, .tuple [.str "fig", .int 1]]]) := .tup (SqT.of upd_same) (.cons (.str _) (.cons (.int _) (.cons (.int _) (.cons (dp_same s99 dtop) (.cons (dp_same s99 d98) .nil)))))
    have dtop := dp_same s99 dtop
    have d51 := dp_same s99 d51
    have d84 := dp_same s99 d84
    have hl96 := s99 _ _ hl96
    have cl96 := fun v hv => (cl96 v hv).same s99
    have S := S.trans s99
    generalize upd H98 p99 (.tup [V.str "when", V.int 0, V.int 0, top, V.ref p98]) = H99 at d99 dtop d51 d84 hl96 cl96 S ⊢
    clear s99
    refine ⟨(by show 2 ≤ sizeLine; decide), fun p100 n100 => ?_⟩
    try dsimp only at n100 ⊢
    have s100 := same_new (o := .tup [V.ref p99, V.bl false]) n100
    have d100 : Dp K (upd H99 p100 (.tup [V.ref p99, V.bl false])) (.ref p100) (.tuple [.tuple [.str "when", .int 0, .int 0, topD sc, .tuple [.str "sum", topD sc, .tuple [.str "fig", .int 1]]], .bool false]) := .tup (SqT.of upd_same) (.cons (dp_same s100 d99) (.cons (.bl _) .nil))
    have dtop := dp_same s100 dtop
    have d51 := dp_same s100 d51
    have d84 := dp_same s100 d84
    have hl96 := s100 _ _ hl96
    have cl96 := fun v hv => (cl96 v hv).same s100
    have S := S.trans s100
    generalize upd H99 p100 (.tup [V.ref p99, V.bl false]) = H100 at d100 dtop d51 d84 hl96 cl96 S ⊢
    clear s100
    refine ⟨p92, _, _, rfl, rfl, hl96, small1000 (by omega), ?_⟩
    have hl101 : (upd H100 p92 (.lst (us96 ++ [V.ref p100]))) p92 = some (.lst (us96 ++ [V.ref p100])) := upd_same
    have cl101 : ∀ v ∈ us96 ++ [V.ref p100], CaseS K many sc (upd H100 p92 (.lst (us96 ++ [V.ref p100]))) v := fun v hv => (List.mem_append.mp hv).elim (fun h => (cl96 v h).put hl96) (fun h => by rw [List.mem_singleton.mp h]; exact CaseS.put (mk_case (ck13 hm h5) d100) hl96)
    have hu101 : (us96 ++ [V.ref p100]).length ≤ 14 := by rw [List.length_append]; show us96.length + 1 ≤ 14; omega
    have dtop := dp_imp (fun _ _ h => put_sqt (us' := (us96 ++ [V.ref p100])) hl96 h) t_dtop dtop
    have d51 := dp_imp (fun _ _ h => put_sqt (us' := (us96 ++ [V.ref p100])) hl96 h) t_d51 d51
    have d84 := dp_imp (fun _ _ h => put_sqt (us' := (us96 ++ [V.ref p100])) hl96 h) t_d84 d84
    have S := put_new (o := .lst (us96 ++ [V.ref p100])) hn92 S
    generalize upd H100 p92 (.lst (us96 ++ [V.ref p100])) = H101 at hl101 cl101 dtop d51 d84 S ⊢
    generalize us96 ++ [V.ref p100] = us101 at hl101 cl101 hu101
    clear hl96 cl96 hu96
    refine ⟨_, rfl, .inl ⟨rfl, _, SqL.of hl101⟩, ?_⟩
    refine ⟨_, rfl, ?_⟩
    refine ⟨_, rfl, ?_⟩
    refine ⟨(by show 2 ≤ sizeLine; decide), fun p102 n102 => ?_⟩
    try dsimp only at n102 ⊢
    have s102 := same_new (o := .tup [V.str "fig", V.int (-1)]) n102
    have d102 : Dp K (upd H101 p102 (.tup [V.str "fig", V.int (-1)])) (.ref p102) (.tuple [.str "fig", .int (-1)]) := .tup (SqT.of upd_same) (.cons (.str _) (.cons (.int _) .nil))
    have dtop := dp_same s102 dtop
    have d51 := dp_same s102 d51
    have d84 := dp_same s102 d84
    have hl101 := s102 _ _ hl101
    have cl101 := fun v hv => (cl101 v hv).same s102
    have S := S.trans s102
    generalize upd H101 p102 (.tup [V.str "fig", V.int (-1)]) = H102 at d102 dtop d51 d84 hl101 cl101 S ⊢
    clear s102
    refine ⟨(by show 3 ≤ sizeLine; decide), fun p103 n103 => ?_⟩
    try dsimp only at n103 ⊢
    have s103 := same_new (o := .tup [V.str "sum", V.ref p51, V.ref p102]) n103
    have d103 : Dp K (upd H102 p103 (.tup [V.str "sum", V.ref p51, V.ref p102])) (.ref p103) (.tuple [.str "sum", .tuple [.str "times", .int (-1), topD sc], .tuple [.str "fig", .int (-1)]]) := .tup (SqT.of upd_same) (.cons (.str _) (.cons (dp_same s103 d51) (.cons (dp_same s103 d102) .nil)))
    have dtop := dp_same s103 dtop
    have d51 := dp_same s103 d51
    have d84 := dp_same s103 d84
    have hl101 := s103 _ _ hl101
    have cl101 := fun v hv => (cl101 v hv).same s103
    have S := S.trans s103
    generalize upd H102 p103 (.tup [V.str "sum", V.ref p51, V.ref p102]) = H103 at d103 dtop d51 d84 hl101 cl101 S ⊢
    clear s103
    refine ⟨_, rfl, ?_⟩
    refine ⟨(by show 5 ≤ sizeLine; decide), fun p104 n104 => ?_⟩
    try dsimp only at n104 ⊢
    have s104 := same_new (o := .tup [V.str "where", V.int 0, V.int 500, V.ref p103, top]) n104
    have d104 : Dp K (upd H103 p104 (.tup [V.str "where", V.int 0, V.int 500, V.ref p103, top])) (.ref p104) (.tuple [.str "where", .int 0, .int 500, .tuple [.str "sum", .tuple [.str "times", .int (-1), topD sc], .tuple [.str "fig", .int (-1)]], topD sc]) := .tup (SqT.of upd_same) (.cons (.str _) (.cons (.int _) (.cons (.int _) (.cons (dp_same s104 d103) (.cons (dp_same s104 dtop) .nil)))))
    have dtop := dp_same s104 dtop
    have d51 := dp_same s104 d51
    have d84 := dp_same s104 d84
    have hl101 := s104 _ _ hl101
    have cl101 := fun v hv => (cl101 v hv).same s104
    have S := S.trans s104
    generalize upd H103 p104 (.tup [V.str "where", V.int 0, V.int 500, V.ref p103, top]) = H104 at d104 dtop d51 d84 hl101 cl101 S ⊢
    clear s104
    refine ⟨(by show 2 ≤ sizeLine; decide), fun p105 n105 => ?_⟩
    try dsimp only at n105 ⊢
    have s105 := same_new (o := .tup [V.ref p104, V.bl false]) n105
    have d105 : Dp K (upd H104 p105 (.tup [V.ref p104, V.bl false])) (.ref p105) (.tuple [.tuple [.str "where", .int 0, .int 500, .tuple [.str "sum", .tuple [.str "times", .int (-1), topD sc], .tuple [.str "fig", .int (-1)]], topD sc], .bool false]) := .tup (SqT.of upd_same) (.cons (dp_same s105 d104) (.cons (.bl _) .nil))
    have dtop := dp_same s105 dtop
    have d51 := dp_same s105 d51
    have d84 := dp_same s105 d84
    have hl101 := s105 _ _ hl101
    have cl101 := fun v hv => (cl101 v hv).same s105
    have S := S.trans s105
    generalize upd H104 p105 (.tup [V.ref p104, V.bl false]) = H105 at d105 dtop d51 d84 hl101 cl101 S ⊢
    clear s105
    refine ⟨p92, _, _, rfl, rfl, hl101, small1000 (by omega), ?_⟩
    have hl106 : (upd H105 p92 (.lst (us101 ++ [V.ref p105]))) p92 = some (.lst (us101 ++ [V.ref p105])) := upd_same
    have cl106 : ∀ v ∈ us101 ++ [V.ref p105], CaseS K many sc (upd H105 p92 (.lst (us101 ++ [V.ref p105]))) v := fun v hv => (List.mem_append.mp hv).elim (fun h => (cl101 v h).put hl101) (fun h => by rw [List.mem_singleton.mp h]; exact CaseS.put (mk_case (ck14 hm h5) d105) hl101)
    have hu106 : (us101 ++ [V.ref p105]).length ≤ 15 := by rw [List.length_append]; show us101.length + 1 ≤ 15; omega
    have dtop := dp_imp (fun _ _ h => put_sqt (us' := (us101 ++ [V.ref p105])) hl101 h) t_dtop dtop
    have d51 := dp_imp (fun _ _ h => put_sqt (us' := (us101 ++ [V.ref p105])) hl101 h) t_d51 d51
    have d84 := dp_imp (fun _ _ h => put_sqt (us' := (us101 ++ [V.ref p105])) hl101 h) t_d84 d84
    have S := put_new (o := .lst (us101 ++ [V.ref p105])) hn92 S
    generalize upd H105 p92 (.lst (us101 ++ [V.ref p105])) = H106 at hl106 cl106 dtop d51 d84 S ⊢
    generalize us101 ++ [V.ref p105] = us106 at hl106 cl106 hu106
    clear hl101 cl101 hu101
    refine ⟨_, rfl, .inl ⟨rfl, _, SqL.of hl106⟩, ?_⟩
    refine ⟨(by show 2 ≤ sizeLine; decide), fun p107 n107 => ?_⟩
    try dsimp only at n107 ⊢
    have s107 := same_new (o := .tup [V.str "share", V.int 0]) n107
    have d107 : Dp K (upd H106 p107 (.tup [V.str "share", V.int 0])) (.ref p107) (.tuple [.str "share", .int 0]) := .tup (SqT.of upd_same) (.cons (.str _) (.cons (.int _) .nil))
    have dtop := dp_same s107 dtop
    have d51 := dp_same s107 d51
    have d84 := dp_same s107 d84
    have hl106 := s107 _ _ hl106
    have cl106 := fun v hv => (cl106 v hv).same s107
    have S := S.trans s107
    generalize upd H106 p107 (.tup [V.str "share", V.int 0]) = H107 at d107 dtop d51 d84 hl106 cl106 S ⊢
    clear s107
    refine ⟨(by show 2 ≤ sizeLine; decide), fun p108 n108 => ?_⟩
    try dsimp only at n108 ⊢
    have s108 := same_new (o := .tup [V.str "share", V.int 1]) n108
    have d108 : Dp K (upd H107 p108 (.tup [V.str "share", V.int 1])) (.ref p108) (.tuple [.str "share", .int 1]) := .tup (SqT.of upd_same) (.cons (.str _) (.cons (.int _) .nil))
    have dtop := dp_same s108 dtop
    have d51 := dp_same s108 d51
    have d84 := dp_same s108 d84
    have d107 := dp_same s108 d107
    have hl106 := s108 _ _ hl106
    have cl106 := fun v hv => (cl106 v hv).same s108
    have S := S.trans s108
    generalize upd H107 p108 (.tup [V.str "share", V.int 1]) = H108 at d108 dtop d51 d84 d107 hl106 cl106 S ⊢
    clear s108
    refine ⟨(by show 3 ≤ sizeLine; decide), fun p109 n109 => ?_⟩
    try dsimp only at n109 ⊢
    have s109 := same_new (o := .tup [V.str "less", V.ref p107, V.ref p108]) n109
    have d109 : Dp K (upd H108 p109 (.tup [V.str "less", V.ref p107, V.ref p108])) (.ref p109) (.tuple [.str "less", .tuple [.str "share", .int 0], .tuple [.str "share", .int 1]]) := .tup (SqT.of upd_same) (.cons (.str _) (.cons (dp_same s109 d107) (.cons (dp_same s109 d108) .nil)))
    have dtop := dp_same s109 dtop
    have d51 := dp_same s109 d51
    have d84 := dp_same s109 d84
    have hl106 := s109 _ _ hl106
    have cl106 := fun v hv => (cl106 v hv).same s109
    have S := S.trans s109
    generalize upd H108 p109 (.tup [V.str "less", V.ref p107, V.ref p108]) = H109 at d109 dtop d51 d84 hl106 cl106 S ⊢
    clear s109
    refine ⟨_, rfl, _, _, rfl, rfl, ?_⟩
    refine ⟨(by show 2 ≤ sizeLine; decide), fun p110 n110 => ?_⟩
    try dsimp only at n110 ⊢
    have s110 := same_new (o := .tup [V.ref p109, V.bl (decide ((1000 : Int) ≤ (500 * pw2 sc)))]) n110
    have d110 : Dp K (upd H109 p110 (.tup [V.ref p109, V.bl (decide ((1000 : Int) ≤ (500 * pw2 sc)))])) (.ref p110) (.tuple [.tuple [.str "less", .tuple [.str "share", .int 0], .tuple [.str "share", .int 1]], .bool (decide ((1000 : Int) ≤ (500 * pw2 sc)))]) := .tup (SqT.of upd_same) (.cons (dp_same s110 d109) (.cons (.bl _) .nil))
    have dtop := dp_same s110 dtop
    have d51 := dp_same s110 d51
    have d84 := dp_same s110 d84
    have hl106 := s110 _ _ hl106
    have cl106 := fun v hv => (cl106 v hv).same s110
    have S := S.trans s110
    generalize upd H109 p110 (.tup [V.ref p109, V.bl (decide ((1000 : Int) ≤ (500 * pw2 sc)))]) = H110 at d110 dtop d51 d84 hl106 cl106 S ⊢
    clear s110
    refine ⟨p92, _, _, rfl, rfl, hl106, small1000 (by omega), ?_⟩
    have hl111 : (upd H110 p92 (.lst (us106 ++ [V.ref p110]))) p92 = some (.lst (us106 ++ [V.ref p110])) := upd_same
    have cl111 : ∀ v ∈ us106 ++ [V.ref p110], CaseS K many sc (upd H110 p92 (.lst (us106 ++ [V.ref p110]))) v := fun v hv => (List.mem_append.mp hv).elim (fun h => (cl106 v h).put hl106) (fun h => by rw [List.mem_singleton.mp h]; exact CaseS.put (mk_case (ck15 hm h5) d110) hl106)
    have hu111 : (us106 ++ [V.ref p110]).length ≤ 16 := by rw [List.length_append]; show us106.length + 1 ≤ 16; omega
    have dtop := dp_imp (fun _ _ h => put_sqt (us' := (us106 ++ [V.ref p110])) hl106 h) t_dtop dtop
    have d51 := dp_imp (fun _ _ h => put_sqt (us' := (us106 ++ [V.ref p110])) hl106 h) t_d51 d51
    have d84 := dp_imp (fun _ _ h => put_sqt (us' := (us106 ++ [V.ref p110])) hl106 h) t_d84 d84
    have S := put_new (o := .lst (us106 ++ [V.ref p110])) hn92 S
    generalize upd H110 p92 (.lst (us106 ++ [V.ref p110])) = H111 at hl111 cl111 dtop d51 d84 S ⊢
    generalize us106 ++ [V.ref p110] = us111 at hl111 cl111 hu111
    clear hl106 cl106 hu106
    exact ⟨_, rfl, q H111 p92 us111 S hn92 hl111 (by omega) cl111⟩
end
end NG

set_option maxHeartbeats 8000000
namespace NG
open PySem PySem.Spec PyProof.Rows L2
def spSetT (K : PySem.W.Frag) : Sp := fun vs H Q _ => ∃ (p : Addr) (xs : List V) (k : Nat) (v : V), vs = [.ref p, .int (k : Int), v] ∧ SqT K H p xs ∧ k < xs.length ∧ xs.length ≤ 900 ∧ ∀ H' t, Same H H' → SqT K H' t (xs.set k v) → Q (.ref t) H'
theorem cut_set {xs : List V} {k : Nat} {v : V} (hk : k < xs.length) : cutV xs none (some (k : Int)) ++ [v] ++ cutV xs (some ((k : Int) + 1)) none = xs.set k v := by
  have h1 : cutV xs none (some (k : Int)) = xs.take k := by
    unfold cutV
    rw [HT.sIx_none, show HT.sIx xs.length xs.length (some (k : Int)) = min k xs.length from HT.sIx_nat _ _ _, List.drop_zero, Nat.sub_zero, Nat.min_eq_left (by omega)]
  have h2 : cutV xs (some ((k : Int) + 1)) none = xs.drop (k + 1) := by
    rw [show (k : Int) + 1 = ((k + 1 : Nat) : Int) by omega]
    unfold cutV
    rw [HT.sIx_none, show HT.sIx xs.length 0 (some ((k + 1 : Nat) : Int)) = min (k + 1) xs.length from HT.sIx_nat _ _ _, Nat.min_eq_left (by omega)]
    exact List.take_of_length_le (by rw [List.length_drop]; omega)
  rw [h1, h2, List.set_eq_take_append_cons_drop, if_pos hk, List.append_assoc]
  rfl
/-- least words of so many parts -/
def pilE : Nat → Nat → Ex → Ex
  | 0, _, e => e
  | k + 1, n, e => if n = 1 then e else .two .least (pilE k ((n - 1) / 2 - (if (n - 1) / 2 % 2 = 0 then 1 else 0)) e) (pilE k (n - 1 - ((n - 1) / 2 - (if (n - 1) / 2 % 2 = 0 then 1 else 0))) e)
def spPiled (K : PySem.W.Frag) (k : Nat) : Sp := fun vs H Q _ => ∃ (v : V) (e : Ex) (n : Nat), vs = [v, .int (n : Int)] ∧ n % 2 = 1 ∧ n < 2 ^ k ∧ Dp K H v (toD e) ∧ ∀ H' u, Same H H' → Dp K H' u (toD (pilE k n e)) → Q u H'
section
variable {P : Program} {w : World} {K : PySem.W.Frag} {mg : Str → Option Value} {base : Heap}
theorem ok_put {f : Addr} {fd : FuncData} (F : Fun K "_law_put" "_law_put" s_L_put f fd) (gF : mg "_law_put" = some (.ref f)) (b : Binds K fd ["_law_sceptic", "_law_at", "_law_lump"] []) (B : Bl mg) : Cal P w K mg base 1 "_law_put" (spSetT K) := by
  refine ⟨f, fd, _, F.ok sc_L_put (fun vs H Q E h => ?_) (fun cdv A outer s H vs Q E hr h => ?_), gF, F.kp, b⟩
  · obtain ⟨_, _, _, _, rfl, _⟩ := h
    rfl
  · obtain ⟨p, xs, k, v, rfl, hp, hk, hl, q⟩ := h
    refine ⟨_, (pss_one (ps_ret (pe_op op_catA (pe_op op_catA (pe_slice sl_tupA (pv 0) po_none (po_some (pv 1))) (pe_tup (pa_cons (pv 2) pa_nil))) (pe_slice sl_tupA (pv 0) (po_some (pe_op op_add (pv 1) pe_int)) po_none)))), ?_⟩
    have hs := cut_set (v := v) hk
    have hlen : (xs.set k v).length = xs.length := List.length_set
    rw [← hs, List.length_append] at hlen
    refine ⟨.ref p, rfl, _, rfl, _, rfl, slA hp fun H1 p1 sm1 hp1 => ⟨v, rfl, (by show 1 ≤ sizeLine; decide), fun t2 n2 => ?_⟩⟩
    have s2 := same_new (o := .tup [v]) n2
    refine catA (same_sqt s2 hp1) (SqT.of upd_same) (Nat.le_of_lt (small1000 (by rw [← List.length_append]; omega))) fun H3 p3 sm3 hp3 => ?_
    have S := (sm1.trans s2).trans sm3
    refine ⟨.ref p, rfl, _, rfl, _, _, rfl, rfl, _, rfl, ?_⟩
    dsimp only [tNoPart]
    refine slA (same_sqt S hp) fun H4 p4 sm4 hp4 => ?_
    refine catA (same_sqt sm4 hp3) hp4 (Nat.le_of_lt (small1000 (by omega))) fun H5 p5 sm5 hp5 => ?_
    rw [hs] at hp5
    exact q _ p5 ((S.trans sm4).trans sm5) hp5
theorem ok_part {f : Addr} {fd : FuncData} (F : Fun K "_law_part" "_law_part" s_L_part f fd) (gF : mg "_law_part" = some (.ref f)) (b : Binds K fd ["_law_row", "_law_at", "_law_lump"] []) (B : Bl mg) : Cal P w K mg base 1 "_law_part" (spSetT K) := by
  refine ⟨f, fd, _, F.ok sc_L_part (fun vs H Q E h => ?_) (fun cdv A outer s H vs Q E hr h => ?_), gF, F.kp, b⟩
  · obtain ⟨_, _, _, _, rfl, _⟩ := h
    rfl
  · obtain ⟨p, xs, k, v, rfl, hp, hk, hl, q⟩ := h
    refine ⟨_, (pss_one (ps_ret (pe_op op_catA (pe_op op_catA (pe_slice sl_tupA (pv 0) po_none (po_some (pv 1))) (pe_tup (pa_cons (pv 2) pa_nil))) (pe_slice sl_tupA (pv 0) (po_some (pe_op op_add (pv 1) pe_int)) po_none)))), ?_⟩
    have hs := cut_set (v := v) hk
    have hlen : (xs.set k v).length = xs.length := List.length_set
    rw [← hs, List.length_append] at hlen
    refine ⟨.ref p, rfl, _, rfl, _, rfl, slA hp fun H1 p1 sm1 hp1 => ⟨v, rfl, (by show 1 ≤ sizeLine; decide), fun t2 n2 => ?_⟩⟩
    have s2 := same_new (o := .tup [v]) n2
    refine catA (same_sqt s2 hp1) (SqT.of upd_same) (Nat.le_of_lt (small1000 (by rw [← List.length_append]; omega))) fun H3 p3 sm3 hp3 => ?_
    have S := (sm1.trans s2).trans sm3
    refine ⟨.ref p, rfl, _, rfl, _, _, rfl, rfl, _, rfl, ?_⟩
    dsimp only [tNoPart]
    refine slA (same_sqt S hp) fun H4 p4 sm4 hp4 => ?_
    refine catA (same_sqt sm4 hp3) hp4 (Nat.le_of_lt (small1000 (by omega))) fun H5 p5 sm5 hp5 => ?_
    rw [hs] at hp5
    exact q _ p5 ((S.trans sm4).trans sm5) hp5
theorem ok_piled {f : Addr} {fd : FuncData} (F : Fun K "_law_piled" "_law_piled" s_L_piled f fd) (gF : mg "_law_piled" = some (.ref f)) (b : Binds K fd ["_law_phrase", "_law_wide"] []) (B : Bl mg) : ∀ k, Cal P w K mg base (k + 1) "_law_piled" (spPiled K k) := by
  intro k
  induction k with
  | zero =>
    refine cal_never F gF b fun vs H Q E h => ?_
    obtain ⟨_, _, n, _, h1, h2, _⟩ := h
    have h2 : n < 1 := h2
    omega
  | succ k c_L_piled =>
  refine ⟨f, fd, _, F.ok sc_L_piled (fun vs H Q E h => ?_) (fun cdv A outer s H vs Q E hr h => ?_), gF, F.kp, b⟩
  · obtain ⟨_, _, _, rfl, _⟩ := h
    rfl
  · obtain ⟨v, e, n, rfl, ho, hn, hd, q⟩ := h
    refine ⟨_, (pss_cons (ps_if (pt_cmpR op_eq (pv 1) pe_int (nomark _)) (pss_one (ps_ret (pv 0))) pss_nil) (pss_cons (ps_set (i := 2) sc_L_piled.nd rfl (.inl rfl) (pe_op op_fdiv (pe_op op_sub (pv 1) pe_int) pe_int)) (pss_cons (ps_set (i := 2) sc_L_piled.nd rfl (.inl rfl) (pe_op op_sub (pv 2) (pe_callTy call_int1 (by rfl) B.int (by decide +kernel) (pa_cons (pe_cmpR op_eq (pe_op op_mod (pv 2) pe_int) pe_int (nomark _)) pa_nil)))) (pss_one (ps_ret (pe_tup (pa_cons pe_str (pa_cons (pe_c c_L_piled hr (by omega) (by rfl) (pa_cons (pv 0) (pa_cons (pv 2) pa_nil))) (pa_cons (pe_c c_L_piled hr (by omega) (by rfl) (pa_cons (pv 0) (pa_cons (pe_op op_sub (pe_op op_sub (pv 1) pe_int) (pv 2)) pa_nil))) pa_nil))))))))), ?_⟩
    have e2 : 2 ^ (k + 1) = 2 * 2 ^ k := by rw [Nat.pow_succ, Nat.mul_comm]
    have hpos : 1 ≤ 2 ^ k := Nat.pow_pos (by decide)
    refine ⟨_, rfl, rfl, _, rfl, ?_⟩
    by_cases c : n = 1
    · refine iteTT (decide_eq_true (by rw [c]; rfl)) ⟨v, rfl, ?_⟩
      refine q H v (Same.refl _) ?_
      unfold pilE
      rw [if_pos c]
      exact hd
    · refine iteFF (decide_eq_false fun z => c (by have := V.int.inj z; omega)) ?_
      obtain ⟨h, hh⟩ : ∃ h : Nat, h = (n - 1) / 2 - (if (n - 1) / 2 % 2 = 0 then 1 else 0) := ⟨_, rfl⟩
      obtain ⟨m2, hm2⟩ : ∃ m2, 2 ^ k = 2 * m2 := by
        cases k with
        | zero => exact absurd hn (by show ¬ n < 2; omega)
        | succ k => exact ⟨2 ^ k, by rw [Nat.pow_succ, Nat.mul_comm]⟩
      have hb : h % 2 = 1 ∧ h < 2 ^ k ∧ (n - 1 - h) % 2 = 1 ∧ n - 1 - h < 2 ^ k ∧ h ≤ n - 1 := by
        split at hh <;> omega
      refine ⟨_, rfl, _, _, rfl, rfl, _, _, rfl, rfl, ⟨by decide, by decide⟩, ?_⟩
      refine ⟨_, rfl, _, rfl, _, _, rfl, rfl, (by show (0 : Int) < 2; decide), rfl, .inr ⟨_, rfl, _, _, rfl, rfl, ?_⟩⟩
      have eh : ((n : Int) - 1) / 2 - (if decide (V.int (((n : Int) - 1) / 2 % 2) = V.int 0) = true then 1 else 0) = (h : Int) := by
        have e0 : decide (V.int (((n : Int) - 1) / 2 % 2) = V.int 0) = decide ((n - 1) / 2 % 2 = 0) := by
          rw [decide_eq_decide]
          exact ⟨fun z => by have := V.int.inj z; omega, fun z => by congr 1; omega⟩
        rw [e0, hh]
        by_cases c2 : (n - 1) / 2 % 2 = 0
        · rw [decide_eq_true c2, if_pos rfl, if_pos c2]
          omega
        · rw [decide_eq_false c2, if_neg (by simp), if_neg c2]
          omega
      dsimp only
      rw [eh]
      refine ⟨v, rfl, _, rfl, v, e, h, rfl, hb.1, hb.2.1, hd, fun H1 u1 sm1 hu1 => ?_⟩
      refine ⟨v, rfl, _, rfl, _, _, rfl, rfl, _, rfl, _, _, rfl, rfl, v, e, n - 1 - h, ?_, hb.2.2.1, hb.2.2.2.1, dp_same sm1 hd, fun H2 u2 sm2 hu2 => ⟨(by show 3 ≤ sizeLine; decide), fun t nt => ?_⟩⟩
      · dsimp only
        rw [show (n : Int) - 1 - (h : Int) = ((n - 1 - h : Nat) : Int) by omega]
        rfl
      have st := same_new (o := .tup [.str "least", u1, u2]) nt
      refine q _ _ ((sm1.trans sm2).trans st) ?_
      unfold pilE
      rw [if_neg c, ← hh]
      exact .tup (SqT.of upd_same) (.cons (.str _) (.cons (dp_same (sm2.trans st) hu1) (.cons (dp_same st hu2) .nil)))
end
end NG

set_option maxHeartbeats 16000000
namespace NG
open PySem PySem.Spec PyProof.Rows L2
def fourC : List Int := [1, 0, -1, 500]
theorem four_bnd {c : Int} (h : c ∈ fourC) : -1 ≤ c ∧ c ≤ 500 := by
  simp only [fourC, List.mem_cons, List.not_mem_nil, or_false] at h
  omega
structure DeepOk (many i : Nat) (e : Ex) : Prop where
  ok : ExOk many e
  dp : e.dep = i + 1
  sz : e.size ≤ 2 * i + 1
  lo : -500 ≤ (spn e).1 ∧ (spn e).1 ≤ 500
  hi : -500 ≤ (spn e).2 ∧ (spn e).2 ≤ 500
theorem deep_zero {many : Nat} {c : Int} (h : c ∈ fourC) : DeepOk many 0 (.fig c) := by
  have := four_bnd h
  exact ⟨⟨by omega, by omega⟩, rfl, by show 1 ≤ 1; decide, ⟨by show -500 ≤ c; omega, by show c ≤ 500; omega⟩, ⟨by show -500 ≤ c; omega, by show c ≤ 500; omega⟩⟩
theorem mn_in {a b : Int} (h1 : -500 ≤ a ∧ a ≤ 500) (h2 : -500 ≤ b ∧ b ≤ 500) : (-500 ≤ mn a b ∧ mn a b ≤ 500) ∧ (-500 ≤ mx a b ∧ mx a b ≤ 500) := by
  unfold mn mx
  constructor <;> split <;> omega
theorem deep_times {many i : Nat} {c : Int} {e : Ex} (h : c ∈ fourC) (x : DeepOk many i e) : DeepOk many (i + 1) (.times 1 e) := by
  have z1 : (spn (.times 1 e)).1 = mn (spn e).1 (spn e).2 := by
    show mn (1 * (spn e).1) (1 * (spn e).2) = _
    rw [Int.one_mul, Int.one_mul]
  have z2 : (spn (.times 1 e)).2 = mx (spn e).1 (spn e).2 := by
    show mx (1 * (spn e).1) (1 * (spn e).2) = _
    rw [Int.one_mul, Int.one_mul]
  exact ⟨⟨⟨by decide, by decide⟩, x.ok⟩, by show e.dep + 1 = _; rw [x.dp], by have := x.sz; show 1 + e.size ≤ 2 * (i + 1) + 1; omega, by rw [z1]; exact (mn_in x.lo x.hi).1, by rw [z2]; exact (mn_in x.lo x.hi).2⟩
theorem deep_least {many i : Nat} {c : Int} {e : Ex} (h : c ∈ fourC) (x : DeepOk many i e) : DeepOk many (i + 1) (.two .least (.fig c) e) := by
  have := four_bnd h
  have hc : -500 ≤ c ∧ c ≤ 500 := by omega
  exact ⟨⟨⟨by omega, by omega⟩, x.ok⟩, by show max 1 e.dep + 1 = _; rw [x.dp]; omega, by have := x.sz; show 1 + 1 + e.size ≤ 2 * (i + 1) + 1; omega, (mn_in hc x.lo).1, (mn_in hc x.hi).1⟩
theorem deep_most {many i : Nat} {c : Int} {e : Ex} (h : c ∈ fourC) (x : DeepOk many i e) : DeepOk many (i + 1) (.two .most e (.fig c)) := by
  have := four_bnd h
  have hc : -500 ≤ c ∧ c ≤ 500 := by omega
  exact ⟨⟨x.ok, ⟨by omega, by omega⟩⟩, by show max e.dep 1 + 1 = _; rw [x.dp]; omega, by have := x.sz; show 1 + e.size + 1 ≤ 2 * (i + 1) + 1; omega, (mn_in x.lo hc).2, (mn_in x.hi hc).2⟩
theorem hgood {many sc : Nat} {e : Ex} (h5 : sc < 5) (x : DeepOk many 7 e) : ExOk many e ∧ stakeD many sc (toD e) = true := by
  refine ⟨x.ok, ?_⟩
  rw [stakeD_of x.ok (by rw [x.dp]; decide)]
  have := x.sz
  have := x.lo
  have := x.hi
  have hp := pw2_bnd sc
  rw [decide_eq_true (by omega), decide_eq_true (by omega), decide_eq_true (by omega)]
  rfl
theorem hbad {many sc : Nat} {e : Ex} (h5 : sc < 5) (x : DeepOk many 7 e) : ExOk many (.times 1 e) ∧ stakeD many sc (toD (.times 1 e)) = false := by
  have ok : ExOk many (.times 1 e) := ⟨⟨by decide, by decide⟩, x.ok⟩
  refine ⟨ok, ?_⟩
  unfold stakeD
  rw [isEx_of ok, decide_eq_false (by intro z; have := z.1; have h : e.dep + 1 ≤ 8 := this; rw [x.dp] at h; omega)]
  rfl
theorem mk_caseE {K : PySem.W.Frag} {many sc : Nat} {H : Hp} {v : V} {e : Ex} {due : Bool} (c : ExOk many e ∧ stakeD many sc (toD e) = due) (x : Dp K H v (.tuple [toD e, .bool due])) : CaseS K many sc H v := ⟨toD e, due, x, tpo_ex e, wdE_of c.1, c.2⟩
def allWe : List We := [.fig, .reg, .share, .two .sum, .two .less, .two .least, .two .most, .times, .by, .when, .whr]
def chkN (many : Nat) : PyData → Bool
  | .tuple (.str s :: ds) => tpo (.tuple (.str s :: ds)) && allWe.any fun w => decide (s = wen w) && !fitsD many (wsh w) ds
  | _ => false
theorem chkN_ok {many : Nat} : ∀ {d : PyData}, chkN many d = true → tpo d = true ∧ wdE many 8 d ∧ ∀ sc, stakeD many sc d = false
  | .tuple (.str s :: ds), h => by
    unfold chkN at h
    rw [Bool.and_eq_true] at h
    obtain ⟨h1, h2⟩ := h
    obtain ⟨w, _, hw⟩ := List.any_eq_true.mp h2
    rw [Bool.and_eq_true, decide_eq_true_eq, Bool.not_eq_true'] at hw
    obtain ⟨rfl, hf⟩ := hw
    refine ⟨h1, ⟨w, ds, rfl, fun z => by rw [hf] at z; cases z⟩, fun sc => ?_⟩
    have k : cntE many 8 (.tuple (.str (wen w) :: ds)) = 0 := by
      rw [cntE_eq, hf]
      rfl
    unfold stakeD isEx
    rw [k]
    rfl
theorem mk_caseN {K : PySem.W.Frag} {many sc : Nat} {H : Hp} {v : V} {d : PyData} (c : chkN many d = true) (x : Dp K H v (.tuple [d, .bool false])) : CaseS K many sc H v := by
  obtain ⟨h1, h2, h3⟩ := chkN_ok c
  exact ⟨d, false, x, h1, h2, h3 sc⟩
abbrev Row6 := Str × Nat × Int × Int × Int × Int
def rows6 (many : Nat) : List Row6 := [("times", 1, -9, 9, -10, 10), ("when", 1, 0, 3, -1, 4), ("when", 2, -1000, 1000, -1001, 1001), ("where", 1, 0, (many : Int) - 1, -1, (many : Int)), ("where", 2, 1, 1000, 0, 1001), ("by", 1, 0, 3, -1, 4)]
def rowDt (r : Row6) : PyData := .tuple [.str r.1, .int (r.2.1 : Int), .tuple [.int r.2.2.1, .int r.2.2.2.1], .tuple [.int r.2.2.2.2.1, .int r.2.2.2.2.2]]
def fullD (w : Str) (c : Int) : List PyData := if w = "times" ∨ w = "by" then [.str w, .int 1, .tuple [.str "fig", .int 0]] else [.str w, .int 1, .int 1, .tuple [.str "fig", .int 0], .tuple [.str "fig", .int c]]
theorem two_at {K : PySem.W.Frag} {H : Hp} {v : V} {i j : Int} (h : Dp K H v (.tuple [.int i, .int j])) : ∃ p, v = .ref p ∧ SqT K H p [.int i, .int j] := by
  cases h with
  | tup q r =>
    cases r with
    | cons x r =>
      cases r with
      | cons y r =>
        cases r
        cases x
        cases y
        exact ⟨_, rfl, q⟩
theorem row_at {K : PySem.W.Frag} {H : Hp} {v : V} {r : Row6} (h : Dp K H v (rowDt r)) : ∃ p pg po, v = .ref p ∧ SqT K H p [.str r.1, .int (r.2.1 : Int), .ref pg, .ref po] ∧ SqT K H pg [.int r.2.2.1, .int r.2.2.2.1] ∧ SqT K H po [.int r.2.2.2.2.1, .int r.2.2.2.2.2] := by
  unfold rowDt at h
  cases h with
  | tup q t =>
    cases t with
    | cons x t =>
      cases t with
      | cons y t =>
        cases t with
        | cons z t =>
          cases t with
          | cons u t =>
            cases t
            cases x
            cases y
            obtain ⟨pg, rfl, hg⟩ := two_at z
            obtain ⟨po, rfl, ho⟩ := two_at u
            exact ⟨_, pg, po, rfl, q, hg, ho⟩
theorem dpall_set {K : PySem.W.Frag} {H : Hp} {v : V} {d : PyData} (x : Dp K H v d) : ∀ {vs : List V} {ds : List PyData} (k : Nat), DpAll K H vs ds → DpAll K H (vs.set k v) (ds.set k d)
  | [], _, _, .nil => .nil
  | _ :: _, _ :: _, 0, .cons _ r => .cons x r
  | _ :: _, _ :: _, k + 1, .cons y r => .cons y (dpall_set x k r)
theorem dp_full {K : PySem.W.Frag} {H : Hp} {p : Addr} {x : V} {ds es : List PyData} (e : x = V.ref p) (h : Dp K H (V.ref p) (.tuple ds)) (e2 : ds = es) : ∃ (pf : Addr) (vsF : List V), x = V.ref pf ∧ SqT K H pf vsF ∧ DpAll K H vsF es := by
  subst e2
  cases h with
  | tup q r => exact ⟨_, _, e, q, r⟩
theorem row_good {many sc : Nat} {c : Int} {r : Row6} (hm : many = 2 ∨ many = 3) (h5 : sc < 5) (hc : c ∈ fourC) (hr : r ∈ rows6 many) {z : Int} (hz : z = r.2.2.1 ∨ z = r.2.2.2.1) : chkS many sc (.tuple ((fullD r.1 c).set r.2.1 (.int z))) true = true := by
  have k : ((rows6 many).all fun r => fourC.all fun c => (List.range 5).all fun sc => chkS many sc (.tuple ((fullD r.1 c).set r.2.1 (.int r.2.2.1))) true && chkS many sc (.tuple ((fullD r.1 c).set r.2.1 (.int r.2.2.2.1))) true) = true := by rcases hm with rfl | rfl <;> decide +kernel
  have k2 := List.all_eq_true.mp (List.all_eq_true.mp (List.all_eq_true.mp k r hr) c hc) sc (List.mem_range.mpr h5)
  rw [Bool.and_eq_true] at k2
  rcases hz with rfl | rfl
  · exact k2.1
  · exact k2.2
theorem row_odd {many : Nat} {c : Int} {r : Row6} (hm : many = 2 ∨ many = 3) (hc : c ∈ fourC) (hr : r ∈ rows6 many) {z : Int} (hz : z = r.2.2.2.2.1 ∨ z = r.2.2.2.2.2) : chkN many (.tuple ((fullD r.1 c).set r.2.1 (.int z))) = true := by
  have k : ((rows6 many).all fun r => fourC.all fun c => chkN many (.tuple ((fullD r.1 c).set r.2.1 (.int r.2.2.2.2.1))) && chkN many (.tuple ((fullD r.1 c).set r.2.1 (.int r.2.2.2.2.2)))) = true := by rcases hm with rfl | rfl <;> decide +kernel
  have k2 := List.all_eq_true.mp (List.all_eq_true.mp k r hr) c hc
  rw [Bool.and_eq_true] at k2
  rcases hz with rfl | rfl
  · exact k2.1
  · exact k2.2
theorem row_at_lt {many : Nat} {c : Int} {r : Row6} (hr : r ∈ rows6 many) : r.2.1 < (fullD r.1 c).length ∧ (fullD r.1 c).length ≤ 5 := by
  have e : ∀ w : Str, (fullD w c).length = (fullD w 0).length := fun w => by unfold fullD; split <;> rfl
  rw [e]
  simp only [rows6, List.mem_cons, List.not_mem_nil, or_false] at hr
  rcases hr with rfl | rfl | rfl | rfl | rfl | rfl
  all_goals (dsimp only; decide +kernel)
def spExprC (K : PySem.W.Frag) : Sp := fun vs H Q _ => ∃ (a : Addr) (many sc n : Nat), vs = [.ref a, .int (many : Int)] ∧ (many = 2 ∨ many = 3) ∧ sc < 5 ∧ HandAt H a n ∧ n ≤ 900000000 ∧ ∀ H' l us, But a H H' → HandAt H' a (n + 10) → l ≠ a → H' l = some (.lst us) → us.length ≤ 60 → (∀ v ∈ us, CaseS K many sc H' v) → Q (.ref l) H'
theorem cp0 {many sc : Nat} {c : Int} (hm : many = 2 ∨ many = 3) (h5 : sc < 5) (hc : c ∈ fourC) : chkS many sc (toD (pilE 6 39 (.fig c))) (true) = true := by
  have k : (fourC.all fun c => (List.range 5).all fun sc => chkS many sc (toD (pilE 6 39 (.fig c))) (true)) = true := by rcases hm with rfl | rfl <;> decide +kernel
  exact List.all_eq_true.mp (List.all_eq_true.mp k c hc) sc (List.mem_range.mpr h5)
theorem cp1 {many sc : Nat} {c : Int} (hm : many = 2 ∨ many = 3) (h5 : sc < 5) (hc : c ∈ fourC) : chkS many sc (.tuple [.str "times", .int 1, toD (pilE 6 39 (.fig c))]) (true) = true := by
  have k : (fourC.all fun c => (List.range 5).all fun sc => chkS many sc (.tuple [.str "times", .int 1, toD (pilE 6 39 (.fig c))]) (true)) = true := by rcases hm with rfl | rfl <;> decide +kernel
  exact List.all_eq_true.mp (List.all_eq_true.mp k c hc) sc (List.mem_range.mpr h5)
theorem cp2 {many sc : Nat} {c : Int} (hm : many = 2 ∨ many = 3) (h5 : sc < 5) (hc : c ∈ fourC) : chkS many sc (.tuple [.str "times", .int 0, .tuple [.str "times", .int 1, toD (pilE 6 39 (.fig c))]]) (false) = true := by
  have k : (fourC.all fun c => (List.range 5).all fun sc => chkS many sc (.tuple [.str "times", .int 0, .tuple [.str "times", .int 1, toD (pilE 6 39 (.fig c))]]) (false)) = true := by rcases hm with rfl | rfl <;> decide +kernel
  exact List.all_eq_true.mp (List.all_eq_true.mp k c hc) sc (List.mem_range.mpr h5)
end NG

set_option maxHeartbeats 16000000
namespace NG
open PySem PySem.Spec PyProof.Rows L2
section
variable {P : Program} {w : World} {K : PySem.W.Frag} {mg : Str → Option Value} {base : Heap}
theorem ok_exprc {f : Addr} {fd : FuncData} (F : Fun K "_law_expressions" "_law_expressions" s_L_expressions f fd) (gF : mg "_law_expressions" = some (.ref f)) (b : Binds K fd ["_law_hand_here", "_law_wide"] []) (B : Bl mg) (c_L_of : Cal P w K mg base 2 "_law_of" (spOf K)) (c_L_piled : Cal P w K mg base 7 "_law_piled" (spPiled K 6)) (c_L_part : Cal P w K mg base 1 "_law_part" (spSetT K)) : Cal P w K mg base 8 "_law_expressions" (spExprC K) := by
  refine ⟨f, fd, _, F.ok sc_L_expressions (fun vs H Q E h => ?_) (fun cdv A outer s H vs Q E hr h => ?_), gF, F.kp, b⟩
  · obtain ⟨_, _, _, _, rfl, _⟩ := h
    rfl
  · obtain ⟨a, many, sc, n, rfl, hm, h5, hh, hn, q⟩ := h
    refine ⟨_, (pss_cons (ps_set (i := 2) sc_L_expressions.nd rfl (.inl rfl) (pe_tup (pa_cons pe_str (pa_cons (pe_c c_L_of hr (by omega) (by rfl) (pa_cons (pv 0) (pa_cons (pe_lst (pa_cons pe_int (pa_cons pe_int (pa_cons (pe_un un_neg pe_int) (pa_cons pe_int pa_nil))))) pa_nil))) pa_nil)))) (pss_cons (ps_set (i := 3) sc_L_expressions.nd rfl (.inl rfl) (pe_lst (pa_cons (pe_tup (pa_cons (pe_c c_L_piled hr (by omega) (by rfl) (pa_cons (pv 2) (pa_cons pe_int pa_nil))) (pa_cons pe_bl pa_nil))) (pa_cons (pe_tup (pa_cons (pe_tup (pa_cons pe_str (pa_cons pe_int (pa_cons (pe_c c_L_piled hr (by omega) (by rfl) (pa_cons (pv 2) (pa_cons pe_int pa_nil))) pa_nil)))) (pa_cons pe_bl pa_nil))) pa_nil)))) (pss_cons (ps_expr (pe_bm PySem.F.plainAttrs_list PySem.F.slot_list_append PySem.F.type_list_append mt_append (pv 3) (pa_cons (pe_tup (pa_cons (pe_tup (pa_cons pe_str (pa_cons pe_int (pa_cons (pe_tup (pa_cons pe_str (pa_cons pe_int (pa_cons (pe_c c_L_piled hr (by omega) (by rfl) (pa_cons (pv 2) (pa_cons pe_int pa_nil))) pa_nil)))) pa_nil)))) (pa_cons pe_bl pa_nil))) pa_nil))) (pss_cons (ps_set (i := 4) sc_L_expressions.nd rfl (.inl rfl) (pv 2)) (pss_cons (ps_for PassesOwn.never rfl (pi_range1 rfl B.range (pa_cons pe_int pa_nil)) (pg_name (i := 5) sc_L_expressions.nd rfl (.inl rfl)) (pss_one (ps_set (i := 4) sc_L_expressions.nd rfl (.inl rfl) (pe_c c_L_of hr (by omega) (by rfl) (pa_cons (pv 0) (pa_cons (pe_lst (pa_cons (pe_tup (pa_cons pe_str (pa_cons pe_int (pa_cons (pv 4) pa_nil)))) (pa_cons (pe_tup (pa_cons pe_str (pa_cons (pv 2) (pa_cons (pv 4) pa_nil)))) (pa_cons (pe_tup (pa_cons pe_str (pa_cons (pv 4) (pa_cons (pv 2) pa_nil)))) pa_nil)))) pa_nil)))))) (pss_cons (ps_set (i := 3) sc_L_expressions.nd rfl (.inl rfl) (pe_op op_cat (pv 3) (pe_lst (pa_cons (pe_tup (pa_cons (pv 4) (pa_cons pe_bl pa_nil))) (pa_cons (pe_tup (pa_cons (pe_tup (pa_cons pe_str (pa_cons pe_int (pa_cons (pv 4) pa_nil)))) (pa_cons pe_bl pa_nil))) pa_nil))))) (pss_cons (ps_for PassesOwn.never rfl (pi_tup (pe_tup (pa_cons (pe_tup (pa_cons pe_str (pa_cons pe_int (pa_cons (pe_tup (pa_cons (pe_un un_neg pe_int) (pa_cons pe_int pa_nil))) (pa_cons (pe_tup (pa_cons (pe_un un_neg pe_int) (pa_cons pe_int pa_nil))) pa_nil))))) (pa_cons (pe_tup (pa_cons pe_str (pa_cons pe_int (pa_cons (pe_tup (pa_cons pe_int (pa_cons pe_int pa_nil))) (pa_cons (pe_tup (pa_cons (pe_un un_neg pe_int) (pa_cons pe_int pa_nil))) pa_nil))))) (pa_cons (pe_tup (pa_cons pe_str (pa_cons pe_int (pa_cons (pe_tup (pa_cons (pe_un un_neg pe_int) (pa_cons pe_int pa_nil))) (pa_cons (pe_tup (pa_cons (pe_un un_neg pe_int) (pa_cons pe_int pa_nil))) pa_nil))))) (pa_cons (pe_tup (pa_cons pe_str (pa_cons pe_int (pa_cons (pe_tup (pa_cons pe_int (pa_cons (pe_op op_sub (pv 1) pe_int) pa_nil))) (pa_cons (pe_tup (pa_cons (pe_un un_neg pe_int) (pa_cons (pv 1) pa_nil))) pa_nil))))) (pa_cons (pe_tup (pa_cons pe_str (pa_cons pe_int (pa_cons (pe_tup (pa_cons pe_int (pa_cons pe_int pa_nil))) (pa_cons (pe_tup (pa_cons pe_int (pa_cons pe_int pa_nil))) pa_nil))))) (pa_cons (pe_tup (pa_cons pe_str (pa_cons pe_int (pa_cons (pe_tup (pa_cons pe_int (pa_cons pe_int pa_nil))) (pa_cons (pe_tup (pa_cons (pe_un un_neg pe_int) (pa_cons pe_int pa_nil))) pa_nil))))) pa_nil)))))))) (pg_tup rfl (pgs_cons (pg_name (i := 6) sc_L_expressions.nd rfl (.inl rfl)) (pgs_cons (pg_name (i := 7) sc_L_expressions.nd rfl (.inr rfl)) (pgs_cons (pg_name (i := 8) sc_L_expressions.nd rfl (.inl rfl)) (pgs_cons (pg_name (i := 9) sc_L_expressions.nd rfl (.inl rfl)) pgs_nil))))) (pss_cons (ps_set (i := 10) sc_L_expressions.nd rfl (.inl rfl) (pe_tup (pa_cons pe_str (pa_cons pe_int pa_nil)))) (pss_cons (ps_set (i := 11) sc_L_expressions.nd rfl (.inr rfl) (pe_dget2 (hu_of hr) (pe_disp (pps_cons pe_str (pe_tup (pa_cons (pv 6) (pa_cons pe_int (pa_cons (pv 10) pa_nil)))) (pps_cons pe_str (pe_tup (pa_cons (pv 6) (pa_cons pe_int (pa_cons (pv 10) pa_nil)))) pps_nil)) (by rfl) (by rfl) (by simp) (by decide)) (pv 6) (pe_tup (pa_cons (pv 6) (pa_cons pe_int (pa_cons pe_int (pa_cons (pv 10) (pa_cons (pv 2) pa_nil)))))) ⟨by rfl, by rfl, by rfl, by rfl⟩)) (pss_cons (ps_set (i := 3) sc_L_expressions.nd rfl (.inl rfl) (pe_op op_cat (pv 3) (pe_lc (own := [("_law_number", 12)]) rfl sc_L_expressions.nd (pi_tup (pv 8)) (blkOk_by (N := N_L_expressions) (sc := defScope s_L_expressions) (by decide +kernel)) (fun _ _ _ _ _ => pg_name (i := 12) sc_L_expressions.nd rfl (.inl rfl)) (fun _ _ _ _ _ => pts_nil) (fun _ _ _ _ _ => pe_tup (pa_cons (pe_c c_L_part hr (by omega) (by rfl) (pa_cons (pv 11) (pa_cons (pv 7) (pa_cons (pv 12) pa_nil)))) (pa_cons pe_bl pa_nil)))))) (pss_one (ps_set (i := 3) sc_L_expressions.nd rfl (.inl rfl) (pe_op op_cat (pv 3) (pe_lc (own := [("_law_number", 12)]) rfl sc_L_expressions.nd (pi_tup (pv 9)) (blkOk_by (N := N_L_expressions) (sc := defScope s_L_expressions) (by decide +kernel)) (fun _ _ _ _ _ => pg_name (i := 12) sc_L_expressions.nd rfl (.inl rfl)) (fun _ _ _ _ _ => pts_nil) (fun _ _ _ _ _ => pe_tup (pa_cons (pe_c c_L_part hr (by omega) (by rfl) (pa_cons (pv 11) (pa_cons (pv 7) (pa_cons (pv 12) pa_nil)))) (pa_cons pe_bl pa_nil))))))))))) (pss_one (ps_ret (pe_op op_cat (pv 3) (pe_lst (pa_cons (pe_tup (pa_cons (pe_tup (pa_cons pe_str (pa_cons pe_int pa_nil))) (pa_cons pe_bl pa_nil))) (pa_cons (pe_tup (pa_cons (pe_tup (pa_cons pe_str (pa_cons (pe_un un_neg pe_int) pa_nil))) (pa_cons pe_bl pa_nil))) (pa_cons (pe_tup (pa_cons (pe_tup (pa_cons pe_str (pa_cons (pv 1) pa_nil))) (pa_cons pe_bl pa_nil))) (pa_cons (pe_tup (pa_cons (pe_tup (pa_cons pe_str (pa_cons pe_int pa_nil))) (pa_cons pe_bl pa_nil))) pa_nil))))))))))))))), ?_⟩
    refine ⟨.ref a, rfl, 1, rfl, (by show 4 ≤ sizeLine; decide), fun l0 m0 => ?_⟩
    refine ⟨a, l0, _, _, rfl, (hh.ne m0).symm, upd_same, (by show 0 < 4; decide), (by show 4 ≤ 1000; decide), hh.new m0, by omega, fun H1 v1 b1 hh1 hv1 => ?_⟩
    obtain ⟨c, rfl, hc⟩ : ∃ c : Int, v1 = .int c ∧ c ∈ fourC := by
      have hv1 : v1 ∈ ([.int 1, .int 0, .int (-1), .int 500] : List V) := hv1
      simp only [List.mem_cons, List.not_mem_nil, or_false] at hv1
      rcases hv1 with rfl | rfl | rfl | rfl <;> exact ⟨_, rfl, by simp [fourC]⟩
    have b01 := (But.new m0).trans b1
    have S := Same.refl H1
    refine ⟨(by show 2 ≤ sizeLine; decide), fun p11 n11 => ?_⟩
    have s11 := same_new (o := .tup [V.str "fig", V.int c]) n11
    have d11 : Dp K (upd H1 p11 (.tup [V.str "fig", V.int c])) (.ref p11) (.tuple [.str "fig", .int c]) := .tup (SqT.of upd_same) (.cons (.str _) (.cons (.int _) .nil))
    have S := S.trans s11
    generalize upd H1 p11 (.tup [V.str "fig", V.int c]) = H11 at d11 S ⊢
    clear s11
    have dsmall : Dp K H11 (V.ref p11) (toD (.fig c)) := d11
    have t_dsmall : tpo (toD (.fig c)) = true := rfl
    clear d11
    refine ⟨_, rfl, _, .fig c, 39, rfl, by decide, by decide, dsmall, fun H12 u12 s12 d12 => ?_⟩
    have dsmall := dp_same s12 dsmall
    have S := S.trans s12
    clear s12
    refine ⟨(by show 2 ≤ sizeLine; decide), fun p13 n13 => ?_⟩
    have s13 := same_new (o := .tup [u12, V.bl true]) n13
    have d13 : Dp K (upd H12 p13 (.tup [u12, V.bl true])) (.ref p13) (.tuple [toD (pilE 6 39 (.fig c)), .bool true]) := .tup (SqT.of upd_same) (.cons (dp_same s13 d12) (.cons (.bl _) .nil))
    have dsmall := dp_same s13 dsmall
    have S := S.trans s13
    generalize upd H12 p13 (.tup [u12, V.bl true]) = H13 at d13 dsmall S ⊢
    clear s13
    refine ⟨_, rfl, _, .fig c, 39, rfl, by decide, by decide, dsmall, fun H14 u14 s14 d14 => ?_⟩
    have dsmall := dp_same s14 dsmall
    have d13 := dp_same s14 d13
    have S := S.trans s14
    clear s14
    refine ⟨(by show 3 ≤ sizeLine; decide), fun p15 n15 => ?_⟩
    have s15 := same_new (o := .tup [V.str "times", V.int 1, u14]) n15
    have d15 : Dp K (upd H14 p15 (.tup [V.str "times", V.int 1, u14])) (.ref p15) (.tuple [.str "times", .int 1, toD (pilE 6 39 (.fig c))]) := .tup (SqT.of upd_same) (.cons (.str _) (.cons (.int _) (.cons (dp_same s15 d14) .nil)))
    have dsmall := dp_same s15 dsmall
    have d13 := dp_same s15 d13
    have S := S.trans s15
    generalize upd H14 p15 (.tup [V.str "times", V.int 1, u14]) = H15 at d15 dsmall d13 S ⊢
    clear s15
    refine ⟨(by show 2 ≤ sizeLine; decide), fun p16 n16 => ?_⟩
    have s16 := same_new (o := .tup [V.ref p15, V.bl true]) n16
    have d16 : Dp K (upd H15 p16 (.tup [V.ref p15, V.bl true])) (.ref p16) (.tuple [.tuple [.str "times", .int 1, toD (pilE 6 39 (.fig c))], .bool true]) := .tup (SqT.of upd_same) (.cons (dp_same s16 d15) (.cons (.bl _) .nil))
    have dsmall := dp_same s16 dsmall
    have d13 := dp_same s16 d13
    have S := S.trans s16
    generalize upd H15 p16 (.tup [V.ref p15, V.bl true]) = H16 at d16 dsmall d13 S ⊢
    clear s16
    refine ⟨(by show 2 ≤ sizeLine; decide), fun p17 n17 => ?_⟩
    have s17 := same_new (o := .lst [V.ref p13, V.ref p16]) n17
    have hn17 := S.free n17
    have hl17 : (upd H16 p17 (.lst [V.ref p13, V.ref p16])) p17 = some (.lst [V.ref p13, V.ref p16]) := upd_same
    have cl17 : ∀ v ∈ ([V.ref p13, V.ref p16] : List V), CaseS K many sc (upd H16 p17 (.lst [V.ref p13, V.ref p16])) v := fun v hv => by
      simp only [List.mem_cons, List.not_mem_nil, or_false] at hv
      rcases hv with rfl | rfl
      · exact mk_case (cp0 hm h5 hc) (dp_same s17 d13)
      · exact mk_case (cp1 hm h5 hc) (dp_same s17 d16)
    have dsmall := dp_same s17 dsmall
    have S := S.trans s17
    generalize upd H16 p17 (.lst [V.ref p13, V.ref p16]) = H17 at hl17 cl17 dsmall S ⊢
    clear s17
    have hu17 : ([V.ref p13, V.ref p16] : List V).length ≤ 2 := by show 2 ≤ 2; decide
    generalize ([V.ref p13, V.ref p16] : List V) = us17 at hl17 cl17 hu17
    refine ⟨_, rfl, .inl ⟨rfl, _, SqL.of hl17⟩, ?_⟩
    refine ⟨_, rfl, _, .fig c, 39, rfl, by decide, by decide, dsmall, fun H18 u18 s18 d18 => ?_⟩
    have dsmall := dp_same s18 dsmall
    have hl17 := s18 _ _ hl17
    have cl17 := fun v hv => (cl17 v hv).same s18
    have S := S.trans s18
    clear s18
    refine ⟨(by show 3 ≤ sizeLine; decide), fun p19 n19 => ?_⟩
    have s19 := same_new (o := .tup [V.str "times", V.int 1, u18]) n19
    have d19 : Dp K (upd H18 p19 (.tup [V.str "times", V.int 1, u18])) (.ref p19) (.tuple [.str "times", .int 1, toD (pilE 6 39 (.fig c))]) := .tup (SqT.of upd_same) (.cons (.str _) (.cons (.int _) (.cons (dp_same s19 d18) .nil)))
    have dsmall := dp_same s19 dsmall
    have hl17 := s19 _ _ hl17
    have cl17 := fun v hv => (cl17 v hv).same s19
    have S := S.trans s19
    generalize upd H18 p19 (.tup [V.str "times", V.int 1, u18]) = H19 at d19 dsmall hl17 cl17 S ⊢
    clear s19
    refine ⟨(by show 3 ≤ sizeLine; decide), fun p20 n20 => ?_⟩
    have s20 := same_new (o := .tup [V.str "times", V.int 0, V.ref p19]) n20
    have d20 : Dp K (upd H19 p20 (.tup [V.str "times", V.int 0, V.ref p19])) (.ref p20) (.tuple [.str "times", .int 0, .tuple [.str "times", .int 1, toD (pilE 6 39 (.fig c))]]) := .tup (SqT.of upd_same) (.cons (.str _) (.cons (.int _) (.cons (dp_same s20 d19) .nil)))
    have dsmall := dp_same s20 dsmall
    have hl17 := s20 _ _ hl17
    have cl17 := fun v hv => (cl17 v hv).same s20
    have S := S.trans s20
    generalize upd H19 p20 (.tup [V.str "times", V.int 0, V.ref p19]) = H20 at d20 dsmall hl17 cl17 S ⊢
    clear s20
    refine ⟨(by show 2 ≤ sizeLine; decide), fun p21 n21 => ?_⟩
    have s21 := same_new (o := .tup [V.ref p20, V.bl false]) n21
    have d21 : Dp K (upd H20 p21 (.tup [V.ref p20, V.bl false])) (.ref p21) (.tuple [.tuple [.str "times", .int 0, .tuple [.str "times", .int 1, toD (pilE 6 39 (.fig c))]], .bool false]) := .tup (SqT.of upd_same) (.cons (dp_same s21 d20) (.cons (.bl _) .nil))
    have dsmall := dp_same s21 dsmall
    have hl17 := s21 _ _ hl17
    have cl17 := fun v hv => (cl17 v hv).same s21
    have S := S.trans s21
    generalize upd H20 p21 (.tup [V.ref p20, V.bl false]) = H21 at d21 dsmall hl17 cl17 S ⊢
    clear s21
    refine ⟨p17, _, _, rfl, rfl, hl17, small1000 (by omega), ?_⟩
    have hl22 : (upd H21 p17 (.lst (us17 ++ [V.ref p21]))) p17 = some (.lst (us17 ++ [V.ref p21])) := upd_same
    have cl22 : ∀ v ∈ us17 ++ [V.ref p21], CaseS K many sc (upd H21 p17 (.lst (us17 ++ [V.ref p21]))) v := fun v hv => (List.mem_append.mp hv).elim (fun h => (cl17 v h).put hl17) (fun h => by rw [List.mem_singleton.mp h]; exact CaseS.put (mk_case (cp2 hm h5 hc) d21) hl17)
    have hu22 : (us17 ++ [V.ref p21]).length ≤ 3 := by rw [List.length_append]; show us17.length + 1 ≤ 3; omega
    have dsmall := dp_imp (fun _ _ h => put_sqt (us' := (us17 ++ [V.ref p21])) hl17 h) t_dsmall dsmall
    have S := put_new (o := .lst (us17 ++ [V.ref p21])) hn17 S
    generalize upd H21 p17 (.lst (us17 ++ [V.ref p21])) = H22 at hl22 cl22 dsmall S ⊢
    generalize us17 ++ [V.ref p21] = us22 at hl22 cl22 hu22
    clear hl17 cl17 hu17
    have hh2 := hh1.same S
    have nls : p17 ≠ a := (hh1.ne hn17)
    have b02 : But a H H22 := b01.trans (But.of S)
    refine ⟨_, rfl, ?_⟩
    refine ⟨7, rfl, by decide, by decide, ?_⟩
    refine for_range (n := (7 : Int).toNat) (fun i σ H' => ∃ (dv : V) (e : Ex) (y5 : Option V), σ = [some (.ref a), some (.int (many : Int)), some (.ref p11), some (.ref p17), some dv, y5, none, none, none, none, none, none, none] ∧ But a H22 H' ∧ HandAt H' a (n + 1 + i) ∧ Dp K H' dv (toD e) ∧ DeepOk many i e) ⟨.ref p11, .fig c, none, rfl, fun _ _ _ h => h, hh2, dsmall, deep_zero hc⟩ ?_ ?_
    · rintro i σ H4 hi ⟨dv, e, y5, rfl, b4, hh4, ddv, he⟩
      have hi7 : i < 7 := hi
      have dsm := dp_but b4 hh2 t_dsmall dsmall
      have S := Same.refl H4
      refine ⟨.ref a, rfl, ?_⟩
      refine ⟨_, rfl, ?_⟩
      refine ⟨(by show 3 ≤ sizeLine; decide), fun p201 n201 => ?_⟩
      have s201 := same_new (o := .tup [V.str "times", V.int 1, dv]) n201
      have d201 : Dp K (upd H4 p201 (.tup [V.str "times", V.int 1, dv])) (.ref p201) (.tuple [.str "times", .int 1, toD e]) := .tup (SqT.of upd_same) (.cons (.str _) (.cons (.int _) (.cons (dp_same s201 ddv) .nil)))
      have ddv := dp_same s201 ddv
      have dsm := dp_same s201 dsm
      have S := S.trans s201
      generalize upd H4 p201 (.tup [V.str "times", V.int 1, dv]) = H201 at d201 ddv dsm S ⊢
      clear s201
      refine ⟨_, rfl, ?_⟩
      refine ⟨_, rfl, ?_⟩
      refine ⟨(by show 3 ≤ sizeLine; decide), fun p202 n202 => ?_⟩
      have s202 := same_new (o := .tup [V.str "least", V.ref p11, dv]) n202
      have d202 : Dp K (upd H201 p202 (.tup [V.str "least", V.ref p11, dv])) (.ref p202) (.tuple [.str "least", toD (.fig c), toD e]) := .tup (SqT.of upd_same) (.cons (.str _) (.cons (dp_same s202 dsm) (.cons (dp_same s202 ddv) .nil)))
      have ddv := dp_same s202 ddv
      have dsm := dp_same s202 dsm
      have d201 := dp_same s202 d201
      have S := S.trans s202
      generalize upd H201 p202 (.tup [V.str "least", V.ref p11, dv]) = H202 at d202 ddv dsm d201 S ⊢
      clear s202
      refine ⟨_, rfl, ?_⟩
      refine ⟨_, rfl, ?_⟩
      refine ⟨(by show 3 ≤ sizeLine; decide), fun p203 n203 => ?_⟩
      have s203 := same_new (o := .tup [V.str "most", dv, V.ref p11]) n203
      have d203 : Dp K (upd H202 p203 (.tup [V.str "most", dv, V.ref p11])) (.ref p203) (.tuple [.str "most", toD e, toD (.fig c)]) := .tup (SqT.of upd_same) (.cons (.str _) (.cons (dp_same s203 ddv) (.cons (dp_same s203 dsm) .nil)))
      have ddv := dp_same s203 ddv
      have dsm := dp_same s203 dsm
      have d201 := dp_same s203 d201
      have d202 := dp_same s203 d202
      have S := S.trans s203
      generalize upd H202 p203 (.tup [V.str "most", dv, V.ref p11]) = H203 at d203 ddv dsm d201 d202 S ⊢
      clear s203
      refine ⟨(by show 3 ≤ sizeLine; decide), fun l1 m1 => ?_⟩
      have s1 := same_new (o := .lst [V.ref p201, V.ref p202, V.ref p203]) m1
      have hl1 : (upd H203 l1 (.lst [V.ref p201, V.ref p202, V.ref p203])) l1 = some (.lst [V.ref p201, V.ref p202, V.ref p203]) := upd_same
      have d201 := dp_same s1 d201
      have d202 := dp_same s1 d202
      have d203 := dp_same s1 d203
      have hn1 := S.free m1
      have S := S.trans s1
      have hh5 := hh4.same S
      refine ⟨a, l1, _, _, rfl, (hh4.ne hn1).symm, hl1, (by show 0 < 3; decide), (by show 3 ≤ 1000; decide), hh5, by omega, fun H6 v6 b6 hh6 hv6 => ?_⟩
      obtain ⟨e6, d6, he6, t6⟩ : ∃ e6, Dp K _ v6 (toD e6) ∧ DeepOk many (i + 1) e6 ∧ tpo (toD e6) = true := by
        have hv6 : v6 ∈ ([V.ref p201, V.ref p202, V.ref p203] : List V) := hv6
        simp only [List.mem_cons, List.not_mem_nil, or_false] at hv6
        rcases hv6 with rfl | rfl | rfl
        · exact ⟨.times 1 e, d201, deep_times hc he, tpo_ex _⟩
        · exact ⟨.two .least (.fig c) e, d202, deep_least hc he, tpo_ex _⟩
        · exact ⟨.two .most e (.fig c), d203, deep_most hc he, tpo_ex _⟩
      exact ⟨v6, e6, _, rfl, (b4.trans (But.of S)).trans b6, hh6.le (by omega), dp_but b6 hh5 t6 d6, he6⟩
    rintro σ H4 ⟨dv, e, y5, rfl, b4, hh4, ddv, he⟩
    have he : DeepOk many 7 e := he
    have dsmall := dp_but b4 hh2 t_dsmall dsmall
    have hl := b4 _ _ nls hl22
    have cl : ∀ v ∈ us22, CaseS K many sc H4 v := fun v hv => (cl22 v hv).imp fun _ _ h => b4.sq hh2 h
    have b04 := b02.trans b4
    have t_ddv := tpo_ex e
    have S := Same.refl H4
    refine ⟨_, rfl, ?_⟩
    refine ⟨_, rfl, ?_⟩
    refine ⟨(by show 2 ≤ sizeLine; decide), fun p251 n251 => ?_⟩
    have s251 := same_new (o := .tup [dv, V.bl true]) n251
    have d251 : Dp K (upd H4 p251 (.tup [dv, V.bl true])) (.ref p251) (.tuple [toD e, .bool true]) := .tup (SqT.of upd_same) (.cons (dp_same s251 ddv) (.cons (.bl _) .nil))
    have dsmall := dp_same s251 dsmall
    have ddv := dp_same s251 ddv
    have hl := s251 _ _ hl
    have cl := fun v hv => (cl v hv).same s251
    have S := S.trans s251
    generalize upd H4 p251 (.tup [dv, V.bl true]) = H251 at d251 dsmall ddv hl cl S ⊢
    clear s251
    refine ⟨_, rfl, ?_⟩
    refine ⟨(by show 3 ≤ sizeLine; decide), fun p252 n252 => ?_⟩
    have s252 := same_new (o := .tup [V.str "times", V.int 1, dv]) n252
    have d252 : Dp K (upd H251 p252 (.tup [V.str "times", V.int 1, dv])) (.ref p252) (.tuple [.str "times", .int 1, toD e]) := .tup (SqT.of upd_same) (.cons (.str _) (.cons (.int _) (.cons (dp_same s252 ddv) .nil)))
    have dsmall := dp_same s252 dsmall
    have ddv := dp_same s252 ddv
    have d251 := dp_same s252 d251
    have hl := s252 _ _ hl
    have cl := fun v hv => (cl v hv).same s252
    have S := S.trans s252
    generalize upd H251 p252 (.tup [V.str "times", V.int 1, dv]) = H252 at d252 dsmall ddv d251 hl cl S ⊢
    clear s252
    refine ⟨(by show 2 ≤ sizeLine; decide), fun p253 n253 => ?_⟩
    have s253 := same_new (o := .tup [V.ref p252, V.bl false]) n253
    have d253 : Dp K (upd H252 p253 (.tup [V.ref p252, V.bl false])) (.ref p253) (.tuple [.tuple [.str "times", .int 1, toD e], .bool false]) := .tup (SqT.of upd_same) (.cons (dp_same s253 d252) (.cons (.bl _) .nil))
    have dsmall := dp_same s253 dsmall
    have ddv := dp_same s253 ddv
    have d251 := dp_same s253 d251
    have hl := s253 _ _ hl
    have cl := fun v hv => (cl v hv).same s253
    have S := S.trans s253
    generalize upd H252 p253 (.tup [V.ref p252, V.bl false]) = H253 at d253 dsmall ddv d251 hl cl S ⊢
    clear s253
    refine ⟨(by show 2 ≤ sizeLine; decide), fun p254 n254 => ?_⟩
    have s254 := same_new (o := .lst [V.ref p251, V.ref p253]) n254
    have hn254 := S.free n254
    have hl254 : (upd H253 p254 (.lst [V.ref p251, V.ref p253])) p254 = some (.lst [V.ref p251, V.ref p253]) := upd_same
    have cl254 : ∀ v ∈ ([V.ref p251, V.ref p253] : List V), CaseS K many sc (upd H253 p254 (.lst [V.ref p251, V.ref p253])) v := fun v hv => by
      simp only [List.mem_cons, List.not_mem_nil, or_false] at hv
      rcases hv with rfl | rfl
      · exact mk_caseE (sc := sc) (e := e) (due := true) (hgood h5 he) (dp_same s254 d251)
      · exact mk_caseE (sc := sc) (e := .times 1 e) (due := false) (hbad h5 he) (dp_same s254 d253)
    have dsmall := dp_same s254 dsmall
    have ddv := dp_same s254 ddv
    have hl := s254 _ _ hl
    have cl := fun v hv => (cl v hv).same s254
    have S := S.trans s254
    generalize upd H253 p254 (.lst [V.ref p251, V.ref p253]) = H254 at hl254 cl254 dsmall ddv hl cl S ⊢
    clear s254
    refine ⟨p17, p254, us22, [V.ref p251, V.ref p253], rfl, rfl, hl, hl254, (Nat.le_of_lt (small1000 (by show us22.length + 2 ≤ 1000; omega))), fun p255 n255 => ?_⟩
    have s255 := same_new (o := .lst (us22 ++ [V.ref p251, V.ref p253])) n255
    have hn255 := S.free n255
    have hl255 : (upd H254 p255 (.lst (us22 ++ [V.ref p251, V.ref p253]))) p255 = some (.lst (us22 ++ [V.ref p251, V.ref p253])) := upd_same
    have cl255 : ∀ v ∈ us22 ++ [V.ref p251, V.ref p253], CaseS K many sc (upd H254 p255 (.lst (us22 ++ [V.ref p251, V.ref p253]))) v := fun v hv => (List.mem_append.mp hv).elim (fun h => (cl v h).same s255) (fun h => (cl254 v h).same s255)
    have hu255 : (us22 ++ [V.ref p251, V.ref p253]).length ≤ 5 := by rw [List.length_append]; show us22.length + 2 ≤ 5; omega
    have dsmall := dp_same s255 dsmall
    have ddv := dp_same s255 ddv
    have S := S.trans s255
    generalize upd H254 p255 (.lst (us22 ++ [V.ref p251, V.ref p253])) = H255 at hl255 cl255 dsmall ddv S ⊢
    clear s255
    generalize us22 ++ [V.ref p251, V.ref p253] = us255 at hl255 cl255 hu255
    clear hl cl hu22 hl254 cl254
    refine ⟨_, rfl, ?_⟩
    refine ⟨(by show 2 ≤ sizeLine; decide), fun p256 n256 => ?_⟩
    have s256 := same_new (o := .tup [V.int (-9), V.int 9]) n256
    have d256 : Dp K (upd H255 p256 (.tup [V.int (-9), V.int 9])) (.ref p256) (.tuple [.int (-9), .int 9]) := .tup (SqT.of upd_same) (.cons (.int _) (.cons (.int _) .nil))
    have dsmall := dp_same s256 dsmall
    have ddv := dp_same s256 ddv
    have hl255 := s256 _ _ hl255
    have cl255 := fun v hv => (cl255 v hv).same s256
    have S := S.trans s256
    generalize upd H255 p256 (.tup [V.int (-9), V.int 9]) = H256 at d256 dsmall ddv hl255 cl255 S ⊢
    clear s256
    refine ⟨_, rfl, ?_⟩
    refine ⟨(by show 2 ≤ sizeLine; decide), fun p257 n257 => ?_⟩
    have s257 := same_new (o := .tup [V.int (-10), V.int 10]) n257
    have d257 : Dp K (upd H256 p257 (.tup [V.int (-10), V.int 10])) (.ref p257) (.tuple [.int (-10), .int 10]) := .tup (SqT.of upd_same) (.cons (.int _) (.cons (.int _) .nil))
    have dsmall := dp_same s257 dsmall
    have ddv := dp_same s257 ddv
    have d256 := dp_same s257 d256
    have hl255 := s257 _ _ hl255
    have cl255 := fun v hv => (cl255 v hv).same s257
    have S := S.trans s257
    generalize upd H256 p257 (.tup [V.int (-10), V.int 10]) = H257 at d257 dsmall ddv d256 hl255 cl255 S ⊢
    clear s257
    refine ⟨(by show 4 ≤ sizeLine; decide), fun p258 n258 => ?_⟩
    have s258 := same_new (o := .tup [V.str "times", V.int 1, V.ref p256, V.ref p257]) n258
    have d258 : Dp K (upd H257 p258 (.tup [V.str "times", V.int 1, V.ref p256, V.ref p257])) (.ref p258) (.tuple [.str "times", .int 1, .tuple [.int (-9), .int 9], .tuple [.int (-10), .int 10]]) := .tup (SqT.of upd_same) (.cons (.str _) (.cons (.int _) (.cons (dp_same s258 d256) (.cons (dp_same s258 d257) .nil))))
    have dsmall := dp_same s258 dsmall
    have ddv := dp_same s258 ddv
    have hl255 := s258 _ _ hl255
    have cl255 := fun v hv => (cl255 v hv).same s258
    have S := S.trans s258
    generalize upd H257 p258 (.tup [V.str "times", V.int 1, V.ref p256, V.ref p257]) = H258 at d258 dsmall ddv hl255 cl255 S ⊢
    clear s258
    refine ⟨(by show 2 ≤ sizeLine; decide), fun p259 n259 => ?_⟩
    have s259 := same_new (o := .tup [V.int 0, V.int 3]) n259
    have d259 : Dp K (upd H258 p259 (.tup [V.int 0, V.int 3])) (.ref p259) (.tuple [.int 0, .int 3]) := .tup (SqT.of upd_same) (.cons (.int _) (.cons (.int _) .nil))
    have dsmall := dp_same s259 dsmall
    have ddv := dp_same s259 ddv
    have d258 := dp_same s259 d258
    have hl255 := s259 _ _ hl255
    have cl255 := fun v hv => (cl255 v hv).same s259
    have S := S.trans s259
    generalize upd H258 p259 (.tup [V.int 0, V.int 3]) = H259 at d259 dsmall ddv d258 hl255 cl255 S ⊢
    clear s259
    refine ⟨_, rfl, ?_⟩
    refine ⟨(by show 2 ≤ sizeLine; decide), fun p260 n260 => ?_⟩
    have s260 := same_new (o := .tup [V.int (-1), V.int 4]) n260
    have d260 : Dp K (upd H259 p260 (.tup [V.int (-1), V.int 4])) (.ref p260) (.tuple [.int (-1), .int 4]) := .tup (SqT.of upd_same) (.cons (.int _) (.cons (.int _) .nil))
    have dsmall := dp_same s260 dsmall
    have ddv := dp_same s260 ddv
    have d258 := dp_same s260 d258
    have d259 := dp_same s260 d259
    have hl255 := s260 _ _ hl255
    have cl255 := fun v hv => (cl255 v hv).same s260
    have S := S.trans s260
    generalize upd H259 p260 (.tup [V.int (-1), V.int 4]) = H260 at d260 dsmall ddv d258 d259 hl255 cl255 S ⊢
    clear s260
    refine ⟨(by show 4 ≤ sizeLine; decide), fun p261 n261 => ?_⟩
    have s261 := same_new (o := .tup [V.str "when", V.int 1, V.ref p259, V.ref p260]) n261
    have d261 : Dp K (upd H260 p261 (.tup [V.str "when", V.int 1, V.ref p259, V.ref p260])) (.ref p261) (.tuple [.str "when", .int 1, .tuple [.int 0, .int 3], .tuple [.int (-1), .int 4]]) := .tup (SqT.of upd_same) (.cons (.str _) (.cons (.int _) (.cons (dp_same s261 d259) (.cons (dp_same s261 d260) .nil))))
    have dsmall := dp_same s261 dsmall
    have ddv := dp_same s261 ddv
    have d258 := dp_same s261 d258
    have hl255 := s261 _ _ hl255
    have cl255 := fun v hv => (cl255 v hv).same s261
    have S := S.trans s261
    generalize upd H260 p261 (.tup [V.str "when", V.int 1, V.ref p259, V.ref p260]) = H261 at d261 dsmall ddv d258 hl255 cl255 S ⊢
    clear s261
    refine ⟨_, rfl, ?_⟩
    refine ⟨(by show 2 ≤ sizeLine; decide), fun p262 n262 => ?_⟩
    have s262 := same_new (o := .tup [V.int (-1000), V.int 1000]) n262
    have d262 : Dp K (upd H261 p262 (.tup [V.int (-1000), V.int 1000])) (.ref p262) (.tuple [.int (-1000), .int 1000]) := .tup (SqT.of upd_same) (.cons (.int _) (.cons (.int _) .nil))
    have dsmall := dp_same s262 dsmall
    have ddv := dp_same s262 ddv
    have d258 := dp_same s262 d258
    have d261 := dp_same s262 d261
    have hl255 := s262 _ _ hl255
    have cl255 := fun v hv => (cl255 v hv).same s262
    have S := S.trans s262
    generalize upd H261 p262 (.tup [V.int (-1000), V.int 1000]) = H262 at d262 dsmall ddv d258 d261 hl255 cl255 S ⊢
    clear s262
    refine ⟨_, rfl, ?_⟩
    refine ⟨(by show 2 ≤ sizeLine; decide), fun p263 n263 => ?_⟩
    have s263 := same_new (o := .tup [V.int (-1001), V.int 1001]) n263
    have d263 : Dp K (upd H262 p263 (.tup [V.int (-1001), V.int 1001])) (.ref p263) (.tuple [.int (-1001), .int 1001]) := .tup (SqT.of upd_same) (.cons (.int _) (.cons (.int _) .nil))
    have dsmall := dp_same s263 dsmall
    have ddv := dp_same s263 ddv
    have d258 := dp_same s263 d258
    have d261 := dp_same s263 d261
    have d262 := dp_same s263 d262
    have hl255 := s263 _ _ hl255
    have cl255 := fun v hv => (cl255 v hv).same s263
    have S := S.trans s263
    generalize upd H262 p263 (.tup [V.int (-1001), V.int 1001]) = H263 at d263 dsmall ddv d258 d261 d262 hl255 cl255 S ⊢
    clear s263
    refine ⟨(by show 4 ≤ sizeLine; decide), fun p264 n264 => ?_⟩
    have s264 := same_new (o := .tup [V.str "when", V.int 2, V.ref p262, V.ref p263]) n264
    have d264 : Dp K (upd H263 p264 (.tup [V.str "when", V.int 2, V.ref p262, V.ref p263])) (.ref p264) (.tuple [.str "when", .int 2, .tuple [.int (-1000), .int 1000], .tuple [.int (-1001), .int 1001]]) := .tup (SqT.of upd_same) (.cons (.str _) (.cons (.int _) (.cons (dp_same s264 d262) (.cons (dp_same s264 d263) .nil))))
    have dsmall := dp_same s264 dsmall
    have ddv := dp_same s264 ddv
    have d258 := dp_same s264 d258
    have d261 := dp_same s264 d261
    have hl255 := s264 _ _ hl255
    have cl255 := fun v hv => (cl255 v hv).same s264
    have S := S.trans s264
    generalize upd H263 p264 (.tup [V.str "when", V.int 2, V.ref p262, V.ref p263]) = H264 at d264 dsmall ddv d258 d261 hl255 cl255 S ⊢
    clear s264
    refine ⟨_, rfl, _, _, rfl, rfl, ?_⟩
    refine ⟨(by show 2 ≤ sizeLine; decide), fun p265 n265 => ?_⟩
    have s265 := same_new (o := .tup [V.int 0, V.int ((many : Int) - 1)]) n265
    have d265 : Dp K (upd H264 p265 (.tup [V.int 0, V.int ((many : Int) - 1)])) (.ref p265) (.tuple [.int 0, .int ((many : Int) - 1)]) := .tup (SqT.of upd_same) (.cons (.int _) (.cons (.int _) .nil))
    have dsmall := dp_same s265 dsmall
    have ddv := dp_same s265 ddv
    have d258 := dp_same s265 d258
    have d261 := dp_same s265 d261
    have d264 := dp_same s265 d264
    have hl255 := s265 _ _ hl255
    have cl255 := fun v hv => (cl255 v hv).same s265
    have S := S.trans s265
    generalize upd H264 p265 (.tup [V.int 0, V.int ((many : Int) - 1)]) = H265 at d265 dsmall ddv d258 d261 d264 hl255 cl255 S ⊢
    clear s265
    refine ⟨_, rfl, ?_⟩
    refine ⟨_, rfl, ?_⟩
    refine ⟨(by show 2 ≤ sizeLine; decide), fun p266 n266 => ?_⟩
    have s266 := same_new (o := .tup [V.int (-1), V.int (many : Int)]) n266
    have d266 : Dp K (upd H265 p266 (.tup [V.int (-1), V.int (many : Int)])) (.ref p266) (.tuple [.int (-1), .int (many : Int)]) := .tup (SqT.of upd_same) (.cons (.int _) (.cons (.int _) .nil))
    have dsmall := dp_same s266 dsmall
    have ddv := dp_same s266 ddv
    have d258 := dp_same s266 d258
    have d261 := dp_same s266 d261
    have d264 := dp_same s266 d264
    have d265 := dp_same s266 d265
    have hl255 := s266 _ _ hl255
    have cl255 := fun v hv => (cl255 v hv).same s266
    have S := S.trans s266
    generalize upd H265 p266 (.tup [V.int (-1), V.int (many : Int)]) = H266 at d266 dsmall ddv d258 d261 d264 d265 hl255 cl255 S ⊢
    clear s266
    refine ⟨(by show 4 ≤ sizeLine; decide), fun p267 n267 => ?_⟩
    have s267 := same_new (o := .tup [V.str "where", V.int 1, V.ref p265, V.ref p266]) n267
    have d267 : Dp K (upd H266 p267 (.tup [V.str "where", V.int 1, V.ref p265, V.ref p266])) (.ref p267) (.tuple [.str "where", .int 1, .tuple [.int 0, .int ((many : Int) - 1)], .tuple [.int (-1), .int (many : Int)]]) := .tup (SqT.of upd_same) (.cons (.str _) (.cons (.int _) (.cons (dp_same s267 d265) (.cons (dp_same s267 d266) .nil))))
    have dsmall := dp_same s267 dsmall
    have ddv := dp_same s267 ddv
    have d258 := dp_same s267 d258
    have d261 := dp_same s267 d261
    have d264 := dp_same s267 d264
    have hl255 := s267 _ _ hl255
    have cl255 := fun v hv => (cl255 v hv).same s267
    have S := S.trans s267
    generalize upd H266 p267 (.tup [V.str "where", V.int 1, V.ref p265, V.ref p266]) = H267 at d267 dsmall ddv d258 d261 d264 hl255 cl255 S ⊢
    clear s267
    refine ⟨(by show 2 ≤ sizeLine; decide), fun p268 n268 => ?_⟩
    have s268 := same_new (o := .tup [V.int 1, V.int 1000]) n268
    have d268 : Dp K (upd H267 p268 (.tup [V.int 1, V.int 1000])) (.ref p268) (.tuple [.int 1, .int 1000]) := .tup (SqT.of upd_same) (.cons (.int _) (.cons (.int _) .nil))
    have dsmall := dp_same s268 dsmall
    have ddv := dp_same s268 ddv
    have d258 := dp_same s268 d258
    have d261 := dp_same s268 d261
    have d264 := dp_same s268 d264
    have d267 := dp_same s268 d267
    have hl255 := s268 _ _ hl255
    have cl255 := fun v hv => (cl255 v hv).same s268
    have S := S.trans s268
    generalize upd H267 p268 (.tup [V.int 1, V.int 1000]) = H268 at d268 dsmall ddv d258 d261 d264 d267 hl255 cl255 S ⊢
    clear s268
    refine ⟨(by show 2 ≤ sizeLine; decide), fun p269 n269 => ?_⟩
    have s269 := same_new (o := .tup [V.int 0, V.int 1001]) n269
    have d269 : Dp K (upd H268 p269 (.tup [V.int 0, V.int 1001])) (.ref p269) (.tuple [.int 0, .int 1001]) := .tup (SqT.of upd_same) (.cons (.int _) (.cons (.int _) .nil))
    have dsmall := dp_same s269 dsmall
    have ddv := dp_same s269 ddv
    have d258 := dp_same s269 d258
    have d261 := dp_same s269 d261
    have d264 := dp_same s269 d264
    have d267 := dp_same s269 d267
    have d268 := dp_same s269 d268
    have hl255 := s269 _ _ hl255
    have cl255 := fun v hv => (cl255 v hv).same s269
    have S := S.trans s269
    generalize upd H268 p269 (.tup [V.int 0, V.int 1001]) = H269 at d269 dsmall ddv d258 d261 d264 d267 d268 hl255 cl255 S ⊢
    clear s269
    refine ⟨(by show 4 ≤ sizeLine; decide), fun p270 n270 => ?_⟩
    have s270 := same_new (o := .tup [V.str "where", V.int 2, V.ref p268, V.ref p269]) n270
    have d270 : Dp K (upd H269 p270 (.tup [V.str "where", V.int 2, V.ref p268, V.ref p269])) (.ref p270) (.tuple [.str "where", .int 2, .tuple [.int 1, .int 1000], .tuple [.int 0, .int 1001]]) := .tup (SqT.of upd_same) (.cons (.str _) (.cons (.int _) (.cons (dp_same s270 d268) (.cons (dp_same s270 d269) .nil))))
    have dsmall := dp_same s270 dsmall
    have ddv := dp_same s270 ddv
    have d258 := dp_same s270 d258
    have d261 := dp_same s270 d261
    have d264 := dp_same s270 d264
    have d267 := dp_same s270 d267
    have hl255 := s270 _ _ hl255
    have cl255 := fun v hv => (cl255 v hv).same s270
    have S := S.trans s270
    generalize upd H269 p270 (.tup [V.str "where", V.int 2, V.ref p268, V.ref p269]) = H270 at d270 dsmall ddv d258 d261 d264 d267 hl255 cl255 S ⊢
    clear s270
    refine ⟨(by show 2 ≤ sizeLine; decide), fun p271 n271 => ?_⟩
    have s271 := same_new (o := .tup [V.int 0, V.int 3]) n271
    have d271 : Dp K (upd H270 p271 (.tup [V.int 0, V.int 3])) (.ref p271) (.tuple [.int 0, .int 3]) := .tup (SqT.of upd_same) (.cons (.int _) (.cons (.int _) .nil))
    have dsmall := dp_same s271 dsmall
    have ddv := dp_same s271 ddv
    have d258 := dp_same s271 d258
    have d261 := dp_same s271 d261
    have d264 := dp_same s271 d264
    have d267 := dp_same s271 d267
    have d270 := dp_same s271 d270
    have hl255 := s271 _ _ hl255
    have cl255 := fun v hv => (cl255 v hv).same s271
    have S := S.trans s271
    generalize upd H270 p271 (.tup [V.int 0, V.int 3]) = H271 at d271 dsmall ddv d258 d261 d264 d267 d270 hl255 cl255 S ⊢
    clear s271
    refine ⟨_, rfl, ?_⟩
    refine ⟨(by show 2 ≤ sizeLine; decide), fun p272 n272 => ?_⟩
    have s272 := same_new (o := .tup [V.int (-1), V.int 4]) n272
    have d272 : Dp K (upd H271 p272 (.tup [V.int (-1), V.int 4])) (.ref p272) (.tuple [.int (-1), .int 4]) := .tup (SqT.of upd_same) (.cons (.int _) (.cons (.int _) .nil))
    have dsmall := dp_same s272 dsmall
    have ddv := dp_same s272 ddv
    have d258 := dp_same s272 d258
    have d261 := dp_same s272 d261
    have d264 := dp_same s272 d264
    have d267 := dp_same s272 d267
    have d270 := dp_same s272 d270
    have d271 := dp_same s272 d271
    have hl255 := s272 _ _ hl255
    have cl255 := fun v hv => (cl255 v hv).same s272
    have S := S.trans s272
    generalize upd H271 p272 (.tup [V.int (-1), V.int 4]) = H272 at d272 dsmall ddv d258 d261 d264 d267 d270 d271 hl255 cl255 S ⊢
    clear s272
    refine ⟨(by show 4 ≤ sizeLine; decide), fun p273 n273 => ?_⟩
    have s273 := same_new (o := .tup [V.str "by", V.int 1, V.ref p271, V.ref p272]) n273
    have d273 : Dp K (upd H272 p273 (.tup [V.str "by", V.int 1, V.ref p271, V.ref p272])) (.ref p273) (.tuple [.str "by", .int 1, .tuple [.int 0, .int 3], .tuple [.int (-1), .int 4]]) := .tup (SqT.of upd_same) (.cons (.str _) (.cons (.int _) (.cons (dp_same s273 d271) (.cons (dp_same s273 d272) .nil))))
    have dsmall := dp_same s273 dsmall
    have ddv := dp_same s273 ddv
    have d258 := dp_same s273 d258
    have d261 := dp_same s273 d261
    have d264 := dp_same s273 d264
    have d267 := dp_same s273 d267
    have d270 := dp_same s273 d270
    have hl255 := s273 _ _ hl255
    have cl255 := fun v hv => (cl255 v hv).same s273
    have S := S.trans s273
    generalize upd H272 p273 (.tup [V.str "by", V.int 1, V.ref p271, V.ref p272]) = H273 at d273 dsmall ddv d258 d261 d264 d267 d270 hl255 cl255 S ⊢
    clear s273
    refine ⟨(by show 6 ≤ sizeLine; decide), fun tp ntp => ⟨tp, rfl, ⟨_, SqT.of upd_same⟩, ?_⟩⟩
    have stp := same_new (o := .tup [V.ref p258, V.ref p261, V.ref p264, V.ref p267, V.ref p270, V.ref p273]) ntp
    have htp : SqT K (upd H273 tp (.tup [V.ref p258, V.ref p261, V.ref p264, V.ref p267, V.ref p270, V.ref p273])) tp [V.ref p258, V.ref p261, V.ref p264, V.ref p267, V.ref p270, V.ref p273] := SqT.of upd_same
    have dxs : ∀ v ∈ ([V.ref p258, V.ref p261, V.ref p264, V.ref p267, V.ref p270, V.ref p273] : List V), ∃ r ∈ rows6 many, Dp K (upd H273 tp (.tup [V.ref p258, V.ref p261, V.ref p264, V.ref p267, V.ref p270, V.ref p273])) v (rowDt r) := fun v hv => by
      simp only [List.mem_cons, List.not_mem_nil, or_false] at hv
      rcases hv with rfl | rfl | rfl | rfl | rfl | rfl
      · exact ⟨(("times", 1, -9, 9, -10, 10) : Row6), by simp [rows6], dp_same stp d258⟩
      · exact ⟨(("when", 1, 0, 3, -1, 4) : Row6), by simp [rows6], dp_same stp d261⟩
      · exact ⟨(("when", 2, -1000, 1000, -1001, 1001) : Row6), by simp [rows6], dp_same stp d264⟩
      · exact ⟨(("where", 1, 0, (many : Int) - 1, -1, (many : Int)) : Row6), by simp [rows6], dp_same stp d267⟩
      · exact ⟨(("where", 2, 1, 1000, 0, 1001) : Row6), by simp [rows6], dp_same stp d270⟩
      · exact ⟨(("by", 1, 0, 3, -1, 4) : Row6), by simp [rows6], dp_same stp d273⟩
    have hl := stp _ _ hl255
    have cl := fun v hv => (cl255 v hv).same stp
    have dsmall := dp_same stp dsmall
    have S := S.trans stp
    have hxl : ([V.ref p258, V.ref p261, V.ref p264, V.ref p267, V.ref p270, V.ref p273] : List V).length = 6 := rfl
    generalize upd H273 tp (.tup [V.ref p258, V.ref p261, V.ref p264, V.ref p267, V.ref p270, V.ref p273]) = H6 at htp dxs hl cl dsmall S ⊢
    generalize ([V.ref p258, V.ref p261, V.ref p264, V.ref p267, V.ref p270, V.ref p273] : List V) = xs at htp dxs hxl ⊢
    have nls2 : p255 ≠ a := (hh4.ne hn255)
    have hh6 := hh4.same S
    have b06 : But a H H6 := b04.trans (But.of S)
    generalize us255 = us at hl cl hu255
    have hu0 : us.length ≤ 5 := hu255
    clear S stp
    refine for_tup (xs := xs) (fun i σ H' => ∃ (ls : Addr) (us : List V) (y5 y6 y7 y8 y9 y10 y11 y12 : Option V), σ = [some (.ref a), some (.int (many : Int)), some (.ref p11), some (.ref ls), some dv, y5, y6, y7, y8, y9, y10, y11, y12] ∧ Same H6 H' ∧ ls ≠ a ∧ H' ls = some (.lst us) ∧ us.length ≤ 5 + 4 * i ∧ i ≤ 6 ∧ ∀ v ∈ us, CaseS K many sc H' v) ⟨p255, us, _, none, none, none, none, none, none, none, rfl, Same.refl _, nls2, hl, hu0, by decide, cl⟩ ?_ ?_ ?_
    · rintro i σ H' _ ⟨_, _, _, _, _, _, _, _, _, _, _, im, _⟩
      exact same_sqt im htp
    · rintro i x σ H7 hx ⟨ls, us, y5, y6, y7, y8, y9, y10, y11, y12, rfl, S, nls, hl, hu, hi, cl⟩
      obtain ⟨r, hr6, dr⟩ := dxs x (List.mem_of_getElem? hx)
      have hi6 : i < 6 := by have := (List.getElem?_eq_some_iff.mp hx).1; omega
      have dsm := dp_same S dsmall
      obtain ⟨p, pg, po, rfl, hp, hpg, hpo⟩ := row_at (dp_same S dr)
      refine ⟨p, _, rfl, hp, rfl, _, _, rfl, _, _, rfl, _, _, rfl, _, _, rfl, rfl, ?_⟩
      refine ⟨(by show 2 ≤ sizeLine; decide), fun p401 n401 => ?_⟩
      have s401 := same_new (o := .tup [V.str "fig", V.int 0]) n401
      have d401 : Dp K (upd H7 p401 (.tup [V.str "fig", V.int 0])) (.ref p401) (.tuple [.str "fig", .int 0]) := .tup (SqT.of upd_same) (.cons (.str _) (.cons (.int _) .nil))
      have dsm := dp_same s401 dsm
      have hl := s401 _ _ hl
      have cl := fun v hv => (cl v hv).same s401
      have hp := same_sqt s401 hp
      have hpg := same_sqt s401 hpg
      have hpo := same_sqt s401 hpo
      have S := S.trans s401
      generalize upd H7 p401 (.tup [V.str "fig", V.int 0]) = H401 at d401 dsm hl cl hp hpg hpo S ⊢
      clear s401
      have dno := d401
      refine fun dp ndp => ?_
      have s402 := same_new (o := HO.dK []) ndp
      have hd0 : (upd H401 dp (.dK [])) dp = some (.dK []) := upd_same
      have hnd := S.free ndp
      have ndp' : dp ≠ ls := (ne_of_none hl ndp).symm
      have dsm := dp_same s402 dsm
      have dno := dp_same s402 dno
      have hl := s402 _ _ hl
      have cl := fun v hv => (cl v hv).same s402
      have hp := same_sqt s402 hp
      have hpg := same_sqt s402 hpg
      have hpo := same_sqt s402 hpo
      have S := S.trans s402
      generalize upd H401 dp (.dK []) = H402 at hd0 S hl cl hp hpg hpo dsm dno ⊢
      clear s402
      refine ⟨_, rfl, ?_⟩
      refine ⟨_, rfl, ?_⟩
      refine ⟨(by show 3 ≤ sizeLine; decide), fun p403 n403 => ?_⟩
      have s403 := same_new (o := .tup [V.str r.1, V.int 1, V.ref p401]) n403
      have d403 : Dp K (upd H402 p403 (.tup [V.str r.1, V.int 1, V.ref p401])) (.ref p403) (.tuple [.str r.1, .int 1, .tuple [.str "fig", .int 0]]) := .tup (SqT.of upd_same) (.cons (.str _) (.cons (.int _) (.cons (dp_same s403 dno) .nil)))
      have dsm := dp_same s403 dsm
      have dno := dp_same s403 dno
      have hl := s403 _ _ hl
      have cl := fun v hv => (cl v hv).same s403
      have hp := same_sqt s403 hp
      have hpg := same_sqt s403 hpg
      have hpo := same_sqt s403 hpo
      have hd0 := s403 _ _ hd0
      have S := S.trans s403
      generalize upd H402 p403 (.tup [V.str r.1, V.int 1, V.ref p401]) = H403 at d403 dsm dno hl cl hp hpg hpo hd0 S ⊢
      clear s403
      refine ⟨_, rfl, ?_⟩
      refine ⟨_, rfl, ?_⟩
      refine ⟨(by show 3 ≤ sizeLine; decide), fun p404 n404 => ?_⟩
      have s404 := same_new (o := .tup [V.str r.1, V.int 1, V.ref p401]) n404
      have d404 : Dp K (upd H403 p404 (.tup [V.str r.1, V.int 1, V.ref p401])) (.ref p404) (.tuple [.str r.1, .int 1, .tuple [.str "fig", .int 0]]) := .tup (SqT.of upd_same) (.cons (.str _) (.cons (.int _) (.cons (dp_same s404 dno) .nil)))
      have dsm := dp_same s404 dsm
      have dno := dp_same s404 dno
      have d403 := dp_same s404 d403
      have hl := s404 _ _ hl
      have cl := fun v hv => (cl v hv).same s404
      have hp := same_sqt s404 hp
      have hpg := same_sqt s404 hpg
      have hpo := same_sqt s404 hpo
      have hd0 := s404 _ _ hd0
      have S := S.trans s404
      generalize upd H403 p404 (.tup [V.str r.1, V.int 1, V.ref p401]) = H404 at d404 dsm dno d403 hl cl hp hpg hpo hd0 S ⊢
      clear s404
      refine ⟨hd0, [(Sum.inr "times", V.ref p403), (Sum.inr "by", V.ref p404)], rfl, (by show 2 ≤ 15; decide), ?_⟩
      have hd1 : (upd H404 dp (HO.dK (mergeK [] [(Sum.inr "times", V.ref p403), (Sum.inr "by", V.ref p404)]))) dp = some (HO.dK (mergeK [] [(Sum.inr "times", V.ref p403), (Sum.inr "by", V.ref p404)])) := upd_same
      have S := put_new (o := HO.dK (mergeK [] [(Sum.inr "times", V.ref p403), (Sum.inr "by", V.ref p404)])) hnd S
      have dsm := dp_imp (fun p zs h => put_sqtD (o := HO.dK (mergeK [] [(Sum.inr "times", V.ref p403), (Sum.inr "by", V.ref p404)])) hd0 h) (show tpo _ = true from tpo_ex _) dsm
      have dno := dp_imp (fun p zs h => put_sqtD (o := HO.dK (mergeK [] [(Sum.inr "times", V.ref p403), (Sum.inr "by", V.ref p404)])) hd0 h) (show tpo _ = true from rfl) dno
      have d403 := dp_imp (fun p zs h => put_sqtD (o := HO.dK (mergeK [] [(Sum.inr "times", V.ref p403), (Sum.inr "by", V.ref p404)])) hd0 h) (show tpo _ = true from rfl) d403
      have d404 := dp_imp (fun p zs h => put_sqtD (o := HO.dK (mergeK [] [(Sum.inr "times", V.ref p403), (Sum.inr "by", V.ref p404)])) hd0 h) (show tpo _ = true from rfl) d404
      have hp := put_sqtD (o := HO.dK (mergeK [] [(Sum.inr "times", V.ref p403), (Sum.inr "by", V.ref p404)])) hd0 hp
      have hpg := put_sqtD (o := HO.dK (mergeK [] [(Sum.inr "times", V.ref p403), (Sum.inr "by", V.ref p404)])) hd0 hpg
      have hpo := put_sqtD (o := HO.dK (mergeK [] [(Sum.inr "times", V.ref p403), (Sum.inr "by", V.ref p404)])) hd0 hpo
      have hl : (upd H404 dp (HO.dK (mergeK [] [(Sum.inr "times", V.ref p403), (Sum.inr "by", V.ref p404)]))) ls = some (.lst us) := (upd_ne ndp'.symm).trans hl
      have cl := fun v hv => (cl v hv).imp fun p zs h => put_sqtD (o := HO.dK (mergeK [] [(Sum.inr "times", V.ref p403), (Sum.inr "by", V.ref p404)])) hd0 h
      generalize upd H404 dp (HO.dK (mergeK [] [(Sum.inr "times", V.ref p403), (Sum.inr "by", V.ref p404)])) = H405 at hd1 S hl cl dsm dno d403 d404 hp hpg hpo ⊢
      refine ⟨dp, rfl, .inl ⟨_, .inl hd1⟩, _, rfl, ?_⟩
      refine ⟨_, rfl, ?_⟩
      refine ⟨_, rfl, ?_⟩
      refine ⟨_, rfl, ?_⟩
      refine ⟨(by show 5 ≤ sizeLine; decide), fun p406 n406 => ?_⟩
      have s406 := same_new (o := .tup [V.str r.1, V.int 1, V.int 1, V.ref p401, V.ref p11]) n406
      have d406 : Dp K (upd H405 p406 (.tup [V.str r.1, V.int 1, V.int 1, V.ref p401, V.ref p11])) (.ref p406) (.tuple [.str r.1, .int 1, .int 1, .tuple [.str "fig", .int 0], toD (.fig c)]) := .tup (SqT.of upd_same) (.cons (.str _) (.cons (.int _) (.cons (.int _) (.cons (dp_same s406 dno) (.cons (dp_same s406 dsm) .nil)))))
      have dsm := dp_same s406 dsm
      have dno := dp_same s406 dno
      have d403 := dp_same s406 d403
      have d404 := dp_same s406 d404
      have hl := s406 _ _ hl
      have cl := fun v hv => (cl v hv).same s406
      have hp := same_sqt s406 hp
      have hpg := same_sqt s406 hpg
      have hpo := same_sqt s406 hpo
      have hd1 := s406 _ _ hd1
      have S := S.trans s406
      generalize upd H405 p406 (.tup [V.str r.1, V.int 1, V.int 1, V.ref p401, V.ref p11]) = H406 at d406 dsm dno d403 d404 hl cl hp hpg hpo hd1 S ⊢
      clear s406
      refine ⟨_, DGet.k (k := Sum.inr r.1) hd1, ?_⟩
      have key : ∃ (pf : Addr) (vsF : List V), (valV (mergeK [] [(Sum.inr "times", V.ref p403), (Sum.inr "by", V.ref p404)]) (Sum.inr r.1)).getD (V.ref p406) = V.ref pf ∧ SqT K H406 pf vsF ∧ DpAll K H406 vsF (fullD r.1 c) := by
        clear hl cl hx S hp hpg hpo dr
        simp only [rows6, List.mem_cons, List.not_mem_nil, or_false] at hr6
        rcases hr6 with rfl | rfl | rfl | rfl | rfl | rfl
        · exact dp_full rfl d403 rfl
        · exact dp_full rfl d406 rfl
        · exact dp_full rfl d406 rfl
        · exact dp_full rfl d406 rfl
        · exact dp_full rfl d406 rfl
        · exact dp_full rfl d404 rfl
      obtain ⟨pf, vsF, epf, hpf, hdF⟩ := key
      rw [epf]
      have hvl : vsF.length = (fullD r.1 c).length := dpall_len hdF
      obtain ⟨hat, hfl⟩ := row_at_lt (c := c) hr6
      have SPA := S
      refine ⟨_, rfl, .ref pg, rfl, pg, rfl, ⟨_, hpg⟩, fun DA nDA => lc_tup (xs := [.int r.2.2.1, .int r.2.2.2.1]) (fun i H' => ∃ acc, Same H406 H' ∧ H' DA = some (.lst acc) ∧ acc.length = i ∧ ∀ v ∈ acc, CaseS K many sc H' v) ⟨[], same_new nDA, upd_same, rfl, fun v hv => nomatch hv⟩ ?_ ?_ ?_⟩
      · rintro i H' _ ⟨_, sa, _⟩
        exact same_sqt sa hpg
      · rintro i x Ha hx ⟨acc, sa, hDa, hal, hca⟩
        obtain ⟨z, rfl, hz⟩ : ∃ z : Int, x = .int z ∧ (z = r.2.2.1 ∨ z = r.2.2.2.1) := by
          have hx := List.mem_of_getElem? hx
          simp only [List.mem_cons, List.not_mem_nil, or_false] at hx
          rcases hx with rfl | rfl
          · exact ⟨_, rfl, .inl rfl⟩
          · exact ⟨_, rfl, .inr rfl⟩
        have hi2 : i < 2 := (List.getElem?_eq_some_iff.mp hx).1
        refine ⟨rfl, tYes_in ⟨_, rfl, _, rfl, _, rfl, pf, vsF, r.2.1, .int z, rfl, same_sqt sa hpf, by omega, by omega, fun Hb t smb ht => ⟨(by show 2 ≤ sizeLine; decide), fun t2 n2 => ?_⟩⟩⟩
        have s2 := same_new (o := .tup [.ref t, .bl true]) n2
        have hD2 := s2 _ _ (smb _ _ hDa)
        have dz : Dp K (upd Hb t2 (.tup [.ref t, .bl true])) (.ref t2) (.tuple [.tuple ((fullD r.1 c).set r.2.1 (.int z)), .bool true]) := .tup (SqT.of upd_same) (.cons (dp_same s2 (.tup ht (dpall_set (.int z) _ (dpall_same (sa.trans smb) hdF)))) (.cons (.bl _) .nil))
        have cz : CaseS K many sc _ _ := mk_case (row_good hm h5 hc hr6 hz) dz
        refine ⟨acc, hD2, small1000 (by omega), acc ++ [.ref t2], fun b' o eb => ?_, upd_same, by rw [List.length_append, hal]; rfl, fun v hv => ?_⟩
        · rw [upd_ne (ne_of_none eb nDA)]
          exact s2 _ _ (smb _ _ (sa _ _ eb))
        · rcases List.mem_append.mp hv with hv | hv
          · exact ((hca v hv).same (smb.trans s2)).put hD2
          · rw [List.mem_singleton.mp hv]
            exact cz.put hD2
      rintro HA ⟨accA, saA, hDA, halA, hcaA⟩
      have halA : accA.length = 2 := halA
      have hl := saA _ _ hl
      have cl := fun v hv => (cl v hv).same saA
      refine ⟨_, DA, _, accA, rfl, rfl, hl, hDA, Nat.le_of_lt (small1000 (by omega)), fun lA mA => ?_⟩
      have sA := same_new (o := .lst (us ++ accA)) mA
      have hl : (upd HA lA (.lst (us ++ accA))) lA = some (.lst (us ++ accA)) := upd_same
      have cl : ∀ v ∈ us ++ accA, CaseS K many sc (upd HA lA (.lst (us ++ accA))) v := fun v hv => (List.mem_append.mp hv).elim (fun h => (cl v h).same sA) (fun h => (hcaA v h).same sA)
      have szA := saA.trans sA
      have S := S.trans szA
      have nlA : lA ≠ a := by
        exact (hh6.same (SPA.trans saA)).ne mA
      have huA : (us ++ accA).length = us.length + 2 := by rw [List.length_append, halA]
      generalize upd HA lA (.lst (us ++ accA)) = HKA at hl cl szA S ⊢
      generalize us ++ accA = us2 at hl cl huA ⊢
      have hpf := same_sqt szA hpf
      have hdF := dpall_same szA hdF
      have hpo := same_sqt szA hpo
      have SPB := S
      refine ⟨_, rfl, .ref po, rfl, po, rfl, ⟨_, hpo⟩, fun DB nDB => lc_tup (xs := [.int r.2.2.2.2.1, .int r.2.2.2.2.2]) (fun i H' => ∃ acc, Same HKA H' ∧ H' DB = some (.lst acc) ∧ acc.length = i ∧ ∀ v ∈ acc, CaseS K many sc H' v) ⟨[], same_new nDB, upd_same, rfl, fun v hv => nomatch hv⟩ ?_ ?_ ?_⟩
      · rintro i H' _ ⟨_, sa, _⟩
        exact same_sqt sa hpo
      · rintro i x Ha hx ⟨acc, sa, hDa, hal, hca⟩
        obtain ⟨z, rfl, hz⟩ : ∃ z : Int, x = .int z ∧ (z = r.2.2.2.2.1 ∨ z = r.2.2.2.2.2) := by
          have hx := List.mem_of_getElem? hx
          simp only [List.mem_cons, List.not_mem_nil, or_false] at hx
          rcases hx with rfl | rfl
          · exact ⟨_, rfl, .inl rfl⟩
          · exact ⟨_, rfl, .inr rfl⟩
        have hi2 : i < 2 := (List.getElem?_eq_some_iff.mp hx).1
        refine ⟨rfl, tYes_in ⟨_, rfl, _, rfl, _, rfl, pf, vsF, r.2.1, .int z, rfl, same_sqt sa hpf, by omega, by omega, fun Hb t smb ht => ⟨(by show 2 ≤ sizeLine; decide), fun t2 n2 => ?_⟩⟩⟩
        have s2 := same_new (o := .tup [.ref t, .bl false]) n2
        have hD2 := s2 _ _ (smb _ _ hDa)
        have dz : Dp K (upd Hb t2 (.tup [.ref t, .bl false])) (.ref t2) (.tuple [.tuple ((fullD r.1 c).set r.2.1 (.int z)), .bool false]) := .tup (SqT.of upd_same) (.cons (dp_same s2 (.tup ht (dpall_set (.int z) _ (dpall_same (sa.trans smb) hdF)))) (.cons (.bl _) .nil))
        have cz : CaseS K many sc _ _ := mk_caseN (row_odd hm hc hr6 hz) dz
        refine ⟨acc, hD2, small1000 (by omega), acc ++ [.ref t2], fun b' o eb => ?_, upd_same, by rw [List.length_append, hal]; rfl, fun v hv => ?_⟩
        · rw [upd_ne (ne_of_none eb nDB)]
          exact s2 _ _ (smb _ _ (sa _ _ eb))
        · rcases List.mem_append.mp hv with hv | hv
          · exact ((hca v hv).same (smb.trans s2)).put hD2
          · rw [List.mem_singleton.mp hv]
            exact cz.put hD2
      rintro HB ⟨accB, saB, hDB, halB, hcaB⟩
      have halB : accB.length = 2 := halB
      have hl := saB _ _ hl
      have cl := fun v hv => (cl v hv).same saB
      refine ⟨_, DB, _, accB, rfl, rfl, hl, hDB, Nat.le_of_lt (small1000 (by omega)), fun lB mB => ?_⟩
      have sB := same_new (o := .lst (us2 ++ accB)) mB
      have hl : (upd HB lB (.lst (us2 ++ accB))) lB = some (.lst (us2 ++ accB)) := upd_same
      have cl : ∀ v ∈ us2 ++ accB, CaseS K many sc (upd HB lB (.lst (us2 ++ accB))) v := fun v hv => (List.mem_append.mp hv).elim (fun h => (cl v h).same sB) (fun h => (hcaB v h).same sB)
      have szB := saB.trans sB
      have S := S.trans szB
      have nlB : lB ≠ a := by
        exact (hh6.same (SPB.trans saB)).ne mB
      have huB : (us2 ++ accB).length = us2.length + 2 := by rw [List.length_append, halB]
      generalize upd HB lB (.lst (us2 ++ accB)) = HKB at hl cl szB S ⊢
      generalize us2 ++ accB = us3 at hl cl huB ⊢
      exact ⟨lB, us3, _, _, _, _, _, _, _, _, rfl, S, nlB, hl, by omega, by omega, cl⟩
    · rintro σ H7 ⟨ls, us, y5, y6, y7, y8, y9, y10, y11, y12, rfl, S, nls, hl, hu, hi, cl⟩
      have S := S
      have hu : us.length ≤ 5 + 24 := by omega
      refine ⟨_, rfl, ?_⟩
      refine ⟨(by show 2 ≤ sizeLine; decide), fun p501 n501 => ?_⟩
      have s501 := same_new (o := .tup [V.str "fig", V.int 1001]) n501
      have d501 : Dp K (upd H7 p501 (.tup [V.str "fig", V.int 1001])) (.ref p501) (.tuple [.str "fig", .int 1001]) := .tup (SqT.of upd_same) (.cons (.str _) (.cons (.int _) .nil))
      have hl := s501 _ _ hl
      have cl := fun v hv => (cl v hv).same s501
      have S := S.trans s501
      generalize upd H7 p501 (.tup [V.str "fig", V.int 1001]) = H501 at d501 hl cl S ⊢
      clear s501
      refine ⟨(by show 2 ≤ sizeLine; decide), fun p502 n502 => ?_⟩
      have s502 := same_new (o := .tup [V.ref p501, V.bl false]) n502
      have d502 : Dp K (upd H501 p502 (.tup [V.ref p501, V.bl false])) (.ref p502) (.tuple [.tuple [.str "fig", .int 1001], .bool false]) := .tup (SqT.of upd_same) (.cons (dp_same s502 d501) (.cons (.bl _) .nil))
      have hl := s502 _ _ hl
      have cl := fun v hv => (cl v hv).same s502
      have S := S.trans s502
      generalize upd H501 p502 (.tup [V.ref p501, V.bl false]) = H502 at d502 hl cl S ⊢
      clear s502
      refine ⟨_, rfl, ?_⟩
      refine ⟨(by show 2 ≤ sizeLine; decide), fun p503 n503 => ?_⟩
      have s503 := same_new (o := .tup [V.str "fig", V.int (-1001)]) n503
      have d503 : Dp K (upd H502 p503 (.tup [V.str "fig", V.int (-1001)])) (.ref p503) (.tuple [.str "fig", .int (-1001)]) := .tup (SqT.of upd_same) (.cons (.str _) (.cons (.int _) .nil))
      have d502 := dp_same s503 d502
      have hl := s503 _ _ hl
      have cl := fun v hv => (cl v hv).same s503
      have S := S.trans s503
      generalize upd H502 p503 (.tup [V.str "fig", V.int (-1001)]) = H503 at d503 d502 hl cl S ⊢
      clear s503
      refine ⟨(by show 2 ≤ sizeLine; decide), fun p504 n504 => ?_⟩
      have s504 := same_new (o := .tup [V.ref p503, V.bl false]) n504
      have d504 : Dp K (upd H503 p504 (.tup [V.ref p503, V.bl false])) (.ref p504) (.tuple [.tuple [.str "fig", .int (-1001)], .bool false]) := .tup (SqT.of upd_same) (.cons (dp_same s504 d503) (.cons (.bl _) .nil))
      have d502 := dp_same s504 d502
      have hl := s504 _ _ hl
      have cl := fun v hv => (cl v hv).same s504
      have S := S.trans s504
      generalize upd H503 p504 (.tup [V.ref p503, V.bl false]) = H504 at d504 d502 hl cl S ⊢
      clear s504
      refine ⟨_, rfl, ?_⟩
      refine ⟨(by show 2 ≤ sizeLine; decide), fun p505 n505 => ?_⟩
      have s505 := same_new (o := .tup [V.str "share", V.int (many : Int)]) n505
      have d505 : Dp K (upd H504 p505 (.tup [V.str "share", V.int (many : Int)])) (.ref p505) (.tuple [.str "share", .int (many : Int)]) := .tup (SqT.of upd_same) (.cons (.str _) (.cons (.int _) .nil))
      have d502 := dp_same s505 d502
      have d504 := dp_same s505 d504
      have hl := s505 _ _ hl
      have cl := fun v hv => (cl v hv).same s505
      have S := S.trans s505
      generalize upd H504 p505 (.tup [V.str "share", V.int (many : Int)]) = H505 at d505 d502 d504 hl cl S ⊢
      clear s505
      refine ⟨(by show 2 ≤ sizeLine; decide), fun p506 n506 => ?_⟩
      have s506 := same_new (o := .tup [V.ref p505, V.bl false]) n506
      have d506 : Dp K (upd H505 p506 (.tup [V.ref p505, V.bl false])) (.ref p506) (.tuple [.tuple [.str "share", .int (many : Int)], .bool false]) := .tup (SqT.of upd_same) (.cons (dp_same s506 d505) (.cons (.bl _) .nil))
      have d502 := dp_same s506 d502
      have d504 := dp_same s506 d504
      have hl := s506 _ _ hl
      have cl := fun v hv => (cl v hv).same s506
      have S := S.trans s506
      generalize upd H505 p506 (.tup [V.ref p505, V.bl false]) = H506 at d506 d502 d504 hl cl S ⊢
      clear s506
      refine ⟨(by show 2 ≤ sizeLine; decide), fun p507 n507 => ?_⟩
      have s507 := same_new (o := .tup [V.str "reg", V.int 4]) n507
      have d507 : Dp K (upd H506 p507 (.tup [V.str "reg", V.int 4])) (.ref p507) (.tuple [.str "reg", .int 4]) := .tup (SqT.of upd_same) (.cons (.str _) (.cons (.int _) .nil))
      have d502 := dp_same s507 d502
      have d504 := dp_same s507 d504
      have d506 := dp_same s507 d506
      have hl := s507 _ _ hl
      have cl := fun v hv => (cl v hv).same s507
      have S := S.trans s507
      generalize upd H506 p507 (.tup [V.str "reg", V.int 4]) = H507 at d507 d502 d504 d506 hl cl S ⊢
      clear s507
      refine ⟨(by show 2 ≤ sizeLine; decide), fun p508 n508 => ?_⟩
      have s508 := same_new (o := .tup [V.ref p507, V.bl false]) n508
      have d508 : Dp K (upd H507 p508 (.tup [V.ref p507, V.bl false])) (.ref p508) (.tuple [.tuple [.str "reg", .int 4], .bool false]) := .tup (SqT.of upd_same) (.cons (dp_same s508 d507) (.cons (.bl _) .nil))
      have d502 := dp_same s508 d502
      have d504 := dp_same s508 d504
      have d506 := dp_same s508 d506
      have hl := s508 _ _ hl
      have cl := fun v hv => (cl v hv).same s508
      have S := S.trans s508
      generalize upd H507 p508 (.tup [V.ref p507, V.bl false]) = H508 at d508 d502 d504 d506 hl cl S ⊢
      clear s508
      refine ⟨(by show 4 ≤ sizeLine; decide), fun p509 n509 => ?_⟩
      have s509 := same_new (o := .lst [V.ref p502, V.ref p504, V.ref p506, V.ref p508]) n509
      have hn509 := S.free n509
      have hl509 : (upd H508 p509 (.lst [V.ref p502, V.ref p504, V.ref p506, V.ref p508])) p509 = some (.lst [V.ref p502, V.ref p504, V.ref p506, V.ref p508]) := upd_same
      have cl509 : ∀ v ∈ ([V.ref p502, V.ref p504, V.ref p506, V.ref p508] : List V), CaseS K many sc (upd H508 p509 (.lst [V.ref p502, V.ref p504, V.ref p506, V.ref p508])) v := fun v hv => by
        simp only [List.mem_cons, List.not_mem_nil, or_false] at hv
        rcases hv with rfl | rfl | rfl | rfl
        · exact mk_caseN (by rcases hm with rfl | rfl <;> decide +kernel) (dp_same s509 d502)
        · exact mk_caseN (by rcases hm with rfl | rfl <;> decide +kernel) (dp_same s509 d504)
        · exact mk_caseN (by rcases hm with rfl | rfl <;> decide +kernel) (dp_same s509 d506)
        · exact mk_caseN (by rcases hm with rfl | rfl <;> decide +kernel) (dp_same s509 d508)
      have hl := s509 _ _ hl
      have cl := fun v hv => (cl v hv).same s509
      have S := S.trans s509
      generalize upd H508 p509 (.lst [V.ref p502, V.ref p504, V.ref p506, V.ref p508]) = H509 at hl509 cl509 hl cl S ⊢
      clear s509
      refine ⟨ls, p509, us, [V.ref p502, V.ref p504, V.ref p506, V.ref p508], rfl, rfl, hl, hl509, (Nat.le_of_lt (small1000 (by show us.length + 4 ≤ 1000; omega))), fun p510 n510 => ?_⟩
      have s510 := same_new (o := .lst (us ++ [V.ref p502, V.ref p504, V.ref p506, V.ref p508])) n510
      have hn510 := S.free n510
      have hl510 : (upd H509 p510 (.lst (us ++ [V.ref p502, V.ref p504, V.ref p506, V.ref p508]))) p510 = some (.lst (us ++ [V.ref p502, V.ref p504, V.ref p506, V.ref p508])) := upd_same
      have cl510 : ∀ v ∈ us ++ [V.ref p502, V.ref p504, V.ref p506, V.ref p508], CaseS K many sc (upd H509 p510 (.lst (us ++ [V.ref p502, V.ref p504, V.ref p506, V.ref p508]))) v := fun v hv => (List.mem_append.mp hv).elim (fun h => (cl v h).same s510) (fun h => (cl509 v h).same s510)
      have hu510 : (us ++ [V.ref p502, V.ref p504, V.ref p506, V.ref p508]).length ≤ 33 := by rw [List.length_append]; show us.length + 4 ≤ 33; omega
      have S := S.trans s510
      generalize upd H509 p510 (.lst (us ++ [V.ref p502, V.ref p504, V.ref p506, V.ref p508])) = H510 at hl510 cl510 S ⊢
      clear s510
      generalize us ++ [V.ref p502, V.ref p504, V.ref p506, V.ref p508] = us510 at hl510 cl510 hu510
      clear hl cl hu hl509 cl509
      exact q H510 p510 us510 (b06.trans (But.of S)) ((hh6.same S).le (by omega)) (hh6.ne hn510) hl510 (by omega) cl510
end
end NG

set_option maxHeartbeats 16000000
namespace NG
open PySem PySem.Spec PyProof.Rows L2
def allWb : List Wb := [.op .put, .op .add, .op .copy, .op .plus, .op .told, .when]
def wdBb (many : Int) : Nat → PyData → Bool
  | 0, _ => true
  | k + 1, d => match d with
    | .tuple ds => ds.all fun x => match x with
      | .tuple (.str s :: es) => allWb.any fun w => decide (s = wbn w) && (!(fitsD many (wbsh w) es) || (es.drop 2).all (wdBb many k))
      | _ => false
    | _ => true
theorem wdBb_ok {many : Int} : ∀ {k : Nat} {d : PyData}, wdBb many k d = true → wdB many k d
  | 0, _, _ => trivial
  | k + 1, d, h => by
    intro ds e x hx
    subst e
    have h := List.all_eq_true.mp h x hx
    match x, h with
    | .tuple (.str s :: es), h =>
      obtain ⟨w, _, hw⟩ := List.any_eq_true.mp h
      rw [Bool.and_eq_true, decide_eq_true_eq, Bool.or_eq_true, Bool.not_eq_true'] at hw
      obtain ⟨rfl, hw⟩ := hw
      refine ⟨w, es, rfl, fun hf y hy => ?_⟩
      rcases hw with hw | hw
      · rw [hw] at hf; cases hf
      · exact wdBb_ok (List.all_eq_true.mp hw y hy)
theorem dp_rep {K : PySem.W.Frag} {H : Hp} {v : V} {d : PyData} (x : Dp K H v d) : ∀ n : Nat, DpAll K H (List.replicate n [v]).flatten (List.replicate n d)
  | 0 => .nil
  | n + 1 => .cons x (dp_rep x n)
def fiveD (many : Nat) : List PyData := [.tuple [.str "put", .int 3, .int (-1000)], .tuple [.str "add", .int 0, .int 1000], .tuple [.str "copy", .int 1, .int 3], .tuple [.str "plus", .int 3, .int 0], .tuple [.str "told", .int 2, .int ((many : Int) - 1)]]
def nstD (dd : PyData) : List Bool → PyData
  | [] => .tuple [dd]
  | true :: bs => .tuple [.tuple [.str "when", .int (bs.length : Int), .int 1000, nstD dd bs, .tuple []]]
  | false :: bs => .tuple [.tuple [.str "when", .int (bs.length : Int), .int 0, .tuple [], nstD dd bs]]
theorem nst_tpo {dd : PyData} (h : tpo dd = true) : ∀ bs, tpo (nstD dd bs) = true
  | [] => by simp only [nstD, tpo, tpoAll, h, Bool.and_true]
  | true :: bs => by simp only [nstD, tpo, tpoAll, nst_tpo h bs, Bool.and_true]
  | false :: bs => by simp only [nstD, tpo, tpoAll, nst_tpo h bs, Bool.and_true]
def barD : Nat → PyData
  | 0 => .tuple []
  | i + 1 => .tuple [.tuple [.str "when", .int (i : Int), .int 0, barD i, .tuple []]]
def oddD (many : Nat) : List PyData := [.tuple [.str "put", .int 4, .int 0], .tuple [.str "put", .int (-1), .int 0], .tuple [.str "put", .int 0, .int 1001], .tuple [.str "add", .int 0, .int (-1001)], .tuple [.str "copy", .int 0, .int 4], .tuple [.str "plus", .int 0, .int (-1)], .tuple [.str "told", .int 0, .int (many : Int)], .tuple [.str "told", .int 0, .int (-1)], .tuple [.str "when", .int 0, .int 1001, .tuple [], .tuple []], .tuple [.str "when", .int 4, .int 0, .tuple [], .tuple []], .tuple [.str "put", .int 0]]
def bools3 : List (List Bool) := [[true, true, true], [true, true, false], [true, false, true], [true, false, false], [false, true, true], [false, true, false], [false, false, true], [false, false, false]]
theorem in_bools3 : ∀ {bs : List Bool}, bs.length = 3 → bs ∈ bools3
  | [a, b, c], _ => by cases a <;> cases b <;> cases c <;> simp [bools3]
/-- what tells a tuple of deeds, and whether it is one -/
def CaseB (K : PySem.W.Frag) (many : Nat) (H : Hp) (v : V) : Prop := ∃ (d : PyData) (due : Bool), Dp K H v (.tuple [d, .bool due]) ∧ tpo d = true ∧ wdB many 4 d ∧ (cntB many 4 d).isSome = due
theorem CaseB.imp {K : PySem.W.Frag} {many : Nat} {H H' : Hp} {v : V} (h : ∀ p xs, SqT K H p xs → SqT K H' p xs) (c : CaseB K many H v) : CaseB K many H' v := by
  obtain ⟨d, due, x, t, w, s⟩ := c
  cases x with
  | tup q r =>
    cases r with
    | cons x r =>
      cases r with
      | cons y r =>
        cases r
        cases y
        exact ⟨d, due, .tup (h _ _ q) (.cons (dp_imp h t x) (.cons (.bl _) .nil)), t, w, s⟩
theorem CaseB.same {K : PySem.W.Frag} {many : Nat} {H H' : Hp} {v : V} (c : CaseB K many H v) (s : Same H H') : CaseB K many H' v := c.imp fun _ _ q => same_sqt s q
theorem CaseB.put {K : PySem.W.Frag} {many : Nat} {H : Hp} {v : V} {a : Addr} {us ws : List V} (c : CaseB K many H v) (h : H a = some (.lst us)) : CaseB K many (upd H a (.lst ws)) v := c.imp fun _ _ q => put_sqt h q
def chkB (many : Nat) (d : PyData) (due : Bool) : Bool := tpo d && (wdBb many 4 d && ((cntB many 4 d).isSome == due))
theorem mk_caseB {K : PySem.W.Frag} {many : Nat} {H : Hp} {v : V} {d : PyData} {due : Bool} (c : chkB many d due = true) (x : Dp K H v (.tuple [d, .bool due])) : CaseB K many H v := by
  unfold chkB at c
  rw [Bool.and_eq_true, Bool.and_eq_true, beq_iff_eq] at c
  exact ⟨d, due, x, c.1, wdBb_ok c.2.1, c.2.2⟩
def spDeedC (K : PySem.W.Frag) : Sp := fun vs H Q _ => ∃ (a : Addr) (many n : Nat), vs = [.ref a, .int (many : Int)] ∧ (many = 2 ∨ many = 3) ∧ HandAt H a n ∧ n ≤ 900000000 ∧ ∀ H' l us, But a H H' → HandAt H' a (n + 10) → l ≠ a → H l = none → H' l = some (.lst us) → us.length ≤ 40 → (∀ v ∈ us, CaseB K many H' v) → Q (.ref l) H'
theorem cb0 {many : Nat} {dd : PyData} (hm : many = 2 ∨ many = 3) (hdd : dd ∈ fiveD many) : chkB many (.tuple (List.replicate 20 dd)) (true) = true := by
  unfold fiveD at hdd
  simp only [List.mem_cons, List.not_mem_nil, or_false] at hdd
  rcases hdd with rfl | rfl | rfl | rfl | rfl
  all_goals (rcases hm with rfl | rfl <;> decide +kernel)
theorem cb1 {many : Nat} {dd : PyData} (hm : many = 2 ∨ many = 3) (hdd : dd ∈ fiveD many) : chkB many (.tuple (List.replicate 21 dd)) (false) = true := by
  unfold fiveD at hdd
  simp only [List.mem_cons, List.not_mem_nil, or_false] at hdd
  rcases hdd with rfl | rfl | rfl | rfl | rfl
  all_goals (rcases hm with rfl | rfl <;> decide +kernel)
theorem cb2 {many : Nat} {dd : PyData} (hm : many = 2 ∨ many = 3) (hdd : dd ∈ fiveD many) : chkB many (.tuple [.tuple [.str "when", .int 0, .int 0, .tuple (List.replicate 9 dd), .tuple (List.replicate 10 dd)]]) (true) = true := by
  unfold fiveD at hdd
  simp only [List.mem_cons, List.not_mem_nil, or_false] at hdd
  rcases hdd with rfl | rfl | rfl | rfl | rfl
  all_goals (rcases hm with rfl | rfl <;> decide +kernel)
theorem cb3 {many : Nat} {dd : PyData} (hm : many = 2 ∨ many = 3) (hdd : dd ∈ fiveD many) : chkB many (.tuple [.tuple [.str "when", .int 0, .int 0, .tuple (List.replicate 10 dd), .tuple (List.replicate 10 dd)]]) (false) = true := by
  unfold fiveD at hdd
  simp only [List.mem_cons, List.not_mem_nil, or_false] at hdd
  rcases hdd with rfl | rfl | rfl | rfl | rfl
  all_goals (rcases hm with rfl | rfl <;> decide +kernel)
theorem cb4 {many : Nat} {dd : PyData} (hm : many = 2 ∨ many = 3) (hdd : dd ∈ fiveD many) : chkB many (.tuple [dd, .tuple [.str "when", .int 3, .int (-1000), .tuple [], .tuple (List.replicate 18 dd)]]) (true) = true := by
  unfold fiveD at hdd
  simp only [List.mem_cons, List.not_mem_nil, or_false] at hdd
  rcases hdd with rfl | rfl | rfl | rfl | rfl
  all_goals (rcases hm with rfl | rfl <;> decide +kernel)
theorem cb5 {many : Nat} {dd : PyData} {bs : List Bool} (hm : many = 2 ∨ many = 3) (hdd : dd ∈ fiveD many) (hbl : bs.length = 3) : chkB many (nstD dd bs) (true) = true := by
  have k : ((fiveD many).all fun dd => bools3.all fun bs => chkB many (nstD dd bs) (true)) = true := by rcases hm with rfl | rfl <;> decide +kernel
  exact List.all_eq_true.mp (List.all_eq_true.mp k dd hdd) bs (in_bools3 hbl)
theorem cb6 {many : Nat} {dd : PyData} {bs : List Bool} (hm : many = 2 ∨ many = 3) (hdd : dd ∈ fiveD many) (hbl : bs.length = 3) : chkB many (.tuple [.tuple [.str "when", .int 0, .int 0, nstD dd bs, .tuple []]]) (false) = true := by
  have k : ((fiveD many).all fun dd => bools3.all fun bs => chkB many (.tuple [.tuple [.str "when", .int 0, .int 0, nstD dd bs, .tuple []]]) (false)) = true := by rcases hm with rfl | rfl <;> decide +kernel
  exact List.all_eq_true.mp (List.all_eq_true.mp k dd hdd) bs (in_bools3 hbl)
theorem cb7 {many : Nat} {dd : PyData} (hm : many = 2 ∨ many = 3) (hdd : dd ∈ fiveD many) : chkB many (barD 4) (true) = true := by
  unfold fiveD at hdd
  simp only [List.mem_cons, List.not_mem_nil, or_false] at hdd
  rcases hdd with rfl | rfl | rfl | rfl | rfl
  all_goals (rcases hm with rfl | rfl <;> decide +kernel)
theorem cb8 {many : Nat} {dd : PyData} (hm : many = 2 ∨ many = 3) (hdd : dd ∈ fiveD many) : chkB many (.tuple [.tuple [.str "when", .int 0, .int 0, .tuple [], barD 4]]) (false) = true := by
  unfold fiveD at hdd
  simp only [List.mem_cons, List.not_mem_nil, or_false] at hdd
  rcases hdd with rfl | rfl | rfl | rfl | rfl
  all_goals (rcases hm with rfl | rfl <;> decide +kernel)
theorem odd_chk {many : Nat} {dd dx : PyData} (hm : many = 2 ∨ many = 3) (hdd : dd ∈ fiveD many) (hdx : dx ∈ oddD many) : chkB many (.tuple [dd, dx]) false = true := by
  have k : ((fiveD many).all fun dd => (oddD many).all fun dx => chkB many (.tuple [dd, dx]) false) = true := by rcases hm with rfl | rfl <;> decide +kernel
  exact List.all_eq_true.mp (List.all_eq_true.mp k dd hdd) dx hdx
section
variable {P : Program} {w : World} {K : PySem.W.Frag} {mg : Str → Option Value} {base : Heap}
theorem ok_deedc {f : Addr} {fd : FuncData} (F : Fun K "_law_deeds_cases" "_law_deeds_cases" s_L_deeds_cases f fd) (gF : mg "_law_deeds_cases" = some (.ref f)) (b : Binds K fd ["_law_hand_here", "_law_wide"] []) (B : Bl mg) (c_L_take : Cal P w K mg base 1 "_law_take" spTake) (c_L_of : Cal P w K mg base 2 "_law_of" (spOf K)) : Cal P w K mg base 3 "_law_deeds_cases" (spDeedC K) := by
  refine ⟨f, fd, _, F.ok sc_L_deeds_cases (fun vs H Q E h => ?_) (fun cdv A outer s H vs Q E hr h => ?_), gF, F.kp, b⟩
  · obtain ⟨_, _, _, rfl, _⟩ := h
    rfl
  · obtain ⟨a, many, n, rfl, hm, hh, hn, q⟩ := h
    refine ⟨_, (pss_cons (ps_set (i := 2) sc_L_deeds_cases.nd rfl (.inl rfl) (pe_c c_L_of hr (by omega) (by rfl) (pa_cons (pv 0) (pa_cons (pe_lst (pa_cons (pe_tup (pa_cons pe_str (pa_cons pe_int (pa_cons (pe_un un_neg pe_int) pa_nil)))) (pa_cons (pe_tup (pa_cons pe_str (pa_cons pe_int (pa_cons pe_int pa_nil)))) (pa_cons (pe_tup (pa_cons pe_str (pa_cons pe_int (pa_cons pe_int pa_nil)))) (pa_cons (pe_tup (pa_cons pe_str (pa_cons pe_int (pa_cons pe_int pa_nil)))) (pa_cons (pe_tup (pa_cons pe_str (pa_cons pe_int (pa_cons (pe_op op_sub (pv 1) pe_int) pa_nil)))) pa_nil)))))) pa_nil)))) (pss_cons (ps_set (i := 3) sc_L_deeds_cases.nd rfl (.inl rfl) (pe_lst (pa_cons (pe_tup (pa_cons (pe_op op_repA (pe_tup (pa_cons (pv 2) pa_nil)) pe_int) (pa_cons pe_bl pa_nil))) (pa_cons (pe_tup (pa_cons (pe_op op_repA (pe_tup (pa_cons (pv 2) pa_nil)) pe_int) (pa_cons pe_bl pa_nil))) (pa_cons (pe_tup (pa_cons (pe_tup (pa_cons (pe_tup (pa_cons pe_str (pa_cons pe_int (pa_cons pe_int (pa_cons (pe_op op_repA (pe_tup (pa_cons (pv 2) pa_nil)) pe_int) (pa_cons (pe_op op_repA (pe_tup (pa_cons (pv 2) pa_nil)) pe_int) pa_nil)))))) pa_nil)) (pa_cons pe_bl pa_nil))) pa_nil))))) (pss_cons (ps_expr (pe_bm PySem.F.plainAttrs_list PySem.F.slot_list_append PySem.F.type_list_append mt_append (pv 3) (pa_cons (pe_tup (pa_cons (pe_tup (pa_cons (pe_tup (pa_cons pe_str (pa_cons pe_int (pa_cons pe_int (pa_cons (pe_op op_repA (pe_tup (pa_cons (pv 2) pa_nil)) pe_int) (pa_cons (pe_op op_repA (pe_tup (pa_cons (pv 2) pa_nil)) pe_int) pa_nil)))))) pa_nil)) (pa_cons pe_bl pa_nil))) pa_nil))) (pss_cons (ps_expr (pe_bm PySem.F.plainAttrs_list PySem.F.slot_list_append PySem.F.type_list_append mt_append (pv 3) (pa_cons (pe_tup (pa_cons (pe_tup (pa_cons (pv 2) (pa_cons (pe_tup (pa_cons pe_str (pa_cons pe_int (pa_cons (pe_un un_neg pe_int) (pa_cons (pe_tup pa_nil) (pa_cons (pe_op op_repA (pe_tup (pa_cons (pv 2) pa_nil)) pe_int) pa_nil)))))) pa_nil))) (pa_cons pe_bl pa_nil))) pa_nil))) (pss_cons (ps_set (i := 4) sc_L_deeds_cases.nd rfl (.inl rfl) (pe_tup (pa_cons (pv 2) pa_nil))) (pss_cons (ps_for PassesOwn.never rfl (pi_range1 rfl B.range (pa_cons pe_int pa_nil)) (pg_name (i := 5) sc_L_deeds_cases.nd rfl (.inl rfl)) (pss_one (ps_set (i := 4) sc_L_deeds_cases.nd rfl (.inl rfl) (pe_cut (pe_ifExp (pt_cmpR op_eq (pe_c c_L_take hr (by omega) (by rfl) (pa_cons (pv 0) (pa_cons pe_int pa_nil))) pe_int (nomark _)) (pe_tup (pa_cons (pe_tup (pa_cons pe_str (pa_cons (pv 5) (pa_cons pe_int (pa_cons (pv 4) (pa_cons (pe_tup pa_nil) pa_nil)))))) pa_nil)) (pe_tup (pa_cons (pe_tup (pa_cons pe_str (pa_cons (pv 5) (pa_cons pe_int (pa_cons (pe_tup pa_nil) (pa_cons (pv 4) pa_nil)))))) pa_nil))))))) (pss_cons (ps_set (i := 6) sc_L_deeds_cases.nd rfl (.inl rfl) (pe_tup pa_nil)) (pss_cons (ps_for PassesOwn.never rfl (pi_range1 rfl B.range (pa_cons pe_int pa_nil)) (pg_name (i := 5) sc_L_deeds_cases.nd rfl (.inl rfl)) (pss_one (ps_set (i := 6) sc_L_deeds_cases.nd rfl (.inl rfl) (pe_tup (pa_cons (pe_tup (pa_cons pe_str (pa_cons (pv 5) (pa_cons pe_int (pa_cons (pv 6) (pa_cons (pe_tup pa_nil) pa_nil)))))) pa_nil))))) (pss_cons (ps_set (i := 3) sc_L_deeds_cases.nd rfl (.inl rfl) (pe_op op_cat (pv 3) (pe_lst (pa_cons (pe_tup (pa_cons (pv 4) (pa_cons pe_bl pa_nil))) (pa_cons (pe_tup (pa_cons (pe_tup (pa_cons (pe_tup (pa_cons pe_str (pa_cons pe_int (pa_cons pe_int (pa_cons (pv 4) (pa_cons (pe_tup pa_nil) pa_nil)))))) pa_nil)) (pa_cons pe_bl pa_nil))) (pa_cons (pe_tup (pa_cons (pv 6) (pa_cons pe_bl pa_nil))) pa_nil)))))) (pss_cons (ps_expr (pe_bm PySem.F.plainAttrs_list PySem.F.slot_list_append PySem.F.type_list_append mt_append (pv 3) (pa_cons (pe_tup (pa_cons (pe_tup (pa_cons (pe_tup (pa_cons pe_str (pa_cons pe_int (pa_cons pe_int (pa_cons (pe_tup pa_nil) (pa_cons (pv 6) pa_nil)))))) pa_nil)) (pa_cons pe_bl pa_nil))) pa_nil))) (pss_cons (ps_for PassesOwn.never rfl (pi_tup (pe_tup (pa_cons (pe_tup (pa_cons pe_str (pa_cons pe_int (pa_cons pe_int pa_nil)))) (pa_cons (pe_tup (pa_cons pe_str (pa_cons (pe_un un_neg pe_int) (pa_cons pe_int pa_nil)))) (pa_cons (pe_tup (pa_cons pe_str (pa_cons pe_int (pa_cons pe_int pa_nil)))) (pa_cons (pe_tup (pa_cons pe_str (pa_cons pe_int (pa_cons (pe_un un_neg pe_int) pa_nil)))) (pa_cons (pe_tup (pa_cons pe_str (pa_cons pe_int (pa_cons pe_int pa_nil)))) (pa_cons (pe_tup (pa_cons pe_str (pa_cons pe_int (pa_cons (pe_un un_neg pe_int) pa_nil)))) (pa_cons (pe_tup (pa_cons pe_str (pa_cons pe_int (pa_cons (pv 1) pa_nil)))) (pa_cons (pe_tup (pa_cons pe_str (pa_cons pe_int (pa_cons (pe_un un_neg pe_int) pa_nil)))) (pa_cons (pe_tup (pa_cons pe_str (pa_cons pe_int (pa_cons pe_int (pa_cons (pe_tup pa_nil) (pa_cons (pe_tup pa_nil) pa_nil)))))) (pa_cons (pe_tup (pa_cons pe_str (pa_cons pe_int (pa_cons pe_int (pa_cons (pe_tup pa_nil) (pa_cons (pe_tup pa_nil) pa_nil)))))) (pa_cons (pe_tup (pa_cons pe_str (pa_cons pe_int pa_nil))) pa_nil))))))))))))) (pg_name (i := 7) sc_L_deeds_cases.nd rfl (.inl rfl)) (pss_one (ps_expr (pe_bm PySem.F.plainAttrs_list PySem.F.slot_list_append PySem.F.type_list_append mt_append (pv 3) (pa_cons (pe_tup (pa_cons (pe_tup (pa_cons (pv 2) (pa_cons (pv 7) pa_nil))) (pa_cons pe_bl pa_nil))) pa_nil))))) (pss_one (ps_ret (pv 3)))))))))))))), ?_⟩
    have S := Same.refl H
    refine ⟨.ref a, rfl, ?_⟩
    refine ⟨_, rfl, ?_⟩
    refine ⟨(by show 3 ≤ sizeLine; decide), fun p1 n1 => ?_⟩
    try dsimp only at n1 ⊢
    have s1 := same_new (o := .tup [V.str "put", V.int 3, V.int (-1000)]) n1
    have d1 : Dp K (upd H p1 (.tup [V.str "put", V.int 3, V.int (-1000)])) (.ref p1) (.tuple [.str "put", .int 3, .int (-1000)]) := .tup (SqT.of upd_same) (.cons (.str _) (.cons (.int _) (.cons (.int _) .nil)))
    have S := S.trans s1
    generalize upd H p1 (.tup [V.str "put", V.int 3, V.int (-1000)]) = H1 at d1 S ⊢
    clear s1
    refine ⟨(by show 3 ≤ sizeLine; decide), fun p2 n2 => ?_⟩
    try dsimp only at n2 ⊢
    have s2 := same_new (o := .tup [V.str "add", V.int 0, V.int 1000]) n2
    have d2 : Dp K (upd H1 p2 (.tup [V.str "add", V.int 0, V.int 1000])) (.ref p2) (.tuple [.str "add", .int 0, .int 1000]) := .tup (SqT.of upd_same) (.cons (.str _) (.cons (.int _) (.cons (.int _) .nil)))
    have d1 := dp_same s2 d1
    have S := S.trans s2
    generalize upd H1 p2 (.tup [V.str "add", V.int 0, V.int 1000]) = H2 at d2 d1 S ⊢
    clear s2
    refine ⟨(by show 3 ≤ sizeLine; decide), fun p3 n3 => ?_⟩
    try dsimp only at n3 ⊢
    have s3 := same_new (o := .tup [V.str "copy", V.int 1, V.int 3]) n3
    have d3 : Dp K (upd H2 p3 (.tup [V.str "copy", V.int 1, V.int 3])) (.ref p3) (.tuple [.str "copy", .int 1, .int 3]) := .tup (SqT.of upd_same) (.cons (.str _) (.cons (.int _) (.cons (.int _) .nil)))
    have d1 := dp_same s3 d1
    have d2 := dp_same s3 d2
    have S := S.trans s3
    generalize upd H2 p3 (.tup [V.str "copy", V.int 1, V.int 3]) = H3 at d3 d1 d2 S ⊢
    clear s3
    refine ⟨(by show 3 ≤ sizeLine; decide), fun p4 n4 => ?_⟩
    try dsimp only at n4 ⊢
    have s4 := same_new (o := .tup [V.str "plus", V.int 3, V.int 0]) n4
    have d4 : Dp K (upd H3 p4 (.tup [V.str "plus", V.int 3, V.int 0])) (.ref p4) (.tuple [.str "plus", .int 3, .int 0]) := .tup (SqT.of upd_same) (.cons (.str _) (.cons (.int _) (.cons (.int _) .nil)))
    have d1 := dp_same s4 d1
    have d2 := dp_same s4 d2
    have d3 := dp_same s4 d3
    have S := S.trans s4
    generalize upd H3 p4 (.tup [V.str "plus", V.int 3, V.int 0]) = H4 at d4 d1 d2 d3 S ⊢
    clear s4
    refine ⟨_, rfl, _, _, rfl, rfl, ?_⟩
    refine ⟨(by show 3 ≤ sizeLine; decide), fun p5 n5 => ?_⟩
    try dsimp only at n5 ⊢
    have s5 := same_new (o := .tup [V.str "told", V.int 2, V.int ((many : Int) - 1)]) n5
    have d5 : Dp K (upd H4 p5 (.tup [V.str "told", V.int 2, V.int ((many : Int) - 1)])) (.ref p5) (.tuple [.str "told", .int 2, .int ((many : Int) - 1)]) := .tup (SqT.of upd_same) (.cons (.str _) (.cons (.int _) (.cons (.int _) .nil)))
    have d1 := dp_same s5 d1
    have d2 := dp_same s5 d2
    have d3 := dp_same s5 d3
    have d4 := dp_same s5 d4
    have S := S.trans s5
    generalize upd H4 p5 (.tup [V.str "told", V.int 2, V.int ((many : Int) - 1)]) = H5 at d5 d1 d2 d3 d4 S ⊢
    clear s5
    refine ⟨(by show 5 ≤ sizeLine; decide), fun l1 m1 => ?_⟩
    try dsimp only at m1 ⊢
    have s6 := same_new (o := .lst [V.ref p1, V.ref p2, V.ref p3, V.ref p4, V.ref p5]) m1
    have hl1 : (upd H5 l1 (.lst [V.ref p1, V.ref p2, V.ref p3, V.ref p4, V.ref p5])) l1 = some (.lst [V.ref p1, V.ref p2, V.ref p3, V.ref p4, V.ref p5]) := upd_same
    have hn1 := S.free m1
    have d1 := dp_same s6 d1
    have d2 := dp_same s6 d2
    have d3 := dp_same s6 d3
    have d4 := dp_same s6 d4
    have d5 := dp_same s6 d5
    have S := S.trans s6
    generalize upd H5 l1 (.lst [V.ref p1, V.ref p2, V.ref p3, V.ref p4, V.ref p5]) = Hl at hl1 S d1 d2 d3 d4 d5 ⊢
    have hhl := hh.same S
    refine ⟨a, l1, _, _, rfl, (hh.ne hn1).symm, hl1, (by show 0 < 5; decide), (by show 5 ≤ 1000; decide), hhl, by omega, fun H1 deed b1 hh1 hv => ?_⟩
    obtain ⟨dd, hdd, tdd, ddeed⟩ : ∃ dd, (dd ∈ fiveD many) ∧ tpo dd = true ∧ Dp K Hl deed dd := by
      have hv : deed ∈ ([V.ref p1, V.ref p2, V.ref p3, V.ref p4, V.ref p5] : List V) := hv
      simp only [List.mem_cons, List.not_mem_nil, or_false] at hv
      rcases hv with rfl | rfl | rfl | rfl | rfl
      · exact ⟨_, by simp [fiveD], rfl, d1⟩
      · exact ⟨_, by simp [fiveD], rfl, d2⟩
      · exact ⟨_, by simp [fiveD], rfl, d3⟩
      · exact ⟨_, by simp [fiveD], rfl, d4⟩
      · exact ⟨_, by simp [fiveD], rfl, d5⟩
    have ddeed := dp_but b1 hhl tdd ddeed
    have t_ddeed := tdd
    have b01 : But a H H1 := (But.of S).trans b1
    clear hl1 hhl S hv d1 d2 d3 d4 d5
    have S := Same.refl H1
    refine ⟨_, rfl, ?_⟩
    refine ⟨(by show 1 ≤ sizeLine; decide), fun p101 n101 => ?_⟩
    try dsimp only at n101 ⊢
    have s101 := same_new (o := .tup [deed]) n101
    have d101 : Dp K (upd H1 p101 (.tup [deed])) (.ref p101) (.tuple [dd]) := .tup (SqT.of upd_same) (.cons (dp_same s101 ddeed) .nil)
    have q101 : SqT K (upd H1 p101 (.tup [deed])) p101 [deed] := SqT.of upd_same
    have ddeed := dp_same s101 ddeed
    have S := S.trans s101
    generalize upd H1 p101 (.tup [deed]) = H101 at d101 q101 ddeed S ⊢
    clear s101
    refine ⟨_, 20, [deed], rfl, rfl, q101, (by decide), (by decide), (by show 1 ≤ 1000; decide), fun H102 p102 s102 q102 => ?_⟩
    have d102 : Dp K H102 (V.ref p102) (.tuple (List.replicate 20 dd)) := .tup q102 (dp_rep (dp_same s102 ddeed) 20)
    have ddeed := dp_same s102 ddeed
    have S := S.trans s102
    refine ⟨(by show 2 ≤ sizeLine; decide), fun p103 n103 => ?_⟩
    try dsimp only at n103 ⊢
    have s103 := same_new (o := .tup [V.ref p102, V.bl true]) n103
    have d103 : Dp K (upd H102 p103 (.tup [V.ref p102, V.bl true])) (.ref p103) (.tuple [.tuple (List.replicate 20 dd), .bool true]) := .tup (SqT.of upd_same) (.cons (dp_same s103 d102) (.cons (.bl _) .nil))
    have ddeed := dp_same s103 ddeed
    have S := S.trans s103
    generalize upd H102 p103 (.tup [V.ref p102, V.bl true]) = H103 at d103 ddeed S ⊢
    clear s103
    refine ⟨_, rfl, ?_⟩
    refine ⟨(by show 1 ≤ sizeLine; decide), fun p104 n104 => ?_⟩
    try dsimp only at n104 ⊢
    have s104 := same_new (o := .tup [deed]) n104
    have d104 : Dp K (upd H103 p104 (.tup [deed])) (.ref p104) (.tuple [dd]) := .tup (SqT.of upd_same) (.cons (dp_same s104 ddeed) .nil)
    have q104 : SqT K (upd H103 p104 (.tup [deed])) p104 [deed] := SqT.of upd_same
    have ddeed := dp_same s104 ddeed
    have d103 := dp_same s104 d103
    have S := S.trans s104
    generalize upd H103 p104 (.tup [deed]) = H104 at d104 q104 ddeed d103 S ⊢
    clear s104
    refine ⟨_, 21, [deed], rfl, rfl, q104, (by decide), (by decide), (by show 1 ≤ 1000; decide), fun H105 p105 s105 q105 => ?_⟩
    have d105 : Dp K H105 (V.ref p105) (.tuple (List.replicate 21 dd)) := .tup q105 (dp_rep (dp_same s105 ddeed) 21)
    have ddeed := dp_same s105 ddeed
    have d103 := dp_same s105 d103
    have S := S.trans s105
    refine ⟨(by show 2 ≤ sizeLine; decide), fun p106 n106 => ?_⟩
    try dsimp only at n106 ⊢
    have s106 := same_new (o := .tup [V.ref p105, V.bl false]) n106
    have d106 : Dp K (upd H105 p106 (.tup [V.ref p105, V.bl false])) (.ref p106) (.tuple [.tuple (List.replicate 21 dd), .bool false]) := .tup (SqT.of upd_same) (.cons (dp_same s106 d105) (.cons (.bl _) .nil))
    have ddeed := dp_same s106 ddeed
    have d103 := dp_same s106 d103
    have S := S.trans s106
    generalize upd H105 p106 (.tup [V.ref p105, V.bl false]) = H106 at d106 ddeed d103 S ⊢
    clear s106
    refine ⟨_, rfl, ?_⟩
    refine ⟨(by show 1 ≤ sizeLine; decide), fun p107 n107 => ?_⟩
    try dsimp only at n107 ⊢
    have s107 := same_new (o := .tup [deed]) n107
    have d107 : Dp K (upd H106 p107 (.tup [deed])) (.ref p107) (.tuple [dd]) := .tup (SqT.of upd_same) (.cons (dp_same s107 ddeed) .nil)
    have q107 : SqT K (upd H106 p107 (.tup [deed])) p107 [deed] := SqT.of upd_same
    have ddeed := dp_same s107 ddeed
    have d103 := dp_same s107 d103
    have d106 := dp_same s107 d106
    have S := S.trans s107
    generalize upd H106 p107 (.tup [deed]) = H107 at d107 q107 ddeed d103 d106 S ⊢
    clear s107
    refine ⟨_, 9, [deed], rfl, rfl, q107, (by decide), (by decide), (by show 1 ≤ 1000; decide), fun H108 p108 s108 q108 => ?_⟩
    have d108 : Dp K H108 (V.ref p108) (.tuple (List.replicate 9 dd)) := .tup q108 (dp_rep (dp_same s108 ddeed) 9)
    have ddeed := dp_same s108 ddeed
    have d103 := dp_same s108 d103
    have d106 := dp_same s108 d106
    have S := S.trans s108
    refine ⟨_, rfl, ?_⟩
    refine ⟨(by show 1 ≤ sizeLine; decide), fun p109 n109 => ?_⟩
    try dsimp only at n109 ⊢
    have s109 := same_new (o := .tup [deed]) n109
    have d109 : Dp K (upd H108 p109 (.tup [deed])) (.ref p109) (.tuple [dd]) := .tup (SqT.of upd_same) (.cons (dp_same s109 ddeed) .nil)
    have q109 : SqT K (upd H108 p109 (.tup [deed])) p109 [deed] := SqT.of upd_same
    have ddeed := dp_same s109 ddeed
    have d103 := dp_same s109 d103
    have d106 := dp_same s109 d106
    have d108 := dp_same s109 d108
    have S := S.trans s109
    generalize upd H108 p109 (.tup [deed]) = H109 at d109 q109 ddeed d103 d106 d108 S ⊢
    clear s109
    refine ⟨_, 10, [deed], rfl, rfl, q109, (by decide), (by decide), (by show 1 ≤ 1000; decide), fun H110 p110 s110 q110 => ?_⟩
    have d110 : Dp K H110 (V.ref p110) (.tuple (List.replicate 10 dd)) := .tup q110 (dp_rep (dp_same s110 ddeed) 10)
    have ddeed := dp_same s110 ddeed
    have d103 := dp_same s110 d103
    have d106 := dp_same s110 d106
    have d108 := dp_same s110 d108
    have S := S.trans s110
    refine ⟨(by show 5 ≤ sizeLine; decide), fun p111 n111 => ?_⟩
    try dsimp only at n111 ⊢
    have s111 := same_new (o := .tup [V.str "when", V.int 0, V.int 0, V.ref p108, V.ref p110]) n111
    have d111 : Dp K (upd H110 p111 (.tup [V.str "when", V.int 0, V.int 0, V.ref p108, V.ref p110])) (.ref p111) (.tuple [.str "when", .int 0, .int 0, .tuple (List.replicate 9 dd), .tuple (List.replicate 10 dd)]) := .tup (SqT.of upd_same) (.cons (.str _) (.cons (.int _) (.cons (.int _) (.cons (dp_same s111 d108) (.cons (dp_same s111 d110) .nil)))))
    have ddeed := dp_same s111 ddeed
    have d103 := dp_same s111 d103
    have d106 := dp_same s111 d106
    have S := S.trans s111
    generalize upd H110 p111 (.tup [V.str "when", V.int 0, V.int 0, V.ref p108, V.ref p110]) = H111 at d111 ddeed d103 d106 S ⊢
    clear s111
    refine ⟨(by show 1 ≤ sizeLine; decide), fun p112 n112 => ?_⟩
    try dsimp only at n112 ⊢
    have s112 := same_new (o := .tup [V.ref p111]) n112
    have d112 : Dp K (upd H111 p112 (.tup [V.ref p111])) (.ref p112) (.tuple [.tuple [.str "when", .int 0, .int 0, .tuple (List.replicate 9 dd), .tuple (List.replicate 10 dd)]]) := .tup (SqT.of upd_same) (.cons (dp_same s112 d111) .nil)
    have ddeed := dp_same s112 ddeed
    have d103 := dp_same s112 d103
    have d106 := dp_same s112 d106
    have S := S.trans s112
    generalize upd H111 p112 (.tup [V.ref p111]) = H112 at d112 ddeed d103 d106 S ⊢
    clear s112
    refine ⟨(by show 2 ≤ sizeLine; decide), fun p113 n113 => ?_⟩
    try dsimp only at n113 ⊢
    have s113 := same_new (o := .tup [V.ref p112, V.bl true]) n113
    have d113 : Dp K (upd H112 p113 (.tup [V.ref p112, V.bl true])) (.ref p113) (.tuple [.tuple [.tuple [.str "when", .int 0, .int 0, .tuple (List.replicate 9 dd), .tuple (List.replicate 10 dd)]], .bool true]) := .tup (SqT.of upd_same) (.cons (dp_same s113 d112) (.cons (.bl _) .nil))
    have ddeed := dp_same s113 ddeed
    have d103 := dp_same s113 d103
    have d106 := dp_same s113 d106
    have S := S.trans s113
    generalize upd H112 p113 (.tup [V.ref p112, V.bl true]) = H113 at d113 ddeed d103 d106 S ⊢
    clear s113
    refine ⟨(by show 3 ≤ sizeLine; decide), fun p114 n114 => ?_⟩
    try dsimp only at n114 ⊢
    have s114 := same_new (o := .lst [V.ref p103, V.ref p106, V.ref p113]) n114
    have hn114 := S.free n114
    have hl114 : (upd H113 p114 (.lst [V.ref p103, V.ref p106, V.ref p113])) p114 = some (.lst [V.ref p103, V.ref p106, V.ref p113]) := upd_same
    have cl114 : ∀ v ∈ ([V.ref p103, V.ref p106, V.ref p113] : List V), CaseB K many (upd H113 p114 (.lst [V.ref p103, V.ref p106, V.ref p113])) v := fun v hv => by
      simp only [List.mem_cons, List.not_mem_nil, or_false] at hv
      rcases hv with rfl | rfl | rfl
      · exact mk_caseB (cb0 hm hdd) (dp_same s114 d103)
      · exact mk_caseB (cb1 hm hdd) (dp_same s114 d106)
      · exact mk_caseB (cb2 hm hdd) (dp_same s114 d113)
    have ddeed := dp_same s114 ddeed
    have S := S.trans s114
    generalize upd H113 p114 (.lst [V.ref p103, V.ref p106, V.ref p113]) = H114 at hl114 cl114 ddeed S ⊢
    clear s114
    have hu114 : ([V.ref p103, V.ref p106, V.ref p113] : List V).length ≤ 3 := by show 3 ≤ 3; decide
    generalize ([V.ref p103, V.ref p106, V.ref p113] : List V) = us114 at hl114 cl114 hu114
    refine ⟨_, rfl, .inl ⟨rfl, _, SqL.of hl114⟩, ?_⟩
    refine ⟨_, rfl, ?_⟩
    refine ⟨(by show 1 ≤ sizeLine; decide), fun p115 n115 => ?_⟩
    try dsimp only at n115 ⊢
    have s115 := same_new (o := .tup [deed]) n115
    have d115 : Dp K (upd H114 p115 (.tup [deed])) (.ref p115) (.tuple [dd]) := .tup (SqT.of upd_same) (.cons (dp_same s115 ddeed) .nil)
    have q115 : SqT K (upd H114 p115 (.tup [deed])) p115 [deed] := SqT.of upd_same
    have ddeed := dp_same s115 ddeed
    have hl114 := s115 _ _ hl114
    have cl114 := fun v hv => (cl114 v hv).same s115
    have S := S.trans s115
    generalize upd H114 p115 (.tup [deed]) = H115 at d115 q115 ddeed hl114 cl114 S ⊢
    clear s115
    refine ⟨_, 10, [deed], rfl, rfl, q115, (by decide), (by decide), (by show 1 ≤ 1000; decide), fun H116 p116 s116 q116 => ?_⟩
    have d116 : Dp K H116 (V.ref p116) (.tuple (List.replicate 10 dd)) := .tup q116 (dp_rep (dp_same s116 ddeed) 10)
    have ddeed := dp_same s116 ddeed
    have hl114 := s116 _ _ hl114
    have cl114 := fun v hv => (cl114 v hv).same s116
    have S := S.trans s116
    refine ⟨_, rfl, ?_⟩
    refine ⟨(by show 1 ≤ sizeLine; decide), fun p117 n117 => ?_⟩
    try dsimp only at n117 ⊢
    have s117 := same_new (o := .tup [deed]) n117
    have d117 : Dp K (upd H116 p117 (.tup [deed])) (.ref p117) (.tuple [dd]) := .tup (SqT.of upd_same) (.cons (dp_same s117 ddeed) .nil)
    have q117 : SqT K (upd H116 p117 (.tup [deed])) p117 [deed] := SqT.of upd_same
    have ddeed := dp_same s117 ddeed
    have d116 := dp_same s117 d116
    have hl114 := s117 _ _ hl114
    have cl114 := fun v hv => (cl114 v hv).same s117
    have S := S.trans s117
    generalize upd H116 p117 (.tup [deed]) = H117 at d117 q117 ddeed d116 hl114 cl114 S ⊢
    clear s117
    refine ⟨_, 10, [deed], rfl, rfl, q117, (by decide), (by decide), (by show 1 ≤ 1000; decide), fun H118 p118 s118 q118 => ?_⟩
    have d118 : Dp K H118 (V.ref p118) (.tuple (List.replicate 10 dd)) := .tup q118 (dp_rep (dp_same s118 ddeed) 10)
    have ddeed := dp_same s118 ddeed
    have d116 := dp_same s118 d116
    have hl114 := s118 _ _ hl114
    have cl114 := fun v hv => (cl114 v hv).same s118
    have S := S.trans s118
    refine ⟨(by show 5 ≤ sizeLine; decide), fun p119 n119 => ?_⟩
    try dsimp only at n119 ⊢
    have s119 := same_new (o := .tup [V.str "when", V.int 0, V.int 0, V.ref p116, V.ref p118]) n119
    have d119 : Dp K (upd H118 p119 (.tup [V.str "when", V.int 0, V.int 0, V.ref p116, V.ref p118])) (.ref p119) (.tuple [.str "when", .int 0, .int 0, .tuple (List.replicate 10 dd), .tuple (List.replicate 10 dd)]) := .tup (SqT.of upd_same) (.cons (.str _) (.cons (.int _) (.cons (.int _) (.cons (dp_same s119 d116) (.cons (dp_same s119 d118) .nil)))))
    have ddeed := dp_same s119 ddeed
    have hl114 := s119 _ _ hl114
    have cl114 := fun v hv => (cl114 v hv).same s119
    have S := S.trans s119
    generalize upd H118 p119 (.tup [V.str "when", V.int 0, V.int 0, V.ref p116, V.ref p118]) = H119 at d119 ddeed hl114 cl114 S ⊢
    clear s119
    refine ⟨(by show 1 ≤ sizeLine; decide), fun p120 n120 => ?_⟩
    try dsimp only at n120 ⊢
    have s120 := same_new (o := .tup [V.ref p119]) n120
    have d120 : Dp K (upd H119 p120 (.tup [V.ref p119])) (.ref p120) (.tuple [.tuple [.str "when", .int 0, .int 0, .tuple (List.replicate 10 dd), .tuple (List.replicate 10 dd)]]) := .tup (SqT.of upd_same) (.cons (dp_same s120 d119) .nil)
    have ddeed := dp_same s120 ddeed
    have hl114 := s120 _ _ hl114
    have cl114 := fun v hv => (cl114 v hv).same s120
    have S := S.trans s120
    generalize upd H119 p120 (.tup [V.ref p119]) = H120 at d120 ddeed hl114 cl114 S ⊢
    clear s120
    refine ⟨(by show 2 ≤ sizeLine; decide), fun p121 n121 => ?_⟩
    try dsimp only at n121 ⊢
    have s121 := same_new (o := .tup [V.ref p120, V.bl false]) n121
    have d121 : Dp K (upd H120 p121 (.tup [V.ref p120, V.bl false])) (.ref p121) (.tuple [.tuple [.tuple [.str "when", .int 0, .int 0, .tuple (List.replicate 10 dd), .tuple (List.replicate 10 dd)]], .bool false]) := .tup (SqT.of upd_same) (.cons (dp_same s121 d120) (.cons (.bl _) .nil))
    have ddeed := dp_same s121 ddeed
    have hl114 := s121 _ _ hl114
    have cl114 := fun v hv => (cl114 v hv).same s121
    have S := S.trans s121
    generalize upd H120 p121 (.tup [V.ref p120, V.bl false]) = H121 at d121 ddeed hl114 cl114 S ⊢
    clear s121
    refine ⟨p114, _, _, rfl, rfl, hl114, small1000 (by omega), ?_⟩
    have hl122 : (upd H121 p114 (.lst (us114 ++ [V.ref p121]))) p114 = some (.lst (us114 ++ [V.ref p121])) := upd_same
    have cl122 : ∀ v ∈ us114 ++ [V.ref p121], CaseB K many (upd H121 p114 (.lst (us114 ++ [V.ref p121]))) v := fun v hv => (List.mem_append.mp hv).elim (fun h => (cl114 v h).put hl114) (fun h => by rw [List.mem_singleton.mp h]; exact CaseB.put (mk_caseB (cb3 hm hdd) d121) hl114)
    have hu122 : (us114 ++ [V.ref p121]).length ≤ 4 := by rw [List.length_append]; show us114.length + 1 ≤ 4; omega
    have ddeed := dp_imp (fun _ _ h => put_sqt (us' := (us114 ++ [V.ref p121])) hl114 h) t_ddeed ddeed
    have S := put_new (o := .lst (us114 ++ [V.ref p121])) hn114 S
    generalize upd H121 p114 (.lst (us114 ++ [V.ref p121])) = H122 at hl122 cl122 ddeed S ⊢
    generalize us114 ++ [V.ref p121] = us122 at hl122 cl122 hu122
    clear hl114 cl114 hu114
    refine ⟨_, rfl, .inl ⟨rfl, _, SqL.of hl122⟩, ?_⟩
    refine ⟨_, rfl, ?_⟩
    refine ⟨_, rfl, ?_⟩
    refine ⟨(by show 0 ≤ sizeLine; decide), fun p123 n123 => ?_⟩
    try dsimp only at n123 ⊢
    have s123 := same_new (o := .tup []) n123
    have d123 : Dp K (upd H122 p123 (.tup [])) (.ref p123) (.tuple []) := .tup (SqT.of upd_same) .nil
    have ddeed := dp_same s123 ddeed
    have hl122 := s123 _ _ hl122
    have cl122 := fun v hv => (cl122 v hv).same s123
    have S := S.trans s123
    generalize upd H122 p123 (.tup []) = H123 at d123 ddeed hl122 cl122 S ⊢
    clear s123
    refine ⟨_, rfl, ?_⟩
    refine ⟨(by show 1 ≤ sizeLine; decide), fun p124 n124 => ?_⟩
    try dsimp only at n124 ⊢
    have s124 := same_new (o := .tup [deed]) n124
    have d124 : Dp K (upd H123 p124 (.tup [deed])) (.ref p124) (.tuple [dd]) := .tup (SqT.of upd_same) (.cons (dp_same s124 ddeed) .nil)
    have q124 : SqT K (upd H123 p124 (.tup [deed])) p124 [deed] := SqT.of upd_same
    have ddeed := dp_same s124 ddeed
    have d123 := dp_same s124 d123
    have hl122 := s124 _ _ hl122
    have cl122 := fun v hv => (cl122 v hv).same s124
    have S := S.trans s124
    generalize upd H123 p124 (.tup [deed]) = H124 at d124 q124 ddeed d123 hl122 cl122 S ⊢
    clear s124
    refine ⟨_, 18, [deed], rfl, rfl, q124, (by decide), (by decide), (by show 1 ≤ 1000; decide), fun H125 p125 s125 q125 => ?_⟩
    have d125 : Dp K H125 (V.ref p125) (.tuple (List.replicate 18 dd)) := .tup q125 (dp_rep (dp_same s125 ddeed) 18)
    have ddeed := dp_same s125 ddeed
    have d123 := dp_same s125 d123
    have hl122 := s125 _ _ hl122
    have cl122 := fun v hv => (cl122 v hv).same s125
    have S := S.trans s125
    refine ⟨(by show 5 ≤ sizeLine; decide), fun p126 n126 => ?_⟩
    try dsimp only at n126 ⊢
    have s126 := same_new (o := .tup [V.str "when", V.int 3, V.int (-1000), V.ref p123, V.ref p125]) n126
    have d126 : Dp K (upd H125 p126 (.tup [V.str "when", V.int 3, V.int (-1000), V.ref p123, V.ref p125])) (.ref p126) (.tuple [.str "when", .int 3, .int (-1000), .tuple [], .tuple (List.replicate 18 dd)]) := .tup (SqT.of upd_same) (.cons (.str _) (.cons (.int _) (.cons (.int _) (.cons (dp_same s126 d123) (.cons (dp_same s126 d125) .nil)))))
    have ddeed := dp_same s126 ddeed
    have hl122 := s126 _ _ hl122
    have cl122 := fun v hv => (cl122 v hv).same s126
    have S := S.trans s126
    generalize upd H125 p126 (.tup [V.str "when", V.int 3, V.int (-1000), V.ref p123, V.ref p125]) = H126 at d126 ddeed hl122 cl122 S ⊢
    clear s126
    refine ⟨(by show 2 ≤ sizeLine; decide), fun p127 n127 => ?_⟩
    try dsimp only at n127 ⊢
    have s127 := same_new (o := .tup [deed, V.ref p126]) n127
    have d127 : Dp K (upd H126 p127 (.tup [deed, V.ref p126])) (.ref p127) (.tuple [dd, .tuple [.str "when", .int 3, .int (-1000), .tuple [], .tuple (List.replicate 18 dd)]]) := .tup (SqT.of upd_same) (.cons (dp_same s127 ddeed) (.cons (dp_same s127 d126) .nil))
    have ddeed := dp_same s127 ddeed
    have hl122 := s127 _ _ hl122
    have cl122 := fun v hv => (cl122 v hv).same s127
    have S := S.trans s127
    generalize upd H126 p127 (.tup [deed, V.ref p126]) = H127 at d127 ddeed hl122 cl122 S ⊢
    clear s127
    refine ⟨(by show 2 ≤ sizeLine; decide), fun p128 n128 => ?_⟩
    try dsimp only at n128 ⊢
    have s128 := same_new (o := .tup [V.ref p127, V.bl true]) n128
    have d128 : Dp K (upd H127 p128 (.tup [V.ref p127, V.bl true])) (.ref p128) (.tuple [.tuple [dd, .tuple [.str "when", .int 3, .int (-1000), .tuple [], .tuple (List.replicate 18 dd)]], .bool true]) := .tup (SqT.of upd_same) (.cons (dp_same s128 d127) (.cons (.bl _) .nil))
    have ddeed := dp_same s128 ddeed
    have hl122 := s128 _ _ hl122
    have cl122 := fun v hv => (cl122 v hv).same s128
    have S := S.trans s128
    generalize upd H127 p128 (.tup [V.ref p127, V.bl true]) = H128 at d128 ddeed hl122 cl122 S ⊢
    clear s128
    refine ⟨p114, _, _, rfl, rfl, hl122, small1000 (by omega), ?_⟩
    have hl129 : (upd H128 p114 (.lst (us122 ++ [V.ref p128]))) p114 = some (.lst (us122 ++ [V.ref p128])) := upd_same
    have cl129 : ∀ v ∈ us122 ++ [V.ref p128], CaseB K many (upd H128 p114 (.lst (us122 ++ [V.ref p128]))) v := fun v hv => (List.mem_append.mp hv).elim (fun h => (cl122 v h).put hl122) (fun h => by rw [List.mem_singleton.mp h]; exact CaseB.put (mk_caseB (cb4 hm hdd) d128) hl122)
    have hu129 : (us122 ++ [V.ref p128]).length ≤ 5 := by rw [List.length_append]; show us122.length + 1 ≤ 5; omega
    have ddeed := dp_imp (fun _ _ h => put_sqt (us' := (us122 ++ [V.ref p128])) hl122 h) t_ddeed ddeed
    have S := put_new (o := .lst (us122 ++ [V.ref p128])) hn114 S
    generalize upd H128 p114 (.lst (us122 ++ [V.ref p128])) = H129 at hl129 cl129 ddeed S ⊢
    generalize us122 ++ [V.ref p128] = us129 at hl129 cl129 hu129
    clear hl122 cl122 hu122
    have hh2 := hh1.same S
    have nls : p114 ≠ a := (hh1.ne hn114)
    have b02 : But a H H129 := b01.trans (But.of S)
    refine ⟨_, rfl, ?_⟩
    refine ⟨(by show 1 ≤ sizeLine; decide), fun p130 n130 => ?_⟩
    try dsimp only at n130 ⊢
    have s130 := same_new (o := .tup [deed]) n130
    have d130 : Dp K (upd H129 p130 (.tup [deed])) (.ref p130) (.tuple [dd]) := .tup (SqT.of upd_same) (.cons (dp_same s130 ddeed) .nil)
    have ddeed := dp_same s130 ddeed
    have hl129 := s130 _ _ hl129
    have cl129 := fun v hv => (cl129 v hv).same s130
    have S := S.trans s130
    generalize upd H129 p130 (.tup [deed]) = H130 at d130 ddeed hl129 cl129 S ⊢
    clear s130
    have hh3 : HandAt H130 a _ := hh1.same S
    have b03 : But a H H130 := b01.trans (But.of S)
    refine ⟨3, rfl, by decide, by decide, ?_⟩
    refine for_range (n := (3 : Int).toNat) (fun i σ H' => ∃ (nv : V) (bs : List Bool) (y5 : Option V), σ = [some (.ref a), some (.int (many : Int)), some deed, some (.ref p114), some nv, y5, none, none] ∧ But a H130 H' ∧ HandAt H' a (n + 1 + i) ∧ Dp K H' nv (nstD dd bs) ∧ bs.length = i) ⟨V.ref p130, [], none, rfl, fun _ _ _ h => h, hh3, d130, rfl⟩ ?_ ?_
    · rintro i σ H4 hi ⟨nv, bs, y5, rfl, b4, hh4, dnv, hbl⟩
      have hi3 : i < 3 := hi
      refine ⟨fun v H' => ∃ bs, But a H130 H' ∧ HandAt H' a (n + 1 + (i + 1)) ∧ Dp K H' v (nstD dd bs) ∧ bs.length = i + 1, ?_, ?_⟩
      · refine ⟨.ref a, rfl, a, 2, _, rfl, by decide, by decide, hh4, by omega, fun H5 r5 b5 hh5 _ _ => ⟨rfl, _, rfl, iteD (fun c => ?_) (fun c => ?_)⟩⟩
        · have dnv := dp_but b5 hh4 (nst_tpo tdd bs) dnv
          have S := Same.refl H5
          refine ⟨_, rfl, ?_⟩
          refine ⟨_, rfl, ?_⟩
          refine ⟨(by show 0 ≤ sizeLine; decide), fun p201 n201 => ?_⟩
          try dsimp only at n201 ⊢
          have s201 := same_new (o := .tup []) n201
          have d201 : Dp K (upd H5 p201 (.tup [])) (.ref p201) (.tuple []) := .tup (SqT.of upd_same) .nil
          have dnv := dp_same s201 dnv
          have S := S.trans s201
          generalize upd H5 p201 (.tup []) = H201 at d201 dnv S ⊢
          clear s201
          refine ⟨(by show 5 ≤ sizeLine; decide), fun p202 n202 => ?_⟩
          try dsimp only at n202 ⊢
          have s202 := same_new (o := .tup [V.str "when", V.int (0 + (i : Int)), V.int 1000, nv, V.ref p201]) n202
          have d202 : Dp K (upd H201 p202 (.tup [V.str "when", V.int (0 + (i : Int)), V.int 1000, nv, V.ref p201])) (.ref p202) (.tuple [.str "when", .int (0 + (i : Int)), .int 1000, nstD dd bs, .tuple []]) := .tup (SqT.of upd_same) (.cons (.str _) (.cons (.int _) (.cons (.int _) (.cons (dp_same s202 dnv) (.cons (dp_same s202 d201) .nil)))))
          have dnv := dp_same s202 dnv
          have S := S.trans s202
          generalize upd H201 p202 (.tup [V.str "when", V.int (0 + (i : Int)), V.int 1000, nv, V.ref p201]) = H202 at d202 dnv S ⊢
          clear s202
          refine ⟨(by show 1 ≤ sizeLine; decide), fun p203 n203 => ?_⟩
          try dsimp only at n203 ⊢
          have s203 := same_new (o := .tup [V.ref p202]) n203
          have d203 : Dp K (upd H202 p203 (.tup [V.ref p202])) (.ref p203) (.tuple [.tuple [.str "when", .int (0 + (i : Int)), .int 1000, nstD dd bs, .tuple []]]) := .tup (SqT.of upd_same) (.cons (dp_same s203 d202) .nil)
          have dnv := dp_same s203 dnv
          have S := S.trans s203
          generalize upd H202 p203 (.tup [V.ref p202]) = H203 at d203 dnv S ⊢
          clear s203
          refine ⟨true :: bs, (b4.trans b5).trans (But.of S), (hh5.same S).le (by omega), ?_, by rw [List.length_cons, hbl]⟩
          have e : (0 : Int) + (i : Int) = ((bs.length : Nat) : Int) := by rw [hbl, Int.zero_add]
          rw [e] at d203
          exact d203
        · have dnv := dp_but b5 hh4 (nst_tpo tdd bs) dnv
          have S := Same.refl H5
          refine ⟨_, rfl, ?_⟩
          refine ⟨(by show 0 ≤ sizeLine; decide), fun p201 n201 => ?_⟩
          try dsimp only at n201 ⊢
          have s201 := same_new (o := .tup []) n201
          have d201 : Dp K (upd H5 p201 (.tup [])) (.ref p201) (.tuple []) := .tup (SqT.of upd_same) .nil
          have dnv := dp_same s201 dnv
          have S := S.trans s201
          generalize upd H5 p201 (.tup []) = H201 at d201 dnv S ⊢
          clear s201
          refine ⟨_, rfl, ?_⟩
          refine ⟨(by show 5 ≤ sizeLine; decide), fun p202 n202 => ?_⟩
          try dsimp only at n202 ⊢
          have s202 := same_new (o := .tup [V.str "when", V.int (0 + (i : Int)), V.int 0, V.ref p201, nv]) n202
          have d202 : Dp K (upd H201 p202 (.tup [V.str "when", V.int (0 + (i : Int)), V.int 0, V.ref p201, nv])) (.ref p202) (.tuple [.str "when", .int (0 + (i : Int)), .int 0, .tuple [], nstD dd bs]) := .tup (SqT.of upd_same) (.cons (.str _) (.cons (.int _) (.cons (.int _) (.cons (dp_same s202 d201) (.cons (dp_same s202 dnv) .nil)))))
          have dnv := dp_same s202 dnv
          have S := S.trans s202
          generalize upd H201 p202 (.tup [V.str "when", V.int (0 + (i : Int)), V.int 0, V.ref p201, nv]) = H202 at d202 dnv S ⊢
          clear s202
          refine ⟨(by show 1 ≤ sizeLine; decide), fun p203 n203 => ?_⟩
          try dsimp only at n203 ⊢
          have s203 := same_new (o := .tup [V.ref p202]) n203
          have d203 : Dp K (upd H202 p203 (.tup [V.ref p202])) (.ref p203) (.tuple [.tuple [.str "when", .int (0 + (i : Int)), .int 0, .tuple [], nstD dd bs]]) := .tup (SqT.of upd_same) (.cons (dp_same s203 d202) .nil)
          have dnv := dp_same s203 dnv
          have S := S.trans s203
          generalize upd H202 p203 (.tup [V.ref p202]) = H203 at d203 dnv S ⊢
          clear s203
          refine ⟨false :: bs, (b4.trans b5).trans (But.of S), (hh5.same S).le (by omega), ?_, by rw [List.length_cons, hbl]⟩
          have e : (0 : Int) + (i : Int) = ((bs.length : Nat) : Int) := by rw [hbl, Int.zero_add]
          rw [e] at d203
          exact d203
      · rintro v H' ⟨bs, h1, h2, h3, h4⟩
        exact ⟨v, bs, _, rfl, h1, h2, h3, h4⟩
    rintro σ H4 ⟨nv, bs, y5, rfl, b4, hh4, dnv, hbl⟩
    have hbl : bs.length = 3 := hbl
    have ddeed := dp_but b4 hh3 tdd ddeed
    have hl := b4 _ _ nls hl129
    have cl : ∀ v ∈ us129, CaseB K many H4 v := fun v hv => (cl129 v hv).imp fun _ _ h => b4.sq hh3 h
    have hn4 : H4 p114 ≠ none := by rw [hl]; intro z; cases z
    have b04 := b03.trans b4
    have t_dnv := nst_tpo tdd bs
    clear hh2 hh3
    refine ⟨(by show 0 ≤ sizeLine; decide), fun e0 ne0 => ?_⟩
    have se0 := same_new (o := .tup []) ne0
    have dbv : Dp K (upd H4 e0 (.tup [])) (.ref e0) (barD 0) := .tup (SqT.of upd_same) .nil
    have hh5 := hh4.same se0
    refine ⟨4, rfl, by decide, by decide, ?_⟩
    refine for_range (n := (4 : Int).toNat) (fun i σ H' => ∃ (bv : V) (y5 : Option V), σ = [some (.ref a), some (.int (many : Int)), some deed, some (.ref p114), some nv, y5, some bv, none] ∧ Same H4 H' ∧ Dp K H' bv (barD i)) ⟨.ref e0, y5, rfl, se0, dbv⟩ ?_ ?_
    · rintro i σ H5 hi ⟨bv, y5, rfl, S, dbv⟩
      refine ⟨_, rfl, ?_⟩
      refine ⟨_, rfl, ?_⟩
      refine ⟨(by show 0 ≤ sizeLine; decide), fun p231 n231 => ?_⟩
      try dsimp only at n231 ⊢
      have s231 := same_new (o := .tup []) n231
      have d231 : Dp K (upd H5 p231 (.tup [])) (.ref p231) (.tuple []) := .tup (SqT.of upd_same) .nil
      have dbv := dp_same s231 dbv
      have S := S.trans s231
      generalize upd H5 p231 (.tup []) = H231 at d231 dbv S ⊢
      clear s231
      refine ⟨(by show 5 ≤ sizeLine; decide), fun p232 n232 => ?_⟩
      try dsimp only at n232 ⊢
      have s232 := same_new (o := .tup [V.str "when", V.int (0 + (i : Int)), V.int 0, bv, V.ref p231]) n232
      have d232 : Dp K (upd H231 p232 (.tup [V.str "when", V.int (0 + (i : Int)), V.int 0, bv, V.ref p231])) (.ref p232) (.tuple [.str "when", .int (0 + (i : Int)), .int 0, barD i, .tuple []]) := .tup (SqT.of upd_same) (.cons (.str _) (.cons (.int _) (.cons (.int _) (.cons (dp_same s232 dbv) (.cons (dp_same s232 d231) .nil)))))
      have dbv := dp_same s232 dbv
      have S := S.trans s232
      generalize upd H231 p232 (.tup [V.str "when", V.int (0 + (i : Int)), V.int 0, bv, V.ref p231]) = H232 at d232 dbv S ⊢
      clear s232
      refine ⟨(by show 1 ≤ sizeLine; decide), fun p233 n233 => ?_⟩
      try dsimp only at n233 ⊢
      have s233 := same_new (o := .tup [V.ref p232]) n233
      have d233 : Dp K (upd H232 p233 (.tup [V.ref p232])) (.ref p233) (.tuple [.tuple [.str "when", .int (0 + (i : Int)), .int 0, barD i, .tuple []]]) := .tup (SqT.of upd_same) (.cons (dp_same s233 d232) .nil)
      have dbv := dp_same s233 dbv
      have S := S.trans s233
      generalize upd H232 p233 (.tup [V.ref p232]) = H233 at d233 dbv S ⊢
      clear s233
      rw [Int.zero_add] at d233
      exact ⟨_, _, rfl, S, d233⟩
    rintro σ H5 ⟨bv, y5, rfl, S, dbv⟩
    have dbv : Dp K H5 bv (barD 4) := dbv
    have t_dbv : tpo (barD 4) = true := rfl
    have ddeed := dp_same S ddeed
    have dnv := dp_same S dnv
    have hl := S _ _ hl
    have cl := fun v hv => (cl v hv).same S
    have hh5 := hh4.same S
    have b05 := b04.trans (But.of S)
    clear S se0 hn4 hh4
    have S := Same.refl H5
    refine ⟨_, rfl, ?_⟩
    refine ⟨_, rfl, ?_⟩
    refine ⟨(by show 2 ≤ sizeLine; decide), fun p251 n251 => ?_⟩
    try dsimp only at n251 ⊢
    have s251 := same_new (o := .tup [nv, V.bl true]) n251
    have d251 : Dp K (upd H5 p251 (.tup [nv, V.bl true])) (.ref p251) (.tuple [nstD dd bs, .bool true]) := .tup (SqT.of upd_same) (.cons (dp_same s251 dnv) (.cons (.bl _) .nil))
    have ddeed := dp_same s251 ddeed
    have dnv := dp_same s251 dnv
    have dbv := dp_same s251 dbv
    have hl := s251 _ _ hl
    have cl := fun v hv => (cl v hv).same s251
    have S := S.trans s251
    generalize upd H5 p251 (.tup [nv, V.bl true]) = H251 at d251 ddeed dnv dbv hl cl S ⊢
    clear s251
    refine ⟨_, rfl, ?_⟩
    refine ⟨(by show 0 ≤ sizeLine; decide), fun p252 n252 => ?_⟩
    try dsimp only at n252 ⊢
    have s252 := same_new (o := .tup []) n252
    have d252 : Dp K (upd H251 p252 (.tup [])) (.ref p252) (.tuple []) := .tup (SqT.of upd_same) .nil
    have ddeed := dp_same s252 ddeed
    have dnv := dp_same s252 dnv
    have dbv := dp_same s252 dbv
    have d251 := dp_same s252 d251
    have hl := s252 _ _ hl
    have cl := fun v hv => (cl v hv).same s252
    have S := S.trans s252
    generalize upd H251 p252 (.tup []) = H252 at d252 ddeed dnv dbv d251 hl cl S ⊢
    clear s252
    refine ⟨(by show 5 ≤ sizeLine; decide), fun p253 n253 => ?_⟩
    try dsimp only at n253 ⊢
    have s253 := same_new (o := .tup [V.str "when", V.int 0, V.int 0, nv, V.ref p252]) n253
    have d253 : Dp K (upd H252 p253 (.tup [V.str "when", V.int 0, V.int 0, nv, V.ref p252])) (.ref p253) (.tuple [.str "when", .int 0, .int 0, nstD dd bs, .tuple []]) := .tup (SqT.of upd_same) (.cons (.str _) (.cons (.int _) (.cons (.int _) (.cons (dp_same s253 dnv) (.cons (dp_same s253 d252) .nil)))))
    have ddeed := dp_same s253 ddeed
    have dnv := dp_same s253 dnv
    have dbv := dp_same s253 dbv
    have d251 := dp_same s253 d251
    have hl := s253 _ _ hl
    have cl := fun v hv => (cl v hv).same s253
    have S := S.trans s253
    generalize upd H252 p253 (.tup [V.str "when", V.int 0, V.int 0, nv, V.ref p252]) = H253 at d253 ddeed dnv dbv d251 hl cl S ⊢
    clear s253
    refine ⟨(by show 1 ≤ sizeLine; decide), fun p254 n254 => ?_⟩
    try dsimp only at n254 ⊢
    have s254 := same_new (o := .tup [V.ref p253]) n254
    have d254 : Dp K (upd H253 p254 (.tup [V.ref p253])) (.ref p254) (.tuple [.tuple [.str "when", .int 0, .int 0, nstD dd bs, .tuple []]]) := .tup (SqT.of upd_same) (.cons (dp_same s254 d253) .nil)
    have ddeed := dp_same s254 ddeed
    have dnv := dp_same s254 dnv
    have dbv := dp_same s254 dbv
    have d251 := dp_same s254 d251
    have hl := s254 _ _ hl
    have cl := fun v hv => (cl v hv).same s254
    have S := S.trans s254
    generalize upd H253 p254 (.tup [V.ref p253]) = H254 at d254 ddeed dnv dbv d251 hl cl S ⊢
    clear s254
    refine ⟨(by show 2 ≤ sizeLine; decide), fun p255 n255 => ?_⟩
    try dsimp only at n255 ⊢
    have s255 := same_new (o := .tup [V.ref p254, V.bl false]) n255
    have d255 : Dp K (upd H254 p255 (.tup [V.ref p254, V.bl false])) (.ref p255) (.tuple [.tuple [.tuple [.str "when", .int 0, .int 0, nstD dd bs, .tuple []]], .bool false]) := .tup (SqT.of upd_same) (.cons (dp_same s255 d254) (.cons (.bl _) .nil))
    have ddeed := dp_same s255 ddeed
    have dnv := dp_same s255 dnv
    have dbv := dp_same s255 dbv
    have d251 := dp_same s255 d251
    have hl := s255 _ _ hl
    have cl := fun v hv => (cl v hv).same s255
    have S := S.trans s255
    generalize upd H254 p255 (.tup [V.ref p254, V.bl false]) = H255 at d255 ddeed dnv dbv d251 hl cl S ⊢
    clear s255
    refine ⟨_, rfl, ?_⟩
    refine ⟨(by show 2 ≤ sizeLine; decide), fun p256 n256 => ?_⟩
    try dsimp only at n256 ⊢
    have s256 := same_new (o := .tup [bv, V.bl true]) n256
    have d256 : Dp K (upd H255 p256 (.tup [bv, V.bl true])) (.ref p256) (.tuple [barD 4, .bool true]) := .tup (SqT.of upd_same) (.cons (dp_same s256 dbv) (.cons (.bl _) .nil))
    have ddeed := dp_same s256 ddeed
    have dnv := dp_same s256 dnv
    have dbv := dp_same s256 dbv
    have d251 := dp_same s256 d251
    have d255 := dp_same s256 d255
    have hl := s256 _ _ hl
    have cl := fun v hv => (cl v hv).same s256
    have S := S.trans s256
    generalize upd H255 p256 (.tup [bv, V.bl true]) = H256 at d256 ddeed dnv dbv d251 d255 hl cl S ⊢
    clear s256
    refine ⟨(by show 3 ≤ sizeLine; decide), fun p257 n257 => ?_⟩
    try dsimp only at n257 ⊢
    have s257 := same_new (o := .lst [V.ref p251, V.ref p255, V.ref p256]) n257
    have hn257 := S.free n257
    have hl257 : (upd H256 p257 (.lst [V.ref p251, V.ref p255, V.ref p256])) p257 = some (.lst [V.ref p251, V.ref p255, V.ref p256]) := upd_same
    have cl257 : ∀ v ∈ ([V.ref p251, V.ref p255, V.ref p256] : List V), CaseB K many (upd H256 p257 (.lst [V.ref p251, V.ref p255, V.ref p256])) v := fun v hv => by
      simp only [List.mem_cons, List.not_mem_nil, or_false] at hv
      rcases hv with rfl | rfl | rfl
      · exact mk_caseB (cb5 hm hdd hbl) (dp_same s257 d251)
      · exact mk_caseB (cb6 hm hdd hbl) (dp_same s257 d255)
      · exact mk_caseB (cb7 hm hdd) (dp_same s257 d256)
    have ddeed := dp_same s257 ddeed
    have dnv := dp_same s257 dnv
    have dbv := dp_same s257 dbv
    have hl := s257 _ _ hl
    have cl := fun v hv => (cl v hv).same s257
    have S := S.trans s257
    generalize upd H256 p257 (.lst [V.ref p251, V.ref p255, V.ref p256]) = H257 at hl257 cl257 ddeed dnv dbv hl cl S ⊢
    clear s257
    refine ⟨p114, p257, us129, [V.ref p251, V.ref p255, V.ref p256], rfl, rfl, hl, hl257, (Nat.le_of_lt (small1000 (by show us129.length + 3 ≤ 1000; omega))), fun p258 n258 => ?_⟩
    try dsimp only [List.cons_append, List.nil_append] at n258 ⊢
    have s258 := same_new (o := .lst (us129 ++ [V.ref p251, V.ref p255, V.ref p256])) n258
    have hn258 := S.free n258
    have hl258 : (upd H257 p258 (.lst (us129 ++ [V.ref p251, V.ref p255, V.ref p256]))) p258 = some (.lst (us129 ++ [V.ref p251, V.ref p255, V.ref p256])) := upd_same
    have cl258 : ∀ v ∈ us129 ++ [V.ref p251, V.ref p255, V.ref p256], CaseB K many (upd H257 p258 (.lst (us129 ++ [V.ref p251, V.ref p255, V.ref p256]))) v := fun v hv => (List.mem_append.mp hv).elim (fun h => (cl v h).same s258) (fun h => (cl257 v h).same s258)
    have hu258 : (us129 ++ [V.ref p251, V.ref p255, V.ref p256]).length ≤ 8 := by rw [List.length_append]; show us129.length + 3 ≤ 8; omega
    have ddeed := dp_same s258 ddeed
    have dnv := dp_same s258 dnv
    have dbv := dp_same s258 dbv
    have S := S.trans s258
    generalize upd H257 p258 (.lst (us129 ++ [V.ref p251, V.ref p255, V.ref p256])) = H258 at hl258 cl258 ddeed dnv dbv S ⊢
    clear s258
    generalize us129 ++ [V.ref p251, V.ref p255, V.ref p256] = us258 at hl258 cl258 hu258
    clear hl cl hu129 hl257 cl257
    refine ⟨_, rfl, .inl ⟨rfl, _, SqL.of hl258⟩, ?_⟩
    refine ⟨(by show 0 ≤ sizeLine; decide), fun p259 n259 => ?_⟩
    try dsimp only at n259 ⊢
    have s259 := same_new (o := .tup []) n259
    have d259 : Dp K (upd H258 p259 (.tup [])) (.ref p259) (.tuple []) := .tup (SqT.of upd_same) .nil
    have ddeed := dp_same s259 ddeed
    have dnv := dp_same s259 dnv
    have dbv := dp_same s259 dbv
    have hl258 := s259 _ _ hl258
    have cl258 := fun v hv => (cl258 v hv).same s259
    have S := S.trans s259
    generalize upd H258 p259 (.tup []) = H259 at d259 ddeed dnv dbv hl258 cl258 S ⊢
    clear s259
    refine ⟨_, rfl, ?_⟩
    refine ⟨(by show 5 ≤ sizeLine; decide), fun p260 n260 => ?_⟩
    try dsimp only at n260 ⊢
    have s260 := same_new (o := .tup [V.str "when", V.int 0, V.int 0, V.ref p259, bv]) n260
    have d260 : Dp K (upd H259 p260 (.tup [V.str "when", V.int 0, V.int 0, V.ref p259, bv])) (.ref p260) (.tuple [.str "when", .int 0, .int 0, .tuple [], barD 4]) := .tup (SqT.of upd_same) (.cons (.str _) (.cons (.int _) (.cons (.int _) (.cons (dp_same s260 d259) (.cons (dp_same s260 dbv) .nil)))))
    have ddeed := dp_same s260 ddeed
    have dnv := dp_same s260 dnv
    have dbv := dp_same s260 dbv
    have hl258 := s260 _ _ hl258
    have cl258 := fun v hv => (cl258 v hv).same s260
    have S := S.trans s260
    generalize upd H259 p260 (.tup [V.str "when", V.int 0, V.int 0, V.ref p259, bv]) = H260 at d260 ddeed dnv dbv hl258 cl258 S ⊢
    clear s260
    refine ⟨(by show 1 ≤ sizeLine; decide), fun p261 n261 => ?_⟩
    try dsimp only at n261 ⊢
    have s261 := same_new (o := .tup [V.ref p260]) n261
    have d261 : Dp K (upd H260 p261 (.tup [V.ref p260])) (.ref p261) (.tuple [.tuple [.str "when", .int 0, .int 0, .tuple [], barD 4]]) := .tup (SqT.of upd_same) (.cons (dp_same s261 d260) .nil)
    have ddeed := dp_same s261 ddeed
    have dnv := dp_same s261 dnv
    have dbv := dp_same s261 dbv
    have hl258 := s261 _ _ hl258
    have cl258 := fun v hv => (cl258 v hv).same s261
    have S := S.trans s261
    generalize upd H260 p261 (.tup [V.ref p260]) = H261 at d261 ddeed dnv dbv hl258 cl258 S ⊢
    clear s261
    refine ⟨(by show 2 ≤ sizeLine; decide), fun p262 n262 => ?_⟩
    try dsimp only at n262 ⊢
    have s262 := same_new (o := .tup [V.ref p261, V.bl false]) n262
    have d262 : Dp K (upd H261 p262 (.tup [V.ref p261, V.bl false])) (.ref p262) (.tuple [.tuple [.tuple [.str "when", .int 0, .int 0, .tuple [], barD 4]], .bool false]) := .tup (SqT.of upd_same) (.cons (dp_same s262 d261) (.cons (.bl _) .nil))
    have ddeed := dp_same s262 ddeed
    have dnv := dp_same s262 dnv
    have dbv := dp_same s262 dbv
    have hl258 := s262 _ _ hl258
    have cl258 := fun v hv => (cl258 v hv).same s262
    have S := S.trans s262
    generalize upd H261 p262 (.tup [V.ref p261, V.bl false]) = H262 at d262 ddeed dnv dbv hl258 cl258 S ⊢
    clear s262
    refine ⟨p258, _, _, rfl, rfl, hl258, small1000 (by omega), ?_⟩
    have hl263 : (upd H262 p258 (.lst (us258 ++ [V.ref p262]))) p258 = some (.lst (us258 ++ [V.ref p262])) := upd_same
    have cl263 : ∀ v ∈ us258 ++ [V.ref p262], CaseB K many (upd H262 p258 (.lst (us258 ++ [V.ref p262]))) v := fun v hv => (List.mem_append.mp hv).elim (fun h => (cl258 v h).put hl258) (fun h => by rw [List.mem_singleton.mp h]; exact CaseB.put (mk_caseB (cb8 hm hdd) d262) hl258)
    have hu263 : (us258 ++ [V.ref p262]).length ≤ 9 := by rw [List.length_append]; show us258.length + 1 ≤ 9; omega
    have ddeed := dp_imp (fun _ _ h => put_sqt (us' := (us258 ++ [V.ref p262])) hl258 h) t_ddeed ddeed
    have dnv := dp_imp (fun _ _ h => put_sqt (us' := (us258 ++ [V.ref p262])) hl258 h) t_dnv dnv
    have dbv := dp_imp (fun _ _ h => put_sqt (us' := (us258 ++ [V.ref p262])) hl258 h) t_dbv dbv
    have S := put_new (o := .lst (us258 ++ [V.ref p262])) hn258 S
    generalize upd H262 p258 (.lst (us258 ++ [V.ref p262])) = H263 at hl263 cl263 ddeed dnv dbv S ⊢
    generalize us258 ++ [V.ref p262] = us263 at hl263 cl263 hu263
    clear hl258 cl258 hu258
    refine ⟨(by show 3 ≤ sizeLine; decide), fun p264 n264 => ?_⟩
    try dsimp only at n264 ⊢
    have s264 := same_new (o := .tup [V.str "put", V.int 4, V.int 0]) n264
    have d264 : Dp K (upd H263 p264 (.tup [V.str "put", V.int 4, V.int 0])) (.ref p264) (.tuple [.str "put", .int 4, .int 0]) := .tup (SqT.of upd_same) (.cons (.str _) (.cons (.int _) (.cons (.int _) .nil)))
    have ddeed := dp_same s264 ddeed
    have dnv := dp_same s264 dnv
    have dbv := dp_same s264 dbv
    have hl263 := s264 _ _ hl263
    have cl263 := fun v hv => (cl263 v hv).same s264
    have S := S.trans s264
    generalize upd H263 p264 (.tup [V.str "put", V.int 4, V.int 0]) = H264 at d264 ddeed dnv dbv hl263 cl263 S ⊢
    clear s264
    refine ⟨_, rfl, ?_⟩
    refine ⟨(by show 3 ≤ sizeLine; decide), fun p265 n265 => ?_⟩
    try dsimp only at n265 ⊢
    have s265 := same_new (o := .tup [V.str "put", V.int (-1), V.int 0]) n265
    have d265 : Dp K (upd H264 p265 (.tup [V.str "put", V.int (-1), V.int 0])) (.ref p265) (.tuple [.str "put", .int (-1), .int 0]) := .tup (SqT.of upd_same) (.cons (.str _) (.cons (.int _) (.cons (.int _) .nil)))
    have ddeed := dp_same s265 ddeed
    have dnv := dp_same s265 dnv
    have dbv := dp_same s265 dbv
    have d264 := dp_same s265 d264
    have hl263 := s265 _ _ hl263
    have cl263 := fun v hv => (cl263 v hv).same s265
    have S := S.trans s265
    generalize upd H264 p265 (.tup [V.str "put", V.int (-1), V.int 0]) = H265 at d265 ddeed dnv dbv d264 hl263 cl263 S ⊢
    clear s265
    refine ⟨(by show 3 ≤ sizeLine; decide), fun p266 n266 => ?_⟩
    try dsimp only at n266 ⊢
    have s266 := same_new (o := .tup [V.str "put", V.int 0, V.int 1001]) n266
    have d266 : Dp K (upd H265 p266 (.tup [V.str "put", V.int 0, V.int 1001])) (.ref p266) (.tuple [.str "put", .int 0, .int 1001]) := .tup (SqT.of upd_same) (.cons (.str _) (.cons (.int _) (.cons (.int _) .nil)))
    have ddeed := dp_same s266 ddeed
    have dnv := dp_same s266 dnv
    have dbv := dp_same s266 dbv
    have d264 := dp_same s266 d264
    have d265 := dp_same s266 d265
    have hl263 := s266 _ _ hl263
    have cl263 := fun v hv => (cl263 v hv).same s266
    have S := S.trans s266
    generalize upd H265 p266 (.tup [V.str "put", V.int 0, V.int 1001]) = H266 at d266 ddeed dnv dbv d264 d265 hl263 cl263 S ⊢
    clear s266
    refine ⟨_, rfl, ?_⟩
    refine ⟨(by show 3 ≤ sizeLine; decide), fun p267 n267 => ?_⟩
    try dsimp only at n267 ⊢
    have s267 := same_new (o := .tup [V.str "add", V.int 0, V.int (-1001)]) n267
    have d267 : Dp K (upd H266 p267 (.tup [V.str "add", V.int 0, V.int (-1001)])) (.ref p267) (.tuple [.str "add", .int 0, .int (-1001)]) := .tup (SqT.of upd_same) (.cons (.str _) (.cons (.int _) (.cons (.int _) .nil)))
    have ddeed := dp_same s267 ddeed
    have dnv := dp_same s267 dnv
    have dbv := dp_same s267 dbv
    have d264 := dp_same s267 d264
    have d265 := dp_same s267 d265
    have d266 := dp_same s267 d266
    have hl263 := s267 _ _ hl263
    have cl263 := fun v hv => (cl263 v hv).same s267
    have S := S.trans s267
    generalize upd H266 p267 (.tup [V.str "add", V.int 0, V.int (-1001)]) = H267 at d267 ddeed dnv dbv d264 d265 d266 hl263 cl263 S ⊢
    clear s267
    refine ⟨(by show 3 ≤ sizeLine; decide), fun p268 n268 => ?_⟩
    try dsimp only at n268 ⊢
    have s268 := same_new (o := .tup [V.str "copy", V.int 0, V.int 4]) n268
    have d268 : Dp K (upd H267 p268 (.tup [V.str "copy", V.int 0, V.int 4])) (.ref p268) (.tuple [.str "copy", .int 0, .int 4]) := .tup (SqT.of upd_same) (.cons (.str _) (.cons (.int _) (.cons (.int _) .nil)))
    have ddeed := dp_same s268 ddeed
    have dnv := dp_same s268 dnv
    have dbv := dp_same s268 dbv
    have d264 := dp_same s268 d264
    have d265 := dp_same s268 d265
    have d266 := dp_same s268 d266
    have d267 := dp_same s268 d267
    have hl263 := s268 _ _ hl263
    have cl263 := fun v hv => (cl263 v hv).same s268
    have S := S.trans s268
    generalize upd H267 p268 (.tup [V.str "copy", V.int 0, V.int 4]) = H268 at d268 ddeed dnv dbv d264 d265 d266 d267 hl263 cl263 S ⊢
    clear s268
    refine ⟨_, rfl, ?_⟩
    refine ⟨(by show 3 ≤ sizeLine; decide), fun p269 n269 => ?_⟩
    try dsimp only at n269 ⊢
    have s269 := same_new (o := .tup [V.str "plus", V.int 0, V.int (-1)]) n269
    have d269 : Dp K (upd H268 p269 (.tup [V.str "plus", V.int 0, V.int (-1)])) (.ref p269) (.tuple [.str "plus", .int 0, .int (-1)]) := .tup (SqT.of upd_same) (.cons (.str _) (.cons (.int _) (.cons (.int _) .nil)))
    have ddeed := dp_same s269 ddeed
    have dnv := dp_same s269 dnv
    have dbv := dp_same s269 dbv
    have d264 := dp_same s269 d264
    have d265 := dp_same s269 d265
    have d266 := dp_same s269 d266
    have d267 := dp_same s269 d267
    have d268 := dp_same s269 d268
    have hl263 := s269 _ _ hl263
    have cl263 := fun v hv => (cl263 v hv).same s269
    have S := S.trans s269
    generalize upd H268 p269 (.tup [V.str "plus", V.int 0, V.int (-1)]) = H269 at d269 ddeed dnv dbv d264 d265 d266 d267 d268 hl263 cl263 S ⊢
    clear s269
    refine ⟨_, rfl, ?_⟩
    refine ⟨(by show 3 ≤ sizeLine; decide), fun p270 n270 => ?_⟩
    try dsimp only at n270 ⊢
    have s270 := same_new (o := .tup [V.str "told", V.int 0, V.int (many : Int)]) n270
    have d270 : Dp K (upd H269 p270 (.tup [V.str "told", V.int 0, V.int (many : Int)])) (.ref p270) (.tuple [.str "told", .int 0, .int (many : Int)]) := .tup (SqT.of upd_same) (.cons (.str _) (.cons (.int _) (.cons (.int _) .nil)))
    have ddeed := dp_same s270 ddeed
    have dnv := dp_same s270 dnv
    have dbv := dp_same s270 dbv
    have d264 := dp_same s270 d264
    have d265 := dp_same s270 d265
    have d266 := dp_same s270 d266
    have d267 := dp_same s270 d267
    have d268 := dp_same s270 d268
    have d269 := dp_same s270 d269
    have hl263 := s270 _ _ hl263
    have cl263 := fun v hv => (cl263 v hv).same s270
    have S := S.trans s270
    generalize upd H269 p270 (.tup [V.str "told", V.int 0, V.int (many : Int)]) = H270 at d270 ddeed dnv dbv d264 d265 d266 d267 d268 d269 hl263 cl263 S ⊢
    clear s270
    refine ⟨_, rfl, ?_⟩
    refine ⟨(by show 3 ≤ sizeLine; decide), fun p271 n271 => ?_⟩
    try dsimp only at n271 ⊢
    have s271 := same_new (o := .tup [V.str "told", V.int 0, V.int (-1)]) n271
    have d271 : Dp K (upd H270 p271 (.tup [V.str "told", V.int 0, V.int (-1)])) (.ref p271) (.tuple [.str "told", .int 0, .int (-1)]) := .tup (SqT.of upd_same) (.cons (.str _) (.cons (.int _) (.cons (.int _) .nil)))
    have ddeed := dp_same s271 ddeed
    have dnv := dp_same s271 dnv
    have dbv := dp_same s271 dbv
    have d264 := dp_same s271 d264
    have d265 := dp_same s271 d265
    have d266 := dp_same s271 d266
    have d267 := dp_same s271 d267
    have d268 := dp_same s271 d268
    have d269 := dp_same s271 d269
    have d270 := dp_same s271 d270
    have hl263 := s271 _ _ hl263
    have cl263 := fun v hv => (cl263 v hv).same s271
    have S := S.trans s271
    generalize upd H270 p271 (.tup [V.str "told", V.int 0, V.int (-1)]) = H271 at d271 ddeed dnv dbv d264 d265 d266 d267 d268 d269 d270 hl263 cl263 S ⊢
    clear s271
    refine ⟨(by show 0 ≤ sizeLine; decide), fun p272 n272 => ?_⟩
    try dsimp only at n272 ⊢
    have s272 := same_new (o := .tup []) n272
    have d272 : Dp K (upd H271 p272 (.tup [])) (.ref p272) (.tuple []) := .tup (SqT.of upd_same) .nil
    have ddeed := dp_same s272 ddeed
    have dnv := dp_same s272 dnv
    have dbv := dp_same s272 dbv
    have d264 := dp_same s272 d264
    have d265 := dp_same s272 d265
    have d266 := dp_same s272 d266
    have d267 := dp_same s272 d267
    have d268 := dp_same s272 d268
    have d269 := dp_same s272 d269
    have d270 := dp_same s272 d270
    have d271 := dp_same s272 d271
    have hl263 := s272 _ _ hl263
    have cl263 := fun v hv => (cl263 v hv).same s272
    have S := S.trans s272
    generalize upd H271 p272 (.tup []) = H272 at d272 ddeed dnv dbv d264 d265 d266 d267 d268 d269 d270 d271 hl263 cl263 S ⊢
    clear s272
    refine ⟨(by show 0 ≤ sizeLine; decide), fun p273 n273 => ?_⟩
    try dsimp only at n273 ⊢
    have s273 := same_new (o := .tup []) n273
    have d273 : Dp K (upd H272 p273 (.tup [])) (.ref p273) (.tuple []) := .tup (SqT.of upd_same) .nil
    have ddeed := dp_same s273 ddeed
    have dnv := dp_same s273 dnv
    have dbv := dp_same s273 dbv
    have d264 := dp_same s273 d264
    have d265 := dp_same s273 d265
    have d266 := dp_same s273 d266
    have d267 := dp_same s273 d267
    have d268 := dp_same s273 d268
    have d269 := dp_same s273 d269
    have d270 := dp_same s273 d270
    have d271 := dp_same s273 d271
    have d272 := dp_same s273 d272
    have hl263 := s273 _ _ hl263
    have cl263 := fun v hv => (cl263 v hv).same s273
    have S := S.trans s273
    generalize upd H272 p273 (.tup []) = H273 at d273 ddeed dnv dbv d264 d265 d266 d267 d268 d269 d270 d271 d272 hl263 cl263 S ⊢
    clear s273
    refine ⟨(by show 5 ≤ sizeLine; decide), fun p274 n274 => ?_⟩
    try dsimp only at n274 ⊢
    have s274 := same_new (o := .tup [V.str "when", V.int 0, V.int 1001, V.ref p272, V.ref p273]) n274
    have d274 : Dp K (upd H273 p274 (.tup [V.str "when", V.int 0, V.int 1001, V.ref p272, V.ref p273])) (.ref p274) (.tuple [.str "when", .int 0, .int 1001, .tuple [], .tuple []]) := .tup (SqT.of upd_same) (.cons (.str _) (.cons (.int _) (.cons (.int _) (.cons (dp_same s274 d272) (.cons (dp_same s274 d273) .nil)))))
    have ddeed := dp_same s274 ddeed
    have dnv := dp_same s274 dnv
    have dbv := dp_same s274 dbv
    have d264 := dp_same s274 d264
    have d265 := dp_same s274 d265
    have d266 := dp_same s274 d266
    have d267 := dp_same s274 d267
    have d268 := dp_same s274 d268
    have d269 := dp_same s274 d269
    have d270 := dp_same s274 d270
    have d271 := dp_same s274 d271
    have hl263 := s274 _ _ hl263
    have cl263 := fun v hv => (cl263 v hv).same s274
    have S := S.trans s274
    generalize upd H273 p274 (.tup [V.str "when", V.int 0, V.int 1001, V.ref p272, V.ref p273]) = H274 at d274 ddeed dnv dbv d264 d265 d266 d267 d268 d269 d270 d271 hl263 cl263 S ⊢
    clear s274
    refine ⟨(by show 0 ≤ sizeLine; decide), fun p275 n275 => ?_⟩
    try dsimp only at n275 ⊢
    have s275 := same_new (o := .tup []) n275
    have d275 : Dp K (upd H274 p275 (.tup [])) (.ref p275) (.tuple []) := .tup (SqT.of upd_same) .nil
    have ddeed := dp_same s275 ddeed
    have dnv := dp_same s275 dnv
    have dbv := dp_same s275 dbv
    have d264 := dp_same s275 d264
    have d265 := dp_same s275 d265
    have d266 := dp_same s275 d266
    have d267 := dp_same s275 d267
    have d268 := dp_same s275 d268
    have d269 := dp_same s275 d269
    have d270 := dp_same s275 d270
    have d271 := dp_same s275 d271
    have d274 := dp_same s275 d274
    have hl263 := s275 _ _ hl263
    have cl263 := fun v hv => (cl263 v hv).same s275
    have S := S.trans s275
    generalize upd H274 p275 (.tup []) = H275 at d275 ddeed dnv dbv d264 d265 d266 d267 d268 d269 d270 d271 d274 hl263 cl263 S ⊢
    clear s275
    refine ⟨(by show 0 ≤ sizeLine; decide), fun p276 n276 => ?_⟩
    try dsimp only at n276 ⊢
    have s276 := same_new (o := .tup []) n276
    have d276 : Dp K (upd H275 p276 (.tup [])) (.ref p276) (.tuple []) := .tup (SqT.of upd_same) .nil
    have ddeed := dp_same s276 ddeed
    have dnv := dp_same s276 dnv
    have dbv := dp_same s276 dbv
    have d264 := dp_same s276 d264
    have d265 := dp_same s276 d265
    have d266 := dp_same s276 d266
    have d267 := dp_same s276 d267
    have d268 := dp_same s276 d268
    have d269 := dp_same s276 d269
    have d270 := dp_same s276 d270
    have d271 := dp_same s276 d271
    have d274 := dp_same s276 d274
    have d275 := dp_same s276 d275
    have hl263 := s276 _ _ hl263
    have cl263 := fun v hv => (cl263 v hv).same s276
    have S := S.trans s276
    generalize upd H275 p276 (.tup []) = H276 at d276 ddeed dnv dbv d264 d265 d266 d267 d268 d269 d270 d271 d274 d275 hl263 cl263 S ⊢
    clear s276
    refine ⟨(by show 5 ≤ sizeLine; decide), fun p277 n277 => ?_⟩
    try dsimp only at n277 ⊢
    have s277 := same_new (o := .tup [V.str "when", V.int 4, V.int 0, V.ref p275, V.ref p276]) n277
    have d277 : Dp K (upd H276 p277 (.tup [V.str "when", V.int 4, V.int 0, V.ref p275, V.ref p276])) (.ref p277) (.tuple [.str "when", .int 4, .int 0, .tuple [], .tuple []]) := .tup (SqT.of upd_same) (.cons (.str _) (.cons (.int _) (.cons (.int _) (.cons (dp_same s277 d275) (.cons (dp_same s277 d276) .nil)))))
    have ddeed := dp_same s277 ddeed
    have dnv := dp_same s277 dnv
    have dbv := dp_same s277 dbv
    have d264 := dp_same s277 d264
    have d265 := dp_same s277 d265
    have d266 := dp_same s277 d266
    have d267 := dp_same s277 d267
    have d268 := dp_same s277 d268
    have d269 := dp_same s277 d269
    have d270 := dp_same s277 d270
    have d271 := dp_same s277 d271
    have d274 := dp_same s277 d274
    have hl263 := s277 _ _ hl263
    have cl263 := fun v hv => (cl263 v hv).same s277
    have S := S.trans s277
    generalize upd H276 p277 (.tup [V.str "when", V.int 4, V.int 0, V.ref p275, V.ref p276]) = H277 at d277 ddeed dnv dbv d264 d265 d266 d267 d268 d269 d270 d271 d274 hl263 cl263 S ⊢
    clear s277
    refine ⟨(by show 2 ≤ sizeLine; decide), fun p278 n278 => ?_⟩
    try dsimp only at n278 ⊢
    have s278 := same_new (o := .tup [V.str "put", V.int 0]) n278
    have d278 : Dp K (upd H277 p278 (.tup [V.str "put", V.int 0])) (.ref p278) (.tuple [.str "put", .int 0]) := .tup (SqT.of upd_same) (.cons (.str _) (.cons (.int _) .nil))
    have ddeed := dp_same s278 ddeed
    have dnv := dp_same s278 dnv
    have dbv := dp_same s278 dbv
    have d264 := dp_same s278 d264
    have d265 := dp_same s278 d265
    have d266 := dp_same s278 d266
    have d267 := dp_same s278 d267
    have d268 := dp_same s278 d268
    have d269 := dp_same s278 d269
    have d270 := dp_same s278 d270
    have d271 := dp_same s278 d271
    have d274 := dp_same s278 d274
    have d277 := dp_same s278 d277
    have hl263 := s278 _ _ hl263
    have cl263 := fun v hv => (cl263 v hv).same s278
    have S := S.trans s278
    generalize upd H277 p278 (.tup [V.str "put", V.int 0]) = H278 at d278 ddeed dnv dbv d264 d265 d266 d267 d268 d269 d270 d271 d274 d277 hl263 cl263 S ⊢
    clear s278
    refine ⟨(by show 11 ≤ sizeLine; decide), fun tp ntp => ⟨tp, rfl, ⟨_, SqT.of upd_same⟩, ?_⟩⟩
    try dsimp only at ntp ⊢
    have stp := same_new (o := .tup [V.ref p264, V.ref p265, V.ref p266, V.ref p267, V.ref p268, V.ref p269, V.ref p270, V.ref p271, V.ref p274, V.ref p277, V.ref p278]) ntp
    have htp : SqT K (upd H278 tp (.tup [V.ref p264, V.ref p265, V.ref p266, V.ref p267, V.ref p268, V.ref p269, V.ref p270, V.ref p271, V.ref p274, V.ref p277, V.ref p278])) tp [V.ref p264, V.ref p265, V.ref p266, V.ref p267, V.ref p268, V.ref p269, V.ref p270, V.ref p271, V.ref p274, V.ref p277, V.ref p278] := SqT.of upd_same
    have dxs : ∀ v ∈ ([V.ref p264, V.ref p265, V.ref p266, V.ref p267, V.ref p268, V.ref p269, V.ref p270, V.ref p271, V.ref p274, V.ref p277, V.ref p278] : List V), ∃ dx ∈ oddD many, tpo dx = true ∧ Dp K (upd H278 tp (.tup [V.ref p264, V.ref p265, V.ref p266, V.ref p267, V.ref p268, V.ref p269, V.ref p270, V.ref p271, V.ref p274, V.ref p277, V.ref p278])) v dx := fun v hv => by
      simp only [List.mem_cons, List.not_mem_nil, or_false] at hv
      rcases hv with rfl | rfl | rfl | rfl | rfl | rfl | rfl | rfl | rfl | rfl | rfl
      · exact ⟨_, by simp [oddD], rfl, dp_same stp d264⟩
      · exact ⟨_, by simp [oddD], rfl, dp_same stp d265⟩
      · exact ⟨_, by simp [oddD], rfl, dp_same stp d266⟩
      · exact ⟨_, by simp [oddD], rfl, dp_same stp d267⟩
      · exact ⟨_, by simp [oddD], rfl, dp_same stp d268⟩
      · exact ⟨_, by simp [oddD], rfl, dp_same stp d269⟩
      · exact ⟨_, by simp [oddD], rfl, dp_same stp d270⟩
      · exact ⟨_, by simp [oddD], rfl, dp_same stp d271⟩
      · exact ⟨_, by simp [oddD], rfl, dp_same stp d274⟩
      · exact ⟨_, by simp [oddD], rfl, dp_same stp d277⟩
      · exact ⟨_, by simp [oddD], rfl, dp_same stp d278⟩
    have hl := stp _ _ hl263
    have cl := fun v hv => (cl263 v hv).same stp
    have ddeed := dp_same stp ddeed
    have S := S.trans stp
    have hnl : p258 ≠ tp := ne_of_none hl263 ntp
    generalize upd H278 tp (.tup [V.ref p264, V.ref p265, V.ref p266, V.ref p267, V.ref p268, V.ref p269, V.ref p270, V.ref p271, V.ref p274, V.ref p277, V.ref p278]) = H6 at htp dxs hl cl ddeed S ⊢
    have hxl : ([V.ref p264, V.ref p265, V.ref p266, V.ref p267, V.ref p268, V.ref p269, V.ref p270, V.ref p271, V.ref p274, V.ref p277, V.ref p278] : List V).length = 11 := rfl
    generalize ([V.ref p264, V.ref p265, V.ref p266, V.ref p267, V.ref p268, V.ref p269, V.ref p270, V.ref p271, V.ref p274, V.ref p277, V.ref p278] : List V) = xs at htp dxs hxl ⊢
    have nls2 : p258 ≠ a := (hh5.ne hn258)
    have hnH : H p258 = none := by
      cases e : H p258 with
      | none => rfl
      | some o => exact absurd (b05 _ _ nls2 e) (by rw [hn258]; intro z; cases z)
    have hh6 := hh5.same S
    have b06 : But a H H6 := b05.trans (But.of S)
    generalize us263 = us at hl cl hu263
    have hu0 : us.length ≤ 9 := hu263
    clear S
    refine for_tup (xs := xs) (D := { nx := tRet (tVar 3) { nx := fun _ H' => Q V.non H', rt := Q }, rt := Q }) (fun i σ H' => ∃ (us : List V) (y7 : Option V), σ = [some (.ref a), some (.int (many : Int)), some deed, some (.ref p258), some nv, y5, some bv, y7] ∧ But a H H' ∧ HandAt H' a (n + 10) ∧ (∀ p zs, SqT K H6 p zs → SqT K H' p zs) ∧ H' p258 = some (.lst us) ∧ us.length ≤ 9 + i ∧ i ≤ 11 ∧ ∀ v ∈ us, CaseB K many H' v) ⟨us, none, rfl, b06, hh6.le (by omega), fun _ _ h => h, hl, hu0, by decide, cl⟩ ?_ ?_ ?_
    · rintro i σ H' _ ⟨_, _, _, _, _, im, _⟩
      exact im _ _ htp
    · rintro i x σ H7 hx ⟨us, y7, rfl, b7, hh7, im, hl, hu, hi, cl⟩
      obtain ⟨dx, hdx, tdx, ddx⟩ := dxs x (List.mem_of_getElem? hx)
      have hi11 : i < 11 := by have := (List.getElem?_eq_some_iff.mp hx).1; omega
      refine ⟨_, rfl, .inl ⟨rfl, _, SqL.of hl⟩, _, rfl, _, rfl, (by show 2 ≤ sizeLine; decide), fun p1 n1 => ⟨(by show 2 ≤ sizeLine; decide), fun p2 n2 => ?_⟩⟩
      have s1 := same_new (o := .tup [deed, x]) n1
      have s2 := same_new (o := .tup [.ref p1, .bl false]) n2
      have hl2 := s2 _ _ (s1 _ _ hl)
      have dz : Dp K (upd (upd H7 p1 (.tup [deed, x])) p2 (.tup [.ref p1, .bl false])) (.ref p2) (.tuple [.tuple [dd, dx], .bool false]) := .tup (SqT.of upd_same) (.cons (dp_same s2 (.tup (SqT.of upd_same) (.cons (dp_same s1 (dp_imp im tdd ddeed)) (.cons (dp_same s1 (dp_imp im tdx ddx)) .nil)))) (.cons (.bl _) .nil))
      have cz : CaseB K many _ _ := mk_caseB (odd_chk hm hdd hdx) dz
      have S := s1.trans s2
      have cl := fun v hv => (cl v hv).same S
      have im : ∀ p zs, SqT K H6 p zs → SqT K (upd (upd H7 p1 (.tup [deed, x])) p2 (.tup [.ref p1, .bl false])) p zs := fun p zs h => same_sqt S (im p zs h)
      have b7 := b7.trans (But.of S)
      have hh7 := hh7.same S
      clear s1 s2 S dz hl
      generalize upd (upd H7 p1 (.tup [deed, x])) p2 (.tup [.ref p1, .bl false]) = H8 at hl2 cz cl im b7 hh7 ⊢
      refine ⟨p258, _, _, rfl, rfl, hl2, small1000 (by omega), us ++ [.ref p2], _, rfl, ?_, hh7.put nls2, fun p zs h => put_sqt hl2 (im p zs h), upd_same, by rw [List.length_append]; show us.length + 1 ≤ _; omega, by omega, fun v hv => ?_⟩
      · intro b' o nb e
        rw [upd_ne (ne_of_none e hnH)]
        exact b7 _ _ nb e
      · rcases List.mem_append.mp hv with hv | hv
        · exact (cl v hv).put hl2
        · rw [List.mem_singleton.mp hv]
          exact cz.put hl2
    · rintro σ H7 ⟨us, y7, rfl, b7, hh7, im, hl, hu, hi, cl⟩
      exact ⟨_, rfl, q _ p258 us b7 hh7 nls2 hnH hl (by omega) cl⟩
end
end NG

namespace NG
open PySem PySem.Spec PyProof.Rows L2
/-! ### joining two strs, a str some times -/
def rCatS : R2 := fun x y H Q => ∃ a b : Str, x = .str a ∧ y = .str b ∧ 0 < a.length ∧ 0 < b.length ∧ a.length + b.length ≤ 1000 ∧ Q (.str (a ++ b)) H
theorem op_catS {X : Cx} : OpR X (binaryOp .Add) rCatS := by
  intro pins s σ H x y v u Q I rx ry h
  obtain ⟨a, b, rfl, rfl, ha, hb, hl, q⟩ := h
  obtain ⟨t, rfl⟩ := rx
  obtain ⟨t', rfl⟩ := ry
  refine PySem.P.add_str ?_
  rw [if_neg (by simp; omega), if_neg (by simp; omega)]
  refine ⟨?_, .str _, H, I.tok (s.toks + 1), ⟨_, rfl⟩, q⟩
  have e : (a ++ b).length = a.length + b.length := Array.size_append
  rw [e]
  exact Nat.le_of_lt (small1000 (by omega))
def repS (x : Str) (k : Int) : Str := ⟨(List.replicate k.toNat x.cps).foldl (· ++ ·) #[]⟩
theorem repS_len {x : Str} (k : Int) : (repS x k).length = x.length * k.toNat := by
  have key : ∀ (n : Nat) (acc : Array Nat), ((List.replicate n x.cps).foldl (· ++ ·) acc).size = acc.size + x.length * n := by
    intro n
    induction n with
    | zero => intro acc; rfl
    | succ n ih =>
      intro acc
      rw [List.replicate_succ, List.foldl_cons, ih, Array.size_append, Nat.mul_succ]
      show acc.size + x.cps.size + _ = acc.size + (_ + x.cps.size)
      omega
  have := key k.toNat #[]
  show ((List.replicate k.toNat x.cps).foldl (· ++ ·) #[]).size = _
  rw [this]
  simp
def rRepS : R2 := fun x y H Q => ∃ (a : Str) (k : Int), x = .str a ∧ y = .int k ∧ a.length = 1 ∧ -1000 ≤ k ∧ k ≤ 1000 ∧ Q (.str (repS a k)) H
theorem op_repS {X : Cx} : OpR X (binaryOp .Mult) rRepS := by
  intro pins s σ H x y v u Q I rx ry h
  obtain ⟨a, k, rfl, rfl, ha, h0, h1, q⟩ := h
  obtain ⟨t, rfl⟩ := rx
  obtain ⟨t', rfl⟩ := ry
  have hln := repS_len (x := a) k
  rw [ha, Nat.one_mul] at hln
  have hsz : k.toNat ≤ sizeLine := Nat.le_of_lt (small1000 (by omega))
  refine PySem.P.mul_str (by
      rw [decide_eq_false (by omega), decide_eq_false (by omega)]
      rfl) (fun c1 _ => ?_) (fun c1 _ => ?_) ?_
  · rw [ha]
    have : (1 : Int) ≤ (2 ^ 63 - 1) / k := (Int.le_ediv_iff_mul_le (by omega)).mpr (by omega)
    omega
  · rw [ha, Nat.one_mul]
    unfold PySem.Builtin.Str.tooLong
    exact decide_eq_false (by omega)
  · by_cases c1 : k < 1
    · rw [if_pos c1]
      have e : repS a k = Str.empty := by
        unfold repS
        rw [show k.toNat = 0 by omega]
        rfl
      rw [e] at q
      exact ⟨by show 0 ≤ _; omega, .str _, H, I.tok (s.toks + 1), ⟨_, rfl⟩, q⟩
    · rw [if_neg c1]
      by_cases c2 : k = 1
      · rw [if_pos (by simp [c2])]
        subst c2
        have e : repS a 1 = a := by
          show (⟨#[] ++ a.cps⟩ : Str) = a
          simp
        rw [e] at q
        exact ⟨.str _, H, I, ⟨_, rfl⟩, q⟩
      · rw [if_neg (by simp [c2, ha])]
        refine ⟨?_, .str _, H, I.tok (s.toks + 1), ⟨_, rfl⟩, q⟩
        show (repS a k).length ≤ _
        rw [hln]
        exact hsz
end NG

set_option maxHeartbeats 8000000
namespace NG
open PySem PySem.Spec PyProof.Rows L2
def dbT (nm : Str) (sc : Int) (rg st bh : List PyData) : PyData := .tuple [.str nm, .int sc, .tuple rg, .tuple st, .tuple bh]
structure WdD (many : Nat) (nm : Str) (rg st bh : List PyData) : Prop where
  nl : nm.length ≤ 1000
  we : ∀ d ∈ st, wdE many 8 d
  wb : ∀ d ∈ bh, wdB many 4 d
  tr : tpoAll rg = true
  ts : tpoAll st = true
  tb : tpoAll bh = true
structure GoodD (many : Nat) (nm : Str) (sc : Nat) (rg st bh : List PyData) : Prop where
  wd : WdD many nm rg st bh
  gn : nameD nm = true
  gs : sc < 5
  gr : regsD rg = true
  sl : st.length = many
  gt : ∀ d ∈ st, stakeD many sc d = true
  bl : bh.length = many
  gb : ∀ d ∈ bh, (cntB many 4 d).isSome = true
def CaseD (K : PySem.W.Frag) (many : Nat) (H : Hp) (v : V) : Prop := ∃ (nm : Str) (sc : Int) (rg st bh : List PyData) (due : Bool), Dp K H v (.tuple [dbT nm sc rg st bh, .bool due]) ∧ WdD many nm rg st bh ∧ dbtD many nm sc rg st bh = due
theorem tpo_dbT {many : Nat} {nm : Str} {sc : Int} {rg st bh : List PyData} (h : WdD many nm rg st bh) : tpo (dbT nm sc rg st bh) = true := by
  unfold dbT
  simp only [tpo, tpoAll, h.tr, h.ts, h.tb, Bool.and_true, Bool.and_self, Bool.true_and]
theorem CaseD.imp {K : PySem.W.Frag} {many : Nat} {H H' : Hp} {v : V} (h : ∀ p xs, SqT K H p xs → SqT K H' p xs) (c : CaseD K many H v) : CaseD K many H' v := by
  obtain ⟨nm, sc, rg, st, bh, due, x, w, s⟩ := c
  have t := tpo_dbT (sc := sc) w
  cases x with
  | tup q r =>
    cases r with
    | cons x r =>
      cases r with
      | cons y r =>
        cases r
        cases y
        exact ⟨nm, sc, rg, st, bh, due, .tup (h _ _ q) (.cons (dp_imp h t x) (.cons (.bl _) .nil)), w, s⟩
theorem CaseD.same {K : PySem.W.Frag} {many : Nat} {H H' : Hp} {v : V} (c : CaseD K many H v) (s : Same H H') : CaseD K many H' v := c.imp fun _ _ q => same_sqt s q
theorem CaseD.put {K : PySem.W.Frag} {many : Nat} {H : Hp} {v : V} {a : Addr} {us ws : List V} (c : CaseD K many H v) (h : H a = some (.lst us)) : CaseD K many (upd H a (.lst ws)) v := c.imp fun _ _ q => put_sqt h q
theorem dbtD_eq {many : Nat} {nm : Str} {sc : Int} {rg st bh : List PyData} : dbtD many nm sc rg st bh = ((nameD nm && (decide (0 ≤ sc) && decide (sc ≤ 4)) && regsD rg) && ((decide (st.length = many) && st.all (stakeD many sc.toNat)) && (decide (bh.length = many) && bh.all fun d => (cntB many 4 d).isSome))) := by
  unfold dbtD
  by_cases c : (nameD nm && (decide (0 ≤ sc) && decide (sc ≤ 4)) && regsD rg) = true
  · rw [if_pos c, c, Bool.true_and]
  · rw [if_neg c, Bool.eq_false_iff.mpr c, Bool.false_and]
section
variable {many sc : Nat} {nm : Str} {rg st bh : List PyData}
theorem GoodD.scs (g : GoodD many nm sc rg st bh) : (decide (0 ≤ (sc : Int)) && decide ((sc : Int) ≤ 4)) = true := by
  have := g.gs
  rw [decide_eq_true (by omega), decide_eq_true (by omega)]
  rfl
theorem GoodD.sts (g : GoodD many nm sc rg st bh) : (decide (st.length = many) && st.all (stakeD many ((sc : Nat) : Int).toNat)) = true := by
  rw [decide_eq_true g.sl, Bool.true_and, List.all_eq_true]
  exact fun d hd => g.gt d hd
theorem GoodD.bhs (g : GoodD many nm sc rg st bh) : (decide (bh.length = many) && bh.all fun d => (cntB many 4 d).isSome) = true := by
  rw [decide_eq_true g.bl, Bool.true_and, List.all_eq_true]
  exact fun d hd => g.gb d hd
theorem GoodD.z_nm (g : GoodD many nm sc rg st bh) (z : Str) : dbtD many z sc rg st bh = nameD z := by
  rw [dbtD_eq, g.scs, g.sts, g.bhs, g.gr, Bool.and_true, Bool.and_true, Bool.and_true, Bool.and_true]
theorem GoodD.w_nm (g : GoodD many nm sc rg st bh) {z : Str} (h : z.length ≤ 1000) : WdD many z rg st bh := ⟨h, g.wd.we, g.wd.wb, g.wd.tr, g.wd.ts, g.wd.tb⟩
theorem GoodD.z_rg (g : GoodD many nm sc rg st bh) (r : List PyData) : dbtD many nm sc r st bh = regsD r := by
  rw [dbtD_eq, g.scs, g.sts, g.bhs, g.gn, Bool.and_true, Bool.and_true, Bool.true_and]
theorem GoodD.w_rg (g : GoodD many nm sc rg st bh) {r : List PyData} (h : tpoAll r = true) : WdD many nm r st bh := ⟨g.wd.nl, g.wd.we, g.wd.wb, h, g.wd.ts, g.wd.tb⟩
theorem GoodD.z_st (g : GoodD many nm sc rg st bh) (s : List PyData) : dbtD many nm sc rg s bh = (decide (s.length = many) && s.all (stakeD many sc)) := by
  rw [dbtD_eq, g.scs, g.bhs, g.gn, g.gr, Bool.and_true, Bool.and_true, Bool.and_true, Bool.true_and]
  rfl
theorem GoodD.w_st (g : GoodD many nm sc rg st bh) {s : List PyData} (h : tpoAll s = true) (w : ∀ d ∈ s, wdE many 8 d) : WdD many nm rg s bh := ⟨g.wd.nl, w, g.wd.wb, g.wd.tr, h, g.wd.tb⟩
theorem GoodD.z_bh (g : GoodD many nm sc rg st bh) (s : List PyData) : dbtD many nm sc rg st s = (decide (s.length = many) && s.all fun d => (cntB many 4 d).isSome) := by
  rw [dbtD_eq, g.scs, g.sts, g.gn, g.gr, Bool.true_and]
  rfl
theorem GoodD.w_bh (g : GoodD many nm sc rg st bh) {s : List PyData} (h : tpoAll s = true) (w : ∀ d ∈ s, wdB many 4 d) : WdD many nm rg st s := ⟨g.wd.nl, g.wd.we, w, g.wd.tr, g.wd.ts, h⟩
theorem all_set {α : Type} {p : α → Bool} {l : List α} {k : Nat} {x : α} (hk : k < l.length) (h : ∀ y ∈ l, p y = true) : (l.set k x).all p = p x := by
  cases hx : p x with
  | true =>
    rw [List.all_eq_true]
    intro y hy
    rcases List.mem_or_eq_of_mem_set hy with hy | rfl
    · exact h y hy
    · exact hx
  | false =>
    rw [List.all_eq_false]
    exact ⟨x, List.mem_set hk x, by rw [hx]; decide⟩
theorem tpoAll_mem : ∀ {l : List PyData}, tpoAll l = true ↔ ∀ d ∈ l, tpo d = true
  | [] => ⟨fun _ _ h => (nomatch h), fun _ => rfl⟩
  | d :: l => by
    rw [show tpoAll (d :: l) = (tpo d && tpoAll l) from rfl, Bool.and_eq_true, tpoAll_mem]
    constructor
    · rintro ⟨h1, h2⟩ x hx
      rcases List.mem_cons.mp hx with rfl | hx
      · exact h1
      · exact h2 x hx
    · exact fun h => ⟨h d (List.mem_cons_self ..), fun x hx => h x (List.mem_cons_of_mem _ hx)⟩
theorem tpo_set {l : List PyData} {k : Nat} {x : PyData} (h : tpoAll l = true) (hx : tpo x = true) : tpoAll (l.set k x) = true := by
  rw [tpoAll_mem] at h ⊢
  intro y hy
  rcases List.mem_or_eq_of_mem_set hy with hy | rfl
  · exact h y hy
  · exact hx
theorem GoodD.set_st (g : GoodD many nm sc rg st bh) {k : Nat} {d : PyData} {due : Bool} (hk : k < many) (ht : tpo d = true) (hw : wdE many 8 d) (hs : stakeD many sc d = due) : dbtD many nm sc rg (st.set k d) bh = due ∧ WdD many nm rg (st.set k d) bh := by
  refine ⟨?_, g.w_st (tpo_set g.wd.ts ht) fun y hy => ?_⟩
  · rw [g.z_st, all_set (by rw [g.sl]; exact hk) g.gt, List.length_set, decide_eq_true g.sl, Bool.true_and, hs]
  · rcases List.mem_or_eq_of_mem_set hy with hy | rfl
    · exact g.wd.we y hy
    · exact hw
theorem GoodD.set_bh (g : GoodD many nm sc rg st bh) {k : Nat} {d : PyData} {due : Bool} (hk : k < many) (ht : tpo d = true) (hw : wdB many 4 d) (hs : (cntB many 4 d).isSome = due) : dbtD many nm sc rg st (bh.set k d) = due ∧ WdD many nm rg st (bh.set k d) := by
  refine ⟨?_, g.w_bh (tpo_set g.wd.tb ht) fun y hy => ?_⟩
  · rw [g.z_bh, all_set (by rw [g.bl]; exact hk) g.gb, List.length_set, decide_eq_true g.bl, Bool.true_and, hs]
  · rcases List.mem_or_eq_of_mem_set hy with hy | rfl
    · exact g.wd.wb y hy
    · exact hw
theorem GoodD.len_st (g : GoodD many nm sc rg st bh) {s : List PyData} (hl : s.length ≠ many) (hm : ∀ d ∈ s, d ∈ st) : dbtD many nm sc rg s bh = false ∧ WdD many nm rg s bh := by
  refine ⟨?_, g.w_st (tpoAll_mem.mpr fun d hd => tpoAll_mem.mp g.wd.ts d (hm d hd)) fun d hd => g.wd.we d (hm d hd)⟩
  rw [g.z_st, decide_eq_false hl, Bool.false_and]
theorem GoodD.len_bh (g : GoodD many nm sc rg st bh) {s : List PyData} (hl : s.length ≠ many) (hm : ∀ d ∈ s, d ∈ bh) : dbtD many nm sc rg st s = false ∧ WdD many nm rg st s := by
  refine ⟨?_, g.w_bh (tpoAll_mem.mpr fun d hd => tpoAll_mem.mp g.wd.tb d (hm d hd)) fun d hd => g.wd.wb d (hm d hd)⟩
  rw [g.z_bh, decide_eq_false hl, Bool.false_and]
theorem GoodD.set_rg (g : GoodD many nm sc rg st bh) {k : Nat} {z : Int} (hk : k < 4) : dbtD many nm sc (rg.set k (.int z)) st bh = (decide (-1000 ≤ z) && decide (z ≤ 1000)) ∧ WdD many nm (rg.set k (.int z)) st bh := by
  refine ⟨?_, g.w_rg (tpo_set g.wd.tr rfl)⟩
  have h := g.gr
  unfold regsD at h
  rw [Bool.and_eq_true, decide_eq_true_eq, List.all_eq_true] at h
  rw [g.z_rg]
  unfold regsD
  rw [all_set (by omega) h.2, List.length_set, decide_eq_true h.1, Bool.true_and]
  rfl
theorem GoodD.len_rg (g : GoodD many nm sc rg st bh) {r : List PyData} (hl : r.length ≠ 4) (ht : tpoAll r = true) : dbtD many nm sc r st bh = false ∧ WdD many nm r st bh := by
  refine ⟨?_, g.w_rg ht⟩
  rw [g.z_rg]
  unfold regsD
  rw [decide_eq_false hl, Bool.false_and]
def idleD (many : Nat) : List PyData := List.replicate many (.tuple [.str "fig", .int 0])
theorem GoodD.idle (g : GoodD many nm sc rg st bh) {z : Int} (hm : many = 2 ∨ many = 3) (hz : z ∈ ([-1, 0, 1, 2, 3, 4, 5] : List Int)) : dbtD many nm z rg (idleD many) bh = (decide (0 ≤ z) && decide (z ≤ 4)) ∧ WdD many nm rg (idleD many) bh := by
  have hw : wdE many 8 (.tuple [.str "fig", .int 0]) := wdE_of (many := many) (e := .fig 0) ⟨by decide, by decide⟩
  refine ⟨?_, g.w_st (tpoAll_mem.mpr fun d hd => by rw [List.eq_of_mem_replicate hd]; rfl) fun d hd => by rw [List.eq_of_mem_replicate hd]; exact hw⟩
  rw [dbtD_eq, g.bhs, g.gn, g.gr, Bool.and_true, Bool.and_true, Bool.true_and]
  have k : (([-1, 0, 1, 2, 3, 4, 5] : List Int).all fun z => ((decide (0 ≤ z) && decide (z ≤ 4)) && (decide ((idleD many).length = many) && (idleD many).all (stakeD many z.toNat))) == (decide (0 ≤ z) && decide (z ≤ 4))) = true := by
    rcases hm with rfl | rfl <;> decide +kernel
  exact eq_of_beq (List.all_eq_true.mp k z hz)
end
/-! ### names -/
def alphaC : List Nat := ("abcdefghijklmnopqrstuvwxyz" : Str).cps.toList
theorem name_rep {c : Nat} (hc : c ∈ alphaC) {k : Int} (hk : k ∈ ([0, 1, 7, 8, 9] : List Int)) : nameD (repS ⟨#[c]⟩ k) = (decide (1 ≤ k) && decide (k ≤ 8)) := by
  have h : (alphaC.all fun c => ([0, 1, 7, 8, 9] : List Int).all fun k => nameD (repS ⟨#[c]⟩ k) == (decide (1 ≤ k) && decide (k ≤ 8))) = true := by decide +kernel
  exact eq_of_beq (List.all_eq_true.mp (List.all_eq_true.mp h c hc) k hk)
theorem name_two {c e : Nat} (hc : c ∈ alphaC) (he : e ∈ alphaC) : nameD ((⟨#[c]⟩ : Str) ++ ⟨#[e]⟩) = true := by
  have h : (alphaC.all fun c => alphaC.all fun e => nameD ((⟨#[c]⟩ : Str) ++ ⟨#[e]⟩)) = true := by decide +kernel
  exact List.all_eq_true.mp (List.all_eq_true.mp h c hc) e he
def oddS : List Str := ["A", "Z", "0", " ", "-", "`", "{", "\n"]
theorem name_odd {c : Nat} (hc : c ∈ alphaC) {z : Str} (hz : z ∈ oddS) : nameD ((⟨#[c]⟩ : Str) ++ z) = false := by
  have h : (alphaC.all fun c => oddS.all fun z => nameD ((⟨#[c]⟩ : Str) ++ z) == false) = true := by decide +kernel
  exact eq_of_beq (List.all_eq_true.mp (List.all_eq_true.mp h c hc) z hz)
def wordS : List Str := ["out", "one", "in", "house", "doubter", "stake", "behind", "when", "put", "told", "share", "fig"]
theorem name_word {z : Str} (hz : z ∈ wordS) : nameD z = true ∧ z.length ≤ 1000 := by
  have h : (wordS.all fun z => nameD z && decide (z.length ≤ 1000)) = true := by decide +kernel
  have := List.all_eq_true.mp h z hz
  rw [Bool.and_eq_true, decide_eq_true_eq] at this
  exact this
theorem odd_len {z : Str} (hz : z ∈ oddS) : z.length = 1 := by
  have h : (oddS.all fun z => decide (z.length = 1)) = true := by decide +kernel
  exact of_decide_eq_true (List.all_eq_true.mp h z hz)
/-! ### a letter drawn -/
def spOfS : Sp := fun vs H Q _ => ∃ (a : Addr) (z : Str) (n : Nat), vs = [.ref a, .str z] ∧ 0 < z.length ∧ z.length ≤ 1000 ∧ HandAt H a n ∧ n ≤ 1000000000 ∧ ∀ H' (c : Nat), But a H H' → HandAt H' a (n + 1) → c ∈ z.cps.toList → Q (.str ⟨#[c]⟩) H'
section
variable {P : Program} {w : World} {K : PySem.W.Frag} {mg : Str → Option Value} {base : Heap}
theorem ok_ofS {f : Addr} {fd : FuncData} (F : Fun K "_law_of" "_law_of" s_L_of f fd) (gF : mg "_law_of" = some (.ref f)) (b : Binds K fd ["_law_hand_here", "_law_some"] []) (B : Bl mg) (c_L_take : Cal P w K mg base 1 "_law_take" spTake) : Cal P w K mg base 2 "_law_of" spOfS := by
  refine ⟨f, fd, _, F.ok sc_L_of (fun vs H Q E h => ?_) (fun cdv A outer s H vs Q E hr h => ?_), gF, F.kp, b⟩
  · obtain ⟨a, z, n, rfl, _⟩ := h
    rfl
  · obtain ⟨a, z, n, rfl, h0, h1, hh, hn, q⟩ := h
    refine ⟨_, (pss_one (ps_ret (pe_ix ix_str (pv 1) (pe_c c_L_take hr (by omega) (by rfl) (pa_cons (pv 0) (pa_cons (pe_callB call_len_str (by rfl) B.len PySem.boot_len (pa_cons (pv 1) pa_nil)) pa_nil))) (fun _ _ => rfl)))), ?_⟩
    refine ⟨.str z, rfl, .ref a, rfl, .str z, rfl, z, rfl, Nat.le_of_lt (small1000 (by omega)), ?_⟩
    refine ⟨a, _, n, rfl, by omega, by omega, hh, hn, fun H' r bt hh' r0 r1 => ?_⟩
    have hl : z.cps.toList.length = z.length := Array.length_toList
    have hj : r.toNat < z.cps.toList.length := by omega
    have hr0 : (0 : Int) ≤ r := r0
    have hv : atI z.cps.toList r = some z.cps.toList[r.toNat] := by
      unfold atI ixN
      rw [if_pos hr0, if_pos (by omega)]
      exact List.getElem?_eq_getElem hj
    have hm := List.getElem_mem hj
    generalize z.cps.toList[r.toNat] = c at hv hm
    exact ⟨z, r, c, rfl, rfl, Nat.le_of_lt (small1000 (by omega)), hv, q _ _ bt hh' hm⟩
end
end NG

set_option maxHeartbeats 16000000
namespace NG
open PySem PySem.Spec PyProof.Rows L2
structure StD (K : PySem.W.Frag) (many : Nat) (nm : Str) (sc : Nat) (rg st bh : List PyData) (a g pr ps pb cs : Addr) (n b : Nat) (us : List V) (H : Hp) : Prop where
  hg : SqT K H g [.str nm, .int (sc : Int), .ref pr, .ref ps, .ref pb]
  dr : Dp K H (.ref pr) (.tuple rg)
  ds : Dp K H (.ref ps) (.tuple st)
  db : Dp K H (.ref pb) (.tuple bh)
  hh : HandAt H a n
  hl : H cs = some (.lst us)
  ne : cs ≠ a
  hu : us.length ≤ b
  cl : ∀ v ∈ us, CaseD K many H v
section
variable {K : PySem.W.Frag} {many : Nat} {nm : Str} {sc : Nat} {rg st bh : List PyData} {a g pr ps pb cs : Addr} {n b : Nat} {us : List V} {H H' : Hp}
theorem StD.same (S : StD K many nm sc rg st bh a g pr ps pb cs n b us H) (s : Same H H') : StD K many nm sc rg st bh a g pr ps pb cs n b us H' :=
  ⟨same_sqt s S.hg, dp_same s S.dr, dp_same s S.ds, dp_same s S.db, S.hh.same s, s _ _ S.hl, S.ne, S.hu, fun v hv => (S.cl v hv).same s⟩
theorem tpo_tup {ds : List PyData} : tpo (.tuple ds) = tpoAll ds := rfl
theorem StD.but (S : StD K many nm sc rg st bh a g pr ps pb cs n b us H) (w : WdD many nm rg st bh) {n' : Nat} (x : But a H H') (h : HandAt H' a n') : StD K many nm sc rg st bh a g pr ps pb cs n' b us H' :=
  ⟨x.sq S.hh S.hg, dp_but x S.hh w.tr S.dr, dp_but x S.hh w.ts S.ds, dp_but x S.hh w.tb S.db, h, x _ _ S.ne S.hl, S.ne, S.hu, fun v hv => (S.cl v hv).imp fun _ _ q => x.sq S.hh q⟩
theorem StD.fin (S : StD K many nm sc rg st bh a g pr ps pb cs n b us H) (w : WdD many nm rg st bh) {v : V} {ws : List V} (e : ws = us ++ [v]) (c : CaseD K many H v) : StD K many nm sc rg st bh a g pr ps pb cs n (b + 1) ws (upd H cs (.lst ws)) := by
  subst e
  have k : ∀ p xs, SqT K H p xs → SqT K (upd H cs (.lst (us ++ [v]))) p xs := fun p xs q => put_sqt S.hl q
  refine ⟨k _ _ S.hg, dp_imp k w.tr S.dr, dp_imp k w.ts S.ds, dp_imp k w.tb S.db, S.hh.put S.ne, upd_same, S.ne, ?_, fun x hx => ?_⟩
  · rw [List.length_append]
    have := S.hu
    show us.length + 1 ≤ _
    omega
  · rcases List.mem_append.mp hx with hx | hx
    · exact (S.cl x hx).put S.hl
    · rw [List.mem_singleton.mp hx]
      exact c.put S.hl
theorem StD.cat (S : StD K many nm sc rg st bh a g pr ps pb cs n b us H) {l : Addr} {acc ws : List V} {k : Nat} (hl : H l = none) (hk : acc.length ≤ k) (hc : ∀ v ∈ acc, CaseD K many H v) (e : ws = us ++ acc) : StD K many nm sc rg st bh a g pr ps pb l n (b + k) ws (upd H l (.lst ws)) := by
  subst e
  have s := same_new (o := .lst (us ++ acc)) hl
  refine ⟨same_sqt s S.hg, dp_same s S.dr, dp_same s S.ds, dp_same s S.db, S.hh.same s, upd_same, S.hh.ne hl, ?_, fun x hx => ?_⟩
  · rw [List.length_append]
    have := S.hu
    omega
  · rcases List.mem_append.mp hx with hx | hx
    · exact (S.cl x hx).same s
    · exact (hc x hx).same s
theorem StD.le (S : StD K many nm sc rg st bh a g pr ps pb cs n b us H) {n' b' : Nat} (h : n ≤ n') (h2 : b ≤ b') : StD K many nm sc rg st bh a g pr ps pb cs n' b' us H := { S with hh := S.hh.le h, hu := Nat.le_trans S.hu h2 }
theorem case_of {z : Str} {i : Int} {vr vs vb : V} {rg' st' bh' : List PyData} {due : Bool} {t t2 : Addr} (h2 : SqT K H t2 [.ref t, .bl due]) (ht : SqT K H t [.str z, .int i, vr, vs, vb]) (r : Dp K H vr (.tuple rg')) (s : Dp K H vs (.tuple st')) (b : Dp K H vb (.tuple bh')) (w : WdD many z rg' st' bh') (e : dbtD many z i rg' st' bh' = due) : CaseD K many H (.ref t2) :=
  ⟨z, i, rg', st', bh', due, .tup h2 (.cons (.tup ht (.cons (.str _) (.cons (.int _) (.cons r (.cons s (.cons b .nil)))))) (.cons (.bl _) .nil)), w, e⟩
end
theorem GoodD.rl {many sc : Nat} {nm : Str} {rg st bh : List PyData} (g : GoodD many nm sc rg st bh) : rg.length = 4 := by
  have h := g.gr
  unfold regsD at h
  rw [Bool.and_eq_true, decide_eq_true_eq] at h
  exact h.1
theorem dp_row {K : PySem.W.Frag} {H : Hp} {p : Addr} {ds : List PyData} (h : Dp K H (.ref p) (.tuple ds)) : ∃ xs, SqT K H p xs ∧ DpAll K H xs ds ∧ xs.length = ds.length := by
  cases h with
  | tup q r => exact ⟨_, q, r, dpall_len r⟩
theorem tpoAll_snoc {ds : List PyData} {d : PyData} (h : tpoAll ds = true) (hd : tpo d = true) : tpoAll (ds ++ [d]) = true := by
  rw [tpoAll_mem] at h ⊢
  intro x hx
  rcases List.mem_append.mp hx with hx | hx
  · exact h x hx
  · rw [List.mem_singleton.mp hx]
    exact hd
theorem regs_cut {K : PySem.W.Frag} {H : Hp} {xr : List V} {rg : List PyData} (h : DpAll K H xr rg) (l : rg.length = 4) (t : tpoAll rg = true) : ∃ ds, DpAll K H (cutV xr none (some 3)) ds ∧ ds.length = 3 ∧ tpoAll ds = true := by
  match rg, l, t, h with
  | [a, b, c, d], _, t, .cons x (.cons y (.cons z (.cons u .nil))) =>
    refine ⟨[a, b, c], .cons x (.cons y (.cons z .nil)), rfl, ?_⟩
    rw [tpoAll_mem] at t ⊢
    intro q hq
    exact t q (by simp only [List.mem_cons, List.not_mem_nil, or_false] at hq ⊢; rcases hq with h | h | h <;> simp [h])
theorem case_at {K : PySem.W.Frag} {H : Hp} {v : V} {d : PyData} {due : Bool} (h : Dp K H v (.tuple [d, .bool due])) : ∃ p vd, v = .ref p ∧ SqT K H p [vd, .bl due] ∧ Dp K H vd d := by
  cases h with
  | tup q r =>
    cases r with
    | cons x r =>
      cases r with
      | cons y r =>
        cases r
        cases y
        exact ⟨_, _, rfl, q, x⟩
theorem dpall_app {K : PySem.W.Frag} {H : Hp} {ws : List V} {es : List PyData} (x : DpAll K H ws es) : ∀ {ds : List PyData} {vs : List V}, DpAll K H vs ds → DpAll K H (vs ++ ws) (ds ++ es)
  | [], _, .nil => x
  | _ :: _, _, .cons a b => .cons a (dpall_app x b)
theorem rows_cut {K : PySem.W.Frag} {H : Hp} {xs : List V} {ds : List PyData} {many : Nat} (h : DpAll K H xs ds) (l : ds.length = many) (hm : many = 2 ∨ many = 3) : (∃ es, DpAll K H (cutV xs (some 1) none) es ∧ es.length ≠ many ∧ ∀ d ∈ es, d ∈ ds) ∧ ∃ es, DpAll K H (xs ++ cutV xs none (some 1)) es ∧ es.length ≠ many ∧ ∀ d ∈ es, d ∈ ds := by
  match xs, ds, h, l with
  | [], [], .nil, l => exfalso; have : (0 : Nat) = many := l; omega
  | x :: vs, d :: ds, .cons a b, l =>
    have c1 : cutV (x :: vs) none (some 1) = [x] := by
      unfold cutV
      rw [HT.sIx_none, show HT.sIx (x :: vs).length (x :: vs).length (some 1) = min 1 (x :: vs).length from HT.sIx_nat _ _ 1]
      rw [List.drop_zero, Nat.sub_zero, Nat.min_eq_left (by show 1 ≤ vs.length + 1; omega)]
      rfl
    have l' : ds.length + 1 = many := l
    rw [cutT1, c1]
    refine ⟨⟨ds, b, by omega, fun y hy => List.mem_cons_of_mem _ hy⟩, (d :: ds) ++ [d], dpall_app (.cons a .nil) (.cons a b), by rw [List.length_append]; show ds.length + 1 + 1 ≠ many; omega, fun y hy => ?_⟩
    rcases List.mem_append.mp hy with hy | hy
    · exact hy
    · rw [List.mem_singleton.mp hy]
      exact List.mem_cons_self ..
theorem noPart_in {σ : L2.St} {H : Hp} {R : Option Int → Hp → Prop} (h : R none H) : tNoPart σ H R := h
theorem but_none {a D : Addr} {H H1 : Hp} (x : But a H H1) (ne : D ≠ a) (h : H1 D = none) : H D = none := by
  cases e : H D with
  | none => rfl
  | some o =>
    rw [x _ _ ne e] at h
    cases h
theorem But.putn {a D : Addr} {H H1 : Hp} {o : HO} (h : H D = none) (x : But a H H1) : But a H (upd H1 D o) := fun b' o' n e => by
  rw [upd_ne (ne_of_none e h)]
  exact x b' o' n e
theorem chain_if {c : Bool} {z hi : Int} {H : Hp} {Q : VK} (q : Q (.bl (c && decide (z ≤ hi))) H) : if c = true then rI0 (fun i j => V.bl (decide (i ≤ j))) (V.int z) (V.int hi) H Q else Q (.bl false) H := by
  cases c
  · exact q
  · exact ⟨_, _, rfl, rfl, q⟩
theorem alpha_at {c i : Nat} (h : ("abcdefghijklmnopqrstuvwxyz" : Str).cps[i]? = some c) : c ∈ alphaC := by
  unfold alphaC
  rw [← Array.getElem?_toList] at h
  exact List.mem_of_getElem? h
def spAllC (K : PySem.W.Frag) : Sp := fun vs H Q _ => ∃ (a g pr ps pb : Addr) (many n sc : Nat) (nm : Str) (rg st bh : List PyData), vs = [.ref a, .ref g, .int (many : Int)] ∧ (many = 2 ∨ many = 3) ∧ GoodD many nm sc rg st bh ∧ SqT K H g [.str nm, .int (sc : Int), .ref pr, .ref ps, .ref pb] ∧ Dp K H (.ref pr) (.tuple rg) ∧ Dp K H (.ref ps) (.tuple st) ∧ Dp K H (.ref pb) (.tuple bh) ∧ HandAt H a n ∧ n ≤ 890000000 ∧
  ∀ H' l us, But a H H' → HandAt H' a (n + 30) → H' l = some (.lst us) → us.length ≤ 300 → (∀ v ∈ us, CaseD K many H' v) → Q (.ref l) H'
section
variable {P : Program} {w : World} {K : PySem.W.Frag} {mg : Str → Option Value} {base : Heap}
theorem ok_allc {f : Addr} {fd : FuncData} (F : Fun K "_law_all_cases" "_law_all_cases" s_L_all_cases f fd) (gF : mg "_law_all_cases" = some (.ref f)) (b : Binds K fd ["_law_hand_here", "_law_good", "_law_wide"] []) (B : Bl mg) (c_L_take : Cal P w K mg base 1 "_law_take" spTake) (c_L_of : Cal P w K mg base 2 "_law_of" spOfS) (c_L_put : Cal P w K mg base 1 "_law_put" (spSetT K)) (c_L_part : Cal P w K mg base 1 "_law_part" (spSetT K)) (c_L_stakes_cases : Cal P w K mg base 1 "_law_stakes_cases" (spCases K)) (c_L_expressions : Cal P w K mg base 8 "_law_expressions" (spExprC K)) (c_L_deeds_cases : Cal P w K mg base 3 "_law_deeds_cases" (spDeedC K)) : Cal P w K mg base 9 "_law_all_cases" (spAllC K) := by
  refine ⟨f, fd, _, F.ok sc_L_all_cases (fun vs H Q E h => ?_) (fun cdv A outer s H vs Q E hr h => ?_), gF, F.kp, b⟩
  · obtain ⟨_, _, _, _, _, _, _, _, _, _, _, _, rfl, _⟩ := h
    rfl
  · obtain ⟨a, g, pr, ps, pb, many, n, sc, nm, rg, st, bh, rfl, hm, G, hg, dr, ds, db, hh, hn, q⟩ := h
    refine ⟨_, (C8.pss_cut (ps_asg (pv 1) (pg_tup rfl (pgs_cons (pg_name (i := 3) sc_L_all_cases.nd rfl (.inl rfl)) (pgs_cons (pg_name (i := 4) sc_L_all_cases.nd rfl (.inl rfl)) (pgs_cons (pg_name (i := 5) sc_L_all_cases.nd rfl (.inl rfl)) (pgs_cons (pg_name (i := 6) sc_L_all_cases.nd rfl (.inl rfl)) (pgs_cons (pg_name (i := 7) sc_L_all_cases.nd rfl (.inl rfl)) pgs_nil))))))) (C8.pss_cut (ps_par (i := 8) (j := 9) rfl sc_L_all_cases.nd rfl rfl (by decide) rfl rfl (pa_cons (pe_c c_L_take hr (by omega) (by rfl) (pa_cons (pv 0) (pa_cons (pv 2) pa_nil))) (pa_cons (pe_lst pa_nil) pa_nil)) (by rfl)) (C8.pss_cut (ps_set (i := 10) sc_L_all_cases.nd rfl (.inr rfl) (pe_c c_L_of hr (by omega) (by rfl) (pa_cons (pv 0) (pa_cons pe_str pa_nil)))) (C8.pss_cut (ps_for PassesOwn.never rfl (pi_tup (pe_tup (pa_cons pe_int (pa_cons pe_int (pa_cons pe_int (pa_cons pe_int (pa_cons pe_int pa_nil))))))) (pg_name (i := 11) sc_L_all_cases.nd rfl (.inl rfl)) (pss_one (ps_expr (pe_bm PySem.F.plainAttrs_list PySem.F.slot_list_append PySem.F.type_list_append mt_append (pv 9) (pa_cons (pe_tup (pa_cons (pe_c c_L_put hr (by omega) (by rfl) (pa_cons (pv 1) (pa_cons pe_int (pa_cons (pe_op op_repS (pv 10) (pv 11)) pa_nil)))) (pa_cons (pe_chain op_le op_le pe_int (pv 11) pe_int) pa_nil))) pa_nil))))) (C8.pss_cut (ps_for PassesOwn.never rfl (pi_str pe_str) (pg_name (i := 12) sc_L_all_cases.nd rfl (.inl rfl)) (pss_one (ps_expr (pe_bm PySem.F.plainAttrs_list PySem.F.slot_list_append PySem.F.type_list_append mt_append (pv 9) (pa_cons (pe_tup (pa_cons (pe_c c_L_put hr (by omega) (by rfl) (pa_cons (pv 1) (pa_cons pe_int (pa_cons (pe_op op_catS (pv 10) (pv 12)) pa_nil)))) (pa_cons pe_bl pa_nil))) pa_nil))))) (C8.pss_cut (ps_for PassesOwn.never rfl (pi_tup (pe_tup (pa_cons pe_str (pa_cons pe_str (pa_cons pe_str (pa_cons pe_str (pa_cons pe_str (pa_cons pe_str (pa_cons pe_str (pa_cons pe_str (pa_cons pe_str (pa_cons pe_str (pa_cons pe_str (pa_cons pe_str pa_nil)))))))))))))) (pg_name (i := 13) sc_L_all_cases.nd rfl (.inl rfl)) (pss_one (ps_expr (pe_bm PySem.F.plainAttrs_list PySem.F.slot_list_append PySem.F.type_list_append mt_append (pv 9) (pa_cons (pe_tup (pa_cons (pe_c c_L_put hr (by omega) (by rfl) (pa_cons (pv 1) (pa_cons pe_int (pa_cons (pv 13) pa_nil)))) (pa_cons pe_bl pa_nil))) pa_nil))))) (C8.pss_cut (ps_set (i := 9) sc_L_all_cases.nd rfl (.inl rfl) (pe_op op_cat (pv 9) (pe_lc (own := [("_law_odd", 14)]) rfl sc_L_all_cases.nd (pi_tup (pe_tup (pa_cons pe_str (pa_cons pe_str (pa_cons pe_str (pa_cons pe_str (pa_cons pe_str (pa_cons pe_str (pa_cons pe_str (pa_cons pe_str pa_nil)))))))))) (blkOk_by (N := N_L_all_cases) (sc := defScope s_L_all_cases) (by decide +kernel)) (fun _ _ _ _ _ => pg_name (i := 14) sc_L_all_cases.nd rfl (.inl rfl)) (fun _ _ _ _ _ => pts_nil) (fun _ _ _ _ _ => pe_tup (pa_cons (pe_c c_L_put hr (by omega) (by rfl) (pa_cons (pv 1) (pa_cons pe_int (pa_cons (pe_op op_catS (pv 10) (pv 14)) pa_nil)))) (pa_cons pe_bl pa_nil)))))) (C8.pss_cut (ps_for PassesOwn.never rfl (pi_tup (pe_tup (pa_cons (pe_un un_neg pe_int) (pa_cons pe_int (pa_cons pe_int (pa_cons pe_int (pa_cons pe_int (pa_cons pe_int (pa_cons pe_int pa_nil))))))))) (pg_name (i := 15) sc_L_all_cases.nd rfl (.inl rfl)) (pss_cons (ps_set (i := 16) sc_L_all_cases.nd rfl (.inl rfl) (pe_c c_L_put hr (by omega) (by rfl) (pa_cons (pv 1) (pa_cons pe_int (pa_cons (pe_op op_repA (pe_tup (pa_cons (pe_tup (pa_cons pe_str (pa_cons pe_int pa_nil))) pa_nil)) (pv 2)) pa_nil))))) (pss_one (ps_expr (pe_bm PySem.F.plainAttrs_list PySem.F.slot_list_append PySem.F.type_list_append mt_append (pv 9) (pa_cons (pe_tup (pa_cons (pe_c c_L_put hr (by omega) (by rfl) (pa_cons (pv 16) (pa_cons pe_int (pa_cons (pv 15) pa_nil)))) (pa_cons (pe_chain op_le op_le pe_int (pv 15) pe_int) pa_nil))) pa_nil)))))) (C8.pss_cut (ps_for PassesOwn.never rfl (pi_tup (pe_tup (pa_cons (pe_un un_neg pe_int) (pa_cons (pe_un un_neg pe_int) (pa_cons pe_int (pa_cons pe_int pa_nil)))))) (pg_name (i := 15) sc_L_all_cases.nd rfl (.inl rfl)) (pss_one (ps_expr (pe_bm PySem.F.plainAttrs_list PySem.F.slot_list_append PySem.F.type_list_append mt_append (pv 9) (pa_cons (pe_tup (pa_cons (pe_c c_L_put hr (by omega) (by rfl) (pa_cons (pv 1) (pa_cons pe_int (pa_cons (pe_c c_L_part hr (by omega) (by rfl) (pa_cons (pv 5) (pa_cons (pe_c c_L_take hr (by omega) (by rfl) (pa_cons (pv 0) (pa_cons pe_int pa_nil))) (pa_cons (pv 15) pa_nil)))) pa_nil)))) (pa_cons (pe_cmpR op_le (pe_callB call_abs (by rfl) B.abs (by decide +kernel) (pa_cons (pv 15) pa_nil)) pe_int (nomark _)) pa_nil))) pa_nil))))) (C8.pss_cut (ps_set (i := 9) sc_L_all_cases.nd rfl (.inl rfl) (pe_op op_cat (pv 9) (pe_lst (pa_cons (pe_tup (pa_cons (pe_c c_L_put hr (by omega) (by rfl) (pa_cons (pv 1) (pa_cons pe_int (pa_cons (pe_slice sl_tupA (pv 5) po_none (po_some pe_int)) pa_nil)))) (pa_cons pe_bl pa_nil))) (pa_cons (pe_tup (pa_cons (pe_c c_L_put hr (by omega) (by rfl) (pa_cons (pv 1) (pa_cons pe_int (pa_cons (pe_op op_catA (pv 5) (pe_tup (pa_cons pe_int pa_nil))) pa_nil)))) (pa_cons pe_bl pa_nil))) pa_nil))))) (C8.pss_cut (ps_for PassesOwn.never rfl (pi_list (pe_op op_cat (pe_c c_L_stakes_cases hr (by omega) (by rfl) (pa_cons (pv 4) pa_nil)) (pe_c c_L_expressions hr (by omega) (by rfl) (pa_cons (pv 0) (pa_cons (pv 2) pa_nil))))) (pg_tup rfl (pgs_cons (pg_name (i := 17) sc_L_all_cases.nd rfl (.inl rfl)) (pgs_cons (pg_name (i := 18) sc_L_all_cases.nd rfl (.inl rfl)) pgs_nil))) (pss_one (ps_expr (pe_bm PySem.F.plainAttrs_list PySem.F.slot_list_append PySem.F.type_list_append mt_append (pv 9) (pa_cons (pe_tup (pa_cons (pe_c c_L_put hr (by omega) (by rfl) (pa_cons (pv 1) (pa_cons pe_int (pa_cons (pe_c c_L_part hr (by omega) (by rfl) (pa_cons (pv 6) (pa_cons (pv 8) (pa_cons (pv 17) pa_nil)))) pa_nil)))) (pa_cons (pv 18) pa_nil))) pa_nil))))) (C8.pss_cut (ps_for PassesOwn.never rfl (pi_list (pe_c c_L_deeds_cases hr (by omega) (by rfl) (pa_cons (pv 0) (pa_cons (pv 2) pa_nil)))) (pg_tup rfl (pgs_cons (pg_name (i := 19) sc_L_all_cases.nd rfl (.inl rfl)) (pgs_cons (pg_name (i := 18) sc_L_all_cases.nd rfl (.inl rfl)) pgs_nil))) (pss_one (ps_expr (pe_bm PySem.F.plainAttrs_list PySem.F.slot_list_append PySem.F.type_list_append mt_append (pv 9) (pa_cons (pe_tup (pa_cons (pe_c c_L_put hr (by omega) (by rfl) (pa_cons (pv 1) (pa_cons pe_int (pa_cons (pe_c c_L_part hr (by omega) (by rfl) (pa_cons (pv 7) (pa_cons (pv 8) (pa_cons (pv 19) pa_nil)))) pa_nil)))) (pa_cons (pv 18) pa_nil))) pa_nil))))) (C8.pss_cut (ps_for PassesOwn.never rfl (pi_tup (pe_tup (pa_cons pe_int (pa_cons pe_int pa_nil)))) (pg_name (i := 20) sc_L_all_cases.nd rfl (.inl rfl)) (pss_one (ps_for PassesOwn.never rfl (pi_tup (pe_tup (pa_cons (pe_slice sl_tupA (pe_ix ix_tup (pv 1) (pv 20) (fun _ _ => rfl)) (po_some pe_int) po_none) (pa_cons (pe_op op_catA (pe_ix ix_tup (pv 1) (pv 20) (fun _ _ => rfl)) (pe_slice sl_tupA (pe_ix ix_tup (pv 1) (pv 20) (fun _ _ => rfl)) po_none (po_some pe_int))) pa_nil)))) (pg_name (i := 21) sc_L_all_cases.nd rfl (.inl rfl)) (pss_one (ps_expr (pe_bm PySem.F.plainAttrs_list PySem.F.slot_list_append PySem.F.type_list_append mt_append (pv 9) (pa_cons (pe_tup (pa_cons (pe_c c_L_put hr (by omega) (by rfl) (pa_cons (pv 1) (pa_cons (pv 20) (pa_cons (pv 21) pa_nil)))) (pa_cons pe_bl pa_nil))) pa_nil))))))) (pss_one (ps_ret (pv 9)))))))))))))))), ?_⟩
    refine ⟨fun σ' H' => σ' = [some (.ref a), some (.ref g), some (.int (many : Int)), some (.str nm), some (.int (sc : Int)), some (.ref pr), some (.ref ps), some (.ref pb), none, none, none, none, none, none, none, none, none, none, none, none, none, none] ∧ H = H', ?_, ?_⟩
    · exact ⟨_, rfl, g, _, rfl, hg, rfl, _, _, rfl, _, _, rfl, _, _, rfl, _, _, rfl, _, _, rfl, rfl, rfl, rfl⟩
    rintro σ' H' ⟨rfl, rfl⟩
    refine ⟨fun σ' H' => ∃ (face : Nat) (cs : Addr), face < many ∧ σ' = [some (.ref a), some (.ref g), some (.int (many : Int)), some (.str nm), some (.int (sc : Int)), some (.ref pr), some (.ref ps), some (.ref pb), some (.int (face : Int)), some (.ref cs), none, none, none, none, none, none, none, none, none, none, none, none] ∧ But a H H' ∧ H cs = none ∧ StD K many nm sc rg st bh a g pr ps pb cs (n + 1) 0 [] H', ?_, ?_⟩
    · refine ⟨.ref a, rfl, _, rfl, a, many, n, rfl, by omega, by omega, hh, by omega, fun H1 r b1 hh1 r0 r1 => ?_⟩
      obtain ⟨face, rfl⟩ := Int.eq_ofNat_of_zero_le r0
      refine ⟨(by show 0 ≤ sizeLine; decide), fun D nD => ?_⟩
      have s2 := same_new (o := .lst []) nD
      have hf : face < many := by have r1 : (face : Int) < (many : Int) := r1; omega
      exact ⟨_, _, rfl, face, D, hf, rfl, b1.trans (But.of s2), but_none b1 (hh1.ne nD) nD, same_sqt s2 (b1.sq hh hg), dp_same s2 (dp_but b1 hh (tpo_tup.trans G.wd.tr) dr), dp_same s2 (dp_but b1 hh (tpo_tup.trans G.wd.ts) ds), dp_same s2 (dp_but b1 hh (tpo_tup.trans G.wd.tb) db), hh1.same s2, upd_same, hh1.ne nD, Nat.zero_le _, fun v hv => by cases hv⟩
    rintro σ' H' ⟨face, cs, hf, rfl, b1, fr, S⟩
    refine ⟨fun σ' H' => ∃ (c : Nat), c ∈ alphaC ∧ σ' = [some (.ref a), some (.ref g), some (.int (many : Int)), some (.str nm), some (.int (sc : Int)), some (.ref pr), some (.ref ps), some (.ref pb), some (.int (face : Int)), some (.ref cs), some (.str ⟨#[c]⟩), none, none, none, none, none, none, none, none, none, none, none] ∧ But a H H' ∧ H cs = none ∧ StD K many nm sc rg st bh a g pr ps pb cs (n + 2) 0 [] H', ?_, ?_⟩
    · refine ⟨.ref a, rfl, a, _, _, rfl, by decide, by decide, S.hh, by omega, fun H2 c b2 hh2 hc => ?_⟩
      exact ⟨c, hc, rfl, b1.trans b2, fr, S.but G.wd b2 hh2⟩
    rintro σ' H' ⟨c, hc, rfl, b2, fr, S⟩
    have c1 : (⟨#[c]⟩ : Str).length = 1 := rfl
    refine ⟨fun σ' H' => ∃ (y11 y12 y13 y14 y15 y16 y17 y18 y19 y20 y21 : Option V) (cs : Addr) (us : List V), σ' = [some (.ref a), some (.ref g), some (.int (many : Int)), some (.str nm), some (.int (sc : Int)), some (.ref pr), some (.ref ps), some (.ref pb), some (.int (face : Int)), some (.ref cs), some (.str ⟨#[c]⟩), y11, y12, y13, y14, y15, y16, y17, y18, y19, y20, y21] ∧ But a H H' ∧ H cs = none ∧ StD K many nm sc rg st bh a g pr ps pb cs (n + 2) 5 us H', ?_, ?_⟩
    · refine ⟨(by show 5 ≤ sizeLine; decide), fun tp ntp => ⟨tp, rfl, ⟨_, SqT.of upd_same⟩, ?_⟩⟩
      have stp := same_new (o := .tup [.int 0, .int 1, .int 7, .int 8, .int 9]) ntp
      have htp : SqT K (upd H' tp (.tup [.int 0, .int 1, .int 7, .int 8, .int 9])) tp [.int 0, .int 1, .int 7, .int 8, .int 9] := SqT.of upd_same
      have b3 := b2.trans (But.of stp)
      have S := S.same stp
      refine for_tup (xs := [.int 0, .int 1, .int 7, .int 8, .int 9]) (fun i σ H' => ∃ (y11 y12 y13 y14 y15 y16 y17 y18 y19 y20 y21 : Option V) (us : List V), σ = [some (.ref a), some (.ref g), some (.int (many : Int)), some (.str nm), some (.int (sc : Int)), some (.ref pr), some (.ref ps), some (.ref pb), some (.int (face : Int)), some (.ref cs), some (.str ⟨#[c]⟩), y11, y12, y13, y14, y15, y16, y17, y18, y19, y20, y21] ∧ But a H H' ∧ SqT K H' tp [.int 0, .int 1, .int 7, .int 8, .int 9] ∧ StD K many nm sc rg st bh a g pr ps pb cs (n + 2) (0 + i) us H') ⟨_, _, _, _, _, _, _, _, _, _, _, _, rfl, b3, htp, S⟩ ?_ ?_ ?_
      · rintro i σ H' _ ⟨_, _, _, _, _, _, _, _, _, _, _, _, _, _, h, _⟩
        exact h
      · rintro i x σ H7 hx ⟨y11, y12, y13, y14, y15, y16, y17, y18, y19, y20, y21, us, rfl, b4, ht, S⟩
        have hi := (List.getElem?_eq_some_iff.mp hx).1
        have hi : i < 5 := hi
        have hx := List.mem_of_getElem? hx
        simp only [List.mem_cons, List.not_mem_nil, or_false] at hx
        obtain ⟨z, rfl, hz⟩ : ∃ z : Int, x = .int z ∧ z ∈ ([0, 1, 7, 8, 9] : List Int) := by
          rcases hx with rfl | rfl | rfl | rfl | rfl <;> exact ⟨_, rfl, by decide⟩
        have hz2 : 0 ≤ z ∧ z ≤ 9 := by
          simp only [List.mem_cons, List.not_mem_nil, or_false] at hz
          omega
        refine ⟨_, rfl, .inl ⟨rfl, _, SqL.of S.hl⟩, ?_⟩
        refine ⟨_, rfl, _, rfl, _, rfl, _, _, rfl, rfl, c1, by omega, by omega, ?_⟩
        refine ⟨g, _, 0, _, rfl, S.hg, (by show 0 < 5; decide), (by show 5 ≤ 900; decide), fun H8 t s8 ht8 => ?_⟩
        refine ⟨_, rfl, _, _, rfl, rfl, _, rfl, ?_⟩
        have hln : (repS ⟨#[c]⟩ z).length ≤ 1000 := by rw [repS_len, c1]; omega
        by_cases c2 : 1 ≤ z
        · refine iteTT (decide_eq_true c2) ⟨_, _, rfl, rfl, ?_⟩
          refine ⟨(by show 2 ≤ sizeLine; decide), fun t2 n2 => ?_⟩
          have s9 := same_new (o := .tup [.ref t, .bl (decide (z ≤ 8))]) n2
          have S := (S.same s8).same s9
          have b5 := (b4.trans (But.of s8)).trans (But.of s9)
          have cz : CaseD K many (upd H8 t2 (.tup [.ref t, .bl (decide (z ≤ 8))])) (.ref t2) := case_of (SqT.of upd_same) (same_sqt s9 ht8) S.dr S.ds S.db (G.w_nm hln) ((G.z_nm _).trans ((name_rep hc hz).trans (by rw [decide_eq_true c2, Bool.true_and])))
          refine ⟨cs, us, _, rfl, rfl, S.hl, small1000 (by have := S.hu; omega), ?_⟩
          exact ⟨_, _, _, _, _, _, _, _, _, _, _, _, rfl, b5.putn fr, put_sqt S.hl (same_sqt s9 (same_sqt s8 ht)), S.fin G.wd rfl cz⟩
        · refine iteFF (decide_eq_false c2) ?_
          refine ⟨(by show 2 ≤ sizeLine; decide), fun t2 n2 => ?_⟩
          have s9 := same_new (o := .tup [.ref t, .bl false]) n2
          have S := (S.same s8).same s9
          have b5 := (b4.trans (But.of s8)).trans (But.of s9)
          have cz : CaseD K many (upd H8 t2 (.tup [.ref t, .bl false])) (.ref t2) := case_of (SqT.of upd_same) (same_sqt s9 ht8) S.dr S.ds S.db (G.w_nm hln) ((G.z_nm _).trans ((name_rep hc hz).trans (by rw [decide_eq_false c2, Bool.false_and])))
          refine ⟨cs, us, _, rfl, rfl, S.hl, small1000 (by have := S.hu; omega), ?_⟩
          exact ⟨_, _, _, _, _, _, _, _, _, _, _, _, rfl, b5.putn fr, put_sqt S.hl (same_sqt s9 (same_sqt s8 ht)), S.fin G.wd rfl cz⟩
      · rintro σ H7 ⟨y11, y12, y13, y14, y15, y16, y17, y18, y19, y20, y21, us, rfl, b4, ht, S⟩
        exact ⟨_, _, _, _, _, _, _, _, _, _, _, cs, us, rfl, b4, fr, S⟩
    rintro σ' H' ⟨y11, y12, y13, y14, y15, y16, y17, y18, y19, y20, y21, cs, us, rfl, b2, fr, S⟩
    refine ⟨fun σ' H' => ∃ (y11 y12 y13 y14 y15 y16 y17 y18 y19 y20 y21 : Option V) (cs : Addr) (us : List V), σ' = [some (.ref a), some (.ref g), some (.int (many : Int)), some (.str nm), some (.int (sc : Int)), some (.ref pr), some (.ref ps), some (.ref pb), some (.int (face : Int)), some (.ref cs), some (.str ⟨#[c]⟩), y11, y12, y13, y14, y15, y16, y17, y18, y19, y20, y21] ∧ But a H H' ∧ H cs = none ∧ StD K many nm sc rg st bh a g pr ps pb cs (n + 2) 31 us H', ?_, ?_⟩
    · refine ⟨_, rfl, ?_⟩
      refine for_it (walk_str (z := "abcdefghijklmnopqrstuvwxyz")) (fun i σ H' => ∃ (y11 y12 y13 y14 y15 y16 y17 y18 y19 y20 y21 : Option V) (us : List V), σ = [some (.ref a), some (.ref g), some (.int (many : Int)), some (.str nm), some (.int (sc : Int)), some (.ref pr), some (.ref ps), some (.ref pb), some (.int (face : Int)), some (.ref cs), some (.str ⟨#[c]⟩), y11, y12, y13, y14, y15, y16, y17, y18, y19, y20, y21] ∧ But a H H' ∧ StD K many nm sc rg st bh a g pr ps pb cs (n + 2) (5 + i) us H') ⟨_, _, _, _, _, _, _, _, _, _, _, us, rfl, b2, S⟩ (fun i σ H' _ h => trivial) ?_ ?_
      · rintro i x σ H7 H6 hi ⟨y11, y12, y13, y14, y15, y16, y17, y18, y19, y20, y21, us, rfl, b4, S⟩ ⟨rfl, e, he, rfl⟩
        have he := alpha_at he
        have hi : i < 26 := hi
        refine ⟨_, rfl, .inl ⟨rfl, _, SqL.of S.hl⟩, ?_⟩
        refine ⟨_, rfl, _, rfl, _, rfl, _, _, rfl, rfl, (by show 0 < 1; decide), (by show 0 < 1; decide), (by show 1 + 1 ≤ 1000; decide), ?_⟩
        refine ⟨g, _, 0, _, rfl, S.hg, (by show 0 < 5; decide), (by show 5 ≤ 900; decide), fun H8 t s8 ht8 => ?_⟩
        refine ⟨(by show 2 ≤ sizeLine; decide), fun t2 n2 => ?_⟩
        have s9 := same_new (o := .tup [.ref t, .bl true]) n2
        have S := (S.same s8).same s9
        have b5 := (b4.trans (But.of s8)).trans (But.of s9)
        have cz : CaseD K many (upd H8 t2 (.tup [.ref t, .bl true])) (.ref t2) := case_of (SqT.of upd_same) (same_sqt s9 ht8) S.dr S.ds S.db (G.w_nm (show 2 ≤ 1000 by decide)) ((G.z_nm _).trans (name_two hc he))
        refine ⟨cs, us, _, rfl, rfl, S.hl, small1000 (by have := S.hu; omega), ?_⟩
        exact ⟨_, _, _, _, _, _, _, _, _, _, _, _, rfl, b5.putn fr, S.fin G.wd rfl cz⟩
      · rintro σ H7 ⟨y11, y12, y13, y14, y15, y16, y17, y18, y19, y20, y21, us, rfl, b4, S⟩
        exact ⟨_, _, _, _, _, _, _, _, _, _, _, cs, us, rfl, b4, fr, S⟩
    rintro σ' H' ⟨y11, y12, y13, y14, y15, y16, y17, y18, y19, y20, y21, cs, us, rfl, b2, fr, S⟩
    refine ⟨fun σ' H' => ∃ (y11 y12 y13 y14 y15 y16 y17 y18 y19 y20 y21 : Option V) (cs : Addr) (us : List V), σ' = [some (.ref a), some (.ref g), some (.int (many : Int)), some (.str nm), some (.int (sc : Int)), some (.ref pr), some (.ref ps), some (.ref pb), some (.int (face : Int)), some (.ref cs), some (.str ⟨#[c]⟩), y11, y12, y13, y14, y15, y16, y17, y18, y19, y20, y21] ∧ But a H H' ∧ H cs = none ∧ StD K many nm sc rg st bh a g pr ps pb cs (n + 2) 43 us H', ?_, ?_⟩
    · refine ⟨(by show 12 ≤ sizeLine; decide), fun tp ntp => ⟨tp, rfl, ⟨_, SqT.of upd_same⟩, ?_⟩⟩
      have stp := same_new (o := .tup [.str "out", .str "one", .str "in", .str "house", .str "doubter", .str "stake", .str "behind", .str "when", .str "put", .str "told", .str "share", .str "fig"]) ntp
      have htp : SqT K (upd H' tp (.tup [.str "out", .str "one", .str "in", .str "house", .str "doubter", .str "stake", .str "behind", .str "when", .str "put", .str "told", .str "share", .str "fig"])) tp [.str "out", .str "one", .str "in", .str "house", .str "doubter", .str "stake", .str "behind", .str "when", .str "put", .str "told", .str "share", .str "fig"] := SqT.of upd_same
      have b3 := b2.trans (But.of stp)
      have S := S.same stp
      refine for_tup (xs := [.str "out", .str "one", .str "in", .str "house", .str "doubter", .str "stake", .str "behind", .str "when", .str "put", .str "told", .str "share", .str "fig"]) (fun i σ H' => ∃ (y11 y12 y13 y14 y15 y16 y17 y18 y19 y20 y21 : Option V) (us : List V), σ = [some (.ref a), some (.ref g), some (.int (many : Int)), some (.str nm), some (.int (sc : Int)), some (.ref pr), some (.ref ps), some (.ref pb), some (.int (face : Int)), some (.ref cs), some (.str ⟨#[c]⟩), y11, y12, y13, y14, y15, y16, y17, y18, y19, y20, y21] ∧ But a H H' ∧ SqT K H' tp [.str "out", .str "one", .str "in", .str "house", .str "doubter", .str "stake", .str "behind", .str "when", .str "put", .str "told", .str "share", .str "fig"] ∧ StD K many nm sc rg st bh a g pr ps pb cs (n + 2) (31 + i) us H') ⟨_, _, _, _, _, _, _, _, _, _, _, _, rfl, b3, htp, S⟩ ?_ ?_ ?_
      · rintro i σ H' _ ⟨_, _, _, _, _, _, _, _, _, _, _, _, _, _, h, _⟩
        exact h
      · rintro i x σ H7 hx ⟨y11, y12, y13, y14, y15, y16, y17, y18, y19, y20, y21, us, rfl, b4, ht, S⟩
        have hi := (List.getElem?_eq_some_iff.mp hx).1
        have hi : i < 12 := hi
        have hx := List.mem_of_getElem? hx
        simp only [List.mem_cons, List.not_mem_nil, or_false] at hx
        obtain ⟨z, rfl, hz⟩ : ∃ z : Str, x = .str z ∧ z ∈ wordS := by
          rcases hx with rfl | rfl | rfl | rfl | rfl | rfl | rfl | rfl | rfl | rfl | rfl | rfl <;> exact ⟨_, rfl, by simp [wordS]⟩
        refine ⟨_, rfl, .inl ⟨rfl, _, SqL.of S.hl⟩, ?_⟩
        refine ⟨_, rfl, _, rfl, ?_⟩
        refine ⟨g, _, 0, _, rfl, S.hg, (by show 0 < 5; decide), (by show 5 ≤ 900; decide), fun H8 t s8 ht8 => ?_⟩
        refine ⟨(by show 2 ≤ sizeLine; decide), fun t2 n2 => ?_⟩
        have s9 := same_new (o := .tup [.ref t, .bl true]) n2
        have S := (S.same s8).same s9
        have b5 := (b4.trans (But.of s8)).trans (But.of s9)
        have cz : CaseD K many (upd H8 t2 (.tup [.ref t, .bl true])) (.ref t2) := case_of (SqT.of upd_same) (same_sqt s9 ht8) S.dr S.ds S.db (G.w_nm (name_word hz).2) ((G.z_nm _).trans (name_word hz).1)
        refine ⟨cs, us, _, rfl, rfl, S.hl, small1000 (by have := S.hu; omega), ?_⟩
        exact ⟨_, _, _, _, _, _, _, _, _, _, _, _, rfl, b5.putn fr, put_sqt S.hl (same_sqt s9 (same_sqt s8 ht)), S.fin G.wd rfl cz⟩
      · rintro σ H7 ⟨y11, y12, y13, y14, y15, y16, y17, y18, y19, y20, y21, us, rfl, b4, ht, S⟩
        exact ⟨_, _, _, _, _, _, _, _, _, _, _, cs, us, rfl, b4, fr, S⟩
    rintro σ' H' ⟨y11, y12, y13, y14, y15, y16, y17, y18, y19, y20, y21, cs, us, rfl, b2, fr, S⟩
    refine ⟨fun σ' H' => ∃ (y11 y12 y13 y14 y15 y16 y17 y18 y19 y20 y21 : Option V) (cs : Addr) (us : List V), σ' = [some (.ref a), some (.ref g), some (.int (many : Int)), some (.str nm), some (.int (sc : Int)), some (.ref pr), some (.ref ps), some (.ref pb), some (.int (face : Int)), some (.ref cs), some (.str ⟨#[c]⟩), y11, y12, y13, y14, y15, y16, y17, y18, y19, y20, y21] ∧ But a H H' ∧ H cs = none ∧ StD K many nm sc rg st bh a g pr ps pb cs (n + 2) 51 us H', ?_, ?_⟩
    · refine ⟨_, rfl, (by show 8 ≤ sizeLine; decide), fun tp ntp => ⟨tp, rfl, ⟨_, SqT.of upd_same⟩, fun D nD => ?_⟩⟩
      have stp := same_new (o := .tup [.str "A", .str "Z", .str "0", .str " ", .str "-", .str "`", .str "{", .str "\n"]) ntp
      have htp : SqT K (upd H' tp (.tup [.str "A", .str "Z", .str "0", .str " ", .str "-", .str "`", .str "{", .str "\n"])) tp [.str "A", .str "Z", .str "0", .str " ", .str "-", .str "`", .str "{", .str "\n"] := SqT.of upd_same
      have b3 := b2.trans (But.of stp)
      have S := S.same stp
      refine lc_tup (xs := [.str "A", .str "Z", .str "0", .str " ", .str "-", .str "`", .str "{", .str "\n"]) (fun i H9 => ∃ acc, Same (upd H' tp (.tup [.str "A", .str "Z", .str "0", .str " ", .str "-", .str "`", .str "{", .str "\n"])) H9 ∧ H9 D = some (.lst acc) ∧ acc.length = i ∧ ∀ v ∈ acc, CaseD K many H9 v) ⟨[], same_new nD, upd_same, rfl, fun v hv => nomatch hv⟩ ?_ ?_ ?_
      · rintro i H9 _ ⟨_, sa, _⟩
        exact same_sqt sa htp
      · rintro i x Ha hx ⟨acc, sa, hDa, hal, hca⟩
        have hi := (List.getElem?_eq_some_iff.mp hx).1
        have hi : i < 8 := hi
        have hx := List.mem_of_getElem? hx
        simp only [List.mem_cons, List.not_mem_nil, or_false] at hx
        obtain ⟨z, rfl, hz⟩ : ∃ z : Str, x = .str z ∧ z ∈ oddS := by
          rcases hx with rfl | rfl | rfl | rfl | rfl | rfl | rfl | rfl <;> exact ⟨_, rfl, by simp [oddS]⟩
        have S := S.same sa
        refine ⟨rfl, tYes_in ⟨_, rfl, _, rfl, _, rfl, _, _, rfl, rfl, (by show 0 < 1; decide), (by rw [odd_len hz]; decide), (by rw [c1, odd_len hz]; decide), g, _, 0, _, rfl, S.hg, (by show 0 < 5; decide), (by show 5 ≤ 900; decide), fun H8 t s8 ht8 => ⟨(by show 2 ≤ sizeLine; decide), fun t2 n2 => ?_⟩⟩⟩
        have s9 := same_new (o := .tup [.ref t, .bl false]) n2
        have hD2 := s9 _ _ (s8 _ _ hDa)
        have S := (S.same s8).same s9
        have cz : CaseD K many (upd H8 t2 (.tup [.ref t, .bl false])) (.ref t2) := case_of (SqT.of upd_same) (same_sqt s9 ht8) S.dr S.ds S.db (G.w_nm (show _ ≤ 1000 by rw [show ((⟨#[c]⟩ : Str) ++ z).length = _ + z.length from Array.size_append, odd_len hz]; show 1 + 1 ≤ 1000; decide)) ((G.z_nm _).trans (name_odd hc hz))
        refine ⟨acc, hD2, small1000 (by omega), acc ++ [.ref t2], fun b' o eb => ?_, upd_same, by rw [List.length_append, hal]; rfl, fun v hv => ?_⟩
        · rw [upd_ne (ne_of_none eb nD)]
          exact s9 _ _ (s8 _ _ (sa _ _ eb))
        · rcases List.mem_append.mp hv with hv | hv
          · exact (((hca v hv).same s8).same s9).put hD2
          · rw [List.mem_singleton.mp hv]
            exact cz.put hD2
      · rintro H9 ⟨acc, sa, hD9, hal, hca⟩
        have hal : acc.length = 8 := hal
        have S := S.same sa
        have b5 := b3.trans (But.of sa)
        refine ⟨cs, D, us, acc, rfl, rfl, S.hl, hD9, Nat.le_of_lt (small1000 (by have := S.hu; omega)), fun l hl => ?_⟩
        exact ⟨_, _, _, _, _, _, _, _, _, _, _, l, _, rfl, b5.trans (But.of (same_new hl)), but_none b5 (S.hh.ne hl) hl, S.cat (k := 8) hl (by omega) hca rfl⟩
    rintro σ' H' ⟨y11, y12, y13, y14, y15, y16, y17, y18, y19, y20, y21, cs, us, rfl, b2, fr, S⟩
    refine ⟨fun σ' H' => ∃ (y11 y12 y13 y14 y15 y16 y17 y18 y19 y20 y21 : Option V) (cs : Addr) (us : List V), σ' = [some (.ref a), some (.ref g), some (.int (many : Int)), some (.str nm), some (.int (sc : Int)), some (.ref pr), some (.ref ps), some (.ref pb), some (.int (face : Int)), some (.ref cs), some (.str ⟨#[c]⟩), y11, y12, y13, y14, y15, y16, y17, y18, y19, y20, y21] ∧ But a H H' ∧ H cs = none ∧ StD K many nm sc rg st bh a g pr ps pb cs (n + 2) 58 us H', ?_, ?_⟩
    · refine ⟨_, rfl, (by show 7 ≤ sizeLine; decide), fun tp ntp => ⟨tp, rfl, ⟨_, SqT.of upd_same⟩, ?_⟩⟩
      have stp := same_new (o := .tup [.int (-1), .int 0, .int 1, .int 2, .int 3, .int 4, .int 5]) ntp
      have htp : SqT K (upd H' tp (.tup [.int (-1), .int 0, .int 1, .int 2, .int 3, .int 4, .int 5])) tp [.int (-1), .int 0, .int 1, .int 2, .int 3, .int 4, .int 5] := SqT.of upd_same
      have b3 := b2.trans (But.of stp)
      have S := S.same stp
      refine for_tup (xs := [.int (-1), .int 0, .int 1, .int 2, .int 3, .int 4, .int 5]) (fun i σ H' => ∃ (y11 y12 y13 y14 y15 y16 y17 y18 y19 y20 y21 : Option V) (us : List V), σ = [some (.ref a), some (.ref g), some (.int (many : Int)), some (.str nm), some (.int (sc : Int)), some (.ref pr), some (.ref ps), some (.ref pb), some (.int (face : Int)), some (.ref cs), some (.str ⟨#[c]⟩), y11, y12, y13, y14, y15, y16, y17, y18, y19, y20, y21] ∧ But a H H' ∧ SqT K H' tp [.int (-1), .int 0, .int 1, .int 2, .int 3, .int 4, .int 5] ∧ StD K many nm sc rg st bh a g pr ps pb cs (n + 2) (51 + i) us H') ⟨_, _, _, _, _, _, _, _, _, _, _, _, rfl, b3, htp, S⟩ ?_ ?_ ?_
      · rintro i σ H' _ ⟨_, _, _, _, _, _, _, _, _, _, _, _, _, _, h, _⟩
        exact h
      · rintro i x σ H7 hx ⟨y11, y12, y13, y14, y15, y16, y17, y18, y19, y20, y21, us, rfl, b4, ht, S⟩
        have hi := (List.getElem?_eq_some_iff.mp hx).1
        have hi : i < 7 := hi
        have hx := List.mem_of_getElem? hx
        simp only [List.mem_cons, List.not_mem_nil, or_false] at hx
        obtain ⟨z, rfl, hz⟩ : ∃ z : Int, x = .int z ∧ z ∈ ([-1, 0, 1, 2, 3, 4, 5] : List Int) := by
          rcases hx with rfl | rfl | rfl | rfl | rfl | rfl | rfl <;> exact ⟨_, rfl, by decide⟩
        refine ⟨_, rfl, (by show 2 ≤ sizeLine; decide), fun p1 n1 => ⟨(by show 1 ≤ sizeLine; decide), fun p2 n2 => ⟨_, rfl, p2, _, _, rfl, rfl, SqT.of upd_same, by omega, by omega, (by show 1 ≤ 1000; decide), fun H3 p3 s3 h3 => ?_⟩⟩⟩
        have s1 := same_new (o := .tup [.str "fig", .int 0]) n1
        have s2 := (same_new (o := .tup [.ref p1]) n2).trans s3
        have dp1 : Dp K H3 (.ref p1) (.tuple [.str "fig", .int 0]) := dp_same s2 (.tup (SqT.of upd_same) (.cons (.str _) (.cons (.int _) .nil)))
        have didl : Dp K H3 (.ref p3) (.tuple (idleD many)) := .tup h3 (dp_rep dp1 many)
        have s12 := s1.trans s2
        have S := S.same s12
        have ht := same_sqt s12 ht
        have b4 := b4.trans (But.of s12)
        refine ⟨g, _, 3, _, rfl, S.hg, (by show 3 < 5; decide), (by show 5 ≤ 900; decide), fun H5 t5 s5 ht5 => ?_⟩
        have S := S.same s5
        have ht := same_sqt s5 ht
        have b4 := b4.trans (But.of s5)
        have didl := dp_same s5 didl
        refine ⟨_, rfl, .inl ⟨rfl, _, SqL.of S.hl⟩, ?_⟩
        refine ⟨_, rfl, _, rfl, ?_⟩
        refine ⟨t5, _, 1, _, rfl, ht5, (by show 1 < 5; decide), (by show 5 ≤ 900; decide), fun H8 t s8 ht8 => ?_⟩
        have didl := dp_same s8 didl
        have gi := G.idle hm hz
        refine ⟨_, rfl, _, _, rfl, rfl, _, rfl, ?_⟩
        by_cases c2 : 0 ≤ z
        · refine iteTT (decide_eq_true c2) ⟨_, _, rfl, rfl, ?_⟩
          refine ⟨(by show 2 ≤ sizeLine; decide), fun t2 n2 => ?_⟩
          have s9 := same_new (o := .tup [.ref t, .bl (decide (z ≤ 4))]) n2
          have S := (S.same s8).same s9
          have b5 := (b4.trans (But.of s8)).trans (But.of s9)
          have cz : CaseD K many (upd H8 t2 (.tup [.ref t, .bl (decide (z ≤ 4))])) (.ref t2) := case_of (SqT.of upd_same) (same_sqt s9 ht8) S.dr (dp_same s9 didl) S.db gi.2 (gi.1.trans (by rw [decide_eq_true c2, Bool.true_and]))
          refine ⟨cs, us, _, rfl, rfl, S.hl, small1000 (by have := S.hu; omega), ?_⟩
          exact ⟨_, _, _, _, _, _, _, _, _, _, _, _, rfl, b5.putn fr, put_sqt S.hl (same_sqt s9 (same_sqt s8 ht)), S.fin G.wd rfl cz⟩
        · refine iteFF (decide_eq_false c2) ?_
          refine ⟨(by show 2 ≤ sizeLine; decide), fun t2 n2 => ?_⟩
          have s9 := same_new (o := .tup [.ref t, .bl false]) n2
          have S := (S.same s8).same s9
          have b5 := (b4.trans (But.of s8)).trans (But.of s9)
          have cz : CaseD K many (upd H8 t2 (.tup [.ref t, .bl false])) (.ref t2) := case_of (SqT.of upd_same) (same_sqt s9 ht8) S.dr (dp_same s9 didl) S.db gi.2 (gi.1.trans (by rw [decide_eq_false c2, Bool.false_and]))
          refine ⟨cs, us, _, rfl, rfl, S.hl, small1000 (by have := S.hu; omega), ?_⟩
          exact ⟨_, _, _, _, _, _, _, _, _, _, _, _, rfl, b5.putn fr, put_sqt S.hl (same_sqt s9 (same_sqt s8 ht)), S.fin G.wd rfl cz⟩
      · rintro σ H7 ⟨y11, y12, y13, y14, y15, y16, y17, y18, y19, y20, y21, us, rfl, b4, ht, S⟩
        exact ⟨_, _, _, _, _, _, _, _, _, _, _, cs, us, rfl, b4, fr, S⟩
    rintro σ' H' ⟨y11, y12, y13, y14, y15, y16, y17, y18, y19, y20, y21, cs, us, rfl, b2, fr, S⟩
    refine ⟨fun σ' H' => ∃ (y11 y12 y13 y14 y15 y16 y17 y18 y19 y20 y21 : Option V) (cs : Addr) (us : List V), σ' = [some (.ref a), some (.ref g), some (.int (many : Int)), some (.str nm), some (.int (sc : Int)), some (.ref pr), some (.ref ps), some (.ref pb), some (.int (face : Int)), some (.ref cs), some (.str ⟨#[c]⟩), y11, y12, y13, y14, y15, y16, y17, y18, y19, y20, y21] ∧ But a H H' ∧ H cs = none ∧ StD K many nm sc rg st bh a g pr ps pb cs (n + 6) 62 us H', ?_, ?_⟩
    · refine ⟨_, rfl, _, rfl, (by show 4 ≤ sizeLine; decide), fun tp ntp => ⟨tp, rfl, ⟨_, SqT.of upd_same⟩, ?_⟩⟩
      have stp := same_new (o := .tup [.int (-1001), .int (-1000), .int 1000, .int 1001]) ntp
      have htp : SqT K (upd H' tp (.tup [.int (-1001), .int (-1000), .int 1000, .int 1001])) tp [.int (-1001), .int (-1000), .int 1000, .int 1001] := SqT.of upd_same
      have b3 := b2.trans (But.of stp)
      have S := S.same stp
      refine for_tup (xs := [.int (-1001), .int (-1000), .int 1000, .int 1001]) (fun i σ H' => ∃ (y11 y12 y13 y14 y15 y16 y17 y18 y19 y20 y21 : Option V) (us : List V), σ = [some (.ref a), some (.ref g), some (.int (many : Int)), some (.str nm), some (.int (sc : Int)), some (.ref pr), some (.ref ps), some (.ref pb), some (.int (face : Int)), some (.ref cs), some (.str ⟨#[c]⟩), y11, y12, y13, y14, y15, y16, y17, y18, y19, y20, y21] ∧ But a H H' ∧ SqT K H' tp [.int (-1001), .int (-1000), .int 1000, .int 1001] ∧ StD K many nm sc rg st bh a g pr ps pb cs (n + 2 + i) (58 + i) us H') ⟨_, _, _, _, _, _, _, _, _, _, _, _, rfl, b3, htp, S⟩ ?_ ?_ ?_
      · rintro i σ H' _ ⟨_, _, _, _, _, _, _, _, _, _, _, _, _, _, h, _⟩
        exact h
      · rintro i x σ H7 hx ⟨y11, y12, y13, y14, y15, y16, y17, y18, y19, y20, y21, us, rfl, b4, ht, S⟩
        have hi := (List.getElem?_eq_some_iff.mp hx).1
        have hi : i < 4 := hi
        have hx := List.mem_of_getElem? hx
        simp only [List.mem_cons, List.not_mem_nil, or_false] at hx
        obtain ⟨z, rfl, hz⟩ : ∃ z : Int, x = .int z ∧ z ∈ ([-1001, -1000, 1000, 1001] : List Int) := by
          rcases hx with rfl | rfl | rfl | rfl <;> exact ⟨_, rfl, by decide⟩
        refine ⟨_, rfl, .inl ⟨rfl, _, SqL.of S.hl⟩, ?_⟩
        refine ⟨_, rfl, _, rfl, _, rfl, a, 4, _, rfl, by decide, by decide, S.hh, by omega, fun HT r bT hhT r0 r1 => ?_⟩
        obtain ⟨k, rfl⟩ := Int.eq_ofNat_of_zero_le r0
        have hk : k < 4 := by have r1 : (k : Int) < ((4 : Nat) : Int) := r1; omega
        have ht := bT.sq S.hh ht
        have S := S.but G.wd bT hhT
        have b4 := b4.trans bT
        obtain ⟨xr, hxr, hdr, hxl⟩ := dp_row S.dr
        have hx4 : xr.length = 4 := hxl.trans G.rl
        refine ⟨_, rfl, pr, xr, k, _, rfl, hxr, by omega, by omega, fun HS t7 s7 ht7 => ?_⟩
        have d7 : Dp K HS (.ref t7) (.tuple (rg.set k (.int z))) := .tup ht7 (dpall_set (.int z) k (dpall_same s7 hdr))
        have S := S.same s7
        have ht := same_sqt s7 ht
        have b4 := b4.trans (But.of s7)
        refine ⟨g, _, 2, _, rfl, S.hg, (by show 2 < 5; decide), (by show 5 ≤ 900; decide), fun H8 t s8 ht8 => ?_⟩
        have d7 := dp_same s8 d7
        have gi := G.set_rg (z := z) hk
        refine ⟨_, rfl, z, rfl, _, _, rfl, rfl, ?_⟩
        have hab : decide ((if z < 0 then -z else z) ≤ 1000) = (decide (-1000 ≤ z) && decide (z ≤ 1000)) := by
          simp only [List.mem_cons, List.not_mem_nil, or_false] at hz
          rcases hz with rfl | rfl | rfl | rfl <;> decide
        refine ⟨(by show 2 ≤ sizeLine; decide), fun t2 n2 => ?_⟩
        have s9 := same_new (o := .tup [.ref t, .bl (decide ((if z < 0 then -z else z) ≤ 1000))]) n2
        have S := (S.same s8).same s9
        have b5 := (b4.trans (But.of s8)).trans (But.of s9)
        have cz : CaseD K many (upd H8 t2 (.tup [.ref t, .bl (decide ((if z < 0 then -z else z) ≤ 1000))])) (.ref t2) := case_of (SqT.of upd_same) (same_sqt s9 ht8) (dp_same s9 d7) S.ds S.db gi.2 (gi.1.trans hab.symm)
        refine ⟨cs, us, _, rfl, rfl, S.hl, small1000 (by have := S.hu; omega), ?_⟩
        exact ⟨_, _, _, _, _, _, _, _, _, _, _, _, rfl, b5.putn fr, put_sqt S.hl (same_sqt s9 (same_sqt s8 ht)), S.fin G.wd rfl cz⟩
      · rintro σ H7 ⟨y11, y12, y13, y14, y15, y16, y17, y18, y19, y20, y21, us, rfl, b4, ht, S⟩
        exact ⟨_, _, _, _, _, _, _, _, _, _, _, cs, us, rfl, b4, fr, S⟩
    rintro σ' H' ⟨y11, y12, y13, y14, y15, y16, y17, y18, y19, y20, y21, cs, us, rfl, b2, fr, S⟩
    refine ⟨fun σ' H' => ∃ (y11 y12 y13 y14 y15 y16 y17 y18 y19 y20 y21 : Option V) (cs : Addr) (us : List V), σ' = [some (.ref a), some (.ref g), some (.int (many : Int)), some (.str nm), some (.int (sc : Int)), some (.ref pr), some (.ref ps), some (.ref pb), some (.int (face : Int)), some (.ref cs), some (.str ⟨#[c]⟩), y11, y12, y13, y14, y15, y16, y17, y18, y19, y20, y21] ∧ But a H H' ∧ H cs = none ∧ StD K many nm sc rg st bh a g pr ps pb cs (n + 6) 64 us H', ?_, ?_⟩
    · obtain ⟨xr, hxr, hdr, hxl⟩ := dp_row S.dr
      have hx4 : xr.length = 4 := hxl.trans G.rl
      obtain ⟨d3, hd3, hl3, ht3⟩ := regs_cut hdr G.rl G.wd.tr
      refine ⟨_, rfl, _, rfl, _, rfl, _, rfl, slA hxr fun HA p1 s1 h1 => ?_⟩
      have S := S.same s1
      have D1 : Dp K HA (.ref p1) (.tuple d3) := .tup h1 (dpall_same s1 hd3)
      refine ⟨g, _, 2, _, rfl, S.hg, (by show 2 < 5; decide), (by show 5 ≤ 900; decide), fun HB t sB htB => ⟨(by show 2 ≤ sizeLine; decide), fun t2 n2 => ?_⟩⟩
      have sC := same_new (o := .tup [.ref t, .bl false]) n2
      have S := (S.same sB).same sC
      have cz1 : CaseD K many (upd HB t2 (.tup [.ref t, .bl false])) (.ref t2) := case_of (SqT.of upd_same) (same_sqt sC htB) (dp_same sC (dp_same sB D1)) S.ds S.db (G.len_rg (by omega) ht3).2 (G.len_rg (by omega) ht3).1
      have hxr2 := same_sqt sC (same_sqt sB (same_sqt s1 hxr))
      have S1 := (s1.trans sB).trans sC
      generalize upd HB t2 (.tup [.ref t, .bl false]) = HD at S cz1 hxr2 S1 ⊢
      refine ⟨_, rfl, _, rfl, (by show 1 ≤ sizeLine; decide), fun p2 n3 => ?_⟩
      have s3 := same_new (o := .tup [.int 0]) n3
      refine catA (same_sqt s3 hxr2) (SqT.of upd_same) (Nat.le_of_lt (small1000 (by show xr.length + 1 ≤ 1000; omega))) fun HE p3 s4 h4 => ?_
      have S2 := s3.trans s4
      have D2 : Dp K HE (.ref p3) (.tuple (rg ++ [.int 0])) := .tup h4 (dpall_snoc (.int 0) (dpall_same (S1.trans S2) hdr))
      have S := S.same S2
      refine ⟨g, _, 2, _, rfl, S.hg, (by show 2 < 5; decide), (by show 5 ≤ 900; decide), fun HF t3 sF htF => ⟨(by show 2 ≤ sizeLine; decide), fun t4 n4 => ?_⟩⟩
      have sG := same_new (o := .tup [.ref t3, .bl false]) n4
      have S := (S.same sF).same sG
      have l5 : (rg ++ [PyData.int 0]).length ≠ 4 := by rw [List.length_append, G.rl]; show 4 + 1 ≠ 4; decide
      have t5 := tpoAll_snoc (d := .int 0) G.wd.tr rfl
      have cz2 : CaseD K many (upd HF t4 (.tup [.ref t3, .bl false])) (.ref t4) := case_of (SqT.of upd_same) (same_sqt sG htF) (dp_same sG (dp_same sF D2)) S.ds S.db (G.len_rg l5 t5).2 (G.len_rg l5 t5).1
      have cz1 := ((cz1.same S2).same sF).same sG
      have S3 := ((S1.trans S2).trans sF).trans sG
      generalize upd HF t4 (.tup [.ref t3, .bl false]) = HG at S cz1 cz2 S3 ⊢
      refine ⟨(by show 2 ≤ sizeLine; decide), fun lp np => ?_⟩
      have sH := same_new (o := .lst [.ref t2, .ref t4]) np
      have S := S.same sH
      have b5 := b2.trans (But.of (S3.trans sH))
      refine ⟨cs, lp, us, [.ref t2, .ref t4], rfl, rfl, S.hl, upd_same, Nat.le_of_lt (small1000 (by have := S.hu; show us.length + 2 ≤ 1000; omega)), fun l hl => ?_⟩
      exact ⟨_, _, _, _, _, _, _, _, _, _, _, l, _, rfl, b5.trans (But.of (same_new hl)), but_none b5 (S.hh.ne hl) hl, S.cat (k := 2) hl (Nat.le_refl _) (fun v hv => by
        simp only [List.mem_cons, List.not_mem_nil, or_false] at hv
        rcases hv with rfl | rfl
        · exact cz1.same sH
        · exact cz2.same sH) rfl⟩
    rintro σ' H' ⟨y11, y12, y13, y14, y15, y16, y17, y18, y19, y20, y21, cs, us, rfl, b2, fr, S⟩
    refine ⟨fun σ' H' => ∃ (y11 y12 y13 y14 y15 y16 y17 y18 y19 y20 y21 : Option V) (cs : Addr) (us : List V), σ' = [some (.ref a), some (.ref g), some (.int (many : Int)), some (.str nm), some (.int (sc : Int)), some (.ref pr), some (.ref ps), some (.ref pb), some (.int (face : Int)), some (.ref cs), some (.str ⟨#[c]⟩), y11, y12, y13, y14, y15, y16, y17, y18, y19, y20, y21] ∧ But a H H' ∧ H cs = none ∧ StD K many nm sc rg st bh a g pr ps pb cs (n + 16) 154 us H', ?_, ?_⟩
    · refine ⟨_, rfl, many, sc, rfl, hm, G.gs, fun H1 l1 u1 s1 n1 h1 hu1 hc1 => ?_⟩
      have nl1 : l1 ≠ a := S.hh.ne n1
      have S := S.same s1
      have b3 := b2.trans (But.of s1)
      refine ⟨_, rfl, _, rfl, a, many, sc, _, rfl, hm, G.gs, S.hh, by omega, fun H2 l2 u2 bE hh2 ne2 h2 hu2 hc2 => ?_⟩
      have h1 := bE _ _ nl1 h1
      have hc1 : ∀ v ∈ u1, CaseS K many sc H2 v := fun v hv => (hc1 v hv).imp fun _ _ q => bE.sq S.hh q
      have S := S.but G.wd bE hh2
      have b5 := b3.trans bE
      refine ⟨l1, l2, u1, u2, rfl, rfl, h1, h2, Nat.le_of_lt (small1000 (by omega)), fun lp np => ⟨lp, rfl, ⟨_, SqL.of upd_same⟩, ?_⟩⟩
      have sp := same_new (o := .lst (u1 ++ u2)) np
      have hlp : (upd H2 lp (.lst (u1 ++ u2))) lp = some (.lst (u1 ++ u2)) := upd_same
      have hcu : ∀ v ∈ u1 ++ u2, CaseS K many sc (upd H2 lp (.lst (u1 ++ u2))) v := fun v hv => (List.mem_append.mp hv).elim (fun h => (hc1 v h).same sp) (fun h => (hc2 v h).same sp)
      have nlp : lp ≠ cs := (ne_of_none S.hl np).symm
      have S := S.same sp
      have b5 := b5.trans (But.of sp)
      have huu : (u1 ++ u2).length ≤ 90 := by rw [List.length_append]; omega
      generalize upd H2 lp (.lst (u1 ++ u2)) = H6 at hlp hcu S b5 ⊢
      generalize u1 ++ u2 = uu at hlp hcu huu ⊢
      refine for_list (xs := uu) (fun i σ H' => ∃ (y11 y12 y13 y14 y15 y16 y17 y18 y19 y20 y21 : Option V) (us : List V), σ = [some (.ref a), some (.ref g), some (.int (many : Int)), some (.str nm), some (.int (sc : Int)), some (.ref pr), some (.ref ps), some (.ref pb), some (.int (face : Int)), some (.ref cs), some (.str ⟨#[c]⟩), y11, y12, y13, y14, y15, y16, y17, y18, y19, y20, y21] ∧ But a H H' ∧ H' lp = some (.lst uu) ∧ (∀ v ∈ uu, CaseS K many sc H' v) ∧ StD K many nm sc rg st bh a g pr ps pb cs (n + 16) (64 + i) us H') ⟨_, _, _, _, _, _, _, _, _, _, _, us, rfl, b5, hlp, hcu, S⟩ ?_ ?_ ?_
      · rintro i σ H' _ ⟨_, _, _, _, _, _, _, _, _, _, _, _, _, _, h, _⟩
        exact SqL.of h
      · rintro i x σ H7 hx ⟨y11, y12, y13, y14, y15, y16, y17, y18, y19, y20, y21, us, rfl, b4, hlp, hcu, S⟩
        have hi := (List.getElem?_eq_some_iff.mp hx).1
        obtain ⟨d, due, dx, td, wd, sd⟩ := hcu x (List.mem_of_getElem? hx)
        obtain ⟨px, vd, rfl, hq, dvd⟩ := case_at dx
        refine ⟨px, _, rfl, hq, rfl, _, _, rfl, _, _, rfl, rfl, ?_⟩
        refine ⟨_, rfl, .inl ⟨rfl, _, SqL.of S.hl⟩, ?_⟩
        obtain ⟨xs, hxs, hds, hxl⟩ := dp_row S.ds
        refine ⟨_, rfl, _, rfl, _, rfl, _, rfl, ps, xs, face, vd, rfl, hxs, by rw [hxl, G.sl]; exact hf, by rw [hxl, G.sl]; omega, fun HS t7 s7 ht7 => ?_⟩
        have d7 := Dp.tup ht7 (dpall_set (dp_same s7 dvd) face (dpall_same s7 hds))
        have S := S.same s7
        have hlp := s7 _ _ hlp
        have hcu : ∀ v ∈ uu, CaseS K many sc HS v := fun v hv => (hcu v hv).same s7
        have b4 := b4.trans (But.of s7)
        refine ⟨g, _, 3, _, rfl, S.hg, (by show 3 < 5; decide), (by show 5 ≤ 900; decide), fun H8 t s8 ht8 => ?_⟩
        have d7 := dp_same s8 d7
        have gi := G.set_st hf td wd sd
        refine ⟨_, rfl, ?_⟩
        refine ⟨(by show 2 ≤ sizeLine; decide), fun t2 n2 => ?_⟩
        have s9 := same_new (o := .tup [.ref t, .bl due]) n2
        have S := (S.same s8).same s9
        have b5 := (b4.trans (But.of s8)).trans (But.of s9)
        have cz : CaseD K many (upd H8 t2 (.tup [.ref t, .bl due])) (.ref t2) := case_of (SqT.of upd_same) (same_sqt s9 ht8) S.dr (dp_same s9 d7) S.db gi.2 gi.1
        refine ⟨cs, us, _, rfl, rfl, S.hl, small1000 (by have := S.hu; omega), ?_⟩
        exact ⟨_, _, _, _, _, _, _, _, _, _, _, _, rfl, b5.putn fr, (upd_ne nlp).trans (s9 _ _ (s8 _ _ hlp)), fun v hv => (((hcu v hv).same s8).same s9).put S.hl, S.fin G.wd rfl cz⟩
      · rintro σ H7 ⟨y11, y12, y13, y14, y15, y16, y17, y18, y19, y20, y21, us, rfl, b4, hlp, hcu, S⟩
        exact ⟨_, _, _, _, _, _, _, _, _, _, _, cs, us, rfl, b4, fr, S.le (Nat.le_refl _) (by show 64 + uu.length ≤ _; omega)⟩
    rintro σ' H' ⟨y11, y12, y13, y14, y15, y16, y17, y18, y19, y20, y21, cs, us, rfl, b2, fr, S⟩
    refine ⟨fun σ' H' => ∃ (y11 y12 y13 y14 y15 y16 y17 y18 y19 y20 y21 : Option V) (cs : Addr) (us : List V), σ' = [some (.ref a), some (.ref g), some (.int (many : Int)), some (.str nm), some (.int (sc : Int)), some (.ref pr), some (.ref ps), some (.ref pb), some (.int (face : Int)), some (.ref cs), some (.str ⟨#[c]⟩), y11, y12, y13, y14, y15, y16, y17, y18, y19, y20, y21] ∧ But a H H' ∧ H cs = none ∧ StD K many nm sc rg st bh a g pr ps pb cs (n + 26) 194 us H', ?_, ?_⟩
    · refine ⟨_, rfl, _, rfl, a, many, _, rfl, hm, S.hh, by omega, fun H2 lp uu bE hh2 ne2 nf hlp huu hcu => ?_⟩
      have nlp : lp ≠ cs := (ne_of_none S.hl nf).symm
      have S := S.but G.wd bE hh2
      have b5 := b2.trans bE
      refine ⟨lp, rfl, ⟨_, SqL.of hlp⟩, ?_⟩
      refine for_list (xs := uu) (fun i σ H' => ∃ (y11 y12 y13 y14 y15 y16 y17 y18 y19 y20 y21 : Option V) (us : List V), σ = [some (.ref a), some (.ref g), some (.int (many : Int)), some (.str nm), some (.int (sc : Int)), some (.ref pr), some (.ref ps), some (.ref pb), some (.int (face : Int)), some (.ref cs), some (.str ⟨#[c]⟩), y11, y12, y13, y14, y15, y16, y17, y18, y19, y20, y21] ∧ But a H H' ∧ H' lp = some (.lst uu) ∧ (∀ v ∈ uu, CaseB K many H' v) ∧ StD K many nm sc rg st bh a g pr ps pb cs (n + 26) (154 + i) us H') ⟨_, _, _, _, _, _, _, _, _, _, _, us, rfl, b5, hlp, hcu, S⟩ ?_ ?_ ?_
      · rintro i σ H' _ ⟨_, _, _, _, _, _, _, _, _, _, _, _, _, _, h, _⟩
        exact SqL.of h
      · rintro i x σ H7 hx ⟨y11, y12, y13, y14, y15, y16, y17, y18, y19, y20, y21, us, rfl, b4, hlp, hcu, S⟩
        have hi := (List.getElem?_eq_some_iff.mp hx).1
        obtain ⟨d, due, dx, td, wd, sd⟩ := hcu x (List.mem_of_getElem? hx)
        obtain ⟨px, vd, rfl, hq, dvd⟩ := case_at dx
        refine ⟨px, _, rfl, hq, rfl, _, _, rfl, _, _, rfl, rfl, ?_⟩
        refine ⟨_, rfl, .inl ⟨rfl, _, SqL.of S.hl⟩, ?_⟩
        obtain ⟨xs, hxs, hds, hxl⟩ := dp_row S.db
        refine ⟨_, rfl, _, rfl, _, rfl, _, rfl, pb, xs, face, vd, rfl, hxs, by rw [hxl, G.bl]; exact hf, by rw [hxl, G.bl]; omega, fun HS t7 s7 ht7 => ?_⟩
        have d7 := Dp.tup ht7 (dpall_set (dp_same s7 dvd) face (dpall_same s7 hds))
        have S := S.same s7
        have hlp := s7 _ _ hlp
        have hcu : ∀ v ∈ uu, CaseB K many HS v := fun v hv => (hcu v hv).same s7
        have b4 := b4.trans (But.of s7)
        refine ⟨g, _, 4, _, rfl, S.hg, (by show 4 < 5; decide), (by show 5 ≤ 900; decide), fun H8 t s8 ht8 => ?_⟩
        have d7 := dp_same s8 d7
        have gi := G.set_bh hf td wd sd
        refine ⟨_, rfl, ?_⟩
        refine ⟨(by show 2 ≤ sizeLine; decide), fun t2 n2 => ?_⟩
        have s9 := same_new (o := .tup [.ref t, .bl due]) n2
        have S := (S.same s8).same s9
        have b5 := (b4.trans (But.of s8)).trans (But.of s9)
        have cz : CaseD K many (upd H8 t2 (.tup [.ref t, .bl due])) (.ref t2) := case_of (SqT.of upd_same) (same_sqt s9 ht8) S.dr S.ds (dp_same s9 d7) gi.2 gi.1
        refine ⟨cs, us, _, rfl, rfl, S.hl, small1000 (by have := S.hu; omega), ?_⟩
        exact ⟨_, _, _, _, _, _, _, _, _, _, _, _, rfl, b5.putn fr, (upd_ne nlp).trans (s9 _ _ (s8 _ _ hlp)), fun v hv => (((hcu v hv).same s8).same s9).put S.hl, S.fin G.wd rfl cz⟩
      · rintro σ H7 ⟨y11, y12, y13, y14, y15, y16, y17, y18, y19, y20, y21, us, rfl, b4, hlp, hcu, S⟩
        exact ⟨_, _, _, _, _, _, _, _, _, _, _, cs, us, rfl, b4, fr, S.le (Nat.le_refl _) (by show 154 + uu.length ≤ _; omega)⟩
    rintro σ' H' ⟨y11, y12, y13, y14, y15, y16, y17, y18, y19, y20, y21, cs, us, rfl, b2, fr, S⟩
    refine ⟨fun σ' H' => ∃ (y11 y12 y13 y14 y15 y16 y17 y18 y19 y20 y21 : Option V) (cs : Addr) (us : List V), σ' = [some (.ref a), some (.ref g), some (.int (many : Int)), some (.str nm), some (.int (sc : Int)), some (.ref pr), some (.ref ps), some (.ref pb), some (.int (face : Int)), some (.ref cs), some (.str ⟨#[c]⟩), y11, y12, y13, y14, y15, y16, y17, y18, y19, y20, y21] ∧ But a H H' ∧ H cs = none ∧ StD K many nm sc rg st bh a g pr ps pb cs (n + 26) 198 us H', ?_, ?_⟩
    · refine ⟨(by show 2 ≤ sizeLine; decide), fun tp ntp => ⟨tp, rfl, ⟨_, SqT.of upd_same⟩, ?_⟩⟩
      have stp := same_new (o := .tup [.int 3, .int 4]) ntp
      have htp : SqT K (upd H' tp (.tup [.int 3, .int 4])) tp [.int 3, .int 4] := SqT.of upd_same
      have b3 := b2.trans (But.of stp)
      have S := S.same stp
      refine for_tup (xs := [.int 3, .int 4]) (fun i σ H' => ∃ (y11 y12 y13 y14 y15 y16 y17 y18 y19 y20 y21 : Option V) (us : List V), σ = [some (.ref a), some (.ref g), some (.int (many : Int)), some (.str nm), some (.int (sc : Int)), some (.ref pr), some (.ref ps), some (.ref pb), some (.int (face : Int)), some (.ref cs), some (.str ⟨#[c]⟩), y11, y12, y13, y14, y15, y16, y17, y18, y19, y20, y21] ∧ But a H H' ∧ SqT K H' tp [.int 3, .int 4] ∧ StD K many nm sc rg st bh a g pr ps pb cs (n + 26) (194 + 2 * i) us H') ⟨_, _, _, _, _, _, _, _, _, _, _, us, rfl, b3, htp, S⟩ ?_ ?_ ?_
      · rintro i σ H' _ ⟨_, _, _, _, _, _, _, _, _, _, _, _, _, _, h, _⟩
        exact h
      · rintro i x σ H7 hx ⟨y11, y12, y13, y14, y15, y16, y17, y18, y19, y20, y21, us, rfl, b4, ht, S⟩
        have hi := (List.getElem?_eq_some_iff.mp hx).1
        have hi : i < 2 := hi
        have hx := List.mem_of_getElem? hx
        simp only [List.mem_cons, List.not_mem_nil, or_false] at hx
        have hm3 : many ≤ 3 := by omega
        rcases hx with rfl | rfl
        · obtain ⟨xs, hxs, hds, hxl⟩ := dp_row S.ds
          have hxm : xs.length ≤ 3 := by rw [hxl, G.sl]; exact hm3
          obtain ⟨⟨e1, he1, el1, em1⟩, e2, he2, el2, em2⟩ := rows_cut hds G.sl hm
          refine ⟨_, rfl, _, rfl, g, _, 3, .ref ps, rfl, rfl, S.hg, rfl, _, rfl, noPart_in ?_⟩
          refine slA hxs fun HA p1 s1 h1 => ?_
          refine ⟨_, rfl, _, rfl, g, _, 3, .ref ps, rfl, rfl, (S.same s1).hg, rfl, _, rfl, _, rfl, g, _, 3, .ref ps, rfl, rfl, (S.same s1).hg, rfl, _, rfl, slA (same_sqt s1 hxs) fun HB p2 s2 h2 => catA (same_sqt s2 (same_sqt s1 hxs)) h2 (Nat.le_of_lt (small1000 (by have : (cutV xs none (some 1)).length ≤ xs.length := cutV_length _ _ _; omega))) fun HC p3 s3 h3 => ?_⟩
          have s23 := s2.trans s3
          have D1 : Dp K HC (.ref p1) (.tuple e1) := dp_same s23 (.tup h1 (dpall_same s1 he1))
          have D2 : Dp K HC (.ref p3) (.tuple e2) := .tup h3 (dpall_same (s1.trans s23) he2)
          have S := S.same (s1.trans s23)
          have ht := same_sqt (s1.trans s23) ht
          have b4 := b4.trans (But.of (s1.trans s23))
          refine ⟨(by show 2 ≤ sizeLine; decide), fun tq nq => ⟨tq, rfl, ⟨_, SqT.of upd_same⟩, ?_⟩⟩
          have sq := same_new (o := .tup [.ref p1, .ref p3]) nq
          have htq : SqT K (upd HC tq (.tup [.ref p1, .ref p3])) tq [.ref p1, .ref p3] := SqT.of upd_same
          have D1 := dp_same sq D1
          have D2 := dp_same sq D2
          have S := S.same sq
          have ht := same_sqt sq ht
          have b4 := b4.trans (But.of sq)
          have ts1 : tpo (.tuple e1) = true := tpoAll_mem.mpr fun d hd => tpoAll_mem.mp G.wd.ts d (em1 d hd)
          have ts2 : tpo (.tuple e2) = true := tpoAll_mem.mpr fun d hd => tpoAll_mem.mp G.wd.ts d (em2 d hd)
          refine for_tup (xs := [.ref p1, .ref p3]) (fun j σ H' => ∃ (y11 y12 y13 y14 y15 y16 y17 y18 y19 y20 y21 : Option V) (us : List V), σ = [some (.ref a), some (.ref g), some (.int (many : Int)), some (.str nm), some (.int (sc : Int)), some (.ref pr), some (.ref ps), some (.ref pb), some (.int (face : Int)), some (.ref cs), some (.str ⟨#[c]⟩), y11, y12, y13, y14, y15, y16, y17, y18, y19, some (.int 3), y21] ∧ But a H H' ∧ SqT K H' tp [.int 3, .int 4] ∧ SqT K H' tq [.ref p1, .ref p3] ∧ Dp K H' (.ref p1) (.tuple e1) ∧ Dp K H' (.ref p3) (.tuple e2) ∧ StD K many nm sc rg st bh a g pr ps pb cs (n + 26) (194 + 2 * i + j) us H') ⟨_, _, _, _, _, _, _, _, _, none, _, us, rfl, b4, ht, htq, D1, D2, S⟩ ?_ ?_ ?_
          · rintro j σ H' _ ⟨_, _, _, _, _, _, _, _, _, _, _, _, _, _, _, h, _⟩
            exact h
          · rintro j x σ H7 hx ⟨y11, y12, y13, y14, y15, y16, y17, y18, y19, y20, y21, us, rfl, b4, ht, htq, D1, D2, S⟩
            have hj := (List.getElem?_eq_some_iff.mp hx).1
            have hj : j < 2 := hj
            have hx := List.mem_of_getElem? hx
            simp only [List.mem_cons, List.not_mem_nil, or_false] at hx
            obtain ⟨px, es, rfl, DX, elx, emx⟩ : ∃ px es, x = .ref px ∧ Dp K H7 (.ref px) (.tuple es) ∧ es.length ≠ many ∧ ∀ d ∈ es, d ∈ st := by
              rcases hx with rfl | rfl
              · exact ⟨_, e1, rfl, D1, el1, em1⟩
              · exact ⟨_, e2, rfl, D2, el2, em2⟩
            refine ⟨_, rfl, .inl ⟨rfl, _, SqL.of S.hl⟩, ?_⟩
            refine ⟨_, rfl, _, rfl, _, rfl, g, _, 3, _, rfl, S.hg, (by show 3 < 5; decide), (by show 5 ≤ 900; decide), fun H8 t s8 ht8 => ?_⟩
            have gi := G.len_st elx emx
            refine ⟨(by show 2 ≤ sizeLine; decide), fun t2 n2 => ?_⟩
            have s9 := same_new (o := .tup [.ref t, .bl false]) n2
            have S := (S.same s8).same s9
            have b5 := (b4.trans (But.of s8)).trans (But.of s9)
            have cz : CaseD K many (upd H8 t2 (.tup [.ref t, .bl false])) (.ref t2) := case_of (SqT.of upd_same) (same_sqt s9 ht8) S.dr (dp_same s9 (dp_same s8 DX)) S.db gi.2 gi.1
            refine ⟨cs, us, _, rfl, rfl, S.hl, small1000 (by have := S.hu; omega), ?_⟩
            have s89 := s8.trans s9
            exact ⟨_, _, _, _, _, _, _, _, _, none, _, _, rfl, b5.putn fr, put_sqt S.hl (same_sqt s89 ht), put_sqt S.hl (same_sqt s89 htq), dp_imp (fun p zs q => put_sqt S.hl q) ts1 (dp_same s89 D1), dp_imp (fun p zs q => put_sqt S.hl q) ts2 (dp_same s89 D2), S.fin G.wd rfl cz⟩
          · rintro σ H7 ⟨y11, y12, y13, y14, y15, y16, y17, y18, y19, y20, y21, us, rfl, b4, ht, htq, D1, D2, S⟩
            exact ⟨_, _, _, _, _, _, _, _, _, _, _, us, rfl, b4, ht, S⟩
        · obtain ⟨xs, hxs, hds, hxl⟩ := dp_row S.db
          have hxm : xs.length ≤ 3 := by rw [hxl, G.bl]; exact hm3
          obtain ⟨⟨e1, he1, el1, em1⟩, e2, he2, el2, em2⟩ := rows_cut hds G.bl hm
          refine ⟨_, rfl, _, rfl, g, _, 4, .ref pb, rfl, rfl, S.hg, rfl, _, rfl, noPart_in ?_⟩
          refine slA hxs fun HA p1 s1 h1 => ?_
          refine ⟨_, rfl, _, rfl, g, _, 4, .ref pb, rfl, rfl, (S.same s1).hg, rfl, _, rfl, _, rfl, g, _, 4, .ref pb, rfl, rfl, (S.same s1).hg, rfl, _, rfl, slA (same_sqt s1 hxs) fun HB p2 s2 h2 => catA (same_sqt s2 (same_sqt s1 hxs)) h2 (Nat.le_of_lt (small1000 (by have : (cutV xs none (some 1)).length ≤ xs.length := cutV_length _ _ _; omega))) fun HC p3 s3 h3 => ?_⟩
          have s23 := s2.trans s3
          have D1 : Dp K HC (.ref p1) (.tuple e1) := dp_same s23 (.tup h1 (dpall_same s1 he1))
          have D2 : Dp K HC (.ref p3) (.tuple e2) := .tup h3 (dpall_same (s1.trans s23) he2)
          have S := S.same (s1.trans s23)
          have ht := same_sqt (s1.trans s23) ht
          have b4 := b4.trans (But.of (s1.trans s23))
          refine ⟨(by show 2 ≤ sizeLine; decide), fun tq nq => ⟨tq, rfl, ⟨_, SqT.of upd_same⟩, ?_⟩⟩
          have sq := same_new (o := .tup [.ref p1, .ref p3]) nq
          have htq : SqT K (upd HC tq (.tup [.ref p1, .ref p3])) tq [.ref p1, .ref p3] := SqT.of upd_same
          have D1 := dp_same sq D1
          have D2 := dp_same sq D2
          have S := S.same sq
          have ht := same_sqt sq ht
          have b4 := b4.trans (But.of sq)
          have ts1 : tpo (.tuple e1) = true := tpoAll_mem.mpr fun d hd => tpoAll_mem.mp G.wd.tb d (em1 d hd)
          have ts2 : tpo (.tuple e2) = true := tpoAll_mem.mpr fun d hd => tpoAll_mem.mp G.wd.tb d (em2 d hd)
          refine for_tup (xs := [.ref p1, .ref p3]) (fun j σ H' => ∃ (y11 y12 y13 y14 y15 y16 y17 y18 y19 y20 y21 : Option V) (us : List V), σ = [some (.ref a), some (.ref g), some (.int (many : Int)), some (.str nm), some (.int (sc : Int)), some (.ref pr), some (.ref ps), some (.ref pb), some (.int (face : Int)), some (.ref cs), some (.str ⟨#[c]⟩), y11, y12, y13, y14, y15, y16, y17, y18, y19, some (.int 4), y21] ∧ But a H H' ∧ SqT K H' tp [.int 3, .int 4] ∧ SqT K H' tq [.ref p1, .ref p3] ∧ Dp K H' (.ref p1) (.tuple e1) ∧ Dp K H' (.ref p3) (.tuple e2) ∧ StD K many nm sc rg st bh a g pr ps pb cs (n + 26) (194 + 2 * i + j) us H') ⟨_, _, _, _, _, _, _, _, _, none, _, us, rfl, b4, ht, htq, D1, D2, S⟩ ?_ ?_ ?_
          · rintro j σ H' _ ⟨_, _, _, _, _, _, _, _, _, _, _, _, _, _, _, h, _⟩
            exact h
          · rintro j x σ H7 hx ⟨y11, y12, y13, y14, y15, y16, y17, y18, y19, y20, y21, us, rfl, b4, ht, htq, D1, D2, S⟩
            have hj := (List.getElem?_eq_some_iff.mp hx).1
            have hj : j < 2 := hj
            have hx := List.mem_of_getElem? hx
            simp only [List.mem_cons, List.not_mem_nil, or_false] at hx
            obtain ⟨px, es, rfl, DX, elx, emx⟩ : ∃ px es, x = .ref px ∧ Dp K H7 (.ref px) (.tuple es) ∧ es.length ≠ many ∧ ∀ d ∈ es, d ∈ bh := by
              rcases hx with rfl | rfl
              · exact ⟨_, e1, rfl, D1, el1, em1⟩
              · exact ⟨_, e2, rfl, D2, el2, em2⟩
            refine ⟨_, rfl, .inl ⟨rfl, _, SqL.of S.hl⟩, ?_⟩
            refine ⟨_, rfl, _, rfl, _, rfl, g, _, 4, _, rfl, S.hg, (by show 4 < 5; decide), (by show 5 ≤ 900; decide), fun H8 t s8 ht8 => ?_⟩
            have gi := G.len_bh elx emx
            refine ⟨(by show 2 ≤ sizeLine; decide), fun t2 n2 => ?_⟩
            have s9 := same_new (o := .tup [.ref t, .bl false]) n2
            have S := (S.same s8).same s9
            have b5 := (b4.trans (But.of s8)).trans (But.of s9)
            have cz : CaseD K many (upd H8 t2 (.tup [.ref t, .bl false])) (.ref t2) := case_of (SqT.of upd_same) (same_sqt s9 ht8) S.dr S.ds (dp_same s9 (dp_same s8 DX)) gi.2 gi.1
            refine ⟨cs, us, _, rfl, rfl, S.hl, small1000 (by have := S.hu; omega), ?_⟩
            have s89 := s8.trans s9
            exact ⟨_, _, _, _, _, _, _, _, _, none, _, _, rfl, b5.putn fr, put_sqt S.hl (same_sqt s89 ht), put_sqt S.hl (same_sqt s89 htq), dp_imp (fun p zs q => put_sqt S.hl q) ts1 (dp_same s89 D1), dp_imp (fun p zs q => put_sqt S.hl q) ts2 (dp_same s89 D2), S.fin G.wd rfl cz⟩
          · rintro σ H7 ⟨y11, y12, y13, y14, y15, y16, y17, y18, y19, y20, y21, us, rfl, b4, ht, htq, D1, D2, S⟩
            exact ⟨_, _, _, _, _, _, _, _, _, _, _, us, rfl, b4, ht, S⟩
      · rintro σ H7 ⟨y11, y12, y13, y14, y15, y16, y17, y18, y19, y20, y21, us, rfl, b4, ht, S⟩
        exact ⟨_, _, _, _, _, _, _, _, _, _, _, cs, us, rfl, b4, fr, S⟩
    rintro σ' H' ⟨y11, y12, y13, y14, y15, y16, y17, y18, y19, y20, y21, cs, us, rfl, b2, fr, S⟩
    exact ⟨_, rfl, q _ cs us b2 (S.hh.le (by omega)) S.hl (by have := S.hu; omega) S.cl⟩
end
end NG

namespace NG
open PySem PySem.Spec PyProof.Rows L2
def spLaw (K : PySem.W.Frag) : Sp := fun vs H Q _ => ∃ (a : Addr) (ns : List Int), vs = [.ref a] ∧ SqL K H a (ns.map V.int) ∧ ns.length ≤ 63 ∧ ∀ H', Q (.bl true) H'
theorem tpo_ds : ∀ d : Ds, tpoAll (dsD d) = true
  | .nil => rfl
  | .op w i x r => by
    show (tpo (.tuple [.str (dn w), .int (i : Int), .int x]) && tpoAll (dsD r)) = true
    rw [tpo_ds r]
    rfl
  | .when i c a b r => by
    show ((true && (true && (true && (tpoAll (dsD a) && (tpoAll (dsD b) && true))))) && tpoAll (dsD r)) = true
    rw [tpo_ds r, tpo_ds a, tpo_ds b]
    rfl
theorem good_of {many : Nat} {D : Dbt} (f : DbFit many D) (hn : D.name.length ≤ 1000) : GoodD many D.name D.scale (D.begins.map PyData.int) (D.stakes.map toD) (D.behinds.map fun d => .tuple (dsD d)) := by
  have h := dbtD_true f
  rw [dbtD_eq] at h
  simp only [Bool.and_eq_true, decide_eq_true_eq, List.all_eq_true] at h
  obtain ⟨⟨⟨h1, h2, h3⟩, h4⟩, ⟨h5, h6⟩, h7, h8⟩ := h
  refine ⟨⟨hn, fun d hd => ?_, fun d hd => ?_, ?_, ?_, ?_⟩, h1, by omega, h4, h5, h6, h7, h8⟩
  · obtain ⟨e, he, rfl⟩ := List.mem_map.mp hd
    exact wdE_of (f.st e he).1
  · obtain ⟨e, he, rfl⟩ := List.mem_map.mp hd
    exact wdB_of
  · exact tpoAll_mem.mpr fun d hd => by
      obtain ⟨e, he, rfl⟩ := List.mem_map.mp hd
      rfl
  · exact tpoAll_mem.mpr fun d hd => by
      obtain ⟨e, he, rfl⟩ := List.mem_map.mp hd
      exact tpo_ex e
  · exact tpoAll_mem.mpr fun d hd => by
      obtain ⟨e, he, rfl⟩ := List.mem_map.mp hd
      exact tpo_ds e
theorem dp_ref {K : PySem.W.Frag} {H : Hp} {v : V} {ds : List PyData} (h : Dp K H v (.tuple ds)) : ∃ p xs, v = .ref p ∧ SqT K H p xs ∧ DpAll K H xs ds := by
  cases h with
  | tup q r => exact ⟨_, _, rfl, q, r⟩
theorem dbt_at {K : PySem.W.Frag} {H : Hp} {v : V} {nm : Str} {sc : Int} {rg st bh : List PyData} (h : Dp K H v (dbT nm sc rg st bh)) : ∃ (p pr ps pb : Addr) (xr xs xb : List V), v = .ref p ∧ SqT K H p [.str nm, .int sc, .ref pr, .ref ps, .ref pb] ∧ SqT K H pr xr ∧ DpAll K H xr rg ∧ SqT K H ps xs ∧ DpAll K H xs st ∧ SqT K H pb xb ∧ DpAll K H xb bh := by
  unfold dbT at h
  cases h with
  | tup q r =>
    obtain _ | ⟨a, r⟩ := r
    obtain _ | ⟨b, r⟩ := r
    obtain _ | ⟨c, r⟩ := r
    obtain _ | ⟨d, r⟩ := r
    obtain _ | ⟨e, r⟩ := r
    cases r
    cases a
    cases b
    obtain ⟨_, _, rfl, q1, r1⟩ := dp_ref c
    obtain ⟨_, _, rfl, q2, r2⟩ := dp_ref d
    obtain ⟨_, _, rfl, q3, r3⟩ := dp_ref e
    exact ⟨_, _, _, _, _, _, _, rfl, q, q1, r1, q2, r2, q3, r3⟩
theorem ex_size : ∀ e : Ex, e.size + 1 ≤ 2 ^ e.dep
  | .fig _ => Nat.le_refl 2
  | .reg _ => Nat.le_refl 2
  | .share _ => Nat.le_refl 2
  | .two _ a b => two_size (ex_size a) (ex_size b)
  | .times _ a => one_size (ex_size a)
  | .by _ a => one_size (ex_size a)
  | .when _ _ a b => two_size (ex_size a) (ex_size b)
  | .whr _ _ a b => two_size (ex_size a) (ex_size b)
where
  one_size {n k : Nat} (h : n + 1 ≤ 2 ^ k) : 1 + n + 1 ≤ 2 ^ (k + 1) := by
    rw [Nat.pow_succ]
    omega
  two_size {n m k j : Nat} (h : n + 1 ≤ 2 ^ k) (g : m + 1 ≤ 2 ^ j) : 1 + n + m + 1 ≤ 2 ^ (max k j + 1) := by
    have h1 : 2 ^ k ≤ 2 ^ max k j := Nat.pow_le_pow_right (by decide) (Nat.le_max_left ..)
    have h2 : 2 ^ j ≤ 2 ^ max k j := Nat.pow_le_pow_right (by decide) (Nat.le_max_right ..)
    rw [Nat.pow_succ]
    omega
theorem fit_of {many : Nat} {D : Dbt} (h : DbOk many 4 2 10 D) (s : ∀ e ∈ D.stakes, StOk many 1 e) : DbFit many D ∧ D.name.length ≤ 1000 := by
  have hn : nameD D.name = true ∧ D.name.length ≤ 1000 := by
    rcases h.nm with e | e | e | e <;> rw [e] <;> decide +kernel
  refine ⟨⟨hn.1, h.sc, h.rg, h.sl, fun e he => ?_, h.bl, fun d hd => ?_⟩, hn.2⟩
  · obtain ⟨ok, hd⟩ := h.st e he
    have hz := ex_size e
    have hz2 : 2 ^ e.dep ≤ 2 ^ 4 := Nat.pow_le_pow_right (by decide) hd
    have hz3 : e.size ≤ 40 := by
      have : (2 : Nat) ^ 4 = 16 := rfl
      omega
    have hp := pw2_bnd D.scale
    refine ⟨ok, by omega, hz3, ?_⟩
    rcases s e he with ⟨c, rfl, c1, c2⟩ | ⟨c, e', rfl, c1, c2, _, _⟩
    · constructor
      · show -(500 * pw2 D.scale) ≤ c
        omega
      · show c ≤ 500 * pw2 D.scale
        omega
    · constructor
      · show -(500 * pw2 D.scale) ≤ mn c (mx (-c) (spn e').1)
        unfold mn mx
        split <;> split <;> omega
      · show mn c (mx (-c) (spn e').2) ≤ 500 * pw2 D.scale
        unfold mn mx
        split <;> split <;> omega
  · obtain ⟨a1, a2, a3⟩ := h.bh d hd
    exact ⟨a1, by omega, by omega⟩
section
variable {P : Program} {w : World} {K : PySem.W.Frag} {mg : Str → Option Value} {base : Heap}
theorem ok_law {f : Addr} {fd : FuncData} (F : Fun K "law" "law" s_law f fd) (B : Bl mg) (c_L_hand : Cal P w K mg base 1 "_law_hand" (spHand K)) (c_L_take : Cal P w K mg base 1 "_law_take" spTake) {lw : Nat} (hlw : 20 ≤ lw) (c_L_doubter : Cal P w K mg base 9 "_law_doubter" (spDoubter K 2)) (c_L_all_cases : Cal P w K mg base 9 "_law_all_cases" (spAllC K)) (c_is_doubter : Cal P w K mg base 19 "is_doubter" (spIsDb K)) : FnG P w K mg base (lw + 1) f fd ["_law_script"] (spLaw K) := by
  refine fnG F sc_law (fun vs H Q E h => ?_) (fun cdv A outer s H vs Q hg hr h => ?_)
  · obtain ⟨_, _, rfl, _⟩ := h
    rfl
  · obtain ⟨sc, ns, rfl, hS, hl, q⟩ := h
    refine ⟨_, (pss_cons (ps_for PassesOwn.never rfl (pi_range1 rfl B.range (pa_cons (pe_callB (call_max2 rfl) (by rfl) B.max (by decide +kernel) (pa_cons pe_int (pa_cons (pe_callB (call_min2 rfl) (by rfl) B.min (by decide +kernel) (pa_cons pe_int (pa_cons (pe_callB call_len_seq (by rfl) B.len PySem.boot_len (pa_cons (pv 0) pa_nil)) pa_nil))) pa_nil))) pa_nil)) (pg_name (i := 1) sc_law.nd rfl (.inl rfl)) (pss_cons (ps_set (i := 2) sc_law.nd rfl (.inl rfl) (pe_c c_L_hand hr (by omega) (by rfl) (pa_cons (pv 0) (pa_cons (pv 1) pa_nil)))) (pss_cons (ps_set (i := 3) sc_law.nd rfl (.inl rfl) (pe_op op_add pe_int (pe_c c_L_take hr (by omega) (by rfl) (pa_cons (pv 2) (pa_cons pe_int pa_nil))))) (pss_cons (ps_set (i := 4) sc_law.nd rfl (.inl rfl) (pe_c c_L_doubter hr (by omega) (by rfl) (pa_cons (pv 2) (pa_cons (pv 3) (pa_cons pe_int (pa_cons pe_int pa_nil)))))) (pss_one (ps_for PassesOwn.never rfl (pi_list (pe_c c_L_all_cases hr (by omega) (by rfl) (pa_cons (pv 2) (pa_cons (pv 4) (pa_cons (pv 3) pa_nil))))) (pg_tup rfl (pgs_cons (pg_name (i := 5) sc_law.nd rfl (.inl rfl)) (pgs_cons (pg_name (i := 6) sc_law.nd rfl (.inl rfl)) pgs_nil))) (pss_one (ps_if (pt_cmpR op_ne (pe_callB cr_reprV (by rfl) B.repr (by decide +kernel) (pa_cons (pe_c c_is_doubter hr (by omega) (by rfl) (pa_cons (pv 5) (pa_cons (pv 3) pa_nil))) pa_nil)) (pe_callB cr_reprV (by rfl) B.repr (by decide +kernel) (pa_cons (pv 6) pa_nil)) (nomark _)) (pss_one (ps_ret pe_bl)) pss_nil)))))))) (pss_one (ps_ret pe_bl))), ?_⟩
    have hb : ∀ z : Int, (if z < 2 then z else 2) ≤ 2 := fun z => by split <;> omega
    have hb0 : ∀ z : Int, 0 ≤ z → 0 ≤ (if z < 2 then z else 2) := fun z hz => by split <;> omega
    have h3 := hb (((ns.map V.int).length : Nat) : Int)
    have h4 := hb0 (((ns.map V.int).length : Nat) : Int) (by omega)
    have hmx : ∀ y : Int, 0 ≤ y → y ≤ 2 → 0 ≤ (if y > 1 then y else 1) ∧ (if y > 1 then y else 1) ≤ 3 := fun y h0 h1 => by split <;> omega
    have h5 := hmx _ h4 h3
    refine ⟨.ref sc, rfl, sc, _, rfl, .inl hS, _, _, rfl, _, _, rfl, _, rfl, by omega, by omega, ?_⟩
    refine for_range (fun i σ H' => ∃ y1 y2 y3 y4 y5 y6, σ = [some (.ref sc), y1, y2, y3, y4, y5, y6] ∧ Same H H') ⟨none, none, none, none, none, none, rfl, Same.refl _⟩ ?_ ?_
    · rintro i σ H1 hi ⟨y1, y2, y3, y4, y5, y6, rfl, sm1⟩
      have hi4 : i < 4 := by omega
      refine ⟨.ref sc, rfl, .int (0 + (i : Int)), rfl, sc, _, ns, rfl, by omega, by omega, sm1.seq hS, fun p g sd np g0 sd0 => ?_⟩
      have hh1 : HandAt (upd H1 p (.lst [.int g, .int sd, .int 0])) p 0 := ⟨g, sd, 0, upd_same, g0, sd0, by decide, by decide⟩
      have b1 : But p H1 (upd H1 p (.lst [.int g, .int sd, .int 0])) := But.put
      generalize upd H1 p (.lst [.int g, .int sd, .int 0]) = H2 at hh1 b1
      refine ⟨_, rfl, p, 2, _, rfl, by decide, by decide, hh1, by omega, fun H3 r b3 hh3 r0 r1 => ⟨_, _, rfl, rfl, ?_⟩⟩
      obtain ⟨k, rfl⟩ := Int.eq_ofNat_of_zero_le r0
      have hk : k < 2 := by have r1 : (k : Int) < ((2 : Nat) : Int) := r1; omega
      have e2 : (2 : Int) + (k : Int) = ((2 + k : Nat) : Int) := by omega
      dsimp only
      rw [e2]
      have hm : 2 + k = 2 ∨ 2 + k = 3 := by omega
      generalize 2 + k = many at hm ⊢
      refine ⟨_, rfl, _, rfl, p, many, 1, _, 1, rfl, by decide, by decide, by decide, by omega, by omega, hh3, by omega, fun H4 v D b4 hh4 dv ok so => ?_⟩
      obtain ⟨fit, hnl⟩ := fit_of ok so
      have G := good_of fit hnl
      obtain ⟨pg, vb, ps, pb, us, ws, rfl, hp, ⟨pr, rfl, hpr, _⟩, hps, hus, hpb, hws⟩ := dv
      have hb4 : 3 * cost 1 ≤ 100000 := by decide
      refine ⟨_, rfl, _, rfl, _, rfl, p, pg, pr, ps, pb, many, _, D.scale, D.name, _, _, _, rfl, hm, G, hp, .tup hpr (dp_ints _), .tup hps hus.dps, .tup hpb hws.dps, hh4, by omega, fun H5 l cs b5 hh5 hl hcs cl => ?_⟩
      refine ⟨l, rfl, ⟨_, SqL.of hl⟩, ?_⟩
      refine for_list (xs := cs) (fun j σ H' => ∃ y5 y6, σ = [some (.ref sc), some (.int (0 + (i : Int))), some (.ref p), some (.int (many : Int)), some (.ref pg), y5, y6] ∧ Same H5 H') ⟨_, _, rfl, Same.refl _⟩ ?_ ?_ ?_
      · rintro j σ H' _ ⟨_, _, _, sm⟩
        exact SqL.of (sm _ _ hl)
      · rintro j x σ H6 hx ⟨y5, y6, rfl, sm⟩
        obtain ⟨nm', sc', rg', st', bh', due, dx, wd, ed⟩ := cl x (List.mem_of_getElem? hx)
        obtain ⟨px, vd, rfl, hq, dvd⟩ := case_at (dp_same sm dx)
        obtain ⟨pl, pr', ps', pb', xr, xs, xb, rfl, k1, k2, k3, k4, k5, k6, k7⟩ := dbt_at dvd
        refine ⟨px, _, rfl, hq, rfl, _, _, rfl, _, _, rfl, rfl, ?_⟩
        refine ⟨_, rfl, _, rfl, pl, many, nm', sc', pr', ps', pb', xr, xs, xb, rg', st', bh', rfl, by omega, k1, wd.nl, k2, k3, k4, k5, k6, k7, wd.we, wd.wb, fun H7 s7 => ?_⟩
        refine ⟨_, _, rfl, rfl, _, rfl, _, _, rfl, rfl, ?_⟩
        rw [ed]
        exact ⟨rfl, _, rfl, iteFF (by rw [decide_eq_true rfl]; rfl) ⟨_, _, rfl, sm.trans s7⟩⟩
      · rintro σ H6 ⟨y5, y6, rfl, sm⟩
        exact ⟨_, _, _, _, _, _, rfl, sm1.trans (((((b1.trans b3).trans b4).trans b5).trans (But.of sm)).same np)⟩
    · rintro σ H1 ⟨y1, y2, y3, y4, y5, y6, rfl, sm1⟩
      exact q _
end
end NG

namespace NG
open PySem PySem.Spec PyProof.Rows L2
theorem all_mk {l : PySem.W.OpenLaw} {w : World} {K : PySem.W.Frag} {h : Heap} {mg : Str → Option Value} {fa f_is_number f_is_within f_fits f_first_word f_fits_shape f_has_shape f_is_registers f_parts f_count_parts f_is_expression f_join_spans f_span f_is_name f_power f_count_deed f_count_deeds f_is_stake f_are_stakes f_are_behinds f_is_doubter f_L_hand f_L_take f_L_of f_L_figure f_L_registers f_L_leaf f_L_expression f_L_stake f_L_deeds f_L_doubter f_L_put f_L_part f_L_piled f_L_stakes_cases f_L_expressions f_L_deeds_cases f_L_all_cases f_law : Addr} (X : K.In h) (G : h.Ns mainGlobals mg) (hfa : mg "law" = some (.ref fa))
    {od_is_number an_is_number od_is_within an_is_within od_fits an_fits od_first_word an_first_word od_fits_shape an_fits_shape od_has_shape an_has_shape od_is_registers an_is_registers od_parts an_parts od_count_parts an_count_parts od_is_expression an_is_expression od_join_spans an_join_spans od_span an_span od_is_name an_is_name od_power an_power od_count_deed an_count_deed od_count_deeds an_count_deeds od_is_stake an_is_stake od_are_stakes an_are_stakes od_are_behinds an_are_behinds od_is_doubter an_is_doubter od_L_hand an_L_hand od_L_take an_L_take od_L_of an_L_of od_L_figure an_L_figure od_L_registers an_L_registers od_L_leaf an_L_leaf od_L_expression an_L_expression od_L_stake an_L_stake od_L_deeds an_L_deeds od_L_doubter an_L_doubter od_L_put an_L_put od_L_part an_L_part od_L_piled an_L_piled od_L_stakes_cases an_L_stakes_cases od_L_expressions an_L_expressions od_L_deeds_cases an_L_deeds_cases od_L_all_cases an_L_all_cases od_law an_law : Option Addr} {sl_is_number sl_is_within sl_fits sl_first_word sl_fits_shape sl_has_shape sl_is_registers sl_parts sl_count_parts sl_is_expression sl_join_spans sl_span sl_is_name sl_power sl_count_deed sl_count_deeds sl_is_stake sl_are_stakes sl_are_behinds sl_is_doubter sl_L_hand sl_L_take sl_L_of sl_L_figure sl_L_registers sl_L_leaf sl_L_expression sl_L_stake sl_L_deeds sl_L_doubter sl_L_put sl_L_part sl_L_piled sl_L_stakes_cases sl_L_expressions sl_L_deeds_cases sl_L_all_cases sl_law : Array (Option Value)} {oc_is_number kV_is_number dc_is_number pm_is_number cd_is_number ct_is_number oc_is_within kV_is_within dc_is_within pm_is_within cd_is_within ct_is_within oc_fits kV_fits dc_fits pm_fits cd_fits ct_fits oc_first_word kV_first_word dc_first_word pm_first_word cd_first_word ct_first_word oc_fits_shape kV_fits_shape dc_fits_shape pm_fits_shape cd_fits_shape ct_fits_shape oc_has_shape kV_has_shape dc_has_shape pm_has_shape cd_has_shape ct_has_shape oc_is_registers kV_is_registers dc_is_registers pm_is_registers cd_is_registers ct_is_registers oc_parts kV_parts dc_parts pm_parts cd_parts ct_parts oc_count_parts kV_count_parts dc_count_parts pm_count_parts cd_count_parts ct_count_parts oc_is_expression kV_is_expression dc_is_expression pm_is_expression cd_is_expression ct_is_expression oc_join_spans kV_join_spans dc_join_spans pm_join_spans cd_join_spans ct_join_spans oc_span kV_span dc_span pm_span cd_span ct_span oc_is_name kV_is_name dc_is_name pm_is_name cd_is_name ct_is_name oc_power kV_power dc_power pm_power cd_power ct_power oc_count_deed kV_count_deed dc_count_deed pm_count_deed cd_count_deed ct_count_deed oc_count_deeds kV_count_deeds dc_count_deeds pm_count_deeds cd_count_deeds ct_count_deeds oc_is_stake kV_is_stake dc_is_stake pm_is_stake cd_is_stake ct_is_stake oc_are_stakes kV_are_stakes dc_are_stakes pm_are_stakes cd_are_stakes ct_are_stakes oc_are_behinds kV_are_behinds dc_are_behinds pm_are_behinds cd_are_behinds ct_are_behinds oc_is_doubter kV_is_doubter dc_is_doubter pm_is_doubter cd_is_doubter ct_is_doubter oc_L_hand kV_L_hand dc_L_hand pm_L_hand cd_L_hand ct_L_hand oc_L_take kV_L_take dc_L_take pm_L_take cd_L_take ct_L_take oc_L_of kV_L_of dc_L_of pm_L_of cd_L_of ct_L_of oc_L_figure kV_L_figure dc_L_figure pm_L_figure cd_L_figure ct_L_figure oc_L_registers kV_L_registers dc_L_registers pm_L_registers cd_L_registers ct_L_registers oc_L_leaf kV_L_leaf dc_L_leaf pm_L_leaf cd_L_leaf ct_L_leaf oc_L_expression kV_L_expression dc_L_expression pm_L_expression cd_L_expression ct_L_expression oc_L_stake kV_L_stake dc_L_stake pm_L_stake cd_L_stake ct_L_stake oc_L_deeds kV_L_deeds dc_L_deeds pm_L_deeds cd_L_deeds ct_L_deeds oc_L_doubter kV_L_doubter dc_L_doubter pm_L_doubter cd_L_doubter ct_L_doubter oc_L_put kV_L_put dc_L_put pm_L_put cd_L_put ct_L_put oc_L_part kV_L_part dc_L_part pm_L_part cd_L_part ct_L_part oc_L_piled kV_L_piled dc_L_piled pm_L_piled cd_L_piled ct_L_piled oc_L_stakes_cases kV_L_stakes_cases dc_L_stakes_cases pm_L_stakes_cases cd_L_stakes_cases ct_L_stakes_cases oc_L_expressions kV_L_expressions dc_L_expressions pm_L_expressions cd_L_expressions ct_L_expressions oc_L_deeds_cases kV_L_deeds_cases dc_L_deeds_cases pm_L_deeds_cases cd_L_deeds_cases ct_L_deeds_cases oc_L_all_cases kV_L_all_cases dc_L_all_cases pm_L_all_cases cd_L_all_cases ct_L_all_cases oc_law kV_law dc_law pm_law cd_law ct_law : Value}
    (a_is_number : PySem.W.nsIn K mainGlobals "is_number" = some (some (.ref f_is_number))) (l_is_number : K.lookup f_is_number = some ⟨oc_is_number, od_is_number, .func (PySem.W.fnOf "is_number" "is_number" (defArgs s_is_number) (defBody s_is_number) (defScope s_is_number) .none kV_is_number dc_is_number pm_is_number an_is_number cd_is_number ct_is_number), sl_is_number⟩) (c_is_number : PySem.W.codeIn K cd_is_number "is_number" = true) (k_is_number : PySem.W.keepIn K (.ref f_is_number) = true)
    (a_is_within : PySem.W.nsIn K mainGlobals "is_within" = some (some (.ref f_is_within))) (l_is_within : K.lookup f_is_within = some ⟨oc_is_within, od_is_within, .func (PySem.W.fnOf "is_within" "is_within" (defArgs s_is_within) (defBody s_is_within) (defScope s_is_within) .none kV_is_within dc_is_within pm_is_within an_is_within cd_is_within ct_is_within), sl_is_within⟩) (c_is_within : PySem.W.codeIn K cd_is_within "is_within" = true) (k_is_within : PySem.W.keepIn K (.ref f_is_within) = true)
    (a_fits : PySem.W.nsIn K mainGlobals "fits" = some (some (.ref f_fits))) (l_fits : K.lookup f_fits = some ⟨oc_fits, od_fits, .func (PySem.W.fnOf "fits" "fits" (defArgs s_fits) (defBody s_fits) (defScope s_fits) .none kV_fits dc_fits pm_fits an_fits cd_fits ct_fits), sl_fits⟩) (c_fits : PySem.W.codeIn K cd_fits "fits" = true) (k_fits : PySem.W.keepIn K (.ref f_fits) = true)
    (a_first_word : PySem.W.nsIn K mainGlobals "first_word" = some (some (.ref f_first_word))) (l_first_word : K.lookup f_first_word = some ⟨oc_first_word, od_first_word, .func (PySem.W.fnOf "first_word" "first_word" (defArgs s_first_word) (defBody s_first_word) (defScope s_first_word) .none kV_first_word dc_first_word pm_first_word an_first_word cd_first_word ct_first_word), sl_first_word⟩) (c_first_word : PySem.W.codeIn K cd_first_word "first_word" = true) (k_first_word : PySem.W.keepIn K (.ref f_first_word) = true)
    (a_fits_shape : PySem.W.nsIn K mainGlobals "fits_shape" = some (some (.ref f_fits_shape))) (l_fits_shape : K.lookup f_fits_shape = some ⟨oc_fits_shape, od_fits_shape, .func (PySem.W.fnOf "fits_shape" "fits_shape" (defArgs s_fits_shape) (defBody s_fits_shape) (defScope s_fits_shape) .none kV_fits_shape dc_fits_shape pm_fits_shape an_fits_shape cd_fits_shape ct_fits_shape), sl_fits_shape⟩) (c_fits_shape : PySem.W.codeIn K cd_fits_shape "fits_shape" = true) (k_fits_shape : PySem.W.keepIn K (.ref f_fits_shape) = true)
    (a_has_shape : PySem.W.nsIn K mainGlobals "has_shape" = some (some (.ref f_has_shape))) (l_has_shape : K.lookup f_has_shape = some ⟨oc_has_shape, od_has_shape, .func (PySem.W.fnOf "has_shape" "has_shape" (defArgs s_has_shape) (defBody s_has_shape) (defScope s_has_shape) .none kV_has_shape dc_has_shape pm_has_shape an_has_shape cd_has_shape ct_has_shape), sl_has_shape⟩) (c_has_shape : PySem.W.codeIn K cd_has_shape "has_shape" = true) (k_has_shape : PySem.W.keepIn K (.ref f_has_shape) = true)
    (a_is_registers : PySem.W.nsIn K mainGlobals "is_registers" = some (some (.ref f_is_registers))) (l_is_registers : K.lookup f_is_registers = some ⟨oc_is_registers, od_is_registers, .func (PySem.W.fnOf "is_registers" "is_registers" (defArgs s_is_registers) (defBody s_is_registers) (defScope s_is_registers) .none kV_is_registers dc_is_registers pm_is_registers an_is_registers cd_is_registers ct_is_registers), sl_is_registers⟩) (c_is_registers : PySem.W.codeIn K cd_is_registers "is_registers" = true) (k_is_registers : PySem.W.keepIn K (.ref f_is_registers) = true)
    (a_parts : PySem.W.nsIn K mainGlobals "parts" = some (some (.ref f_parts))) (l_parts : K.lookup f_parts = some ⟨oc_parts, od_parts, .func (PySem.W.fnOf "parts" "parts" (defArgs s_parts) (defBody s_parts) (defScope s_parts) .none kV_parts dc_parts pm_parts an_parts cd_parts ct_parts), sl_parts⟩) (c_parts : PySem.W.codeIn K cd_parts "parts" = true) (k_parts : PySem.W.keepIn K (.ref f_parts) = true)
    (a_count_parts : PySem.W.nsIn K mainGlobals "count_parts" = some (some (.ref f_count_parts))) (l_count_parts : K.lookup f_count_parts = some ⟨oc_count_parts, od_count_parts, .func (PySem.W.fnOf "count_parts" "count_parts" (defArgs s_count_parts) (defBody s_count_parts) (defScope s_count_parts) .none kV_count_parts dc_count_parts pm_count_parts an_count_parts cd_count_parts ct_count_parts), sl_count_parts⟩) (c_count_parts : PySem.W.codeIn K cd_count_parts "count_parts" = true) (k_count_parts : PySem.W.keepIn K (.ref f_count_parts) = true)
    (a_is_expression : PySem.W.nsIn K mainGlobals "is_expression" = some (some (.ref f_is_expression))) (l_is_expression : K.lookup f_is_expression = some ⟨oc_is_expression, od_is_expression, .func (PySem.W.fnOf "is_expression" "is_expression" (defArgs s_is_expression) (defBody s_is_expression) (defScope s_is_expression) .none kV_is_expression dc_is_expression pm_is_expression an_is_expression cd_is_expression ct_is_expression), sl_is_expression⟩) (c_is_expression : PySem.W.codeIn K cd_is_expression "is_expression" = true) (k_is_expression : PySem.W.keepIn K (.ref f_is_expression) = true)
    (a_join_spans : PySem.W.nsIn K mainGlobals "join_spans" = some (some (.ref f_join_spans))) (l_join_spans : K.lookup f_join_spans = some ⟨oc_join_spans, od_join_spans, .func (PySem.W.fnOf "join_spans" "join_spans" (defArgs s_join_spans) (defBody s_join_spans) (defScope s_join_spans) .none kV_join_spans dc_join_spans pm_join_spans an_join_spans cd_join_spans ct_join_spans), sl_join_spans⟩) (c_join_spans : PySem.W.codeIn K cd_join_spans "join_spans" = true) (k_join_spans : PySem.W.keepIn K (.ref f_join_spans) = true)
    (a_span : PySem.W.nsIn K mainGlobals "span" = some (some (.ref f_span))) (l_span : K.lookup f_span = some ⟨oc_span, od_span, .func (PySem.W.fnOf "span" "span" (defArgs s_span) (defBody s_span) (defScope s_span) .none kV_span dc_span pm_span an_span cd_span ct_span), sl_span⟩) (c_span : PySem.W.codeIn K cd_span "span" = true) (k_span : PySem.W.keepIn K (.ref f_span) = true)
    (a_is_name : PySem.W.nsIn K mainGlobals "is_name" = some (some (.ref f_is_name))) (l_is_name : K.lookup f_is_name = some ⟨oc_is_name, od_is_name, .func (PySem.W.fnOf "is_name" "is_name" (defArgs s_is_name) (defBody s_is_name) (defScope s_is_name) .none kV_is_name dc_is_name pm_is_name an_is_name cd_is_name ct_is_name), sl_is_name⟩) (c_is_name : PySem.W.codeIn K cd_is_name "is_name" = true) (k_is_name : PySem.W.keepIn K (.ref f_is_name) = true)
    (a_power : PySem.W.nsIn K mainGlobals "power" = some (some (.ref f_power))) (l_power : K.lookup f_power = some ⟨oc_power, od_power, .func (PySem.W.fnOf "power" "power" (defArgs s_power) (defBody s_power) (defScope s_power) .none kV_power dc_power pm_power an_power cd_power ct_power), sl_power⟩) (c_power : PySem.W.codeIn K cd_power "power" = true) (k_power : PySem.W.keepIn K (.ref f_power) = true)
    (a_count_deed : PySem.W.nsIn K mainGlobals "count_deed" = some (some (.ref f_count_deed))) (l_count_deed : K.lookup f_count_deed = some ⟨oc_count_deed, od_count_deed, .func (PySem.W.fnOf "count_deed" "count_deed" (defArgs s_count_deed) (defBody s_count_deed) (defScope s_count_deed) .none kV_count_deed dc_count_deed pm_count_deed an_count_deed cd_count_deed ct_count_deed), sl_count_deed⟩) (c_count_deed : PySem.W.codeIn K cd_count_deed "count_deed" = true) (k_count_deed : PySem.W.keepIn K (.ref f_count_deed) = true)
    (a_count_deeds : PySem.W.nsIn K mainGlobals "count_deeds" = some (some (.ref f_count_deeds))) (l_count_deeds : K.lookup f_count_deeds = some ⟨oc_count_deeds, od_count_deeds, .func (PySem.W.fnOf "count_deeds" "count_deeds" (defArgs s_count_deeds) (defBody s_count_deeds) (defScope s_count_deeds) .none kV_count_deeds dc_count_deeds pm_count_deeds an_count_deeds cd_count_deeds ct_count_deeds), sl_count_deeds⟩) (c_count_deeds : PySem.W.codeIn K cd_count_deeds "count_deeds" = true) (k_count_deeds : PySem.W.keepIn K (.ref f_count_deeds) = true)
    (a_is_stake : PySem.W.nsIn K mainGlobals "is_stake" = some (some (.ref f_is_stake))) (l_is_stake : K.lookup f_is_stake = some ⟨oc_is_stake, od_is_stake, .func (PySem.W.fnOf "is_stake" "is_stake" (defArgs s_is_stake) (defBody s_is_stake) (defScope s_is_stake) .none kV_is_stake dc_is_stake pm_is_stake an_is_stake cd_is_stake ct_is_stake), sl_is_stake⟩) (c_is_stake : PySem.W.codeIn K cd_is_stake "is_stake" = true) (k_is_stake : PySem.W.keepIn K (.ref f_is_stake) = true)
    (a_are_stakes : PySem.W.nsIn K mainGlobals "are_stakes" = some (some (.ref f_are_stakes))) (l_are_stakes : K.lookup f_are_stakes = some ⟨oc_are_stakes, od_are_stakes, .func (PySem.W.fnOf "are_stakes" "are_stakes" (defArgs s_are_stakes) (defBody s_are_stakes) (defScope s_are_stakes) .none kV_are_stakes dc_are_stakes pm_are_stakes an_are_stakes cd_are_stakes ct_are_stakes), sl_are_stakes⟩) (c_are_stakes : PySem.W.codeIn K cd_are_stakes "are_stakes" = true) (k_are_stakes : PySem.W.keepIn K (.ref f_are_stakes) = true)
    (a_are_behinds : PySem.W.nsIn K mainGlobals "are_behinds" = some (some (.ref f_are_behinds))) (l_are_behinds : K.lookup f_are_behinds = some ⟨oc_are_behinds, od_are_behinds, .func (PySem.W.fnOf "are_behinds" "are_behinds" (defArgs s_are_behinds) (defBody s_are_behinds) (defScope s_are_behinds) .none kV_are_behinds dc_are_behinds pm_are_behinds an_are_behinds cd_are_behinds ct_are_behinds), sl_are_behinds⟩) (c_are_behinds : PySem.W.codeIn K cd_are_behinds "are_behinds" = true) (k_are_behinds : PySem.W.keepIn K (.ref f_are_behinds) = true)
    (a_is_doubter : PySem.W.nsIn K mainGlobals "is_doubter" = some (some (.ref f_is_doubter))) (l_is_doubter : K.lookup f_is_doubter = some ⟨oc_is_doubter, od_is_doubter, .func (PySem.W.fnOf "is_doubter" "is_doubter" (defArgs s_is_doubter) (defBody s_is_doubter) (defScope s_is_doubter) .none kV_is_doubter dc_is_doubter pm_is_doubter an_is_doubter cd_is_doubter ct_is_doubter), sl_is_doubter⟩) (c_is_doubter : PySem.W.codeIn K cd_is_doubter "is_doubter" = true) (k_is_doubter : PySem.W.keepIn K (.ref f_is_doubter) = true)
    (a_L_hand : PySem.W.nsIn K mainGlobals "_law_hand" = some (some (.ref f_L_hand))) (l_L_hand : K.lookup f_L_hand = some ⟨oc_L_hand, od_L_hand, .func (PySem.W.fnOf "_law_hand" "_law_hand" (defArgs s_L_hand) (defBody s_L_hand) (defScope s_L_hand) .none kV_L_hand dc_L_hand pm_L_hand an_L_hand cd_L_hand ct_L_hand), sl_L_hand⟩) (c_L_hand : PySem.W.codeIn K cd_L_hand "_law_hand" = true) (k_L_hand : PySem.W.keepIn K (.ref f_L_hand) = true)
    (a_L_take : PySem.W.nsIn K mainGlobals "_law_take" = some (some (.ref f_L_take))) (l_L_take : K.lookup f_L_take = some ⟨oc_L_take, od_L_take, .func (PySem.W.fnOf "_law_take" "_law_take" (defArgs s_L_take) (defBody s_L_take) (defScope s_L_take) .none kV_L_take dc_L_take pm_L_take an_L_take cd_L_take ct_L_take), sl_L_take⟩) (c_L_take : PySem.W.codeIn K cd_L_take "_law_take" = true) (k_L_take : PySem.W.keepIn K (.ref f_L_take) = true)
    (a_L_of : PySem.W.nsIn K mainGlobals "_law_of" = some (some (.ref f_L_of))) (l_L_of : K.lookup f_L_of = some ⟨oc_L_of, od_L_of, .func (PySem.W.fnOf "_law_of" "_law_of" (defArgs s_L_of) (defBody s_L_of) (defScope s_L_of) .none kV_L_of dc_L_of pm_L_of an_L_of cd_L_of ct_L_of), sl_L_of⟩) (c_L_of : PySem.W.codeIn K cd_L_of "_law_of" = true) (k_L_of : PySem.W.keepIn K (.ref f_L_of) = true)
    (a_L_figure : PySem.W.nsIn K mainGlobals "_law_figure" = some (some (.ref f_L_figure))) (l_L_figure : K.lookup f_L_figure = some ⟨oc_L_figure, od_L_figure, .func (PySem.W.fnOf "_law_figure" "_law_figure" (defArgs s_L_figure) (defBody s_L_figure) (defScope s_L_figure) .none kV_L_figure dc_L_figure pm_L_figure an_L_figure cd_L_figure ct_L_figure), sl_L_figure⟩) (c_L_figure : PySem.W.codeIn K cd_L_figure "_law_figure" = true) (k_L_figure : PySem.W.keepIn K (.ref f_L_figure) = true)
    (a_L_registers : PySem.W.nsIn K mainGlobals "_law_registers" = some (some (.ref f_L_registers))) (l_L_registers : K.lookup f_L_registers = some ⟨oc_L_registers, od_L_registers, .func (PySem.W.fnOf "_law_registers" "_law_registers" (defArgs s_L_registers) (defBody s_L_registers) (defScope s_L_registers) .none kV_L_registers dc_L_registers pm_L_registers an_L_registers cd_L_registers ct_L_registers), sl_L_registers⟩) (c_L_registers : PySem.W.codeIn K cd_L_registers "_law_registers" = true) (k_L_registers : PySem.W.keepIn K (.ref f_L_registers) = true)
    (a_L_leaf : PySem.W.nsIn K mainGlobals "_law_leaf" = some (some (.ref f_L_leaf))) (l_L_leaf : K.lookup f_L_leaf = some ⟨oc_L_leaf, od_L_leaf, .func (PySem.W.fnOf "_law_leaf" "_law_leaf" (defArgs s_L_leaf) (defBody s_L_leaf) (defScope s_L_leaf) .none kV_L_leaf dc_L_leaf pm_L_leaf an_L_leaf cd_L_leaf ct_L_leaf), sl_L_leaf⟩) (c_L_leaf : PySem.W.codeIn K cd_L_leaf "_law_leaf" = true) (k_L_leaf : PySem.W.keepIn K (.ref f_L_leaf) = true)
    (a_L_expression : PySem.W.nsIn K mainGlobals "_law_expression" = some (some (.ref f_L_expression))) (l_L_expression : K.lookup f_L_expression = some ⟨oc_L_expression, od_L_expression, .func (PySem.W.fnOf "_law_expression" "_law_expression" (defArgs s_L_expression) (defBody s_L_expression) (defScope s_L_expression) .none kV_L_expression dc_L_expression pm_L_expression an_L_expression cd_L_expression ct_L_expression), sl_L_expression⟩) (c_L_expression : PySem.W.codeIn K cd_L_expression "_law_expression" = true) (k_L_expression : PySem.W.keepIn K (.ref f_L_expression) = true)
    (a_L_stake : PySem.W.nsIn K mainGlobals "_law_stake" = some (some (.ref f_L_stake))) (l_L_stake : K.lookup f_L_stake = some ⟨oc_L_stake, od_L_stake, .func (PySem.W.fnOf "_law_stake" "_law_stake" (defArgs s_L_stake) (defBody s_L_stake) (defScope s_L_stake) .none kV_L_stake dc_L_stake pm_L_stake an_L_stake cd_L_stake ct_L_stake), sl_L_stake⟩) (c_L_stake : PySem.W.codeIn K cd_L_stake "_law_stake" = true) (k_L_stake : PySem.W.keepIn K (.ref f_L_stake) = true)
    (a_L_deeds : PySem.W.nsIn K mainGlobals "_law_deeds" = some (some (.ref f_L_deeds))) (l_L_deeds : K.lookup f_L_deeds = some ⟨oc_L_deeds, od_L_deeds, .func (PySem.W.fnOf "_law_deeds" "_law_deeds" (defArgs s_L_deeds) (defBody s_L_deeds) (defScope s_L_deeds) .none kV_L_deeds dc_L_deeds pm_L_deeds an_L_deeds cd_L_deeds ct_L_deeds), sl_L_deeds⟩) (c_L_deeds : PySem.W.codeIn K cd_L_deeds "_law_deeds" = true) (k_L_deeds : PySem.W.keepIn K (.ref f_L_deeds) = true)
    (a_L_doubter : PySem.W.nsIn K mainGlobals "_law_doubter" = some (some (.ref f_L_doubter))) (l_L_doubter : K.lookup f_L_doubter = some ⟨oc_L_doubter, od_L_doubter, .func (PySem.W.fnOf "_law_doubter" "_law_doubter" (defArgs s_L_doubter) (defBody s_L_doubter) (defScope s_L_doubter) .none kV_L_doubter dc_L_doubter pm_L_doubter an_L_doubter cd_L_doubter ct_L_doubter), sl_L_doubter⟩) (c_L_doubter : PySem.W.codeIn K cd_L_doubter "_law_doubter" = true) (k_L_doubter : PySem.W.keepIn K (.ref f_L_doubter) = true)
    (a_L_put : PySem.W.nsIn K mainGlobals "_law_put" = some (some (.ref f_L_put))) (l_L_put : K.lookup f_L_put = some ⟨oc_L_put, od_L_put, .func (PySem.W.fnOf "_law_put" "_law_put" (defArgs s_L_put) (defBody s_L_put) (defScope s_L_put) .none kV_L_put dc_L_put pm_L_put an_L_put cd_L_put ct_L_put), sl_L_put⟩) (c_L_put : PySem.W.codeIn K cd_L_put "_law_put" = true) (k_L_put : PySem.W.keepIn K (.ref f_L_put) = true)
    (a_L_part : PySem.W.nsIn K mainGlobals "_law_part" = some (some (.ref f_L_part))) (l_L_part : K.lookup f_L_part = some ⟨oc_L_part, od_L_part, .func (PySem.W.fnOf "_law_part" "_law_part" (defArgs s_L_part) (defBody s_L_part) (defScope s_L_part) .none kV_L_part dc_L_part pm_L_part an_L_part cd_L_part ct_L_part), sl_L_part⟩) (c_L_part : PySem.W.codeIn K cd_L_part "_law_part" = true) (k_L_part : PySem.W.keepIn K (.ref f_L_part) = true)
    (a_L_piled : PySem.W.nsIn K mainGlobals "_law_piled" = some (some (.ref f_L_piled))) (l_L_piled : K.lookup f_L_piled = some ⟨oc_L_piled, od_L_piled, .func (PySem.W.fnOf "_law_piled" "_law_piled" (defArgs s_L_piled) (defBody s_L_piled) (defScope s_L_piled) .none kV_L_piled dc_L_piled pm_L_piled an_L_piled cd_L_piled ct_L_piled), sl_L_piled⟩) (c_L_piled : PySem.W.codeIn K cd_L_piled "_law_piled" = true) (k_L_piled : PySem.W.keepIn K (.ref f_L_piled) = true)
    (a_L_stakes_cases : PySem.W.nsIn K mainGlobals "_law_stakes_cases" = some (some (.ref f_L_stakes_cases))) (l_L_stakes_cases : K.lookup f_L_stakes_cases = some ⟨oc_L_stakes_cases, od_L_stakes_cases, .func (PySem.W.fnOf "_law_stakes_cases" "_law_stakes_cases" (defArgs s_L_stakes_cases) (defBody s_L_stakes_cases) (defScope s_L_stakes_cases) .none kV_L_stakes_cases dc_L_stakes_cases pm_L_stakes_cases an_L_stakes_cases cd_L_stakes_cases ct_L_stakes_cases), sl_L_stakes_cases⟩) (c_L_stakes_cases : PySem.W.codeIn K cd_L_stakes_cases "_law_stakes_cases" = true) (k_L_stakes_cases : PySem.W.keepIn K (.ref f_L_stakes_cases) = true)
    (a_L_expressions : PySem.W.nsIn K mainGlobals "_law_expressions" = some (some (.ref f_L_expressions))) (l_L_expressions : K.lookup f_L_expressions = some ⟨oc_L_expressions, od_L_expressions, .func (PySem.W.fnOf "_law_expressions" "_law_expressions" (defArgs s_L_expressions) (defBody s_L_expressions) (defScope s_L_expressions) .none kV_L_expressions dc_L_expressions pm_L_expressions an_L_expressions cd_L_expressions ct_L_expressions), sl_L_expressions⟩) (c_L_expressions : PySem.W.codeIn K cd_L_expressions "_law_expressions" = true) (k_L_expressions : PySem.W.keepIn K (.ref f_L_expressions) = true)
    (a_L_deeds_cases : PySem.W.nsIn K mainGlobals "_law_deeds_cases" = some (some (.ref f_L_deeds_cases))) (l_L_deeds_cases : K.lookup f_L_deeds_cases = some ⟨oc_L_deeds_cases, od_L_deeds_cases, .func (PySem.W.fnOf "_law_deeds_cases" "_law_deeds_cases" (defArgs s_L_deeds_cases) (defBody s_L_deeds_cases) (defScope s_L_deeds_cases) .none kV_L_deeds_cases dc_L_deeds_cases pm_L_deeds_cases an_L_deeds_cases cd_L_deeds_cases ct_L_deeds_cases), sl_L_deeds_cases⟩) (c_L_deeds_cases : PySem.W.codeIn K cd_L_deeds_cases "_law_deeds_cases" = true) (k_L_deeds_cases : PySem.W.keepIn K (.ref f_L_deeds_cases) = true)
    (a_L_all_cases : PySem.W.nsIn K mainGlobals "_law_all_cases" = some (some (.ref f_L_all_cases))) (l_L_all_cases : K.lookup f_L_all_cases = some ⟨oc_L_all_cases, od_L_all_cases, .func (PySem.W.fnOf "_law_all_cases" "_law_all_cases" (defArgs s_L_all_cases) (defBody s_L_all_cases) (defScope s_L_all_cases) .none kV_L_all_cases dc_L_all_cases pm_L_all_cases an_L_all_cases cd_L_all_cases ct_L_all_cases), sl_L_all_cases⟩) (c_L_all_cases : PySem.W.codeIn K cd_L_all_cases "_law_all_cases" = true) (k_L_all_cases : PySem.W.keepIn K (.ref f_L_all_cases) = true)
    (a_law : PySem.W.nsIn K mainGlobals "law" = some (some (.ref f_law))) (l_law : K.lookup f_law = some ⟨oc_law, od_law, .func (PySem.W.fnOf "law" "law" (defArgs s_law) (defBody s_law) (defScope s_law) .none kV_law dc_law pm_law an_law cd_law ct_law), sl_law⟩) (c_law : PySem.W.codeIn K cd_law "law" = true) (k_law : PySem.W.keepIn K (.ref f_law) = true)
    {d_S : Addr} {es_S : Array DictEntry} {n_S : Nat} (a_S : PySem.W.nsIn K mainGlobals "SHAPES" = some (some (.ref d_S))) (l_S : K.lookup d_S = some ⟨.type "dict", none, .dict es_S n_S, #[]⟩) (k_S : PySem.W.KeysLit w.params es_S.toList)
    (w_S : (d_S == sysModules) = false)
    {q_fig : Addr} {tod_fig : Option Addr} {its_fig : Array Value} {tm_fig : Nat} {tsl_fig : Array (Option Value)} (n_fig : PySem.W.nsIn K d_S "fig" = some (some (.ref q_fig))) (t_fig : K.lookup q_fig = some ⟨.type "tuple", tod_fig, .seq its_fig tm_fig, tsl_fig⟩) (v_fig : Vals [.str "figure"] its_fig.toList)
    {q_reg : Addr} {tod_reg : Option Addr} {its_reg : Array Value} {tm_reg : Nat} {tsl_reg : Array (Option Value)} (n_reg : PySem.W.nsIn K d_S "reg" = some (some (.ref q_reg))) (t_reg : K.lookup q_reg = some ⟨.type "tuple", tod_reg, .seq its_reg tm_reg, tsl_reg⟩) (v_reg : Vals [.str "place"] its_reg.toList)
    {q_share : Addr} {tod_share : Option Addr} {its_share : Array Value} {tm_share : Nat} {tsl_share : Array (Option Value)} (n_share : PySem.W.nsIn K d_S "share" = some (some (.ref q_share))) (t_share : K.lookup q_share = some ⟨.type "tuple", tod_share, .seq its_share tm_share, tsl_share⟩) (v_share : Vals [.str "sign"] its_share.toList)
    {q_sum : Addr} {tod_sum : Option Addr} {its_sum : Array Value} {tm_sum : Nat} {tsl_sum : Array (Option Value)} (n_sum : PySem.W.nsIn K d_S "sum" = some (some (.ref q_sum))) (t_sum : K.lookup q_sum = some ⟨.type "tuple", tod_sum, .seq its_sum tm_sum, tsl_sum⟩) (v_sum : Vals [.str "part", .str "part"] its_sum.toList)
    {q_less : Addr} {tod_less : Option Addr} {its_less : Array Value} {tm_less : Nat} {tsl_less : Array (Option Value)} (n_less : PySem.W.nsIn K d_S "less" = some (some (.ref q_less))) (t_less : K.lookup q_less = some ⟨.type "tuple", tod_less, .seq its_less tm_less, tsl_less⟩) (v_less : Vals [.str "part", .str "part"] its_less.toList)
    {q_times : Addr} {tod_times : Option Addr} {its_times : Array Value} {tm_times : Nat} {tsl_times : Array (Option Value)} (n_times : PySem.W.nsIn K d_S "times" = some (some (.ref q_times))) (t_times : K.lookup q_times = some ⟨.type "tuple", tod_times, .seq its_times tm_times, tsl_times⟩) (v_times : Vals [.str "factor", .str "part"] its_times.toList)
    {q_by : Addr} {tod_by : Option Addr} {its_by : Array Value} {tm_by : Nat} {tsl_by : Array (Option Value)} (n_by : PySem.W.nsIn K d_S "by" = some (some (.ref q_by))) (t_by : K.lookup q_by = some ⟨.type "tuple", tod_by, .seq its_by tm_by, tsl_by⟩) (v_by : Vals [.str "place", .str "part"] its_by.toList)
    {q_least : Addr} {tod_least : Option Addr} {its_least : Array Value} {tm_least : Nat} {tsl_least : Array (Option Value)} (n_least : PySem.W.nsIn K d_S "least" = some (some (.ref q_least))) (t_least : K.lookup q_least = some ⟨.type "tuple", tod_least, .seq its_least tm_least, tsl_least⟩) (v_least : Vals [.str "part", .str "part"] its_least.toList)
    {q_most : Addr} {tod_most : Option Addr} {its_most : Array Value} {tm_most : Nat} {tsl_most : Array (Option Value)} (n_most : PySem.W.nsIn K d_S "most" = some (some (.ref q_most))) (t_most : K.lookup q_most = some ⟨.type "tuple", tod_most, .seq its_most tm_most, tsl_most⟩) (v_most : Vals [.str "part", .str "part"] its_most.toList)
    {q_when : Addr} {tod_when : Option Addr} {its_when : Array Value} {tm_when : Nat} {tsl_when : Array (Option Value)} (n_when : PySem.W.nsIn K d_S "when" = some (some (.ref q_when))) (t_when : K.lookup q_when = some ⟨.type "tuple", tod_when, .seq its_when tm_when, tsl_when⟩) (v_when : Vals [.str "place", .str "figure", .str "part", .str "part"] its_when.toList)
    {q_where : Addr} {tod_where : Option Addr} {its_where : Array Value} {tm_where : Nat} {tsl_where : Array (Option Value)} (n_where : PySem.W.nsIn K d_S "where" = some (some (.ref q_where))) (t_where : K.lookup q_where = some ⟨.type "tuple", tod_where, .seq its_where tm_where, tsl_where⟩) (v_where : Vals [.str "sign", .str "line", .str "part", .str "part"] its_where.toList)
    {d_DEEDS : Addr} {es_DEEDS : Array DictEntry} {n_DEEDS : Nat} (a_DEEDS : PySem.W.nsIn K mainGlobals "DEEDS" = some (some (.ref d_DEEDS))) (l_DEEDS : K.lookup d_DEEDS = some ⟨.type "dict", none, .dict es_DEEDS n_DEEDS, #[]⟩) (k_DEEDS : PySem.W.KeysLit w.params es_DEEDS.toList) (w_DEEDS : (d_DEEDS == sysModules) = false)
    {q_DEEDS_put : Addr} {tod_DEEDS_put : Option Addr} {its_DEEDS_put : Array Value} {tm_DEEDS_put : Nat} {tsl_DEEDS_put : Array (Option Value)} (n_DEEDS_put : PySem.W.nsIn K d_DEEDS "put" = some (some (.ref q_DEEDS_put))) (t_DEEDS_put : K.lookup q_DEEDS_put = some ⟨.type "tuple", tod_DEEDS_put, .seq its_DEEDS_put tm_DEEDS_put, tsl_DEEDS_put⟩) (v_DEEDS_put : Vals [.str "place", .str "figure"] its_DEEDS_put.toList)
    {q_DEEDS_add : Addr} {tod_DEEDS_add : Option Addr} {its_DEEDS_add : Array Value} {tm_DEEDS_add : Nat} {tsl_DEEDS_add : Array (Option Value)} (n_DEEDS_add : PySem.W.nsIn K d_DEEDS "add" = some (some (.ref q_DEEDS_add))) (t_DEEDS_add : K.lookup q_DEEDS_add = some ⟨.type "tuple", tod_DEEDS_add, .seq its_DEEDS_add tm_DEEDS_add, tsl_DEEDS_add⟩) (v_DEEDS_add : Vals [.str "place", .str "figure"] its_DEEDS_add.toList)
    {q_DEEDS_copy : Addr} {tod_DEEDS_copy : Option Addr} {its_DEEDS_copy : Array Value} {tm_DEEDS_copy : Nat} {tsl_DEEDS_copy : Array (Option Value)} (n_DEEDS_copy : PySem.W.nsIn K d_DEEDS "copy" = some (some (.ref q_DEEDS_copy))) (t_DEEDS_copy : K.lookup q_DEEDS_copy = some ⟨.type "tuple", tod_DEEDS_copy, .seq its_DEEDS_copy tm_DEEDS_copy, tsl_DEEDS_copy⟩) (v_DEEDS_copy : Vals [.str "place", .str "place"] its_DEEDS_copy.toList)
    {q_DEEDS_plus : Addr} {tod_DEEDS_plus : Option Addr} {its_DEEDS_plus : Array Value} {tm_DEEDS_plus : Nat} {tsl_DEEDS_plus : Array (Option Value)} (n_DEEDS_plus : PySem.W.nsIn K d_DEEDS "plus" = some (some (.ref q_DEEDS_plus))) (t_DEEDS_plus : K.lookup q_DEEDS_plus = some ⟨.type "tuple", tod_DEEDS_plus, .seq its_DEEDS_plus tm_DEEDS_plus, tsl_DEEDS_plus⟩) (v_DEEDS_plus : Vals [.str "place", .str "place"] its_DEEDS_plus.toList)
    {q_DEEDS_told : Addr} {tod_DEEDS_told : Option Addr} {its_DEEDS_told : Array Value} {tm_DEEDS_told : Nat} {tsl_DEEDS_told : Array (Option Value)} (n_DEEDS_told : PySem.W.nsIn K d_DEEDS "told" = some (some (.ref q_DEEDS_told))) (t_DEEDS_told : K.lookup q_DEEDS_told = some ⟨.type "tuple", tod_DEEDS_told, .seq its_DEEDS_told tm_DEEDS_told, tsl_DEEDS_told⟩) (v_DEEDS_told : Vals [.str "place", .str "sign"] its_DEEDS_told.toList)
    {q_DEEDS_when : Addr} {tod_DEEDS_when : Option Addr} {its_DEEDS_when : Array Value} {tm_DEEDS_when : Nat} {tsl_DEEDS_when : Array (Option Value)} (n_DEEDS_when : PySem.W.nsIn K d_DEEDS "when" = some (some (.ref q_DEEDS_when))) (t_DEEDS_when : K.lookup q_DEEDS_when = some ⟨.type "tuple", tod_DEEDS_when, .seq its_DEEDS_when tm_DEEDS_when, tsl_DEEDS_when⟩) (v_DEEDS_when : Vals [.str "place", .str "figure", .str "part", .str "part"] its_DEEDS_when.toList)
    {d_BOUNDS : Addr} {es_BOUNDS : Array DictEntry} {n_BOUNDS : Nat} (a_BOUNDS : PySem.W.nsIn K mainGlobals "BOUNDS" = some (some (.ref d_BOUNDS))) (l_BOUNDS : K.lookup d_BOUNDS = some ⟨.type "dict", none, .dict es_BOUNDS n_BOUNDS, #[]⟩) (k_BOUNDS : PySem.W.KeysLit w.params es_BOUNDS.toList) (w_BOUNDS : (d_BOUNDS == sysModules) = false)
    {q_BOUNDS_figure : Addr} {tod_BOUNDS_figure : Option Addr} {its_BOUNDS_figure : Array Value} {tm_BOUNDS_figure : Nat} {tsl_BOUNDS_figure : Array (Option Value)} (n_BOUNDS_figure : PySem.W.nsIn K d_BOUNDS "figure" = some (some (.ref q_BOUNDS_figure))) (t_BOUNDS_figure : K.lookup q_BOUNDS_figure = some ⟨.type "tuple", tod_BOUNDS_figure, .seq its_BOUNDS_figure tm_BOUNDS_figure, tsl_BOUNDS_figure⟩) (v_BOUNDS_figure : Vals [.int (-1000), .int (1000)] its_BOUNDS_figure.toList)
    {q_BOUNDS_place : Addr} {tod_BOUNDS_place : Option Addr} {its_BOUNDS_place : Array Value} {tm_BOUNDS_place : Nat} {tsl_BOUNDS_place : Array (Option Value)} (n_BOUNDS_place : PySem.W.nsIn K d_BOUNDS "place" = some (some (.ref q_BOUNDS_place))) (t_BOUNDS_place : K.lookup q_BOUNDS_place = some ⟨.type "tuple", tod_BOUNDS_place, .seq its_BOUNDS_place tm_BOUNDS_place, tsl_BOUNDS_place⟩) (v_BOUNDS_place : Vals [.int (0), .int (3)] its_BOUNDS_place.toList)
    {q_BOUNDS_factor : Addr} {tod_BOUNDS_factor : Option Addr} {its_BOUNDS_factor : Array Value} {tm_BOUNDS_factor : Nat} {tsl_BOUNDS_factor : Array (Option Value)} (n_BOUNDS_factor : PySem.W.nsIn K d_BOUNDS "factor" = some (some (.ref q_BOUNDS_factor))) (t_BOUNDS_factor : K.lookup q_BOUNDS_factor = some ⟨.type "tuple", tod_BOUNDS_factor, .seq its_BOUNDS_factor tm_BOUNDS_factor, tsl_BOUNDS_factor⟩) (v_BOUNDS_factor : Vals [.int (-9), .int (9)] its_BOUNDS_factor.toList)
    {q_BOUNDS_line : Addr} {tod_BOUNDS_line : Option Addr} {its_BOUNDS_line : Array Value} {tm_BOUNDS_line : Nat} {tsl_BOUNDS_line : Array (Option Value)} (n_BOUNDS_line : PySem.W.nsIn K d_BOUNDS "line" = some (some (.ref q_BOUNDS_line))) (t_BOUNDS_line : K.lookup q_BOUNDS_line = some ⟨.type "tuple", tod_BOUNDS_line, .seq its_BOUNDS_line tm_BOUNDS_line, tsl_BOUNDS_line⟩) (v_BOUNDS_line : Vals [.int (1), .int (1000)] its_BOUNDS_line.toList)
    {t_GREATEST_SCALE : Tok} (i_GREATEST_SCALE : PySem.W.nsIn K mainGlobals "GREATEST_SCALE" = some (some (.int (4) t_GREATEST_SCALE)))
    {t_MOST_PARTS : Tok} (i_MOST_PARTS : PySem.W.nsIn K mainGlobals "MOST_PARTS" = some (some (.int (40) t_MOST_PARTS)))
    {t_MOST_DEEP_expressions : Tok} (i_MOST_DEEP_expressions : PySem.W.nsIn K mainGlobals "MOST_DEEP_expressions" = some (some (.int (8) t_MOST_DEEP_expressions)))
    {t_MOST_DEEP_doubters : Tok} (i_MOST_DEEP_doubters : PySem.W.nsIn K mainGlobals "MOST_DEEP_doubters" = some (some (.int (4) t_MOST_DEEP_doubters)))
    {t_HOW_MANY_REGISTERS : Tok} (i_HOW_MANY_REGISTERS : PySem.W.nsIn K mainGlobals "HOW_MANY_REGISTERS" = some (some (.int (4) t_HOW_MANY_REGISTERS)))
    {t_LONGEST_NAME : Tok} (i_LONGEST_NAME : PySem.W.nsIn K mainGlobals "LONGEST_NAME" = some (some (.int (8) t_LONGEST_NAME)))
    {t_MOST_DEEDS : Tok} (i_MOST_DEEDS : PySem.W.nsIn K mainGlobals "MOST_DEEDS" = some (some (.int (20) t_MOST_DEEDS)))
    {t_WIDEST : Tok} (i_WIDEST : PySem.W.nsIn K mainGlobals "WIDEST" = some (some (.int (500) t_WIDEST)))
    {t_LETTERS : Tok} (i_LETTERS : PySem.W.nsIn K mainGlobals "LETTERS" = some (some (.str "abcdefghijklmnopqrstuvwxyz" t_LETTERS)))
    (z_len : PySem.W.nsIn K mainGlobals "len" = some none)
    (z_sum : PySem.W.nsIn K mainGlobals "sum" = some none)
    (z_max : PySem.W.nsIn K mainGlobals "max" = some none)
    (z_min : PySem.W.nsIn K mainGlobals "min" = some none)
    (z_abs : PySem.W.nsIn K mainGlobals "abs" = some none)
    (z_int : PySem.W.nsIn K mainGlobals "int" = some none)
    (z_tuple : PySem.W.nsIn K mainGlobals "tuple" = some none)
    (z_range : PySem.W.nsIn K mainGlobals "range" = some none)
    (z_sorted : PySem.W.nsIn K mainGlobals "sorted" = some none)
    (z_zip : PySem.W.nsIn K mainGlobals "zip" = some none)
    (z_isinstance : PySem.W.nsIn K mainGlobals "isinstance" = some none)
    (z_list : PySem.W.nsIn K mainGlobals "list" = some none)
    (z_all : PySem.W.nsIn K mainGlobals "all" = some none)
    (z_repr : PySem.W.nsIn K mainGlobals "repr" = some none)
    (z_str : PySem.W.nsIn K mainGlobals "str" = some none)
    (z_enumerate : PySem.W.nsIn K mainGlobals "enumerate" = some none)
    (z_bool : PySem.W.nsIn K mainGlobals "bool" = some none)
    : ∃ fd : FuncData, (∀ (s : Shared) (v : Value), BindsTo s fd ⟨[v], []⟩ [("_law_script", v)]) ∧ ∀ base : Heap, K.In base → base.Ns mainGlobals mg → FnG l.prog w K mg base 21 fa fd ["_law_script"] (spLaw K) := by
  have e := hfa.symm.trans (PySem.W.mg_of X G a_law)
  cases e
  have F_is_number := fun_mk (st := s_is_number) l_is_number c_is_number k_is_number
  have g_is_number := PySem.W.mg_of X G a_is_number
  have b_is_number := F_is_number.binds (ps := ["thing"]) fun _ _ _ _ _ _ us hl => match us, hl with | [_], _ => rfl
  have F_is_within := fun_mk (st := s_is_within) l_is_within c_is_within k_is_within
  have g_is_within := PySem.W.mg_of X G a_is_within
  have b_is_within := F_is_within.binds (ps := ["thing", "low", "high"]) fun _ _ _ _ _ _ us hl => match us, hl with | [_, _, _], _ => rfl
  have F_fits := fun_mk (st := s_fits) l_fits c_fits k_fits
  have g_fits := PySem.W.mg_of X G a_fits
  have b_fits := F_fits.binds (ps := ["kind", "thing", "many"]) fun _ _ _ _ _ _ us hl => match us, hl with | [_, _, _], _ => rfl
  have F_first_word := fun_mk (st := s_first_word) l_first_word c_first_word k_first_word
  have g_first_word := PySem.W.mg_of X G a_first_word
  have b_first_word := F_first_word.binds (ps := ["thing"]) fun _ _ _ _ _ _ us hl => match us, hl with | [_], _ => rfl
  have F_fits_shape := fun_mk (st := s_fits_shape) l_fits_shape c_fits_shape k_fits_shape
  have g_fits_shape := PySem.W.mg_of X G a_fits_shape
  have b_fits_shape := F_fits_shape.binds (ps := ["thing", "shape", "many"]) fun _ _ _ _ _ _ us hl => match us, hl with | [_, _, _], _ => rfl
  have F_has_shape := fun_mk (st := s_has_shape) l_has_shape c_has_shape k_has_shape
  have g_has_shape := PySem.W.mg_of X G a_has_shape
  have b_has_shape := F_has_shape.binds (ps := ["thing", "many"]) fun _ _ _ _ _ _ us hl => match us, hl with | [_, _], _ => rfl
  have F_is_registers := fun_mk (st := s_is_registers) l_is_registers c_is_registers k_is_registers
  have g_is_registers := PySem.W.mg_of X G a_is_registers
  have b_is_registers := F_is_registers.binds (ps := ["thing"]) fun _ _ _ _ _ _ us hl => match us, hl with | [_], _ => rfl
  have F_parts := fun_mk (st := s_parts) l_parts c_parts k_parts
  have g_parts := PySem.W.mg_of X G a_parts
  have b_parts := F_parts.binds (ps := ["expression"]) fun _ _ _ _ _ _ us hl => match us, hl with | [_], _ => rfl
  have F_count_parts := fun_mk (st := s_count_parts) l_count_parts c_count_parts k_count_parts
  have g_count_parts := PySem.W.mg_of X G a_count_parts
  have b_count_parts := F_count_parts.binds (ps := ["thing", "many", "deep"]) fun _ _ _ _ _ _ us hl => match us, hl with | [_, _, _], _ => rfl
  have F_is_expression := fun_mk (st := s_is_expression) l_is_expression c_is_expression k_is_expression
  have g_is_expression := PySem.W.mg_of X G a_is_expression
  have b_is_expression := F_is_expression.binds (ps := ["thing", "many"]) fun _ _ _ _ _ _ us hl => match us, hl with | [_, _], _ => rfl
  have F_join_spans := fun_mk (st := s_join_spans) l_join_spans c_join_spans k_join_spans
  have g_join_spans := PySem.W.mg_of X G a_join_spans
  have b_join_spans := F_join_spans.binds (ps := ["word", "first", "second"]) fun _ _ _ _ _ _ us hl => match us, hl with | [_, _, _], _ => rfl
  have F_span := fun_mk (st := s_span) l_span c_span k_span
  have g_span := PySem.W.mg_of X G a_span
  have b_span := F_span.binds (ps := ["expression"]) fun _ _ _ _ _ _ us hl => match us, hl with | [_], _ => rfl
  have F_is_name := fun_mk (st := s_is_name) l_is_name c_is_name k_is_name
  have g_is_name := PySem.W.mg_of X G a_is_name
  have b_is_name := F_is_name.binds (ps := ["thing"]) fun _ _ _ _ _ _ us hl => match us, hl with | [_], _ => rfl
  have F_power := fun_mk (st := s_power) l_power c_power k_power
  have g_power := PySem.W.mg_of X G a_power
  have b_power := F_power.binds (ps := ["scale"]) fun _ _ _ _ _ _ us hl => match us, hl with | [_], _ => rfl
  have F_count_deed := fun_mk (st := s_count_deed) l_count_deed c_count_deed k_count_deed
  have g_count_deed := PySem.W.mg_of X G a_count_deed
  have b_count_deed := F_count_deed.binds (ps := ["thing", "many", "deep"]) fun _ _ _ _ _ _ us hl => match us, hl with | [_, _, _], _ => rfl
  have F_count_deeds := fun_mk (st := s_count_deeds) l_count_deeds c_count_deeds k_count_deeds
  have g_count_deeds := PySem.W.mg_of X G a_count_deeds
  have b_count_deeds := F_count_deeds.binds (ps := ["thing", "many", "deep"]) fun _ _ _ _ _ _ us hl => match us, hl with | [_, _, _], _ => rfl
  have F_is_stake := fun_mk (st := s_is_stake) l_is_stake c_is_stake k_is_stake
  have g_is_stake := PySem.W.mg_of X G a_is_stake
  have b_is_stake := F_is_stake.binds (ps := ["thing", "scale", "many"]) fun _ _ _ _ _ _ us hl => match us, hl with | [_, _, _], _ => rfl
  have F_are_stakes := fun_mk (st := s_are_stakes) l_are_stakes c_are_stakes k_are_stakes
  have g_are_stakes := PySem.W.mg_of X G a_are_stakes
  have b_are_stakes := F_are_stakes.binds (ps := ["thing", "scale", "many"]) fun _ _ _ _ _ _ us hl => match us, hl with | [_, _, _], _ => rfl
  have F_are_behinds := fun_mk (st := s_are_behinds) l_are_behinds c_are_behinds k_are_behinds
  have g_are_behinds := PySem.W.mg_of X G a_are_behinds
  have b_are_behinds := F_are_behinds.binds (ps := ["thing", "many"]) fun _ _ _ _ _ _ us hl => match us, hl with | [_, _], _ => rfl
  have F_is_doubter := fun_mk (st := s_is_doubter) l_is_doubter c_is_doubter k_is_doubter
  have g_is_doubter := PySem.W.mg_of X G a_is_doubter
  have b_is_doubter := F_is_doubter.binds (ps := ["thing", "many"]) fun _ _ _ _ _ _ us hl => match us, hl with | [_, _], _ => rfl
  have F_L_hand := fun_mk (st := s_L_hand) l_L_hand c_L_hand k_L_hand
  have g_L_hand := PySem.W.mg_of X G a_L_hand
  have b_L_hand := F_L_hand.binds (ps := ["_law_script", "_law_k"]) fun _ _ _ _ _ _ us hl => match us, hl with | [_, _], _ => rfl
  have F_L_take := fun_mk (st := s_L_take) l_L_take c_L_take k_L_take
  have g_L_take := PySem.W.mg_of X G a_L_take
  have b_L_take := F_L_take.binds (ps := ["_law_hand_here", "_law_wide"]) fun _ _ _ _ _ _ us hl => match us, hl with | [_, _], _ => rfl
  have F_L_of := fun_mk (st := s_L_of) l_L_of c_L_of k_L_of
  have g_L_of := PySem.W.mg_of X G a_L_of
  have b_L_of := F_L_of.binds (ps := ["_law_hand_here", "_law_some"]) fun _ _ _ _ _ _ us hl => match us, hl with | [_, _], _ => rfl
  have F_L_figure := fun_mk (st := s_L_figure) l_L_figure c_L_figure k_L_figure
  have g_L_figure := PySem.W.mg_of X G a_L_figure
  have b_L_figure := F_L_figure.binds (ps := ["_law_hand_here"]) fun _ _ _ _ _ _ us hl => match us, hl with | [_], _ => rfl
  have F_L_registers := fun_mk (st := s_L_registers) l_L_registers c_L_registers k_L_registers
  have g_L_registers := PySem.W.mg_of X G a_L_registers
  have b_L_registers := F_L_registers.binds (ps := ["_law_hand_here"]) fun _ _ _ _ _ _ us hl => match us, hl with | [_], _ => rfl
  have F_L_leaf := fun_mk (st := s_L_leaf) l_L_leaf c_L_leaf k_L_leaf
  have g_L_leaf := PySem.W.mg_of X G a_L_leaf
  have b_L_leaf := F_L_leaf.binds (ps := ["_law_hand_here", "_law_wide"]) fun _ _ _ _ _ _ us hl => match us, hl with | [_, _], _ => rfl
  have F_L_expression := fun_mk (st := s_L_expression) l_L_expression c_L_expression k_L_expression
  have g_L_expression := PySem.W.mg_of X G a_L_expression
  have b_L_expression := F_L_expression.binds (ps := ["_law_hand_here", "_law_wide", "_law_level", "_law_jumps"]) fun _ _ _ _ _ _ us hl => match us, hl with | [_, _, _, _], _ => rfl
  have F_L_stake := fun_mk (st := s_L_stake) l_L_stake c_L_stake k_L_stake
  have g_L_stake := PySem.W.mg_of X G a_L_stake
  have b_L_stake := F_L_stake.binds (ps := ["_law_hand_here", "_law_wide", "_law_level", "_law_jumps"]) fun _ _ _ _ _ _ us hl => match us, hl with | [_, _, _, _], _ => rfl
  have F_L_deeds := fun_mk (st := s_L_deeds) l_L_deeds c_L_deeds k_L_deeds
  have g_L_deeds := PySem.W.mg_of X G a_L_deeds
  have b_L_deeds := F_L_deeds.binds (ps := ["_law_hand_here", "_law_wide", "_law_deep"]) fun _ _ _ _ _ _ us hl => match us, hl with | [_, _, _], _ => rfl
  have F_L_doubter := fun_mk (st := s_L_doubter) l_L_doubter c_L_doubter k_L_doubter
  have g_L_doubter := PySem.W.mg_of X G a_L_doubter
  have b_L_doubter := F_L_doubter.binds (ps := ["_law_hand_here", "_law_wide", "_law_level", "_law_jumps"]) fun _ _ _ _ _ _ us hl => match us, hl with | [_, _, _, _], _ => rfl
  have F_L_put := fun_mk (st := s_L_put) l_L_put c_L_put k_L_put
  have g_L_put := PySem.W.mg_of X G a_L_put
  have b_L_put := F_L_put.binds (ps := ["_law_sceptic", "_law_at", "_law_lump"]) fun _ _ _ _ _ _ us hl => match us, hl with | [_, _, _], _ => rfl
  have F_L_part := fun_mk (st := s_L_part) l_L_part c_L_part k_L_part
  have g_L_part := PySem.W.mg_of X G a_L_part
  have b_L_part := F_L_part.binds (ps := ["_law_row", "_law_at", "_law_lump"]) fun _ _ _ _ _ _ us hl => match us, hl with | [_, _, _], _ => rfl
  have F_L_piled := fun_mk (st := s_L_piled) l_L_piled c_L_piled k_L_piled
  have g_L_piled := PySem.W.mg_of X G a_L_piled
  have b_L_piled := F_L_piled.binds (ps := ["_law_phrase", "_law_wide"]) fun _ _ _ _ _ _ us hl => match us, hl with | [_, _], _ => rfl
  have F_L_stakes_cases := fun_mk (st := s_L_stakes_cases) l_L_stakes_cases c_L_stakes_cases k_L_stakes_cases
  have g_L_stakes_cases := PySem.W.mg_of X G a_L_stakes_cases
  have b_L_stakes_cases := F_L_stakes_cases.binds (ps := ["_law_scale"]) fun _ _ _ _ _ _ us hl => match us, hl with | [_], _ => rfl
  have F_L_expressions := fun_mk (st := s_L_expressions) l_L_expressions c_L_expressions k_L_expressions
  have g_L_expressions := PySem.W.mg_of X G a_L_expressions
  have b_L_expressions := F_L_expressions.binds (ps := ["_law_hand_here", "_law_wide"]) fun _ _ _ _ _ _ us hl => match us, hl with | [_, _], _ => rfl
  have F_L_deeds_cases := fun_mk (st := s_L_deeds_cases) l_L_deeds_cases c_L_deeds_cases k_L_deeds_cases
  have g_L_deeds_cases := PySem.W.mg_of X G a_L_deeds_cases
  have b_L_deeds_cases := F_L_deeds_cases.binds (ps := ["_law_hand_here", "_law_wide"]) fun _ _ _ _ _ _ us hl => match us, hl with | [_, _], _ => rfl
  have F_L_all_cases := fun_mk (st := s_L_all_cases) l_L_all_cases c_L_all_cases k_L_all_cases
  have g_L_all_cases := PySem.W.mg_of X G a_L_all_cases
  have b_L_all_cases := F_L_all_cases.binds (ps := ["_law_hand_here", "_law_good", "_law_wide"]) fun _ _ _ _ _ _ us hl => match us, hl with | [_, _, _], _ => rfl
  have F_law := fun_mk (st := s_law) l_law c_law k_law
  have g_law := PySem.W.mg_of X G a_law
  have B : Bl mg := ⟨PySem.W.mg_none_of X G z_len, PySem.W.mg_none_of X G z_sum, PySem.W.mg_none_of X G z_max, PySem.W.mg_none_of X G z_min, PySem.W.mg_none_of X G z_abs, PySem.W.mg_none_of X G z_int, PySem.W.mg_none_of X G z_tuple, PySem.W.mg_none_of X G z_range, PySem.W.mg_none_of X G z_sorted, PySem.W.mg_none_of X G z_zip, PySem.W.mg_none_of X G z_isinstance, PySem.W.mg_none_of X G z_list, PySem.W.mg_none_of X G z_all, PySem.W.mg_none_of X G z_repr, PySem.W.mg_none_of X G z_str, PySem.W.mg_none_of X G z_enumerate⟩
  have n_bool := PySem.W.mg_none_of X G z_bool
  have mg_GREATEST_SCALE := PySem.W.mg_of X G i_GREATEST_SCALE
  have mg_MOST_PARTS := PySem.W.mg_of X G i_MOST_PARTS
  have mg_MOST_DEEP_expressions := PySem.W.mg_of X G i_MOST_DEEP_expressions
  have mg_MOST_DEEP_doubters := PySem.W.mg_of X G i_MOST_DEEP_doubters
  have mg_HOW_MANY_REGISTERS := PySem.W.mg_of X G i_HOW_MANY_REGISTERS
  have mg_LONGEST_NAME := PySem.W.mg_of X G i_LONGEST_NAME
  have mg_MOST_DEEDS := PySem.W.mg_of X G i_MOST_DEEDS
  have mg_WIDEST := PySem.W.mg_of X G i_WIDEST
  have mg_LETTERS := PySem.W.mg_of X G i_LETTERS
  have mg_DEEDS := PySem.W.mg_of X G a_DEEDS
  have hB : TabB K w d_DEEDS := by
    have mk : ∀ (x : Str) (q : Addr) (od : Option Addr) (its : Array Value) (m : Nat) (sl : Array (Option Value)) (ks : List Kd), ks.length ≤ 4 → PySem.W.nsIn K d_DEEDS x = some (some (.ref q)) → K.lookup q = some ⟨.type "tuple", od, .seq its m, sl⟩ → Vals (ks.map fun k => V.str (kdn k)) its.toList → ∃ q, KDct K w d_DEEDS x (.ref q) ∧ ∀ H, SqT K H q (ks.map fun k => V.str (kdn k)) := fun x q od its m sl ks hk h1 h2 h3 => ⟨q, ⟨es_DEEDS, n_DEEDS, _, l_DEEDS, k_DEEDS, h1, rfl⟩, fun H => .inr ⟨_, its, m, h2, rfl, rfl, by
      have h := h3.length
      have e2 : its.toList.length = its.size := Array.length_toList
      have e3 : (ks.map fun k => V.str (kdn k)).length = ks.length := List.length_map _
      exact Nat.le_of_lt (small1000 (by omega)), h3⟩⟩
    refine ⟨w_DEEDS, fun e => ?_⟩
    cases e with
    | when => exact mk _ _ _ _ _ _ [.place, .figure, .part, .part] (by decide) n_DEEDS_when t_DEEDS_when v_DEEDS_when
    | op o =>
      cases o with
      | put => exact mk _ _ _ _ _ _ [.place, .figure] (by decide) n_DEEDS_put t_DEEDS_put v_DEEDS_put
      | add => exact mk _ _ _ _ _ _ [.place, .figure] (by decide) n_DEEDS_add t_DEEDS_add v_DEEDS_add
      | copy => exact mk _ _ _ _ _ _ [.place, .place] (by decide) n_DEEDS_copy t_DEEDS_copy v_DEEDS_copy
      | plus => exact mk _ _ _ _ _ _ [.place, .place] (by decide) n_DEEDS_plus t_DEEDS_plus v_DEEDS_plus
      | told => exact mk _ _ _ _ _ _ [.place, .sign] (by decide) n_DEEDS_told t_DEEDS_told v_DEEDS_told
  have mg_BOUNDS := PySem.W.mg_of X G a_BOUNDS
  have hN : TabN K w d_BOUNDS := by
    have mk : ∀ (x : Str) (q : Addr) (od : Option Addr) (its : Array Value) (m : Nat) (sl : Array (Option Value)) (lo hi : Int), PySem.W.nsIn K d_BOUNDS x = some (some (.ref q)) → K.lookup q = some ⟨.type "tuple", od, .seq its m, sl⟩ → Vals [.int lo, .int hi] its.toList → ∃ q, KDct K w d_BOUNDS x (.ref q) ∧ ∀ H, SqT K H q [.int lo, .int hi] := fun x q od its m sl lo hi h1 h2 h3 => ⟨q, ⟨es_BOUNDS, n_BOUNDS, _, l_BOUNDS, k_BOUNDS, h1, rfl⟩, fun H => .inr ⟨_, its, m, h2, rfl, rfl, by
      have h := h3.length
      have e2 : its.toList.length = its.size := Array.length_toList
      simp only [List.length_cons, List.length_nil] at h
      exact Nat.le_of_lt (small1000 (by omega)), h3⟩⟩
    intro k h1 h2
    cases k with
    | part => exact absurd rfl h1
    | sign => exact absurd rfl h2
    | figure => exact mk _ _ _ _ _ _ _ _ n_BOUNDS_figure t_BOUNDS_figure v_BOUNDS_figure
    | place => exact mk _ _ _ _ _ _ _ _ n_BOUNDS_place t_BOUNDS_place v_BOUNDS_place
    | factor => exact mk _ _ _ _ _ _ _ _ n_BOUNDS_factor t_BOUNDS_factor v_BOUNDS_factor
    | line => exact mk _ _ _ _ _ _ _ _ n_BOUNDS_line t_BOUNDS_line v_BOUNDS_line
  have mg_SHAPES := PySem.W.mg_of X G a_S
  have hSh : Shapes K w d_S := by
    have mk : ∀ (x : Str) (q : Addr) (od : Option Addr) (its : Array Value) (m : Nat) (sl : Array (Option Value)) (ks : List Str), ks.length ≤ 4 → PySem.W.nsIn K d_S x = some (some (.ref q)) → K.lookup q = some ⟨.type "tuple", od, .seq its m, sl⟩ → Vals (ks.map V.str) its.toList → ∃ q, KDct K w d_S x (.ref q) ∧ ∀ H, SqT K H q (ks.map V.str) := fun x q od its m sl ks hk h1 h2 h3 => ⟨q, ⟨es_S, n_S, _, l_S, k_S, h1, rfl⟩, fun H => .inr ⟨_, its, m, h2, rfl, rfl, by
      have h := h3.length
      have e2 : its.toList.length = its.size := Array.length_toList
      have e3 : (ks.map V.str).length = ks.length := List.length_map _
      exact Nat.le_of_lt (small1000 (by omega)), h3⟩⟩
    intro e
    cases e with
    | fig _ => exact mk _ _ _ _ _ _ ["figure"] (by decide) n_fig t_fig v_fig
    | reg _ => exact mk _ _ _ _ _ _ ["place"] (by decide) n_reg t_reg v_reg
    | share _ => exact mk _ _ _ _ _ _ ["sign"] (by decide) n_share t_share v_share
    | times _ _ => exact mk _ _ _ _ _ _ ["factor", "part"] (by decide) n_times t_times v_times
    | «by» _ _ => exact mk _ _ _ _ _ _ ["place", "part"] (by decide) n_by t_by v_by
    | when _ _ _ _ => exact mk _ _ _ _ _ _ ["place", "figure", "part", "part"] (by decide) n_when t_when v_when
    | whr _ _ _ _ => exact mk _ _ _ _ _ _ ["sign", "line", "part", "part"] (by decide) n_where t_where v_where
    | two o _ _ =>
      cases o with
      | sum => exact mk _ _ _ _ _ _ ["part", "part"] (by decide) n_sum t_sum v_sum
      | less => exact mk _ _ _ _ _ _ ["part", "part"] (by decide) n_less t_less v_less
      | least => exact mk _ _ _ _ _ _ ["part", "part"] (by decide) n_least t_least v_least
      | most => exact mk _ _ _ _ _ _ ["part", "part"] (by decide) n_most t_most v_most
  have hE : TabE K w d_S := TabE.of hSh w_S
  refine ⟨PySem.W.fnOf "law" "law" (defArgs s_law) (defBody s_law) (defScope s_law) .none kV_law dc_law pm_law an_law cd_law ct_law, fun s v => .of_eq rfl, fun base _ _ => ?_⟩
  have c_hand := ok_hand (P := l.prog) (w := w) (base := base) F_L_hand g_L_hand b_L_hand B
  have c_take := ok_take (P := l.prog) (w := w) (base := base) F_L_take g_L_take b_L_take
  have c_of := ok_of F_L_of g_L_of b_L_of B c_take
  have c_ofS := ok_ofS F_L_of g_L_of b_L_of B c_take
  have c_figure := ok_figure F_L_figure g_L_figure b_L_figure B c_take c_of
  have c_regs := ok_regs F_L_registers g_L_registers b_L_registers B c_figure
  have c_leaf := ok_leaf F_L_leaf g_L_leaf b_L_leaf B c_take c_figure
  have c_expr := ok_expr F_L_expression g_L_expression b_L_expression B c_take c_of c_figure c_leaf 2
  have c_Lstake := ok_stake F_L_stake g_L_stake b_L_stake B c_take c_of (m := 2) c_expr
  have c_Ldeeds := ok_deeds F_L_deeds g_L_deeds b_L_deeds B c_take c_of c_figure 2
  have c_Ldoubter := ok_doubter F_L_doubter g_L_doubter b_L_doubter B c_take c_of c_regs (m := 2) c_Lstake c_Ldeeds
  have c_put := ok_put (P := l.prog) (w := w) (base := base) F_L_put g_L_put b_L_put B
  have c_part := ok_part (P := l.prog) (w := w) (base := base) F_L_part g_L_part b_L_part B
  have c_piled := ok_piled (P := l.prog) (w := w) (base := base) F_L_piled g_L_piled b_L_piled B 6
  have c_stc := ok_stcases (P := l.prog) (w := w) (base := base) F_L_stakes_cases g_L_stakes_cases b_L_stakes_cases B
  have c_exprc := ok_exprc F_L_expressions g_L_expressions b_L_expressions B c_of c_piled c_part
  have c_deedc := ok_deedc F_L_deeds_cases g_L_deeds_cases b_L_deeds_cases B c_take c_of
  have c_allc := ok_allc F_L_all_cases g_L_all_cases b_L_all_cases B c_take c_ofS c_put c_part c_stc c_exprc c_deedc
  have c_isnum := ok_isnum (P := l.prog) (w := w) (base := base) F_is_number g_is_number b_is_number B n_bool
  have c_within := ok_iswithin F_is_within g_is_within b_is_within c_isnum
  have c_fits := ok_fits F_fits g_fits b_fits mg_BOUNDS hN c_within
  have c_first := ok_firstword (P := l.prog) (w := w) (base := base) F_first_word g_first_word b_first_word B
  have c_fitssh := ok_fitsshape F_fits_shape g_fits_shape b_fits_shape B c_fits
  have c_hassh := ok_hasshape F_has_shape g_has_shape b_has_shape mg_SHAPES hE c_first c_fitssh
  have c_isregs := ok_isregs F_is_registers g_is_registers b_is_registers B mg_BOUNDS hN mg_HOW_MANY_REGISTERS c_within
  have c_parts := ok_parts (P := l.prog) (w := w) (base := base) F_parts g_parts b_parts B mg_SHAPES hSh
  have c_partsD := ok_partsD (P := l.prog) (w := w) (base := base) F_parts g_parts b_parts B mg_SHAPES hE
  have c_cntE := ok_cntE F_count_parts g_count_parts b_count_parts c_hassh c_partsD 9
  have c_isex := ok_isex F_is_expression g_is_expression b_is_expression mg_MOST_DEEP_expressions mg_MOST_PARTS c_cntE
  have c_isname := ok_isname (P := l.prog) (w := w) (base := base) F_is_name g_is_name b_is_name B mg_LONGEST_NAME mg_LETTERS
  have c_deeds := ok_deeds' F_count_deeds g_count_deeds b_count_deeds B F_count_deed g_count_deed b_count_deed mg_DEEDS hB mg_MOST_DEEDS c_first c_fitssh 5
  have c_pow := ok_pow2 (P := l.prog) (w := w) (base := base) F_power g_power b_power B
  have c_joinS := ok_joinS (P := l.prog) (w := w) (base := base) F_join_spans g_join_spans b_join_spans B
  have c_span := ok_span F_span g_span b_span B c_parts c_joinS 8
  have c_isstake := ok_isstake F_is_stake g_is_stake b_is_stake mg_WIDEST c_pow c_isex (n := 8) (by decide) (by decide) c_span
  have c_arest := ok_arestakes F_are_stakes g_are_stakes b_are_stakes B c_isstake
  have c_arebh := ok_arebehinds (lv := 0) F_are_behinds g_are_behinds b_are_behinds B mg_MOST_DEEP_doubters c_deeds
  have c_isdb := ok_isdb F_is_doubter g_is_doubter b_is_doubter B mg_GREATEST_SCALE c_isname c_within c_isregs c_arest c_arebh
  exact ok_law F_law B c_hand c_take (lw := 20) (by decide) c_Ldoubter c_allc c_isdb
end NG

open PySem PySem.W PyProof.Rows
set_option maxHeartbeats 0 in
theorem PySem.Challenge.cw_nonegrowsrich_k20_doubters_at_their_boun_holds : PySem.Challenge.rw_nonegrowsrich_k20_doubters_at_their_boun.Holds := by
  w_on; o_law; k_head; (case hw => w_witness2)
  k_fill
  refine NG.walkG (l := PySem.Challenge.rw_nonegrowsrich_k20_doubters_at_their_boun) (n := 63) (k := 21) (x := "_law_script") (sp := fun w => NG.spLaw _) rfl (by decide) rfl ⟨rfl, by decide, by decide⟩ (fun w h Y => PySem.W.kIn_of Y) ?F (fun _ _ a ns hl _ hS => ⟨a, ns, rfl, hS, hl, fun _ => rfl⟩) 
  case F =>
    intro w mg fa h KX G hmg
    refine' NG.all_mk KX G hmg ?a_is_number ?l_is_number ?c_is_number ?k_is_number ?a_is_within ?l_is_within ?c_is_within ?k_is_within ?a_fits ?l_fits ?c_fits ?k_fits ?a_first_word ?l_first_word ?c_first_word ?k_first_word ?a_fits_shape ?l_fits_shape ?c_fits_shape ?k_fits_shape ?a_has_shape ?l_has_shape ?c_has_shape ?k_has_shape ?a_is_registers ?l_is_registers ?c_is_registers ?k_is_registers ?a_parts ?l_parts ?c_parts ?k_parts ?a_count_parts ?l_count_parts ?c_count_parts ?k_count_parts ?a_is_expression ?l_is_expression ?c_is_expression ?k_is_expression ?a_join_spans ?l_join_spans ?c_join_spans ?k_join_spans ?a_span ?l_span ?c_span ?k_span ?a_is_name ?l_is_name ?c_is_name ?k_is_name ?a_power ?l_power ?c_power ?k_power ?a_count_deed ?l_count_deed ?c_count_deed ?k_count_deed ?a_count_deeds ?l_count_deeds ?c_count_deeds ?k_count_deeds ?a_is_stake ?l_is_stake ?c_is_stake ?k_is_stake ?a_are_stakes ?l_are_stakes ?c_are_stakes ?k_are_stakes ?a_are_behinds ?l_are_behinds ?c_are_behinds ?k_are_behinds ?a_is_doubter ?l_is_doubter ?c_is_doubter ?k_is_doubter ?a_L_hand ?l_L_hand ?c_L_hand ?k_L_hand ?a_L_take ?l_L_take ?c_L_take ?k_L_take ?a_L_of ?l_L_of ?c_L_of ?k_L_of ?a_L_figure ?l_L_figure ?c_L_figure ?k_L_figure ?a_L_registers ?l_L_registers ?c_L_registers ?k_L_registers ?a_L_leaf ?l_L_leaf ?c_L_leaf ?k_L_leaf ?a_L_expression ?l_L_expression ?c_L_expression ?k_L_expression ?a_L_stake ?l_L_stake ?c_L_stake ?k_L_stake ?a_L_deeds ?l_L_deeds ?c_L_deeds ?k_L_deeds ?a_L_doubter ?l_L_doubter ?c_L_doubter ?k_L_doubter ?a_L_put ?l_L_put ?c_L_put ?k_L_put ?a_L_part ?l_L_part ?c_L_part ?k_L_part ?a_L_piled ?l_L_piled ?c_L_piled ?k_L_piled ?a_L_stakes_cases ?l_L_stakes_cases ?c_L_stakes_cases ?k_L_stakes_cases ?a_L_expressions ?l_L_expressions ?c_L_expressions ?k_L_expressions ?a_L_deeds_cases ?l_L_deeds_cases ?c_L_deeds_cases ?k_L_deeds_cases ?a_L_all_cases ?l_L_all_cases ?c_L_all_cases ?k_L_all_cases ?a_law ?l_law ?c_law ?k_law ?a_S ?l_S ?k_S ?w_S ?n_fig ?t_fig ?v_fig ?n_reg ?t_reg ?v_reg ?n_share ?t_share ?v_share ?n_sum ?t_sum ?v_sum ?n_less ?t_less ?v_less ?n_times ?t_times ?v_times ?n_by ?t_by ?v_by ?n_least ?t_least ?v_least ?n_most ?t_most ?v_most ?n_when ?t_when ?v_when ?n_where ?t_where ?v_where ?a_DEEDS ?l_DEEDS ?k_DEEDS ?w_DEEDS ?n_DEEDS_put ?t_DEEDS_put ?v_DEEDS_put ?n_DEEDS_add ?t_DEEDS_add ?v_DEEDS_add ?n_DEEDS_copy ?t_DEEDS_copy ?v_DEEDS_copy ?n_DEEDS_plus ?t_DEEDS_plus ?v_DEEDS_plus ?n_DEEDS_told ?t_DEEDS_told ?v_DEEDS_told ?n_DEEDS_when ?t_DEEDS_when ?v_DEEDS_when ?a_BOUNDS ?l_BOUNDS ?k_BOUNDS ?w_BOUNDS ?n_BOUNDS_figure ?t_BOUNDS_figure ?v_BOUNDS_figure ?n_BOUNDS_place ?t_BOUNDS_place ?v_BOUNDS_place ?n_BOUNDS_factor ?t_BOUNDS_factor ?v_BOUNDS_factor ?n_BOUNDS_line ?t_BOUNDS_line ?v_BOUNDS_line ?i_GREATEST_SCALE ?i_MOST_PARTS ?i_MOST_DEEP_expressions ?i_MOST_DEEP_doubters ?i_HOW_MANY_REGISTERS ?i_LONGEST_NAME ?i_MOST_DEEDS ?i_WIDEST ?i_LETTERS ?z_len ?z_sum ?z_max ?z_min ?z_abs ?z_int ?z_tuple ?z_range ?z_sorted ?z_zip ?z_isinstance ?z_list ?z_all ?z_repr ?z_str ?z_enumerate ?z_bool
    (case a_is_number => k_is); (case l_is_number => k_is); (case c_is_number => k_is); (case k_is_number => k_is); (case a_is_within => k_is); (case l_is_within => k_is); (case c_is_within => k_is); (case k_is_within => k_is); (case a_fits => k_is); (case l_fits => k_is); (case c_fits => k_is); (case k_fits => k_is); (case a_first_word => k_is); (case l_first_word => k_is); (case c_first_word => k_is); (case k_first_word => k_is); (case a_fits_shape => k_is); (case l_fits_shape => k_is); (case c_fits_shape => k_is); (case k_fits_shape => k_is); (case a_has_shape => k_is); (case l_has_shape => k_is); (case c_has_shape => k_is); (case k_has_shape => k_is); (case a_is_registers => k_is); (case l_is_registers => k_is); (case c_is_registers => k_is); (case k_is_registers => k_is); (case a_parts => k_is); (case l_parts => k_is); (case c_parts => k_is); (case k_parts => k_is); (case a_count_parts => k_is); (case l_count_parts => k_is); (case c_count_parts => k_is); (case k_count_parts => k_is); (case a_is_expression => k_is); (case l_is_expression => k_is); (case c_is_expression => k_is); (case k_is_expression => k_is); (case a_join_spans => k_is); (case l_join_spans => k_is); (case c_join_spans => k_is); (case k_join_spans => k_is); (case a_span => k_is); (case l_span => k_is); (case c_span => k_is); (case k_span => k_is); (case a_is_name => k_is); (case l_is_name => k_is); (case c_is_name => k_is); (case k_is_name => k_is); (case a_power => k_is); (case l_power => k_is); (case c_power => k_is); (case k_power => k_is); (case a_count_deed => k_is); (case l_count_deed => k_is); (case c_count_deed => k_is); (case k_count_deed => k_is); (case a_count_deeds => k_is); (case l_count_deeds => k_is); (case c_count_deeds => k_is); (case k_count_deeds => k_is); (case a_is_stake => k_is); (case l_is_stake => k_is); (case c_is_stake => k_is); (case k_is_stake => k_is); (case a_are_stakes => k_is); (case l_are_stakes => k_is); (case c_are_stakes => k_is); (case k_are_stakes => k_is); (case a_are_behinds => k_is); (case l_are_behinds => k_is); (case c_are_behinds => k_is); (case k_are_behinds => k_is); (case a_is_doubter => k_is); (case l_is_doubter => k_is); (case c_is_doubter => k_is); (case k_is_doubter => k_is); (case a_L_hand => k_is); (case l_L_hand => k_is); (case c_L_hand => k_is); (case k_L_hand => k_is); (case a_L_take => k_is); (case l_L_take => k_is); (case c_L_take => k_is); (case k_L_take => k_is); (case a_L_of => k_is); (case l_L_of => k_is); (case c_L_of => k_is); (case k_L_of => k_is); (case a_L_figure => k_is); (case l_L_figure => k_is); (case c_L_figure => k_is); (case k_L_figure => k_is); (case a_L_registers => k_is); (case l_L_registers => k_is); (case c_L_registers => k_is); (case k_L_registers => k_is); (case a_L_leaf => k_is); (case l_L_leaf => k_is); (case c_L_leaf => k_is); (case k_L_leaf => k_is); (case a_L_expression => k_is); (case l_L_expression => k_is); (case c_L_expression => k_is); (case k_L_expression => k_is); (case a_L_stake => k_is); (case l_L_stake => k_is); (case c_L_stake => k_is); (case k_L_stake => k_is); (case a_L_deeds => k_is); (case l_L_deeds => k_is); (case c_L_deeds => k_is); (case k_L_deeds => k_is); (case a_L_doubter => k_is); (case l_L_doubter => k_is); (case c_L_doubter => k_is); (case k_L_doubter => k_is); (case a_L_put => k_is); (case l_L_put => k_is); (case c_L_put => k_is); (case k_L_put => k_is); (case a_L_part => k_is); (case l_L_part => k_is); (case c_L_part => k_is); (case k_L_part => k_is); (case a_L_piled => k_is); (case l_L_piled => k_is); (case c_L_piled => k_is); (case k_L_piled => k_is); (case a_L_stakes_cases => k_is); (case l_L_stakes_cases => k_is); (case c_L_stakes_cases => k_is); (case k_L_stakes_cases => k_is); (case a_L_expressions => k_is); (case l_L_expressions => k_is); (case c_L_expressions => k_is); (case k_L_expressions => k_is); (case a_L_deeds_cases => k_is); (case l_L_deeds_cases => k_is); (case c_L_deeds_cases => k_is); (case k_L_deeds_cases => k_is); (case a_L_all_cases => k_is); (case l_L_all_cases => k_is); (case c_L_all_cases => k_is); (case k_L_all_cases => k_is); (case a_law => k_is); (case l_law => k_is); (case c_law => k_is); (case k_law => k_is); (case a_S => k_is); (case l_S => k_is); (case n_fig => k_is); (case t_fig => k_is); (case n_reg => k_is); (case t_reg => k_is); (case n_share => k_is); (case t_share => k_is); (case n_sum => k_is); (case t_sum => k_is); (case n_less => k_is); (case t_less => k_is); (case n_times => k_is); (case t_times => k_is); (case n_by => k_is); (case t_by => k_is); (case n_least => k_is); (case t_least => k_is); (case n_most => k_is); (case t_most => k_is); (case n_when => k_is); (case t_when => k_is); (case n_where => k_is); (case t_where => k_is); (case a_DEEDS => k_is); (case l_DEEDS => k_is); (case n_DEEDS_put => k_is); (case t_DEEDS_put => k_is); (case n_DEEDS_add => k_is); (case t_DEEDS_add => k_is); (case n_DEEDS_copy => k_is); (case t_DEEDS_copy => k_is); (case n_DEEDS_plus => k_is); (case t_DEEDS_plus => k_is); (case n_DEEDS_told => k_is); (case t_DEEDS_told => k_is); (case n_DEEDS_when => k_is); (case t_DEEDS_when => k_is); (case a_BOUNDS => k_is); (case l_BOUNDS => k_is); (case n_BOUNDS_figure => k_is); (case t_BOUNDS_figure => k_is); (case n_BOUNDS_place => k_is); (case t_BOUNDS_place => k_is); (case n_BOUNDS_factor => k_is); (case t_BOUNDS_factor => k_is); (case n_BOUNDS_line => k_is); (case t_BOUNDS_line => k_is); (case i_GREATEST_SCALE => k_is); (case i_MOST_PARTS => k_is); (case i_MOST_DEEP_expressions => k_is); (case i_MOST_DEEP_doubters => k_is); (case i_HOW_MANY_REGISTERS => k_is); (case i_LONGEST_NAME => k_is); (case i_MOST_DEEDS => k_is); (case i_WIDEST => k_is); (case i_LETTERS => k_is); (case z_len => k_is); (case z_sum => k_is); (case z_max => k_is); (case z_min => k_is); (case z_abs => k_is); (case z_int => k_is); (case z_tuple => k_is); (case z_range => k_is); (case z_sorted => k_is); (case z_zip => k_is); (case z_isinstance => k_is); (case z_list => k_is); (case z_all => k_is); (case z_repr => k_is); (case z_str => k_is); (case z_enumerate => k_is); (case z_bool => k_is)
    (case k_S => repeat (first | exact trivial | refine ⟨⟨_, _, rfl, rfl⟩, ?_⟩))
    (case w_S => first | rfl | decide)
    (case v_fig => exact .cons ⟨_, rfl⟩ (.nil))
    (case v_reg => exact .cons ⟨_, rfl⟩ (.nil))
    (case v_share => exact .cons ⟨_, rfl⟩ (.nil))
    (case v_sum => exact .cons ⟨_, rfl⟩ (.cons ⟨_, rfl⟩ (.nil)))
    (case v_less => exact .cons ⟨_, rfl⟩ (.cons ⟨_, rfl⟩ (.nil)))
    (case v_times => exact .cons ⟨_, rfl⟩ (.cons ⟨_, rfl⟩ (.nil)))
    (case v_by => exact .cons ⟨_, rfl⟩ (.cons ⟨_, rfl⟩ (.nil)))
    (case v_least => exact .cons ⟨_, rfl⟩ (.cons ⟨_, rfl⟩ (.nil)))
    (case v_most => exact .cons ⟨_, rfl⟩ (.cons ⟨_, rfl⟩ (.nil)))
    (case v_when => exact .cons ⟨_, rfl⟩ (.cons ⟨_, rfl⟩ (.cons ⟨_, rfl⟩ (.cons ⟨_, rfl⟩ (.nil)))))
    (case v_where => exact .cons ⟨_, rfl⟩ (.cons ⟨_, rfl⟩ (.cons ⟨_, rfl⟩ (.cons ⟨_, rfl⟩ (.nil)))))
    (case k_DEEDS => repeat (first | exact trivial | refine ⟨⟨_, _, rfl, rfl⟩, ?_⟩))
    (case w_DEEDS => first | rfl | decide)
    (case v_DEEDS_put => exact .cons ⟨_, rfl⟩ (.cons ⟨_, rfl⟩ (.nil)))
    (case v_DEEDS_add => exact .cons ⟨_, rfl⟩ (.cons ⟨_, rfl⟩ (.nil)))
    (case v_DEEDS_copy => exact .cons ⟨_, rfl⟩ (.cons ⟨_, rfl⟩ (.nil)))
    (case v_DEEDS_plus => exact .cons ⟨_, rfl⟩ (.cons ⟨_, rfl⟩ (.nil)))
    (case v_DEEDS_told => exact .cons ⟨_, rfl⟩ (.cons ⟨_, rfl⟩ (.nil)))
    (case v_DEEDS_when => exact .cons ⟨_, rfl⟩ (.cons ⟨_, rfl⟩ (.cons ⟨_, rfl⟩ (.cons ⟨_, rfl⟩ (.nil)))))
    (case k_BOUNDS => repeat (first | exact trivial | refine ⟨⟨_, _, rfl, rfl⟩, ?_⟩))
    (case w_BOUNDS => first | rfl | decide)
    (case v_BOUNDS_figure => exact .cons ⟨_, rfl⟩ (.cons ⟨_, rfl⟩ (.nil)))
    (case v_BOUNDS_place => exact .cons ⟨_, rfl⟩ (.cons ⟨_, rfl⟩ (.nil)))
    (case v_BOUNDS_factor => exact .cons ⟨_, rfl⟩ (.cons ⟨_, rfl⟩ (.nil)))
    (case v_BOUNDS_line => exact .cons ⟨_, rfl⟩ (.cons ⟨_, rfl⟩ (.nil)))

