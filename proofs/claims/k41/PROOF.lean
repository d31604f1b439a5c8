import PyProof.Rows.All
import Wide.All
import OpenK.AllK
import Wide.FinOn
import HandS.Base
import HandS.Call
import HandS.List
import HandS.Comp
import HandS.Ends
import HandS.Dict
import HandS.Iter
import HandS.Text
import HandS.Words
import HandS.WordsList
import HandS.WordsDict
import HandS.Conv
import HandS.Codes
import HandS.Wide
import HandS.Style
import KE.KTupSum
import PyProof.ReprRoads
import PyProof.ReprLen
import HandS.Walk
import HandS.More
import HandS.Zip
import HandS.IsInst
import HandS.NoneIn
import KE.KRevSl
import HandS.DeepEq
import HandS.TupAny
import HandS.TupMul
import KE.GoesMore
import KE.GoesEnum
import HandS.Sort
import PyProof.FactsAll.tuple_2
import HandS.RaiseMore
import HandS.TupLe
import KE.DataMinMax
import HandS.WideBits
import HandS.Flt
import PySem.Challenge.RW_nonegrowsrich_k41_whole_weight_times_all
set_option Elab.async false
set_option linter.all false
set_option maxRecDepth 100000
set_option maxHeartbeats 4000000
namespace NG
open PySem PySem.Spec PyProof.Rows L2

/-! ### sum of a tuple -/
theorem cr_sumT {X : Cx} (hc : X.calm = true) : CallR X (.builtin "sum") (fun vs H Q => ∃ (a : Addr) (ns : List Int), vs = [V.ref a] ∧ SqT X.K H a (ns.map V.int) ∧ Q (.int ns.sum) H) := by
  intro pins s σ H vs us Q I r h
  obtain ⟨a, ns, rfl, hs, q⟩ := h
  obtain ⟨its, rv, hl, _⟩ := I.tuple hs
  rw [Vals.ref1 r]
  have hi := rv.ints
  obtain ⟨xs, e⟩ := hi.allInts.items
  have hn : numsOf (intItems xs).toList = ns := by rw [← e]; exact hi.numsOf
  rw [nums_intItems] at hn
  rw [e] at hl
  refine PySem.W.ktm_sumG (I.ok.hd hc) hl fun h' tk t' hk => ?_
  rw [preSum_eq, List.take_of_length_le (by simp), hn]
  exact ⟨.int _, H, I.kept hk, ⟨_, rfl⟩, q⟩

/-! ### rules whose reading names the written part, for a comprehension's block -/
theorem ixl {X : Cx} (K : PySem.W.Frag) (h : X.K = K := by rfl) : IxR X (rIxL K) := by
  subst h
  exact ix_list
theorem ixt {X : Cx} (K : PySem.W.Frag) (h : X.K = K := by rfl) : IxR X (rIxT K) := by
  subst h
  exact ix_tup
theorem lenK {X : Cx} (K : PySem.W.Frag) (h : X.K = K := by rfl) : CallR X (.builtin "len") (fun xs H Q => ∃ p ys, xs = [.ref p] ∧ (SqL K H p ys ∨ SqT K H p ys) ∧ Q (.int ys.length) H) := by
  subst h
  exact call_len_seq
theorem sumT {X : Cx} (K : PySem.W.Frag) (hc : X.calm = true) (h : X.K = K := by rfl) : CallR X (.builtin "sum") (fun vs H Q => ∃ (a : Addr) (ns : List Int), vs = [V.ref a] ∧ SqT K H a (ns.map V.int) ∧ Q (.int ns.sum) H) := by
  subst h
  exact cr_sumT hc
theorem sumL {X : Cx} (K : PySem.W.Frag) (hc : X.calm = true) (h : X.K = K := by rfl) : CallR X (.builtin "sum") (rSum K) := by
  subst h
  exact cr_sum hc

/-! ### short words -/
theorem iteFF {c : Bool} {A B : Prop} (hc : c = false) (h : B) : if c = true then A else B := by
  subst hc
  exact iteF h
theorem iteTT {c : Bool} {A B : Prop} (hc : c = true) (h : A) : if c = true then A else B := by
  subst hc
  exact iteT h
theorem iteD {p : Prop} [Decidable p] {A B : Prop} (h1 : p → A) (h2 : ¬ p → B) : if decide p = true then A else B := by
  by_cases h : p
  · rw [decide_eq_true h]
    exact iteT (h1 h)
  · rw [decide_eq_false h]
    exact iteF (h2 h)
theorem at_mem {xs : List V} {i : Int} (h0 : 0 ≤ i) (h1 : i < xs.length) : ∃ v, atI xs i = some v ∧ v ∈ xs := by
  have hj : i.toNat < xs.length := by omega
  refine ⟨xs[i.toNat], ?_, List.getElem_mem hj⟩
  exact at_of (j := i.toNat) (by omega) (List.getElem?_eq_getElem hj)
theorem at_int {ns : List Int} {i : Int} (h0 : 0 ≤ i) (h1 : i < ns.length) : atI (ns.map V.int) i = some (.int (ns.getD i.toNat 0)) := by
  have hj : i.toNat < ns.length := by omega
  refine at_of (j := i.toNat) (by omega) ?_
  rw [List.getElem?_map, List.getElem?_eq_getElem hj, List.getD_eq_getElem?_getD, List.getElem?_eq_getElem hj]
  rfl

/-- an expression, with a word behind it -/
def tCutE (t : TE) : TE := fun σ H Q => ∃ M : VK, t σ H M ∧ ∀ v H', M v H' → Q v H'
theorem pe_cut {X : Cx} {e : Expr} {t : TE} (h : PE X e t) : PE X e (tCutE t) :=
  ⟨fun pins s σ H Q I ⟨M, hm, hq⟩ => thn (h.run pins s σ H M I hm) fun u s1 ⟨x, H1, I1, r, q⟩ => ⟨x, H1, I1, r, hq _ _ q⟩⟩

/-! ### heaps: all but one object is as it was -/
def But (a : Addr) (H H' : Hp) : Prop := ∀ b o, b ≠ a → H b = some o → H' b = some o
theorem But.refl (a : Addr) (H : Hp) : But a H H := fun _ _ _ h => h
theorem But.trans {a : Addr} {H H1 H2 : Hp} (x : But a H H1) (y : But a H1 H2) : But a H H2 := fun b o n h => y b o n (x b o n h)
theorem But.of {a : Addr} {H H' : Hp} (x : Same H H') : But a H H' := fun b o _ h => x b o h
theorem But.new {a p : Addr} {H : Hp} {o : HO} (h : H p = none) : But a H (upd H p o) := fun b u _ e => by
  rw [upd_ne (ne_of_none e h)]
  exact e
theorem But.put {a : Addr} {H : Hp} {o : HO} : But a H (upd H a o) := fun b u n e => by
  rw [upd_ne n]
  exact e
theorem But.same {a : Addr} {H H' : Hp} (x : But a H H') (h : H a = none) : Same H H' := fun b o e => x b o (ne_of_none e h) e
theorem same_new {p : Addr} {H : Hp} {o : HO} (h : H p = none) : Same H (upd H p o) := fun b u e => by
  rw [upd_ne (ne_of_none e h)]
  exact e
theorem But.free {a b : Addr} {H H' : Hp} {o : HO} (x : But a H H') (h : H a = some o) (n : H' b = none) (n2 : H' a ≠ none) : H b = none := by
  cases q : H b with
  | none => rfl
  | some u =>
    by_cases e : b = a
    · subst e
      exact absurd n n2
    · rw [x b u e q] at n
      cases n
theorem But.sqt {a p : Addr} {H H' : Hp} {K : PySem.W.Frag} {l xs : List V} (x : But a H H') (h : H a = some (.lst l)) (q : SqT K H p xs) : SqT K H' p xs := by
  rcases q with (q | ⟨o, q⟩) | q
  · exact .inl (.inl (x _ _ (ne_of q h (by intro z; cases z)) q))
  · exact .inl (.inr ⟨o, x _ _ (ne_of q h (by intro z; cases z)) q⟩)
  · exact .inr q
theorem same_sqt {p : Addr} {H H' : Hp} {K : PySem.W.Frag} {xs : List V} (x : Same H H') (q : SqT K H p xs) : SqT K H' p xs := by
  rcases q with (q | ⟨o, q⟩) | q
  · exact .inl (.inl (x _ _ q))
  · exact .inl (.inr ⟨o, x _ _ q⟩)
  · exact .inr q

/-! ### the hand -/
def HandAt (H : Hp) (a : Addr) (n : Nat) : Prop := ∃ g s m : Int, H a = some (.lst [.int g, .int s, .int m]) ∧ 0 ≤ g ∧ 0 ≤ s ∧ 0 ≤ m ∧ m ≤ n
theorem HandAt.le {H : Hp} {a : Addr} {n k : Nat} (h : HandAt H a n) (l : n ≤ k) : HandAt H a k := by
  obtain ⟨g, s, m, e, h1, h2, h3, h4⟩ := h
  exact ⟨g, s, m, e, h1, h2, h3, by omega⟩
theorem HandAt.new {H : Hp} {a p : Addr} {n : Nat} {o : HO} (h : HandAt H a n) (hp : H p = none) : HandAt (upd H p o) a n := by
  obtain ⟨g, s, m, e, h1, h2, h3, h4⟩ := h
  exact ⟨g, s, m, by rw [upd_ne (ne_of_none e hp)]; exact e, h1, h2, h3, h4⟩
theorem HandAt.put {H : Hp} {a p : Addr} {n : Nat} {o : HO} (h : HandAt H a n) (hp : p ≠ a) : HandAt (upd H p o) a n := by
  obtain ⟨g, s, m, e, h1, h2, h3, h4⟩ := h
  exact ⟨g, s, m, by rw [upd_ne (Ne.symm hp)]; exact e, h1, h2, h3, h4⟩
theorem HandAt.ne {H : Hp} {a p : Addr} {n : Nat} (h : HandAt H a n) (hp : H p = none) : p ≠ a := by
  obtain ⟨g, s, m, e, _⟩ := h
  exact (ne_of_none e hp).symm
theorem HandAt.some {H : Hp} {a : Addr} {n : Nat} (h : HandAt H a n) : ∃ l, H a = some (.lst l) := by
  obtain ⟨g, s, m, e, _⟩ := h
  exact ⟨_, e⟩
theorem But.sq {a p : Addr} {H H' : Hp} {K : PySem.W.Frag} {n : Nat} {xs : List V} (x : But a H H') (h : HandAt H a n) (q : SqT K H p xs) : SqT K H' p xs := by
  obtain ⟨l, e⟩ := h.some
  exact x.sqt e q

structure Bl (mg : Str → Option Value) : Prop where
  len : mg "len" = none
  sum : mg "sum" = none
  max : mg "max" = none
  min : mg "min" = none
  abs : mg "abs" = none
  int : mg "int" = none
  tuple : mg "tuple" = none
  range : mg "range" = none
  sorted : mg "sorted" = none
  zip : mg "zip" = none
  isinstance : mg "isinstance" = none
  list : mg "list" = none
  all : mg "all" = none
  repr : mg "repr" = none
  str : mg "str" = none
  enumerate : mg "enumerate" = none

/-! ### a def that may be called by its name -/
structure Cal (P : Program) (w : World) (K : PySem.W.Frag) (mg : Str → Option Value) (base : Heap) (k : Nat) (x : Str) (sp : Sp) : Prop where
  ex : ∃ (f : Addr) (fd : FuncData) (ps : List Str), FnOk P w K mg base CX0 k f fd ps sp ∧ mg x = some (.ref f) ∧ PySem.W.keepIn K (.ref f) = true ∧ Binds K fd ps []
section
variable {X : Cx} {k j : Nat} {x : Str} {sp : Sp} {p pos : Pos} {e : Expr} {es : List Expr} {t : TA}
theorem pe_c (c : Cal X.prog X.w X.K X.mg X.base k x sp) (hr : Room j X.A) (hk : k ≤ j) (hg : Gl X x) (ha : PA X (e :: es) t)
    (hdb : (x == ("__debug__" : Str)) = false := by decide) (he : starEach (e :: es) X.env = (false, eval e X.env) :: starEach es X.env := by rfl) (hpl : (backTo pos (starEach es X.env)).any (·.1) = false := by rfl) :
    PE X (.Call (.Name x p) (e :: es) [] pos) (tCall sp [] E0 t) := by
  obtain ⟨f, fd, ps, F, hm, kp, b⟩ := c.ex
  exact pe_call F (hr.mono hk) hg hm kp b .nil pass0 ha hdb he hpl
end
theorem Cal.mono {P : Program} {w : World} {K : PySem.W.Frag} {mg : Str → Option Value} {base : Heap} {j k : Nat} {x : Str} {sp : Sp} (c : Cal P w K mg base j x sp) (h : j ≤ k) : Cal P w K mg base k x sp := by
  obtain ⟨f, fd, ps, F, r⟩ := c.ex
  exact ⟨f, fd, ps, F.mono h, r⟩

/-! ### promises of the draws -/
def spTake : Sp := fun vs H Q _ => ∃ (a : Addr) (many : Int) (n : Nat), vs = [.ref a, .int many] ∧ 0 < many ∧ many < 2 ^ 62 ∧ HandAt H a n ∧ n ≤ 1000000000 ∧
  ∀ H' r, But a H H' → HandAt H' a (n + 1) → 0 ≤ r → r < many → Q (.int r) H'
def spHand (K : PySem.W.Frag) : Sp := fun vs H Q _ => ∃ (a : Addr) (k : Int) (ns : List Int), vs = [.ref a, .int k] ∧ 0 ≤ k ∧ k < 1000 ∧ SqL K H a (ns.map V.int) ∧
  ∀ p g s, H p = none → 0 ≤ g → 0 ≤ s → Q (.ref p) (upd H p (.lst [.int g, .int s, .int 0]))
/-- an item of a list that is given -/
def spOf (K : PySem.W.Frag) : Sp := fun vs H Q _ => ∃ (a b : Addr) (xs : List V) (n : Nat), vs = [.ref a, .ref b] ∧ a ≠ b ∧ H b = some (.lst xs) ∧ 0 < xs.length ∧ xs.length ≤ 1000 ∧ HandAt H a n ∧ n ≤ 1000000000 ∧
  ∀ H' v, But a H H' → HandAt H' a (n + 1) → v ∈ xs → Q v H'
def spFigure : Sp := fun vs H Q _ => ∃ (a : Addr) (n : Nat), vs = [.ref a] ∧ HandAt H a n ∧ n ≤ 999999990 ∧
  ∀ H' c, But a H H' → HandAt H' a (n + 3) → -1000 ≤ c → c ≤ 1000 → Q (.int c) H'
end NG

namespace NG
open PySem PySem.Spec PyProof.Rows L2

/-! ### promises that are kept while no repr is under way -/
structure FnG (P : Program) (w : World) (K : PySem.W.Frag) (mg : Str → Option Value) (base : Heap) (k : Nat) (f : Addr) (fd : FuncData) (ps : List Str) (sp : Sp) : Prop where
  len : ∀ vs H Q E, sp vs H Q E → vs.length = ps.length
  run : ∀ (A : Around) (outer : List Env) (s : Shared) (H : Hp) (args : Args) (us : List Value) (vs : List V) (Q : VK), A.guards = some [] → Room k A → Env0 P w K mg base A outer s H → BindsTo s fd args (ps.zip us) → Vals vs us → sp vs H Q E0 →
    codeAny (model P w) A (.call (.ref f) args) (CR CX0 outer P w H s Q E0) s
theorem FnG.of {P : Program} {w : World} {K : PySem.W.Frag} {mg : Str → Option Value} {base : Heap} {k : Nat} {f : Addr} {fd : FuncData} {ps : List Str} {sp : Sp} (F : FnOk P w K mg base CX0 k f fd ps sp) : FnG P w K mg base k f fd ps sp :=
  ⟨F.len, fun A outer s H args us vs Q _ hr he hb hv hs => F.run A outer s H args us vs Q E0 hr he hb hv hs⟩
theorem fnG {P : Program} {w : World} {K : PySem.W.Frag} {mg : Str → Option Value} {base : Heap} {x qual : Str} {st : Stmt} {f : Addr} {fd : FuncData} {N ps : List Str} {k : Nat} {sp : Sp} (F : Fun K x qual st f fd) (S : FnScope N ps (defScope st)) (len : ∀ vs H Q E, sp vs H Q E → vs.length = ps.length)
    (walk : ∀ (cdv : Value) (A : Around) (outer : List Env) (s : Shared) (H : Hp) (vs : List V) (Q : VK), A.guards = some [] → Room k (A.deeper (envOfC qual (defScope st) s.heap.objs.size f cdv)) → sp vs H Q E0 →
      ∃ t, PSs (cxOf CX0 P w K mg base N qual (defScope st) f cdv A outer s H E0).nox (defBody st) t ∧ t { nx := fun _ H' => Q .non H', rt := Q } (start N vs) H) : FnG P w K mg base (k + 1) f fd ps sp := by
  obtain ⟨oc, od, kV, doc, pm, an, cdv, ct, osl, rfl, lk, hcd⟩ := F.ex
  refine ⟨len, fun A outer s H args us vs Q hg hr e0 bd rv hs => ?_⟩
  have inK : K.In s.heap := e0.mod.kin.keeps fun b o e => (e0.bs b o e).1
  have nolim : s.heap.NoLimit := e0.mod.nolimit.keeps fun b o e => (e0.bs b o e).1
  refine codeAny_call_function hr.depth (inK _ _ lk) rfl S.co S.gen rfl (PySem.W.codeRec_of inK hcd) (bd _ _ _ _ ?_)
  refine wpAny_newFunctionEnv_cells S.kind (fun y hy => ?_) fun env he s1 ic => ?_
  · obtain ⟨n, v⟩ := y
    rcases S.par n (List.of_mem_zip hy).1 with z | z
    · exact .inl z
    · exact .inr ⟨z, PySem.W.cellsFrom_some _ _ _ (.inl z)⟩
  subst he
  refine ⟨nolim.keeps ic.toInCall.keep, codeAny_func ?_⟩
  obtain ⟨t, ht, hq⟩ := walk cdv A outer s H vs Q hg (hr.deeper _) hs
  have I := inv_start (CX := CX0) (E := E0) S hr.hd e0 (len _ _ _ _ hs) rv ic
  refine wpAny_mono (ht.nox.run [] s1 (start N vs) H _ I hq) (fun fl s' hf => ?_) fun e s' hf => hf
  match fl, hf with
  | .ret u, ⟨v, σ', H', J, r, q⟩ => exact ⟨v, H', J.os, J.bare, J.base, J.hok, r, q⟩
  | .next, ⟨σ', H', J, q⟩ => exact ⟨.non, H', J.os, J.bare, J.base, J.hok, rfl, q⟩
  | .brk, ⟨_, _, _, q⟩ => exact q.elim
  | .cont, ⟨_, _, _, q⟩ => exact q.elim

structure CalG (P : Program) (w : World) (K : PySem.W.Frag) (mg : Str → Option Value) (base : Heap) (k : Nat) (x : Str) (sp : Sp) : Prop where
  ex : ∃ (f : Addr) (fd : FuncData) (ps : List Str), FnG P w K mg base k f fd ps sp ∧ mg x = some (.ref f) ∧ PySem.W.keepIn K (.ref f) = true ∧ Binds K fd ps []
theorem Cal.g {P : Program} {w : World} {K : PySem.W.Frag} {mg : Str → Option Value} {base : Heap} {k : Nat} {x : Str} {sp : Sp} (c : Cal P w K mg base k x sp) : CalG P w K mg base k x sp := by
  obtain ⟨f, fd, ps, F, r⟩ := c.ex
  exact ⟨f, fd, ps, .of F, r⟩
section
variable {X : Cx} {k j : Nat} {x : Str} {sp : Sp} {p pos : Pos} {e : Expr} {es : List Expr} {t : TA}
theorem pe_g (c : CalG X.prog X.w X.K X.mg X.base k x sp) (hgd : X.A.guards = some []) (hr : Room j X.A) (hk : k ≤ j) (hg : Gl X x) (ha : PA X (e :: es) t)
    (hdb : (x == ("__debug__" : Str)) = false := by decide) (he : starEach (e :: es) X.env = (false, eval e X.env) :: starEach es X.env := by rfl) (hpl : (backTo pos (starEach es X.env)).any (·.1) = false := by rfl) :
    PE X (.Call (.Name x p) (e :: es) [] pos) (tCall sp [] E0 t) := by
  obtain ⟨f, fd, ps, F, hm, kp, b⟩ := c.ex
  refine ⟨fun pins s σ H Q I h => wpAny_Call_Name_kw (ld_glob I hg hm ?_ hdb)⟩
  refine PySem.W.callWith_K (h₀ := X.base) I.ok.mod.kin kp (thn (ha.run pos pins s σ H _ I h) fun us s1 ⟨vs, H1, I1, r, q⟩ => ⟨I1.kIn, ?_⟩) he hpl
  have q : sp (vs ++ []) H1 Q E0 := q
  rw [List.append_nil] at q
  have hl : (us ++ []).length = ps.length := by
    rw [List.append_nil, ← r.length]
    exact F.len _ _ _ _ q
  have bd := b s1 us I1.kIn hl
  rw [List.append_nil] at bd
  refine wpAny_call (codeAny_mono (F.run X.A X.stack s1 H1 ⟨us, []⟩ us vs Q hgd (hr.mono hk) I1.env0 bd r q) fun res s' hq => ?_)
  match res, hq with
  | .ok (.ret u), hq => exact I1.after hq
  | .ok .next, hq => exact False.elim hq
  | .ok .brk, hq => exact False.elim hq
  | .ok .cont, hq => exact False.elim hq
  | .error e, hq => exact False.elim hq
end

/-! ### the law's call -/
theorem lawG {P : Program} {w : World} {K : PySem.W.Frag} {mg mb : Str → Option Value} {k : Nat} {fa a : Addr} {fd : FuncData} {x : Str} {sp : Sp} {st : Shared} {vs : List Value} {ns : List Int}
    (inK : K.In st.heap) (gl : st.heap.Ns mainGlobals mg) (bl : st.heap.Ns builtinsNs mb) (blt : ∀ y : Str, y ≠ "__name__" → mb y = bootBuiltins y) (lim : st.heap.NoLimit) (gens : st.gens = #[])
    (at0 : st.heap.get? a = some { cls := .type "list", data := .seq vs.toArray }) (hint : IntsAre vs ns) (short : ns.length ≤ sizeLine) (room : Room k callerA)
    (F : ∀ base : Heap, K.In base → base.Ns mainGlobals mg → FnG P w K mg base k fa fd [x] sp) (bind : ∀ (s : Shared) (u : Value), BindsTo s fd ⟨[u], []⟩ [(x, u)])
    (prom : ∀ H : Hp, Only H → SqL K H a (ns.map V.int) → sp [.ref a] H (fun v _ => v = .bl true) E0) :
    codeAny (model P w) callerA (.call (.ref fa) ⟨[.ref a], []⟩) (fun r s' => r = .ok (.ret (.bool true)) ∧ OldK st.heap s'.heap ∧ s'.os = st.os ∧ AllBare s'.gens) st := by
  have rel := vals_ints hint
  have go : ∀ H : Hp, Only H → SqL K H a (ns.map V.int) → HOk P w H st.heap → (∀ b, H b ≠ none → b = a ∧ K.lookup b = none) →
      codeAny (model P w) callerA (.call (.ref fa) ⟨[.ref a], []⟩) (fun r s' => r = .ok (.ret (.bool true)) ∧ OldK st.heap s'.heap ∧ s'.os = st.os ∧ AllBare s'.gens) st := by
    intro H on sq ok sole
    have dicts : ∀ {b : Addr} {o : Obj} {es : Array DictEntry} {ep : Nat}, st.heap.get? b = some o → o.data = .dict es ep → H b = none := by
      intro b o es ep e d
      by_cases z : H b = none
      · exact z
      · obtain ⟨rfl, _⟩ := sole b z
        rw [at0] at e
        cases e
        cases d
    have names : ∀ {b : Addr} {m : Str → Option Value}, st.heap.Ns b m → (hidT st.heap H).Ns b m := by
      rintro b m ⟨o, es, ep, e, d, r⟩
      exact ⟨o, es, ep, hidT_get e (dicts e d), d, r⟩
    have kin : K.In (hidT st.heap H) := by
      intro b o e
      refine hidT_get (inK b o e) ?_
      by_cases z : H b = none
      · exact z
      · rw [(sole b z).2] at e
        cases e
    have md : Mod K mg (hidT st.heap H) := by
      obtain ⟨mc, l1, l2⟩ := lim
      exact ⟨kin, names gl, ⟨mb, names bl, blt⟩, ⟨mc, names l1, l2⟩⟩
    have env : Env0 P w K mg (hidT st.heap H) callerA [] st H :=
      ⟨rfl, md, fun b o e => of_hidT e, Nat.le_of_eq (hidT_size _ _), trivial, fun b z => absurd (show b ∈ ([] : List Addr) from z) (by simp), ok, .of_eq gens⟩
    refine codeAny_mono ((F _ kin (names gl)).run callerA [] st H ⟨[.ref a], []⟩ [.ref a] [.ref a] _ rfl room env (bind st (.ref a)) (.cons rfl .nil) (prom H on sq)) fun res s' hq => ?_
    match res, hq with
    | .ok .next, hq => exact False.elim hq
    | .ok .brk, hq => exact False.elim hq
    | .ok .cont, hq => exact False.elim hq
    | .error e, hq => exact False.elim hq
    | .ok (.ret u), ⟨v, H', os, bare, un, ok', r, q⟩ =>
      have q : v = .bl true := q
      subst q
      have r : u = Value.bool true := r
      subst r
      refine ⟨rfl, OldK.of_keep fun b o e => ?_, os, bare⟩
      by_cases z : H b = none
      · exact un.keep b o e z (fun y => absurd (show b ∈ ([] : List Addr) from y) (by simp)) (by simp)
      · rcases on b with y | ⟨ob, xs, y⟩
        · exact absurd y z
        · obtain ⟨p1, _⟩ := ok b _ y
          obtain ⟨p2, _⟩ := ok' b _ (un.frzs b ob _ y)
          rw [e] at p1
          cases p1
          exact p2
  by_cases hk : K.lookup a = none
  · refine go (upd (fun _ => none) a (.frz { cls := .type "list", data := .seq vs.toArray } (.lst (ns.map V.int)))) (fun b => ?_) (.inl (.inr ⟨_, upd_same⟩)) (fun b u z => ?_) (fun b z => ?_)
    · by_cases hb : b = a
      · subst hb
        exact .inr ⟨_, _, upd_same⟩
      · exact .inl (upd_ne hb)
    · by_cases hb : b = a
      · subst hb
        rw [upd_same] at z
        cases z
        exact ⟨at0, by rw [List.length_map]; exact short, vs, _, rel, at0⟩
      · rw [upd_ne hb] at z
        cases z
    · by_cases hb : b = a
      · subst hb
        exact ⟨rfl, hk⟩
      · exact absurd (upd_ne hb) z
  · obtain ⟨o, ho⟩ := Option.ne_none_iff_exists'.mp hk
    have e := inK a o ho
    rw [at0] at e
    cases e
    refine go (fun _ => none) (fun _ => .inl rfl) (.inr ⟨_, vs.toArray, _, ho, rfl, rfl, rfl, ?_, by simpa using rel⟩) (fun b u z => by cases z) (fun b z => absurd rfl z)
    rw [List.size_toArray, hint.length]
    exact short
theorem walkG {l : PySem.W.OpenLaw} {n k : Nat} {q : Program} {loose : List Str} {XP : (Str → Option Value) → Heap → Prop} {YP : World → Heap → Prop} {d : DefRec} {K : Params → PySem.W.Frag} {sp : World → Sp} {x : Str}
    (hn : l.most = some n) (hn2 : n ≤ sizeLine) (hdf : d.params.defaults = []) (hr : Room k callerA) (hY : ∀ (w : World) (h : Heap), YP w h → (K w.params).In h)
    (F : ∀ (w : World) (mg : Str → Option Value) (fa : Addr) (h : Heap), (K w.params).In h → h.Ns mainGlobals mg → mg d.name = some (.ref fa) →
      ∃ fd : FuncData, (∀ (s : Shared) (u : Value), BindsTo s fd ⟨[u], []⟩ [(x, u)]) ∧ ∀ base : Heap, (K w.params).In base → base.Ns mainGlobals mg → FnG l.prog w (K w.params) mg base k fa fd [x] (sp w))
    (hsp : ∀ (w : World) (H : Hp) (a : Addr) (ns : List Int), ns.length ≤ n → Only H → SqL (K w.params) H a (ns.map V.int) → sp w [.ref a] H (fun v _ => v = .bl true) E0) :
    PySem.W.WalkO q loose XP YP l.row.toRowW d [] (fun f vs => PySem.call f vs) := by
  refine Att.attach_call hn hdf fun w s0 s1 mg mb fa o pm cd doc a vs ns G Y _ _ _ hmg hobj hints hlen hg => ?_
  have inK := hY w _ Y
  obtain ⟨fd, hb, hF⟩ := F w mg fa _ inK G.T.g hmg
  exact lawG inK G.T.g G.T.b G.T.builtins G.T.nolimit hg hobj hints (Nat.le_trans hlen hn2) hr hF hb fun H on sq => hsp w H a ns hlen on sq

/-! ### repr -/
mutual
theorem Dp_nodict {K : PySem.W.Frag} {H : Hp} : ∀ {d : PyData} {v : V}, Dp K H v d → d.hasDict = false
  | .none, _, _ => by simp only [PyData.hasDict]
  | .bool _, _, _ => by simp only [PyData.hasDict]
  | .int _, _, _ => by simp only [PyData.hasDict]
  | .str _, _, _ => by simp only [PyData.hasDict]
  | .list ds, _, h => by
    cases h with
    | lst _ h => simp only [PyData.hasDict, DpAll_nodict h]
  | .tuple ds, _, h => by
    cases h with
    | tup _ h => simp only [PyData.hasDict, DpAll_nodict h]
  | .dict _, _, h => by cases h
theorem DpAll_nodict {K : PySem.W.Frag} {H : Hp} : ∀ {ds : List PyData} {vs : List V}, DpAll K H vs ds → PyData.hasDictAll ds = false
  | [], _, _ => by simp only [PyData.hasDictAll]
  | d :: ds, _, h => by
    cases h with
    | cons h1 h2 => simp only [PyData.hasDictAll, Dp_nodict h1, DpAll_nodict h2, Bool.or_self]
end
def rRepr (K : PySem.W.Frag) : List V → Hp → VK → Prop := fun vs H Q => ∃ (p : Addr) (d : PyData), vs = [.ref p] ∧ Dp K H (.ref p) d ∧ d.showable = true ∧ d.depth ≤ 60 ∧ d.shown.length ≤ sizeLine ∧ Q (.str d.shown) H
theorem cr_repr {X : Cx} (hg : X.A.guards = some []) (hu : X.A.units + 64 < cLine) : CallR X (.builtin "repr") (rRepr X.K) := by
  intro pins s σ H vs us Q I r h
  obtain ⟨p, d, rfl, hd, hs, hz, hl, q⟩ := h
  rw [Vals.ref1 r]
  obtain ⟨as, rd⟩ := Dp.reads I d (.ref p) (.ref p) hd rfl
  exact repr_of_reads' rd hs (PyData.noDict_hsm (Dp_nodict hd)) hg (by omega) (fun _ _ e => e) (fun h' u tk hk => ⟨.str _, H, I.kept hk, ⟨_, rfl⟩, q⟩) hl
end NG

namespace NG
open PySem PySem.Spec PyProof.Rows L2

/-! ### expressions -/
inductive W4 where
  | sum | less | least | most
  deriving DecidableEq
def wn : W4 → Str
  | .sum => "sum"
  | .less => "less"
  | .least => "least"
  | .most => "most"
inductive Ex where
  | fig (c : Int) | reg (i : Nat) | share (j : Nat)
  | two (w : W4) (a b : Ex)
  | times (f : Int) (a : Ex) | by (i : Nat) (a : Ex)
  | when (i : Nat) (c : Int) (a b : Ex) | whr (j : Nat) (c : Int) (a b : Ex)
def ExAt (K : PySem.W.Frag) (H : Hp) : Ex → V → Prop
  | .fig c, v => ∃ p, v = .ref p ∧ SqT K H p [.str "fig", .int c]
  | .reg i, v => ∃ p, v = .ref p ∧ SqT K H p [.str "reg", .int (i : Int)]
  | .share j, v => ∃ p, v = .ref p ∧ SqT K H p [.str "share", .int (j : Int)]
  | .two w a b, v => ∃ p x y, v = .ref p ∧ SqT K H p [.str (wn w), x, y] ∧ ExAt K H a x ∧ ExAt K H b y
  | .times f a, v => ∃ p x, v = .ref p ∧ SqT K H p [.str "times", .int f, x] ∧ ExAt K H a x
  | .by i a, v => ∃ p x, v = .ref p ∧ SqT K H p [.str "by", .int (i : Int), x] ∧ ExAt K H a x
  | .when i c a b, v => ∃ p x y, v = .ref p ∧ SqT K H p [.str "when", .int (i : Int), .int c, x, y] ∧ ExAt K H a x ∧ ExAt K H b y
  | .whr j c a b, v => ∃ p x y, v = .ref p ∧ SqT K H p [.str "where", .int (j : Int), .int c, x, y] ∧ ExAt K H a x ∧ ExAt K H b y
theorem ExAt.imp {K : PySem.W.Frag} {H H' : Hp} (h : ∀ p xs, SqT K H p xs → SqT K H' p xs) : ∀ {e : Ex} {v : V}, ExAt K H e v → ExAt K H' e v
  | .fig _, _, ⟨p, e, q⟩ => ⟨p, e, h _ _ q⟩
  | .reg _, _, ⟨p, e, q⟩ => ⟨p, e, h _ _ q⟩
  | .share _, _, ⟨p, e, q⟩ => ⟨p, e, h _ _ q⟩
  | .two _ _ _, _, ⟨p, x, y, e, q, a, b⟩ => ⟨p, x, y, e, h _ _ q, ExAt.imp h a, ExAt.imp h b⟩
  | .times _ _, _, ⟨p, x, e, q, a⟩ => ⟨p, x, e, h _ _ q, ExAt.imp h a⟩
  | .by _ _, _, ⟨p, x, e, q, a⟩ => ⟨p, x, e, h _ _ q, ExAt.imp h a⟩
  | .when _ _ _ _, _, ⟨p, x, y, e, q, a, b⟩ => ⟨p, x, y, e, h _ _ q, ExAt.imp h a, ExAt.imp h b⟩
  | .whr _ _ _ _, _, ⟨p, x, y, e, q, a, b⟩ => ⟨p, x, y, e, h _ _ q, ExAt.imp h a, ExAt.imp h b⟩
theorem ExAt.but {K : PySem.W.Frag} {H H' : Hp} {a : Addr} {n : Nat} {e : Ex} {v : V} (x : ExAt K H e v) (b : But a H H') (h : HandAt H a n) : ExAt K H' e v := x.imp fun _ _ q => b.sq h q
theorem ExAt.same {K : PySem.W.Frag} {H H' : Hp} {e : Ex} {v : V} (x : ExAt K H e v) (b : Same H H') : ExAt K H' e v := x.imp fun _ _ q => same_sqt b q
theorem ExAt.new {K : PySem.W.Frag} {H : Hp} {p : Addr} {o : HO} {e : Ex} {v : V} (x : ExAt K H e v) (n : H p = none) : ExAt K (upd H p o) e v := x.same (same_new n)
def ExOk (many : Nat) : Ex → Prop
  | .fig c => -1000 ≤ c ∧ c ≤ 1000
  | .reg i => i < 4
  | .share j => j < many
  | .two _ a b => ExOk many a ∧ ExOk many b
  | .times f a => (-9 ≤ f ∧ f ≤ 9) ∧ ExOk many a
  | .by i a => i < 4 ∧ ExOk many a
  | .when i c a b => i < 4 ∧ (-1000 ≤ c ∧ c ≤ 1000) ∧ ExOk many a ∧ ExOk many b
  | .whr j c a b => j < many ∧ (1 ≤ c ∧ c ≤ 1000) ∧ ExOk many a ∧ ExOk many b
def Ex.dep : Ex → Nat
  | .fig _ => 1
  | .reg _ => 1
  | .share _ => 1
  | .two _ a b => max a.dep b.dep + 1
  | .times _ a => a.dep + 1
  | .by _ a => a.dep + 1
  | .when _ _ a b => max a.dep b.dep + 1
  | .whr _ _ a b => max a.dep b.dep + 1
def jw : W4 → Int → Int → Int
  | .sum, x, y => x + y
  | .less, x, y => x - y
  | .least, x, y => if y < x then y else x
  | .most, x, y => if y > x then y else x
def wo (rs ss : List Int) : Ex → Int
  | .fig c => c * ss.sum
  | .reg i => rs.getD i 0 * ss.sum
  | .share j => 1000 * ss.getD j 0
  | .two w a b => jw w (wo rs ss a) (wo rs ss b)
  | .times f a => f * wo rs ss a
  | .by i a => rs.getD i 0 * wo rs ss a
  | .when i c a b => if rs.getD i 0 < c then wo rs ss a else wo rs ss b
  | .whr j c a b => if 1000 * ss.getD j 0 < c * ss.sum then wo rs ss a else wo rs ss b
theorem at_nth {ns : List Int} {i : Nat} (h : i < ns.length) : atI (ns.map V.int) (i : Int) = some (.int (ns.getD i 0)) := at_int (by omega) (by omega)

def RegsAt (K : PySem.W.Frag) (H : Hp) (rs : List Int) (v : V) : Prop := ∃ p, v = .ref p ∧ SqT K H p (rs.map V.int) ∧ rs.length = 4 ∧ ∀ x ∈ rs, -1000 ≤ x ∧ x ≤ 1000
def ShAt (K : PySem.W.Frag) (H : Hp) (many : Nat) (ss : List Int) (v : V) : Prop := ∃ p, v = .ref p ∧ SqT K H p (ss.map V.int) ∧ ss.length = many ∧ (∀ x ∈ ss, 0 ≤ x ∧ x < 2 ^ 50) ∧ 0 < ss.sum ∧ ss.sum < 2 ^ 60
theorem RegsAt.imp {K : PySem.W.Frag} {H H' : Hp} {rs : List Int} {v : V} (r : RegsAt K H rs v) (h : ∀ p xs, SqT K H p xs → SqT K H' p xs) : RegsAt K H' rs v := by
  obtain ⟨p, e, q, l⟩ := r
  exact ⟨p, e, h _ _ q, l⟩
theorem ShAt.imp {K : PySem.W.Frag} {H H' : Hp} {many : Nat} {rs : List Int} {v : V} (r : ShAt K H many rs v) (h : ∀ p xs, SqT K H p xs → SqT K H' p xs) : ShAt K H' many rs v := by
  obtain ⟨p, e, q, l⟩ := r
  exact ⟨p, e, h _ _ q, l⟩
theorem getD_mem {ns : List Int} {i : Nat} (h : i < ns.length) : ns.getD i 0 ∈ ns := by
  rw [List.getD_eq_getElem?_getD, List.getElem?_eq_getElem h]
  exact List.getElem_mem h

/-! ### promises -/
def spWorth (K : PySem.W.Frag) (n : Nat) : Sp := fun vs H Q _ => ∃ (v r s : V) (e : Ex) (many : Nat) (rs ss : List Int), vs = [v, r, s] ∧ ExAt K H e v ∧ ExOk many e ∧ e.dep ≤ n ∧ RegsAt K H rs r ∧ ShAt K H many ss s ∧ Q (.int (wo rs ss e)) H
def spJoinW : Sp := fun vs H Q _ => ∃ (w : W4) (x y : Int), vs = [.str (wn w), .int x, .int y] ∧ Q (.int (jw w x y)) H
def spLed (K : PySem.W.Frag) : Sp := fun vs H Q _ => ∃ (p : Addr) (r x y : V) (i : Nat) (c : Int) (rs : List Int), vs = [.ref p, r] ∧ SqT K H p [.str "when", .int (i : Int), .int c, x, y] ∧ i < 4 ∧ RegsAt K H rs r ∧ Q (if rs.getD i 0 < c then x else y) H
def spSide (K : PySem.W.Frag) : Sp := fun vs H Q _ => ∃ (p : Addr) (s x y : V) (many j : Nat) (c : Int) (ss : List Int), vs = [.ref p, s] ∧ SqT K H p [.str "where", .int (j : Int), .int c, x, y] ∧ j < many ∧ (1 ≤ c ∧ c ≤ 1000) ∧ ShAt K H many ss s ∧ Q (if 1000 * ss.getD j 0 < c * ss.sum then x else y) H
def spMills (K : PySem.W.Frag) : Sp := fun vs H Q _ => ∃ (s : V) (many j : Nat) (ss : List Int), vs = [s, .int (j : Int)] ∧ ShAt K H many ss s ∧ j < many ∧ Q (.int (1000 * ss.getD j 0 / ss.sum)) H
def cost : Nat → Nat
  | 0 => 6
  | n + 1 => 2 * cost n + 20
theorem cost_ge (l : Nat) : 6 ≤ cost l := by
  cases l with
  | zero => exact Nat.le_refl _
  | succ l =>
    unfold cost
    omega
def spLeaf (K : PySem.W.Frag) : Sp := fun vs H Q _ => ∃ (a : Addr) (many n : Nat), vs = [.ref a, .int (many : Int)] ∧ 1 ≤ many ∧ many ≤ 1000 ∧ HandAt H a n ∧ n ≤ 999999000 ∧
  ∀ H' v e, But a H H' → HandAt H' a (n + 5) → ExAt K H' e v → ExOk many e → e.dep ≤ 1 → Q v H'
def spExpr (K : PySem.W.Frag) (m : Nat) : Sp := fun vs H Q _ => ∃ (a : Addr) (many l n : Nat), vs = [.ref a, .int (many : Int), .int (l : Int), .int 1] ∧ l < m ∧ 1 ≤ many ∧ many ≤ 1000 ∧ HandAt H a n ∧ n + cost l ≤ 999999000 ∧
  ∀ H' v e, But a H H' → HandAt H' a (n + cost l) → ExAt K H' e v → ExOk many e → e.dep ≤ l + 1 → Q v H'
theorem cal_never {P : Program} {w : World} {K : PySem.W.Frag} {mg : Str → Option Value} {base : Heap} {k : Nat} {x qual : Str} {st : Stmt} {f : Addr} {fd : FuncData} {ps : List Str} {sp : Sp} (F : Fun K x qual st f fd) (gF : mg x = some (.ref f)) (b : Binds K fd ps []) (h : ∀ vs H Q E, ¬ sp vs H Q E) : Cal P w K mg base k x sp :=
  ⟨f, fd, ps, ⟨fun vs H Q E q => absurd q (h _ _ _ _), fun A outer s H args us vs Q E _ _ _ _ q => absurd q (h _ _ _ _)⟩, gF, F.kp, b⟩
theorem fn_never {P : Program} {w : World} {K : PySem.W.Frag} {mg : Str → Option Value} {base : Heap} {k : Nat} {f : Addr} {fd : FuncData} {ps : List Str} {sp : Sp} (h : ∀ vs H Q E, ¬ sp vs H Q E) : FnOk P w K mg base CX0 k f fd ps sp :=
  ⟨fun vs H Q E q => absurd q (h _ _ _ _), fun A outer s H args us vs Q E _ _ _ _ q => absurd q (h _ _ _ _)⟩
end NG

namespace NG
open PySem PySem.Spec PyProof.Rows L2

/-! ### the greatest that divides all -/
def gf (g : Nat) (x : Int) : Nat := Nat.gcd g x.toNat
def gl (ns : List Int) : Nat := ns.foldl gf 0
theorem gl_step {ns : List Int} {i : Nat} {x : Int} (h : ns[i]? = some x) : gl (ns.take (i + 1)) = Nat.gcd (gl (ns.take i)) x.toNat := by
  unfold gl
  rw [List.take_add_one, h, List.foldl_append]
  rfl
theorem gf_dvd : ∀ (ns : List Int) (g : Nat), ns.foldl gf g ∣ g ∧ ∀ x ∈ ns, ns.foldl gf g ∣ x.toNat
  | [], g => ⟨Nat.dvd_refl _, fun x h => by cases h⟩
  | y :: ns, g => by
    obtain ⟨h1, h2⟩ := gf_dvd ns (gf g y)
    refine ⟨Nat.dvd_trans h1 (Nat.gcd_dvd_left _ _), fun x hx => ?_⟩
    rcases List.mem_cons.mp hx with rfl | hx
    · exact Nat.dvd_trans h1 (Nat.gcd_dvd_right _ _)
    · exact h2 x hx
theorem gl_dvd {ns : List Int} {x : Int} (h : x ∈ ns) : gl ns ∣ x.toNat := (gf_dvd ns 0).2 x h
theorem gl_pos {ns : List Int} {x : Int} (h : x ∈ ns) (p : 0 < x) : 0 < gl ns := Nat.pos_of_dvd_of_pos (gl_dvd h) (by omega)
theorem sum_nonneg : ∀ {ms : List Int}, (∀ x ∈ ms, 0 ≤ x) → 0 ≤ ms.sum
  | [], _ => by simp
  | y :: ms, h => by
    have := sum_nonneg (ms := ms) fun x hx => h x (List.mem_cons_of_mem _ hx)
    have := h y List.mem_cons_self
    rw [List.sum_cons]
    omega
theorem sum_pos : ∀ {ms : List Int} {x : Int}, (∀ x ∈ ms, 0 ≤ x) → x ∈ ms → 0 < x → 0 < ms.sum
  | y :: ms, x, h, hx, p => by
    have h1 := sum_nonneg (ms := ms) fun x hx => h x (List.mem_cons_of_mem _ hx)
    have h2 := h y List.mem_cons_self
    rw [List.sum_cons]
    rcases List.mem_cons.mp hx with rfl | hx
    · omega
    · have := sum_pos (ms := ms) (fun x hx => h x (List.mem_cons_of_mem _ hx)) hx p
      omega
theorem sum_le {B : Int} : ∀ {ms : List Int}, (∀ x ∈ ms, x ≤ B) → ms.sum ≤ ms.length * B
  | [], _ => by simp
  | y :: ms, h => by
    have h1 := sum_le (ms := ms) fun x hx => h x (List.mem_cons_of_mem _ hx)
    have h2 := h y List.mem_cons_self
    rw [List.sum_cons, List.length_cons, Int.natCast_succ, Int.add_mul]
    omega
theorem div_le_self' {x : Int} {g : Nat} (h : 0 ≤ x) : x / (g : Int) ≤ x := Int.ediv_le_self _ h
/-- what lowest makes -/
def low (ns : List Int) : List Int := ns.map fun x => x / (gl ns : Int)
theorem low_sh {ns : List Int} (hb : ∀ x ∈ ns, 0 ≤ x ∧ x < 2 ^ 50) (hl : ns.length ≤ 1000) {y : Int} (hy : y ∈ ns) (py : 0 < y) :
    (∀ x ∈ low ns, 0 ≤ x ∧ x < 2 ^ 50) ∧ 0 < (low ns).sum ∧ (low ns).sum < 2 ^ 60 := by
  have hg := gl_pos hy py
  have h1 : ∀ x ∈ low ns, 0 ≤ x ∧ x < 2 ^ 50 := fun x hx => by
    obtain ⟨z, hz, rfl⟩ := List.mem_map.mp hx
    have h2 := hb z hz
    exact ⟨Int.ediv_nonneg h2.1 (by omega), Int.lt_of_le_of_lt (div_le_self' h2.1) h2.2⟩
  refine ⟨h1, ?_, ?_⟩
  · refine sum_pos (x := y / (gl ns : Int)) (fun x hx => (h1 x hx).1) (List.mem_map.mpr ⟨y, hy, rfl⟩) ?_
    have hd : (gl ns : Nat) ≤ y.toNat := Nat.le_of_dvd (by omega) (gl_dvd hy)
    exact Int.ediv_pos_of_pos_of_dvd py (by omega) (by
      have : ((gl ns : Nat) : Int) ∣ ((y.toNat : Nat) : Int) := Int.natCast_dvd_natCast.mpr (gl_dvd hy)
      rwa [Int.toNat_of_nonneg (by omega)] at this)
  · have h3 := sum_le (B := 2 ^ 50) (ms := low ns) fun x hx => Int.le_of_lt (h1 x hx).2
    have h4 : (low ns).length ≤ 1000 := by
      unfold low
      rw [List.length_map]
      exact hl
    have h5 : ((low ns).length : Int) * 2 ^ 50 ≤ 1000 * 2 ^ 50 := Int.mul_le_mul_of_nonneg_right (by omega) (by decide)
    have h6 : (1000 : Int) * 2 ^ 50 < 2 ^ 60 := by decide
    omega
theorem gcd_turn {u v : Nat} : Nat.gcd v (u % v) = Nat.gcd u v := by
  rw [Nat.gcd_comm v, ← Nat.gcd_rec, Nat.gcd_comm]
theorem ixN_of {n : Nat} {r : Int} (h0 : 0 ≤ r) (h1 : r < n) : ixN n r = some r.toNat := by
  unfold ixN
  rw [if_pos h0, if_pos h1]

theorem tYes_in {σ : L2.St} {H : Hp} {A B : Hp → Prop} (h : A H) : tYes σ H (fun b H3 => if b = true then A H3 else B H3) := by
  show if true = true then A H else B H
  exact iteT h

/-! ### promises -/
def spLow (K : PySem.W.Frag) : Sp := fun vs H Q _ => ∃ (p : Addr) (ns : List Int) (y : Int), vs = [.ref p] ∧ H p = some (.lst (ns.map V.int)) ∧ (∀ x ∈ ns, 0 ≤ x ∧ x < 2 ^ 50) ∧ ns.length ≤ 1000 ∧ y ∈ ns ∧ 0 < y ∧
  ∀ H' v ms, Same H H' → ShAt K H' ns.length ms v → Q v H'
def spShares (K : PySem.W.Frag) : Sp := fun vs H Q _ => ∃ (a : Addr) (many n : Nat), vs = [.ref a, .int (many : Int)] ∧ 1 ≤ many ∧ many ≤ 3 ∧ HandAt H a n ∧ n ≤ 999998000 ∧
  ∀ H' v ms, But a H H' → HandAt H' a (n + 20) → ShAt K H' many ms v → Q v H'
def spRegs (K : PySem.W.Frag) : Sp := fun vs H Q _ => ∃ (a : Addr) (n : Nat), vs = [.ref a] ∧ HandAt H a n ∧ n ≤ 999998000 ∧
  ∀ H' v rs, But a H H' → HandAt H' a (n + 12) → RegsAt K H' rs v → Q v H'
def spAsked (K : PySem.W.Frag) : Sp := fun vs H Q _ => ∃ (a : Addr) (many n : Nat), vs = [.ref a, .int (many : Int)] ∧ 2 ≤ many ∧ many ≤ 3 ∧ HandAt H a n ∧ n ≤ 999997000 ∧
  ∀ H' v ms, But a H H' → HandAt H' a (n + 25) → ShAt K H' many ms v → Q v H'
end NG

namespace NG
open PySem PySem.Spec PyProof.Rows L2
/-! ### rows of expressions -/
def RowsAt (K : PySem.W.Frag) (H : Hp) : List V → List Ex → Prop
  | [], [] => True
  | v :: vs, e :: es => ExAt K H e v ∧ RowsAt K H vs es
  | _, _ => False
theorem RowsAt.imp {K : PySem.W.Frag} {H H' : Hp} (h : ∀ p xs, SqT K H p xs → SqT K H' p xs) : ∀ {vs : List V} {es : List Ex}, RowsAt K H vs es → RowsAt K H' vs es
  | [], [], _ => trivial
  | _ :: _, _ :: _, ⟨x, r⟩ => ⟨x.imp h, RowsAt.imp h r⟩
theorem RowsAt.same {K : PySem.W.Frag} {H H' : Hp} {vs : List V} {es : List Ex} (r : RowsAt K H vs es) (s : Same H H') : RowsAt K H' vs es := r.imp fun _ _ q => same_sqt s q
theorem RowsAt.len {K : PySem.W.Frag} {H : Hp} : ∀ {vs : List V} {es : List Ex}, RowsAt K H vs es → vs.length = es.length
  | [], [], _ => rfl
  | _ :: _, _ :: _, ⟨_, r⟩ => by rw [List.length_cons, List.length_cons, r.len]
theorem RowsAt.snoc {K : PySem.W.Frag} {H : Hp} {v : V} {e : Ex} (x : ExAt K H e v) : ∀ {vs : List V} {es : List Ex}, RowsAt K H vs es → RowsAt K H (vs ++ [v]) (es ++ [e])
  | [], [], _ => ⟨x, trivial⟩
  | _ :: _, _ :: _, ⟨y, r⟩ => ⟨y, RowsAt.snoc x r⟩
theorem RowsAt.get {K : PySem.W.Frag} {H : Hp} : ∀ {vs : List V} {es : List Ex} {k : Nat} {e : Ex}, RowsAt K H vs es → es[k]? = some e → ∃ v, vs[k]? = some v ∧ ExAt K H e v
  | [], [], _, _, _, h => by simp at h
  | v :: vs, e' :: es, 0, e, ⟨x, r⟩, h => by
    have : e' = e := Option.some.inj h
    subst this
    exact ⟨v, rfl, x⟩
  | v :: vs, e' :: es, k + 1, e, ⟨x, r⟩, h => RowsAt.get (k := k) r h
def pairUp : List Ex → List Ex
  | a :: b :: r => .two .sum a b :: pairUp r
  | _ => []
theorem pairUp_get : ∀ {es : List Ex} {k : Nat} {a b : Ex}, es[2 * k]? = some a → es[2 * k + 1]? = some b → (pairUp es)[k]? = some (.two .sum a b)
  | [], k, _, _, h, _ => by simp at h
  | [_], k, _, _, _, h => by
    have := (List.getElem?_eq_some_iff.mp h).1
    rw [List.length_singleton] at this
    omega
  | x :: y :: r, 0, a, b, h, h2 => by
    have e1 : x = a := Option.some.inj h
    have e2 : y = b := Option.some.inj h2
    rw [← e1, ← e2]
    rfl
  | x :: y :: r, k + 1, a, b, h, h2 => by
    have h : r[2 * k]? = some a := h
    have h2 : r[2 * k + 1]? = some b := h2
    exact pairUp_get (es := r) (k := k) h h2
theorem pairUp_sum (rs ss : List Int) : ∀ {es : List Ex} {k : Nat}, es.length = 2 * k → ((pairUp es).map (wo rs ss)).sum = (es.map (wo rs ss)).sum ∧ (pairUp es).length = k
  | [], k, h => by
    rw [List.length_nil] at h
    exact ⟨rfl, by show 0 = k; omega⟩
  | [_], k, h => by
    rw [List.length_singleton] at h
    omega
  | x :: y :: r, k, h => by
    rw [List.length_cons, List.length_cons] at h
    obtain ⟨h1, h2⟩ := pairUp_sum rs ss (es := r) (k := k - 1) (by omega)
    refine ⟨?_, ?_⟩
    · show (wo rs ss (.two .sum x y) :: (pairUp r).map (wo rs ss)).sum = (wo rs ss x :: wo rs ss y :: r.map (wo rs ss)).sum
      rw [List.sum_cons, List.sum_cons, List.sum_cons, h1]
      show wo rs ss x + wo rs ss y + _ = _
      omega
    · show (pairUp r).length + 1 = k
      omega
theorem pairUp_ok {many d : Nat} : ∀ {es : List Ex}, (∀ e ∈ es, ExOk many e ∧ e.dep ≤ d) → ∀ e ∈ pairUp es, ExOk many e ∧ e.dep ≤ d + 1
  | [], _, e, h => by cases h
  | [_], _, e, h => by cases h
  | x :: y :: r, h, e, he => by
    have hx := h x List.mem_cons_self
    have hy := h y (List.mem_cons_of_mem _ List.mem_cons_self)
    rcases List.mem_cons.mp he with rfl | he
    · refine ⟨⟨hx.1, hy.1⟩, ?_⟩
      show max x.dep y.dep + 1 ≤ d + 1
      omega
    · exact pairUp_ok (es := r) (fun e he => h e (List.mem_cons_of_mem _ (List.mem_cons_of_mem _ he))) e he
def whn (j : Nat) (z : Int) : Ex := .whr j z (.fig 0) (.fig 1)
theorem count_sum (rs ss : List Int) (j : Nat) (h0 : 0 < ss.sum) : ∀ fs : List Int, ((fs.map (whn j)).map (wo rs ss)).sum = ((fs.filter fun z => decide (z ≤ 1000 * ss.getD j 0 / ss.sum)).length : Int) * ss.sum
  | [] => by simp
  | z :: fs => by
    have ih := count_sum rs ss j h0 fs
    have hm : 1000 * ss.getD j 0 / ss.sum < z ↔ 1000 * ss.getD j 0 < z * ss.sum := Int.ediv_lt_iff_lt_mul h0
    show (wo rs ss (whn j z) :: (fs.map (whn j)).map (wo rs ss)).sum = _
    rw [List.sum_cons, ih]
    show (if 1000 * ss.getD j 0 < z * ss.sum then 0 * ss.sum else 1 * ss.sum) + _ = _
    by_cases c : z ≤ 1000 * ss.getD j 0 / ss.sum
    · rw [List.filter_cons_of_pos (by rw [decide_eq_true c]), if_neg (fun q => by have := hm.mpr q; omega), List.length_cons, Int.natCast_succ, Int.add_mul]
      omega
    · rw [List.filter_cons_of_neg (by rw [decide_eq_false c]; exact Bool.false_ne_true), if_pos (hm.mp (by omega))]
      omega
def spCount (K : PySem.W.Frag) : Sp := fun vs H Q _ => ∃ (a : Addr) (many n : Nat) (s : V) (ss : List Int), vs = [.ref a, .int (many : Int), s] ∧ 2 ≤ many ∧ many ≤ 3 ∧ HandAt H a n ∧ n ≤ 999990000 ∧ ShAt K H many ss s ∧
  ∀ H', But a H H' → HandAt H' a (n + 10) → Q (.bl true) H'
end NG

namespace NG
open PySem PySem.Spec PyProof.Rows L2

/-! ### more rules -/
theorem pgtK {X : Cx} (K : PySem.W.Frag) {es : List Expr} {k : Nat} {t : TGs} {n : Nat} {pos : Pos} (hc : X.calm = true) (h : PGs X es t)
    (hn : (assignEach es X.env).length = n := by rfl) (hst : (assignEach es X.env).findIdx? (·.1) = none := by rfl) (hK : X.K = K := by rfl) : PG X (.Tuple es k pos) (gTup K n t) := by
  subst hK
  exact pg_tup hc h hn hst
theorem inK {X : Cx} (K : PySem.W.Frag) (h : X.K = K := by rfl) : OpR X (compareOp .In) (rIn K false) := by
  subst h
  exact op_in_seq
theorem isiK {X : Cx} (K : PySem.W.Frag) (h : X.K = K := by rfl) : CallR X (.builtin "isinstance") (rIsi K) := by
  subst h
  exact call_isi
theorem walk_zipT {K : PySem.W.Frag} {a b : Addr} {xs ys : List V} {n : Nat} (hx : xs.length = n) (hy : ys.length = n) : Walk (RZ.ItzT K a b) n (fun H => SqT K H a xs ∧ SqT K H b ys) (YPair (fun i => xs[i]?) (fun i => ys[i]?)) := by
  refine ⟨fun i H hi q => ?_, fun H q => ⟨xs, ys, q.1, q.2, .inl (by omega)⟩, fun i H v H' hi q y => ?_⟩
  · exact ⟨xs, ys, xs[i]'(by omega), ys[i]'(by omega), q.1, q.2, List.getElem?_eq_getElem _, List.getElem?_eq_getElem _⟩
  · obtain ⟨T, x, z, h1, h2, h3, h4, h5⟩ := y
    exact ⟨T, x, z, h1, h2, h3, h4 xs q.1, h5 ys q.2⟩
def tChain3 (r r' r'' : R2) (ta tb tc td : TE) : TT := fun σ H Q => ta σ H fun x H1 => tb σ H1 fun y H2 => r x y H2 fun z H3 => ∃ k, z = .bl k ∧
  (if k = true then tc σ H3 fun u H4 => r' y u H4 fun z' H5 => ∃ k', z' = .bl k' ∧ (if k' = true then td σ H5 fun v H6 => r'' u v H6 fun z'' H7 => ∃ k'', z'' = .bl k'' ∧ Q k'' H7 else Q false H5) else Q false H3)
theorem pt_chain3 {X : Cx} {a b c d : Expr} {ta tb tc td : TE} {pos : Pos} {o1 o2 o3 : CmpOp} {r1 r2 r3 : R2} (h1 : OpR X (compareOp o1) r1) (h2 : OpR X (compareOp o2) r2) (h3 : OpR X (compareOp o3) r3) (ha : PE X a ta) (hb : PE X b tb) (hc : PE X c tc) (hd : PE X d td)
    (hm : lastMarks [o1, o2, o3] [b, c, d] = false := by with_unfolding_all rfl) : PT X (.Compare a [o1, o2, o3] [b, c, d] pos) (tChain3 r1 r2 r3 ta tb tc td) := by
  refine ⟨fun pins s σ H Q I h => isTrue_chain (thn (ha.run pins s σ H _ I h) fun v1 s1 ⟨x, H1, I1, e1, q1⟩ => test_link (thn (hb.run pins s1 σ H1 _ I1 q1) fun v2 s2 ⟨y, H2, I2, e2, q2⟩ => thn (h1 pins s2 σ H2 x y v1 v2 _ I2 e1 e2 q2) fun v3 s3 ⟨z, H3, I3, e3, k, ek, q3⟩ => ?_)) hm⟩
  subst ek
  cases e3
  refine wpAny_truthy_bool ?_
  cases k with
  | false => exact ite_ff ⟨H3, I3, q3⟩
  | true =>
    refine ite_tt (test_link (thn (hc.run pins s3 σ H3 _ I3 q3) fun v4 s4 ⟨u, H4, I4, e4, q4⟩ => thn (h2 pins s4 σ H4 y u v2 v4 _ I4 e2 e4 q4) fun v5 s5 ⟨z', H5, I5, e5, k', ek', q5⟩ => ?_))
    subst ek'
    cases e5
    refine wpAny_truthy_bool ?_
    cases k' with
    | false => exact ite_ff ⟨H5, I5, q5⟩
    | true =>
      refine ite_tt (test_last (thn (hd.run pins s5 σ H5 _ I5 q5) fun v6 s6 ⟨v, H6, I6, e6, q6⟩ => thn (h3 pins s6 σ H6 u v v4 v6 _ I6 e4 e6 q6) fun v7 s7 ⟨z'', H7, I7, e7, k'', ek'', q7⟩ => ?_))
      subst ek''
      cases e7
      exact wpAny_truthy_bool ⟨H7, I7, q7⟩

/-! ### the shapes of words -/
def shapeOf : Ex → List Str
  | .fig _ => ["figure"]
  | .reg _ => ["place"]
  | .share _ => ["sign"]
  | .two _ _ _ => ["part", "part"]
  | .times _ _ => ["factor", "part"]
  | .by _ _ => ["place", "part"]
  | .when _ _ _ _ => ["place", "figure", "part", "part"]
  | .whr _ _ _ _ => ["sign", "line", "part", "part"]
def wordOf : Ex → Str
  | .fig _ => "fig"
  | .reg _ => "reg"
  | .share _ => "share"
  | .two w _ _ => wn w
  | .times _ _ => "times"
  | .by _ _ => "by"
  | .when _ _ _ _ => "when"
  | .whr _ _ _ _ => "where"
def Shapes (K : PySem.W.Frag) (w : World) (d : Addr) : Prop := ∀ e : Ex, ∃ q, KDct K w d (wordOf e) (.ref q) ∧ ∀ H, SqT K H q ((shapeOf e).map V.str)
def Ex.kids : Ex → List Ex
  | .fig _ => []
  | .reg _ => []
  | .share _ => []
  | .two _ a b => [a, b]
  | .times _ a => [a]
  | .by _ a => [a]
  | .when _ _ a b => [a, b]
  | .whr _ _ a b => [a, b]
/-- the items whose kind is a part -/
def pk : List Str → List V → List V
  | k :: ks, v :: vs => if V.str k = V.str "part" then v :: pk ks vs else pk ks vs
  | _, _ => []
theorem pk_snoc : ∀ {ks : List Str} {vs : List V} {i : Nat} {k : Str} {v : V}, ks[i]? = some k → vs[i]? = some v → pk (ks.take (i + 1)) (vs.take (i + 1)) = pk (ks.take i) (vs.take i) ++ (if V.str k = V.str "part" then [v] else [])
  | [], _, i, _, _, h, _ => by simp at h
  | _ :: _, [], i, _, _, _, h => by simp at h
  | k0 :: ks, v0 :: vs, 0, k, v, h, h2 => by
    have e1 : k0 = k := Option.some.inj h
    have e2 : v0 = v := Option.some.inj h2
    subst e1 e2
    show (if V.str k0 = V.str "part" then v0 :: pk (ks.take 0) (vs.take 0) else pk (ks.take 0) (vs.take 0)) = _
    split <;> rfl
  | k0 :: ks, v0 :: vs, i + 1, k, v, h, h2 => by
    have ih := pk_snoc (ks := ks) (vs := vs) (i := i) h h2
    show (if V.str k0 = V.str "part" then v0 :: pk (ks.take (i + 1)) (vs.take (i + 1)) else pk (ks.take (i + 1)) (vs.take (i + 1))) = (if V.str k0 = V.str "part" then v0 :: pk (ks.take i) (vs.take i) else pk (ks.take i) (vs.take i)) ++ _
    rw [ih]
    split <;> rfl
/-- how an expression lies: its word, then what belongs there -/
theorem ExAt.lies {K : PySem.W.Frag} {H : Hp} : ∀ {e : Ex} {v : V}, ExAt K H e v → ∃ (p : Addr) (xs : List V), v = .ref p ∧ SqT K H p (.str (wordOf e) :: xs) ∧ xs.length = (shapeOf e).length ∧ xs.length ≤ 4 ∧ 0 < xs.length ∧ RowsAt K H (pk (shapeOf e) xs) e.kids
  | .fig _, _, ⟨p, e, q⟩ => ⟨p, _, e, q, rfl, by simp, by simp, trivial⟩
  | .reg _, _, ⟨p, e, q⟩ => ⟨p, _, e, q, rfl, by simp, by simp, trivial⟩
  | .share _, _, ⟨p, e, q⟩ => ⟨p, _, e, q, rfl, by simp, by simp, trivial⟩
  | .two _ _ _, _, ⟨p, x, y, e, q, a, b⟩ => ⟨p, _, e, q, rfl, by simp, by simp, a, b, trivial⟩
  | .times _ _, _, ⟨p, x, e, q, a⟩ => ⟨p, _, e, q, rfl, by simp, by simp, a, trivial⟩
  | .by _ _, _, ⟨p, x, e, q, a⟩ => ⟨p, _, e, q, rfl, by simp, by simp, a, trivial⟩
  | .when _ _ _ _, _, ⟨p, x, y, e, q, a, b⟩ => ⟨p, _, e, q, rfl, by simp, by simp, a, b, trivial⟩
  | .whr _ _ _ _, _, ⟨p, x, y, e, q, a, b⟩ => ⟨p, _, e, q, rfl, by simp, by simp, a, b, trivial⟩
theorem pk_len : ∀ (ks : List Str) (vs : List V), (pk ks vs).length ≤ vs.length
  | [], vs => by
    unfold pk
    exact Nat.zero_le _
  | _ :: _, [] => Nat.le_refl _
  | k :: ks, v :: vs => by
    have := pk_len ks vs
    unfold pk
    split
    · rw [List.length_cons, List.length_cons]
      omega
    · rw [List.length_cons]
      omega

/-! ### spans -/
def mn (x y : Int) : Int := if y < x then y else x
def mx (x y : Int) : Int := if y > x then y else x
theorem mn_le (x y : Int) : mn x y ≤ x ∧ mn x y ≤ y := by unfold mn; split <;> omega
theorem le_mx (x y : Int) : x ≤ mx x y ∧ y ≤ mx x y := by unfold mx; split <;> omega
theorem mn_or (x y : Int) : mn x y = x ∨ mn x y = y := by unfold mn; split <;> simp
theorem mx_or (x y : Int) : mx x y = x ∨ mx x y = y := by unfold mx; split <;> simp
def ab (x : Int) : Int := if x < 0 then -x else x
def js : W4 → Int × Int → Int × Int → Int × Int
  | .sum, x, y => (x.1 + y.1, x.2 + y.2)
  | .less, x, y => (x.1 - y.2, x.2 - y.1)
  | .least, x, y => (mn x.1 y.1, mn x.2 y.2)
  | .most, x, y => (mx x.1 y.1, mx x.2 y.2)
def spn : Ex → Int × Int
  | .fig c => (c, c)
  | .reg _ => (-1000, 1000)
  | .share _ => (0, 1000)
  | .two w a b => js w (spn a) (spn b)
  | .times f a => (mn (f * (spn a).1) (f * (spn a).2), mx (f * (spn a).1) (f * (spn a).2))
  | .by _ a => (-1000 * mx (ab (spn a).1) (ab (spn a).2), 1000 * mx (ab (spn a).1) (ab (spn a).2))
  | .when _ _ a b => (mn (spn a).1 (spn b).1, mx (spn a).2 (spn b).2)
  | .whr _ _ a b => (mn (spn a).1 (spn b).1, mx (spn a).2 (spn b).2)
def SpAt (K : PySem.W.Frag) (H : Hp) (s : Int × Int) (v : V) : Prop := ∃ p, v = .ref p ∧ SqT K H p [.int s.1, .int s.2]
def SpsAt (K : PySem.W.Frag) (H : Hp) : List V → List (Int × Int) → Prop
  | [], [] => True
  | v :: vs, s :: ss => SpAt K H s v ∧ SpsAt K H vs ss
  | _, _ => False
theorem SpsAt.imp {K : PySem.W.Frag} {H H' : Hp} (h : ∀ p xs, SqT K H p xs → SqT K H' p xs) : ∀ {vs : List V} {ss : List (Int × Int)}, SpsAt K H vs ss → SpsAt K H' vs ss
  | [], [], _ => trivial
  | _ :: _, _ :: _, ⟨⟨p, e, q⟩, r⟩ => ⟨⟨p, e, h _ _ q⟩, SpsAt.imp h r⟩
theorem SpsAt.snoc {K : PySem.W.Frag} {H : Hp} {v : V} {s : Int × Int} (x : SpAt K H s v) : ∀ {vs : List V} {ss : List (Int × Int)}, SpsAt K H vs ss → SpsAt K H (vs ++ [v]) (ss ++ [s])
  | [], [], _ => ⟨x, trivial⟩
  | _ :: _, _ :: _, ⟨y, r⟩ => ⟨y, SpsAt.snoc x r⟩
theorem SpsAt.len {K : PySem.W.Frag} {H : Hp} : ∀ {vs : List V} {ss : List (Int × Int)}, SpsAt K H vs ss → vs.length = ss.length
  | [], [], _ => rfl
  | _ :: _, _ :: _, ⟨_, r⟩ => by rw [List.length_cons, List.length_cons, r.len]

theorem int_at {ns : List Int} {i : Nat} {v : V} (h : (ns.map V.int)[i]? = some v) : ∃ z : Int, v = .int z ∧ ns[i]? = some z := by
  rw [List.getElem?_map] at h
  cases e : ns[i]? with
  | none => rw [e] at h; cases h
  | some z => rw [e] at h; exact ⟨z, (Option.some.inj h).symm, rfl⟩
theorem SpsAt.one {K : PySem.W.Frag} {H : Hp} {us : List V} {s : Int × Int} (h : SpsAt K H us [s]) : ∃ p, us = [.ref p] ∧ SqT K H p [.int s.1, .int s.2] := by
  cases us with
  | nil => exact h.elim
  | cons u r =>
    cases r with
    | nil =>
      obtain ⟨⟨p, e, q⟩, _⟩ := h
      exact ⟨p, by rw [e], q⟩
    | cons _ _ => exact h.2.elim
theorem SpsAt.pair {K : PySem.W.Frag} {H : Hp} {us : List V} {s t : Int × Int} (h : SpsAt K H us [s, t]) : ∃ p q, us = [.ref p, .ref q] ∧ SqT K H p [.int s.1, .int s.2] ∧ SqT K H q [.int t.1, .int t.2] := by
  cases us with
  | nil => exact h.elim
  | cons u r =>
    obtain ⟨⟨p, e, q⟩, h2⟩ := h
    obtain ⟨p2, e2, q2⟩ := SpsAt.one h2
    exact ⟨p, p2, by rw [e, e2], q, q2⟩
theorem put_sqt {K : PySem.W.Frag} {H : Hp} {D p : Addr} {us us' xs : List V} (h : H D = some (.lst us)) (q : SqT K H p xs) : SqT K (upd H D (.lst us')) p xs := by
  rcases q with (q | ⟨o, q⟩) | q
  · exact .inl (.inl (by rw [upd_ne (ne_of q h (by intro z; cases z))]; exact q))
  · exact .inl (.inr ⟨o, by rw [upd_ne (ne_of q h (by intro z; cases z))]; exact q⟩)
  · exact .inr q
theorem RowsAt.get' {K : PySem.W.Frag} {H : Hp} : ∀ {vs : List V} {es : List Ex} {k : Nat} {v : V}, RowsAt K H vs es → vs[k]? = some v → ∃ e, es[k]? = some e ∧ ExAt K H e v
  | [], [], _, _, _, h => by simp at h
  | v' :: vs, e :: es, 0, v, ⟨x, r⟩, h => by
    have : v' = v := Option.some.inj h
    subst this
    exact ⟨e, rfl, x⟩
  | v' :: vs, e :: es, k + 1, v, ⟨x, r⟩, h => RowsAt.get' (k := k) r h
theorem mn_of {m a b : Int} (h : m ∈ [a, b]) (hl : ∀ y ∈ [a, b], m ≤ y) : m = mn a b := by
  have h1 := hl a (by simp)
  have h2 := hl b (by simp)
  simp only [List.mem_cons, List.not_mem_nil, or_false] at h
  unfold mn
  split <;> omega
theorem mx_of {m a b : Int} (h : m ∈ [a, b]) (hl : ∀ y ∈ [a, b], y ≤ m) : m = mx a b := by
  have h1 := hl a (by simp)
  have h2 := hl b (by simp)
  simp only [List.mem_cons, List.not_mem_nil, or_false] at h
  unfold mx
  split <;> omega

/-! ### promises -/
def spParts (K : PySem.W.Frag) : Sp := fun vs H Q _ => ∃ (v : V) (e : Ex), vs = [v] ∧ ExAt K H e v ∧ ∀ H' p xs, Same H H' → H p = none → H' p = some (.lst xs) → RowsAt K H' xs e.kids → Q (.ref p) H'
def spJoinS (K : PySem.W.Frag) : Sp := fun vs H Q _ => ∃ (e : Ex) (x y : V) (s t : Int × Int), vs = [.str (wordOf e), x, y] ∧ SpAt K H s x ∧ SpAt K H t y ∧
  ((∃ w a b, e = .two w a b ∧ ∀ H' v, Same H H' → SpAt K H' (js w s t) v → Q v H') ∨ ((∃ i c a b, e = .when i c a b) ∨ (∃ i c a b, e = .whr i c a b)) ∧ ∀ H' v, Same H H' → SpAt K H' (mn s.1 t.1, mx s.2 t.2) v → Q v H')
def spSpan (K : PySem.W.Frag) (n : Nat) : Sp := fun vs H Q _ => ∃ (v : V) (e : Ex) (many : Nat), vs = [v] ∧ ExAt K H e v ∧ ExOk many e ∧ e.dep ≤ n ∧ ∀ H' u, Same H H' → SpAt K H' (spn e) u → Q u H'
theorem kids_dep : ∀ (e : Ex) (k : Ex), k ∈ e.kids → k.dep + 1 ≤ e.dep
  | .fig _, k, h => by cases h
  | .reg _, k, h => by cases h
  | .share _, k, h => by cases h
  | .two w0 a b, k, h => by
    simp only [Ex.kids, List.mem_cons, List.not_mem_nil, or_false] at h
    have e : Ex.dep (.two w0 a b) = max a.dep b.dep + 1 := rfl
    rw [e]
    rcases h with rfl | rfl <;> omega
  | .times _ a, k, h => by
    simp only [Ex.kids, List.mem_cons, List.not_mem_nil, or_false] at h
    subst h
    exact Nat.le_refl _
  | .by _ a, k, h => by
    simp only [Ex.kids, List.mem_cons, List.not_mem_nil, or_false] at h
    subst h
    exact Nat.le_refl _
  | .when i0 c0 a b, k, h => by
    simp only [Ex.kids, List.mem_cons, List.not_mem_nil, or_false] at h
    have e : Ex.dep (.when i0 c0 a b) = max a.dep b.dep + 1 := rfl
    rw [e]
    rcases h with rfl | rfl <;> omega
  | .whr i0 c0 a b, k, h => by
    simp only [Ex.kids, List.mem_cons, List.not_mem_nil, or_false] at h
    have e : Ex.dep (.whr i0 c0 a b) = max a.dep b.dep + 1 := rfl
    rw [e]
    rcases h with rfl | rfl <;> omega
theorem kids_ok {many : Nat} : ∀ (e : Ex) (k : Ex), ExOk many e → k ∈ e.kids → ExOk many k
  | .fig _, k, _, h => by cases h
  | .reg _, k, _, h => by cases h
  | .share _, k, _, h => by cases h
  | .two _ a b, k, o, h => by
    simp only [Ex.kids, List.mem_cons, List.not_mem_nil, or_false] at h
    rcases h with rfl | rfl
    · exact o.1
    · exact o.2
  | .times _ a, k, o, h => by
    simp only [Ex.kids, List.mem_cons, List.not_mem_nil, or_false] at h
    subst h
    exact o.2
  | .by _ a, k, o, h => by
    simp only [Ex.kids, List.mem_cons, List.not_mem_nil, or_false] at h
    subst h
    exact o.2
  | .when _ _ a b, k, o, h => by
    simp only [Ex.kids, List.mem_cons, List.not_mem_nil, or_false] at h
    rcases h with rfl | rfl
    · exact o.2.2.1
    · exact o.2.2.2
  | .whr _ _ a b, k, o, h => by
    simp only [Ex.kids, List.mem_cons, List.not_mem_nil, or_false] at h
    rcases h with rfl | rfl
    · exact o.2.2.1
    · exact o.2.2.2
end NG

namespace NG
open PySem PySem.Spec PyProof.Rows L2
/-! ### what stands around an expression -/
inductive Cx1 where
  | l (w : W4) (x : Ex) | r (w : W4) (x : Ex) | times (f : Int) | by (i : Nat)
  | whenL (i : Nat) (c : Int) (x : Ex) | whenR (i : Nat) (c : Int) (x : Ex) | whrL (j : Nat) (c : Int) (x : Ex) | whrR (j : Nat) (c : Int) (x : Ex)
def Cx1.put : Cx1 → Ex → Ex
  | .l w x, e => .two w e x
  | .r w x, e => .two w x e
  | .times f, e => .times f e
  | .by i, e => .by i e
  | .whenL i c x, e => .when i c e x
  | .whenR i c x, e => .when i c x e
  | .whrL j c x, e => .whr j c e x
  | .whrR j c x, e => .whr j c x e
def Cx1.lay (u : V) : Cx1 → List V × List V
  | .l w _ => ([.str (wn w)], [u])
  | .r w _ => ([.str (wn w), u], [])
  | .times f => ([.str "times", .int f], [])
  | .by i => ([.str "by", .int (i : Int)], [])
  | .whenL i c _ => ([.str "when", .int (i : Int), .int c], [u])
  | .whenR i c _ => ([.str "when", .int (i : Int), .int c, u], [])
  | .whrL j c _ => ([.str "where", .int (j : Int), .int c], [u])
  | .whrR j c _ => ([.str "where", .int (j : Int), .int c, u], [])
def Cx1.leaf (K : PySem.W.Frag) (H : Hp) (u : V) : Cx1 → Prop
  | .l _ x => ExAt K H x u
  | .r _ x => ExAt K H x u
  | .times _ => True
  | .by _ => True
  | .whenL _ _ x => ExAt K H x u
  | .whenR _ _ x => ExAt K H x u
  | .whrL _ _ x => ExAt K H x u
  | .whrR _ _ x => ExAt K H x u
def Cx1.ok (many : Nat) : Cx1 → Prop
  | .l _ x => ExOk many x ∧ x.dep ≤ 1
  | .r _ x => ExOk many x ∧ x.dep ≤ 1
  | .times f => -9 ≤ f ∧ f ≤ 9
  | .by i => i < 4
  | .whenL i c x => i < 4 ∧ (-1000 ≤ c ∧ c ≤ 1000) ∧ ExOk many x ∧ x.dep ≤ 1
  | .whenR i c x => i < 4 ∧ (-1000 ≤ c ∧ c ≤ 1000) ∧ ExOk many x ∧ x.dep ≤ 1
  | .whrL j c x => j < many ∧ (1 ≤ c ∧ c ≤ 1000) ∧ ExOk many x ∧ x.dep ≤ 1
  | .whrR j c x => j < many ∧ (1 ≤ c ∧ c ≤ 1000) ∧ ExOk many x ∧ x.dep ≤ 1
def CtxAt (K : PySem.W.Frag) (H : Hp) (c : Cx1) (v : V) : Prop := ∃ (p pa pr : Addr) (u : V), v = .ref p ∧ SqT K H p [.ref pa, .ref pr] ∧ SqT K H pa (c.lay u).1 ∧ SqT K H pr (c.lay u).2 ∧ c.leaf K H u
theorem CtxAt.imp {K : PySem.W.Frag} {H H' : Hp} {c : Cx1} {v : V} (x : CtxAt K H c v) (h : ∀ p xs, SqT K H p xs → SqT K H' p xs) : CtxAt K H' c v := by
  obtain ⟨p, pa, pr, u, e, q1, q2, q3, lf⟩ := x
  refine ⟨p, pa, pr, u, e, h _ _ q1, h _ _ q2, h _ _ q3, ?_⟩
  cases c with
  | l w x => exact ExAt.imp h lf
  | r w x => exact ExAt.imp h lf
  | times f => trivial
  | «by» i => trivial
  | whenL i c x => exact ExAt.imp h lf
  | whenR i c x => exact ExAt.imp h lf
  | whrL i c x => exact ExAt.imp h lf
  | whrR i c x => exact ExAt.imp h lf
def CtxsAt (K : PySem.W.Frag) (H : Hp) : List V → List Cx1 → Prop
  | [], [] => True
  | v :: vs, c :: cs => CtxAt K H c v ∧ CtxsAt K H vs cs
  | _, _ => False
theorem CtxsAt.imp {K : PySem.W.Frag} {H H' : Hp} (h : ∀ p xs, SqT K H p xs → SqT K H' p xs) : ∀ {vs : List V} {cs : List Cx1}, CtxsAt K H vs cs → CtxsAt K H' vs cs
  | [], [], _ => trivial
  | _ :: _, _ :: _, ⟨x, r⟩ => ⟨x.imp h, CtxsAt.imp h r⟩
theorem CtxsAt.len {K : PySem.W.Frag} {H : Hp} : ∀ {vs : List V} {cs : List Cx1}, CtxsAt K H vs cs → vs.length = cs.length
  | [], [], _ => rfl
  | _ :: _, _ :: _, ⟨_, r⟩ => by rw [List.length_cons, List.length_cons, r.len]
theorem CtxsAt.snoc {K : PySem.W.Frag} {H : Hp} {v : V} {c : Cx1} (x : CtxAt K H c v) : ∀ {vs : List V} {cs : List Cx1}, CtxsAt K H vs cs → CtxsAt K H (vs ++ [v]) (cs ++ [c])
  | [], [], _ => ⟨x, trivial⟩
  | _ :: _, _ :: _, ⟨y, r⟩ => ⟨y, CtxsAt.snoc x r⟩
theorem CtxsAt.get' {K : PySem.W.Frag} {H : Hp} : ∀ {vs : List V} {cs : List Cx1} {k : Nat} {v : V}, CtxsAt K H vs cs → vs[k]? = some v → ∃ c, cs[k]? = some c ∧ CtxAt K H c v
  | [], [], _, _, _, h => by simp at h
  | v' :: vs, e :: es, 0, v, ⟨x, r⟩, h => by
    have : v' = v := Option.some.inj h
    subst this
    exact ⟨e, rfl, x⟩
  | v' :: vs, e :: es, k + 1, v, ⟨x, r⟩, h => CtxsAt.get' (k := k) r h
theorem put_at {K : PySem.W.Frag} {H : Hp} {c : Cx1} {u v : V} {e : Ex} {p : Addr} (hp : SqT K H p ((c.lay u).1 ++ [v] ++ (c.lay u).2)) (lf : c.leaf K H u) (he : ExAt K H e v) : ExAt K H (c.put e) (.ref p) := by
  cases c with
  | l w x => exact ⟨p, v, u, rfl, hp, he, lf⟩
  | r w x => exact ⟨p, u, v, rfl, hp, lf, he⟩
  | times f => exact ⟨p, v, rfl, hp, he⟩
  | «by» i => exact ⟨p, v, rfl, hp, he⟩
  | whenL i c x => exact ⟨p, v, u, rfl, hp, he, lf⟩
  | whenR i c x => exact ⟨p, u, v, rfl, hp, lf, he⟩
  | whrL i c x => exact ⟨p, v, u, rfl, hp, he, lf⟩
  | whrR i c x => exact ⟨p, u, v, rfl, hp, lf, he⟩
theorem put_ok {many : Nat} {c : Cx1} {e : Ex} (o : c.ok many) (oe : ExOk many e) : ExOk many (c.put e) := by
  cases c with
  | l w x => exact ⟨oe, o.1⟩
  | r w x => exact ⟨o.1, oe⟩
  | times f => exact ⟨o, oe⟩
  | «by» i => exact ⟨o, oe⟩
  | whenL i c x => exact ⟨o.1, o.2.1, oe, o.2.2.1⟩
  | whenR i c x => exact ⟨o.1, o.2.1, o.2.2.1, oe⟩
  | whrL i c x => exact ⟨o.1, o.2.1, oe, o.2.2.1⟩
  | whrR i c x => exact ⟨o.1, o.2.1, o.2.2.1, oe⟩
theorem dep_pos (e : Ex) : 1 ≤ e.dep := by cases e <;> (unfold Ex.dep; omega)
theorem put_dep {many : Nat} {c : Cx1} {e : Ex} (o : c.ok many) : (c.put e).dep ≤ e.dep + 1 := by
  have he := dep_pos e
  cases c with
  | l w x => show max e.dep x.dep + 1 ≤ _; have := o.2; omega
  | r w x => show max x.dep e.dep + 1 ≤ _; have := o.2; omega
  | times f => exact Nat.le_refl _
  | «by» i => exact Nat.le_refl _
  | whenL i c x => show max e.dep x.dep + 1 ≤ _; have := o.2.2.2; omega
  | whenR i c x => show max x.dep e.dep + 1 ≤ _; have := o.2.2.2; omega
  | whrL i c x => show max e.dep x.dep + 1 ≤ _; have := o.2.2.2; omega
  | whrR i c x => show max x.dep e.dep + 1 ≤ _; have := o.2.2.2; omega
def putAll (cs : List Cx1) (e : Ex) : Ex := cs.foldl (fun e c => c.put e) e
theorem putAll_ok {many : Nat} : ∀ {cs : List Cx1} {e : Ex}, (∀ c ∈ cs, c.ok many) → ExOk many e → ExOk many (putAll cs e)
  | [], _, _, h => h
  | c :: cs, e, o, h => putAll_ok (cs := cs) (e := c.put e) (fun c' h' => o c' (List.mem_cons_of_mem _ h')) (put_ok (o c List.mem_cons_self) h)
theorem putAll_dep {many : Nat} : ∀ {cs : List Cx1} {e : Ex}, (∀ c ∈ cs, c.ok many) → (putAll cs e).dep ≤ e.dep + cs.length
  | [], _, _ => Nat.le_refl _
  | c :: cs, e, o => by
    have h1 := putAll_dep (cs := cs) (e := c.put e) (fun c' h' => o c' (List.mem_cons_of_mem _ h'))
    have h2 := put_dep (e := e) (o c List.mem_cons_self)
    show (putAll cs (c.put e)).dep ≤ _
    rw [List.length_cons]
    omega
def fac1 (rs : List Int) (F : Int) : Cx1 → Int
  | .times f => F * f
  | .by i => F * rs.getD i 0
  | .r .less _ => 0 - F
  | _ => F
def fac (rs : List Int) (cs : List Cx1) : Int := cs.foldl (fac1 rs) 1

/-! ### a greater part put in -/
def Btw (d m : Int) : Prop := (0 ≤ d ∧ d ≤ m) ∨ (m ≤ d ∧ d ≤ 0)
theorem btw_mul {f d m : Int} (h : Btw d m) : Btw (f * d) (f * m) := by
  rcases Int.le_total 0 f with hf | hf
  · rcases h with ⟨h1, h2⟩ | ⟨h1, h2⟩
    · exact .inl ⟨Int.mul_nonneg hf h1, Int.mul_le_mul_of_nonneg_left h2 hf⟩
    · exact .inr ⟨Int.mul_le_mul_of_nonneg_left h1 hf, Int.mul_nonpos_of_nonneg_of_nonpos hf h2⟩
  · rcases h with ⟨h1, h2⟩ | ⟨h1, h2⟩
    · exact .inr ⟨Int.mul_le_mul_of_nonpos_left hf h2, Int.mul_nonpos_of_nonpos_of_nonneg hf h1⟩
    · exact .inl ⟨Int.mul_nonneg_of_nonpos_of_nonpos hf h2, Int.mul_le_mul_of_nonpos_left hf h1⟩
theorem btw_zero {m : Int} : Btw 0 m := by
  unfold Btw
  omega
theorem btw_jw {d m x y z : Int} (w : W4) (h : Btw d m) (e : d = y - x) (hw : w ≠ .less) : Btw (jw w y z - jw w x z) m := by
  unfold Btw at *
  cases w with
  | sum => simp only [jw]; omega
  | less => exact absurd rfl hw
  | least => simp only [jw]; split <;> split <;> omega
  | most => simp only [jw]; split <;> split <;> omega
theorem btw_jw' {d m x y z : Int} (w : W4) (h : Btw d m) (e : d = y - x) (hw : w ≠ .less) : Btw (jw w z y - jw w z x) m := by
  unfold Btw at *
  cases w with
  | sum => simp only [jw]; omega
  | less => exact absurd rfl hw
  | least => simp only [jw]; split <;> split <;> omega
  | most => simp only [jw]; split <;> split <;> omega
theorem btw_step {rs ss : List Int} {c : Cx1} {e1 e2 : Ex} {F P : Int} (h : Btw (wo rs ss e2 - wo rs ss e1) (F * P)) : Btw (wo rs ss (c.put e2) - wo rs ss (c.put e1)) (fac1 rs F c * P) := by
  cases c with
  | l w x =>
    cases w with
    | less =>
      show Btw ((wo rs ss e2 - wo rs ss x) - (wo rs ss e1 - wo rs ss x)) (F * P)
      rw [show (wo rs ss e2 - wo rs ss x) - (wo rs ss e1 - wo rs ss x) = wo rs ss e2 - wo rs ss e1 by omega]
      exact h
    | sum => exact btw_jw .sum h rfl (by simp)
    | least => exact btw_jw .least h rfl (by simp)
    | most => exact btw_jw .most h rfl (by simp)
  | r w x =>
    cases w with
    | less =>
      show Btw ((wo rs ss x - wo rs ss e2) - (wo rs ss x - wo rs ss e1)) ((0 - F) * P)
      rw [Int.sub_mul, Int.zero_mul]
      unfold Btw at *
      omega
    | sum => exact btw_jw' .sum h rfl (by simp)
    | least => exact btw_jw' .least h rfl (by simp)
    | most => exact btw_jw' .most h rfl (by simp)
  | times f =>
    show Btw (f * wo rs ss e2 - f * wo rs ss e1) (F * f * P)
    rw [← Int.mul_sub, Int.mul_comm F f, Int.mul_assoc]
    exact btw_mul h
  | «by» i =>
    show Btw (rs.getD i 0 * wo rs ss e2 - rs.getD i 0 * wo rs ss e1) (F * rs.getD i 0 * P)
    rw [← Int.mul_sub, Int.mul_comm F, Int.mul_assoc]
    exact btw_mul h
  | whenL i c x =>
    show Btw ((if rs.getD i 0 < c then wo rs ss e2 else wo rs ss x) - (if rs.getD i 0 < c then wo rs ss e1 else wo rs ss x)) (F * P)
    split
    · exact h
    · rw [Int.sub_self]
      exact btw_zero
  | whenR i c x =>
    show Btw ((if rs.getD i 0 < c then wo rs ss x else wo rs ss e2) - (if rs.getD i 0 < c then wo rs ss x else wo rs ss e1)) (F * P)
    split
    · rw [Int.sub_self]
      exact btw_zero
    · exact h
  | whrL j c x =>
    show Btw ((if 1000 * ss.getD j 0 < c * ss.sum then wo rs ss e2 else wo rs ss x) - (if 1000 * ss.getD j 0 < c * ss.sum then wo rs ss e1 else wo rs ss x)) (F * P)
    split
    · exact h
    · rw [Int.sub_self]
      exact btw_zero
  | whrR j c x =>
    show Btw ((if 1000 * ss.getD j 0 < c * ss.sum then wo rs ss x else wo rs ss e2) - (if 1000 * ss.getD j 0 < c * ss.sum then wo rs ss x else wo rs ss e1)) (F * P)
    split
    · rw [Int.sub_self]
      exact btw_zero
    · exact h
theorem btw_all {rs ss : List Int} {P : Int} : ∀ {cs : List Cx1} {e1 e2 : Ex} {F : Int}, Btw (wo rs ss e2 - wo rs ss e1) (F * P) → Btw (wo rs ss (putAll cs e2) - wo rs ss (putAll cs e1)) (cs.foldl (fac1 rs) F * P)
  | [], _, _, _, h => h
  | c :: cs, e1, e2, F, h => btw_all (cs := cs) (e1 := c.put e1) (e2 := c.put e2) (F := fac1 rs F c) (btw_step h)
theorem moved {rs ss : List Int} {cs : List Cx1} {e : Ex} {p : Int} (h : 0 ≤ p * ss.sum) : Btw (wo rs ss (putAll cs (.two .sum e (.fig p))) - wo rs ss (putAll cs e)) (fac rs cs * p * ss.sum) := by
  rw [Int.mul_assoc]
  refine btw_all (F := 1) ?_
  show Btw (wo rs ss e + p * ss.sum - wo rs ss e) (1 * (p * ss.sum))
  rw [Int.one_mul]
  unfold Btw
  omega

/-! ### worths lie in their spans -/
theorem le_sum : ∀ {ss : List Int} {j : Nat}, (∀ x ∈ ss, 0 ≤ x) → j < ss.length → ss.getD j 0 ≤ ss.sum
  | [], _, _, h => by simp at h
  | x :: ss, 0, h, _ => by
    have := sum_nonneg (ms := ss) fun y hy => h y (List.mem_cons_of_mem _ hy)
    show x ≤ (x :: ss).sum
    rw [List.sum_cons]
    omega
  | x :: ss, j + 1, h, hj => by
    have h1 := le_sum (ss := ss) (j := j) (fun y hy => h y (List.mem_cons_of_mem _ hy)) (by simpa using hj)
    have h2 := h x List.mem_cons_self
    show ss.getD j 0 ≤ (x :: ss).sum
    rw [List.sum_cons]
    omega
theorem spn_le : ∀ e : Ex, (spn e).1 ≤ (spn e).2
  | .fig _ => Int.le_refl _
  | .reg _ => by
    show (-1000 : Int) ≤ 1000
    decide
  | .share _ => by
    show (0 : Int) ≤ 1000
    decide
  | .two w a b => by
    have ha := spn_le a
    have hb := spn_le b
    show (js w (spn a) (spn b)).1 ≤ (js w (spn a) (spn b)).2
    cases w with
    | sum => show _ + _ ≤ _ + _; omega
    | less => show _ - _ ≤ _ - _; omega
    | least => show mn _ _ ≤ mn _ _; unfold mn; split <;> split <;> omega
    | most => show mx _ _ ≤ mx _ _; unfold mx; split <;> split <;> omega
  | .times f a => by
    show mn _ _ ≤ mx _ _
    unfold mn mx
    split <;> split <;> omega
  | .by _ a => by
    have h1 : 0 ≤ ab (spn a).1 := by unfold ab; split <;> omega
    have h2 := le_mx (ab (spn a).1) (ab (spn a).2)
    show -1000 * _ ≤ 1000 * _
    omega
  | .when _ _ a b => by
    have ha := spn_le a
    have h1 := mn_le (spn a).1 (spn b).1
    have h2 := le_mx (spn a).2 (spn b).2
    show mn _ _ ≤ mx _ _
    omega
  | .whr _ _ a b => by
    have ha := spn_le a
    have h1 := mn_le (spn a).1 (spn b).1
    have h2 := le_mx (spn a).2 (spn b).2
    show mn _ _ ≤ mx _ _
    omega
theorem mulr_le {a b n : Int} (h : a ≤ b) (hn : 0 ≤ n) : a * n ≤ b * n := Int.mul_le_mul_of_nonneg_right h hn
theorem in_span {many : Nat} {rs ss : List Int} (hr : rs.length = 4) (hrb : ∀ x ∈ rs, -1000 ≤ x ∧ x ≤ 1000) (hs : ss.length = many) (hsb : ∀ x ∈ ss, 0 ≤ x) : ∀ e : Ex, ExOk many e → (spn e).1 * ss.sum ≤ wo rs ss e ∧ wo rs ss e ≤ (spn e).2 * ss.sum
  | .fig c, _ => ⟨Int.le_refl _, Int.le_refl _⟩
  | .reg i, o => by
    have hn := sum_nonneg hsb
    have h := hrb _ (getD_mem (ns := rs) (i := i) (by rw [hr]; exact o))
    exact ⟨mulr_le h.1 hn, mulr_le h.2 hn⟩
  | .share j, o => by
    have o : j < many := o
    have h1 := le_sum (j := j) hsb (by omega)
    have h2 := hsb _ (getD_mem (ns := ss) (i := j) (by omega))
    show 0 * ss.sum ≤ 1000 * ss.getD j 0 ∧ 1000 * ss.getD j 0 ≤ 1000 * ss.sum
    omega
  | .two w a b, o => by
    have ha := in_span hr hrb hs hsb a o.1
    have hb := in_span hr hrb hs hsb b o.2
    have hn := sum_nonneg hsb
    show (js w (spn a) (spn b)).1 * ss.sum ≤ jw w (wo rs ss a) (wo rs ss b) ∧ jw w (wo rs ss a) (wo rs ss b) ≤ (js w (spn a) (spn b)).2 * ss.sum
    cases w with
    | sum =>
      show ((spn a).1 + (spn b).1) * ss.sum ≤ wo rs ss a + wo rs ss b ∧ wo rs ss a + wo rs ss b ≤ ((spn a).2 + (spn b).2) * ss.sum
      rw [Int.add_mul, Int.add_mul]
      omega
    | less =>
      show ((spn a).1 - (spn b).2) * ss.sum ≤ wo rs ss a - wo rs ss b ∧ wo rs ss a - wo rs ss b ≤ ((spn a).2 - (spn b).1) * ss.sum
      rw [Int.sub_mul, Int.sub_mul]
      omega
    | least =>
      have h1 := mn_le (spn a).1 (spn b).1
      have h3 := mulr_le h1.1 hn
      have h4 := mulr_le h1.2 hn
      have h5 := mn_or (spn a).2 (spn b).2
      show mn (spn a).1 (spn b).1 * ss.sum ≤ (if wo rs ss b < wo rs ss a then wo rs ss b else wo rs ss a) ∧ (if wo rs ss b < wo rs ss a then wo rs ss b else wo rs ss a) ≤ mn (spn a).2 (spn b).2 * ss.sum
      rcases h5 with h5 | h5 <;> rw [h5] <;> split <;> omega
    | most =>
      have h1 := le_mx (spn a).2 (spn b).2
      have h3 := mulr_le h1.1 hn
      have h4 := mulr_le h1.2 hn
      have h5 := mx_or (spn a).1 (spn b).1
      show mx (spn a).1 (spn b).1 * ss.sum ≤ (if wo rs ss b > wo rs ss a then wo rs ss b else wo rs ss a) ∧ (if wo rs ss b > wo rs ss a then wo rs ss b else wo rs ss a) ≤ mx (spn a).2 (spn b).2 * ss.sum
      rcases h5 with h5 | h5 <;> rw [h5] <;> split <;> omega
  | .times f a, o => by
    have ha := in_span hr hrb hs hsb a o.2
    have hn := sum_nonneg hsb
    have m1 := mn_le (f * (spn a).1) (f * (spn a).2)
    have m2 := le_mx (f * (spn a).1) (f * (spn a).2)
    have n1 := mulr_le m1.1 hn
    have n2 := mulr_le m1.2 hn
    have n3 := mulr_le m2.1 hn
    have n4 := mulr_le m2.2 hn
    rw [Int.mul_assoc] at n1 n2 n3 n4
    show mn _ _ * ss.sum ≤ f * wo rs ss a ∧ f * wo rs ss a ≤ mx _ _ * ss.sum
    rcases Int.le_total 0 f with hf | hf
    · have p1 := Int.mul_le_mul_of_nonneg_left ha.1 hf
      have p2 := Int.mul_le_mul_of_nonneg_left ha.2 hf
      omega
    · have p1 := Int.mul_le_mul_of_nonpos_left hf ha.1
      have p2 := Int.mul_le_mul_of_nonpos_left hf ha.2
      omega
  | .by i a, o => by
    have ha := in_span hr hrb hs hsb a o.2
    have hn := sum_nonneg hsb
    have hg := hrb _ (getD_mem (ns := rs) (i := i) (by rw [hr]; exact o.1))
    generalize ht : mx (ab (spn a).1) (ab (spn a).2) = t
    have t1 : -t ≤ (spn a).1 ∧ (spn a).2 ≤ t := by
      have h2 := le_mx (ab (spn a).1) (ab (spn a).2)
      rw [ht] at h2
      have h3 : -(spn a).1 ≤ ab (spn a).1 := by unfold ab; split <;> omega
      have h4 : (spn a).2 ≤ ab (spn a).2 := by unfold ab; split <;> omega
      omega
    have w1 : -(t * ss.sum) ≤ wo rs ss a := by
      have := mulr_le t1.1 hn
      rw [Int.neg_mul] at this
      omega
    have w2 : wo rs ss a ≤ t * ss.sum := by
      have := mulr_le t1.2 hn
      omega
    show (-1000 * mx (ab (spn a).1) (ab (spn a).2)) * ss.sum ≤ rs.getD i 0 * wo rs ss a ∧ rs.getD i 0 * wo rs ss a ≤ (1000 * mx (ab (spn a).1) (ab (spn a).2)) * ss.sum
    rw [ht, Int.mul_assoc, Int.mul_assoc]
    generalize rs.getD i 0 = g at *
    generalize t * ss.sum = T at *
    generalize wo rs ss a = x at *
    have hT : 0 ≤ T := by omega
    rcases Int.le_total 0 g with hgn | hgn
    · have p1 := Int.mul_le_mul_of_nonneg_left w1 hgn
      have p2 := Int.mul_le_mul_of_nonneg_left w2 hgn
      have p3 := Int.mul_le_mul_of_nonneg_right hg.2 hT
      rw [Int.mul_neg] at p1
      omega
    · have p1 := Int.mul_le_mul_of_nonpos_left hgn w1
      have p2 := Int.mul_le_mul_of_nonpos_left hgn w2
      have p3 := Int.mul_le_mul_of_nonneg_right hg.1 hT
      rw [Int.mul_neg] at p1
      omega
  | .when i c a b, o => by
    have ha := in_span hr hrb hs hsb a o.2.2.1
    have hb := in_span hr hrb hs hsb b o.2.2.2
    have hn := sum_nonneg hsb
    have m1 := mn_le (spn a).1 (spn b).1
    have m2 := le_mx (spn a).2 (spn b).2
    have n1 := mulr_le m1.1 hn
    have n2 := mulr_le m1.2 hn
    have n3 := mulr_le m2.1 hn
    have n4 := mulr_le m2.2 hn
    show mn _ _ * ss.sum ≤ (if rs.getD i 0 < c then wo rs ss a else wo rs ss b) ∧ (if rs.getD i 0 < c then wo rs ss a else wo rs ss b) ≤ mx _ _ * ss.sum
    split <;> omega
  | .whr j c a b, o => by
    have ha := in_span hr hrb hs hsb a o.2.2.1
    have hb := in_span hr hrb hs hsb b o.2.2.2
    have hn := sum_nonneg hsb
    have m1 := mn_le (spn a).1 (spn b).1
    have m2 := le_mx (spn a).2 (spn b).2
    have n1 := mulr_le m1.1 hn
    have n2 := mulr_le m1.2 hn
    have n3 := mulr_le m2.1 hn
    have n4 := mulr_le m2.2 hn
    show mn _ _ * ss.sum ≤ (if 1000 * ss.getD j 0 < c * ss.sum then wo rs ss a else wo rs ss b) ∧ (if 1000 * ss.getD j 0 < c * ss.sum then wo rs ss a else wo rs ss b) ≤ mx _ _ * ss.sum
    split <;> omega

/-! ### promises -/
def spAround (K : PySem.W.Frag) : Sp := fun vs H Q _ => ∃ (a : Addr) (many n : Nat), vs = [.ref a, .int (many : Int)] ∧ 2 ≤ many ∧ many ≤ 3 ∧ HandAt H a n ∧ n ≤ 999998000 ∧
  ∀ H' p xs cs, But a H H' → HandAt H' a (n + 90) → p ≠ a → H' p = some (.lst xs) → CtxsAt K H' xs cs → (∀ c ∈ cs, c.ok many) → cs.length ≤ 4 → Q (.ref p) H'
def spPut (K : PySem.W.Frag) : Sp := fun vs H Q _ => ∃ (p : Addr) (v : V) (xs : List V) (cs : List Cx1) (e : Ex), vs = [.ref p, v] ∧ H p = some (.lst xs) ∧ CtxsAt K H xs cs ∧ ExAt K H e v ∧ ∀ H' u, Same H H' → ExAt K H' (putAll cs e) u → Q u H'
def spFac (K : PySem.W.Frag) (many : Nat) : Sp := fun vs H Q _ => ∃ (p : Addr) (r : V) (xs : List V) (cs : List Cx1) (rs : List Int), vs = [.ref p, r] ∧ H p = some (.lst xs) ∧ CtxsAt K H xs cs ∧ (∀ c ∈ cs, c.ok many) ∧ RegsAt K H rs r ∧ Q (.int (fac rs cs)) H
end NG

namespace NG
open PySem PySem.Spec PyProof.Rows L2

/-! ### xs[::-1] -/
theorem pe_revL {X : Cx} {e st : Expr} {te ts : TE} {pos p2 : Pos} (he : PE X e te) (hs : PE X st ts) : PE X (.Subscript e (.Slice none none (some st) p2) pos)
    (fun σ H Q => te σ H fun x H1 => ts σ H1 fun y H2 => y = .int (-1) ∧ ∃ a xs, x = .ref a ∧ SqL X.K H2 a xs ∧ ∀ p, H2 p = none → Q (.ref p) (upd H2 p (.lst xs.reverse))) := by
  refine ⟨fun pins s σ H Q I h => ?_⟩
  refine Subscript_ (thn (he.run pins s σ H _ I h) fun v s1 ⟨x, H1, I1, r1, q1⟩ => ?_)
  refine wpAny_Slice ?_
  rw [evalPart_none]
  refine wpAny_pure (wpAny_pure ?_)
  rw [evalPart_some]
  refine thn (hs.run pins s1 σ H1 _ I1 q1) fun vk s2 ⟨y, H2, I2, r2, q2⟩ => ?_
  obtain ⟨rfl, a, xs, rfl, hx, q⟩ := q2
  obtain ⟨t, rfl⟩ := r2
  cases r1
  obtain ⟨its, rv, ht, hz⟩ := I2.list hx
  have I3 : Inv X pins σ H2 { s2 with heap := s2.heap.push { cls := .type "slice", data := .fields #[.none, .none, .int (-1) t] } } := I2.kept (t' := s2.toks) fun b ob q => Heap.get?_push_of_some _ q
  obtain ⟨its', rv', ht', _⟩ := I3.list hx
  have hl := rv'.length
  refine tail_any (ops := [.ref a, .ref s2.heap.objs.size]) ht'.isList.typeIs slot_list_getitem.lookup ?_ (by with_unfolding_all rfl)
  refine wpAny_getItem_list_slice ht'.isList (Heap.IsSliceOf.new ..) .none .none (.int (-1) t) (by decide) ?_ (by rw [List.size_toArray]; omega)
  rw [PySem.W.krv_pick]
  refine ⟨.ref _, _, I3.laid (t' := s2.toks) (o := .lst xs.reverse) (fun b ob q => Heap.get?_push_of_some _ q) (Nat.le_refl _) ?_, rfl, q _ (I3.hok.fresh (Nat.le_refl _))⟩
  refine ⟨by rw [List.length_reverse]; exact hz, its'.reverse, 0, ?_, Heap.get?_push_size _ rfl⟩
  have rev : ∀ {xs : List V} {us : List Value}, Vals xs us → Vals xs.reverse us.reverse := by
    intro xs us r
    induction r with
    | nil => exact .nil
    | cons h t ih =>
      rw [List.reverse_cons, List.reverse_cons]
      exact ih.append (.cons h .nil)
  exact rev rv'

/-! ### calls by keywords alone, handed in from the last parameter to the first -/
theorem Vals.rev {xs : List V} {us : List Value} (r : Vals xs us) : Vals xs.reverse us.reverse := by
  induction r with
  | nil => exact .nil
  | cons h t ih =>
    rw [List.reverse_cons, List.reverse_cons]
    exact ih.append (.cons h .nil)
structure CalK (P : Program) (w : World) (K : PySem.W.Frag) (mg : Str → Option Value) (base : Heap) (k : Nat) (x : Str) (ks : List Str) (sp : Sp) : Prop where
  ex : ∃ (f : Addr) (fd : FuncData), FnG P w K mg base k f fd ks.reverse sp ∧ mg x = some (.ref f) ∧ PySem.W.keepIn K (.ref f) = true ∧ ∀ (s : Shared) (ws : List Value), ws.length = ks.length → BindsTo s fd ⟨[], ks.zip ws⟩ (ks.reverse.zip ws.reverse)
section
variable {X : Cx} {k j : Nat} {x : Str} {ks : List Str} {sp : Sp} {p pos : Pos} {kws : List Keyword} {tk : TA}
theorem pe_kw (c : CalK X.prog X.w X.K X.mg X.base k x ks sp) (hgd : X.A.guards = some []) (hr : Room j X.A) (hk : k ≤ j) (hg : Gl X x) (hkw : PK X kws tk) (hall : (backToKw pos (keywordEach kws X.env)).all (·.1.isSome) = true := by rfl) (hks : (backToKw pos (keywordEach kws X.env)).filterMap (·.1) = ks := by rfl)
    (hdb : (x == ("__debug__" : Str)) = false := by decide) (hpl : ((backTo pos (starEach [] X.env)).any (·.1) || (backToKw pos (keywordEach kws X.env)).any (·.1.isNone)) = false := by rfl) :
    PE X (.Call (.Name x p) [] kws pos) (fun σ H Q => tk σ H fun zs H2 => zs.length = ks.length ∧ sp zs.reverse H2 Q E0) := by
  obtain ⟨f, fd, F, hm, kp, b⟩ := c.ex
  refine ⟨fun pins s σ H Q I h => wpAny_Call_Name_kw (ld_glob I hg hm ?_ hdb)⟩
  refine PySem.W.callWith_KW0 (h₀ := X.base) I.ok.mod.kin kp hall (thn (hkw.run pos pins s σ H _ I h) fun ws s2 ⟨zs, H2, I2, rz, hl, q⟩ => ⟨I2.kIn, ?_⟩) hpl
  rw [hks]
  refine wpAny_call (codeAny_mono (F.run X.A X.stack s2 H2 ⟨[], ks.zip ws⟩ ws.reverse zs.reverse Q hgd (hr.mono hk) I2.env0 (b s2 ws (by rw [← rz.length]; exact hl)) (Vals.rev rz) q) fun res s' hq => ?_)
  match res, hq with
  | .ok (.ret u), hq => exact I2.after hq
  | .ok .next, hq => exact False.elim hq
  | .ok .brk, hq => exact False.elim hq
  | .ok .cont, hq => exact False.elim hq
  | .error e, hq => exact False.elim hq
end

/-! ### an expression as its items -/
inductive Itm where
  | s (x : Str) | i (c : Int) | k (e : Ex)
def ItAt (K : PySem.W.Frag) (H : Hp) : Itm → V → Prop
  | .s x, v => v = .str x
  | .i c, v => v = .int c
  | .k e, v => ExAt K H e v
def ItsAt (K : PySem.W.Frag) (H : Hp) : List V → List Itm → Prop
  | [], [] => True
  | v :: vs, t :: ts => ItAt K H t v ∧ ItsAt K H vs ts
  | _, _ => False
def Ex.items : Ex → List Itm
  | .fig c => [.s "fig", .i c]
  | .reg i => [.s "reg", .i (i : Int)]
  | .share j => [.s "share", .i (j : Int)]
  | .two w a b => [.s (wn w), .k a, .k b]
  | .times f a => [.s "times", .i f, .k a]
  | .by i a => [.s "by", .i (i : Int), .k a]
  | .when i c a b => [.s "when", .i (i : Int), .i c, .k a, .k b]
  | .whr j c a b => [.s "where", .i (j : Int), .i c, .k a, .k b]
def kidsI : List Itm → List Ex
  | [] => []
  | .k e :: r => e :: kidsI r
  | .s _ :: r => kidsI r
  | .i _ :: r => kidsI r
theorem kidsI_items (e : Ex) : kidsI e.items = e.kids := by cases e <;> rfl
theorem kidsI_append : ∀ (l r : List Itm), kidsI (l ++ r) = kidsI l ++ kidsI r
  | [], r => rfl
  | .k e :: l, r => by
    show e :: kidsI (l ++ r) = e :: (kidsI l ++ kidsI r)
    rw [kidsI_append l r]
  | .s _ :: l, r => kidsI_append l r
  | .i _ :: l, r => kidsI_append l r
theorem ExAt.its {K : PySem.W.Frag} {H : Hp} : ∀ {e : Ex} {v : V}, ExAt K H e v → ∃ p xs, v = .ref p ∧ SqT K H p xs ∧ ItsAt K H xs e.items
  | .fig _, _, ⟨p, e, q⟩ => ⟨p, _, e, q, rfl, rfl, trivial⟩
  | .reg _, _, ⟨p, e, q⟩ => ⟨p, _, e, q, rfl, rfl, trivial⟩
  | .share _, _, ⟨p, e, q⟩ => ⟨p, _, e, q, rfl, rfl, trivial⟩
  | .two _ _ _, _, ⟨p, x, y, e, q, a, b⟩ => ⟨p, _, e, q, rfl, a, b, trivial⟩
  | .times _ _, _, ⟨p, x, e, q, a⟩ => ⟨p, _, e, q, rfl, rfl, a, trivial⟩
  | .by _ _, _, ⟨p, x, e, q, a⟩ => ⟨p, _, e, q, rfl, rfl, a, trivial⟩
  | .when _ _ _ _, _, ⟨p, x, y, e, q, a, b⟩ => ⟨p, _, e, q, rfl, rfl, rfl, a, b, trivial⟩
  | .whr _ _ _ _, _, ⟨p, x, y, e, q, a, b⟩ => ⟨p, _, e, q, rfl, rfl, rfl, a, b, trivial⟩
theorem ItsAt.get {K : PySem.W.Frag} {H : Hp} : ∀ {vs : List V} {ts : List Itm} {k : Nat} {v : V}, ItsAt K H vs ts → vs[k]? = some v → ∃ t, ts[k]? = some t ∧ ItAt K H t v
  | [], [], _, _, _, h => by simp at h
  | v' :: vs, t :: ts, 0, v, ⟨x, r⟩, h => by
    have : v' = v := Option.some.inj h
    subst this
    exact ⟨t, rfl, x⟩
  | v' :: vs, t :: ts, k + 1, v, ⟨x, r⟩, h => ItsAt.get (k := k) r h
theorem ItsAt.len {K : PySem.W.Frag} {H : Hp} : ∀ {vs : List V} {ts : List Itm}, ItsAt K H vs ts → vs.length = ts.length
  | [], [], _ => rfl
  | _ :: _, _ :: _, ⟨_, r⟩ => by rw [List.length_cons, List.length_cons, r.len]
theorem tyx_tup {K : PySem.W.Frag} {H : Hp} {p : Addr} {xs : List V} (h : SqT K H p xs) : TyX K H (.ref p) (.type "tuple") := by
  rcases h with (h | ⟨o, h⟩) | ⟨o, its, n, h1, h2, _⟩
  · exact .base (.tup h)
  · exact .fTuple h
  · exact .kTuple h1 h2
def Itm.isK : Itm → Bool
  | .k _ => true
  | _ => false
theorem isi_item {K : PySem.W.Frag} {H : Hp} {t : Itm} {v : V} (h : ItAt K H t v) : ∃ ty, TyX K H v ty ∧ PySem.W.kitOne K ty (.type "tuple") = some t.isK := by
  cases t with
  | s x =>
    have h : v = .str x := h
    subst h
    exact ⟨_, .base (.str x), kit_ty (show kitB "str" "tuple" = some false by decide +kernel)⟩
  | i c =>
    have h : v = .int c := h
    subst h
    exact ⟨_, .base (.int c), kit_ty (show kitB "int" "tuple" = some false by decide +kernel)⟩
  | k e =>
    obtain ⟨p, xs, rfl, hp, _⟩ := ExAt.its h
    exact ⟨_, tyx_tup hp, kit_ty (show kitB "tuple" "tuple" = some true by decide +kernel)⟩

/-! ### as data, for repr -/
def toI : Itm → (Ex → PyData) → PyData
  | .s x, _ => .str x
  | .i c, _ => .int c
  | .k e, f => f e
def toD : Ex → PyData
  | .fig c => .tuple [.str "fig", .int c]
  | .reg i => .tuple [.str "reg", .int (i : Int)]
  | .share j => .tuple [.str "share", .int (j : Int)]
  | .two w a b => .tuple [.str (wn w), toD a, toD b]
  | .times f a => .tuple [.str "times", .int f, toD a]
  | .by i a => .tuple [.str "by", .int (i : Int), toD a]
  | .when i c a b => .tuple [.str "when", .int (i : Int), .int c, toD a, toD b]
  | .whr j c a b => .tuple [.str "where", .int (j : Int), .int c, toD a, toD b]
theorem ExAt.dp {K : PySem.W.Frag} {H : Hp} : ∀ {e : Ex} {v : V}, ExAt K H e v → Dp K H v (toD e)
  | .fig _, _, ⟨p, e, q⟩ => by subst e; exact .tup q (.cons (.str _) (.cons (.int _) .nil))
  | .reg _, _, ⟨p, e, q⟩ => by subst e; exact .tup q (.cons (.str _) (.cons (.int _) .nil))
  | .share _, _, ⟨p, e, q⟩ => by subst e; exact .tup q (.cons (.str _) (.cons (.int _) .nil))
  | .two _ _ _, _, ⟨p, x, y, e, q, a, b⟩ => by subst e; exact .tup q (.cons (.str _) (.cons a.dp (.cons b.dp .nil)))
  | .times _ _, _, ⟨p, x, e, q, a⟩ => by subst e; exact .tup q (.cons (.str _) (.cons (.int _) (.cons a.dp .nil)))
  | .by _ _, _, ⟨p, x, e, q, a⟩ => by subst e; exact .tup q (.cons (.str _) (.cons (.int _) (.cons a.dp .nil)))
  | .when _ _ _ _, _, ⟨p, x, y, e, q, a, b⟩ => by subst e; exact .tup q (.cons (.str _) (.cons (.int _) (.cons (.int _) (.cons a.dp (.cons b.dp .nil)))))
  | .whr _ _ _ _, _, ⟨p, x, y, e, q, a, b⟩ => by subst e; exact .tup q (.cons (.str _) (.cons (.int _) (.cons (.int _) (.cons a.dp (.cons b.dp .nil)))))
/-- short enough to be shown: every number below 2 ^ 600, every sign small -/
structure Shw (d : PyData) (w k : Nat) : Prop where
  sh : d.showable = true
  lf : d.leavesShort 700 = true
  wt : d.weight ≤ w
  dp : d.depth ≤ k
theorem log_of {i : Int} (h : i.natAbs < 2 ^ 600) : i.natAbs.log2 < 600 := PySem.Flt.log2_lt_of (by decide) h
theorem Shw.int {i : Int} (h : i.natAbs < 2 ^ 600) : Shw (.int i) 601 0 := by
  have hl := log_of h
  refine ⟨?_, ?_, ?_, Nat.le_refl _⟩
  · show decide (i.natAbs.log2 < 1920) = true
    exact decide_eq_true (by omega)
  · show decide ((PyData.shown (.int i)).length ≤ 700) = true
    refine decide_eq_true ?_
    have e := int_text_length_le (k := 600) (by decide) hl
    show (Str.ofString (toString i)).length ≤ 700
    rw [PySem.ofString_length]
    omega
  · show (if i == 0 then 0 else i.natAbs.log2 + 1) ≤ 601
    split <;> omega
theorem Shw.small {i : Int} (h : i.natAbs < 2 ^ 15) : Shw (.int i) 15 0 := by
  have hl : i.natAbs.log2 < 15 := PySem.Flt.log2_lt_of (by decide) h
  have h6 := Shw.int (i := i) (Nat.lt_of_lt_of_le h (Nat.pow_le_pow_right (by decide) (by decide)))
  refine ⟨h6.sh, h6.lf, ?_, Nat.le_refl _⟩
  show (if i == 0 then 0 else i.natAbs.log2 + 1) ≤ 15
  split <;> omega
theorem Shw.str {x : Str} (h : (x.cps.toList.all fun c => decide (c < 16 ^ 8)) = true) (hl : x.cps.size ≤ 10) : Shw (.str x) 10 0 := ⟨rfl, h, hl, Nat.le_refl _⟩
structure ShwAll (ds : List PyData) (w k : Nat) : Prop where
  sh : PyData.showableAll ds = true
  lf : PyData.leavesShortAll 700 ds = true
  wt : PyData.weightAll ds ≤ w
  dp : PyData.depthAll ds ≤ k
theorem ShwAll.nil {k : Nat} : ShwAll [] 0 k := ⟨rfl, rfl, Nat.le_refl _, Nat.zero_le _⟩
theorem ShwAll.cons {d : PyData} {ds : List PyData} {w1 w2 k1 k2 k : Nat} (h1 : Shw d w1 k1) (h2 : ShwAll ds w2 k2) (hk1 : k1 ≤ k) (hk2 : k2 ≤ k) : ShwAll (d :: ds) (w1 + 1 + w2) k := by
  refine ⟨?_, ?_, ?_, ?_⟩
  · show (d.showable && PyData.showableAll ds) = true
    rw [h1.sh, h2.sh]
    rfl
  · show (d.leavesShort 700 && PyData.leavesShortAll 700 ds) = true
    rw [h1.lf, h2.lf]
    rfl
  · show d.weight + 1 + PyData.weightAll ds ≤ _
    have := h1.wt
    have := h2.wt
    omega
  · show max d.depth (PyData.depthAll ds) ≤ k
    have := h1.dp
    have := h2.dp
    omega
theorem ShwAll.tup {ds : List PyData} {w k : Nat} (h : ShwAll ds w k) : Shw (.tuple ds) w (k + 1) := ⟨h.sh, h.lf, h.wt, by show PyData.depthAll ds + 1 ≤ k + 1; have := h.dp; omega⟩
theorem ShwAll.lst {ds : List PyData} {w k : Nat} (h : ShwAll ds w k) : Shw (.list ds) w (k + 1) := ⟨h.sh, h.lf, h.wt, by show PyData.depthAll ds + 1 ≤ k + 1; have := h.dp; omega⟩
theorem Shw.mono {d : PyData} {w w' k k' : Nat} (h : Shw d w k) (hw : w ≤ w') (hk : k ≤ k') : Shw d w' k' := ⟨h.sh, h.lf, Nat.le_trans h.wt hw, Nat.le_trans h.dp hk⟩
theorem Shw.fits {d : PyData} {w k : Nat} (h : Shw d w k) (hw : w ≤ 20000) : d.shown.length ≤ sizeLine := by
  have := PyData.shown_le 700 (by decide) d h.lf
  have := h.wt
  have e : sizeLine = 16777216 := by decide
  omega
def wgt : Nat → Nat
  | 0 => 0
  | n + 1 => 2 * wgt n + 60
theorem wgt_mono : ∀ {m n : Nat}, m ≤ n → wgt m ≤ wgt n
  | 0, _, _ => Nat.zero_le _
  | m + 1, 0, h => absurd h (by omega)
  | m + 1, n + 1, h => by
    have := wgt_mono (m := m) (n := n) (by omega)
    show 2 * wgt m + 60 ≤ 2 * wgt n + 60
    omega
theorem shw_ex {many : Nat} (hm : many ≤ 1000) : ∀ {e : Ex}, ExOk many e → Shw (toD e) (wgt e.dep) e.dep
  | .fig c, o => (ShwAll.tup (.cons (.str (by decide) (by decide)) (.cons (.small (by have := o.1; have := o.2; omega)) .nil (Nat.le_refl 0) (Nat.le_refl 0)) (Nat.le_refl 0) (Nat.le_refl 0))).mono (show _ ≤ wgt 1 by decide) (show 0 + 1 ≤ 1 by decide)
  | .reg i, o => by
    have o : i < 4 := o
    exact (ShwAll.tup (.cons (.str (by decide) (by decide)) (.cons (.small (by omega)) .nil (Nat.le_refl 0) (Nat.le_refl 0)) (Nat.le_refl 0) (Nat.le_refl 0))).mono (show _ ≤ wgt 1 by decide) (show 0 + 1 ≤ 1 by decide)
  | .share j, o => by
    have o : j < many := o
    exact (ShwAll.tup (.cons (.str (by decide) (by decide)) (.cons (.small (by omega)) .nil (Nat.le_refl 0) (Nat.le_refl 0)) (Nat.le_refl 0) (Nat.le_refl 0))).mono (show _ ≤ wgt 1 by decide) (show 0 + 1 ≤ 1 by decide)
  | .two w a b, o => by
    have ha := shw_ex hm (e := a) o.1
    have hb := shw_ex hm (e := b) o.2
    have hw : Shw (.str (wn w)) 10 0 := by cases w <;> exact .str (by decide) (by decide)
    have h1 := wgt_mono (Nat.le_max_left a.dep b.dep)
    have h2 := wgt_mono (Nat.le_max_right a.dep b.dep)
    refine (ShwAll.tup (.cons hw (.cons ha (.cons hb .nil (Nat.le_refl _) (Nat.zero_le _)) (Nat.le_max_left a.dep b.dep) (Nat.le_max_right a.dep b.dep)) (Nat.zero_le _) (Nat.le_refl _))).mono ?_ (Nat.le_refl _)
    show 10 + 1 + (wgt a.dep + 1 + (wgt b.dep + 1 + 0)) ≤ 2 * wgt (max a.dep b.dep) + 60
    omega
  | .times f a, o => by
    have ha := shw_ex hm (e := a) o.2
    refine (ShwAll.tup (.cons (.str (by decide) (by decide)) (.cons (.small (by have := o.1; omega)) (.cons ha .nil (Nat.le_refl _) (Nat.zero_le _)) (Nat.zero_le _) (Nat.le_refl _)) (Nat.zero_le _) (Nat.le_refl _))).mono ?_ (Nat.le_refl _)
    show 10 + 1 + (15 + 1 + (wgt a.dep + 1 + 0)) ≤ 2 * wgt a.dep + 60
    omega
  | .by i a, o => by
    have ha := shw_ex hm (e := a) o.2
    refine (ShwAll.tup (.cons (.str (by decide) (by decide)) (.cons (.small (by have := o.1; omega)) (.cons ha .nil (Nat.le_refl _) (Nat.zero_le _)) (Nat.zero_le _) (Nat.le_refl _)) (Nat.zero_le _) (Nat.le_refl _))).mono ?_ (Nat.le_refl _)
    show 10 + 1 + (15 + 1 + (wgt a.dep + 1 + 0)) ≤ 2 * wgt a.dep + 60
    omega
  | .when i c a b, o => by
    have ha := shw_ex hm (e := a) o.2.2.1
    have hb := shw_ex hm (e := b) o.2.2.2
    have h1 := wgt_mono (Nat.le_max_left a.dep b.dep)
    have h2 := wgt_mono (Nat.le_max_right a.dep b.dep)
    refine (ShwAll.tup (.cons (.str (by decide) (by decide)) (.cons (.small (by have := o.1; omega)) (.cons (.small (by have := o.2.1; omega)) (.cons ha (.cons hb .nil (Nat.le_refl _) (Nat.zero_le _)) (Nat.le_max_left a.dep b.dep) (Nat.le_max_right a.dep b.dep)) (Nat.zero_le _) (Nat.le_refl _)) (Nat.zero_le _) (Nat.le_refl _)) (Nat.zero_le _) (Nat.le_refl _))).mono ?_ (Nat.le_refl _)
    show 10 + 1 + (15 + 1 + (15 + 1 + (wgt a.dep + 1 + (wgt b.dep + 1 + 0)))) ≤ 2 * wgt (max a.dep b.dep) + 60
    omega
  | .whr i c a b, o => by
    have ha := shw_ex hm (e := a) o.2.2.1
    have hb := shw_ex hm (e := b) o.2.2.2
    have h1 := wgt_mono (Nat.le_max_left a.dep b.dep)
    have h2 := wgt_mono (Nat.le_max_right a.dep b.dep)
    refine (ShwAll.tup (.cons (.str (by decide) (by decide)) (.cons (.small (by have := o.1; omega)) (.cons (.small (by have := o.2.1; omega)) (.cons ha (.cons hb .nil (Nat.le_refl _) (Nat.zero_le _)) (Nat.le_max_left a.dep b.dep) (Nat.le_max_right a.dep b.dep)) (Nat.zero_le _) (Nat.le_refl _)) (Nat.zero_le _) (Nat.le_refl _)) (Nat.zero_le _) (Nat.le_refl _))).mono ?_ (Nat.le_refl _)
    show 10 + 1 + (15 + 1 + (15 + 1 + (wgt a.dep + 1 + (wgt b.dep + 1 + 0)))) ≤ 2 * wgt (max a.dep b.dep) + 60
    omega
/-- numbers of spans and worths stay below 2 ^ 600 -/
theorem spn_bnd : ∀ {many : Nat} {e : Ex}, ExOk many e → (spn e).1.natAbs ≤ 1000 * 2000 ^ e.dep ∧ (spn e).2.natAbs ≤ 1000 * 2000 ^ e.dep := by
  intro many e
  have up : ∀ {m n : Nat}, m ≤ n → 1000 * 2000 ^ m ≤ 1000 * 2000 ^ n := fun h => Nat.mul_le_mul_left _ (Nat.pow_le_pow_right (by decide) h)
  have nx : ∀ n : Nat, 1000 * 2000 ^ (n + 1) = 2000 * (1000 * 2000 ^ n) := fun n => by rw [Nat.pow_succ]; omega
  induction e with
  | fig c =>
    intro o
    have := o.1
    have := o.2
    show c.natAbs ≤ 1000 * 2000 ^ 1 ∧ c.natAbs ≤ 1000 * 2000 ^ 1
    omega
  | reg i =>
    intro o
    show (-1000 : Int).natAbs ≤ 1000 * 2000 ^ 1 ∧ (1000 : Int).natAbs ≤ 1000 * 2000 ^ 1
    decide
  | share j =>
    intro o
    show (0 : Int).natAbs ≤ 1000 * 2000 ^ 1 ∧ (1000 : Int).natAbs ≤ 1000 * 2000 ^ 1
    decide
  | two w a b iha ihb =>
    intro o
    have ha := iha o.1
    have hb := ihb o.2
    have h1 := up (Nat.le_max_left a.dep b.dep)
    have h2 := up (Nat.le_max_right a.dep b.dep)
    show (js w (spn a) (spn b)).1.natAbs ≤ 1000 * 2000 ^ (max a.dep b.dep + 1) ∧ (js w (spn a) (spn b)).2.natAbs ≤ 1000 * 2000 ^ (max a.dep b.dep + 1)
    rw [nx]
    cases w with
    | sum => simp only [js]; omega
    | less => simp only [js]; omega
    | least => simp only [js, mn]; split <;> split <;> omega
    | most => simp only [js, mx]; split <;> split <;> omega
  | times f a ih =>
    intro o
    have ha := ih o.2
    have hf : f.natAbs ≤ 9 := by have := o.1; omega
    have m1 : (f * (spn a).1).natAbs ≤ 9 * (1000 * 2000 ^ a.dep) := by rw [Int.natAbs_mul]; exact Nat.mul_le_mul hf ha.1
    have m2 : (f * (spn a).2).natAbs ≤ 9 * (1000 * 2000 ^ a.dep) := by rw [Int.natAbs_mul]; exact Nat.mul_le_mul hf ha.2
    show (mn _ _).natAbs ≤ 1000 * 2000 ^ (a.dep + 1) ∧ (mx _ _).natAbs ≤ 1000 * 2000 ^ (a.dep + 1)
    rw [nx]
    unfold mn mx
    split <;> split <;> omega
  | «by» i a ih =>
    intro o
    have ha := ih o.2
    have m1 : (mx (ab (spn a).1) (ab (spn a).2)).natAbs ≤ 1000 * 2000 ^ a.dep := by
      unfold mx ab
      repeat' split
      all_goals omega
    show (-1000 * mx _ _).natAbs ≤ 1000 * 2000 ^ (a.dep + 1) ∧ (1000 * mx _ _).natAbs ≤ 1000 * 2000 ^ (a.dep + 1)
    rw [nx]
    omega
  | when i c a b iha ihb =>
    intro o
    have ha := iha o.2.2.1
    have hb := ihb o.2.2.2
    have h1 := up (Nat.le_max_left a.dep b.dep)
    have h2 := up (Nat.le_max_right a.dep b.dep)
    show (mn _ _).natAbs ≤ 1000 * 2000 ^ (max a.dep b.dep + 1) ∧ (mx _ _).natAbs ≤ 1000 * 2000 ^ (max a.dep b.dep + 1)
    rw [nx]
    unfold mn mx
    split <;> split <;> omega
  | whr i c a b iha ihb =>
    intro o
    have ha := iha o.2.2.1
    have hb := ihb o.2.2.2
    have h1 := up (Nat.le_max_left a.dep b.dep)
    have h2 := up (Nat.le_max_right a.dep b.dep)
    show (mn _ _).natAbs ≤ 1000 * 2000 ^ (max a.dep b.dep + 1) ∧ (mx _ _).natAbs ≤ 1000 * 2000 ^ (max a.dep b.dep + 1)
    rw [nx]
    unfold mn mx
    split <;> split <;> omega
theorem bnd_600 {d : Nat} {x : Int} (hd : d ≤ 10) (h : x.natAbs ≤ 1000 * 2000 ^ d) : x.natAbs < 2 ^ 300 := by
  have h1 : 1000 * 2000 ^ d ≤ 1000 * 2000 ^ 10 := Nat.mul_le_mul_left _ (Nat.pow_le_pow_right (by decide) hd)
  have h2 : (1000 * 2000 ^ 10 : Nat) < 2 ^ 300 := by decide
  omega
end NG

namespace NG
open PySem PySem.Spec PyProof.Rows L2

/-! ### leaves and borders -/
def lvs : Ex → Int
  | .fig _ => 1
  | .reg _ => 1
  | .share _ => 1
  | .two .sum a b => lvs a * lvs b
  | .two .less a b => lvs a * lvs b
  | .two .least a b => lvs a + lvs b
  | .two .most a b => lvs a + lvs b
  | .times _ a => lvs a
  | .by _ a => lvs a
  | .when _ _ a b => mx (lvs a) (lvs b)
  | .whr _ _ a b => lvs a + lvs b
def bds : Ex → Int
  | .fig _ => 0
  | .reg _ => 0
  | .share _ => 0
  | .two .sum a b => bds a + bds b
  | .two .less a b => bds a + bds b
  | .two .least a b => bds a + bds b + lvs a * lvs b
  | .two .most a b => bds a + bds b + lvs a * lvs b
  | .times _ a => bds a
  | .by _ a => bds a
  | .when _ _ a b => mx (bds a) (bds b)
  | .whr _ _ a b => bds a + bds b + 1
def bnd : Nat → Nat
  | 0 => 1
  | n + 1 => bnd n * bnd n + 2 * bnd n
theorem bnd_pos : ∀ n, 1 ≤ bnd n
  | 0 => Nat.le_refl _
  | n + 1 => by
    have := bnd_pos n
    show 1 ≤ bnd n * bnd n + 2 * bnd n
    omega
theorem bnd_up : ∀ {m n : Nat}, m ≤ n → bnd m ≤ bnd n := by
  intro m n h
  induction h with
  | refl => exact Nat.le_refl _
  | step _ ih =>
    refine Nat.le_trans ih ?_
    show _ ≤ bnd _ * bnd _ + 2 * bnd _
    omega
theorem lb_bnd : ∀ e : Ex, (lvs e).natAbs ≤ bnd e.dep ∧ (bds e).natAbs ≤ bnd e.dep := by
  intro e
  have pm : ∀ {x y : Int} {B : Nat}, x.natAbs ≤ B → y.natAbs ≤ B → (x * y).natAbs ≤ B * B := fun hx hy => by rw [Int.natAbs_mul]; exact Nat.mul_le_mul hx hy
  induction e with
  | fig c => exact ⟨by show 1 ≤ bnd 1; exact bnd_pos 1, Nat.zero_le _⟩
  | reg c => exact ⟨by show 1 ≤ bnd 1; exact bnd_pos 1, Nat.zero_le _⟩
  | share c => exact ⟨by show 1 ≤ bnd 1; exact bnd_pos 1, Nat.zero_le _⟩
  | two w a b iha ihb =>
    have h1 := bnd_up (Nat.le_max_left a.dep b.dep)
    have h2 := bnd_up (Nat.le_max_right a.dep b.dep)
    have hm := pm (Nat.le_trans iha.1 h1) (Nat.le_trans ihb.1 h2)
    show (lvs (.two w a b)).natAbs ≤ bnd (max a.dep b.dep) * bnd (max a.dep b.dep) + 2 * bnd (max a.dep b.dep) ∧ (bds (.two w a b)).natAbs ≤ bnd (max a.dep b.dep) * bnd (max a.dep b.dep) + 2 * bnd (max a.dep b.dep)
    cases w <;> simp only [lvs, bds] <;> omega
  | times f a ih =>
    show (lvs a).natAbs ≤ bnd a.dep * bnd a.dep + 2 * bnd a.dep ∧ (bds a).natAbs ≤ bnd a.dep * bnd a.dep + 2 * bnd a.dep
    omega
  | «by» i a ih =>
    show (lvs a).natAbs ≤ bnd a.dep * bnd a.dep + 2 * bnd a.dep ∧ (bds a).natAbs ≤ bnd a.dep * bnd a.dep + 2 * bnd a.dep
    omega
  | when i c a b iha ihb =>
    have h1 := bnd_up (Nat.le_max_left a.dep b.dep)
    have h2 := bnd_up (Nat.le_max_right a.dep b.dep)
    show (mx (lvs a) (lvs b)).natAbs ≤ bnd (max a.dep b.dep) * bnd (max a.dep b.dep) + 2 * bnd (max a.dep b.dep) ∧ (mx (bds a) (bds b)).natAbs ≤ bnd (max a.dep b.dep) * bnd (max a.dep b.dep) + 2 * bnd (max a.dep b.dep)
    unfold mx
    split <;> split <;> omega
  | whr i c a b iha ihb =>
    have h1 := bnd_up (Nat.le_max_left a.dep b.dep)
    have h2 := bnd_up (Nat.le_max_right a.dep b.dep)
    have h3 := bnd_pos (max a.dep b.dep)
    have h4 : bnd (max a.dep b.dep) ≤ bnd (max a.dep b.dep) * bnd (max a.dep b.dep) := Nat.le_mul_of_pos_left _ h3
    show (lvs a + lvs b).natAbs ≤ bnd (max a.dep b.dep) * bnd (max a.dep b.dep) + 2 * bnd (max a.dep b.dep) ∧ (bds a + bds b + 1).natAbs ≤ bnd (max a.dep b.dep) * bnd (max a.dep b.dep) + 2 * bnd (max a.dep b.dep)
    omega
theorem lvs_mul {e : Ex} {y : Int} (h : e.dep ≤ 5) : CMul (lvs e) y := by
  have h1 := (lb_bnd e).1
  have h2 := bnd_up h
  have h3 : bnd 5 < 2 ^ 64 := by decide
  exact .inl ⟨by omega, by omega⟩
theorem lb_600 {e : Ex} (h : e.dep ≤ 6) : (lvs e).natAbs < 2 ^ 600 ∧ (bds e).natAbs < 2 ^ 600 := by
  have h1 := lb_bnd e
  have h2 := bnd_up h
  have h3 : bnd 6 < 2 ^ 600 := by decide
  omega
def spCnt (K : PySem.W.Frag) (f : Ex → Int) (n : Nat) : Sp := fun vs H Q _ => ∃ (v : V) (e : Ex) (many : Nat), vs = [v] ∧ ExAt K H e v ∧ ExOk many e ∧ e.dep ≤ n ∧ e.dep ≤ 6 ∧ ∀ H', Same H H' → Q (.int (f e)) H'
def spLB (K : PySem.W.Frag) (n : Nat) : Sp := fun vs H Q _ => ∃ (v : V) (e : Ex) (many : Nat), vs = [v] ∧ ExAt K H e v ∧ ExOk many e ∧ e.dep ≤ n ∧ e.dep ≤ 6 ∧ ∀ H' u, Same H H' → SpAt K H' (lvs e, bds e) u → Q u H'

/-! ### the law's own reading -/
def Ex.rest : Ex → List Itm
  | .fig c => [.i c]
  | .reg i => [.i (i : Int)]
  | .share j => [.i (j : Int)]
  | .two _ a b => [.k a, .k b]
  | .times f a => [.i f, .k a]
  | .by i a => [.i (i : Int), .k a]
  | .when i c a b => [.i (i : Int), .i c, .k a, .k b]
  | .whr j c a b => [.i (j : Int), .i c, .k a, .k b]
theorem kidsI_rest (e : Ex) : kidsI e.rest = e.kids := by cases e <;> rfl
theorem rest_len (e : Ex) : e.rest.length ≤ 4 := by cases e <;> simp [Ex.rest]
theorem ItsAt.imp {K : PySem.W.Frag} {H H' : Hp} (sm : Same H H') : ∀ {vs : List V} {ts : List Itm}, ItsAt K H vs ts → ItsAt K H' vs ts
  | [], [], _ => trivial
  | _ :: _, .s _ :: _, ⟨x, r⟩ => ⟨x, r.imp sm⟩
  | _ :: _, .i _ :: _, ⟨x, r⟩ => ⟨x, r.imp sm⟩
  | _ :: _, .k e :: _, ⟨x, r⟩ => ⟨ExAt.same (e := e) x sm, r.imp sm⟩
theorem ExAt.rst {K : PySem.W.Frag} {H : Hp} : ∀ {e : Ex} {v : V}, ExAt K H e v → ∃ p xs, v = .ref p ∧ SqT K H p (.str (wordOf e) :: xs) ∧ 0 < xs.length ∧ ItsAt K H xs e.rest
  | .fig _, _, ⟨p, e, q⟩ => ⟨p, _, e, q, by simp, rfl, trivial⟩
  | .reg _, _, ⟨p, e, q⟩ => ⟨p, _, e, q, by simp, rfl, trivial⟩
  | .share _, _, ⟨p, e, q⟩ => ⟨p, _, e, q, by simp, rfl, trivial⟩
  | .two _ _ _, _, ⟨p, x, y, e, q, a, b⟩ => ⟨p, _, e, q, by simp, a, b, trivial⟩
  | .times _ _, _, ⟨p, x, e, q, a⟩ => ⟨p, _, e, q, by simp, rfl, a, trivial⟩
  | .by _ _, _, ⟨p, x, e, q, a⟩ => ⟨p, _, e, q, by simp, rfl, a, trivial⟩
  | .when _ _ _ _, _, ⟨p, x, y, e, q, a, b⟩ => ⟨p, _, e, q, by simp, rfl, rfl, a, b, trivial⟩
  | .whr _ _ _ _, _, ⟨p, x, y, e, q, a, b⟩ => ⟨p, _, e, q, by simp, rfl, rfl, a, b, trivial⟩
theorem cut1 {x : V} {xs : List V} : cutV (x :: xs) (some 1) none = xs := by
  unfold cutV
  rw [show HT.sIx (x :: xs).length 0 (some 1) = min 1 (x :: xs).length from HT.sIx_nat _ 0 1, HT.sIx_none, List.length_cons, show min 1 (xs.length + 1) = 1 by omega]
  show List.take (xs.length + 1 - 1) xs = xs
  rw [Nat.add_sub_cancel, List.take_length]
theorem cut1w {x : V} {xs : List V} (h : 0 < xs.length) : ¬ (HT.sIx (x :: xs).length 0 (some 1) = 0 ∧ HT.sIx (x :: xs).length (x :: xs).length none = (x :: xs).length) := by
  rw [show HT.sIx (x :: xs).length 0 (some 1) = min 1 (x :: xs).length from HT.sIx_nat _ 0 1, List.length_cons]
  omega
theorem kidsI_snoc {ts : List Itm} {i : Nat} {t : Itm} (h : ts[i]? = some t) : kidsI (ts.take (i + 1)) = kidsI (ts.take i) ++ kidsI [t] := by
  rw [List.take_add_one, h, kidsI_append]
  rfl
theorem mem_kidsI {e : Ex} : ∀ {ts : List Itm}, Itm.k e ∈ ts → e ∈ kidsI ts
  | .k e' :: r, h => by
    rcases List.mem_cons.mp h with h | h
    · cases h
      exact List.mem_cons_self
    · exact List.mem_cons_of_mem _ (mem_kidsI h)
  | .s _ :: r, h => by
    rcases List.mem_cons.mp h with h | h
    · cases h
    · exact mem_kidsI (ts := r) h
  | .i _ :: r, h => by
    rcases List.mem_cons.mp h with h | h
    · cases h
    · exact mem_kidsI (ts := r) h
theorem sort2 {ns : List Int} {a b : Int} (hp : ns.Perm [a, b]) (hs : ns.Pairwise (· ≤ ·)) : ns = [mn a b, mx a b] := by
  have hl := hp.length_eq
  match ns, hl with
  | [x, y], _ =>
    have hxy : x ≤ y := by simpa using hs
    have h1 : x = a ∨ x = b := by simpa using hp.mem_iff (a := x)
    have h2 : y = a ∨ y = b := by simpa using hp.mem_iff (a := y)
    have h3 : a = x ∨ a = y := by simpa using (hp.mem_iff (a := a)).mpr (by simp)
    have h4 : b = x ∨ b = y := by simpa using (hp.mem_iff (a := b)).mpr (by simp)
    have e1 : x = mn a b := by unfold mn; split <;> omega
    have e2 : y = mx a b := by unfold mx; split <;> omega
    rw [e1, e2]
theorem far_eq {lo hi : Int} (h : lo ≤ hi) : (if (0 - lo) > hi then (0 - lo) else hi) = mx (ab lo) (ab hi) := by
  unfold mx ab
  repeat' split
  all_goals omega
end NG

namespace NG
open PySem PySem.Spec PyProof.Rows L2
/-! ### rows of expressions as data -/
theorem lay_ex : ∀ e : Ex, (toD e).canLay0 = true
  | .fig _ => by
    show (PyData.canLay0 (.str "fig") && (true && true)) = true
    decide +kernel
  | .reg _ => by
    show (PyData.canLay0 (.str "reg") && (true && true)) = true
    decide +kernel
  | .share _ => by
    show (PyData.canLay0 (.str "share") && (true && true)) = true
    decide +kernel
  | .two w a b => by
    have ha := lay_ex a
    have hb := lay_ex b
    show (PyData.canLay0 (.str (wn w)) && (PyData.canLay0 (toD a) && (PyData.canLay0 (toD b) && true))) = true
    rw [ha, hb]
    cases w <;> decide +kernel
  | .times _ a => by
    have ha := lay_ex a
    show (PyData.canLay0 (.str "times") && (true && (PyData.canLay0 (toD a) && true))) = true
    rw [ha]
    decide +kernel
  | .by _ a => by
    have ha := lay_ex a
    show (PyData.canLay0 (.str "by") && (true && (PyData.canLay0 (toD a) && true))) = true
    rw [ha]
    decide +kernel
  | .when _ _ a b => by
    have ha := lay_ex a
    have hb := lay_ex b
    show (PyData.canLay0 (.str "when") && (true && (true && (PyData.canLay0 (toD a) && (PyData.canLay0 (toD b) && true))))) = true
    rw [ha, hb]
    decide +kernel
  | .whr _ _ a b => by
    have ha := lay_ex a
    have hb := lay_ex b
    show (PyData.canLay0 (.str "where") && (true && (true && (PyData.canLay0 (toD a) && (PyData.canLay0 (toD b) && true))))) = true
    rw [ha, hb]
    decide +kernel
theorem depth_ex : ∀ e : Ex, (toD e).depth ≤ e.dep
  | .fig _ => Nat.le_refl _
  | .reg _ => Nat.le_refl _
  | .share _ => Nat.le_refl _
  | .two w a b => by
    have ha := depth_ex a
    have hb := depth_ex b
    show max 0 (max (toD a).depth (max (toD b).depth 0)) + 1 ≤ max a.dep b.dep + 1
    omega
  | .times _ a => by
    have ha := depth_ex a
    show max 0 (max 0 (max (toD a).depth 0)) + 1 ≤ a.dep + 1
    omega
  | .by _ a => by
    have ha := depth_ex a
    show max 0 (max 0 (max (toD a).depth 0)) + 1 ≤ a.dep + 1
    omega
  | .when _ _ a b => by
    have ha := depth_ex a
    have hb := depth_ex b
    show max 0 (max 0 (max 0 (max (toD a).depth (max (toD b).depth 0)))) + 1 ≤ max a.dep b.dep + 1
    omega
  | .whr _ _ a b => by
    have ha := depth_ex a
    have hb := depth_ex b
    show max 0 (max 0 (max 0 (max (toD a).depth (max (toD b).depth 0)))) + 1 ≤ max a.dep b.dep + 1
    omega
theorem shaped_rows {es : List Ex} (h : ∀ e ∈ es, e.dep ≤ 40) : SeqAt.shaped (.list (es.map toD)) = true := by
  have h1 : PyData.canLayAll0 (es.map toD) = true := by
    clear h
    induction es with
    | nil => rfl
    | cons e r ih =>
      show ((toD e).canLay0 && PyData.canLayAll0 (r.map toD)) = true
      rw [lay_ex e, ih]
      rfl
  have h2 : PyData.depthAll (es.map toD) ≤ 40 := by
    clear h1
    induction es with
    | nil => exact Nat.zero_le _
    | cons e r ih =>
      have a := depth_ex e
      have b := h e (by simp)
      have c := ih fun x hx => h x (List.mem_cons_of_mem _ hx)
      show max (toD e).depth (PyData.depthAll (r.map toD)) ≤ 40
      omega
  show (PyData.canLayAll0 (es.map toD) && decide (PyData.depthAll (es.map toD) + 1 ≤ 64)) = true
  rw [h1, decide_eq_true (by omega)]
  rfl
theorem RowsAt.dps {K : PySem.W.Frag} {H : Hp} : ∀ {vs : List V} {es : List Ex}, RowsAt K H vs es → DpAll K H vs (es.map toD)
  | [], [], _ => .nil
  | _ :: _, _ :: _, ⟨x, r⟩ => .cons x.dp r.dps
theorem RowsAt.append {K : PySem.W.Frag} {H : Hp} : ∀ {vs ws : List V} {es fs : List Ex}, RowsAt K H vs es → RowsAt K H ws fs → RowsAt K H (vs ++ ws) (es ++ fs)
  | [], _, [], _, _, r => r
  | _ :: _, _, _ :: _, _, ⟨x, q⟩, r => ⟨x, q.append r⟩
theorem RowsAt.mem {K : PySem.W.Frag} {H : Hp} : ∀ {vs : List V} {es : List Ex} {v : V}, RowsAt K H vs es → v ∈ vs → ∃ e ∈ es, ExAt K H e v
  | v' :: vs, e :: es, v, ⟨x, r⟩, h => by
    rcases List.mem_cons.mp h with h | h
    · subst h
      exact ⟨e, by simp, x⟩
    · obtain ⟨e', h1, h2⟩ := r.mem h
      exact ⟨e', List.mem_cons_of_mem _ h1, h2⟩
/-! ### slices of lists -/
theorem cut_take {xs : List V} {j : Nat} : cutV xs none (some (j : Int)) = xs.take j := by
  unfold cutV
  rw [HT.sIx_none, HT.sIx_nat, List.drop_zero, Nat.sub_zero]
  by_cases h : j ≤ xs.length
  · rw [Nat.min_eq_left h]
  · rw [Nat.min_eq_right (by omega), List.take_length, List.take_of_length_le (by omega)]
theorem cut_drop {xs : List V} {j : Nat} : cutV xs (some (j : Int)) none = xs.drop j := by
  unfold cutV
  rw [HT.sIx_none, HT.sIx_nat]
  by_cases h : j ≤ xs.length
  · rw [Nat.min_eq_left h, List.take_of_length_le (by rw [List.length_drop]; exact Nat.le_refl _)]
  · rw [Nat.min_eq_right (by omega), Nat.sub_self, List.take_zero, List.drop_of_length_le (by omega)]
/-! ### words within -/
def spWords (K : PySem.W.Frag) (n : Nat) : Sp := fun vs H Q _ => ∃ (v : V) (x : Str) (e : Ex) (many : Nat), vs = [v, .str x] ∧ ExAt K H e v ∧ ExOk many e ∧ e.dep ≤ n ∧ e.dep ≤ 6 ∧
  ∀ H' l us es, Same H H' → H l = none → H' l = some (.lst us) → RowsAt K H' us es → es.length ≤ 3 ^ n → (∀ e' ∈ es, ExOk many e' ∧ wordOf e' = x ∧ e'.dep ≤ e.dep) → Q (.ref l) H'
def spBorder (K : PySem.W.Frag) : Sp := fun vs H Q _ => ∃ (a : Addr) (v : V) (e : Ex) (many n : Nat), vs = [.ref a, v, .int (many : Int)] ∧ ExAt K H e v ∧ ExOk many e ∧ e.dep ≤ 5 ∧ 2 ≤ many ∧ many ≤ 3 ∧ HandAt H a n ∧ n ≤ 999997000 ∧
  ∀ H' u ms, But a H H' → HandAt H' a (n + 20) → ShAt K H' many ms u → Q u H'
def spNear (K : PySem.W.Frag) : Sp := fun vs H Q _ => ∃ (a : Addr) (v : V) (e : Ex) (many n : Nat), vs = [.ref a, v] ∧ ExAt K H e v ∧ ExOk many e ∧ e.dep ≤ 5 ∧ HandAt H a n ∧ n ≤ 999997000 ∧
  ∀ H' u rs, But a H H' → HandAt H' a (n + 15) → RegsAt K H' rs u → Q u H'
theorem is_whr {e : Ex} (h : wordOf e = "where") : ∃ j c a b, e = .whr j c a b := by
  cases e with
  | whr j c a b => exact ⟨j, c, a, b, rfl⟩
  | two w a b => cases w <;> exact absurd h (of_decide_eq_false rfl)
  | fig _ => exact absurd h (of_decide_eq_false rfl)
  | reg _ => exact absurd h (of_decide_eq_false rfl)
  | share _ => exact absurd h (of_decide_eq_false rfl)
  | times _ _ => exact absurd h (of_decide_eq_false rfl)
  | «by» _ _ => exact absurd h (of_decide_eq_false rfl)
  | when _ _ _ _ => exact absurd h (of_decide_eq_false rfl)
theorem is_when {e : Ex} (h : wordOf e = "when") : ∃ j c a b, e = .when j c a b := by
  cases e with
  | when j c a b => exact ⟨j, c, a, b, rfl⟩
  | two w a b => cases w <;> exact absurd h (of_decide_eq_false rfl)
  | fig _ => exact absurd h (of_decide_eq_false rfl)
  | reg _ => exact absurd h (of_decide_eq_false rfl)
  | share _ => exact absurd h (of_decide_eq_false rfl)
  | times _ _ => exact absurd h (of_decide_eq_false rfl)
  | «by» _ _ => exact absurd h (of_decide_eq_false rfl)
  | whr _ _ _ _ => exact absurd h (of_decide_eq_false rfl)
end NG

namespace NG
open PySem PySem.Spec PyProof.Rows L2
/-! ### tuples put together and cut, whatever they hold -/
theorem catA {K : PySem.W.Frag} {H : Hp} {a b : Addr} {xs ys : List V} {Q : VK} (ha : SqT K H a xs) (hb : SqT K H b ys) (hl : xs.length + ys.length ≤ sizeLine) (q : ∀ H' p, Same H H' → SqT K H' p (xs ++ ys) → Q (.ref p) H') : rCatA K (.ref a) (.ref b) H Q := by
  refine ⟨a, b, xs, ys, rfl, rfl, ha, hb, hl, fun h => ?_, fun _ h => ?_, fun _ _ p np => ?_⟩
  · subst h
    exact q H b (Same.refl _) hb
  · subst h
    exact q H a (Same.refl _) (by rw [List.append_nil]; exact ha)
  · exact q _ p (same_new np) (SqT.of upd_same)
theorem cutV_whole {xs : List V} {lo hi : Option Int} (h : HT.sIx xs.length 0 lo = 0 ∧ HT.sIx xs.length xs.length hi = xs.length) : cutV xs lo hi = xs := by
  unfold cutV
  rw [h.1, h.2, List.drop_zero, Nat.sub_zero, List.take_length]
theorem slA {K : PySem.W.Frag} {H : Hp} {a : Addr} {xs : List V} {lo hi : Option Int} {Q : VK} (ha : SqT K H a xs) (q : ∀ H' p, Same H H' → SqT K H' p (cutV xs lo hi) → Q (.ref p) H') : rSlA K (.ref a) lo hi H Q := by
  refine ⟨a, xs, rfl, ha, fun h => ?_, fun _ p np => ?_⟩
  · exact q H a (Same.refl _) (by rw [cutV_whole h]; exact ha)
  · exact q _ p (same_new np) (SqT.of upd_same)
theorem HandAt.same {H H' : Hp} {a : Addr} {n : Nat} (h : HandAt H a n) (s : Same H H') : HandAt H' a n := by
  obtain ⟨g, sd, m, e, z⟩ := h
  exact ⟨g, sd, m, s _ _ e, z⟩

/-! ### deeds -/
inductive D5 where
  | put | add | copy | plus | told
  deriving DecidableEq
def dn : D5 → Str
  | .put => "put"
  | .add => "add"
  | .copy => "copy"
  | .plus => "plus"
  | .told => "told"
inductive Ds where
  | nil
  | op (w : D5) (i : Nat) (x : Int) (r : Ds)
  | when (i : Nat) (c : Int) (a b r : Ds)
def DsAt (K : PySem.W.Frag) (H : Hp) : Ds → List V → Prop
  | .nil, vs => vs = []
  | .op w i x r, vs => ∃ p us, vs = .ref p :: us ∧ SqT K H p [.str (dn w), .int (i : Int), .int x] ∧ DsAt K H r us
  | .when i c a b r, vs => ∃ p pa pb xa xb us, vs = .ref p :: us ∧ SqT K H p [.str "when", .int (i : Int), .int c, .ref pa, .ref pb] ∧ SqT K H pa xa ∧ DsAt K H a xa ∧ SqT K H pb xb ∧ DsAt K H b xb ∧ DsAt K H r us
theorem DsAt.imp {K : PySem.W.Frag} {H H' : Hp} (h : ∀ p xs, SqT K H p xs → SqT K H' p xs) : ∀ {d : Ds} {vs : List V}, DsAt K H d vs → DsAt K H' d vs
  | .nil, _, e => e
  | .op _ _ _ _, _, ⟨p, us, e, q, r⟩ => ⟨p, us, e, h _ _ q, DsAt.imp h r⟩
  | .when _ _ _ _ _, _, ⟨p, pa, pb, xa, xb, us, e, q, qa, a, qb, b, r⟩ => ⟨p, pa, pb, xa, xb, us, e, h _ _ q, h _ _ qa, DsAt.imp h a, h _ _ qb, DsAt.imp h b, DsAt.imp h r⟩
theorem DsAt.same {K : PySem.W.Frag} {H H' : Hp} {d : Ds} {vs : List V} (x : DsAt K H d vs) (s : Same H H') : DsAt K H' d vs := x.imp fun _ _ q => same_sqt s q
def Ds.app : Ds → Ds → Ds
  | .nil, e => e
  | .op w i x r, e => .op w i x (r.app e)
  | .when i c a b r, e => .when i c a b (r.app e)
theorem DsAt.app {K : PySem.W.Frag} {H : Hp} : ∀ {d e : Ds} {vs ws : List V}, DsAt K H d vs → DsAt K H e ws → DsAt K H (d.app e) (vs ++ ws)
  | .nil, _, _, _, e, y => by
    subst e
    exact y
  | .op _ _ _ _, _, _, _, ⟨p, us, e, q, r⟩, y => by
    subst e
    exact ⟨p, _, rfl, q, DsAt.app r y⟩
  | .when _ _ _ _ _, _, _, _, ⟨p, pa, pb, xa, xb, us, e, q, qa, a, qb, b, r⟩, y => by
    subst e
    exact ⟨p, pa, pb, xa, xb, _, rfl, q, qa, a, qb, b, DsAt.app r y⟩
def Ds.cnt : Ds → Nat
  | .nil => 0
  | .op _ _ _ r => 1 + r.cnt
  | .when _ _ a b r => 1 + (a.cnt + b.cnt) + r.cnt
def Ds.len : Ds → Nat
  | .nil => 0
  | .op _ _ _ r => r.len + 1
  | .when _ _ _ _ r => r.len + 1
def Ds.dep : Ds → Nat
  | .nil => 0
  | .op _ _ _ r => max 1 r.dep
  | .when _ _ a b r => max (max a.dep b.dep + 1) r.dep
theorem Ds.len_le : ∀ d : Ds, d.len ≤ d.cnt
  | .nil => Nat.le_refl _
  | .op _ _ _ r => by have := r.len_le; show r.len + 1 ≤ 1 + r.cnt; omega
  | .when _ _ a b r => by have := r.len_le; show r.len + 1 ≤ 1 + (a.cnt + b.cnt) + r.cnt; omega
theorem DsAt.len {K : PySem.W.Frag} {H : Hp} : ∀ {d : Ds} {vs : List V}, DsAt K H d vs → vs.length = d.len
  | .nil, _, e => by subst e; rfl
  | .op _ _ _ _, _, ⟨p, us, e, q, r⟩ => by subst e; rw [List.length_cons, r.len]; rfl
  | .when _ _ _ _ _, _, ⟨p, pa, pb, xa, xb, us, e, q, qa, a, qb, b, r⟩ => by subst e; rw [List.length_cons, r.len]; rfl
theorem Ds.cnt_app : ∀ d e : Ds, (d.app e).cnt = d.cnt + e.cnt
  | .nil, e => by show e.cnt = 0 + e.cnt; omega
  | .op _ _ _ r, e => by show 1 + (r.app e).cnt = 1 + r.cnt + e.cnt; rw [Ds.cnt_app r e]; omega
  | .when _ _ a b r, e => by show 1 + (a.cnt + b.cnt) + (r.app e).cnt = 1 + (a.cnt + b.cnt) + r.cnt + e.cnt; rw [Ds.cnt_app r e]; omega
theorem Ds.dep_app : ∀ d e : Ds, (d.app e).dep = max d.dep e.dep
  | .nil, e => by show e.dep = max 0 e.dep; omega
  | .op _ _ _ r, e => by show max 1 (r.app e).dep = max (max 1 r.dep) e.dep; rw [Ds.dep_app r e]; omega
  | .when _ _ a b r, e => by show max (max a.dep b.dep + 1) (r.app e).dep = max (max (max a.dep b.dep + 1) r.dep) e.dep; rw [Ds.dep_app r e]; omega
def xok (many : Nat) : D5 → Int → Prop
  | .put, x => -1000 ≤ x ∧ x ≤ 1000
  | .add, x => -1000 ≤ x ∧ x ≤ 1000
  | .copy, x => 0 ≤ x ∧ x < 4
  | .plus, x => 0 ≤ x ∧ x < 4
  | .told, x => 0 ≤ x ∧ x < many
theorem xok_small {many : Nat} (hm : many ≤ 1000) : ∀ {w : D5} {x : Int}, xok many w x → -1000 ≤ x ∧ x ≤ 1000
  | .put, _, h => h
  | .add, _, h => h
  | .copy, _, h => by have := h.1; have := h.2; constructor <;> omega
  | .plus, _, h => by have := h.1; have := h.2; constructor <;> omega
  | .told, _, h => by have := h.1; have := h.2; constructor <;> omega
def DsOk (many : Nat) : Ds → Prop
  | .nil => True
  | .op w i x r => i < 4 ∧ xok many w x ∧ DsOk many r
  | .when i c a b r => i < 4 ∧ (-1000 ≤ c ∧ c ≤ 1000) ∧ DsOk many a ∧ DsOk many b ∧ DsOk many r
theorem DsOk.app {many : Nat} : ∀ {d e : Ds}, DsOk many d → DsOk many e → DsOk many (d.app e)
  | .nil, _, _, y => y
  | .op _ _ _ _, _, ⟨h1, h2, h3⟩, y => ⟨h1, h2, DsOk.app h3 y⟩
  | .when _ _ _ _ _, _, ⟨h1, h2, h3, h4, h5⟩, y => ⟨h1, h2, h3, h4, DsOk.app h5 y⟩
def cl (n : Int) : Int := mx (-1000) (mn 1000 n)
theorem cl_in (n : Int) : -1000 ≤ cl n ∧ cl n ≤ 1000 := by
  unfold cl mx mn
  repeat' split
  all_goals omega
def hb (ss : List Int) : D5 → Nat → Int → List Int → Int
  | .put, _, x, _ => x
  | .add, i, x, rs => rs.getD i 0 + x
  | .copy, _, x, rs => rs.getD x.toNat 0
  | .plus, i, x, rs => rs.getD i 0 + rs.getD x.toNat 0
  | .told, _, x, _ => 1000 * ss.getD x.toNat 0 / ss.sum
def ap (ss : List Int) : Ds → List Int → List Int
  | .nil, rs => rs
  | .op w i x r, rs => ap ss r (rs.set i (cl (hb ss w i x rs)))
  | .when i c a b r, rs => ap ss r (if rs.getD i 0 < c then ap ss a rs else ap ss b rs)
def RegOk (rs : List Int) : Prop := rs.length = 4 ∧ ∀ x ∈ rs, -1000 ≤ x ∧ x ≤ 1000
theorem RegOk.set {rs : List Int} (h : RegOk rs) (i : Nat) (n : Int) : RegOk (rs.set i (cl n)) := by
  refine ⟨by rw [List.length_set]; exact h.1, fun x hx => ?_⟩
  rcases List.mem_or_eq_of_mem_set hx with hx | rfl
  · exact h.2 x hx
  · exact cl_in n
theorem RegOk.ap {ss : List Int} : ∀ {d : Ds} {rs : List Int}, RegOk rs → RegOk (ap ss d rs)
  | .nil, _, h => h
  | .op w i x r, rs, h => RegOk.ap (d := r) (h.set i _)
  | .when i c a b r, rs, h => by
    show RegOk (NG.ap ss r (if rs.getD i 0 < c then NG.ap ss a rs else NG.ap ss b rs))
    refine RegOk.ap (d := r) ?_
    split
    · exact RegOk.ap (d := a) h
    · exact RegOk.ap (d := b) h
theorem RegsAt.ok {K : PySem.W.Frag} {H : Hp} {rs : List Int} {v : V} (h : RegsAt K H rs v) : RegOk rs := by
  obtain ⟨p, _, _, l, b⟩ := h
  exact ⟨l, b⟩
theorem RegsAt.same {K : PySem.W.Frag} {H H' : Hp} {rs : List Int} {v : V} (h : RegsAt K H rs v) (s : Same H H') : RegsAt K H' rs v := h.imp fun _ _ q => same_sqt s q
theorem ShAt.same {K : PySem.W.Frag} {H H' : Hp} {many : Nat} {rs : List Int} {v : V} (h : ShAt K H many rs v) (s : Same H H') : ShAt K H' many rs v := h.imp fun _ _ q => same_sqt s q
/-! ### rows of deeds, doubters -/
def BhAt (K : PySem.W.Frag) (H : Hp) : List V → List Ds → Prop
  | [], [] => True
  | v :: vs, d :: ds => (∃ p xs, v = .ref p ∧ SqT K H p xs ∧ DsAt K H d xs) ∧ BhAt K H vs ds
  | _, _ => False
theorem BhAt.imp {K : PySem.W.Frag} {H H' : Hp} (h : ∀ p xs, SqT K H p xs → SqT K H' p xs) : ∀ {vs : List V} {es : List Ds}, BhAt K H vs es → BhAt K H' vs es
  | [], [], _ => trivial
  | _ :: _, _ :: _, ⟨⟨p, xs, e, q, x⟩, r⟩ => ⟨⟨p, xs, e, h _ _ q, x.imp h⟩, BhAt.imp h r⟩
theorem BhAt.same {K : PySem.W.Frag} {H H' : Hp} {vs : List V} {es : List Ds} (r : BhAt K H vs es) (s : Same H H') : BhAt K H' vs es := r.imp fun _ _ q => same_sqt s q
theorem BhAt.len {K : PySem.W.Frag} {H : Hp} : ∀ {vs : List V} {es : List Ds}, BhAt K H vs es → vs.length = es.length
  | [], [], _ => rfl
  | _ :: _, _ :: _, ⟨_, r⟩ => by rw [List.length_cons, List.length_cons, r.len]
theorem BhAt.snoc {K : PySem.W.Frag} {H : Hp} {p : Addr} {xs : List V} {d : Ds} (q : SqT K H p xs) (x : DsAt K H d xs) : ∀ {vs : List V} {es : List Ds}, BhAt K H vs es → BhAt K H (vs ++ [.ref p]) (es ++ [d])
  | [], [], _ => ⟨⟨p, xs, rfl, q, x⟩, trivial⟩
  | _ :: _, _ :: _, ⟨y, r⟩ => ⟨y, BhAt.snoc q x r⟩
theorem BhAt.get {K : PySem.W.Frag} {H : Hp} : ∀ {vs : List V} {es : List Ds} {k : Nat} {d : Ds}, BhAt K H vs es → es[k]? = some d → ∃ p xs, vs[k]? = some (.ref p) ∧ SqT K H p xs ∧ DsAt K H d xs
  | [], [], _, _, _, h => by simp at h
  | v :: vs, e' :: es, 0, e, ⟨⟨p, xs, e1, q, x⟩, r⟩, h => by
    have : e' = e := Option.some.inj h
    subst this
    exact ⟨p, xs, by rw [e1]; rfl, q, x⟩
  | v :: vs, e' :: es, k + 1, e, ⟨x, r⟩, h => BhAt.get (k := k) r h
structure Dbt where
  name : Str
  scale : Nat
  begins : List Int
  stakes : List Ex
  behinds : List Ds
def DbAt (K : PySem.W.Frag) (H : Hp) (D : Dbt) (v : V) : Prop := ∃ (p : Addr) (vb : V) (ps pb : Addr) (us ws : List V), v = .ref p ∧ SqT K H p [.str D.name, .int (D.scale : Int), vb, .ref ps, .ref pb] ∧ RegsAt K H D.begins vb ∧ SqT K H ps us ∧ RowsAt K H us D.stakes ∧ SqT K H pb ws ∧ BhAt K H ws D.behinds
theorem DbAt.imp {K : PySem.W.Frag} {H H' : Hp} {D : Dbt} {v : V} (x : DbAt K H D v) (h : ∀ p xs, SqT K H p xs → SqT K H' p xs) : DbAt K H' D v := by
  obtain ⟨p, vb, ps, pb, us, ws, e, q, r, q1, r1, q2, r2⟩ := x
  exact ⟨p, vb, ps, pb, us, ws, e, h _ _ q, r.imp h, h _ _ q1, r1.imp h, h _ _ q2, r2.imp h⟩
theorem DbAt.same {K : PySem.W.Frag} {H H' : Hp} {D : Dbt} {v : V} (x : DbAt K H D v) (s : Same H H') : DbAt K H' D v := x.imp fun _ _ q => same_sqt s q
/-- names, scale, registers, stakes of a depth, deeds of a depth and a number -/
structure DbOk (many dE dD cD : Nat) (D : Dbt) : Prop where
  nm : D.name = "a" ∨ D.name = "doubter" ∨ D.name = "sceptics" ∨ D.name = "zz"
  sc : D.scale < 5
  rg : RegOk D.begins
  sl : D.stakes.length = many
  st : ∀ e ∈ D.stakes, ExOk many e ∧ e.dep ≤ dE
  bl : D.behinds.length = many
  bh : ∀ d ∈ D.behinds, DsOk many d ∧ d.dep ≤ dD ∧ d.cnt ≤ cD
/-! ### as data -/
def dsD : Ds → List PyData
  | .nil => []
  | .op w i x r => .tuple [.str (dn w), .int (i : Int), .int x] :: dsD r
  | .when i c a b r => .tuple [.str "when", .int (i : Int), .int c, .tuple (dsD a), .tuple (dsD b)] :: dsD r
theorem DsAt.dps {K : PySem.W.Frag} {H : Hp} : ∀ {d : Ds} {vs : List V}, DsAt K H d vs → DpAll K H vs (dsD d)
  | .nil, _, e => by subst e; exact .nil
  | .op _ _ _ _, _, ⟨p, us, e, q, r⟩ => by subst e; exact .cons (.tup q (.cons (.str _) (.cons (.int _) (.cons (.int _) .nil)))) r.dps
  | .when _ _ _ _ _, _, ⟨p, pa, pb, xa, xb, us, e, q, qa, a, qb, b, r⟩ => by subst e; exact .cons (.tup q (.cons (.str _) (.cons (.int _) (.cons (.int _) (.cons (.tup qa a.dps) (.cons (.tup qb b.dps) .nil)))))) r.dps
theorem BhAt.dps {K : PySem.W.Frag} {H : Hp} : ∀ {vs : List V} {es : List Ds}, BhAt K H vs es → DpAll K H vs (es.map fun d => .tuple (dsD d))
  | [], [], _ => .nil
  | _ :: _, _ :: _, ⟨⟨p, xs, e, q, x⟩, r⟩ => by subst e; exact .cons (.tup q x.dps) r.dps
def dbD (D : Dbt) : PyData := .tuple [.str D.name, .int (D.scale : Int), .tuple (D.begins.map PyData.int), .tuple (D.stakes.map toD), .tuple (D.behinds.map fun d => .tuple (dsD d))]
theorem dp_ints {K : PySem.W.Frag} {H : Hp} : ∀ ns : List Int, DpAll K H (ns.map V.int) (ns.map PyData.int)
  | [] => .nil
  | n :: r => .cons (.int n) (dp_ints r)
theorem DbAt.dp {K : PySem.W.Frag} {H : Hp} {D : Dbt} {v : V} (x : DbAt K H D v) : Dp K H v (dbD D) := by
  obtain ⟨p, vb, ps, pb, us, ws, e, q, ⟨pr, e2, r, _⟩, q1, r1, q2, r2⟩ := x
  subst e e2
  exact .tup q (.cons (.str _) (.cons (.int _) (.cons (.tup r (dp_ints _)) (.cons (.tup q1 r1.dps) (.cons (.tup q2 r2.dps) .nil)))))
theorem shw_smalls : ∀ {ns : List Int}, (∀ x ∈ ns, -1000 ≤ x ∧ x ≤ 1000) → ShwAll (ns.map PyData.int) (16 * ns.length) 0
  | [], _ => ShwAll.nil
  | n :: r, h => by
    have h0 := h n (by simp)
    have h1 := Shw.small (i := n) (by omega)
    have h2 := shw_smalls (ns := r) fun x hx => h x (List.mem_cons_of_mem _ hx)
    have h3 := ShwAll.cons h1 h2 (Nat.le_refl 0) (Nat.le_refl 0)
    refine ⟨h3.sh, h3.lf, Nat.le_trans h3.wt ?_, h3.dp⟩
    rw [List.length_cons]
    omega
theorem shw_ds {many : Nat} (hm : many ≤ 1000) : ∀ {d : Ds}, DsOk many d → ShwAll (dsD d) (60 * d.cnt) (2 * d.dep)
  | .nil, _ => ShwAll.nil
  | .op w i x r, ⟨o1, o2, o3⟩ => by
    have hr := shw_ds hm (d := r) o3
    have hx := xok_small hm o2
    have hw : Shw (.str (dn w)) 10 0 := by cases w <;> exact .str (by decide) (by decide)
    have h1 := ShwAll.tup (.cons hw (.cons (.small (i := (i : Int)) (by omega)) (.cons (.small (i := x) (by omega)) .nil (Nat.le_refl 0) (Nat.le_refl 0)) (Nat.le_refl 0) (Nat.le_refl 0)) (Nat.le_refl 0) (Nat.le_refl 0))
    have h2 := ShwAll.cons h1 hr (k := 2 * max 1 r.dep) (by omega) (by omega)
    refine ⟨h2.sh, h2.lf, Nat.le_trans h2.wt ?_, h2.dp⟩
    show 10 + 1 + (15 + 1 + (15 + 1 + 0)) + 1 + 60 * r.cnt ≤ 60 * (1 + r.cnt)
    omega
  | .when i c a b r, ⟨o1, o2, o3, o4, o5⟩ => by
    have ha := (shw_ds hm (d := a) o3).tup
    have hb := (shw_ds hm (d := b) o4).tup
    have hr := shw_ds hm (d := r) o5
    have h1 := ShwAll.tup (.cons (.str (x := "when") (by decide) (by decide)) (.cons (.small (i := (i : Int)) (by omega)) (.cons (.small (i := c) (by omega)) (.cons ha (.cons hb .nil (k := 2 * max a.dep b.dep + 1) (by omega) (Nat.zero_le _)) (by omega) (Nat.le_refl _)) (Nat.zero_le _) (Nat.le_refl _)) (Nat.zero_le _) (Nat.le_refl _)) (Nat.zero_le _) (Nat.le_refl _))
    have h2 := ShwAll.cons h1 hr (k := 2 * max (max a.dep b.dep + 1) r.dep) (by omega) (by omega)
    refine ⟨h2.sh, h2.lf, Nat.le_trans h2.wt ?_, h2.dp⟩
    show 10 + 1 + (15 + 1 + (15 + 1 + (60 * a.cnt + 1 + (60 * b.cnt + 1 + 0)))) + 1 + 60 * r.cnt ≤ 60 * (1 + (a.cnt + b.cnt) + r.cnt)
    omega
theorem shw_list {α : Type} {f : α → PyData} {w k : Nat} : ∀ {xs : List α}, (∀ x ∈ xs, Shw (f x) w k) → ShwAll (xs.map f) ((w + 1) * xs.length) k
  | [], _ => ShwAll.nil
  | n :: r, h => by
    have h1 := h n (by simp)
    have h2 := shw_list (xs := r) fun x hx => h x (List.mem_cons_of_mem _ hx)
    have h3 := ShwAll.cons h1 h2 (Nat.le_refl k) (Nat.le_refl k)
    refine ⟨h3.sh, h3.lf, Nat.le_trans h3.wt ?_, h3.dp⟩
    rw [List.length_cons, Nat.mul_add]
    omega
/-- a doubter's weight -/
theorem shw_db {many dE dD cD : Nat} {D : Dbt} (hm : many ≤ 3) (hE : dE ≤ 8) (hD : dD ≤ 8) (o : DbOk many dE dD cD D) : Shw (dbD D) (120 + 3 * wgt dE + 180 * cD) 20 := by
  have h0 : Shw (.str D.name) 10 0 := by rcases o.nm with e | e | e | e <;> rw [e] <;> exact .str (by decide) (by decide)
  have h1 : Shw (.int (D.scale : Int)) 15 0 := .small (by have := o.sc; omega)
  have h2 := (shw_smalls o.rg.2).tup
  have h3 := (shw_list (f := toD) (w := wgt dE) (k := dE) fun e he => (shw_ex (many := many) (by omega) (o.st e he).1).mono (wgt_mono (o.st e he).2) (o.st e he).2).tup
  have h4 := (shw_list (f := fun d => PyData.tuple (dsD d)) (w := 60 * cD) (k := 2 * dD + 1) fun d hd => ((shw_ds (many := many) (by omega) (o.bh d hd).1).tup).mono (Nat.mul_le_mul_left _ (o.bh d hd).2.2) (by have := (o.bh d hd).2.1; omega)).tup
  have h5 := ShwAll.tup (.cons h0 (.cons h1 (.cons h2 (.cons h3 (.cons h4 (ShwAll.nil (k := 0)) (k := 18) (by omega) (by omega)) (by omega) (Nat.le_refl 18)) (by omega) (Nat.le_refl 18)) (by omega) (Nat.le_refl 18)) (by omega) (Nat.le_refl 18))
  refine h5.mono ?_ (by decide)
  rw [o.sl, o.bl, o.rg.1]
  have a1 : (wgt dE + 1) * many ≤ (wgt dE + 1) * 3 := Nat.mul_le_mul_left _ hm
  have a2 : (60 * cD + 1) * many ≤ (60 * cD + 1) * 3 := Nat.mul_le_mul_left _ hm
  omega
/-! ### promises -/
def spExprJ (K : PySem.W.Frag) (m : Nat) : Sp := fun vs H Q _ => ∃ (a : Addr) (many l n j : Nat), vs = [.ref a, .int (many : Int), .int (l : Int), .int (j : Int)] ∧ j ≤ 1 ∧ l < m ∧ 1 ≤ many ∧ many ≤ 1000 ∧ HandAt H a n ∧ n + cost l ≤ 999999000 ∧
  ∀ H' v e, But a H H' → HandAt H' a (n + cost l) → ExAt K H' e v → ExOk many e → e.dep ≤ l + 1 → Q v H'
/-- a stake: cut to its far -/
def spStake (K : PySem.W.Frag) (m : Nat) : Sp := fun vs H Q _ => ∃ (a : Addr) (many l n j : Nat), vs = [.ref a, .int (many : Int), .int (l : Int), .int (j : Int)] ∧ j ≤ 1 ∧ l < m ∧ 1 ≤ many ∧ many ≤ 1000 ∧ HandAt H a n ∧ n + cost l ≤ 999998000 ∧
  ∀ H' v e, But a H H' → HandAt H' a (n + cost l + 3) → ExAt K H' e v → ExOk many e → e.dep ≤ l + 3 → (∃ c : Int, e = .fig c ∧ -500 ≤ c ∧ c ≤ 500) ∨ (∃ (c : Int) (e' : Ex), e = .two .least (.fig c) (.two .most (.fig (-c)) e') ∧ 1 ≤ c ∧ c ≤ 500 ∧ ExOk many e' ∧ e'.dep ≤ l + 1) → Q v H'
def dB : Nat → Nat
  | 0 => 20
  | n + 1 => 2 * dB n + 30
def dC : Nat → Nat
  | 0 => 3
  | n + 1 => 2 * dC n + 4
theorem dC_ge (n : Nat) : 3 ≤ dC n := by
  cases n with
  | zero => exact Nat.le_refl _
  | succ n => show 3 ≤ 2 * dC n + 4; omega
theorem dB_ge (n : Nat) : 20 ≤ dB n := by
  cases n with
  | zero => exact Nat.le_refl _
  | succ n => show 20 ≤ 2 * dB n + 30; omega
def spDeeds (K : PySem.W.Frag) (m : Nat) : Sp := fun vs H Q _ => ∃ (a : Addr) (many l n : Nat), vs = [.ref a, .int (many : Int), .int (l : Int)] ∧ l < m ∧ l ≤ 3 ∧ 1 ≤ many ∧ many ≤ 1000 ∧ HandAt H a n ∧ n + dB l ≤ 999998000 ∧
  ∀ H' p xs d, But a H H' → HandAt H' a (n + dB l) → SqT K H' p xs → DsAt K H' d xs → DsOk many d → d.dep ≤ l + 1 → d.cnt ≤ dC l → Q (.ref p) H'
def StOk (many l : Nat) (e : Ex) : Prop := (∃ c : Int, e = .fig c ∧ -500 ≤ c ∧ c ≤ 500) ∨ (∃ (c : Int) (e' : Ex), e = .two .least (.fig c) (.two .most (.fig (-c)) e') ∧ 1 ≤ c ∧ c ≤ 500 ∧ ExOk many e' ∧ e'.dep ≤ l + 1)
def spDoubter (K : PySem.W.Frag) (m : Nat) : Sp := fun vs H Q _ => ∃ (a : Addr) (many l n j : Nat), vs = [.ref a, .int (many : Int), .int (l : Int), .int (j : Int)] ∧ j ≤ 1 ∧ l < m ∧ l ≤ 5 ∧ 1 ≤ many ∧ many ≤ 3 ∧ HandAt H a n ∧ n ≤ 999990000 ∧
  ∀ H' v D, But a H H' → HandAt H' a (n + 3 * cost l + 300) → DbAt K H' D v → DbOk many (l + 3) 2 10 D → (∀ e ∈ D.stakes, StOk many l e) → Q v H'
end NG

namespace NG
open PySem PySem.Spec PyProof.Rows L2
/-! ### zip of a list with a tuple -/
def ItLT (K : PySem.W.Frag) (a b : Addr) : It :=
  ⟨fun i H => ∃ (us ws : List V) (u v : V), SqL K H a us ∧ SqT K H b ws ∧ us[i]? = some u ∧ ws[i]? = some v,
   fun i H r H' => ∃ (T : Addr) (u v : V), r = .ref T ∧ H T = none ∧ H' = upd H T (.tup [u, v]) ∧ (∀ us, SqL K H a us → us[i]? = some u) ∧ ∀ ws, SqT K H b ws → ws[i]? = some v,
   fun i H => ∃ us ws : List V, SqL K H a us ∧ SqT K H b ws ∧ us.length = i ∧ ws.length = i⟩
theorem turn_LT {P : Program} {w : World} {K : PySem.W.Frag} {es : List Expr} {k : Nat} {ps : Pos} {a b z TI TO i1 i2 : Addr} (S : ZipSep2 z TI TO i1 i2 [i1, a] [i2, b]) (na : a ≠ i1) (nb : b ≠ i2) :
    Turn P w K (.Tuple es k ps) (ItLT K a b) [z, TI, TO, i1, i2] z (fun i h => IsZip h z TI TO .none ∧ IsTupOf2 h TI (.ref i1) (.ref i2) ∧ (∃ c d, IsTupOf2 h TO c d) ∧ h.IsListIter i1 a i ∧ h.IsTupleIter i2 b i) := by
  have five : ∀ {c : Addr}, c ∈ [z, TI, TO, i1, i2] → c = z ∨ c = TI ∨ c = TO ∨ c = i1 ∨ c = i2 := fun h => by simpa using h
  have lives : ∀ (i : Nat) (h : Heap), (IsZip h z TI TO .none ∧ IsTupOf2 h TI (.ref i1) (.ref i2) ∧ (∃ c d, IsTupOf2 h TO c d) ∧ h.IsListIter i1 a i ∧ h.IsTupleIter i2 b i) → ∀ c ∈ [z, TI, TO, i1, i2], ∃ o, h.get? c = some o ∧ ∀ v, o.data ≠ .cell v := fun i h st c hc => by
    obtain ⟨s1, s2, ⟨x, y, s3⟩, ⟨o4, s4, _, d4⟩, ⟨o5, s5, _, d5⟩⟩ := st
    rcases five hc with rfl | rfl | rfl | rfl | rfl
    · exact ⟨_, s1, fun v q => nomatch q⟩
    · exact ⟨_, s2, fun v q => nomatch q⟩
    · exact ⟨_, s3, fun v q => nomatch q⟩
    · exact ⟨o4, s4, fun v q => by rw [d4] at q; exact nomatch q⟩
    · exact ⟨o5, s5, fun v q => by rw [d5] at q; exact nomatch q⟩
  refine ⟨List.mem_cons_self, lives, fun i h h' st kp => ?_, fun X eP ew eK hc i pins s σ H E I hf st hg => ?_, fun X eP ew eK hc i pins s σ H E I hf st hg => ?_, fun A i s Q E st q => wpAny_pyIter_zip st.1 q⟩
  · obtain ⟨s1, s2, ⟨x, y, s3⟩, s4, s5⟩ := st
    exact ⟨kp _ (by simp) _ s1, kp _ (by simp) _ s2, ⟨x, y, kp _ (by simp) _ s3⟩, s4.at fun o q => kp _ (by simp) o q, s5.at fun o q => kp _ (by simp) o q⟩
  · cases eP
    cases ew
    cases eK
    have lv := lives i _ st
    obtain ⟨s1, s2, s3, s4, s5⟩ := st
    obtain ⟨us, ws, u, v, qa, qb, hu, hv⟩ := hg
    obtain ⟨la, ra, pa, _⟩ := I.list qa
    obtain ⟨lb, rb, pb, _⟩ := I.tuple qb
    obtain ⟨u', eu, ru⟩ := ra.get hu
    obtain ⟨v', ev', rv⟩ := rb.get hv
    have W := WalksT.zipD2 (A := X.A) S (Draws.list (prog := X.prog) (w := X.w) (A := X.A.in1) (I.ok.hd hc) i1 a na la.toArray) (Draws.tuple (A := X.A.in1) (I.ok.hd hc) i2 b nb lb.toArray)
    have il : i < la.length := (List.getElem?_eq_some_iff.mp eu).1
    have ir : i < lb.length := (List.getElem?_eq_some_iff.mp ev').1
    refine W.item i s _ E (by rw [List.size_toArray, List.size_toArray]; omega) ⟨s1, s2, s3, ⟨s4, pa.isList⟩, ⟨s5, pb⟩⟩ fun T vals h1 tk pv hT tT mid k1 => ⟨_, rfl, ?_⟩
    have apT := W.apart i T h1 mid
    refine W.go es k ps i T _ _ _ mid fun h2 st2 k2 => ?_
    obtain ⟨x1, x2, e1, e2, rfl⟩ := pv
    have f1 : x1 = u' := by
      have := e1.symm.trans (show la.toArray[i]? = some u' by simpa using eu)
      exact Option.some.inj this
    have f2 : x2 = v' := by
      have := e2.symm.trans (show lb.toArray[i]? = some v' by simpa using ev')
      exact Option.some.inj this
    subst f1 f2
    obtain ⟨z1, z2, z3, ⟨z4, _⟩, ⟨z5, _⟩⟩ := st2
    have tT2 : h2.IsTuple T #[x1, x2] := tT.at fun o e => k2 T o apT e
    have in5 : ∀ c, c ∉ [z, TI, TO, i1, i2] → c ∉ [z, TO, i1, i2] := fun c h m => h (by
      rcases (by simpa using m : c = z ∨ c = TO ∨ c = i1 ∨ c = i2) with rfl | rfl | rfl | rfl <;> simp)
    have J := I.turnedNew (h' := h2) (t' := tk) (ch := [z, TI, TO, i1, i2]) (T := T) (ob := .tup [u, v]) (fun c o hb' q => k2 c o (in5 c hb') (k1 c o (in5 c hb') q)) hf hT ⟨(by show 2 ≤ sizeLine; decide), [x1, x2], .cons ru (.cons rv .nil), tT2⟩
    refine ⟨.ref T, _, J, rfl, ⟨T, u, v, rfl, I.hok.fresh hT, rfl, fun l hl => ?_, fun l hl => ?_⟩, ⟨z1, z2, z3, z4, z5⟩, fun c hcm => ?_⟩
    · rw [I.list_inj hl qa]
      exact hu
    · rw [I.tuple_inj hl qb]
      exact hv
    · obtain ⟨o, ho, _⟩ := lv c hcm
      have lt := Heap.lt_size ho
      rw [upd_ne (Nat.ne_of_lt (Nat.lt_of_lt_of_le lt hT))]
      exact (hf c hcm).1
  · cases eP
    cases ew
    cases eK
    obtain ⟨s1, s2, s3, s4, s5⟩ := st
    obtain ⟨us, ws, qa, qb, e1, e2⟩ := hg
    obtain ⟨la, ra, pa, _⟩ := I.list qa
    obtain ⟨lb, rb, pb, _⟩ := I.tuple qb
    have W := WalksT.zipD2 (A := X.A) S (Draws.list (prog := X.prog) (w := X.w) (A := X.A.in1) (I.ok.hd hc) i1 a na la.toArray) (Draws.tuple (A := X.A.in1) (I.ok.hd hc) i2 b nb lb.toArray)
    have l1 := ra.length
    have l2 := rb.length
    have en : min la.toArray.size lb.toArray.size = i := by
      rw [List.size_toArray, List.size_toArray]
      omega
    rw [en] at W
    refine W.done s _ E ⟨s1, s2, s3, ⟨s4, pa.isList⟩, ⟨s5, pb⟩⟩ fun h1 tk k1 => ⟨rfl, ?_⟩
    exact I.turnedL (t' := tk) (ch := [z, TI, TO, i1, i2]) (fun c o hb' q => k1 c o (fun m => hb' (by rcases (by simpa using m : c = z ∨ c = TO ∨ c = i1 ∨ c = i2) with rfl | rfl | rfl | rfl <;> simp)) q) hf
def iZipLT (K : PySem.W.Frag) (ta : TA) : TI := fun σ H R => ta σ H fun vs H1 => ∃ a b us ws, vs = [.ref a, .ref b] ∧ SqL K H1 a us ∧ SqT K H1 b ws ∧ R (ItLT K a b) H1
theorem pi_zipLT {X : Cx} {e e2 : Expr} {ta : TA} {p pos tpos : Pos} {elts : List Expr} {kk : Nat} (hg : Gl X "zip") (hm : X.mg "zip" = none) (ha : PA X [e, e2] ta)
    (hs : starEach [e, e2] X.env = (false, eval e X.env) :: starEach [e2] X.env := by rfl) (hpl : (backTo pos (starEach [e2] X.env)).any (·.1) = false := by rfl) : PI X (.Tuple elts kk tpos) (.Call (.Name "zip" p) [e, e2] [] pos) (iZipLT X.K ta) := by
  refine ⟨fun pins s σ H R I h => Call_ (ld_blt I hg hm PyProof.Rows.boot_zip (PyProof.Rows.callWith_type1 (thn (ha.run pos pins s σ H _ I h) fun us s1 ⟨vs, H1, I1, r1, q1⟩ => ?_) hs hpl))⟩
  obtain ⟨a, b, ul, wl, rfl, qa, qb, q⟩ := q1
  obtain ⟨v1, v2, rfl, t1, t2⟩ := vals2 r1
  cases t1
  cases t2
  obtain ⟨la, ra, pa, _⟩ := I1.list qa
  obtain ⟨lb, rb, pb, _⟩ := I1.tuple qb
  obtain ⟨ob, hob, _⟩ := id pb
  have lt1 : a < s1.heap.objs.size := pa.lt
  have lt2 : b < s1.heap.objs.size := Heap.lt_size hob
  refine zip_begins2 (begins_list a la.toArray) (begins_tuple b lb.toArray) pa.isList pb fun h' hz hTI hTO g1 g2 hsz hk => wpAny_pyIter_zip hz ?_
  have J : Inv X pins σ H1 { s1 with heap := h' } := I1.kept (t' := s1.toks) hk
  have S := zip_sep2 (N := s1.heap.objs.size) (fp1 := [a]) (fp2 := [b]) (fun c hc => by rw [List.mem_singleton.mp hc]; exact lt1) (fun c hc => by rw [List.mem_singleton.mp hc]; exact lt2)
  refine ⟨_, _, _, _, H1, rfl, J, turn_LT S (Nat.ne_of_lt lt1) (Nat.ne_of_lt (Nat.lt_succ_of_lt lt2)), ⟨hz, hTI, ⟨_, _, hTO⟩, ⟨_, g1, rfl, rfl⟩, ⟨_, g2, rfl, rfl⟩⟩, fun c hcm => ?_, q⟩
  have le : s1.heap.objs.size ≤ c := by
    rcases (by simpa using hcm : c = s1.heap.objs.size + 4 ∨ c = s1.heap.objs.size + 2 ∨ c = s1.heap.objs.size + 3 ∨ c = s1.heap.objs.size ∨ c = s1.heap.objs.size + 1) with e | e | e | e | e <;> (rw [e]; first | exact Nat.le_refl _ | exact Nat.le_add_right _ _)
  exact I1.fpOk le (I1.hok.fresh le)
theorem walk_LT {K : PySem.W.Frag} {a b : Addr} {us ws : List V} {n : Nat} (hx : us.length = n) (hy : ws.length = n) : Walk (ItLT K a b) n (fun H => SqL K H a us ∧ SqT K H b ws) (YPair (fun i => us[i]?) (fun i => ws[i]?)) := by
  refine ⟨fun i H hi q => ⟨us, ws, us[i]'(by omega), ws[i]'(by omega), q.1, q.2, List.getElem?_eq_getElem _, List.getElem?_eq_getElem _⟩, fun H q => ⟨us, ws, q.1, q.2, hx, hy⟩, fun i H v H' hi q y => ?_⟩
  obtain ⟨T, x, z, h1, h2, h3, h4, h5⟩ := y
  exact ⟨T, x, z, h1, h2, h3, h4 us q.1, h5 ws q.2⟩
end NG

namespace NG
open PySem PySem.Spec PyProof.Rows L2
/-! ### enumerate of a tuple -/
set_option maxHeartbeats 1000000 in
theorem enum_new1 {v : Value} {ob : Obj} {Hv : Heap → Prop} (B : Begins v ob Hv) :
    Meets (Builtin.«enumerate.__new__» ⟨[.type "enumerate", v], []⟩) (fun _ R st => Hv st.heap ∧ R (.ok (.ret (.ref (st.heap.push ob).objs.size))) { st with heap := (st.heap.push ob).push { cls := .type "enumerate", data := .fields #[.none, .bool false, .ref st.heap.objs.size, rawInt 0, .none, .none] } }) := by
  refine .of_wp fun pr wl A R st h => ?_
  obtain ⟨hp, g, d, tk, os⟩ := st
  obtain ⟨hv, hR⟩ := h
  have se := sub_enumerate
  have qi : ∀ {A' : Around} {E : Value → Shared → Prop} {Q : Value → Shared → Prop}, Q (.ref hp.objs.size) ⟨hp.push ob, g, d, tk, os⟩ → wpAny (model pr wl) A' (pyIter v) Q E ⟨hp, g, d, tk, os⟩ := fun q => B.iter pr wl _ _ ⟨hp, g, d, tk, os⟩ _ hv q
  wp_walk using qi
  refine wpAny_stack_any fun sk => wpAny_pure ?_
  split
  · rename_i c _ _ _ _ _
    cases (c == Value.type "enumerate")
    all_goals
      wp_walk using qi
      exact ⟨_, rfl, hR⟩
  · wp_walk using qi
    exact ⟨_, rfl, hR⟩
theorem enum_call1 {pr : Program} {wl : World} {A : Around} {E : Value → Shared → Prop} {st : Shared} {v : Value} {ob : Obj} {Hv : Heap → Prop} {Q : Value → Shared → Prop} (B : Begins v ob Hv) (hv : Hv st.heap)
    (hQ : ∀ h', IsEnum h' (st.heap.objs.size + 1) st.heap.objs.size 0 .none → h'.get? st.heap.objs.size = some ob → (∀ b o, st.heap.get? b = some o → h'.get? b = some o) → Q (.ref (st.heap.objs.size + 1)) { st with heap := h' }) : wpAny (model pr wl) A (call (.type "enumerate") [v]) Q E st := by
  refine callType_new F.called_enumerate (by decide) (F.typeCall_enumerate_1 _) (F.newCall_enumerate_1 _) (fun x => F.args_object_init_2 x _) F.entry_enumerate_new (enum_new1 B) ⟨hv, ?_⟩
  have sz : (st.heap.push ob).objs.size = st.heap.objs.size + 1 := Heap.size_push ..
  show _ ∧ _
  rw [sz]
  have ie : IsEnum ((st.heap.push ob).push { cls := .type "enumerate", data := .fields #[.none, .bool false, .ref st.heap.objs.size, rawInt 0, .none, .none] }) (st.heap.objs.size + 1) st.heap.objs.size 0 .none := by
    have t := Heap.get?_push_size (st.heap.push ob) (o := { cls := .type "enumerate", data := .fields #[.none, .bool false, .ref st.heap.objs.size, rawInt 0, .none, .none] }) rfl
    rw [sz] at t
    exact t
  exact ⟨⟨_, ie, rfl⟩, hQ _ ie (Heap.get?_push_of_some _ (Heap.get?_push_size _ B.free)) fun b o x => Heap.get?_push_of_some _ (Heap.get?_push_of_some _ x)⟩
def ItEn (K : PySem.W.Frag) (a : Addr) : It :=
  ⟨fun i H => ∃ (ws : List V) (v : V), SqT K H a ws ∧ ws[i]? = some v,
   fun i H r H' => ∃ (T : Addr) (v : V), r = .ref T ∧ H T = none ∧ H' = upd H T (.tup [.int (i : Nat), v]) ∧ ∀ ws, SqT K H a ws → ws[i]? = some v,
   fun i H => ∃ ws : List V, SqT K H a ws ∧ ws.length = i⟩
theorem turn_En {P : Program} {w : World} {K : PySem.W.Frag} {es : List Expr} {k : Nat} {ps : Pos} {a e it : Addr} (ne : e ≠ it) (nea : e ≠ a) (na : a ≠ it) :
    Turn P w K (.Tuple es k ps) (ItEn K a) [e, it] e (fun i h => (∃ old, IsEnum h e it ((i : Nat) : Int) old) ∧ h.IsTupleIter it a i) := by
  have two : ∀ {c : Addr}, c ∈ [e, it] → c = e ∨ c = it := fun h => by simpa using h
  have lives : ∀ (i : Nat) (h : Heap), ((∃ old, IsEnum h e it ((i : Nat) : Int) old) ∧ h.IsTupleIter it a i) → ∀ c ∈ [e, it], ∃ o, h.get? c = some o ∧ ∀ v, o.data ≠ .cell v := fun i h st c hc => by
    obtain ⟨⟨old, s1⟩, ⟨o5, s5, _, d5⟩⟩ := st
    rcases two hc with rfl | rfl
    · exact ⟨_, s1, fun v q => nomatch q⟩
    · exact ⟨o5, s5, fun v q => by rw [d5] at q; exact nomatch q⟩
  have hef : e ∉ [it, a] := fun m => by
    rcases (by simpa using m : e = it ∨ e = a) with q | q
    · exact ne q
    · exact nea q
  refine ⟨List.mem_cons_self, lives, fun i h h' st kp => ?_, fun X eP ew eK hc i pins s σ H E I hf st hg => ?_, fun X eP ew eK hc i pins s σ H E I hf st hg => ?_, fun A i s Q E st q => let ⟨⟨_, z⟩, _⟩ := st; wpAny_pyIter_enum z q⟩
  · obtain ⟨⟨old, s1⟩, s5⟩ := st
    exact ⟨⟨old, kp _ (by simp) _ s1⟩, s5.at fun o q => kp _ (by simp) o q⟩
  · cases eP
    cases ew
    cases eK
    have lv := lives i _ st
    obtain ⟨s1, s5⟩ := st
    obtain ⟨ws, v, qb, hv⟩ := hg
    obtain ⟨lb, rb, pb, _⟩ := I.tuple qb
    obtain ⟨v', ev', rv⟩ := rb.get hv
    have W := WalksT.enumerateD (A := X.A) (Draws.tuple (prog := X.prog) (w := X.w) (A := X.A.in1) (I.ok.hd hc) it a na lb.toArray) e ne hef List.mem_cons_self
    have ir : i < lb.length := (List.getElem?_eq_some_iff.mp ev').1
    refine W.item i s _ E (by rw [List.size_toArray]; omega) ⟨s1, s5, pb⟩ fun T vals h1 tk pv hT tT mid k1 => ⟨_, rfl, ?_⟩
    have apT := W.apart i T h1 mid
    refine W.go es k ps i T _ _ _ mid fun h2 st2 k2 => ?_
    obtain ⟨t2, x2, e2, rfl⟩ := pv
    have f2 : x2 = v' := by
      have := e2.symm.trans (show lb.toArray[i]? = some v' by simpa using ev')
      exact Option.some.inj this
    subst f2
    obtain ⟨z1, z5, _⟩ := st2
    have tT2 : h2.IsTuple T #[.int i t2, x2] := tT.at fun o e => k2 T o apT e
    have J := I.turnedNew (h' := h2) (t' := tk) (ch := [e, it]) (T := T) (ob := .tup [.int (i : Nat), v]) (fun c o hb' q => k2 c o hb' (k1 c o hb' q)) hf hT ⟨(by show 2 ≤ sizeLine; decide), [.int i t2, x2], .cons ⟨_, rfl⟩ (.cons rv .nil), tT2⟩
    refine ⟨.ref T, _, J, rfl, ⟨T, v, rfl, I.hok.fresh hT, rfl, fun l hl => ?_⟩, ⟨z1, z5⟩, fun c hcm => ?_⟩
    · rw [I.tuple_inj hl qb]
      exact hv
    · obtain ⟨o, ho, _⟩ := lv c hcm
      have lt := Heap.lt_size ho
      rw [upd_ne (Nat.ne_of_lt (Nat.lt_of_lt_of_le lt hT))]
      exact (hf c hcm).1
  · cases eP
    cases ew
    cases eK
    obtain ⟨s1, s5⟩ := st
    obtain ⟨ws, qb, e2⟩ := hg
    obtain ⟨lb, rb, pb, _⟩ := I.tuple qb
    have W := WalksT.enumerateD (A := X.A) (Draws.tuple (prog := X.prog) (w := X.w) (A := X.A.in1) (I.ok.hd hc) it a na lb.toArray) e ne hef List.mem_cons_self
    have l2 := rb.length
    have en : lb.toArray.size = i := by
      rw [List.size_toArray]
      omega
    rw [en] at W
    refine W.done s _ E ⟨s1, s5, pb⟩ fun h1 tk k1 => ⟨rfl, ?_⟩
    exact I.turnedL (t' := tk) (ch := [e, it]) (fun c o hb' q => k1 c o hb' q) hf
def iEnT (K : PySem.W.Frag) (ta : TA) : TI := fun σ H R => ta σ H fun vs H1 => ∃ a ws, vs = [.ref a] ∧ SqT K H1 a ws ∧ R (ItEn K a) H1
theorem pi_enumT {X : Cx} {x : Expr} {ta : TA} {p pos tpos : Pos} {elts : List Expr} {kk : Nat} (hg : Gl X "enumerate") (hm : X.mg "enumerate" = none) (ha : PA X [x] ta)
    (hs : starEach [x] X.env = [(false, eval x X.env)] := by rfl) : PI X (.Tuple elts kk tpos) (.Call (.Name "enumerate" p) [x] [] pos) (iEnT X.K ta) := by
  refine ⟨fun pins s σ H R I h => Call_ (ld_blt I hg hm boot_enumerate (PyProof.Rows.callWith_type1 (thn (ha.run pos pins s σ H _ I h) fun us s1 ⟨vs, H1, I1, r1, q1⟩ => ?_) hs rfl))⟩
  obtain ⟨a, wl, rfl, qb, q⟩ := q1
  rw [Vals.ref1 r1]
  obtain ⟨lb, rb, pb, _⟩ := I1.tuple qb
  obtain ⟨ob, hob, _⟩ := id pb
  have lt2 : a < s1.heap.objs.size := Heap.lt_size hob
  refine enum_call1 (begins_tuple a lb.toArray) pb fun h' he g2 hk => wpAny_pyIter_enum he ?_
  have J : Inv X pins σ H1 { s1 with heap := h' } := I1.kept (t' := s1.toks) hk
  refine ⟨_, _, _, _, H1, rfl, J, turn_En (a := a) (e := s1.heap.objs.size + 1) (it := s1.heap.objs.size) (Nat.succ_ne_self _) (Nat.ne_of_gt (Nat.lt_succ_of_lt lt2)) (Nat.ne_of_lt lt2), ⟨⟨.none, he⟩, ⟨_, g2, rfl, rfl⟩⟩, fun c hcm => ?_, q⟩
  have le : s1.heap.objs.size ≤ c := by
    rcases (by simpa using hcm : c = s1.heap.objs.size + 1 ∨ c = s1.heap.objs.size) with e | e <;> (rw [e]; first | exact Nat.le_refl _ | exact Nat.le_add_right _ _)
  exact I1.fpOk le (I1.hok.fresh le)
theorem walk_En {K : PySem.W.Frag} {a : Addr} {ws : List V} {n : Nat} (hy : ws.length = n) : Walk (ItEn K a) n (fun H => SqT K H a ws) (YPair (fun i => some (.int (i : Nat))) (fun i => ws[i]?)) := by
  refine ⟨fun i H hi q => ⟨ws, ws[i]'(by omega), q, List.getElem?_eq_getElem _⟩, fun H q => ⟨ws, q, hy⟩, fun i H v H' hi q y => ?_⟩
  obtain ⟨T, z, h1, h2, h3, h4⟩ := y
  exact ⟨T, .int (i : Nat), z, h1, h2, h3, rfl, h4 ws q⟩
end NG

namespace NG
open PySem PySem.Spec PyProof.Rows L2
/-! ### the same with a truth for jumps -/
def spExprB (K : PySem.W.Frag) (m : Nat) : Sp := fun vs H Q _ => ∃ (a : Addr) (many l n : Nat) (j : Bool), vs = [.ref a, .int (many : Int), .int (l : Int), .bl j] ∧ True ∧ l < m ∧ 1 ≤ many ∧ many ≤ 1000 ∧ HandAt H a n ∧ n + cost l ≤ 999999000 ∧
  ∀ H' v e, But a H H' → HandAt H' a (n + cost l) → ExAt K H' e v → ExOk many e → e.dep ≤ l + 1 → Q v H'
/-- a stake: cut to its far -/
def spStakeB (K : PySem.W.Frag) (m : Nat) : Sp := fun vs H Q _ => ∃ (a : Addr) (many l n : Nat) (j : Bool), vs = [.ref a, .int (many : Int), .int (l : Int), .bl j] ∧ True ∧ l < m ∧ 1 ≤ many ∧ many ≤ 1000 ∧ HandAt H a n ∧ n + cost l ≤ 999998000 ∧
  ∀ H' v e, But a H H' → HandAt H' a (n + cost l + 3) → ExAt K H' e v → ExOk many e → e.dep ≤ l + 3 → (∃ c : Int, e = .fig c ∧ -500 ≤ c ∧ c ≤ 500) ∨ (∃ (c : Int) (e' : Ex), e = .two .least (.fig c) (.two .most (.fig (-c)) e') ∧ 1 ≤ c ∧ c ≤ 500 ∧ ExOk many e' ∧ e'.dep ≤ l + 1) → Q v H'
def spDoubterB (K : PySem.W.Frag) (m : Nat) : Sp := fun vs H Q _ => ∃ (a : Addr) (many l n : Nat) (j : Bool), vs = [.ref a, .int (many : Int), .int (l : Int), .bl j] ∧ True ∧ l < m ∧ l ≤ 5 ∧ 1 ≤ many ∧ many ≤ 3 ∧ HandAt H a n ∧ n ≤ 999990000 ∧
  ∀ H' v D, But a H H' → HandAt H' a (n + 3 * cost l + 300) → DbAt K H' D v → DbOk many (l + 3) 2 10 D → (∀ e ∈ D.stakes, StOk many l e) → Q v H'
end NG

namespace NG
open PySem PySem.Spec PyProof.Rows L2
/-! ### a tuple so many times, any number of times -/
theorem mul_itself (l : Addr) (its : Array Value) (n : Nat) (dd : Option Addr) (sl : Array (Option Value)) (x : Int) (u : Tok) (c0 : (decide (x < -(2 ^ 63)) || decide (x ≥ 2 ^ 63)) = false) (c1 : (its.isEmpty || x == 1) = true) :
    Meets (Builtin.«tuple.__mul__» ⟨[.ref l, .int x u], []⟩) (fun _ R st => st.heap.get? l = some { cls := .type "tuple", dict := dd, data := .seq its n, slots := sl } ∧ R (.ok (.ret (Value.ref l))) st) := by
  refine .of_wp fun pr wl A R st h => ?_
  obtain ⟨hp, g, d, tk, os⟩ := st
  obtain ⟨hl, hR⟩ := h
  have f1 := AutoSeq1.idx_int
  wp_walk using wpAny_loadPart' hl
  repeat (first
    | (refine wpAny_ite_false (decide_eq_false (by rw [c0]; exact Bool.false_ne_true)) ?_; wp_walk using wpAny_loadPart' hl)
    | (refine wpAny_ite_true (decide_eq_true c1) ?_; wp_walk using wpAny_loadPart' hl))
  exact ⟨_, rfl, hR⟩
theorem mul_none (l : Addr) (its : Array Value) (n : Nat) (dd : Option Addr) (sl : Array (Option Value)) (x : Int) (u : Tok) (c0 : (decide (x < -(2 ^ 63)) || decide (x ≥ 2 ^ 63)) = false) (c1 : (its.isEmpty || x == 1) = false) (c2 : (decide (x ≤ 0) || its.isEmpty) = true) :
    Meets (Builtin.«tuple.__mul__» ⟨[.ref l, .int x u], []⟩) (fun _ R st => st.heap.get? l = some { cls := .type "tuple", dict := dd, data := .seq its n, slots := sl } ∧ R (.ok (.ret (Value.ref st.heap.objs.size))) { st with heap := st.heap.push { cls := Value.type "tuple", data := Data.seq #[] } }) := by
  refine .of_wp fun pr wl A R st h => ?_
  obtain ⟨hp, g, d, tk, os⟩ := st
  obtain ⟨hl, hR⟩ := h
  have f1 := AutoSeq1.idx_int
  wp_walk using wpAny_loadPart' hl
  repeat (first
    | (refine wpAny_ite_false (decide_eq_false (by rw [c0]; exact Bool.false_ne_true)) ?_; wp_walk using wpAny_loadPart' hl)
    | (refine wpAny_ite_false (decide_eq_false (by rw [c1]; exact Bool.false_ne_true)) ?_; wp_walk using wpAny_loadPart' hl)
    | (refine wpAny_ite_true (decide_eq_true c2) ?_; wp_walk using wpAny_loadPart' hl))
  exact ⟨_, rfl, hR⟩
def rRepA (K : PySem.W.Frag) : R2 := fun x y H Q => ∃ l k xs, x = .ref l ∧ y = .int k ∧ SqT K H l xs ∧ -1000 ≤ k ∧ k ≤ 1000 ∧ xs.length ≤ 1000 ∧ ∀ H' p, Same H H' → SqT K H' p (List.replicate k.toNat xs).flatten → Q (.ref p) H'
theorem op_repA {X : Cx} : OpR X (binaryOp .Mult) (rRepA X.K) := by
  intro pins s σ H x y v u Q I rx ry h
  obtain ⟨l, k, xs, rfl, rfl, hT, h0, h2, hz, q⟩ := h
  by_cases hbig : xs ≠ [] ∧ 2 ≤ k
  · exact op_repT pins s σ H _ _ v u Q I rx ry ⟨l, k, xs, rfl, rfl, hT, hbig.1, hbig.2, h2, hz, fun p np => q _ p (same_new np) (SqT.of upd_same)⟩
  · have rx0 := rx
    cases rx
    obtain ⟨t, rfl⟩ := ry
    obtain ⟨its, r, ⟨⟨cls, dd, data, sl⟩, ho, hc, n, hd⟩, hs⟩ := I.tuple hT
    simp only at hc hd
    subst hc hd
    have hle : its.length = xs.length := r.length.symm
    have c0 : (decide (k < -(2 ^ 63)) || decide (k ≥ 2 ^ 63)) = false := by
      rw [decide_eq_false (by omega), decide_eq_false (by omega)]
      rfl
    by_cases hone : xs = [] ∨ k = 1
    · have c1 : (its.toArray.isEmpty || k == 1) = true := by
        rcases hone with e | e
        · rw [e] at hle
          have : its = [] := List.eq_nil_of_length_eq_zero hle
          rw [this]
          rfl
        · rw [e]
          simp
      have e1 : (List.replicate k.toNat xs).flatten = xs := by
        rcases hone with e | e
        · rw [e]
          simp
        · rw [e]
          simp
      refine wpAny_binaryOp_repeat_ref (T := "tuple") (U := "int") (by decide) ⟨_, ho, rfl⟩ (fun s' => typeIs_int s' k t) noFill_tuple_mul F.fills_int_mul F.slot_int_rmul repeat_tuple F.slot_int_index.lookup
        (call_meets F.slot_int_rmul (typeIs_int s k t) F.entry_int_rmul (F.args_int_rmul_2 _ _) (int_rmul_tuple k t l its.toArray n dd sl) ⟨ho, rfl, ⟨_, ho, rfl⟩, call_meets F.slot_tuple_mul ⟨_, ho, rfl⟩ F.entry_tuple_mul (F.args_tuple_mul_2 _ _) (mul_itself l its.toArray n dd sl k t c0 c1) ⟨ho, ?_⟩⟩)
      exact ⟨.ref l, H, I, rfl, q H l (Same.refl _) (by rw [e1]; exact hT)⟩
    · have hk0 : k ≤ 0 := by
        have h1 : ¬ xs = [] := fun z => hone (.inl z)
        have h2 : ¬ k = 1 := fun z => hone (.inr z)
        have h3 : ¬ 2 ≤ k := fun z => hbig ⟨h1, z⟩
        omega
      have hn : its ≠ [] := fun e => hone (.inl (by
        rw [e] at hle
        exact List.eq_nil_of_length_eq_zero hle.symm))
      have hi : its.toArray.isEmpty = false := by
        cases its with
        | nil => exact absurd rfl hn
        | cons a b => rfl
      have c1 : (its.toArray.isEmpty || k == 1) = false := by
        rw [hi, Bool.false_or]
        exact beq_eq_false_iff_ne.mpr (by omega)
      have c2 : (decide (k ≤ 0) || its.toArray.isEmpty) = true := by
        rw [decide_eq_true hk0]
        rfl
      have e0 : (List.replicate k.toNat xs).flatten = [] := by
        rw [show k.toNat = 0 by omega]
        rfl
      refine wpAny_binaryOp_repeat_ref (T := "tuple") (U := "int") (by decide) ⟨_, ho, rfl⟩ (fun s' => typeIs_int s' k t) noFill_tuple_mul F.fills_int_mul F.slot_int_rmul repeat_tuple F.slot_int_index.lookup
        (call_meets F.slot_int_rmul (typeIs_int s k t) F.entry_int_rmul (F.args_int_rmul_2 _ _) (int_rmul_tuple k t l its.toArray n dd sl) ⟨ho, rfl, ⟨_, ho, rfl⟩, call_meets F.slot_tuple_mul ⟨_, ho, rfl⟩ F.entry_tuple_mul (F.args_tuple_mul_2 _ _) (mul_none l its.toArray n dd sl k t c0 c1 c2) ⟨ho, ?_⟩⟩)
      have np : H s.heap.objs.size = none := I.hok.fresh (Nat.le_refl _)
      refine ⟨.ref s.heap.objs.size, _, I.laid (t' := s.toks) (o := .tup []) (fun b ob q => Heap.get?_push_of_some _ q) (Nat.le_refl _) ?_, rfl, q _ _ (same_new np) (by rw [e0]; exact SqT.of upd_same)⟩
      exact ⟨Nat.zero_le _, [], .nil, IsTup.new _ _⟩
end NG

namespace NG
open PySem PySem.Spec PyProof.Rows L2
/-! ### what is shown, of small numbers -/
structure Shh (d : PyData) (w k : Nat) : Prop where
  sh : d.showable = true
  lf : d.leavesShort 70 = true
  wt : d.weight ≤ w
  dp : d.depth ≤ k
structure ShhAll (ds : List PyData) (w k : Nat) : Prop where
  sh : PyData.showableAll ds = true
  lf : PyData.leavesShortAll 70 ds = true
  wt : PyData.weightAll ds ≤ w
  dp : PyData.depthAll ds ≤ k
theorem Shw.hh {d : PyData} {w k : Nat} (h : Shw d w k) (l : d.leavesShort 70 = true) : Shh d w k := ⟨h.sh, l, h.wt, h.dp⟩
theorem int60 {i : Int} (h : i.natAbs < 2 ^ 60) : PyData.leavesShort 70 (.int i) = true := by
  have hl : i.natAbs.log2 < 60 := PySem.Flt.log2_lt_of (by decide) h
  show decide ((PyData.shown (.int i)).length ≤ 70) = true
  refine decide_eq_true ?_
  have e := int_text_length_le (k := 60) (by decide) hl
  show (Str.ofString (toString i)).length ≤ 70
  rw [PySem.ofString_length]
  omega
theorem Shh.int {i : Int} (h : i.natAbs < 2 ^ 60) : Shh (.int i) 60 0 := by
  have hl : i.natAbs.log2 < 60 := PySem.Flt.log2_lt_of (by decide) h
  have h6 := Shw.int (i := i) (Nat.lt_of_lt_of_le h (Nat.pow_le_pow_right (by decide) (by decide)))
  refine ⟨h6.sh, int60 h, ?_, Nat.le_refl _⟩
  show (if i == 0 then 0 else i.natAbs.log2 + 1) ≤ 60
  split <;> omega
theorem Shh.str {x : Str} (h : (x.cps.toList.all fun c => decide (c < 16 ^ 8)) = true) (hl : x.cps.size ≤ 10) : Shh (.str x) 10 0 := ⟨rfl, h, hl, Nat.le_refl _⟩
theorem ShhAll.nil {k : Nat} : ShhAll [] 0 k := ⟨rfl, rfl, Nat.le_refl _, Nat.zero_le _⟩
theorem ShhAll.cons {d : PyData} {ds : List PyData} {w1 w2 k1 k2 k : Nat} (h1 : Shh d w1 k1) (h2 : ShhAll ds w2 k2) (hk1 : k1 ≤ k) (hk2 : k2 ≤ k) : ShhAll (d :: ds) (w1 + 1 + w2) k := by
  refine ⟨?_, ?_, ?_, ?_⟩
  · show (d.showable && PyData.showableAll ds) = true
    rw [h1.sh, h2.sh]
    rfl
  · show (d.leavesShort 70 && PyData.leavesShortAll 70 ds) = true
    rw [h1.lf, h2.lf]
    rfl
  · show d.weight + 1 + PyData.weightAll ds ≤ _
    have a := h1.wt
    have b := h2.wt
    omega
  · show max d.depth (PyData.depthAll ds) ≤ k
    have a := h1.dp
    have b := h2.dp
    omega
theorem ShhAll.tup {ds : List PyData} {w k : Nat} (h : ShhAll ds w k) : Shh (.tuple ds) w (k + 1) := ⟨h.sh, h.lf, h.wt, by show PyData.depthAll ds + 1 ≤ k + 1; have := h.dp; omega⟩
theorem ShhAll.lst {ds : List PyData} {w k : Nat} (h : ShhAll ds w k) : Shh (.list ds) w (k + 1) := ⟨h.sh, h.lf, h.wt, by show PyData.depthAll ds + 1 ≤ k + 1; have := h.dp; omega⟩
theorem Shh.mono {d : PyData} {w w' k k' : Nat} (h : Shh d w k) (hw : w ≤ w') (hk : k ≤ k') : Shh d w' k' := ⟨h.sh, h.lf, Nat.le_trans h.wt hw, Nat.le_trans h.dp hk⟩
theorem ShhAll.mono {d : List PyData} {w w' k k' : Nat} (h : ShhAll d w k) (hw : w ≤ w') (hk : k ≤ k') : ShhAll d w' k' := ⟨h.sh, h.lf, Nat.le_trans h.wt hw, Nat.le_trans h.dp hk⟩
theorem Shh.fits {d : PyData} {w k : Nat} (h : Shh d w k) (hw : w ≤ 230000) : d.shown.length ≤ sizeLine := by
  have := PyData.shown_le 70 (by decide) d h.lf
  have := h.wt
  have e : sizeLine = 16777216 := by decide
  omega
theorem ShhAll.app {es : List PyData} {w2 k : Nat} : ∀ {ds : List PyData} {w1 : Nat}, ShhAll ds w1 k → ShhAll es w2 k → ShhAll (ds ++ es) (w1 + w2) k
  | [], w1, _, h2 => h2.mono (by omega) (Nat.le_refl _)
  | d :: ds, w1, h1, h2 => by
    have s1 : (d.showable && PyData.showableAll ds) = true := h1.sh
    have s2 : (d.leavesShort 70 && PyData.leavesShortAll 70 ds) = true := h1.lf
    have s3 : d.weight + 1 + PyData.weightAll ds ≤ w1 := h1.wt
    have s4 : max d.depth (PyData.depthAll ds) ≤ k := h1.dp
    have s1 := Bool.and_eq_true_iff.mp s1
    have s2 := Bool.and_eq_true_iff.mp s2
    have hd : Shh d d.weight k := ⟨s1.1, s2.1, Nat.le_refl _, by omega⟩
    have hr : ShhAll ds (PyData.weightAll ds) k := ⟨s1.2, s2.2, Nat.le_refl _, by omega⟩
    exact (ShhAll.cons hd (ShhAll.app hr h2) (Nat.le_refl _) (Nat.le_refl _)).mono (by omega) (Nat.le_refl _)
theorem lf_and {d : PyData} {ds : List PyData} (h : d.leavesShort 70 = true) (t : PyData.leavesShortAll 70 ds = true) : PyData.leavesShortAll 70 (d :: ds) = true := by
  show (d.leavesShort 70 && PyData.leavesShortAll 70 ds) = true
  rw [h, t]
  rfl
theorem lf_ex {many : Nat} (hm : many ≤ 1000) : ∀ {e : Ex}, ExOk many e → (toD e).leavesShort 70 = true
  | .fig c, o => lf_and (d := .str "fig") (by decide) (lf_and (int60 (by have := o.1; have := o.2; omega)) rfl)
  | .reg i, o => lf_and (d := .str "reg") (by decide) (lf_and (int60 (by have o : i < 4 := o; omega)) rfl)
  | .share j, o => lf_and (d := .str "share") (by decide) (lf_and (int60 (by have o : j < many := o; omega)) rfl)
  | .two w a b, o => lf_and (d := .str (wn w)) (by cases w <;> decide) (lf_and (lf_ex hm o.1) (lf_and (lf_ex hm o.2) rfl))
  | .times f a, o => lf_and (d := .str "times") (by decide) (lf_and (int60 (by have := o.1.1; have := o.1.2; omega)) (lf_and (lf_ex hm o.2) rfl))
  | .by i a, o => lf_and (d := .str "by") (by decide) (lf_and (int60 (by have := o.1; omega)) (lf_and (lf_ex hm o.2) rfl))
  | .when i c a b, o => lf_and (d := .str "when") (by decide) (lf_and (int60 (by have := o.1; omega)) (lf_and (int60 (by have := o.2.1.1; have := o.2.1.2; omega)) (lf_and (lf_ex hm o.2.2.1) (lf_and (lf_ex hm o.2.2.2) rfl))))
  | .whr j c a b, o => lf_and (d := .str "where") (by decide) (lf_and (int60 (by have := o.1; omega)) (lf_and (int60 (by have := o.2.1.1; have := o.2.1.2; omega)) (lf_and (lf_ex hm o.2.2.1) (lf_and (lf_ex hm o.2.2.2) rfl))))
theorem lf_ds {many : Nat} (hm : many ≤ 1000) : ∀ {d : Ds}, DsOk many d → PyData.leavesShortAll 70 (dsD d) = true
  | .nil, _ => rfl
  | .op w i x r, o => lf_and (d := .tuple [.str (dn w), .int (i : Int), .int x]) (lf_and (d := .str (dn w)) (by cases w <;> decide) (lf_and (int60 (by have := o.1; omega)) (lf_and (int60 (by have := xok_small hm o.2.1; omega)) rfl))) (lf_ds hm o.2.2)
  | .when i c a b r, o => lf_and (d := .tuple [.str "when", .int (i : Int), .int c, .tuple (dsD a), .tuple (dsD b)]) (lf_and (d := .str "when") (by decide) (lf_and (int60 (by have := o.1; omega)) (lf_and (int60 (by have := o.2.1.1; have := o.2.1.2; omega)) (lf_and (d := .tuple (dsD a)) (lf_ds hm o.2.2.1) (lf_and (d := .tuple (dsD b)) (lf_ds hm o.2.2.2.1) rfl))))) (lf_ds hm o.2.2.2.2)
theorem lf_list {α : Type} {f : α → PyData} : ∀ {xs : List α}, (∀ x ∈ xs, (f x).leavesShort 70 = true) → PyData.leavesShortAll 70 (xs.map f) = true
  | [], _ => rfl
  | x :: r, h => lf_and (h x (by simp)) (lf_list fun y hy => h y (List.mem_cons_of_mem _ hy))
theorem lf_db {many dE dD cD : Nat} {D : Dbt} (hm : many ≤ 1000) (o : DbOk many dE dD cD D) : (dbD D).leavesShort 70 = true := by
  refine lf_and (d := .str D.name) (by rcases o.nm with e | e | e | e <;> rw [e] <;> decide) (lf_and (int60 (by have := o.sc; omega)) (lf_and (d := .tuple (D.begins.map PyData.int)) (lf_list fun x hx => int60 (by have := o.rg.2 x hx; omega)) (lf_and (d := .tuple (D.stakes.map toD)) (lf_list fun e he => lf_ex hm (o.st e he).1) (lf_and (d := .tuple (D.behinds.map fun d => .tuple (dsD d))) (lf_list fun d hd => ?_) rfl))))
  exact lf_ds hm (o.bh d hd).1
end NG

namespace NG
open PySem PySem.Spec PyProof.Rows L2
/-! ### ones, members -/
structure One where
  dbt : Dbt
  regs : List Int
  weight : Int
  motes : Int
  owed : Int
  days : Int
  got : Int
def OneAt (K : PySem.W.Frag) (H : Hp) (o : One) (v : V) : Prop := ∃ (p : Addr) (dv rv : V), v = .ref p ∧ SqT K H p [.str "one", dv, rv, .int o.weight, .int o.motes, .int o.owed, .int o.days, .int o.got] ∧ DbAt K H o.dbt dv ∧ RegsAt K H o.regs rv
theorem OneAt.imp {K : PySem.W.Frag} {H H' : Hp} {o : One} {v : V} (x : OneAt K H o v) (h : ∀ p xs, SqT K H p xs → SqT K H' p xs) : OneAt K H' o v := by
  obtain ⟨p, dv, rv, e, q, d, r⟩ := x
  exact ⟨p, dv, rv, e, h _ _ q, d.imp h, r.imp h⟩
def oneD (o : One) : PyData := .tuple [.str "one", dbD o.dbt, .tuple (o.regs.map PyData.int), .int o.weight, .int o.motes, .int o.owed, .int o.days, .int o.got]
theorem OneAt.dp {K : PySem.W.Frag} {H : Hp} {o : One} {v : V} (x : OneAt K H o v) : Dp K H v (oneD o) := by
  obtain ⟨p, dv, rv, e, q, d, ⟨pr, e2, r, _⟩⟩ := x
  subst e e2
  exact .tup q (.cons (.str _) (.cons d.dp (.cons (.tup r (dp_ints _)) (.cons (.int _) (.cons (.int _) (.cons (.int _) (.cons (.int _) (.cons (.int _) .nil))))))))
structure OneOk (many dE dD cD : Nat) (o : One) : Prop where
  db : DbOk many dE dD cD o.dbt
  rg : RegOk o.regs
  w1 : 1 ≤ o.weight ∧ o.weight ≤ 1000000000000
  m1 : 0 ≤ o.motes ∧ o.motes ≤ 3000000000000
  o1 : 0 ≤ o.owed ∧ o.owed ≤ 99
  d1 : 0 ≤ o.days ∧ o.days ≤ 40
  g1 : -5000000000 ≤ o.got ∧ o.got ≤ 5000000000
theorem shh_one {many dE dD cD : Nat} {o : One} (hm : many ≤ 3) (hE : dE ≤ 8) (hD : dD ≤ 8) (h : OneOk many dE dD cD o) : Shh (oneD o) (600 + 3 * wgt dE + 180 * cD) 22 := by
  have h1 : Shh (.str "one") 10 0 := .str (by decide) (by decide)
  have h2 := (shw_db hm hE hD h.db).hh (lf_db (by omega) h.db)
  have h3 : Shh (.tuple (o.regs.map PyData.int)) (16 * o.regs.length) 1 := ((shw_smalls h.rg.2).tup).hh (lf_list fun x hx => int60 (by have := h.rg.2 x hx; omega))
  have i1 : Shh (.int o.weight) 60 0 := .int (by have := h.w1; omega)
  have i2 : Shh (.int o.motes) 60 0 := .int (by have := h.m1; omega)
  have i3 : Shh (.int o.owed) 60 0 := .int (by have := h.o1; omega)
  have i4 : Shh (.int o.days) 60 0 := .int (by have := h.d1; omega)
  have i5 : Shh (.int o.got) 60 0 := .int (by have := h.g1; omega)
  have hl := h.rg.1
  rw [hl] at h3
  have z : ShhAll [PyData.str "one", dbD o.dbt, .tuple (o.regs.map PyData.int), .int o.weight, .int o.motes, .int o.owed, .int o.days, .int o.got] _ 21 := .cons h1 (.cons h2 (.cons h3 (.cons i1 (.cons i2 (.cons i3 (.cons i4 (.cons i5 (ShhAll.nil (k := 0)) (k := 21) (by omega) (by omega)) (by omega) (Nat.le_refl _)) (by omega) (Nat.le_refl _)) (by omega) (Nat.le_refl _)) (by omega) (Nat.le_refl _)) (by omega) (Nat.le_refl _)) (by omega) (Nat.le_refl _)) (by omega) (Nat.le_refl _)
  exact z.tup.mono (by omega) (by omega)
inductive Ms where
  | nil
  | one (o : One) (r : Ms)
  | house (nm : Str) (m r : Ms)
inductive Mk where
  | one (o : One)
  | house (nm : Str) (m : Ms)
def MsAt (K : PySem.W.Frag) (H : Hp) : Ms → List V → Prop
  | .nil, vs => vs = []
  | .one o r, vs => ∃ v us, vs = v :: us ∧ OneAt K H o v ∧ MsAt K H r us
  | .house nm m r, vs => ∃ p pm xs us, vs = .ref p :: us ∧ SqT K H p [.str "house", .str nm, .ref pm] ∧ SqT K H pm xs ∧ MsAt K H m xs ∧ MsAt K H r us
theorem MsAt.imp {K : PySem.W.Frag} {H H' : Hp} (h : ∀ p xs, SqT K H p xs → SqT K H' p xs) : ∀ {m : Ms} {vs : List V}, MsAt K H m vs → MsAt K H' m vs
  | .nil, _, e => e
  | .one _ _, _, ⟨v, us, e, q, r⟩ => ⟨v, us, e, q.imp h, MsAt.imp h r⟩
  | .house _ _ _, _, ⟨p, pm, xs, us, e, q, qm, m, r⟩ => ⟨p, pm, xs, us, e, h _ _ q, h _ _ qm, MsAt.imp h m, MsAt.imp h r⟩
theorem MsAt.same {K : PySem.W.Frag} {H H' : Hp} {m : Ms} {vs : List V} (x : MsAt K H m vs) (s : Same H H') : MsAt K H' m vs := x.imp fun _ _ q => same_sqt s q
def MkAt (K : PySem.W.Frag) (H : Hp) : Mk → V → Prop
  | .one o, v => OneAt K H o v
  | .house nm m, v => ∃ p pm xs, v = .ref p ∧ SqT K H p [.str "house", .str nm, .ref pm] ∧ SqT K H pm xs ∧ MsAt K H m xs
theorem MkAt.imp {K : PySem.W.Frag} {H H' : Hp} (h : ∀ p xs, SqT K H p xs → SqT K H' p xs) : ∀ {m : Mk} {v : V}, MkAt K H m v → MkAt K H' m v
  | .one _, _, x => OneAt.imp x h
  | .house _ _, _, ⟨p, pm, xs, e, q, qm, m⟩ => ⟨p, pm, xs, e, h _ _ q, h _ _ qm, m.imp h⟩
def msD : Ms → List PyData
  | .nil => []
  | .one o r => oneD o :: msD r
  | .house nm m r => .tuple [.str "house", .str nm, .tuple (msD m)] :: msD r
def mkD : Mk → PyData
  | .one o => oneD o
  | .house nm m => .tuple [.str "house", .str nm, .tuple (msD m)]
theorem MsAt.dps {K : PySem.W.Frag} {H : Hp} : ∀ {m : Ms} {vs : List V}, MsAt K H m vs → DpAll K H vs (msD m)
  | .nil, _, e => by subst e; exact .nil
  | .one _ _, _, ⟨v, us, e, q, r⟩ => by subst e; exact .cons q.dp r.dps
  | .house _ _ _, _, ⟨p, pm, xs, us, e, q, qm, m, r⟩ => by subst e; exact .cons (.tup q (.cons (.str _) (.cons (.str _) (.cons (.tup qm m.dps) .nil)))) r.dps
theorem MkAt.dp {K : PySem.W.Frag} {H : Hp} : ∀ {m : Mk} {v : V}, MkAt K H m v → Dp K H v (mkD m)
  | .one _, _, x => OneAt.dp x
  | .house _ _, _, ⟨p, pm, xs, e, q, qm, m⟩ => by subst e; exact .tup q (.cons (.str _) (.cons (.str _) (.cons (.tup qm m.dps) .nil)))
theorem MkAt.ref {K : PySem.W.Frag} {H : Hp} : ∀ {m : Mk} {v : V}, MkAt K H m v → ∃ p, v = .ref p
  | .one _, _, ⟨p, _, _, e, _⟩ => ⟨p, e⟩
  | .house _ _, _, ⟨p, _, _, e, _⟩ => ⟨p, e⟩
def mkW : Mk → Str
  | .one _ => "one"
  | .house _ _ => "house"
/-- the word ahead -/
theorem MkAt.wd {K : PySem.W.Frag} {H : Hp} : ∀ {m : Mk} {v : V}, MkAt K H m v → ∃ p xs, v = .ref p ∧ SqT K H p (.str (mkW m) :: xs)
  | .one _, _, ⟨p, _, _, e, q, _⟩ => ⟨p, _, e, q⟩
  | .house _ _, _, ⟨p, _, _, e, q, _⟩ => ⟨p, _, e, q⟩
def Ms.cnt : Ms → Nat
  | .nil => 0
  | .one _ r => 1 + r.cnt
  | .house _ m r => 1 + m.cnt + r.cnt
def Ms.len : Ms → Nat
  | .nil => 0
  | .one _ r => r.len + 1
  | .house _ _ r => r.len + 1
def Ms.dep : Ms → Nat
  | .nil => 0
  | .one _ r => r.dep
  | .house _ m r => max (m.dep + 1) r.dep
theorem Ms.len_le : ∀ m : Ms, m.len ≤ m.cnt
  | .nil => Nat.le_refl _
  | .one _ r => by have := r.len_le; show r.len + 1 ≤ 1 + r.cnt; omega
  | .house _ m r => by have := r.len_le; show r.len + 1 ≤ 1 + m.cnt + r.cnt; omega
theorem MsAt.len {K : PySem.W.Frag} {H : Hp} : ∀ {m : Ms} {vs : List V}, MsAt K H m vs → vs.length = m.len
  | .nil, _, e => by subst e; rfl
  | .one _ _, _, ⟨v, us, e, q, r⟩ => by subst e; rw [List.length_cons, r.len]; rfl
  | .house _ _ _, _, ⟨p, pm, xs, us, e, q, qm, m, r⟩ => by subst e; rw [List.length_cons, r.len]; rfl
def Ms.app : Ms → Ms → Ms
  | .nil, e => e
  | .one o r, e => .one o (r.app e)
  | .house nm m r, e => .house nm m (r.app e)
theorem MsAt.app {K : PySem.W.Frag} {H : Hp} : ∀ {d e : Ms} {vs ws : List V}, MsAt K H d vs → MsAt K H e ws → MsAt K H (d.app e) (vs ++ ws)
  | .nil, _, _, _, e, y => by subst e; exact y
  | .one _ _, _, _, _, ⟨v, us, e, q, r⟩, y => by subst e; exact ⟨v, _, rfl, q, MsAt.app r y⟩
  | .house _ _ _, _, _, _, ⟨p, pm, xs, us, e, q, qm, m, r⟩, y => by subst e; exact ⟨p, pm, xs, _, rfl, q, qm, m, MsAt.app r y⟩
theorem Ms.cnt_app : ∀ d e : Ms, (d.app e).cnt = d.cnt + e.cnt
  | .nil, e => by show e.cnt = 0 + e.cnt; omega
  | .one _ r, e => by show 1 + (r.app e).cnt = 1 + r.cnt + e.cnt; rw [Ms.cnt_app r e]; omega
  | .house _ m r, e => by show 1 + m.cnt + (r.app e).cnt = 1 + m.cnt + r.cnt + e.cnt; rw [Ms.cnt_app r e]; omega
theorem Ms.dep_app : ∀ d e : Ms, (d.app e).dep = max d.dep e.dep
  | .nil, e => by show e.dep = max 0 e.dep; omega
  | .one _ r, e => Ms.dep_app r e
  | .house _ m r, e => by show max (m.dep + 1) (r.app e).dep = max (max (m.dep + 1) r.dep) e.dep; rw [Ms.dep_app r e]; omega
/-- each one in it -/
def Ms.all (P : One → Prop) : Ms → Prop
  | .nil => True
  | .one o r => P o ∧ r.all P
  | .house _ m r => m.all P ∧ r.all P
theorem Ms.all_app {P : One → Prop} : ∀ {d e : Ms}, d.all P → e.all P → (d.app e).all P
  | .nil, _, _, y => y
  | .one _ _, _, ⟨a, b⟩, y => ⟨a, Ms.all_app b y⟩
  | .house _ _ _, _, ⟨a, b⟩, y => ⟨a, Ms.all_app b y⟩
def nmOk (nm : Str) : Prop := (nm.cps.toList.all fun c => decide (c < 16 ^ 8)) = true ∧ nm.cps.size ≤ 10
def Ms.nms : Ms → Prop
  | .nil => True
  | .one _ r => r.nms
  | .house nm m r => nmOk nm ∧ m.nms ∧ r.nms
theorem Ms.nms_app : ∀ {d e : Ms}, d.nms → e.nms → (d.app e).nms
  | .nil, _, _, y => y
  | .one _ r, _, a, y => Ms.nms_app (d := r) a y
  | .house _ _ _, _, ⟨n, a, b⟩, y => ⟨n, a, Ms.nms_app b y⟩
def Ms.tl : Ms → Ms
  | .nil => .nil
  | .one _ r => r
  | .house _ _ r => r
def Ms.hd : Ms → Option Mk
  | .nil => none
  | .one o _ => some (.one o)
  | .house nm m _ => some (.house nm m)
def Ms.drop : Nat → Ms → Ms
  | 0, d => d
  | n + 1, d => (d.drop n).tl
theorem MsAt.tl {K : PySem.W.Frag} {H : Hp} : ∀ {d : Ms} {vs : List V}, MsAt K H d vs → MsAt K H d.tl (vs.drop 1)
  | .nil, _, e => by subst e; rfl
  | .one _ _, _, ⟨v, us, e, q, r⟩ => by subst e; exact r
  | .house _ _ _, _, ⟨p, pm, xs, us, e, q, qm, m, r⟩ => by subst e; exact r
theorem MsAt.drop {K : PySem.W.Frag} {H : Hp} {d : Ms} {vs : List V} (h : MsAt K H d vs) : ∀ n, MsAt K H (d.drop n) (vs.drop n)
  | 0 => h
  | n + 1 => by
    have := (MsAt.drop h n).tl
    rw [List.drop_drop] at this
    exact this
theorem MsAt.head {K : PySem.W.Frag} {H : Hp} : ∀ {d : Ms} {v : V} {us : List V}, MsAt K H d (v :: us) → ∃ k, d.hd = some k ∧ MkAt K H k v
  | .one o _, _, _, ⟨v, us, e, q, r⟩ => by cases e; exact ⟨.one o, rfl, q⟩
  | .house nm m _, _, _, ⟨p, pm, xs, us, e, q, qm, mm, r⟩ => by cases e; exact ⟨.house nm m, rfl, p, pm, xs, rfl, q, qm, mm⟩
theorem MsAt.nth {K : PySem.W.Frag} {H : Hp} {d : Ms} {vs : List V} {i : Nat} {v : V} (h : MsAt K H d vs) (hi : vs[i]? = some v) : ∃ k, (d.drop i).hd = some k ∧ MkAt K H k v := by
  have hil := (List.getElem?_eq_some_iff.mp hi).1
  have hd := h.drop i
  rw [List.drop_eq_getElem_cons hil, (List.getElem?_eq_some_iff.mp hi).2] at hd
  exact hd.head
theorem Ms.dep_tl : ∀ d : Ms, d.tl.dep ≤ d.dep
  | .nil => Nat.le_refl _
  | .one _ r => Nat.le_refl _
  | .house _ m r => by show r.dep ≤ max (m.dep + 1) r.dep; omega
theorem Ms.dep_drop (d : Ms) : ∀ n, (d.drop n).dep ≤ d.dep
  | 0 => Nat.le_refl _
  | n + 1 => Nat.le_trans (Ms.dep_tl _) (Ms.dep_drop d n)
theorem Ms.cnt_tl : ∀ d : Ms, d.tl.cnt ≤ d.cnt
  | .nil => Nat.le_refl _
  | .one _ r => by show r.cnt ≤ 1 + r.cnt; omega
  | .house _ m r => by show r.cnt ≤ 1 + m.cnt + r.cnt; omega
theorem Ms.cnt_drop (d : Ms) : ∀ n, (d.drop n).cnt ≤ d.cnt
  | 0 => Nat.le_refl _
  | n + 1 => Nat.le_trans (Ms.cnt_tl _) (Ms.cnt_drop d n)
/-- a house ahead lies deeper, is smaller -/
theorem Ms.hd_house {d : Ms} {nm : Str} {m : Ms} (h : d.hd = some (.house nm m)) : m.dep + 1 ≤ d.dep ∧ m.cnt + 1 ≤ d.cnt := by
  cases d with
  | nil => cases h
  | one o r => cases h
  | house n2 m2 r =>
    cases h
    exact ⟨by show m.dep + 1 ≤ max (m.dep + 1) r.dep; omega, by show m.cnt + 1 ≤ 1 + m.cnt + r.cnt; omega⟩
/-! ### all that stand, with their paths -/
def stdI : Ms → List Int → Int → List (List Int × Mk)
  | .nil, _, _ => []
  | .one o r, path, i => (path ++ [i], .one o) :: stdI r path (i + 1)
  | .house nm m r, path, i => (path ++ [i], .house nm m) :: (stdI m (path ++ [i]) 0 ++ stdI r path (i + 1))
def stdH : Option Mk → List Int → Int → List (List Int × Mk)
  | none, _, _ => []
  | some (.one o), path, i => [(path ++ [i], .one o)]
  | some (.house nm m), path, i => (path ++ [i], .house nm m) :: stdI m (path ++ [i]) 0
theorem stdI_step : ∀ (d : Ms) (path : List Int) (i : Int), stdI d path i = stdH d.hd path i ++ stdI d.tl path (i + 1)
  | .nil, _, _ => rfl
  | .one _ _, _, _ => rfl
  | .house _ _ _, _, _ => rfl
theorem stdI_len : ∀ (d : Ms) (path : List Int) (i : Int), (stdI d path i).length = d.cnt
  | .nil, _, _ => rfl
  | .one _ r, path, i => by show (stdI r path (i + 1)).length + 1 = 1 + r.cnt; rw [stdI_len r]; omega
  | .house _ m r, path, i => by show (stdI m (path ++ [i]) 0 ++ stdI r path (i + 1)).length + 1 = 1 + m.cnt + r.cnt; rw [List.length_append, stdI_len m, stdI_len r]; omega
def PrAt (K : PySem.W.Frag) (H : Hp) (x : List Int × Mk) (u : V) : Prop := ∃ (t h : Addr) (v : V), u = .ref t ∧ SqT K H t [.ref h, v] ∧ SqT K H h (x.1.map V.int) ∧ MkAt K H x.2 v
theorem PrAt.imp {K : PySem.W.Frag} {H H' : Hp} (h : ∀ p xs, SqT K H p xs → SqT K H' p xs) {x : List Int × Mk} {u : V} (y : PrAt K H x u) : PrAt K H' x u := by
  obtain ⟨t, q, v, e, a, b, c⟩ := y
  exact ⟨t, q, v, e, h _ _ a, h _ _ b, c.imp h⟩
def PrsAt (K : PySem.W.Frag) (H : Hp) : List V → List (List Int × Mk) → Prop
  | [], [] => True
  | u :: us, x :: xs => PrAt K H x u ∧ PrsAt K H us xs
  | _, _ => False
theorem PrsAt.imp {K : PySem.W.Frag} {H H' : Hp} (h : ∀ p xs, SqT K H p xs → SqT K H' p xs) : ∀ {us : List V} {xs : List (List Int × Mk)}, PrsAt K H us xs → PrsAt K H' us xs
  | [], [], _ => trivial
  | _ :: _, _ :: _, ⟨x, r⟩ => ⟨x.imp h, PrsAt.imp h r⟩
theorem PrsAt.app {K : PySem.W.Frag} {H : Hp} : ∀ {us ws : List V} {xs ys : List (List Int × Mk)}, PrsAt K H us xs → PrsAt K H ws ys → PrsAt K H (us ++ ws) (xs ++ ys)
  | [], _, [], _, _, y => y
  | _ :: _, _, _ :: _, _, ⟨x, r⟩, y => ⟨x, PrsAt.app r y⟩
theorem PrsAt.len {K : PySem.W.Frag} {H : Hp} : ∀ {us : List V} {xs : List (List Int × Mk)}, PrsAt K H us xs → us.length = xs.length
  | [], [], _ => rfl
  | _ :: _, _ :: _, ⟨_, r⟩ => by rw [List.length_cons, List.length_cons, r.len]
theorem PrsAt.get {K : PySem.W.Frag} {H : Hp} : ∀ {us : List V} {xs : List (List Int × Mk)} {i : Nat} {u : V}, PrsAt K H us xs → us[i]? = some u → ∃ x, xs[i]? = some x ∧ PrAt K H x u
  | [], [], _, _, _, h => by simp at h
  | v :: us, x :: xs, 0, u, ⟨y, r⟩, h => by
    have : v = u := Option.some.inj h
    subst this
    exact ⟨x, rfl, y⟩
  | v :: us, x :: xs, i + 1, u, ⟨y, r⟩, h => PrsAt.get (i := i) r h
def prD (x : List Int × Mk) : PyData := .tuple [.tuple (x.1.map PyData.int), mkD x.2]
theorem PrAt.dp {K : PySem.W.Frag} {H : Hp} {x : List Int × Mk} {u : V} (y : PrAt K H x u) : Dp K H u (prD x) := by
  obtain ⟨t, q, v, e, a, b, c⟩ := y
  subst e
  exact .tup a (.cons (.tup b (dp_ints _)) (.cons c.dp .nil))
theorem PrsAt.dps {K : PySem.W.Frag} {H : Hp} : ∀ {us : List V} {xs : List (List Int × Mk)}, PrsAt K H us xs → DpAll K H us (xs.map prD)
  | [], [], _ => .nil
  | _ :: _, _ :: _, ⟨x, r⟩ => .cons x.dp r.dps
def isOne (x : List Int × Mk) : Bool := match x.2 with
  | .one _ => true
  | .house _ _ => false
def toOne (x : List Int × Mk) : Option One := match x.2 with
  | .one o => some o
  | .house _ _ => none
def onesI (m : Ms) : List (List Int × Mk) := (stdI m [] 0).filter isOne
def aoI : Ms → List One
  | .nil => []
  | .one o r => o :: aoI r
  | .house _ m r => aoI m ++ aoI r
theorem ao_std : ∀ (d : Ms) (path : List Int) (i : Int), ((stdI d path i).filter isOne).filterMap toOne = aoI d
  | .nil, _, _ => rfl
  | .one o r, path, i => by
    show (((path ++ [i], Mk.one o) :: stdI r path (i + 1)).filter isOne).filterMap toOne = o :: aoI r
    rw [List.filter_cons_of_pos (by rfl), List.filterMap_cons_some (b := o) (by rfl), ao_std r]
  | .house nm m r, path, i => by
    show (((path ++ [i], Mk.house nm m) :: (stdI m (path ++ [i]) 0 ++ stdI r path (i + 1))).filter isOne).filterMap toOne = aoI m ++ aoI r
    rw [List.filter_cons_of_neg (by intro h; cases h), List.filter_append, List.filterMap_append, ao_std m, ao_std r]
theorem ones_map : ∀ {xs : List (List Int × Mk)}, (∀ x ∈ xs, isOne x = true) → (xs.filterMap toOne).length = xs.length
  | [], _ => rfl
  | (p, .one o) :: r, h => by
    rw [List.filterMap_cons_some (b := o) (by rfl), List.length_cons, List.length_cons, ones_map fun x hx => h x (List.mem_cons_of_mem _ hx)]
  | (p, .house nm m) :: r, h => by
    have := h (p, .house nm m) (by simp)
    cases this
theorem ones_len (m : Ms) : (onesI m).length = (aoI m).length := by
  have h := ones_map (xs := onesI m) fun x hx => (List.mem_filter.mp hx).2
  rw [← h]
  unfold onesI
  rw [ao_std]
def motesI (m : Ms) : Int := ((aoI m).map (·.motes)).sum
theorem ao_len : ∀ d : Ms, (aoI d).length ≤ d.cnt
  | .nil => Nat.le_refl _
  | .one _ r => by have := ao_len r; show (aoI r).length + 1 ≤ 1 + r.cnt; omega
  | .house _ m r => by have := ao_len m; have := ao_len r; show (aoI m ++ aoI r).length ≤ 1 + m.cnt + r.cnt; rw [List.length_append]; omega
theorem ao_all {P : One → Prop} : ∀ {d : Ms}, d.all P → ∀ o ∈ aoI d, P o
  | .nil, _, o, h => by cases h
  | .one _ r, ⟨a, b⟩, o, h => by
    rcases List.mem_cons.mp h with rfl | h
    · exact a
    · exact ao_all b o h
  | .house _ m r, ⟨a, b⟩, o, h => by
    rcases List.mem_append.mp h with h | h
    · exact ao_all a o h
    · exact ao_all b o h
theorem ao_app : ∀ d e : Ms, aoI (d.app e) = aoI d ++ aoI e
  | .nil, e => rfl
  | .one o r, e => by show o :: aoI (r.app e) = o :: (aoI r ++ aoI e); rw [ao_app r e]
  | .house _ m r, e => by show aoI m ++ aoI (r.app e) = aoI m ++ aoI r ++ aoI e; rw [ao_app r e, List.append_assoc]
/-! ### promises -/
def spStands (K : PySem.W.Frag) (n : Nat) : Sp := fun vs H Q _ => ∃ (p q : Addr) (xs : List V) (m : Ms) (path : List Int), vs = [.ref p, .ref q] ∧ SqT K H p xs ∧ MsAt K H m xs ∧ m.dep < n ∧ m.cnt ≤ 300 ∧ SqT K H q (path.map V.int) ∧ path.length + m.dep ≤ 100 ∧
  ∀ H' l us, Same H H' → H l = none → H' l = some (.lst us) → PrsAt K H' us (stdI m path 0) → Q (.ref l) H'
def spOnes (K : PySem.W.Frag) (n : Nat) : Sp := fun vs H Q _ => ∃ (p pm : Addr) (xs : List V) (many : Int) (m : Ms), vs = [.ref p] ∧ SqT K H p [.int many, .ref pm] ∧ SqT K H pm xs ∧ MsAt K H m xs ∧ m.dep < n ∧ m.cnt ≤ 300 ∧ m.dep ≤ 50 ∧
  ∀ H' t us, Same H H' → SqT K H' t us → PrsAt K H' us (onesI m) → Q (.ref t) H'
def spMotes (K : PySem.W.Frag) (n : Nat) : Sp := fun vs H Q _ => ∃ (p pm : Addr) (xs : List V) (many : Int) (m : Ms), vs = [.ref p] ∧ SqT K H p [.int many, .ref pm] ∧ SqT K H pm xs ∧ MsAt K H m xs ∧ m.dep < n ∧ m.cnt ≤ 300 ∧ m.dep ≤ 50 ∧
  ∀ H', Same H H' → Q (.int (motesI m)) H'
end NG

namespace NG
open PySem PySem.Spec PyProof.Rows L2
theorem reprK {X : Cx} (K : PySem.W.Frag) (hg : X.A.guards = some []) (hu : X.A.units + 64 < cLine) (h : X.K = K := by rfl) : CallR X (.builtin "repr") (rRepr K) := by
  subst h
  exact cr_repr hg hu
/-! ### what is shown of members -/
theorem shh_list {α : Type} {f : α → PyData} {w k : Nat} : ∀ {xs : List α}, (∀ x ∈ xs, Shh (f x) w k) → ShhAll (xs.map f) ((w + 1) * xs.length) k
  | [], _ => ShhAll.nil
  | n :: r, h => by
    have h1 := h n (by simp)
    have h2 := shh_list (xs := r) fun x hx => h x (List.mem_cons_of_mem _ hx)
    refine (ShhAll.cons h1 h2 (Nat.le_refl k) (Nat.le_refl k)).mono ?_ (Nat.le_refl k)
    rw [List.length_cons, Nat.mul_add]
    omega
theorem shh_ms {many dE dD cD : Nat} (hm : many ≤ 3) (hE : dE ≤ 8) (hD : dD ≤ 8) : ∀ {m : Ms}, m.all (OneOk many dE dD cD) → m.nms → ShhAll (msD m) ((700 + 3 * wgt dE + 180 * cD) * m.cnt) (22 + 2 * m.dep)
  | .nil, _, _ => ShhAll.nil
  | .one o r, a, n => by
    have h1 := shh_one hm hE hD a.1
    have h2 := shh_ms hm hE hD (m := r) a.2 n
    refine (ShhAll.cons h1 h2 (k := 22 + 2 * r.dep) (by omega) (Nat.le_refl _)).mono ?_ (Nat.le_refl _)
    show _ ≤ (700 + 3 * wgt dE + 180 * cD) * (1 + r.cnt)
    rw [Nat.mul_add, Nat.mul_one]
    omega
  | .house nm m r, a, n => by
    have h1 := (shh_ms hm hE hD (m := m) a.1 n.2.1).tup
    have h2 := shh_ms hm hE hD (m := r) a.2 n.2.2
    have s1 : Shh (.str "house") 10 0 := .str (by decide) (by decide)
    have s2 : Shh (.str nm) 10 0 := .str n.1.1 n.1.2
    have h3 := (ShhAll.cons s1 (.cons s2 (.cons h1 (ShhAll.nil (k := 0)) (k := 23 + 2 * m.dep) (by omega) (by omega)) (by omega) (Nat.le_refl _)) (by omega) (Nat.le_refl _)).tup
    refine (ShhAll.cons h3 h2 (k := 22 + 2 * max (m.dep + 1) r.dep) (by omega) (by omega)).mono ?_ (Nat.le_refl _)
    show _ ≤ (700 + 3 * wgt dE + 180 * cD) * (1 + m.cnt + r.cnt)
    rw [Nat.mul_add, Nat.mul_add, Nat.mul_one]
    omega
theorem std_path : ∀ (d : Ms) (path : List Int) (i : Int), 0 ≤ i → i + (d.cnt : Int) ≤ 300 → ∀ x ∈ stdI d path i, x.1.length ≤ path.length + d.dep + 1 ∧ ∀ e ∈ x.1, e ∈ path ∨ (0 ≤ e ∧ e ≤ 300)
  | .nil, _, _, _, _, x, h => by cases h
  | .one o r, path, i, i0, i1, x, h => by
    have i1 : i + ((1 + r.cnt : Nat) : Int) ≤ 300 := i1
    have h : x ∈ (path ++ [i], Mk.one o) :: stdI r path (i + 1) := h
    rcases List.mem_cons.mp h with rfl | h
    · refine ⟨by rw [List.length_append]; show path.length + 1 ≤ _; omega, fun e he => ?_⟩
      rcases List.mem_append.mp he with he | he
      · exact .inl he
      · rw [List.mem_singleton.mp he]
        exact .inr ⟨i0, by omega⟩
    · exact std_path r path (i + 1) (by omega) (by omega) x h
  | .house nm m r, path, i, i0, i1, x, h => by
    have i1 : i + ((1 + m.cnt + r.cnt : Nat) : Int) ≤ 300 := i1
    have h : x ∈ (path ++ [i], Mk.house nm m) :: (stdI m (path ++ [i]) 0 ++ stdI r path (i + 1)) := h
    show x.1.length ≤ path.length + max (m.dep + 1) r.dep + 1 ∧ _
    rcases List.mem_cons.mp h with rfl | h
    · refine ⟨by rw [List.length_append]; show path.length + 1 ≤ _; omega, fun e he => ?_⟩
      rcases List.mem_append.mp he with he | he
      · exact .inl he
      · rw [List.mem_singleton.mp he]
        exact .inr ⟨i0, by omega⟩
    · rcases List.mem_append.mp h with h | h
      · obtain ⟨h1, h2⟩ := std_path m (path ++ [i]) 0 (by decide) (by omega) x h
        refine ⟨by rw [List.length_append] at h1; have h1 : x.1.length ≤ path.length + 1 + m.dep + 1 := h1; omega, fun e he => ?_⟩
        rcases h2 e he with he | he
        · rcases List.mem_append.mp he with he | he
          · exact .inl he
          · rw [List.mem_singleton.mp he]
            exact .inr ⟨i0, by omega⟩
        · exact .inr he
      · obtain ⟨h1, h2⟩ := std_path r path (i + 1) (by omega) (by omega) x h
        exact ⟨by omega, h2⟩
theorem std_all {P : One → Prop} : ∀ (d : Ms) (path : List Int) (i : Int), d.all P → ∀ x ∈ stdI d path i, ∀ o, x.2 = .one o → P o
  | .nil, _, _, _, x, h, _, _ => by cases h
  | .one o r, path, i, a, x, h, o2, e => by
    have h : x ∈ (path ++ [i], Mk.one o) :: stdI r path (i + 1) := h
    rcases List.mem_cons.mp h with rfl | h
    · cases e
      exact a.1
    · exact std_all r path (i + 1) a.2 x h o2 e
  | .house nm m r, path, i, a, x, h, o2, e => by
    have h : x ∈ (path ++ [i], Mk.house nm m) :: (stdI m (path ++ [i]) 0 ++ stdI r path (i + 1)) := h
    rcases List.mem_cons.mp h with rfl | h
    · cases e
    · rcases List.mem_append.mp h with h | h
      · exact std_all m (path ++ [i]) 0 a.1 x h o2 e
      · exact std_all r path (i + 1) a.2 x h o2 e
theorem std_house : ∀ (d : Ms) (path : List Int) (i : Int), ∀ x ∈ stdI d path i, ∀ nm m2, x.2 = .house nm m2 → m2.dep + 1 ≤ d.dep ∧ m2.cnt + 1 ≤ d.cnt
  | .nil, _, _, x, h, _, _, _ => by cases h
  | .one o r, path, i, x, h, nm, m2, e => by
    have h : x ∈ (path ++ [i], Mk.one o) :: stdI r path (i + 1) := h
    rcases List.mem_cons.mp h with rfl | h
    · cases e
    · obtain ⟨h1, h2⟩ := std_house r path (i + 1) x h nm m2 e
      exact ⟨h1, by show m2.cnt + 1 ≤ 1 + r.cnt; omega⟩
  | .house nm m r, path, i, x, h, nm2, m2, e => by
    have h : x ∈ (path ++ [i], Mk.house nm m) :: (stdI m (path ++ [i]) 0 ++ stdI r path (i + 1)) := h
    show m2.dep + 1 ≤ max (m.dep + 1) r.dep ∧ m2.cnt + 1 ≤ 1 + m.cnt + r.cnt
    rcases List.mem_cons.mp h with rfl | h
    · cases e
      exact ⟨by omega, by omega⟩
    · rcases List.mem_append.mp h with h | h
      · obtain ⟨h1, h2⟩ := std_house m (path ++ [i]) 0 x h nm2 m2 e
        exact ⟨by omega, by omega⟩
      · obtain ⟨h1, h2⟩ := std_house r path (i + 1) x h nm2 m2 e
        exact ⟨by omega, by omega⟩
/-- a pair of a path and a one, as shown -/
theorem shh_pr {many dE dD cD : Nat} {m : Ms} (hm : many ≤ 3) (hE : dE ≤ 8) (hD : dD ≤ 8) (a : m.all (OneOk many dE dD cD)) (hc : m.cnt ≤ 300) (hd : m.dep ≤ 20) : ∀ x ∈ onesI m, ∃ o, x.2 = .one o ∧ OneOk many dE dD cD o ∧ Shh (prD x) (1000 + 3 * wgt dE + 180 * cD) 23 := fun x hx => by
  obtain ⟨h1, h2⟩ := List.mem_filter.mp hx
  obtain ⟨p1, p2⟩ := std_path m [] 0 (by decide) (by omega) x h1
  obtain ⟨pth, k⟩ := x
  cases k with
  | house nm m2 => cases h2
  | one o =>
    have ho := std_all m [] 0 a _ h1 o rfl
    refine ⟨o, rfl, ho, ?_⟩
    have hb : ∀ e ∈ pth, -1000 ≤ e ∧ e ≤ 1000 := fun e he => by
      rcases p2 e he with z | z
      · cases z
      · omega
    have s1 : Shh (.tuple (pth.map PyData.int)) (16 * pth.length) 1 := ((shw_smalls hb).tup).hh (lf_list fun e he => int60 (by have := hb e he; omega))
    have s2 := shh_one hm hE hD ho
    have pl : pth.length ≤ 21 := by
      have p1 : pth.length ≤ 0 + m.dep + 1 := p1
      omega
    exact ((ShhAll.cons s1 (.cons s2 (ShhAll.nil (k := 0)) (k := 22) (by omega) (by omega)) (by omega) (Nat.le_refl _)).tup).mono (by omega) (by omega)
theorem shh_ones {many dE dD cD : Nat} {m : Ms} (hm : many ≤ 3) (hE : dE ≤ 8) (hD : dD ≤ 8) (a : m.all (OneOk many dE dD cD)) (hc : m.cnt ≤ 300) (hd : m.dep ≤ 20) : Shh (.tuple ((onesI m).map prD)) ((1001 + 3 * wgt dE + 180 * cD) * m.cnt) 24 := by
  have h := shh_list (f := prD) (xs := onesI m) (w := 1000 + 3 * wgt dE + 180 * cD) (k := 23) fun x hx => by
    obtain ⟨o, _, _, h⟩ := shh_pr hm hE hD a hc hd x hx
    exact h
  refine h.tup.mono (Nat.mul_le_mul (by omega) ?_) (by decide)
  rw [ones_len]
  exact ao_len m
theorem motes_bnd {many dE dD cD : Nat} {m : Ms} (a : m.all (OneOk many dE dD cD)) (hc : m.cnt ≤ 300) : (motesI m).natAbs.log2 < 1920 := by
  have h0 : ∀ x ∈ (aoI m).map One.motes, 0 ≤ x ∧ x ≤ 3000000000000 := fun x hx => by
    obtain ⟨o, ho, rfl⟩ := List.mem_map.mp hx
    exact (ao_all a o ho).m1
  have h1 := sum_nonneg (ms := (aoI m).map One.motes) fun x hx => (h0 x hx).1
  have h2 := sum_le (B := 3000000000000) (ms := (aoI m).map One.motes) fun x hx => (h0 x hx).2
  rw [List.length_map] at h2
  have h3 := ao_len m
  have h4 : ((aoI m).length : Int) * 3000000000000 ≤ 300 * 3000000000000 := Int.mul_le_mul_of_nonneg_right (by omega) (by decide)
  have h5 : (motesI m).natAbs < 2 ^ 60 := by
    show (((aoI m).map One.motes).sum).natAbs < 2 ^ 60
    omega
  have := PySem.Flt.log2_lt_of (k := 60) (by decide) h5
  omega
theorem w3 : wgt 3 = 420 := rfl
theorem shh_house {many : Nat} {m : Ms} (hm : many ≤ 3) (a : m.all (OneOk many 3 2 10)) (n : m.nms) (hc : m.cnt ≤ 40) (hd : m.dep ≤ 6) : Shh (.tuple [.int (many : Int), .tuple (msD m)]) 200000 60 := by
  have h1 := (shh_ms hm (by decide) (by decide) a n).tup
  rw [w3] at h1
  have h2 : Shh (.int (many : Int)) 60 0 := .int (by omega)
  have h3 := (ShhAll.cons h2 (.cons h1 (ShhAll.nil (k := 0)) (k := 35) (by omega) (by omega)) (by omega) (Nat.le_refl _)).tup
  exact h3.mono (by omega) (by omega)
theorem shh_ones' {many : Nat} {m : Ms} (hm : many ≤ 3) (a : m.all (OneOk many 3 2 10)) (hc : m.cnt ≤ 40) (hd : m.dep ≤ 6) : Shh (.tuple ((onesI m).map prD)) 200000 60 := by
  have h := shh_ones hm (by decide) (by decide) a (by omega) (by omega)
  rw [w3] at h
  exact h.mono (by omega) (by omega)
theorem shh_one' {many : Nat} {o : One} (hm : many ≤ 3) (a : OneOk many 3 2 10 o) : Shh (oneD o) 200000 60 := by
  have h := shh_one hm (by decide) (by decide) a
  rw [w3] at h
  exact h.mono (by omega) (by omega)
def ofOnes : List One → Ms
  | [] => .nil
  | o :: r => .one o (ofOnes r)
theorem ofOnes_cnt : ∀ os, (ofOnes os).cnt = os.length
  | [] => rfl
  | o :: r => by show 1 + (ofOnes r).cnt = r.length + 1; rw [ofOnes_cnt r]; omega
theorem ofOnes_dep : ∀ os, (ofOnes os).dep = 0
  | [] => rfl
  | o :: r => ofOnes_dep r
theorem ofOnes_nms : ∀ os, (ofOnes os).nms
  | [] => trivial
  | o :: r => ofOnes_nms r
theorem ofOnes_all {P : One → Prop} : ∀ {os : List One}, (∀ o ∈ os, P o) → (ofOnes os).all P
  | [], _ => trivial
  | o :: r, h => ⟨h o (by simp), ofOnes_all fun x hx => h x (List.mem_cons_of_mem _ hx)⟩
end NG

namespace NG
open PySem PySem.Spec PyProof.Rows L2
/-! ### xs[i] read ahead of xs[i] += .. -/
theorem get_neg {X : Cx} : PGet X (fun o i H Q => ∃ (p : Addr) (xs : List V) (k : Int) (z : V), o = .ref p ∧ i = .int k ∧ k < 0 ∧ SqL X.K H p xs ∧ atI xs k = some z ∧ Q z H) := by
  intro pins s σ H o i ov iv Q I ro ri h
  obtain ⟨p, xs, k, z, rfl, rfl, hk, hq, he, q⟩ := h
  cases ro
  obtain ⟨t, rfl⟩ := ri
  obtain ⟨its, r, pl, hz⟩ := I.list hq
  obtain ⟨j, h1, h2, h3, h4, h5⟩ := atI_get he
  obtain ⟨w, ew, rw'⟩ := r.get h2
  have hl := r.length
  have hn := line63
  have hj : (k + (its.toArray.size : Int)).toNat = j := by
    rw [seqIndex_neg (by omega) h4] at h1
    rw [List.size_toArray, ← hl]
    exact Option.some.inj h1
  exact wpAny_getItem_list_neg pl.isList hk (by rw [List.size_toArray]; omega) (by omega) (by rw [hj]; simpa using ew) ⟨z, H, I, rw', q⟩
theorem slAK {X : Cx} (K : PySem.W.Frag) (h : X.K = K := by rfl) : SlR X (rSlA K) := by
  subst h
  exact sl_tupA
theorem catAK {X : Cx} (K : PySem.W.Frag) (h : X.K = K := by rfl) : OpR X (binaryOp .Add) (rCatA K) := by
  subst h
  exact op_catA
theorem pilK {X : Cx} (K : PySem.W.Frag) {tg l : Expr} {tl : TE} (hl : PE X l tl) (h : X.K = K := by rfl) : PI X tg l (iList K tl) := by
  subst h
  exact pi_list hl
theorem pitK {X : Cx} (K : PySem.W.Frag) {tg l : Expr} {tl : TE} (hl : PE X l tl) (h : X.K = K := by rfl) : PI X tg l (iTup K tl) := by
  subst h
  exact pi_tup hl
end NG

namespace NG
open PySem PySem.Spec PyProof.Rows L2
/-! ### zip of a tuple with a list -/
def ItTL (K : PySem.W.Frag) (a b : Addr) : It :=
  ⟨fun i H => ∃ (us ws : List V) (u v : V), SqT K H a us ∧ SqL K H b ws ∧ us[i]? = some u ∧ ws[i]? = some v,
   fun i H r H' => ∃ (T : Addr) (u v : V), r = .ref T ∧ H T = none ∧ H' = upd H T (.tup [u, v]) ∧ (∀ us, SqT K H a us → us[i]? = some u) ∧ ∀ ws, SqL K H b ws → ws[i]? = some v,
   fun i H => ∃ us ws : List V, SqT K H a us ∧ SqL K H b ws ∧ us.length = i ∧ ws.length = i⟩
theorem turn_TL {P : Program} {w : World} {K : PySem.W.Frag} {es : List Expr} {k : Nat} {ps : Pos} {a b z TI TO i1 i2 : Addr} (S : ZipSep2 z TI TO i1 i2 [i1, a] [i2, b]) (na : a ≠ i1) (nb : b ≠ i2) :
    Turn P w K (.Tuple es k ps) (ItTL K a b) [z, TI, TO, i1, i2] z (fun i h => IsZip h z TI TO .none ∧ IsTupOf2 h TI (.ref i1) (.ref i2) ∧ (∃ c d, IsTupOf2 h TO c d) ∧ h.IsTupleIter i1 a i ∧ h.IsListIter i2 b i) := by
  have five : ∀ {c : Addr}, c ∈ [z, TI, TO, i1, i2] → c = z ∨ c = TI ∨ c = TO ∨ c = i1 ∨ c = i2 := fun h => by simpa using h
  have lives : ∀ (i : Nat) (h : Heap), (IsZip h z TI TO .none ∧ IsTupOf2 h TI (.ref i1) (.ref i2) ∧ (∃ c d, IsTupOf2 h TO c d) ∧ h.IsTupleIter i1 a i ∧ h.IsListIter i2 b i) → ∀ c ∈ [z, TI, TO, i1, i2], ∃ o, h.get? c = some o ∧ ∀ v, o.data ≠ .cell v := fun i h st c hc => by
    obtain ⟨s1, s2, ⟨x, y, s3⟩, ⟨o4, s4, _, d4⟩, ⟨o5, s5, _, d5⟩⟩ := st
    rcases five hc with rfl | rfl | rfl | rfl | rfl
    · exact ⟨_, s1, fun v q => nomatch q⟩
    · exact ⟨_, s2, fun v q => nomatch q⟩
    · exact ⟨_, s3, fun v q => nomatch q⟩
    · exact ⟨o4, s4, fun v q => by rw [d4] at q; exact nomatch q⟩
    · exact ⟨o5, s5, fun v q => by rw [d5] at q; exact nomatch q⟩
  refine ⟨List.mem_cons_self, lives, fun i h h' st kp => ?_, fun X eP ew eK hc i pins s σ H E I hf st hg => ?_, fun X eP ew eK hc i pins s σ H E I hf st hg => ?_, fun A i s Q E st q => wpAny_pyIter_zip st.1 q⟩
  · obtain ⟨s1, s2, ⟨x, y, s3⟩, s4, s5⟩ := st
    exact ⟨kp _ (by simp) _ s1, kp _ (by simp) _ s2, ⟨x, y, kp _ (by simp) _ s3⟩, s4.at fun o q => kp _ (by simp) o q, s5.at fun o q => kp _ (by simp) o q⟩
  · cases eP
    cases ew
    cases eK
    have lv := lives i _ st
    obtain ⟨s1, s2, s3, s4, s5⟩ := st
    obtain ⟨us, ws, u, v, qa, qb, hu, hv⟩ := hg
    obtain ⟨la, ra, pa, _⟩ := I.tuple qa
    obtain ⟨lb, rb, pb, _⟩ := I.list qb
    obtain ⟨u', eu, ru⟩ := ra.get hu
    obtain ⟨v', ev', rv⟩ := rb.get hv
    have W := WalksT.zipD2 (A := X.A) S (Draws.tuple (A := X.A.in1) (I.ok.hd hc) i1 a na la.toArray) (Draws.list (prog := X.prog) (w := X.w) (A := X.A.in1) (I.ok.hd hc) i2 b nb lb.toArray)
    have il : i < la.length := (List.getElem?_eq_some_iff.mp eu).1
    have ir : i < lb.length := (List.getElem?_eq_some_iff.mp ev').1
    refine W.item i s _ E (by rw [List.size_toArray, List.size_toArray]; omega) ⟨s1, s2, s3, ⟨s4, pa⟩, ⟨s5, pb.isList⟩⟩ fun T vals h1 tk pv hT tT mid k1 => ⟨_, rfl, ?_⟩
    have apT := W.apart i T h1 mid
    refine W.go es k ps i T _ _ _ mid fun h2 st2 k2 => ?_
    obtain ⟨x1, x2, e1, e2, rfl⟩ := pv
    have f1 : x1 = u' := by
      have := e1.symm.trans (show la.toArray[i]? = some u' by simpa using eu)
      exact Option.some.inj this
    have f2 : x2 = v' := by
      have := e2.symm.trans (show lb.toArray[i]? = some v' by simpa using ev')
      exact Option.some.inj this
    subst f1 f2
    obtain ⟨z1, z2, z3, ⟨z4, _⟩, ⟨z5, _⟩⟩ := st2
    have tT2 : h2.IsTuple T #[x1, x2] := tT.at fun o e => k2 T o apT e
    have in5 : ∀ c, c ∉ [z, TI, TO, i1, i2] → c ∉ [z, TO, i1, i2] := fun c h m => h (by
      rcases (by simpa using m : c = z ∨ c = TO ∨ c = i1 ∨ c = i2) with rfl | rfl | rfl | rfl <;> simp)
    have J := I.turnedNew (h' := h2) (t' := tk) (ch := [z, TI, TO, i1, i2]) (T := T) (ob := .tup [u, v]) (fun c o hb' q => k2 c o (in5 c hb') (k1 c o (in5 c hb') q)) hf hT ⟨(by show 2 ≤ sizeLine; decide), [x1, x2], .cons ru (.cons rv .nil), tT2⟩
    refine ⟨.ref T, _, J, rfl, ⟨T, u, v, rfl, I.hok.fresh hT, rfl, fun l hl => ?_, fun l hl => ?_⟩, ⟨z1, z2, z3, z4, z5⟩, fun c hcm => ?_⟩
    · rw [I.tuple_inj hl qa]
      exact hu
    · rw [I.list_inj hl qb]
      exact hv
    · obtain ⟨o, ho, _⟩ := lv c hcm
      have lt := Heap.lt_size ho
      rw [upd_ne (Nat.ne_of_lt (Nat.lt_of_lt_of_le lt hT))]
      exact (hf c hcm).1
  · cases eP
    cases ew
    cases eK
    obtain ⟨s1, s2, s3, s4, s5⟩ := st
    obtain ⟨us, ws, qa, qb, e1, e2⟩ := hg
    obtain ⟨la, ra, pa, _⟩ := I.tuple qa
    obtain ⟨lb, rb, pb, _⟩ := I.list qb
    have W := WalksT.zipD2 (A := X.A) S (Draws.tuple (A := X.A.in1) (I.ok.hd hc) i1 a na la.toArray) (Draws.list (prog := X.prog) (w := X.w) (A := X.A.in1) (I.ok.hd hc) i2 b nb lb.toArray)
    have l1 := ra.length
    have l2 := rb.length
    have en : min la.toArray.size lb.toArray.size = i := by
      rw [List.size_toArray, List.size_toArray]
      omega
    rw [en] at W
    refine W.done s _ E ⟨s1, s2, s3, ⟨s4, pa⟩, ⟨s5, pb.isList⟩⟩ fun h1 tk k1 => ⟨rfl, ?_⟩
    exact I.turnedL (t' := tk) (ch := [z, TI, TO, i1, i2]) (fun c o hb' q => k1 c o (fun m => hb' (by rcases (by simpa using m : c = z ∨ c = TO ∨ c = i1 ∨ c = i2) with rfl | rfl | rfl | rfl <;> simp)) q) hf
def iZipTL (K : PySem.W.Frag) (ta : TA) : TI := fun σ H R => ta σ H fun vs H1 => ∃ a b us ws, vs = [.ref a, .ref b] ∧ SqT K H1 a us ∧ SqL K H1 b ws ∧ R (ItTL K a b) H1
theorem pi_zipTL {X : Cx} {e e2 : Expr} {ta : TA} {p pos tpos : Pos} {elts : List Expr} {kk : Nat} (hg : Gl X "zip") (hm : X.mg "zip" = none) (ha : PA X [e, e2] ta)
    (hs : starEach [e, e2] X.env = (false, eval e X.env) :: starEach [e2] X.env := by rfl) (hpl : (backTo pos (starEach [e2] X.env)).any (·.1) = false := by rfl) : PI X (.Tuple elts kk tpos) (.Call (.Name "zip" p) [e, e2] [] pos) (iZipTL X.K ta) := by
  refine ⟨fun pins s σ H R I h => Call_ (ld_blt I hg hm PyProof.Rows.boot_zip (PyProof.Rows.callWith_type1 (thn (ha.run pos pins s σ H _ I h) fun us s1 ⟨vs, H1, I1, r1, q1⟩ => ?_) hs hpl))⟩
  obtain ⟨a, b, ul, wl, rfl, qa, qb, q⟩ := q1
  obtain ⟨v1, v2, rfl, t1, t2⟩ := vals2 r1
  cases t1
  cases t2
  obtain ⟨la, ra, pa, _⟩ := I1.tuple qa
  obtain ⟨lb, rb, pb, _⟩ := I1.list qb
  obtain ⟨ob, hob, _⟩ := id pa
  have lt1 : a < s1.heap.objs.size := Heap.lt_size hob
  have lt2 : b < s1.heap.objs.size := pb.lt
  refine zip_begins2 (begins_tuple a la.toArray) (begins_list b lb.toArray) pa pb.isList fun h' hz hTI hTO g1 g2 hsz hk => wpAny_pyIter_zip hz ?_
  have J : Inv X pins σ H1 { s1 with heap := h' } := I1.kept (t' := s1.toks) hk
  have S := zip_sep2 (N := s1.heap.objs.size) (fp1 := [a]) (fp2 := [b]) (fun c hc => by rw [List.mem_singleton.mp hc]; exact lt1) (fun c hc => by rw [List.mem_singleton.mp hc]; exact lt2)
  refine ⟨_, _, _, _, H1, rfl, J, turn_TL S (Nat.ne_of_lt lt1) (Nat.ne_of_lt (Nat.lt_succ_of_lt lt2)), ⟨hz, hTI, ⟨_, _, hTO⟩, ⟨_, g1, rfl, rfl⟩, ⟨_, g2, rfl, rfl⟩⟩, fun c hcm => ?_, q⟩
  have le : s1.heap.objs.size ≤ c := by
    rcases (by simpa using hcm : c = s1.heap.objs.size + 4 ∨ c = s1.heap.objs.size + 2 ∨ c = s1.heap.objs.size + 3 ∨ c = s1.heap.objs.size ∨ c = s1.heap.objs.size + 1) with e | e | e | e | e <;> (rw [e]; first | exact Nat.le_refl _ | exact Nat.le_add_right _ _)
  exact I1.fpOk le (I1.hok.fresh le)
theorem walk_TL {K : PySem.W.Frag} {a b : Addr} {us ws : List V} {n : Nat} (hx : us.length = n) (hy : ws.length = n) : Walk (ItTL K a b) n (fun H => SqT K H a us ∧ SqL K H b ws) (YPair (fun i => us[i]?) (fun i => ws[i]?)) := by
  refine ⟨fun i H hi q => ⟨us, ws, us[i]'(by omega), ws[i]'(by omega), q.1, q.2, List.getElem?_eq_getElem _, List.getElem?_eq_getElem _⟩, fun H q => ⟨us, ws, q.1, q.2, hx, hy⟩, fun i H v H' hi q y => ?_⟩
  obtain ⟨T, x, z, h1, h2, h3, h4, h5⟩ := y
  exact ⟨T, x, z, h1, h2, h3, h4 us q.1, h5 ws q.2⟩
theorem tupK {X : Cx} (K : PySem.W.Frag) {a : Expr} {ta : TE} {p pos : Pos} (hg : Gl X "tuple") (hm : X.mg "tuple" = none) (ha : PE X a ta) (na : starEach [a] X.env = (false, eval a X.env) :: starEach [] X.env := by rfl) (h : X.K = K := by rfl) :
    PE X (.Call (.Name "tuple" p) [a] [] pos) (tThen ta (kTup K)) := by
  subst h
  exact pe_tupleOf hg hm ha na
/-! ### max of a tuple of ints -/
def rMaxT (K : PySem.W.Frag) : List V → Hp → VK → Prop := fun vs H Q => ∃ (a : Addr) (n : Int) (ns : List Int), vs = [V.ref a] ∧ SqT K H a ((n :: ns).map V.int) ∧ Q (.int (ns.foldl max n)) H
theorem depth_ints : ∀ ns : List Int, PyData.depthAll (ns.map PyData.int) = 0
  | [] => rfl
  | n :: r => by
    rw [List.map_cons]
    show max (PyData.depth (.int n)) (PyData.depthAll (r.map PyData.int)) = 0
    rw [depth_ints r]
    rfl
theorem cr_maxT {X : Cx} (hc : X.calm = true) (hu : X.A.units + 64 < cLine) : CallR X (.builtin "max") (rMaxT X.K) := by
  intro pins s σ H vs us Q I r h
  obtain ⟨a, n, ns, rfl, hs, q⟩ := h
  obtain ⟨its, rv, p, _⟩ := I.tuple hs
  rw [Vals.ref1 r]
  obtain ⟨as, hr⟩ := Dp.readsAll I ((n :: ns).map PyData.int) _ its (dp_ints (n :: ns)) rv
  rw [List.map_cons] at hr
  have al : PySem.W.AlikeAll (PyData.int n :: ns.map PyData.int) := ⟨fun x hx y hy => by
    rw [← List.map_cons (f := PyData.int)] at hx hy
    obtain ⟨i, _, rfl⟩ := List.mem_map.mp hx
    obtain ⟨j, _, rfl⟩ := List.mem_map.mp hy
    rfl, fun x hx => by
    rw [← List.map_cons (f := PyData.int)] at hx
    obtain ⟨i, _, rfl⟩ := List.mem_map.mp hx
    exact fun e => nomatch e⟩
  refine PySem.W.max_tuple_data (I.ok.hd hc) p (by simpa using hr) al (by rw [← List.map_cons (f := PyData.int), depth_ints]; omega) fun i v h' tk bs _ rd hk => ?_
  rw [PySem.W.maxD_ints] at rd
  cases rd
  exact ⟨.int _, H, I.kept hk, ⟨_, rfl⟩, q⟩
theorem foldl_max_spec : ∀ (ns : List Int) (n : Int), (n ≤ ns.foldl max n ∧ ∀ x ∈ ns, x ≤ ns.foldl max n) ∧ (ns.foldl max n = n ∨ ns.foldl max n ∈ ns)
  | [], n => ⟨⟨Int.le_refl _, fun _ h => absurd h (by simp)⟩, .inl rfl⟩
  | k :: r, n => by
    rw [List.foldl_cons]
    obtain ⟨⟨h1, h2⟩, h3⟩ := foldl_max_spec r (max n k)
    have e1 : n ≤ max n k := Int.le_max_left ..
    have e2 : k ≤ max n k := Int.le_max_right ..
    refine ⟨⟨Int.le_trans e1 h1, fun x hx => ?_⟩, ?_⟩
    · rcases List.mem_cons.mp hx with rfl | hx
      · exact Int.le_trans e2 h1
      · exact h2 x hx
    · rcases h3 with h3 | h3
      · rw [h3]
        by_cases c : n ≤ k
        · rw [Int.max_eq_right c]
          exact .inr (by simp)
        · rw [Int.max_eq_left (by omega)]
          exact .inl rfl
      · exact .inr (List.mem_cons_of_mem _ h3)
/-! ### gains -/
def dotI (ss ps : List Int) : Int := (List.zipWith (· * ·) ss ps).sum
def gainI (ss ps : List Int) (p : Int) : Int := ss.sum * p - dotI ss ps
def rightI (ss ps : List Int) (g : Int) : Bool := (List.zipWith (fun s p => (s == 0 || p == g)) ss ps).all id
theorem dot_lin (c d : Int) : ∀ ss ps : List Int, ss.length = ps.length → dotI ss (ps.map fun p => c * p - d) = c * dotI ss ps - d * ss.sum
  | [], [], _ => by simp [dotI]
  | s :: ss, p :: ps, h => by
    have ih := dot_lin c d ss ps (by simpa using h)
    unfold dotI at ih ⊢
    rw [List.map_cons, List.zipWith_cons_cons, List.zipWith_cons_cons, List.sum_cons, List.sum_cons, List.sum_cons, ih, Int.mul_add, Int.mul_add]
    have e1 : s * (c * p - d) = c * (s * p) - d * s := by rw [Int.mul_sub, Int.mul_left_comm, Int.mul_comm s d]
    omega
theorem gains_nought (ss ps : List Int) (h : ss.length = ps.length) : dotI ss (ps.map (gainI ss ps)) = 0 := by
  show dotI ss (ps.map fun p => ss.sum * p - dotI ss ps) = 0
  rw [dot_lin _ _ _ _ h, Int.mul_comm]
  omega
theorem dot_gap (g : Int) : ∀ ss ps : List Int, ss.length = ps.length → (∀ s ∈ ss, 0 ≤ s) → (∀ p ∈ ps, p ≤ g) → dotI ss ps ≤ ss.sum * g ∧ (dotI ss ps = ss.sum * g ↔ rightI ss ps g = true)
  | [], [], _, _, _ => by simp [dotI, rightI]
  | s :: ss, p :: ps, h, hs, hp => by
    obtain ⟨i1, i2⟩ := dot_gap g ss ps (by simpa using h) (fun x hx => hs x (List.mem_cons_of_mem _ hx)) (fun x hx => hp x (List.mem_cons_of_mem _ hx))
    have s0 := hs s (by simp)
    have p0 := hp p (by simp)
    have e : (List.zipWith (fun x1 x2 => x1 * x2) (s :: ss) (p :: ps)).sum = s * p + dotI ss ps := by
      rw [List.zipWith_cons_cons, List.sum_cons]
      rfl
    have er : rightI (s :: ss) (p :: ps) g = ((s == 0 || p == g) && rightI ss ps g) := rfl
    have m : s * p ≤ s * g := Int.mul_le_mul_of_nonneg_left p0 s0
    have es : (s :: ss).sum * g = s * g + ss.sum * g := by rw [List.sum_cons, Int.add_mul]
    have ed : dotI (s :: ss) (p :: ps) = s * p + dotI ss ps := e
    rw [es, ed, er]
    refine ⟨by omega, ?_⟩
    have eq : s * p = s * g ↔ (s == 0 || p == g) = true := by
      rw [Bool.or_eq_true, beq_iff_eq, beq_iff_eq]
      constructor
      · intro q
        by_cases z : s = 0
        · exact .inl z
        · exact .inr (Int.eq_of_mul_eq_mul_left z q)
      · rintro (rfl | rfl)
        · rw [Int.zero_mul, Int.zero_mul]
        · rfl
    rw [Bool.and_eq_true, ← i2, ← eq]
    omega
/-- who is right: just where the greatest gain is at most 0 -/
theorem right_iff {ss ps : List Int} {g m : Int} (h : ss.length = ps.length) (hs : ∀ s ∈ ss, 0 ≤ s) (h0 : 0 < ss.sum) (hg : g ∈ ps) (hp : ∀ p ∈ ps, p ≤ g) (hm : m ∈ ps.map (gainI ss ps)) (hx : ∀ y ∈ ps.map (gainI ss ps), y ≤ m) : rightI ss ps g = decide (m ≤ 0) := by
  obtain ⟨g1, g2⟩ := dot_gap g ss ps h hs hp
  obtain ⟨p, hpm, rfl⟩ := List.mem_map.mp hm
  have k1 := hx (gainI ss ps g) (List.mem_map_of_mem hg)
  have k2 : ss.sum * p ≤ ss.sum * g := Int.mul_le_mul_of_nonneg_left (hp p hpm) (Int.le_of_lt h0)
  unfold gainI at k1 ⊢
  rw [Bool.eq_iff_iff, ← g2, decide_eq_true_iff]
  constructor
  · intro e
    omega
  · intro e
    omega
end NG

namespace NG
open PySem PySem.Spec PyProof.Rows L2
/-! ### rough numbers -/
def bl (n : Nat) : Nat := if n = 0 then 0 else n.log2 + 1
theorem bl_eq (n : Nat) : Builtin.Int.intBits (n : Int) = bl n := by
  unfold Builtin.Int.intBits bl
  rw [Int.natAbs_natCast]
  by_cases h : n = 0
  · subst h
    rfl
  · rw [if_neg h, if_neg (by simpa using h)]
theorem lt_bl (n : Nat) : n < 2 ^ bl n := by
  unfold bl
  by_cases h : n = 0
  · subst h
    decide
  · rw [if_neg h]
    exact Nat.lt_log2_self
theorem bl_le {n k : Nat} (h : n < 2 ^ k) : bl n ≤ k := by
  unfold bl
  by_cases h0 : n = 0
  · rw [if_pos h0]
    exact Nat.zero_le _
  · rw [if_neg h0]
    exact (Nat.log2_lt h0).mpr h
theorem pow_bl {n : Nat} (h : n ≠ 0) : 2 ^ (bl n - 1) ≤ n ∧ 1 ≤ bl n := by
  unfold bl
  rw [if_neg h]
  exact ⟨Nat.log2_self_le h, by omega⟩
def cd (h s : Nat) : Nat := (h + 2 ^ s - 1) / 2 ^ s
theorem cd_cast (h s : Nat) : -(-(h : Int) / 2 ^ s) = ((cd h s : Nat) : Int) := by
  have hp : 0 < 2 ^ s := Nat.pow_pos (by decide)
  have e : (2 : Int) ^ s = ((2 ^ s : Nat) : Int) := by push_cast; rfl
  rw [e]
  unfold cd
  generalize 2 ^ s = p at hp
  have d1 := Nat.div_add_mod (h + p - 1) p
  have d2 := Nat.mod_lt (h + p - 1) hp
  generalize (h + p - 1) / p = q at *
  generalize (h + p - 1) % p = r at *
  have key : -(h : Int) / (p : Int) = -(q : Int) := by
    have a1 : -(q : Int) ≤ -(h : Int) / (p : Int) := by
      rw [Int.le_ediv_iff_mul_le (by omega)]
      have : (h : Int) ≤ (q : Int) * (p : Int) := by
        have z : h ≤ p * q := by omega
        have z2 : ((p * q : Nat) : Int) = (q : Int) * (p : Int) := by push_cast; exact Int.mul_comm _ _
        omega
      rw [Int.neg_mul]
      omega
    have a2 : -(h : Int) / (p : Int) < -(q : Int) + 1 := by
      rw [Int.ediv_lt_iff_lt_mul (by omega), Int.add_mul, Int.neg_mul, Int.one_mul]
      have z2 : ((p * q : Nat) : Int) = (q : Int) * (p : Int) := by push_cast; exact Int.mul_comm _ _
      omega
    omega
  rw [key]
  omega
abbrev Rg := Nat × Nat × Nat
structure Rgh (L bits x : Nat) (r : Rg) : Prop where
  lo : r.1 * 2 ^ r.2.2 ≤ x
  hi : x ≤ r.2.1 * 2 ^ r.2.2
  le : r.1 ≤ r.2.1
  sz : r.2.1 ≤ 2 ^ bits
  ex : L ≤ bits → r = (x, x, 0)
def trimR (lo hi sh bits : Nat) : Rg := (lo / 2 ^ (bl hi - bits), cd hi (bl hi - bits), sh + (bl hi - bits))
theorem trim_ok {L bits x lo hi sh : Nat} (h1 : lo * 2 ^ sh ≤ x) (h2 : x ≤ hi * 2 ^ sh) (h3 : lo ≤ hi) (hx : x < 2 ^ L) (ex : L ≤ bits → lo = x ∧ hi = x ∧ sh = 0) : Rgh L bits x (trimR lo hi sh bits) := by
  unfold trimR
  have hb := lt_bl hi
  generalize hs : bl hi - bits = s
  have hp : 0 < 2 ^ s := Nat.pow_pos (by decide)
  have d1 := Nat.div_add_mod (hi + 2 ^ s - 1) (2 ^ s)
  have d2 := Nat.mod_lt (hi + 2 ^ s - 1) hp
  have hc : hi ≤ cd hi s * 2 ^ s := by
    unfold cd
    rw [Nat.mul_comm]
    omega
  refine ⟨?_, ?_, ?_, ?_, ?_⟩
  · show lo / 2 ^ s * 2 ^ (sh + s) ≤ x
    rw [Nat.add_comm, Nat.pow_add, ← Nat.mul_assoc]
    exact Nat.le_trans (Nat.mul_le_mul_right _ (Nat.div_mul_le_self lo (2 ^ s))) h1
  · show x ≤ cd hi s * 2 ^ (sh + s)
    rw [Nat.add_comm, Nat.pow_add, ← Nat.mul_assoc]
    exact Nat.le_trans h2 (Nat.mul_le_mul_right _ hc)
  · show lo / 2 ^ s ≤ cd hi s
    exact Nat.div_le_div_right (by omega)
  · show cd hi s ≤ 2 ^ bits
    have : hi < 2 ^ bits * 2 ^ s := by
      rw [← Nat.pow_add]
      exact Nat.lt_of_lt_of_le hb (Nat.pow_le_pow_right (by decide) (by omega))
    unfold cd
    rw [← Nat.lt_succ_iff, Nat.div_lt_iff_lt_mul hp, Nat.succ_mul]
    omega
  · intro hL
    obtain ⟨rfl, rfl, rfl⟩ := ex hL
    have := bl_le hx
    have e0 : s = 0 := by omega
    subst e0
    unfold cd
    simp
def timesR (a b : Rg) (bits : Nat) : Rg := trimR (a.1 * b.1) (a.2.1 * b.2.1) (a.2.2 + b.2.2) bits
theorem times_ok {L bits x y : Nat} {a b : Rg} (ha : Rgh L bits x a) (hb : Rgh L bits y b) (h : x * y < 2 ^ L) : Rgh L bits (x * y) (timesR a b bits) := by
  refine trim_ok ?_ ?_ (Nat.mul_le_mul ha.le hb.le) h ?_
  · rw [Nat.pow_add, show a.1 * b.1 * (2 ^ a.2.2 * 2 ^ b.2.2) = (a.1 * 2 ^ a.2.2) * (b.1 * 2 ^ b.2.2) by grind]
    exact Nat.mul_le_mul ha.lo hb.lo
  · rw [Nat.pow_add, show a.2.1 * b.2.1 * (2 ^ a.2.2 * 2 ^ b.2.2) = (a.2.1 * 2 ^ a.2.2) * (b.2.1 * 2 ^ b.2.2) by grind]
    exact Nat.mul_le_mul ha.hi hb.hi
  · intro hL
    rw [ha.ex hL, hb.ex hL]
    exact ⟨rfl, rfl, rfl⟩
theorem one_ok {L bits : Nat} : Rgh L bits 1 (1, 1, 0) := ⟨by decide, by decide, by decide, Nat.pow_pos (by decide), fun _ => rfl⟩
theorem plain_ok {L bits x : Nat} (h : x < 2 ^ L) : Rgh L bits x (trimR x x 0 bits) := trim_ok (by simp) (by simp) (Nat.le_refl _) h fun _ => ⟨rfl, rfl, rfl⟩
/-- n * 2 ^ s > m * 2 ^ t -/
def abv (n s m t : Nat) : Bool := decide (m * 2 ^ t < n * 2 ^ s)
theorem abv_zero {n s m t : Nat} (h : n = 0 ∨ m = 0) : abv n s m t = decide (m < n) := by
  unfold abv
  have hs : 0 < 2 ^ s := Nat.pow_pos (by decide)
  rcases h with rfl | rfl
  · rw [decide_eq_false (by omega), decide_eq_false (by omega)]
  · by_cases hn : n = 0
    · subst hn
      rw [decide_eq_false (by omega), decide_eq_false (by omega)]
    · have : 0 < n * 2 ^ s := Nat.mul_pos (by omega) hs
      rw [decide_eq_true (by omega), decide_eq_true (by omega)]
theorem abv_size {n s m t : Nat} (hn : n ≠ 0) (hm : m ≠ 0) (h : bl n + s ≠ bl m + t) : abv n s m t = decide (bl m + t < bl n + s) := by
  have key : ∀ {n s m t : Nat}, n ≠ 0 → bl m + t < bl n + s → m * 2 ^ t < n * 2 ^ s := fun {n s m t} hn h => by
    have h1 := lt_bl m
    obtain ⟨h2, h3⟩ := pow_bl hn
    have a1 : m * 2 ^ t < 2 ^ (bl m + t) := by
      rw [Nat.pow_add]
      exact (Nat.mul_lt_mul_right (Nat.pow_pos (by decide))).mpr h1
    have a2 : 2 ^ (bl n - 1 + s) ≤ n * 2 ^ s := by
      rw [Nat.pow_add]
      exact Nat.mul_le_mul_right _ h2
    have a3 : (2 : Nat) ^ (bl m + t) ≤ 2 ^ (bl n - 1 + s) := Nat.pow_le_pow_right (by decide) (by omega)
    omega
  unfold abv
  by_cases c : bl m + t < bl n + s
  · rw [decide_eq_true (key hn c), decide_eq_true c]
  · have := key (n := m) (s := t) (m := n) (t := s) hm (by omega)
    rw [decide_eq_false (by omega), decide_eq_false c]
theorem abv_shift {n s m t : Nat} : abv n s m t = decide (m * 2 ^ (t - min s t) < n * 2 ^ (s - min s t)) := by
  unfold abv
  have e : ∀ a k l : Nat, l ≤ k → a * 2 ^ k = a * 2 ^ (k - l) * 2 ^ l := fun a k l h => by
    rw [Nat.mul_assoc, ← Nat.pow_add, Nat.sub_add_cancel h]
  rw [e m t (min s t) (Nat.min_le_right _ _), e n s (min s t) (Nat.min_le_left _ _)]
  have hp : 0 < 2 ^ min s t := Nat.pow_pos (by decide)
  rw [decide_eq_decide]
  exact Nat.mul_lt_mul_right hp
def cmpR (a b : Rg) : Int := if abv a.1 a.2.2 b.2.1 b.2.2 = true then 1 else if abv a.2.1 a.2.2 b.1 b.2.2 = true then 0 else -1
theorem cmp_ok {L bits x y : Nat} {a b : Rg} (ha : Rgh L bits x a) (hb : Rgh L bits y b) : (cmpR a b = 1 ∧ y < x) ∨ (cmpR a b = -1 ∧ x ≤ y) ∨ (cmpR a b = 0 ∧ bits < L) := by
  unfold cmpR
  by_cases c : abv a.1 a.2.2 b.2.1 b.2.2 = true
  · rw [if_pos c]
    unfold abv at c
    have c := of_decide_eq_true c
    have := ha.lo
    have := hb.hi
    exact .inl ⟨rfl, by omega⟩
  · rw [if_neg c]
    by_cases d : abv a.2.1 a.2.2 b.1 b.2.2 = true
    · rw [if_pos d]
      refine .inr (.inr ⟨rfl, ?_⟩)
      by_cases hL : L ≤ bits
      · rw [ha.ex hL, hb.ex hL] at c d
        exact absurd d c
      · omega
    · rw [if_neg d]
      unfold abv at d
      have d : ¬ (b.1 * 2 ^ b.2.2 < a.2.1 * 2 ^ a.2.2) := fun z => d (decide_eq_true z)
      have := ha.hi
      have := hb.lo
      exact .inr (.inl ⟨rfl, by omega⟩)

/-! ### the greatest off -/
def tkN (far days w j : Nat) : Nat := (500 + far) ^ j * (500 - far) ^ (2 * days - j) * (w * w)
def gvN (days held : Nat) : Nat := 500 ^ (2 * days) * (held * held)
def bornN (far days w held j : Nat) : Bool := decide (tkN far days w j ≤ gvN days held)
theorem tk_up {far days w j : Nat} (h : j < 2 * days) : tkN far days w j ≤ tkN far days w (j + 1) := by
  unfold tkN
  refine Nat.mul_le_mul_right _ ?_
  rw [show 2 * days - j = 2 * days - (j + 1) + 1 by omega, Nat.pow_succ, Nat.pow_succ]
  rw [show (500 + far) ^ j * ((500 - far) ^ (2 * days - (j + 1)) * (500 - far)) = (500 + far) ^ j * (500 - far) * (500 - far) ^ (2 * days - (j + 1)) by grind]
  exact Nat.mul_le_mul_right _ (Nat.mul_le_mul_left _ (by omega))
theorem tk_mono {far days w i : Nat} : ∀ {k : Nat}, i + k ≤ 2 * days → tkN far days w i ≤ tkN far days w (i + k)
  | 0, _ => Nat.le_refl _
  | k + 1, h => Nat.le_trans (tk_mono (k := k) (by omega)) (tk_up (by omega))
theorem born_down {far days w held i j : Nat} (hij : i ≤ j) (hj : j ≤ 2 * days) (h : bornN far days w held j = true) : bornN far days w held i = true := by
  unfold bornN at *
  have h := of_decide_eq_true h
  have := tk_mono (far := far) (days := days) (w := w) (i := i) (k := j - i) (by omega)
  rw [show i + (j - i) = j by omega] at this
  exact decide_eq_true (by omega)
def lastJ (P : Nat → Bool) : Nat → Option Nat
  | 0 => none
  | n + 1 => if P n = true then some n else lastJ P n
theorem lastJ_none {P : Nat → Bool} : ∀ {n : Nat}, (∀ j, j < n → P j = false) → lastJ P n = none
  | 0, _ => rfl
  | n + 1, h => by
    unfold lastJ
    rw [if_neg (by rw [h n (by omega)]; exact Bool.false_ne_true)]
    exact lastJ_none fun j hj => h j (by omega)
theorem lastJ_some {P : Nat → Bool} {l : Nat} (hl : P l = true) : ∀ {n : Nat}, l < n → (∀ j, l < j → j < n → P j = false) → lastJ P n = some l
  | 0, h, _ => by omega
  | n + 1, h, hj => by
    unfold lastJ
    by_cases e : l = n
    · subst e
      rw [if_pos hl]
    · rw [if_neg (by rw [hj n (by omega) (by omega)]; exact Bool.false_ne_true)]
      exact lastJ_some hl (by omega) fun j h1 h2 => hj j h1 (by omega)
def moI (far days w held : Nat) : Option Nat := lastJ (bornN far days w held) (2 * days + 1)
def moV (days : Nat) : Option Nat → V
  | none => .non
  | some j => .int ((j : Int) - (days : Int))
theorem mo_none {far days w held : Nat} (h : bornN far days w held 0 = false) : moI far days w held = none := lastJ_none fun j hj => by
  by_cases c : bornN far days w held j = true
  · rw [born_down (Nat.zero_le j) (by omega) c] at h
    cases h
  · simpa using c
theorem mo_some {far days w held l : Nat} (hl : l ≤ 2 * days) (h : bornN far days w held l = true) (hn : l = 2 * days ∨ bornN far days w held (l + 1) = false) : moI far days w held = some l := by
  refine lastJ_some h (by omega) fun j h1 h2 => ?_
  rcases hn with e | e
  · omega
  · by_cases c : bornN far days w held j = true
    · rw [born_down (i := l + 1) (by omega) (by omega) c] at e
      cases e
    · simpa using c
/-! ### sizes -/
theorem pow_size {b e k : Nat} (hb : b < 2 ^ k) : b ^ e ≤ 2 ^ (k * e) := by
  rw [Nat.pow_mul]
  exact Nat.pow_le_pow_left (Nat.le_of_lt hb) e
def LL : Nat := 25000
theorem pw_size {b e : Nat} (hb : b < 1024) (he : e ≤ 2000) : b ^ e ≤ 2 ^ 20000 := by
  have h := pow_size (b := b) (e := e) (k := 10) hb
  exact Nat.le_trans h (Nat.pow_le_pow_right (by decide) (by omega))
theorem size_lt {a b : Nat} (h : a < b) : (2 : Nat) ^ a < 2 ^ b := Nat.pow_lt_pow_right (by decide) h
theorem pw_LL {b e : Nat} (hb : b < 1024) (he : e ≤ 2000) : b ^ e < 2 ^ LL := Nat.lt_of_le_of_lt (pw_size hb he) (size_lt (by decide))

/-! ### on the heap -/
def RgAt (K : PySem.W.Frag) (H : Hp) (r : Rg) (v : V) : Prop := ∃ p, v = .ref p ∧ SqT K H p [.int (r.1 : Int), .int (r.2.1 : Int), .int (r.2.2 : Int)]
theorem RgAt.same {K : PySem.W.Frag} {H H' : Hp} {x : Rg} {v : V} (r : RgAt K H x v) (s : Same H H') : RgAt K H' x v := by
  obtain ⟨p, e, q⟩ := r
  exact ⟨p, e, same_sqt s q⟩
def spTrim (K : PySem.W.Frag) : Sp := fun vs H Q _ => ∃ lo hi sh bits : Nat, vs = [.int (lo : Int), .int (hi : Int), .int (sh : Int), .int (bits : Int)] ∧ ∀ H' v, Same H H' → RgAt K H' (trimR lo hi sh bits) v → Q v H'
def spTimes (K : PySem.W.Frag) : Sp := fun vs H Q _ => ∃ (u v : V) (a b : Rg) (bits : Nat), vs = [u, v, .int (bits : Int)] ∧ RgAt K H a u ∧ RgAt K H b v ∧ bits ≤ 200000 ∧ a.1 ≤ a.2.1 ∧ b.1 ≤ b.2.1 ∧ a.2.1 ≤ 2 ^ bits ∧ b.2.1 ≤ 2 ^ bits ∧ ∀ H' v, Same H H' → RgAt K H' (timesR a b bits) v → Q v H'
def spRPower (K : PySem.W.Frag) : Sp := fun vs H Q _ => ∃ b e bits : Nat, vs = [.int (b : Int), .int (e : Int), .int (bits : Int)] ∧ b < 1024 ∧ e ≤ 1000 ∧ bits ≤ 200000 ∧ ∀ H' v r, Same H H' → RgAt K H' r v → Rgh LL bits (b ^ e) r → Q v H'
def spAbove : Sp := fun vs H Q _ => ∃ n s m t : Nat, vs = [.int (n : Int), .int (s : Int), .int (m : Int), .int (t : Int)] ∧ n < 2 ^ 300000 ∧ m < 2 ^ 300000 ∧ Q (.bl (abv n s m t)) H
def spCompared (K : PySem.W.Frag) : Sp := fun vs H Q _ => ∃ (u v : V) (a b : Rg), vs = [u, v] ∧ RgAt K H a u ∧ RgAt K H b v ∧ a.1 ≤ a.2.1 ∧ b.1 ≤ b.2.1 ∧ a.2.1 < 2 ^ 300000 ∧ b.2.1 < 2 ^ 300000 ∧ Q (.int (cmpR a b)) H
structure OffOk (far days w held : Nat) : Prop where
  f : far ≤ 500
  d : days ≤ 500
  w : w < 2 ^ 64
  h : held < 2 ^ 64
def spWithin (K : PySem.W.Frag) : Sp := fun vs H Q _ => ∃ far days w held j bits : Nat, vs = [.int (far : Int), .int (days : Int), .int (w : Int), .int (held : Int), .int ((j : Int) - (days : Int)), .int (bits : Int)] ∧ OffOk far days w held ∧ j ≤ 2 * days ∧ bits ≤ 200000 ∧
  ∀ H' c, Same H H' → ((c = 1 ∧ bornN far days w held j = false) ∨ (c = -1 ∧ bornN far days w held j = true) ∨ (c = 0 ∧ bits < LL)) → Q (.int c) H'
def spSureIn (K : PySem.W.Frag) : Sp := fun vs H Q _ => ∃ far days w held j : Nat, vs = [.int (far : Int), .int (days : Int), .int (w : Int), .int (held : Int), .int ((j : Int) - (days : Int))] ∧ OffOk far days w held ∧ j ≤ 2 * days ∧
  ∀ H', Same H H' → Q (.bl (bornN far days w held j)) H'
def spMostOff (K : PySem.W.Frag) : Sp := fun vs H Q _ => ∃ far days w held : Nat, vs = [.int (far : Int), .int (days : Int), .int (w : Int), .int (held : Int)] ∧ OffOk far days w held ∧ ∀ H', Same H H' → Q (moV days (moI far days w held)) H'
end NG

namespace NG
open PySem PySem.Spec PyProof.Rows L2
/-! ### comprehensions of two for -/
theorem lc2_tup {K : PySem.W.Frag} {a : Addr} {xs : List V} {g : TG} {tt : TT} {B : L2.St → Hp → (Hp → Prop) → Prop} {vs : List Nat} {σ : L2.St} {H1 : Hp} {D : Addr} {Qd : Hp → Prop} (Pv : Nat → Hp → Prop) (h0 : Pv 0 (upd H1 D (.lst []))) (hl : ∀ i H, i ≤ xs.length → Pv i H → SqT K H a xs)
    (hs : ∀ i x H, xs[i]? = some x → Pv i H → g x (wipe σ vs) H fun σ2 H2 => wipe σ2 vs = wipe σ vs ∧ tt σ2 H2 fun b H3 => if b = true then B σ2 H3 (Pv (i + 1)) else Pv (i + 1) H3) (hd : ∀ H, Pv xs.length H → Qd H) :
    ∃ W : Nat → Nat → Hp → Prop, (∃ m, W 0 m (upd H1 D (.lst []))) ∧ ∀ i m H, W i m H →
      ((Itt K a).stop i H ∧ Qd H) ∨ ((Itt K a).go i H ∧ ∃ Nx : Hp → Prop, (∀ H', Nx H' → ∃ m', m' < m ∧ W (i + 1) m' H') ∧ ∀ x H', (Itt K a).yld i H x H' → g x (wipe σ vs) H' fun σ2 H2 => wipe σ2 vs = wipe σ vs ∧ tt σ2 H2 fun b H3 =>
        if b = true then B σ2 H3 Nx else Nx H3) := by
  refine ⟨fun i m H => m = xs.length - i ∧ i ≤ xs.length ∧ Pv i H, ⟨xs.length, by simp, Nat.zero_le _, h0⟩, ?_⟩
  rintro i m H ⟨rfl, hi, p⟩
  have q := hl i H hi p
  by_cases hlt : i < xs.length
  · refine .inr ⟨⟨xs, xs[i], q, by simp [hlt]⟩, Pv (i + 1), fun H' p' => ⟨xs.length - (i + 1), by omega, rfl, hlt, p'⟩, fun x H' y => ?_⟩
    obtain ⟨e, y⟩ := y
    subst e
    exact hs i x _ (y xs q) p
  · have e : i = xs.length := by omega
    subst e
    exact .inl ⟨⟨xs, q, Nat.le_refl _⟩, hd H p⟩
theorem in_tup {K : PySem.W.Frag} {a : Addr} {xs : List V} {g : TG} {tt : TT} {te : TE} {vs : List Nat} {σ : L2.St} {H1 : Hp} {D : Addr} {Qd : Hp → Prop} (Pv : Nat → Hp → Prop) (h0 : Pv 0 H1) (hl : ∀ i H, i ≤ xs.length → Pv i H → SqT K H a xs)
    (hs : ∀ i x H, xs[i]? = some x → Pv i H → g x (wipe σ vs) H fun σ2 H2 => wipe σ2 vs = wipe σ vs ∧ tt σ2 H2 fun b H3 =>
      if b = true then te σ2 H3 fun y H4 => ∃ acc, H4 D = some (.lst acc) ∧ acc.length < sizeLine ∧ Pv (i + 1) (upd H4 D (.lst (acc ++ [y]))) else Pv (i + 1) H3) (hd : ∀ H, Pv xs.length H → Qd H) :
    ∃ W : Nat → Nat → Hp → Prop, (∃ m, W 0 m H1) ∧ ∀ i m H, W i m H →
      ((Itt K a).stop i H ∧ Qd H) ∨ ((Itt K a).go i H ∧ ∃ Nx : Hp → Prop, (∀ H', Nx H' → ∃ m', m' < m ∧ W (i + 1) m' H') ∧ ∀ x H', (Itt K a).yld i H x H' → g x (wipe σ vs) H' fun σ2 H2 => wipe σ2 vs = wipe σ vs ∧ tt σ2 H2 fun b H3 =>
        if b = true then te σ2 H3 fun y H4 => ∃ acc, H4 D = some (.lst acc) ∧ acc.length < sizeLine ∧ Nx (upd H4 D (.lst (acc ++ [y]))) else Nx H3) := by
  refine ⟨fun i m H => m = xs.length - i ∧ i ≤ xs.length ∧ Pv i H, ⟨xs.length, by simp, Nat.zero_le _, h0⟩, ?_⟩
  rintro i m H ⟨rfl, hi, p⟩
  have q := hl i H hi p
  by_cases hlt : i < xs.length
  · refine .inr ⟨⟨xs, xs[i], q, by simp [hlt]⟩, Pv (i + 1), fun H' p' => ⟨xs.length - (i + 1), by omega, rfl, hlt, p'⟩, fun x H' y => ?_⟩
    obtain ⟨e, y⟩ := y
    subst e
    exact hs i x _ (y xs q) p
  · have e : i = xs.length := by omega
    subst e
    exact .inl ⟨⟨xs, q, Nat.le_refl _⟩, hd H p⟩
/-! ### max of three ints -/
theorem cr_max3 {X : Cx} (hc : X.calm = true) : CallR X (.builtin "max") (fun xs H Q => ∃ i j k : Int, xs = [.int i, .int j, .int k] ∧ Q (.int (mx (mx i j) k)) H) := by
  intro pins s σ H xs us Q I r h
  obtain ⟨i, j, k, rfl, q⟩ := h
  refine call_max3Nu hc pins s σ H _ us Q I r ⟨_, _, _, _, rfl, ?_, q⟩
  have e2 : ∀ a b : Int, nuMax2 (.int a) (.int b) = some (.int (mx a b)) := fun a b => by
    show (some (decide (a < b))).map (fun c => if c = true then V.int b else V.int a) = _
    unfold mx
    by_cases c : a < b
    · rw [decide_eq_true c, if_pos c]
      rfl
    · rw [decide_eq_false c, if_neg c]
      rfl
  show (nuMax2 (.int i) (.int j)).bind _ = _
  rw [e2]
  show nuMax2 (.int (mx i j)) (.int k) = _
  rw [e2]
/-! ### bounds of doubters -/
def farS (a : Int) (e : Ex) : Int := mx (mx a (ab (spn e).1)) (ab (spn e).2)
def farI (es : List Ex) : Int := es.foldl farS 0
def endsI (es : List Ex) : List Int := es.flatMap fun e => [ab (spn e).1, ab (spn e).2]
theorem ab_nn (x : Int) : 0 ≤ ab x := by unfold ab; split <;> omega
theorem farF_ge : ∀ (es : List Ex) (a : Int), a ≤ es.foldl farS a ∧ ∀ x ∈ endsI es, x ≤ es.foldl farS a
  | [], a => ⟨Int.le_refl _, fun x h => by cases h⟩
  | e :: es, a => by
    obtain ⟨h1, h2⟩ := farF_ge es (farS a e)
    have k1 := le_mx a (ab (spn e).1)
    have k2 := le_mx (mx a (ab (spn e).1)) (ab (spn e).2)
    have k3 : farS a e = mx (mx a (ab (spn e).1)) (ab (spn e).2) := rfl
    refine ⟨?_, fun x hx => ?_⟩
    · show a ≤ es.foldl farS (farS a e)
      omega
    · show x ≤ es.foldl farS (farS a e)
      have hx : x ∈ [ab (spn e).1, ab (spn e).2] ++ endsI es := hx
      rcases List.mem_append.mp hx with hx | hx
      · simp only [List.mem_cons, List.not_mem_nil, or_false] at hx
        rcases hx with rfl | rfl <;> omega
      · exact h2 x hx
theorem farF_or : ∀ (es : List Ex) (a : Int), es.foldl farS a = a ∨ es.foldl farS a ∈ endsI es
  | [], a => .inl rfl
  | e :: es, a => by
    show es.foldl farS (farS a e) = a ∨ es.foldl farS (farS a e) ∈ [ab (spn e).1, ab (spn e).2] ++ endsI es
    rcases farF_or es (farS a e) with h | h
    · rw [h]
      unfold farS
      rcases mx_or (mx a (ab (spn e).1)) (ab (spn e).2) with z | z
      · rw [z]
        rcases mx_or a (ab (spn e).1) with y | y
        · exact .inl y
        · rw [y]
          exact .inr (List.mem_append_left _ (by simp))
      · rw [z]
        exact .inr (List.mem_append_left _ (by simp))
    · exact .inr (List.mem_append_right _ h)
theorem far_max {es : List Ex} {m : Int} (h0 : es ≠ []) (hm : m ∈ endsI es) (hx : ∀ y ∈ endsI es, y ≤ m) : m = farI es := by
  obtain ⟨h1, h2⟩ := farF_ge es 0
  have k := h2 m hm
  have nn : ∀ y ∈ endsI es, 0 ≤ y := fun y hy => by
    obtain ⟨e, _, hy⟩ := List.mem_flatMap.mp hy
    simp only [List.mem_cons, List.not_mem_nil, or_false] at hy
    rcases hy with rfl | rfl <;> exact ab_nn _
  have k2 := nn m hm
  unfold farI
  rcases farF_or es 0 with h | h
  · omega
  · have := hx _ h
    omega
def pw2 : Nat → Int
  | 0 => 1
  | 1 => 2
  | 2 => 4
  | 3 => 8
  | _ => 16
theorem pw2_bnd (s : Nat) : 1 ≤ pw2 s ∧ pw2 s ≤ 16 := by
  match s with
  | 0 => decide
  | 1 => decide
  | 2 => decide
  | 3 => decide
  | _ + 4 => show (1 : Int) ≤ 16 ∧ (16 : Int) ≤ 16; decide
def bndI (D : Dbt) : Int := mx 1 ((farI D.stakes + pw2 D.scale - 1) / pw2 D.scale)
theorem st_ends {many l : Nat} {e : Ex} (h : StOk many l e) : ab (spn e).1 ≤ 500 ∧ ab (spn e).2 ≤ 500 := by
  have k : ∀ {x : Int}, -500 ≤ x → x ≤ 500 → ab x ≤ 500 := fun h1 h2 => by unfold ab; split <;> omega
  rcases h with ⟨c, rfl, h1, h2⟩ | ⟨c, e', rfl, h1, h2, _⟩
  · exact ⟨k h1 h2, k h1 h2⟩
  · have z : ∀ y : Int, -500 ≤ mn c (mx (-c) y) ∧ mn c (mx (-c) y) ≤ 500 := fun y => by
      unfold mn mx
      split <;> split <;> omega
    exact ⟨k (z _).1 (z _).2, k (z _).1 (z _).2⟩
theorem far_500 {many l : Nat} {es : List Ex} (h : ∀ e ∈ es, StOk many l e) : 0 ≤ farI es ∧ farI es ≤ 500 := by
  refine ⟨(farF_ge es 0).1, ?_⟩
  unfold farI
  rcases farF_or es 0 with k | k
  · omega
  · obtain ⟨e, he, hy⟩ := List.mem_flatMap.mp k
    have := st_ends (h e he)
    simp only [List.mem_cons, List.not_mem_nil, or_false] at hy
    rcases hy with hy | hy <;> omega
theorem bnd_500 {many l : Nat} {D : Dbt} (h : ∀ e ∈ D.stakes, StOk many l e) : 1 ≤ bndI D ∧ bndI D ≤ 500 := by
  have h1 := far_500 h
  have h2 := pw2_bnd D.scale
  unfold bndI
  have h3 : (farI D.stakes + pw2 D.scale - 1) / pw2 D.scale ≤ 500 := by
    have : (farI D.stakes + pw2 D.scale - 1) / pw2 D.scale < 501 := by
      rw [Int.ediv_lt_iff_lt_mul (by omega)]
      omega
    omega
  unfold mx
  split <;> omega
end NG

namespace NG
open PySem PySem.Spec PyProof.Rows L2
/-! ### a statement that is never reached -/
theorem ps_dead {X : Cx} {st : Stmt} : PS X st (fun _ _ _ => False) := ⟨fun _ _ _ _ _ _ h => h.elim⟩
/-! ### min of a tuple of ints -/
def rMinT (K : PySem.W.Frag) : List V → Hp → VK → Prop := fun vs H Q => ∃ (a : Addr) (n : Int) (ns : List Int), vs = [V.ref a] ∧ SqT K H a ((n :: ns).map V.int) ∧ Q (.int (ns.foldl min n)) H
theorem cr_minT {X : Cx} (hc : X.calm = true) (hu : X.A.units + 64 < cLine) : CallR X (.builtin "min") (rMinT X.K) := by
  intro pins s σ H vs us Q I r h
  obtain ⟨a, n, ns, rfl, hs, q⟩ := h
  obtain ⟨its, rv, p, _⟩ := I.tuple hs
  rw [Vals.ref1 r]
  obtain ⟨as, hr⟩ := Dp.readsAll I ((n :: ns).map PyData.int) _ its (dp_ints (n :: ns)) rv
  rw [List.map_cons] at hr
  have al : PySem.W.AlikeAll (PyData.int n :: ns.map PyData.int) := ⟨fun x hx y hy => by
    rw [← List.map_cons (f := PyData.int)] at hx hy
    obtain ⟨i, _, rfl⟩ := List.mem_map.mp hx
    obtain ⟨j, _, rfl⟩ := List.mem_map.mp hy
    rfl, fun x hx => by
    rw [← List.map_cons (f := PyData.int)] at hx
    obtain ⟨i, _, rfl⟩ := List.mem_map.mp hx
    exact fun e => nomatch e⟩
  refine PySem.W.min_tuple_data (I.ok.hd hc) p (by simpa using hr) al (by rw [← List.map_cons (f := PyData.int), depth_ints]; omega) fun i v h' tk bs _ rd hk => ?_
  rw [PySem.W.minD_ints] at rd
  cases rd
  exact ⟨.int _, H, I.kept hk, ⟨_, rfl⟩, q⟩
/-! ### days of ones -/
def wsI (ss : List Int) (o : One) : List Int := o.dbt.stakes.map (wo o.regs ss)
def fullI (ss : List Int) (o : One) : Int := 1000 * pw2 o.dbt.scale * ss.sum * ss.sum
def winI (ss : List Int) (j : Nat) (o : One) : Int := ss.sum * (wsI ss o).getD j 0 - dotI ss (wsI ss o)
def alikeI : List Int → Bool
  | [] => true
  | n :: ns => decide (ns.foldl min n = ns.foldl max n)
theorem alike_eq (n : Int) (ns : List Int) : (ns.foldl min n == ns.foldl max n) = alikeI (n :: ns) := by
  show _ = decide (ns.foldl min n = ns.foldl max n)
  rw [Bool.eq_iff_iff]
  simp
def dayO (rg : List Int → Ds → List Int → List Int) (ss : List Int) (j : Nat) (o : One) : One :=
  ⟨o.dbt, rg ss (o.dbt.behinds.getD j .nil) o.regs, o.weight, o.motes * (fullI ss o + winI ss j o) / fullI ss o, -(-o.owed * (fullI ss o + winI ss j o) / fullI ss o) + 1, if alikeI (wsI ss o) = true then o.days else o.days + 1, o.got + 1000000000 * winI ss j o / fullI ss o⟩
def dayMs (rg : List Int → Ds → List Int → List Int) (ss : List Int) (j : Nat) : Ms → Ms
  | .nil => .nil
  | .one o r => .one (dayO rg ss j o) (dayMs rg ss j r)
  | .house nm m r => .house nm (dayMs rg ss j m) (dayMs rg ss j r)
theorem day_ao (rg : List Int → Ds → List Int → List Int) (ss : List Int) (j : Nat) : ∀ m : Ms, aoI (dayMs rg ss j m) = (aoI m).map (dayO rg ss j)
  | .nil => rfl
  | .one o r => by
    show _ :: aoI (dayMs rg ss j r) = _
    rw [day_ao rg ss j r]
    rfl
  | .house nm m r => by
    show aoI (dayMs rg ss j m) ++ aoI (dayMs rg ss j r) = _
    rw [day_ao rg ss j m, day_ao rg ss j r, ← List.map_append]
    rfl
/-! ### members as a list -/
def mks : Ms → List Mk
  | .nil => []
  | .one o r => .one o :: mks r
  | .house nm m r => .house nm m :: mks r
def MksAt (K : PySem.W.Frag) (H : Hp) : List V → List Mk → Prop
  | [], [] => True
  | v :: vs, e :: es => MkAt K H e v ∧ MksAt K H vs es
  | _, _ => False
theorem MksAt.imp {K : PySem.W.Frag} {H H' : Hp} (h : ∀ p xs, SqT K H p xs → SqT K H' p xs) : ∀ {vs : List V} {es : List Mk}, MksAt K H vs es → MksAt K H' vs es
  | [], [], _ => trivial
  | _ :: _, _ :: _, ⟨x, r⟩ => ⟨x.imp h, MksAt.imp h r⟩
theorem MksAt.len {K : PySem.W.Frag} {H : Hp} : ∀ {vs : List V} {es : List Mk}, MksAt K H vs es → vs.length = es.length
  | [], [], _ => rfl
  | _ :: _, _ :: _, ⟨_, r⟩ => by rw [List.length_cons, List.length_cons, r.len]
theorem MksAt.snoc {K : PySem.W.Frag} {H : Hp} {v : V} {e : Mk} (x : MkAt K H e v) : ∀ {vs : List V} {es : List Mk}, MksAt K H vs es → MksAt K H (vs ++ [v]) (es ++ [e])
  | [], [], _ => ⟨x, trivial⟩
  | _ :: _, _ :: _, ⟨y, r⟩ => ⟨y, MksAt.snoc x r⟩
theorem MksAt.get' {K : PySem.W.Frag} {H : Hp} : ∀ {vs : List V} {es : List Mk} {k : Nat} {v : V}, MksAt K H vs es → vs[k]? = some v → ∃ e, es[k]? = some e ∧ MkAt K H e v
  | [], [], _, _, _, h => by simp at h
  | v :: vs, e' :: es, 0, v', ⟨x, r⟩, h => by
    have : v = v' := Option.some.inj h
    subst this
    exact ⟨e', rfl, x⟩
  | v :: vs, e' :: es, k + 1, e, ⟨x, r⟩, h => MksAt.get' (k := k) r h
theorem MsAt.mks {K : PySem.W.Frag} {H : Hp} : ∀ {m : Ms} {vs : List V}, MsAt K H m vs → MksAt K H vs (mks m)
  | .nil, vs, h => by
    have h : vs = [] := h
    subst h
    exact trivial
  | .one o r, _, ⟨v, us, e, q, h⟩ => by
    subst e
    exact ⟨q, MsAt.mks h⟩
  | .house nm m r, _, ⟨p, pm, xs, us, e, q, qm, h1, h2⟩ => by
    subst e
    exact ⟨⟨p, pm, xs, rfl, q, qm, h1⟩, MsAt.mks h2⟩
theorem MksAt.ms {K : PySem.W.Frag} {H : Hp} : ∀ {m : Ms} {vs : List V}, MksAt K H vs (NG.mks m) → MsAt K H m vs
  | .nil, [], _ => rfl
  | .nil, _ :: _, h => h.elim
  | .one o r, [], h => h.elim
  | .one o r, v :: vs, ⟨x, h⟩ => ⟨v, vs, rfl, x, MksAt.ms h⟩
  | .house nm m r, [], h => h.elim
  | .house nm m r, v :: vs, ⟨⟨p, pm, xs, e, q, qm, h1⟩, h⟩ => by
    subst e
    exact ⟨p, pm, xs, vs, rfl, q, qm, h1, MksAt.ms h⟩
def dayMk (rg : List Int → Ds → List Int → List Int) (ss : List Int) (j : Nat) : Mk → Mk
  | .one o => .one (dayO rg ss j o)
  | .house nm m => .house nm (dayMs rg ss j m)
theorem mks_day (rg : List Int → Ds → List Int → List Int) (ss : List Int) (j : Nat) : ∀ m : Ms, mks (dayMs rg ss j m) = (mks m).map (dayMk rg ss j)
  | .nil => rfl
  | .one o r => by
    show _ :: mks (dayMs rg ss j r) = _
    rw [mks_day rg ss j r]
    rfl
  | .house nm m r => by
    show _ :: mks (dayMs rg ss j r) = _
    rw [mks_day rg ss j r]
    rfl
theorem mks_len : ∀ m : Ms, (mks m).length ≤ m.cnt
  | .nil => Nat.le_refl _
  | .one o r => by
    have := mks_len r
    show (mks r).length + 1 ≤ 1 + r.cnt
    omega
  | .house nm m r => by
    have := mks_len r
    show (mks r).length + 1 ≤ 1 + m.cnt + r.cnt
    omega
def MkD (P : One → Prop) (d c : Nat) : Mk → Prop
  | .one o => P o
  | .house _ m => m.dep < d ∧ m.cnt ≤ c ∧ m.all P
theorem mks_ok {P : One → Prop} {c : Nat} : ∀ {m : Ms} {d : Nat}, m.dep < d + 1 → m.cnt ≤ c → m.all P → ∀ k ∈ mks m, MkD P d c k
  | .nil, _, _, _, _, k, hk => by cases hk
  | .one o r, d, h1, h2, h3, k, hk => by
    have h1 : r.dep < d + 1 := h1
    have h2 : 1 + r.cnt ≤ c := h2
    rcases List.mem_cons.mp hk with rfl | hk
    · exact h3.1
    · exact mks_ok h1 (by omega) h3.2 k hk
  | .house nm m r, d, h1, h2, h3, k, hk => by
    have h1 : max (m.dep + 1) r.dep < d + 1 := h1
    have h2 : 1 + m.cnt + r.cnt ≤ c := h2
    rcases List.mem_cons.mp hk with rfl | hk
    · exact ⟨by omega, by omega, h3.1⟩
    · exact mks_ok (by omega) (by omega) h3.2 k hk
end NG

namespace NG
open PySem PySem.Spec PyProof.Rows L2
def topS (i : Nat) : Stmt := PySem.Challenge.pw_nonegrowsrich_k41_whole_weight_times_all.main.body.getD i (.Pass ⟨0, 0, 0, 0⟩)
abbrev s_mills : Stmt := topS 1
abbrev N_mills : List Str := ["shares", "sign"]
theorem sc_mills : FnScope ["shares", "sign"] ["shares", "sign"] (defScope s_mills) := ⟨rfl, rfl, rfl, by decide +kernel, rfl, by decide +kernel, by decide +kernel⟩
abbrev s_led_part : Stmt := topS 3
abbrev N_led_part : List Str := ["expression", "registers", "word", "place", "figure", "first", "second"]
theorem sc_led_part : FnScope ["expression", "registers", "word", "place", "figure", "first", "second"] ["expression", "registers"] (defScope s_led_part) := ⟨rfl, rfl, rfl, by decide +kernel, rfl, by decide +kernel, by decide +kernel⟩
abbrev s_side_part : Stmt := topS 4
abbrev N_side_part : List Str := ["expression", "shares", "word", "sign", "line", "first", "second"]
theorem sc_side_part : FnScope ["expression", "shares", "word", "sign", "line", "first", "second"] ["expression", "shares"] (defScope s_side_part) := ⟨rfl, rfl, rfl, by decide +kernel, rfl, by decide +kernel, by decide +kernel⟩
abbrev s_join_worths : Stmt := topS 5
abbrev N_join_worths : List Str := ["word", "first", "second"]
theorem sc_join_worths : FnScope ["word", "first", "second"] ["word", "first", "second"] (defScope s_join_worths) := ⟨rfl, rfl, rfl, by decide +kernel, rfl, by decide +kernel, by decide +kernel⟩
abbrev s_worth : Stmt := topS 6
abbrev N_worth : List Str := ["expression", "registers", "shares", "word", "first", "second"]
theorem sc_worth : FnScope ["expression", "registers", "shares", "word", "first", "second"] ["expression", "registers", "shares"] (defScope s_worth) := ⟨rfl, rfl, rfl, by decide +kernel, rfl, by decide +kernel, by decide +kernel⟩
abbrev s_power : Stmt := topS 11
abbrev N_power : List Str := ["scale"]
theorem sc_power : FnScope ["scale"] ["scale"] (defScope s_power) := ⟨rfl, rfl, rfl, by decide +kernel, rfl, by decide +kernel, by decide +kernel⟩
abbrev s_stakes_at : Stmt := topS 12
abbrev N_stakes_at : List Str := ["doubter", "registers", "shares", "name", "scale", "begins", "stakes", "behinds", "stake"]
theorem sc_stakes_at : FnScope ["doubter", "registers", "shares", "name", "scale", "begins", "stakes", "behinds", "stake"] ["doubter", "registers", "shares"] (defScope s_stakes_at) := ⟨rfl, rfl, rfl, by decide +kernel, rfl, by decide +kernel, by decide +kernel⟩
abbrev s_held_by : Stmt := topS 13
abbrev N_held_by : List Str := ["deed", "registers", "shares", "word", "place", "what"]
theorem sc_held_by : FnScope ["deed", "registers", "shares", "word", "place", "what"] ["deed", "registers", "shares"] (defScope s_held_by) := ⟨rfl, rfl, rfl, by decide +kernel, rfl, by decide +kernel, by decide +kernel⟩
abbrev s_with_held : Stmt := topS 14
abbrev N_with_held : List Str := ["registers", "place", "number", "held"]
theorem sc_with_held : FnScope ["registers", "place", "number", "held"] ["registers", "place", "number"] (defScope s_with_held) := ⟨rfl, rfl, rfl, by decide +kernel, rfl, by decide +kernel, by decide +kernel⟩
abbrev s_led_deeds : Stmt := topS 15
abbrev N_led_deeds : List Str := ["deed", "registers", "word", "place", "figure", "first", "second"]
theorem sc_led_deeds : FnScope ["deed", "registers", "word", "place", "figure", "first", "second"] ["deed", "registers"] (defScope s_led_deeds) := ⟨rfl, rfl, rfl, by decide +kernel, rfl, by decide +kernel, by decide +kernel⟩
abbrev s_do_deeds : Stmt := topS 16
abbrev N_do_deeds : List Str := ["deeds", "registers", "shares", "deed"]
theorem sc_do_deeds : FnScope ["deeds", "registers", "shares", "deed"] ["deeds", "registers", "shares"] (defScope s_do_deeds) := ⟨rfl, rfl, rfl, by decide +kernel, rfl, by decide +kernel, by decide +kernel⟩
abbrev s_behind : Stmt := topS 17
abbrev N_behind : List Str := ["doubter", "registers", "shares", "sign", "name", "scale", "begins", "stakes", "behinds"]
theorem sc_behind : FnScope ["doubter", "registers", "shares", "sign", "name", "scale", "begins", "stakes", "behinds"] ["doubter", "registers", "shares", "sign"] (defScope s_behind) := ⟨rfl, rfl, rfl, by decide +kernel, rfl, by decide +kernel, by decide +kernel⟩
abbrev s_stands : Stmt := topS 22
abbrev N_stands : List Str := ["members", "path", "found", "number", "member", "here"]
theorem sc_stands : FnScope ["members", "path", "found", "number", "member", "here"] ["members", "path"] (defScope s_stands) := ⟨rfl, rfl, rfl, by decide +kernel, rfl, by decide +kernel, by decide +kernel⟩
abbrev s_ones : Stmt := topS 23
abbrev N_ones : List Str := ["house", "many", "members", "path", "member"]
theorem sc_ones : FnScope ["house", "many", "members", "path", "member"] ["house"] (defScope s_ones) := ⟨rfl, rfl, rfl, by decide +kernel, rfl, by decide +kernel, by decide +kernel⟩
abbrev s_one_factor : Stmt := topS 24
abbrev N_one_factor : List Str := ["one", "word", "doubter", "registers", "weight", "held", "owed", "days", "got"]
theorem sc_one_factor : FnScope ["one", "word", "doubter", "registers", "weight", "held", "owed", "days", "got"] ["one"] (defScope s_one_factor) := ⟨rfl, rfl, rfl, by decide +kernel, rfl, by decide +kernel, by decide +kernel⟩
abbrev s_one_pull : Stmt := topS 25
abbrev N_one_pull : List Str := ["one", "shares", "factor", "stake"]
theorem sc_one_pull : FnScope ["one", "shares", "factor", "stake"] ["one", "shares"] (defScope s_one_pull) := ⟨rfl, rfl, rfl, by decide +kernel, rfl, by decide +kernel, by decide +kernel⟩
abbrev s_pull : Stmt := topS 26
abbrev N_pull : List Str := ["house", "shares", "many", "members", "pulls", "path", "one", "row", "sign"]
theorem sc_pull : FnScope ["house", "shares", "many", "members", "pulls", "path", "one", "row", "sign"] ["house", "shares"] (defScope s_pull) := ⟨rfl, rfl, rfl, by decide +kernel, rfl, by decide +kernel, by decide +kernel⟩
abbrev s_is_right : Stmt := topS 27
abbrev N_is_right : List Str := ["house", "shares", "pulls", "greatest", "number", "pulled"]
theorem sc_is_right : FnScope ["house", "shares", "pulls", "greatest", "number", "pulled"] ["house", "shares"] (defScope s_is_right) := ⟨rfl, rfl, rfl, by decide +kernel, rfl, by decide +kernel, by decide +kernel⟩
abbrev s_one_day : Stmt := topS 30
abbrev N_one_day : List Str := ["one", "shares", "sign", "word", "doubter", "registers", "weight", "held", "owed", "active", "got", "stakes", "whole", "paid", "number", "stake", "won"]
theorem sc_one_day : FnScope ["one", "shares", "sign", "word", "doubter", "registers", "weight", "held", "owed", "active", "got", "stakes", "whole", "paid", "number", "stake", "won"] ["one", "shares", "sign"] (defScope s_one_day) := ⟨rfl, rfl, rfl, by decide +kernel, rfl, by decide +kernel, by decide +kernel⟩
abbrev s_member_day : Stmt := topS 31
abbrev N_member_day : List Str := ["member", "shares", "sign", "word", "name", "members"]
theorem sc_member_day : FnScope ["member", "shares", "sign", "word", "name", "members"] ["member", "shares", "sign"] (defScope s_member_day) := ⟨rfl, rfl, rfl, by decide +kernel, rfl, by decide +kernel, by decide +kernel⟩
abbrev s_members_day : Stmt := topS 32
abbrev N_members_day : List Str := ["members", "shares", "sign", "member"]
theorem sc_members_day : FnScope ["members", "shares", "sign", "member"] ["members", "shares", "sign"] (defScope s_members_day) := ⟨rfl, rfl, rfl, by decide +kernel, rfl, by decide +kernel, by decide +kernel⟩
abbrev s_numbered_day : Stmt := topS 33
abbrev N_numbered_day : List Str := ["house", "shares", "sign", "number", "many", "members"]
theorem sc_numbered_day : FnScope ["house", "shares", "sign", "number", "many", "members"] ["house", "shares", "sign", "number"] (defScope s_numbered_day) := ⟨rfl, rfl, rfl, by decide +kernel, rfl, by decide +kernel, by decide +kernel⟩
abbrev s_day : Stmt := topS 34
abbrev N_day : List Str := ["house", "shares", "sign"]
theorem sc_day : FnScope ["house", "shares", "sign"] ["house", "shares", "sign"] (defScope s_day) := ⟨rfl, rfl, rfl, by decide +kernel, rfl, by decide +kernel, by decide +kernel⟩
abbrev s_L_hand : Stmt := topS 36
abbrev N_L_hand : List Str := ["_law_script", "_law_k", "_law_cell", "_law_great"]
theorem sc_L_hand : FnScope ["_law_script", "_law_k", "_law_cell", "_law_great"] ["_law_script", "_law_k"] (defScope s_L_hand) := ⟨rfl, rfl, rfl, by decide +kernel, rfl, by decide +kernel, by decide +kernel⟩
abbrev s_L_take : Stmt := topS 37
abbrev N_L_take : List Str := ["_law_hand_here", "_law_many", "_law_digit", "_law_primes", "_law_prime", "_law_drawn"]
theorem sc_L_take : FnScope ["_law_hand_here", "_law_many", "_law_digit", "_law_primes", "_law_prime", "_law_drawn"] ["_law_hand_here", "_law_many"] (defScope s_L_take) := ⟨rfl, rfl, rfl, by decide +kernel, rfl, by decide +kernel, by decide +kernel⟩
abbrev s_L_of : Stmt := topS 38
abbrev N_L_of : List Str := ["_law_hand_here", "_law_some"]
theorem sc_L_of : FnScope ["_law_hand_here", "_law_some"] ["_law_hand_here", "_law_some"] (defScope s_L_of) := ⟨rfl, rfl, rfl, by decide +kernel, rfl, by decide +kernel, by decide +kernel⟩
abbrev s_L_lowest : Stmt := topS 39
abbrev N_L_lowest : List Str := ["_law_row", "_law_by", "_law_number"]
theorem sc_L_lowest : FnScope ["_law_row", "_law_by", "_law_number"] ["_law_row"] (defScope s_L_lowest) := ⟨rfl, rfl, rfl, by decide +kernel, rfl, by decide +kernel, by decide +kernel⟩
abbrev s_L_shares : Stmt := topS 40
abbrev N_L_shares : List Str := ["_law_hand_here", "_law_many", "_law_row", "_law_mark", "_law_some"]
theorem sc_L_shares : FnScope ["_law_hand_here", "_law_many", "_law_row", "_law_mark", "_law_some"] ["_law_hand_here", "_law_many"] (defScope s_L_shares) := ⟨rfl, rfl, rfl, by decide +kernel, rfl, by decide +kernel, by decide +kernel⟩
abbrev s_L_figure : Stmt := topS 41
abbrev N_L_figure : List Str := ["_law_hand_here", "_law_some"]
theorem sc_L_figure : FnScope ["_law_hand_here", "_law_some"] ["_law_hand_here"] (defScope s_L_figure) := ⟨rfl, rfl, rfl, by decide +kernel, rfl, by decide +kernel, by decide +kernel⟩
abbrev s_L_registers : Stmt := topS 42
abbrev N_L_registers : List Str := ["_law_hand_here", "_law_turn"]
theorem sc_L_registers : FnScope ["_law_hand_here", "_law_turn"] ["_law_hand_here"] (defScope s_L_registers) := ⟨rfl, rfl, rfl, by decide +kernel, rfl, by decide +kernel, by decide +kernel⟩
abbrev s_L_leaf : Stmt := topS 43
abbrev N_L_leaf : List Str := ["_law_hand_here", "_law_many", "_law_sort"]
theorem sc_L_leaf : FnScope ["_law_hand_here", "_law_many", "_law_sort"] ["_law_hand_here", "_law_many"] (defScope s_L_leaf) := ⟨rfl, rfl, rfl, by decide +kernel, rfl, by decide +kernel, by decide +kernel⟩
abbrev s_L_expression : Stmt := topS 44
abbrev N_L_expression : List Str := ["_law_hand_here", "_law_many", "_law_level", "_law_jumps", "_law_words", "_law_word", "_law_one", "_law_other", "_law_parting"]
theorem sc_L_expression : FnScope ["_law_hand_here", "_law_many", "_law_level", "_law_jumps", "_law_words", "_law_word", "_law_one", "_law_other", "_law_parting"] ["_law_hand_here", "_law_many", "_law_level", "_law_jumps"] (defScope s_L_expression) := ⟨rfl, rfl, rfl, by decide +kernel, rfl, by decide +kernel, by decide +kernel⟩
abbrev s_L_stake : Stmt := topS 45
abbrev N_L_stake : List Str := ["_law_hand_here", "_law_many", "_law_level", "_law_jumps", "_law_far", "_law_inner"]
theorem sc_L_stake : FnScope ["_law_hand_here", "_law_many", "_law_level", "_law_jumps", "_law_far", "_law_inner"] ["_law_hand_here", "_law_many", "_law_level", "_law_jumps"] (defScope s_L_stake) := ⟨rfl, rfl, rfl, by decide +kernel, rfl, by decide +kernel, by decide +kernel⟩
abbrev s_L_deeds : Stmt := topS 46
abbrev N_L_deeds : List Str := ["_law_hand_here", "_law_many", "_law_deep", "_law_found", "_law_turn", "_law_i", "_law_word", "_law_parts"]
theorem sc_L_deeds : FnScope ["_law_hand_here", "_law_many", "_law_deep", "_law_found", "_law_turn", "_law_i", "_law_word", "_law_parts"] ["_law_hand_here", "_law_many", "_law_deep"] (defScope s_L_deeds) := ⟨rfl, rfl, rfl, by decide +kernel, rfl, by decide +kernel, by decide +kernel⟩
abbrev s_L_doubter : Stmt := topS 47
abbrev N_L_doubter : List Str := ["_law_hand_here", "_law_many", "_law_level", "_law_jumps", "_law_name", "_law_scale", "_law_stakes", "_law_mark", "_law_behinds"]
theorem sc_L_doubter : FnScope ["_law_hand_here", "_law_many", "_law_level", "_law_jumps", "_law_name", "_law_scale", "_law_stakes", "_law_mark", "_law_behinds"] ["_law_hand_here", "_law_many", "_law_level", "_law_jumps"] (defScope s_L_doubter) := ⟨rfl, rfl, rfl, by decide +kernel, rfl, by decide +kernel, by decide +kernel⟩
abbrev s_L_worth : Stmt := topS 48
abbrev N_L_worth : List Str := ["_law_expression_here", "_law_registers_here", "_law_lot", "_law_word", "_law_total", "_law_parts", "_law_part"]
theorem sc_L_worth : FnScope ["_law_expression_here", "_law_registers_here", "_law_lot", "_law_word", "_law_total", "_law_parts", "_law_part"] ["_law_expression_here", "_law_registers_here", "_law_lot"] (defScope s_L_worth) := ⟨rfl, rfl, rfl, by decide +kernel, rfl, by decide +kernel, by decide +kernel⟩
abbrev s_L_gone : Stmt := topS 49
abbrev N_L_gone : List Str := ["_law_deeds_here", "_law_registers_here", "_law_lot", "_law_held", "_law_deed", "_law_word", "_law_at", "_law_by", "_law_extra"]
theorem sc_L_gone : FnScope ["_law_deeds_here", "_law_registers_here", "_law_lot", "_law_held", "_law_deed", "_law_word", "_law_at", "_law_by", "_law_extra"] ["_law_deeds_here", "_law_registers_here", "_law_lot"] (defScope s_L_gone) := ⟨rfl, rfl, rfl, by decide +kernel, rfl, by decide +kernel, by decide +kernel⟩
abbrev s_L_luck : Stmt := topS 50
abbrev N_L_luck : List Str := ["_law_one", "_law_lot", "_law_mark", "_law_total", "_law_parts", "_law_stake_here", "_law_paid", "_law_share", "_law_part", "_law_scaled"]
theorem sc_L_luck : FnScope ["_law_one", "_law_lot", "_law_mark", "_law_total", "_law_parts", "_law_stake_here", "_law_paid", "_law_share", "_law_part", "_law_scaled"] ["_law_one", "_law_lot", "_law_mark"] (defScope s_L_luck) := ⟨rfl, rfl, rfl, by decide +kernel, rfl, by decide +kernel, by decide +kernel⟩
abbrev s_L_moved_on : Stmt := topS 51
abbrev N_L_moved_on : List Str := ["_law_one", "_law_lot", "_law_mark", "_law_word", "_law_doubter_here", "_law_registers_here", "_law_weight", "_law_purse", "_law_debt", "_law_count", "_law_luck_here", "_law_extra", "_law_entire", "_law_parts", "_law_stake_here"]
theorem sc_L_moved_on : FnScope ["_law_one", "_law_lot", "_law_mark", "_law_word", "_law_doubter_here", "_law_registers_here", "_law_weight", "_law_purse", "_law_debt", "_law_count", "_law_luck_here", "_law_extra", "_law_entire", "_law_parts", "_law_stake_here"] ["_law_one", "_law_lot", "_law_mark"] (defScope s_L_moved_on) := ⟨rfl, rfl, rfl, by decide +kernel, rfl, by decide +kernel, by decide +kernel⟩
abbrev s_L_mirrored : Stmt := topS 52
abbrev N_L_mirrored : List Str := ["_law_one", "_law_doubter_here", "_law_stakes", "_law_stake_here"]
theorem sc_L_mirrored : FnScope ["_law_one", "_law_doubter_here", "_law_stakes", "_law_stake_here"] ["_law_one"] (defScope s_L_mirrored) := ⟨rfl, rfl, rfl, by decide +kernel, rfl, by decide +kernel, by decide +kernel⟩
abbrev s_L_fresh : Stmt := topS 53
abbrev N_L_fresh : List Str := ["_law_hand_here", "_law_many", "_law_doubter_here", "_law_stakes", "_law_mark", "_law_weight"]
theorem sc_L_fresh : FnScope ["_law_hand_here", "_law_many", "_law_doubter_here", "_law_stakes", "_law_mark", "_law_weight"] ["_law_hand_here", "_law_many"] (defScope s_L_fresh) := ⟨rfl, rfl, rfl, by decide +kernel, rfl, by decide +kernel, by decide +kernel⟩
abbrev s_L_sign : Stmt := topS 54
abbrev N_L_sign : List Str := ["_law_hand_here", "_law_one", "_law_lot", "_law_many", "_law_lucks", "_law_mark"]
theorem sc_L_sign : FnScope ["_law_hand_here", "_law_one", "_law_lot", "_law_many", "_law_lucks", "_law_mark"] ["_law_hand_here", "_law_one", "_law_lot"] (defScope s_L_sign) := ⟨rfl, rfl, rfl, by decide +kernel, rfl, by decide +kernel, by decide +kernel⟩
abbrev s_L_pair_right : Stmt := topS 55
abbrev N_L_pair_right : List Str := ["_law_one", "_law_told", "_law_extra", "_law_entire", "_law_lost"]
theorem sc_L_pair_right : FnScope ["_law_one", "_law_told", "_law_extra", "_law_entire", "_law_lost"] ["_law_one", "_law_told", "_law_extra", "_law_entire"] (defScope s_L_pair_right) := ⟨rfl, rfl, rfl, by decide +kernel, rfl, by decide +kernel, by decide +kernel⟩
abbrev s_L_right : Stmt := topS 56
abbrev N_L_right : List Str := ["_law_hand_here", "_law_many", "_law_one", "_law_product", "_law_below", "_law_luck_here", "_law_weight", "_law_turn", "_law_lot", "_law_mark", "_law_extra", "_law_entire", "_law_told", "_law_over"]
theorem sc_L_right : FnScope ["_law_hand_here", "_law_many", "_law_one", "_law_product", "_law_below", "_law_luck_here", "_law_weight", "_law_turn", "_law_lot", "_law_mark", "_law_extra", "_law_entire", "_law_told", "_law_over"] ["_law_hand_here"] (defScope s_L_right) := ⟨rfl, rfl, rfl, by decide +kernel, rfl, by decide +kernel, by decide +kernel⟩
abbrev s_law : Stmt := topS 57
abbrev N_law : List Str := ["_law_script", "_law_k"]
theorem sc_law : FnScope ["_law_script", "_law_k"] ["_law_script"] (defScope s_law) := ⟨rfl, rfl, rfl, by decide +kernel, rfl, by decide +kernel, by decide +kernel⟩

end NG

namespace NG
open PySem PySem.Spec PyProof.Rows L2
section
variable {P : Program} {w : World} {K : PySem.W.Frag} {mg : Str → Option Value} {base : Heap}
theorem primes_at {m : Int} (h : 0 ≤ m) : ∃ p : Int, atI ([.int 2147483647, .int 2147483629, .int 2147483587, .int 2147483579, .int 2147483563, .int 2147483549, .int 2147483543, .int 2147483497] : List V) (m % 8) = some (.int p) ∧ 1000 < p ∧ p < 2147483648 := by
  have h1 : m % 8 = 0 ∨ m % 8 = 1 ∨ m % 8 = 2 ∨ m % 8 = 3 ∨ m % 8 = 4 ∨ m % 8 = 5 ∨ m % 8 = 6 ∨ m % 8 = 7 := by omega
  rcases h1 with e | e | e | e | e | e | e | e <;> rw [e] <;> exact ⟨_, rfl, by decide, by decide⟩
theorem ok_take {f : Addr} {fd : FuncData} (F : Fun K "_law_take" "_law_take" s_L_take f fd) (gF : mg "_law_take" = some (.ref f)) (b : Binds K fd ["_law_hand_here", "_law_many"] []) : Cal P w K mg base 1 "_law_take" spTake := by
  refine ⟨f, fd, _, F.ok sc_L_take (fun vs H Q E h => ?_) (fun cdv A outer s H vs Q E hr h => ?_), gF, F.kp, b⟩
  · obtain ⟨a, m, n, rfl, _⟩ := h
    rfl
  · obtain ⟨a, many, n, rfl, hm, hm2, ⟨g, sd, m, e, hg, hs, h0, hn⟩, hN, q⟩ := h
    refine ⟨_, (pss_cons (ps_if (pt_cmpR op_gt (pe_ix ix_list (pv 0) pe_int (fun _ _ => rfl)) pe_int (nomark _)) (pss_cons (ps_set (i := 2) sc_L_take.nd rfl (.inl rfl) (pe_op op_mod (pe_ix ix_list (pv 0) pe_int (fun _ _ => rfl)) (pv 1))) (pss_cons (ps_asg (pe_op op_fdivW (pe_ix ix_list (pv 0) pe_int (fun _ _ => rfl)) (pv 1)) (pg_sub (pv 0) pe_int set_list)) (pss_one (ps_ret (pv 2))))) pss_nil) (pss_cons (ps_asg (pe_op op_add (pe_ix ix_list (pv 0) pe_int (fun _ _ => rfl)) pe_int) (pg_sub (pv 0) pe_int set_list)) (pss_cons (ps_set (i := 3) sc_L_take.nd rfl (.inl rfl) (pe_lst (pa_cons pe_int (pa_cons pe_int (pa_cons pe_int (pa_cons pe_int (pa_cons pe_int (pa_cons pe_int (pa_cons pe_int (pa_cons pe_int pa_nil)))))))))) (pss_cons (ps_set (i := 4) sc_L_take.nd rfl (.inl rfl) (pe_ix ix_list (pv 3) (pe_op op_mod (pe_ix ix_list (pv 0) pe_int (fun _ _ => rfl)) pe_int) (fun _ _ => rfl))) (pss_cons (ps_set (i := 5) sc_L_take.nd rfl (.inl rfl) (pe_op op_add (pe_ix ix_list (pv 0) pe_int (fun _ _ => rfl)) (pe_op op_mul (pe_op op_mul pe_int (pe_ix ix_list (pv 0) pe_int (fun _ _ => rfl))) (pe_ix ix_list (pv 0) pe_int (fun _ _ => rfl))))) (pss_cons (ps_set (i := 5) sc_L_take.nd rfl (.inl rfl) (pe_op op_add (pe_op op_mod (pe_op op_mod (pv 5) (pe_op op_pow (pv 4) pe_int)) (pv 4)) pe_int)) (pss_one (ps_ret (pe_op op_mod (pe_op op_fdiv (pe_op op_mod (pe_op op_mul (pv 5) (pe_op op_add (pe_op op_mod (pv 5) pe_int) (pe_ix ix_list (pv 0) pe_int (fun _ _ => rfl)))) (pv 4)) pe_int) (pv 1)))))))))), ?_⟩
    refine ⟨.ref a, rfl, a, _, 0, .int g, rfl, rfl, SqL.of e, rfl, g, 0, rfl, rfl, _, rfl, iteD (fun c => ?_) (fun c => ?_)⟩
    · refine ⟨.ref a, rfl, a, _, 0, .int g, rfl, rfl, SqL.of e, rfl, .int many, rfl, g, many, rfl, rfl, hm, ?_⟩
      refine ⟨.ref a, rfl, a, _, 0, .int g, rfl, rfl, SqL.of e, rfl, .int many, rfl, g, many, rfl, rfl, wide_div (b := 62) hm (by omega) (by decide) (by decide), ?_⟩
      refine ⟨.ref a, rfl, a, _, 0, 0, rfl, rfl, e, rfl, ?_⟩
      refine ⟨.int (g % many), rfl, q _ _ But.put ?_ (Int.emod_nonneg _ (by omega)) (Int.emod_lt_of_pos _ hm)⟩
      exact ⟨g / many, sd, m, upd_same, Int.ediv_nonneg hg (by omega), hs, h0, by omega⟩
    · refine ⟨.ref a, rfl, a, _, 2, .int m, rfl, rfl, SqL.of e, rfl, m, 1, rfl, rfl, ?_⟩
      refine ⟨.ref a, rfl, a, _, 2, 2, rfl, rfl, e, rfl, ?_⟩
      have e1 : (upd H a (.lst [.int g, .int sd, .int (m + 1)])) a = some (.lst [.int g, .int sd, .int (m + 1)]) := upd_same
      refine ⟨by decide, fun p np => ?_⟩
      have npa : p ≠ a := (ne_of_none e1 np).symm
      obtain ⟨pr, hat, hp1, hp2⟩ := primes_at (m := m + 1) (by omega)
      have e2 : (upd (upd H a (.lst [.int g, .int sd, .int (m + 1)])) p (.lst [.int 2147483647, .int 2147483629, .int 2147483587, .int 2147483579, .int 2147483563, .int 2147483549, .int 2147483543, .int 2147483497])) a = some (.lst [.int g, .int sd, .int (m + 1)]) := by rw [upd_ne npa.symm]; exact e1
      have e3 : (upd (upd H a (.lst [.int g, .int sd, .int (m + 1)])) p (.lst [.int 2147483647, .int 2147483629, .int 2147483587, .int 2147483579, .int 2147483563, .int 2147483549, .int 2147483543, .int 2147483497])) p = some (.lst [.int 2147483647, .int 2147483629, .int 2147483587, .int 2147483579, .int 2147483563, .int 2147483549, .int 2147483543, .int 2147483497]) := upd_same
      refine ⟨.ref p, rfl, .ref a, rfl, a, _, 2, .int (m + 1), rfl, rfl, SqL.of e2, rfl, m + 1, 8, rfl, rfl, (by show (0 : Int) < 8; decide), p, _, (m + 1) % 8, .int pr, rfl, rfl, SqL.of e3, hat, ?_⟩
      have hsq : (0 : Int) < pr ^ (2 : Int).toNat := by
        show 0 < pr ^ 2
        exact Int.pow_pos (by omega)
      refine ⟨.ref a, rfl, a, _, 1, .int sd, rfl, rfl, SqL.of e2, rfl, .ref a, rfl, a, _, 2, .int (m + 1), rfl, rfl, SqL.of e2, rfl, 69621, m + 1, rfl, rfl, .inl ⟨by decide, by decide⟩, .ref a, rfl, a, _, 2, .int (m + 1), rfl, rfl, SqL.of e2, rfl, _, _, rfl, rfl, .inr ⟨by omega, by omega⟩, _, _, rfl, rfl, ?_⟩
      refine ⟨_, rfl, .int pr, rfl, pr, 2, rfl, rfl, ⟨by decide, by decide, by omega⟩, _, _, rfl, rfl, hsq, .int pr, rfl, _, pr, rfl, rfl, (by show 0 < pr; omega), _, 1, rfl, rfl, ?_⟩
      generalize hz : (sd + 69621 * (m + 1) * (m + 1)) % pr ^ (2 : Int).toNat % pr = z
      have hz0 : 0 ≤ z := by rw [← hz]; exact Int.emod_nonneg _ (by omega)
      have hz1 : z < pr := by rw [← hz]; exact Int.emod_lt_of_pos _ (by omega)
      refine ⟨.int (z + 1), rfl, .int (z + 1), rfl, z + 1, 1009, rfl, rfl, (by show (0 : Int) < 1009; decide), .ref a, rfl, a, _, 2, .int (m + 1), rfl, rfl, SqL.of e2, rfl, _, _, rfl, rfl, z + 1, _, rfl, rfl, .inl ⟨by omega, by omega⟩, .int pr, rfl, _, pr, rfl, rfl, (by show 0 < pr; omega), _, 7, rfl, rfl, ⟨by decide, by decide⟩, .int many, rfl, _, many, rfl, rfl, hm, ?_⟩
      refine q _ _ ?_ ⟨g, sd, m + 1, e2, hg, hs, by omega, by omega⟩ (Int.emod_nonneg _ (by omega)) (Int.emod_lt_of_pos _ hm)
      exact But.put.trans (But.new np)
end
end NG

namespace NG
open PySem PySem.Spec PyProof.Rows L2
section
variable {P : Program} {w : World} {K : PySem.W.Frag} {mg : Str → Option Value} {base : Heap}
theorem ok_hand {f : Addr} {fd : FuncData} (F : Fun K "_law_hand" "_law_hand" s_L_hand f fd) (gF : mg "_law_hand" = some (.ref f)) (b : Binds K fd ["_law_script", "_law_k"] []) (B : Bl mg) : Cal P w K mg base 1 "_law_hand" (spHand K) := by
  refine ⟨f, fd, _, F.ok sc_L_hand (fun vs H Q E h => ?_) (fun cdv A outer s H vs Q E hr h => ?_), gF, F.kp, b⟩
  · obtain ⟨a, m, n, rfl, _⟩ := h
    rfl
  · obtain ⟨a, k, ns, rfl, hk0, hk1, hS, q⟩ := h
    refine ⟨_, (pss_cons (ps_set (i := 2) sc_L_hand.nd rfl (.inl rfl) (pe_cut (pe_ifExp (pt_cmpR op_lt (pv 1) (pe_callB call_len_seq (by rfl) B.len PySem.boot_len (pa_cons (pv 0) pa_nil)) (nomark _)) (pe_ix ix_list (pv 0) (pv 1) (fun _ _ => rfl)) pe_int))) (pss_cons (ps_set (i := 3) sc_L_hand.nd rfl (.inl rfl) (pe_op op_mul (pe_op op_mod (pe_callB call_abs (by rfl) B.abs (by decide +kernel) (pa_cons (pv 2) pa_nil)) (pe_op op_mulW (pe_op op_pow pe_int pe_int) (pe_op op_pow pe_int pe_int))) (pe_callTy call_int1 (by rfl) B.int (by decide +kernel) (pa_cons (pe_cmpR op_ge (pe_callB call_abs (by rfl) B.abs (by decide +kernel) (pa_cons (pv 2) pa_nil)) (pe_op op_pow pe_int pe_int) (nomark _)) pa_nil)))) (pss_one (ps_ret (pe_lst (pa_cons (pv 3) (pa_cons (pe_op op_add (pe_op op_add (pe_op op_mod (pv 2) pe_int) (pe_op op_mul pe_int (pv 1))) pe_int) (pa_cons pe_int pa_nil)))))))), ?_⟩
    refine ⟨fun v H' => H' = H ∧ ∃ c : Int, v = .int c, ?_, fun v H' hv => ?_⟩
    · refine ⟨.int k, rfl, .ref a, rfl, a, _, rfl, .inl hS, k, _, rfl, rfl, _, rfl, iteD (fun c => ?_) (fun c => ?_)⟩
      · exact ⟨.ref a, rfl, .int k, rfl, a, _, k, _, rfl, rfl, hS, at_int hk0 (by rw [List.length_map] at c; exact c), rfl, _, rfl⟩
      · exact ⟨rfl, 0, rfl⟩
    · obtain ⟨rfl, c, rfl⟩ := hv
      refine ⟨.int c, rfl, c, rfl, 10, 60, rfl, rfl, ⟨by decide, by decide, by decide⟩, 10, 60, rfl, rfl, ⟨by decide, by decide, by decide⟩, _, _, rfl, rfl, wide_mul (a := 300) (b := 300) (by decide) (by decide) (by decide) (by decide) (by decide), _, _, rfl, rfl, (by show (0 : Int) < 10 ^ 60 * 10 ^ 60; decide), ?_⟩
      refine ⟨.int c, rfl, c, rfl, 10, 18, rfl, rfl, ⟨by decide, by decide, by decide⟩, _, _, rfl, rfl, .inr ⟨_, rfl, ?_⟩⟩
      have h01 : ∀ z : Bool, (0 : Int) ≤ (if z = true then 1 else 0) ∧ (if z = true then (1 : Int) else 0) ≤ 1 := by
        intro z
        cases z <;> decide
      refine ⟨_, _, rfl, rfl, .inr ⟨by have := h01 (decide ((10 : Int) ^ (18 : Int).toNat ≤ if c < 0 then -c else c)); omega, by have := h01 (decide ((10 : Int) ^ (18 : Int).toNat ≤ if c < 0 then -c else c)); omega⟩, ?_⟩
      refine ⟨_, rfl, .int c, rfl, c, 2305843009213693951, rfl, rfl, (by show (0 : Int) < 2305843009213693951; decide), .int k, rfl, 104729, k, rfl, rfl, .inl ⟨by decide, by decide⟩, _, _, rfl, rfl, _, 7, rfl, rfl, (by show 3 ≤ sizeLine; decide), fun p np => ?_⟩
      refine q p _ _ np (Int.mul_nonneg (Int.emod_nonneg _ (by show (10 : Int) ^ 60 * 10 ^ 60 ≠ 0; decide)) (h01 _).1) ?_
      have : 0 ≤ c % 2305843009213693951 := Int.emod_nonneg _ (by decide)
      omega
theorem ok_of {f : Addr} {fd : FuncData} (F : Fun K "_law_of" "_law_of" s_L_of f fd) (gF : mg "_law_of" = some (.ref f)) (b : Binds K fd ["_law_hand_here", "_law_some"] []) (B : Bl mg) (c_L_take : Cal P w K mg base 1 "_law_take" spTake) : Cal P w K mg base 2 "_law_of" (spOf K) := by
  refine ⟨f, fd, _, F.ok sc_L_of (fun vs H Q E h => ?_) (fun cdv A outer s H vs Q E hr h => ?_), gF, F.kp, b⟩
  · obtain ⟨a, m, n, _, rfl, _⟩ := h
    rfl
  · obtain ⟨a, l, xs, n, rfl, hal, hl, h0, h1, hh, hn, q⟩ := h
    refine ⟨_, (pss_one (ps_ret (pe_ix ix_list (pv 1) (pe_c c_L_take hr (by omega) (by rfl) (pa_cons (pv 0) (pa_cons (pe_callB call_len_seq (by rfl) B.len PySem.boot_len (pa_cons (pv 1) pa_nil)) pa_nil))) (fun _ _ => rfl)))), ?_⟩
    refine ⟨.ref l, rfl, .ref a, rfl, .ref l, rfl, l, _, rfl, .inl (SqL.of hl), ?_⟩
    refine ⟨a, _, n, rfl, by omega, by omega, hh, hn, fun H' r bt hh' r0 r1 => ?_⟩
    have hl' : H' l = some (.lst xs) := bt _ _ (Ne.symm hal) hl
    obtain ⟨v, hv, hm⟩ := at_mem (xs := xs) r0 r1
    exact ⟨l, _, r, v, rfl, rfl, SqL.of hl', hv, q _ _ bt hh' hm⟩
theorem ok_figure {f : Addr} {fd : FuncData} (F : Fun K "_law_figure" "_law_figure" s_L_figure f fd) (gF : mg "_law_figure" = some (.ref f)) (b : Binds K fd ["_law_hand_here"] []) (B : Bl mg) (c_L_take : Cal P w K mg base 1 "_law_take" spTake) (c_L_of : Cal P w K mg base 2 "_law_of" (spOf K)) : Cal P w K mg base 3 "_law_figure" spFigure := by
  refine ⟨f, fd, _, F.ok sc_L_figure (fun vs H Q E h => ?_) (fun cdv A outer s H vs Q E hr h => ?_), gF, F.kp, b⟩
  · obtain ⟨a, m, rfl, _⟩ := h
    rfl
  · obtain ⟨a, n, rfl, hh, hn, q⟩ := h
    refine ⟨_, (pss_cons (ps_set (i := 1) sc_L_figure.nd rfl (.inl rfl) (pe_lst (pa_cons pe_int (pa_cons pe_int (pa_cons (pe_un un_neg pe_int) (pa_cons pe_int (pa_cons pe_int (pa_cons pe_int (pa_cons pe_int (pa_cons (pe_un un_neg pe_int) (pa_cons pe_int (pa_cons (pe_un un_neg pe_int) pa_nil)))))))))))) (pss_one (ps_ret (pe_c c_L_of hr (by omega) (by rfl) (pa_cons (pv 0) (pa_cons (pe_op op_cat (pv 1) (pe_lst (pa_cons (pe_op op_sub (pe_c c_L_take hr (by omega) (by rfl) (pa_cons (pv 0) (pa_cons pe_int pa_nil))) pe_int) (pa_cons (pe_op op_sub (pe_c c_L_take hr (by omega) (by rfl) (pa_cons (pv 0) (pa_cons pe_int pa_nil))) pe_int) pa_nil)))) pa_nil)))))), ?_⟩
    refine ⟨_, rfl, _, rfl, _, rfl, (by show 10 ≤ sizeLine; decide), fun l nl => ?_⟩
    have hla := hh.ne nl
    have hl : (upd H l (.lst [.int 0, .int 1, .int (-1), .int 50, .int 100, .int 250, .int 500, .int (-500), .int 1000, .int (-1000)])) l = _ := upd_same
    refine ⟨.ref a, rfl, .ref l, rfl, .ref a, rfl, a, 2001, n, rfl, by decide, by decide, hh.new nl, by omega, fun H1 r1 b1 hh1 r10 r11 => ⟨_, _, rfl, rfl, ?_⟩⟩
    refine ⟨.ref a, rfl, a, 201, n + 1, rfl, by decide, by decide, hh1, by omega, fun H2 r2 b2 hh2 r20 r21 => ⟨_, _, rfl, rfl, ?_⟩⟩
    refine ⟨(by show 2 ≤ sizeLine; decide), fun l2 nl2 => ?_⟩
    have hl2a := hh2.ne nl2
    have e1 : H2 l = some (.lst [.int 0, .int 1, .int (-1), .int 50, .int 100, .int 250, .int 500, .int (-500), .int 1000, .int (-1000)]) := b2 _ _ hla (b1 _ _ hla hl)
    refine ⟨l, l2, _, _, rfl, rfl, by rw [upd_ne (ne_of_none e1 nl2)]; exact e1, upd_same, (by show 12 ≤ sizeLine; decide), fun l3 nl3 => ?_⟩
    have hh3 := (hh2.new (o := .lst [.int (r1 - 1000), .int (r2 - 100)]) nl2)
    refine ⟨a, l3, _, n + 2, rfl, (hh3.ne nl3).symm, upd_same, (by show 0 < 12; decide), (by show 12 ≤ 1000; decide), hh3.new nl3, by omega, fun H4 v b4 hh4 hv => ?_⟩
    have bb : But a H H4 := (((((But.new nl).trans b1).trans b2).trans (But.new nl2)).trans (But.new nl3)).trans b4
    have key : ∃ c : Int, v = .int c ∧ -1000 ≤ c ∧ c ≤ 1000 := by
      simp only [List.cons_append, List.nil_append, List.mem_cons, List.not_mem_nil, or_false] at hv
      rcases hv with rfl | rfl | rfl | rfl | rfl | rfl | rfl | rfl | rfl | rfl | rfl | rfl
      all_goals exact ⟨_, rfl, by omega, by omega⟩
    obtain ⟨c, rfl, c0, c1⟩ := key
    exact q _ _ bb hh4 c0 c1
end
end NG

namespace NG
open PySem PySem.Spec PyProof.Rows L2
section
variable {P : Program} {w : World} {K : PySem.W.Frag} {mg : Str → Option Value} {base : Heap}
theorem ok_led {f : Addr} {fd : FuncData} (F : Fun K "led_part" "led_part" s_led_part f fd) (gF : mg "led_part" = some (.ref f)) (b : Binds K fd ["expression", "registers"] []) (B : Bl mg) : Cal P w K mg base 1 "led_part" (spLed K) := by
  refine ⟨f, fd, _, F.ok sc_led_part (fun vs H Q E h => ?_) (fun cdv A outer s H vs Q E hr h => ?_), gF, F.kp, b⟩
  · obtain ⟨_, _, _, _, _, _, _, rfl, _⟩ := h
    rfl
  · obtain ⟨p, _, x, y, i, c, rs, rfl, hp, hi, ⟨r, rfl, hr', hl, hb⟩, q⟩ := h
    refine ⟨_, (pss_cons (ps_asg (pv 0) (pg_tup rfl (pgs_cons (pg_name (i := 2) sc_led_part.nd rfl (.inl rfl)) (pgs_cons (pg_name (i := 3) sc_led_part.nd rfl (.inl rfl)) (pgs_cons (pg_name (i := 4) sc_led_part.nd rfl (.inl rfl)) (pgs_cons (pg_name (i := 5) sc_led_part.nd rfl (.inl rfl)) (pgs_cons (pg_name (i := 6) sc_led_part.nd rfl (.inl rfl)) pgs_nil))))))) (pss_one (ps_ret (pe_ifExp (pt_cmpR op_lt (pe_ix ix_tup (pv 1) (pv 3) (fun _ _ => rfl)) (pv 4) (nomark _)) (pv 5) (pv 6))))), ?_⟩
    refine ⟨.ref p, rfl, p, _, rfl, hp, rfl, _, _, rfl, _, _, rfl, _, _, rfl, _, _, rfl, _, _, rfl, rfl, ?_⟩
    refine ⟨.ref r, rfl, .int (i : Int), rfl, r, _, _, _, rfl, rfl, hr', at_nth (by omega), .int c, rfl, _, _, rfl, rfl, _, rfl, iteD (fun h => ?_) (fun h => ?_)⟩
    · rw [if_pos h] at q
      exact ⟨x, rfl, q⟩
    · rw [if_neg h] at q
      exact ⟨y, rfl, q⟩
theorem ok_side {f : Addr} {fd : FuncData} (F : Fun K "side_part" "side_part" s_side_part f fd) (gF : mg "side_part" = some (.ref f)) (b : Binds K fd ["expression", "shares"] []) (B : Bl mg) : Cal P w K mg base 1 "side_part" (spSide K) := by
  refine ⟨f, fd, _, F.ok sc_side_part (fun vs H Q E h => ?_) (fun cdv A outer s H vs Q E hr h => ?_), gF, F.kp, b⟩
  · obtain ⟨_, _, _, _, _, _, _, _, rfl, _⟩ := h
    rfl
  · obtain ⟨p, _, x, y, many, j, c, ss, rfl, hp, hj, hc, ⟨r, rfl, hr', hl, hb, h0, h1⟩, q⟩ := h
    refine ⟨_, (pss_cons (ps_asg (pv 0) (pg_tup rfl (pgs_cons (pg_name (i := 2) sc_side_part.nd rfl (.inl rfl)) (pgs_cons (pg_name (i := 3) sc_side_part.nd rfl (.inl rfl)) (pgs_cons (pg_name (i := 4) sc_side_part.nd rfl (.inl rfl)) (pgs_cons (pg_name (i := 5) sc_side_part.nd rfl (.inl rfl)) (pgs_cons (pg_name (i := 6) sc_side_part.nd rfl (.inl rfl)) pgs_nil))))))) (pss_one (ps_ret (pe_ifExp (pt_cmpR op_lt (pe_op op_mul pe_int (pe_ix ix_tup (pv 1) (pv 3) (fun _ _ => rfl))) (pe_op op_mul (pv 4) (pe_callB (cr_sumT rfl) (by rfl) B.sum (by decide +kernel) (pa_cons (pv 1) pa_nil))) (nomark _)) (pv 5) (pv 6))))), ?_⟩
    refine ⟨.ref p, rfl, p, _, rfl, hp, rfl, _, _, rfl, _, _, rfl, _, _, rfl, _, _, rfl, _, _, rfl, rfl, ?_⟩
    refine ⟨.ref r, rfl, .int (j : Int), rfl, r, _, _, _, rfl, rfl, hr', at_nth (by omega), 1000, _, rfl, rfl, .inl ⟨by decide, by decide⟩, .int c, rfl, .ref r, rfl, r, ss, rfl, hr', c, _, rfl, rfl, .inl ⟨by omega, by omega⟩, _, _, rfl, rfl, _, rfl, iteD (fun h => ?_) (fun h => ?_)⟩
    · rw [if_pos h] at q
      exact ⟨x, rfl, q⟩
    · rw [if_neg h] at q
      exact ⟨y, rfl, q⟩
theorem ok_joinW {f : Addr} {fd : FuncData} (F : Fun K "join_worths" "join_worths" s_join_worths f fd) (gF : mg "join_worths" = some (.ref f)) (b : Binds K fd ["word", "first", "second"] []) (B : Bl mg) : Cal P w K mg base 1 "join_worths" spJoinW := by
  refine ⟨f, fd, _, F.ok sc_join_worths (fun vs H Q E h => ?_) (fun cdv A outer s H vs Q E hr h => ?_), gF, F.kp, b⟩
  · obtain ⟨_, _, _, rfl, _⟩ := h
    rfl
  · obtain ⟨o, x, y, rfl, q⟩ := h
    refine ⟨_, (pss_cons (ps_if (pt_cmpR op_eq (pv 0) pe_str (nomark _)) (pss_one (ps_ret (pe_op op_add (pv 1) (pv 2)))) pss_nil) (pss_cons (ps_if (pt_cmpR op_eq (pv 0) pe_str (nomark _)) (pss_one (ps_ret (pe_op op_sub (pv 1) (pv 2)))) pss_nil) (pss_one (ps_ret (pe_ifExp (pt_cmpR op_eq (pv 0) pe_str (nomark _)) (pe_callB (call_min2 rfl) (by rfl) B.min (by decide +kernel) (pa_cons (pv 1) (pa_cons (pv 2) pa_nil))) (pe_callB (call_max2 rfl) (by rfl) B.max (by decide +kernel) (pa_cons (pv 1) (pa_cons (pv 2) pa_nil)))))))), ?_⟩
    refine ⟨_, rfl, rfl, _, rfl, ?_⟩
    cases o with
    | sum =>
      refine iteTT (by decide) ?_
      exact ⟨_, rfl, _, rfl, _, _, rfl, rfl, q⟩
    | less =>
      refine iteFF (by decide) ?_
      refine ⟨_, rfl, rfl, _, rfl, iteTT (by decide) ?_⟩
      exact ⟨_, rfl, _, rfl, _, _, rfl, rfl, q⟩
    | least =>
      refine iteFF (by decide) ?_
      refine ⟨_, rfl, rfl, _, rfl, iteFF (by decide) ?_⟩
      refine ⟨_, rfl, rfl, _, rfl, iteTT (by decide) ?_⟩
      exact ⟨_, rfl, _, rfl, _, _, rfl, q⟩
    | most =>
      refine iteFF (by decide) ?_
      refine ⟨_, rfl, rfl, _, rfl, iteFF (by decide) ?_⟩
      refine ⟨_, rfl, rfl, _, rfl, iteFF (by decide) ?_⟩
      exact ⟨_, rfl, _, rfl, _, _, rfl, q⟩
theorem wn_ne {o : W4} {s : Str} (h : s = "fig" ∨ s = "reg" ∨ s = "share" ∨ s = "times" ∨ s = "by" ∨ s = "when" ∨ s = "where") : decide (V.str (wn o) = V.str s) = false := by
  rcases h with rfl | rfl | rfl | rfl | rfl | rfl | rfl <;> cases o <;> decide
theorem fn_worth {f : Addr} {fd : FuncData} (F : Fun K "worth" "worth" s_worth f fd) (gF : mg "worth" = some (.ref f)) (b : Binds K fd ["expression", "registers", "shares"] []) (B : Bl mg) (c_led_part : Cal P w K mg base 1 "led_part" (spLed K)) (c_side_part : Cal P w K mg base 1 "side_part" (spSide K)) (c_join_worths : Cal P w K mg base 1 "join_worths" spJoinW) : ∀ n, FnOk P w K mg base CX0 (n + 2) f fd ["expression", "registers", "shares"] (spWorth K n) := by
  intro n
  induction n with
  | zero =>
    refine fn_never fun vs H Q E h => ?_
    obtain ⟨_, _, _, e, _, _, _, _, _, _, hd, _⟩ := h
    cases e <;> (unfold Ex.dep at hd; omega)
  | succ n ih =>
  have c_worth : Cal P w K mg base (n + 2) "worth" (spWorth K n) := ⟨f, fd, _, ih, gF, F.kp, b⟩
  refine F.ok sc_worth (fun vs H Q E h => ?_) (fun cdv A outer s H vs Q E hr h => ?_)
  · obtain ⟨_, _, _, _, _, _, _, rfl, _⟩ := h
    rfl
  · obtain ⟨v, _, _, e, many, rs, ss, rfl, he, ho, hd, hR, hS, q⟩ := h
    refine ⟨_, (pss_cons (ps_set (i := 3) sc_worth.nd rfl (.inl rfl) (pe_ix ix_tup (pv 0) pe_int (fun _ _ => rfl))) (pss_cons (ps_if (pt_cmpR op_eq (pv 3) pe_str (nomark _)) (pss_one (ps_ret (pe_op op_mul (pe_ix ix_tup (pv 0) pe_int (fun _ _ => rfl)) (pe_callB (cr_sumT rfl) (by rfl) B.sum (by decide +kernel) (pa_cons (pv 2) pa_nil))))) pss_nil) (pss_cons (ps_if (pt_cmpR op_eq (pv 3) pe_str (nomark _)) (pss_one (ps_ret (pe_op op_mul (pe_ix ix_tup (pv 1) (pe_ix ix_tup (pv 0) pe_int (fun _ _ => rfl)) (fun _ _ => rfl)) (pe_callB (cr_sumT rfl) (by rfl) B.sum (by decide +kernel) (pa_cons (pv 2) pa_nil))))) pss_nil) (pss_cons (ps_if (pt_cmpR op_eq (pv 3) pe_str (nomark _)) (pss_one (ps_ret (pe_op op_mul pe_int (pe_ix ix_tup (pv 2) (pe_ix ix_tup (pv 0) pe_int (fun _ _ => rfl)) (fun _ _ => rfl))))) pss_nil) (pss_cons (ps_if (pt_cmpR op_eq (pv 3) pe_str (nomark _)) (pss_one (ps_ret (pe_op op_mul (pe_ix ix_tup (pv 0) pe_int (fun _ _ => rfl)) (pe_c c_worth hr (by omega) (by rfl) (pa_cons (pe_ix ix_tup (pv 0) pe_int (fun _ _ => rfl)) (pa_cons (pv 1) (pa_cons (pv 2) pa_nil))))))) pss_nil) (pss_cons (ps_if (pt_cmpR op_eq (pv 3) pe_str (nomark _)) (pss_one (ps_ret (pe_op op_mul (pe_ix ix_tup (pv 1) (pe_ix ix_tup (pv 0) pe_int (fun _ _ => rfl)) (fun _ _ => rfl)) (pe_c c_worth hr (by omega) (by rfl) (pa_cons (pe_ix ix_tup (pv 0) pe_int (fun _ _ => rfl)) (pa_cons (pv 1) (pa_cons (pv 2) pa_nil))))))) pss_nil) (pss_cons (ps_if (pt_cmpR op_eq (pv 3) pe_str (nomark _)) (pss_one (ps_ret (pe_c c_worth hr (by omega) (by rfl) (pa_cons (pe_c c_led_part hr (by omega) (by rfl) (pa_cons (pv 0) (pa_cons (pv 1) pa_nil))) (pa_cons (pv 1) (pa_cons (pv 2) pa_nil)))))) pss_nil) (pss_cons (ps_if (pt_cmpR op_eq (pv 3) pe_str (nomark _)) (pss_one (ps_ret (pe_c c_worth hr (by omega) (by rfl) (pa_cons (pe_c c_side_part hr (by omega) (by rfl) (pa_cons (pv 0) (pa_cons (pv 2) pa_nil))) (pa_cons (pv 1) (pa_cons (pv 2) pa_nil)))))) pss_nil) (pss_cons (ps_set (i := 4) sc_worth.nd rfl (.inl rfl) (pe_c c_worth hr (by omega) (by rfl) (pa_cons (pe_ix ix_tup (pv 0) pe_int (fun _ _ => rfl)) (pa_cons (pv 1) (pa_cons (pv 2) pa_nil))))) (pss_cons (ps_set (i := 5) sc_worth.nd rfl (.inl rfl) (pe_c c_worth hr (by omega) (by rfl) (pa_cons (pe_ix ix_tup (pv 0) pe_int (fun _ _ => rfl)) (pa_cons (pv 1) (pa_cons (pv 2) pa_nil))))) (pss_one (ps_ret (pe_c c_join_worths hr (by omega) (by rfl) (pa_cons (pv 3) (pa_cons (pv 4) (pa_cons (pv 5) pa_nil)))))))))))))))), ?_⟩
    have hR0 := hR
    have hS0 := hS
    obtain ⟨r, rfl, hr1, hr2, hr3⟩ := hR
    obtain ⟨t, rfl, ht1, ht2, ht3, ht4, ht5⟩ := hS
    have rb : ∀ i, i < 4 → -1000 ≤ rs.getD i 0 ∧ rs.getD i 0 ≤ 1000 := fun i hi => hr3 _ (getD_mem (by omega))
    cases e with
    | fig c =>
      obtain ⟨p, rfl, hp⟩ := he
      obtain ⟨o1, o2⟩ := ho
      refine ⟨.ref p, rfl, p, _, 0, _, rfl, rfl, hp, rfl, ?_⟩
      refine ⟨_, rfl, rfl, _, rfl, iteTT (by decide) ?_⟩
      exact ⟨.ref p, rfl, p, _, 1, _, rfl, rfl, hp, rfl, .ref t, rfl, t, ss, rfl, ht1, c, _, rfl, rfl, .inl ⟨by omega, by omega⟩, q⟩
    | reg i =>
      obtain ⟨p, rfl, hp⟩ := he
      have ho : i < 4 := ho
      have := rb i ho
      refine ⟨.ref p, rfl, p, _, 0, _, rfl, rfl, hp, rfl, ?_⟩
      refine ⟨_, rfl, rfl, _, rfl, iteFF (by decide) ⟨_, rfl, rfl, _, rfl, iteTT (by decide) ?_⟩⟩
      exact ⟨.ref r, rfl, .ref p, rfl, p, _, 1, _, rfl, rfl, hp, rfl, r, _, _, _, rfl, rfl, hr1, at_nth (by omega), .ref t, rfl, t, ss, rfl, ht1, _, _, rfl, rfl, .inl ⟨by omega, by omega⟩, q⟩
    | share j =>
      obtain ⟨p, rfl, hp⟩ := he
      have ho : j < many := ho
      refine ⟨.ref p, rfl, p, _, 0, _, rfl, rfl, hp, rfl, ?_⟩
      refine ⟨_, rfl, rfl, _, rfl, iteFF (by decide) ⟨_, rfl, rfl, _, rfl, iteFF (by decide) ⟨_, rfl, rfl, _, rfl, iteTT (by decide) ?_⟩⟩⟩
      exact ⟨.ref t, rfl, .ref p, rfl, p, _, 1, _, rfl, rfl, hp, rfl, t, _, _, _, rfl, rfl, ht1, at_nth (by omega), 1000, _, rfl, rfl, .inl ⟨by decide, by decide⟩, q⟩
    | times fa a =>
      obtain ⟨p, x, rfl, hp, ha⟩ := he
      obtain ⟨⟨o1, o2⟩, oa⟩ := ho
      have hd : a.dep + 1 ≤ n + 1 := hd
      refine ⟨.ref p, rfl, p, _, 0, _, rfl, rfl, hp, rfl, ?_⟩
      refine ⟨_, rfl, rfl, _, rfl, iteFF (by decide) ⟨_, rfl, rfl, _, rfl, iteFF (by decide) ⟨_, rfl, rfl, _, rfl, iteFF (by decide) ⟨_, rfl, rfl, _, rfl, iteTT (by decide) ?_⟩⟩⟩⟩
      refine ⟨.ref p, rfl, p, _, 1, _, rfl, rfl, hp, rfl, .ref p, rfl, p, _, 2, _, rfl, rfl, hp, rfl, .ref r, rfl, .ref t, rfl, ?_⟩
      exact ⟨x, _, _, a, many, rs, ss, rfl, ha, oa, by omega, hR0, hS0, fa, _, rfl, rfl, .inl ⟨by omega, by omega⟩, q⟩
    | «by» i a =>
      obtain ⟨p, x, rfl, hp, ha⟩ := he
      obtain ⟨o1, oa⟩ := ho
      have := rb i o1
      have hd : a.dep + 1 ≤ n + 1 := hd
      refine ⟨.ref p, rfl, p, _, 0, _, rfl, rfl, hp, rfl, ?_⟩
      refine ⟨_, rfl, rfl, _, rfl, iteFF (by decide) ⟨_, rfl, rfl, _, rfl, iteFF (by decide) ⟨_, rfl, rfl, _, rfl, iteFF (by decide) ⟨_, rfl, rfl, _, rfl, iteFF (by decide) ⟨_, rfl, rfl, _, rfl, iteTT (by decide) ?_⟩⟩⟩⟩⟩
      refine ⟨.ref r, rfl, .ref p, rfl, p, _, 1, _, rfl, rfl, hp, rfl, r, _, _, _, rfl, rfl, hr1, at_nth (by omega), .ref p, rfl, p, _, 2, _, rfl, rfl, hp, rfl, .ref r, rfl, .ref t, rfl, ?_⟩
      exact ⟨x, _, _, a, many, rs, ss, rfl, ha, oa, by omega, hR0, hS0, _, _, rfl, rfl, .inl ⟨by omega, by omega⟩, q⟩
    | when i c x1 y1 =>
      obtain ⟨p, x, y, rfl, hp, ha, hb⟩ := he
      obtain ⟨o1, _, oa, ob⟩ := ho
      have hd : max x1.dep y1.dep + 1 ≤ n + 1 := hd
      refine ⟨.ref p, rfl, p, _, 0, _, rfl, rfl, hp, rfl, ?_⟩
      refine ⟨_, rfl, rfl, _, rfl, iteFF (by decide) ⟨_, rfl, rfl, _, rfl, iteFF (by decide) ⟨_, rfl, rfl, _, rfl, iteFF (by decide) ⟨_, rfl, rfl, _, rfl, iteFF (by decide) ⟨_, rfl, rfl, _, rfl, iteFF (by decide) ⟨_, rfl, rfl, _, rfl, iteTT (by decide) ?_⟩⟩⟩⟩⟩⟩
      refine ⟨.ref p, rfl, .ref r, rfl, p, _, x, y, i, c, rs, rfl, hp, o1, hR0, .ref r, rfl, .ref t, rfl, ?_⟩
      by_cases hc : rs.getD i 0 < c
      · rw [if_pos hc]
        refine ⟨x, _, _, x1, many, rs, ss, rfl, ha, oa, by omega, hR0, hS0, ?_⟩
        have q2 : Q (.int (if rs.getD i 0 < c then wo rs ss x1 else wo rs ss y1)) H := q
        rw [if_pos hc] at q2
        exact q2
      · rw [if_neg hc]
        refine ⟨y, _, _, y1, many, rs, ss, rfl, hb, ob, by omega, hR0, hS0, ?_⟩
        have q2 : Q (.int (if rs.getD i 0 < c then wo rs ss x1 else wo rs ss y1)) H := q
        rw [if_neg hc] at q2
        exact q2
    | whr j c x1 y1 =>
      obtain ⟨p, x, y, rfl, hp, ha, hb⟩ := he
      obtain ⟨o1, o2, oa, ob⟩ := ho
      have hd : max x1.dep y1.dep + 1 ≤ n + 1 := hd
      refine ⟨.ref p, rfl, p, _, 0, _, rfl, rfl, hp, rfl, ?_⟩
      refine ⟨_, rfl, rfl, _, rfl, iteFF (by decide) ⟨_, rfl, rfl, _, rfl, iteFF (by decide) ⟨_, rfl, rfl, _, rfl, iteFF (by decide) ⟨_, rfl, rfl, _, rfl, iteFF (by decide) ⟨_, rfl, rfl, _, rfl, iteFF (by decide) ⟨_, rfl, rfl, _, rfl, iteFF (by decide) ⟨_, rfl, rfl, _, rfl, iteTT (by decide) ?_⟩⟩⟩⟩⟩⟩⟩
      refine ⟨.ref p, rfl, .ref t, rfl, p, _, x, y, many, j, c, ss, rfl, hp, o1, o2, hS0, .ref r, rfl, .ref t, rfl, ?_⟩
      by_cases hc : 1000 * ss.getD j 0 < c * ss.sum
      · rw [if_pos hc]
        refine ⟨x, _, _, x1, many, rs, ss, rfl, ha, oa, by omega, hR0, hS0, ?_⟩
        have q2 : Q (.int (if 1000 * ss.getD j 0 < c * ss.sum then wo rs ss x1 else wo rs ss y1)) H := q
        rw [if_pos hc] at q2
        exact q2
      · rw [if_neg hc]
        refine ⟨y, _, _, y1, many, rs, ss, rfl, hb, ob, by omega, hR0, hS0, ?_⟩
        have q2 : Q (.int (if 1000 * ss.getD j 0 < c * ss.sum then wo rs ss x1 else wo rs ss y1)) H := q
        rw [if_neg hc] at q2
        exact q2
    | two o x1 y1 =>
      obtain ⟨p, x, y, rfl, hp, ha, hb⟩ := he
      obtain ⟨oa, ob⟩ := ho
      have hd : max x1.dep y1.dep + 1 ≤ n + 1 := hd
      refine ⟨.ref p, rfl, p, _, 0, _, rfl, rfl, hp, rfl, ?_⟩
      refine ⟨_, rfl, rfl, _, rfl, iteFF (wn_ne (by simp)) ⟨_, rfl, rfl, _, rfl, iteFF (wn_ne (by simp)) ⟨_, rfl, rfl, _, rfl, iteFF (wn_ne (by simp)) ⟨_, rfl, rfl, _, rfl, iteFF (wn_ne (by simp)) ⟨_, rfl, rfl, _, rfl, iteFF (wn_ne (by simp)) ⟨_, rfl, rfl, _, rfl, iteFF (wn_ne (by simp)) ⟨_, rfl, rfl, _, rfl, iteFF (wn_ne (by simp)) ?_⟩⟩⟩⟩⟩⟩⟩
      refine ⟨.ref p, rfl, p, _, 1, _, rfl, rfl, hp, rfl, .ref r, rfl, .ref t, rfl, x, _, _, x1, many, rs, ss, rfl, ha, oa, by omega, hR0, hS0, ?_⟩
      refine ⟨.ref p, rfl, p, _, 2, _, rfl, rfl, hp, rfl, .ref r, rfl, .ref t, rfl, y, _, _, y1, many, rs, ss, rfl, hb, ob, by omega, hR0, hS0, ?_⟩
      exact ⟨_, rfl, _, rfl, _, rfl, o, _, _, rfl, q⟩
theorem ok_worth {f : Addr} {fd : FuncData} (F : Fun K "worth" "worth" s_worth f fd) (gF : mg "worth" = some (.ref f)) (b : Binds K fd ["expression", "registers", "shares"] []) (B : Bl mg) (c_led_part : Cal P w K mg base 1 "led_part" (spLed K)) (c_side_part : Cal P w K mg base 1 "side_part" (spSide K)) (c_join_worths : Cal P w K mg base 1 "join_worths" spJoinW) : ∀ n, Cal P w K mg base (n + 2) "worth" (spWorth K n) := fun n => ⟨f, fd, _, fn_worth F gF b B c_led_part c_side_part c_join_worths n, gF, F.kp, b⟩
end
end NG

namespace NG
open PySem PySem.Spec PyProof.Rows L2
section
variable {P : Program} {w : World} {K : PySem.W.Frag} {mg : Str → Option Value} {base : Heap}
theorem ok_leaf {f : Addr} {fd : FuncData} (F : Fun K "_law_leaf" "_law_leaf" s_L_leaf f fd) (gF : mg "_law_leaf" = some (.ref f)) (b : Binds K fd ["_law_hand_here", "_law_many"] []) (B : Bl mg) (c_L_take : Cal P w K mg base 1 "_law_take" spTake) (c_L_figure : Cal P w K mg base 3 "_law_figure" spFigure) : Cal P w K mg base 4 "_law_leaf" (spLeaf K) := by
  refine ⟨f, fd, _, F.ok sc_L_leaf (fun vs H Q E h => ?_) (fun cdv A outer s H vs Q E hr h => ?_), gF, F.kp, b⟩
  · obtain ⟨_, _, _, rfl, _⟩ := h
    rfl
  · obtain ⟨a, many, n, rfl, hm1, hm2, hh, hn, q⟩ := h
    refine ⟨_, (pss_cons (ps_set (i := 2) sc_L_leaf.nd rfl (.inl rfl) (pe_c c_L_take hr (by omega) (by rfl) (pa_cons (pv 0) (pa_cons pe_int pa_nil)))) (pss_cons (ps_if (pt_cmpR op_eq (pv 2) pe_int (nomark _)) (pss_one (ps_ret (pe_tup (pa_cons pe_str (pa_cons (pe_c c_L_take hr (by omega) (by rfl) (pa_cons (pv 0) (pa_cons pe_int pa_nil))) pa_nil))))) pss_nil) (pss_one (ps_ret (pe_ifExp (pt_cmpR op_eq (pv 2) pe_int (nomark _)) (pe_tup (pa_cons pe_str (pa_cons (pe_c c_L_figure hr (by omega) (by rfl) (pa_cons (pv 0) pa_nil)) pa_nil))) (pe_tup (pa_cons pe_str (pa_cons (pe_c c_L_take hr (by omega) (by rfl) (pa_cons (pv 0) (pa_cons (pv 1) pa_nil))) pa_nil)))))))), ?_⟩
    refine ⟨.ref a, rfl, a, 4, n, rfl, by decide, by decide, hh, by omega, fun H1 r b1 hh1 r0 r1 => ?_⟩
    refine ⟨.int r, rfl, rfl, _, rfl, iteD (fun c => ?_) (fun c => ?_)⟩
    · refine ⟨.ref a, rfl, a, 4, n + 1, rfl, by decide, by decide, hh1, by omega, fun H2 r2 b2 hh2 r20 r21 => ⟨(by show 2 ≤ sizeLine; decide), fun p np => ?_⟩⟩
      refine q _ _ (.reg r2.toNat) ((b1.trans b2).trans (But.new np)) ((hh2.new np).le (by omega)) ⟨p, rfl, ?_⟩ (by show r2.toNat < 4; omega) (Nat.le_refl _)
      rw [Int.toNat_of_nonneg r20]
      exact SqT.of upd_same
    · refine ⟨.int r, rfl, rfl, _, rfl, iteD (fun c => ?_) (fun c => ?_)⟩
      · refine ⟨.ref a, rfl, a, n + 1, rfl, hh1, by omega, fun H2 r2 b2 hh2 r20 r21 => ⟨(by show 2 ≤ sizeLine; decide), fun p np => ?_⟩⟩
        exact q _ _ (.fig r2) ((b1.trans b2).trans (But.new np)) ((hh2.new np).le (by omega)) ⟨p, rfl, SqT.of upd_same⟩ ⟨r20, r21⟩ (Nat.le_refl _)
      · refine ⟨.ref a, rfl, .int (many : Int), rfl, a, _, n + 1, rfl, by omega, by omega, hh1, by omega, fun H2 r2 b2 hh2 r20 r21 => ⟨(by show 2 ≤ sizeLine; decide), fun p np => ?_⟩⟩
        refine q _ _ (.share r2.toNat) ((b1.trans b2).trans (But.new np)) ((hh2.new np).le (by omega)) ⟨p, rfl, ?_⟩ (by show r2.toNat < many; omega) (Nat.le_refl _)
        rw [Int.toNat_of_nonneg r20]
        exact SqT.of upd_same
def isW (s : Str) : Prop := s = "sum" ∨ s = "less" ∨ s = "least" ∨ s = "most" ∨ s = "times" ∨ s = "by" ∨ s = "when" ∨ s = "leaf" ∨ s = "where"
theorem ok_expr {f : Addr} {fd : FuncData} (F : Fun K "_law_expression" "_law_expression" s_L_expression f fd) (gF : mg "_law_expression" = some (.ref f)) (b : Binds K fd ["_law_hand_here", "_law_many", "_law_level", "_law_jumps"] []) (B : Bl mg) (c_L_take : Cal P w K mg base 1 "_law_take" spTake) (c_L_of : Cal P w K mg base 2 "_law_of" (spOf K)) (c_L_figure : Cal P w K mg base 3 "_law_figure" spFigure) (c_L_leaf : Cal P w K mg base 4 "_law_leaf" (spLeaf K)) : ∀ n, Cal P w K mg base (n + 4) "_law_expression" (spExprB K n) := by
  intro n
  induction n with
  | zero =>
    refine cal_never F gF b fun vs H Q E h => ?_
    obtain ⟨_, _, l, _, _, _, _, hl, _⟩ := h
    omega
  | succ n c_L_expression =>
  refine ⟨f, fd, _, F.ok sc_L_expression (fun vs H Q E h => ?_) (fun cdv A outer s H vs Q E hr h => ?_), gF, F.kp, b⟩
  · obtain ⟨_, _, _, _, _, rfl, _⟩ := h
    rfl
  · obtain ⟨a, many, l, k, j, rfl, hj, hl, hm1, hm2, hh, hk, q⟩ := h
    refine ⟨_, (pss_cons (ps_set (i := 4) sc_L_expression.nd rfl (.inl rfl) (pe_lst (pa_cons pe_str (pa_cons pe_str (pa_cons pe_str (pa_cons pe_str (pa_cons pe_str (pa_cons pe_str (pa_cons pe_str (pa_cons pe_str (pa_cons pe_str (pa_cons pe_str pa_nil)))))))))))) (pss_cons (ps_set (i := 4) sc_L_expression.nd rfl (.inl rfl) (pe_op op_cat (pv 4) (pe_op op_mul_lb (pe_lst (pa_cons pe_str (pa_cons pe_str pa_nil))) (pv 3)))) (pss_cons (ps_set (i := 5) sc_L_expression.nd rfl (.inl rfl) (pe_cut (pe_ifExp (pt_cmpR op_eq (pv 2) pe_int (nomark _)) pe_str (pe_c c_L_of hr (by omega) (by rfl) (pa_cons (pv 0) (pa_cons (pv 4) pa_nil)))))) (pss_cons (ps_if (pt_cmpR op_eq (pv 5) pe_str (nomark _)) (pss_one (ps_ret (pe_c c_L_leaf hr (by omega) (by rfl) (pa_cons (pv 0) (pa_cons (pv 1) pa_nil))))) pss_nil) (pss_cons (ps_set (i := 6) sc_L_expression.nd rfl (.inl rfl) (pe_c c_L_expression hr (by omega) (by rfl) (pa_cons (pv 0) (pa_cons (pv 1) (pa_cons (pe_op op_sub (pv 2) pe_int) (pa_cons (pv 3) pa_nil)))))) (pss_cons (ps_if (pt_cmpR op_eq (pv 5) pe_str (nomark _)) (pss_one (ps_ret (pe_tup (pa_cons (pv 5) (pa_cons (pe_op op_sub (pe_c c_L_take hr (by omega) (by rfl) (pa_cons (pv 0) (pa_cons pe_int pa_nil))) pe_int) (pa_cons (pv 6) pa_nil)))))) pss_nil) (pss_cons (ps_if (pt_cmpR op_eq (pv 5) pe_str (nomark _)) (pss_one (ps_ret (pe_tup (pa_cons (pv 5) (pa_cons (pe_c c_L_take hr (by omega) (by rfl) (pa_cons (pv 0) (pa_cons pe_int pa_nil))) (pa_cons (pv 6) pa_nil)))))) pss_nil) (pss_cons (ps_set (i := 7) sc_L_expression.nd rfl (.inl rfl) (pe_c c_L_expression hr (by omega) (by rfl) (pa_cons (pv 0) (pa_cons (pv 1) (pa_cons (pe_op op_sub (pv 2) pe_int) (pa_cons (pv 3) pa_nil)))))) (pss_cons (ps_if (pt_cmpR op_eq (pv 5) pe_str (nomark _)) (pss_one (ps_ret (pe_tup (pa_cons (pv 5) (pa_cons (pe_c c_L_take hr (by omega) (by rfl) (pa_cons (pv 0) (pa_cons pe_int pa_nil))) (pa_cons (pe_c c_L_figure hr (by omega) (by rfl) (pa_cons (pv 0) pa_nil)) (pa_cons (pv 6) (pa_cons (pv 7) pa_nil)))))))) pss_nil) (pss_cons (ps_if (pt_cmpR op_eq (pv 5) pe_str (nomark _)) (pss_cons (ps_set (i := 8) sc_L_expression.nd rfl (.inl rfl) (pe_c c_L_of hr (by omega) (by rfl) (pa_cons (pv 0) (pa_cons (pe_lst (pa_cons pe_int (pa_cons pe_int (pa_cons pe_int (pa_cons pe_int (pa_cons pe_int (pa_cons (pe_op op_add pe_int (pe_c c_L_take hr (by omega) (by rfl) (pa_cons (pv 0) (pa_cons pe_int pa_nil)))) pa_nil))))))) pa_nil)))) (pss_one (ps_ret (pe_tup (pa_cons (pv 5) (pa_cons (pe_c c_L_take hr (by omega) (by rfl) (pa_cons (pv 0) (pa_cons (pv 1) pa_nil))) (pa_cons (pv 8) (pa_cons (pv 6) (pa_cons (pv 7) pa_nil))))))))) pss_nil) (pss_one (ps_ret (pe_tup (pa_cons (pv 5) (pa_cons (pv 6) (pa_cons (pv 7) pa_nil)))))))))))))))), ?_⟩
    refine ⟨(by show 10 ≤ sizeLine; decide), fun p1 n1 => ?_⟩
    have hh1 := hh.new (o := .lst [.str "sum", .str "less", .str "least", .str "most", .str "least", .str "most", .str "times", .str "by", .str "when", .str "leaf"]) n1
    refine ⟨.ref p1, rfl, (by show 2 ≤ sizeLine; decide), fun p2 n2 => ?_⟩
    have e1 : (upd H p1 (.lst [.str "sum", .str "less", .str "least", .str "most", .str "least", .str "most", .str "times", .str "by", .str "when", .str "leaf"])) p1 = _ := upd_same
    have hh2 := hh1.new (o := .lst [.str "where", .str "where"]) n2
    refine ⟨.bl j, rfl, p2, _, j, rfl, rfl, SqL.of upd_same, fun p3 n3 => ?_⟩
    have hws : ∀ v ∈ (if j = true then [V.str "where", V.str "where"] else []), v = V.str "where" := by
      intro v hv
      cases j with
      | false => simp at hv
      | true =>
        rw [if_pos rfl] at hv
        simp only [List.mem_cons, List.not_mem_nil, or_false] at hv
        rcases hv with h | h <;> exact h
    have hwl : (if j = true then [V.str "where", V.str "where"] else []).length ≤ 2 := by
      cases j <;> decide
    generalize (if j = true then [V.str "where", V.str "where"] else []) = ws at n3 hws hwl ⊢
    have hh3 := hh2.new (o := .lst ws) n3
    have e2 : (upd (upd H p1 (.lst [.str "sum", .str "less", .str "least", .str "most", .str "least", .str "most", .str "times", .str "by", .str "when", .str "leaf"])) p2 (.lst [.str "where", .str "where"])) p1 = _ := (upd_ne (ne_of_none e1 n2)).trans e1
    refine ⟨p1, p3, _, _, rfl, rfl, (upd_ne (ne_of_none e2 n3)).trans e2, upd_same, Nat.le_of_lt (small1000 (by show 10 + ws.length ≤ 1000; omega)), fun p4 n4 => ?_⟩
    have hh4 := hh3.new (o := .lst ([.str "sum", .str "less", .str "least", .str "most", .str "least", .str "most", .str "times", .str "by", .str "when", .str "leaf"] ++ ws)) n4
    have b4 : But a H _ := (((But.new (a := a) n1).trans (But.new n2)).trans (But.new n3)).trans (But.new (o := .lst ([.str "sum", .str "less", .str "least", .str "most", .str "least", .str "most", .str "times", .str "by", .str "when", .str "leaf"] ++ ws)) n4)
    have ne4 := hh3.ne n4
    -- the word
    refine ⟨fun v H' => But a H H' ∧ HandAt H' a (k + 1) ∧ ∃ s : Str, v = .str s ∧ isW s ∧ (l = 0 → s = "leaf"), ?_, fun v H5 hv => ?_⟩
    · refine ⟨.int (l : Int), rfl, rfl, _, rfl, iteD (fun c => ?_) (fun c => ?_)⟩
      · exact ⟨b4, hh4.le (by omega), _, rfl, by unfold isW; simp, fun _ => rfl⟩
      · refine ⟨.ref a, rfl, .ref p4, rfl, a, p4, _, k, rfl, ne4.symm, upd_same, (by rw [List.length_append]; show 0 < 10 + ws.length; omega), (by rw [List.length_append]; show 10 + ws.length ≤ 1000; omega), hh4, by omega, fun H5 v b5 hh5 hv => ⟨b4.trans b5, hh5, ?_⟩⟩
        have hl0 : l ≠ 0 := fun z => c (by rw [z]; rfl)
        have key : ∃ s : Str, v = .str s ∧ isW s := by
          rcases List.mem_append.mp hv with hv | hv
          · simp only [List.mem_cons, List.not_mem_nil, or_false] at hv
            rcases hv with rfl | rfl | rfl | rfl | rfl | rfl | rfl | rfl | rfl | rfl
            all_goals exact ⟨_, rfl, by unfold isW; simp⟩
          · exact ⟨_, hws v hv, by unfold isW; simp⟩
        obtain ⟨s, rfl, hs⟩ := key
        exact ⟨s, rfl, hs, fun z => absurd z hl0⟩
    obtain ⟨b5, hh5, sw, rfl, hw, hl0⟩ := hv
    refine ⟨.str sw, rfl, rfl, _, rfl, iteD (fun c => ?_) (fun c => ?_)⟩
    · refine ⟨.ref a, rfl, .int (many : Int), rfl, a, many, k + 1, rfl, hm1, hm2, hh5, by have := cost_ge l; omega, fun H6 v e b6 hh6 he ho hd => ?_⟩
      exact q _ _ e (b5.trans b6) (hh6.le (by have := cost_ge l; omega)) he ho (by omega)
    · have hsl : sw ≠ "leaf" := fun z => c (by rw [z])
      obtain ⟨l', rfl⟩ : ∃ l', l = l' + 1 := by
        cases l with
        | zero => exact absurd (hl0 rfl) hsl
        | succ l' => exact ⟨l', rfl⟩
      have hcost : cost (l' + 1) = 2 * cost l' + 20 := rfl
      have elev : V.int (((l' + 1 : Nat) : Int) - 1) = V.int (l' : Int) := by
        congr 1
        omega
      refine ⟨.ref a, rfl, .int (many : Int), rfl, .int ((l' + 1 : Nat) : Int), rfl, _, 1, rfl, rfl, .bl j, rfl, a, many, l', k + 1, j, (by show [V.ref a, V.int (many : Int), V.int (((l' + 1 : Nat) : Int) - 1), V.bl j] = _; rw [elev]), hj, by omega, hm1, hm2, hh5, by omega, fun H6 x e1 b6 hh6 he1 ho1 hd1 => ?_⟩
      have b06 := b5.trans b6
      -- times
      refine ⟨.str sw, rfl, rfl, _, rfl, iteD (fun c => ?_) (fun ct => ?_)⟩
      · have c : sw = "times" := V.str.inj c
        subst c
        refine ⟨_, rfl, .ref a, rfl, a, 19, _, rfl, by decide, by decide, hh6, by omega, fun H7 r b7 hh7 r0 r1 => ⟨_, 9, rfl, rfl, x, rfl, (by show 3 ≤ sizeLine; decide), fun p np => ?_⟩⟩
        exact q _ _ (.times (r - 9) e1) ((b06.trans b7).trans (But.new np)) ((hh7.new np).le (by omega)) ⟨p, x, rfl, SqT.of upd_same, (he1.but b7 hh6).new np⟩ ⟨⟨by omega, by omega⟩, ho1⟩ (by show e1.dep + 1 ≤ _; omega)
      -- by
      refine ⟨.str sw, rfl, rfl, _, rfl, iteD (fun c => ?_) (fun cb => ?_)⟩
      · have c : sw = "by" := V.str.inj c
        subst c
        refine ⟨_, rfl, .ref a, rfl, a, 4, _, rfl, by decide, by decide, hh6, by omega, fun H7 r b7 hh7 r0 r1 => ⟨x, rfl, (by show 3 ≤ sizeLine; decide), fun p np => ?_⟩⟩
        refine q _ _ (.by r.toNat e1) ((b06.trans b7).trans (But.new np)) ((hh7.new np).le (by omega)) ⟨p, x, rfl, ?_, (he1.but b7 hh6).new np⟩ ⟨by omega, ho1⟩ (by show e1.dep + 1 ≤ _; omega)
        rw [Int.toNat_of_nonneg r0]
        exact SqT.of upd_same
      -- the other part
      refine ⟨.ref a, rfl, .int (many : Int), rfl, .int ((l' + 1 : Nat) : Int), rfl, _, 1, rfl, rfl, .bl j, rfl, a, many, l', k + 1 + cost l', j, (by show [V.ref a, V.int (many : Int), V.int (((l' + 1 : Nat) : Int) - 1), V.bl j] = _; rw [elev]), hj, by omega, hm1, hm2, hh6, by omega, fun H7 y e2 b7 hh7 he2 ho2 hd2 => ?_⟩
      have b07 := b06.trans b7
      have he1 := he1.but b7 hh6
      -- when
      refine ⟨.str sw, rfl, rfl, _, rfl, iteD (fun c => ?_) (fun cw => ?_)⟩
      · have c : sw = "when" := V.str.inj c
        subst c
        refine ⟨_, rfl, .ref a, rfl, a, 4, _, rfl, by decide, by decide, hh7, by omega, fun H8 r b8 hh8 r0 r1 => ⟨.ref a, rfl, a, _, rfl, hh8, by omega, fun H9 cc b9 hh9 c0 c1 => ⟨x, rfl, y, rfl, (by show 5 ≤ sizeLine; decide), fun p np => ?_⟩⟩⟩
        refine q _ _ (.when r.toNat cc e1 e2) (((b07.trans b8).trans b9).trans (But.new np)) ((hh9.new np).le (by omega)) ⟨p, x, y, rfl, ?_, ((he1.but b8 hh7).but b9 hh8).new np, ((he2.but b8 hh7).but b9 hh8).new np⟩ ⟨by omega, ⟨c0, c1⟩, ho1, ho2⟩ (by show max e1.dep e2.dep + 1 ≤ _; omega)
        rw [Int.toNat_of_nonneg r0]
        exact SqT.of upd_same
      -- where
      refine ⟨.str sw, rfl, rfl, _, rfl, iteD (fun c => ?_) (fun cr => ?_)⟩
      · have c : sw = "where" := V.str.inj c
        subst c
        refine ⟨.ref a, rfl, .ref a, rfl, a, 1000, _, rfl, by decide, by decide, hh7, by omega, fun H8 r b8 hh8 r0 r1 => ⟨1, _, rfl, rfl, (by show 6 ≤ sizeLine; decide), fun p5 n5 => ?_⟩⟩
        have hh9 := hh8.new (o := .lst [.int 1, .int 250, .int 333, .int 500, .int 1000, .int (1 + r)]) n5
        refine ⟨a, p5, _, _, rfl, (hh8.ne n5).symm, upd_same, (by show 0 < 6; decide), (by show 6 ≤ 1000; decide), hh9, by omega, fun H10 v b10 hh10 hv => ?_⟩
        have key : ∃ cc : Int, v = .int cc ∧ 1 ≤ cc ∧ cc ≤ 1000 := by
          have hv : v ∈ ([.int 1, .int 250, .int 333, .int 500, .int 1000, .int (1 + r)] : List V) := hv
          simp only [List.mem_cons, List.not_mem_nil, or_false] at hv
          rcases hv with rfl | rfl | rfl | rfl | rfl | rfl
          all_goals exact ⟨_, rfl, by omega, by omega⟩
        obtain ⟨cc, rfl, c0, c1⟩ := key
        refine ⟨_, rfl, .ref a, rfl, .int (many : Int), rfl, a, many, _, rfl, by omega, by omega, hh10, by omega, fun H11 j b11 hh11 j0 j1 => ⟨_, rfl, x, rfl, y, rfl, (by show 5 ≤ sizeLine; decide), fun p np => ?_⟩⟩
        refine q _ _ (.whr j.toNat cc e1 e2) (((((b07.trans b8).trans (But.new n5)).trans b10).trans b11).trans (But.new np)) ((hh11.new np).le (by omega)) ⟨p, x, y, rfl, ?_, ((((he1.but b8 hh7).new n5).but b10 hh9).but b11 hh10).new np, ((((he2.but b8 hh7).new n5).but b10 hh9).but b11 hh10).new np⟩ ⟨by omega, ⟨c0, c1⟩, ho1, ho2⟩ (by show max e1.dep e2.dep + 1 ≤ _; omega)
        rw [Int.toNat_of_nonneg j0]
        exact SqT.of upd_same
      -- the others
      refine ⟨_, rfl, x, rfl, y, rfl, (by show 3 ≤ sizeLine; decide), fun p np => ?_⟩
      have key : ∃ o : W4, sw = wn o := by
        rcases hw with rfl | rfl | rfl | rfl | rfl | rfl | rfl | rfl | rfl
        · exact ⟨.sum, rfl⟩
        · exact ⟨.less, rfl⟩
        · exact ⟨.least, rfl⟩
        · exact ⟨.most, rfl⟩
        · exact absurd rfl ct
        · exact absurd rfl cb
        · exact absurd rfl cw
        · exact absurd rfl hsl
        · exact absurd rfl cr
      obtain ⟨o, rfl⟩ := key
      exact q _ _ (.two o e1 e2) (b07.trans (But.new np)) ((hh7.new np).le (by omega)) ⟨p, x, y, rfl, SqT.of upd_same, he1.new np, he2.new np⟩ ⟨ho1, ho2⟩ (by show max e1.dep e2.dep + 1 ≤ _; omega)
end
end NG

namespace NG
open PySem PySem.Spec PyProof.Rows L2
section
variable {P : Program} {w : World} {K : PySem.W.Frag} {mg : Str → Option Value} {base : Heap}
theorem ok_low {f : Addr} {fd : FuncData} (F : Fun K "_law_lowest" "_law_lowest" s_L_lowest f fd) (gF : mg "_law_lowest" = some (.ref f)) (b : Binds K fd ["_law_row"] []) (B : Bl mg) : Cal P w K mg base 1 "_law_lowest" (spLow K) := by
  refine ⟨f, fd, _, F.ok sc_L_lowest (fun vs H Q E h => ?_) (fun cdv A outer s H vs Q E hr h => ?_), gF, F.kp, b⟩
  · obtain ⟨_, _, _, rfl, _⟩ := h
    rfl
  · obtain ⟨p, ns, y, rfl, hp, hb, hl, hy, py, q⟩ := h
    refine ⟨_, (pss_cons (ps_set (i := 1) sc_L_lowest.nd rfl (.inr rfl) pe_int) (pss_cons (ps_for PassesOwn.never rfl (pi_list (pv 0)) (pg_name (i := 2) sc_L_lowest.nd rfl (.inl rfl)) (pss_one (ps_while PassesOwn.never (pt_cmpR op_ne (pv 2) pe_int (nomark _)) (pss_one (ps_asg (pe_tup (pa_cons (pv 2) (pa_cons (pe_op op_mod (pv 1) (pv 2)) pa_nil))) (pg_tup rfl (pgs_cons (pg_name (i := 1) sc_L_lowest.nd rfl (.inr rfl)) (pgs_cons (pg_name (i := 2) sc_L_lowest.nd rfl (.inl rfl)) pgs_nil)))))))) (pss_one (ps_ret (pe_tupleOf (by rfl) B.tuple (pe_lc (own := [("_law_number", 2)]) rfl sc_L_lowest.nd (pi_list (pv 0)) (blkOk_by (N := N_L_lowest) (sc := defScope s_L_lowest) (by decide +kernel)) (fun _ _ _ _ _ => pg_name (i := 2) sc_L_lowest.nd rfl (.inl rfl)) (fun _ _ _ _ _ => pts_nil) (fun _ _ _ _ _ => pe_op op_fdivW (pv 2) (pv 1)))))))), ?_⟩
    refine ⟨.ref p, rfl, p, rfl, ⟨_, SqL.of hp⟩, for_list (xs := ns.map V.int) (fun i σ H' => ∃ y2, σ = [some (.ref p), some (.int (gl (ns.take i) : Int)), y2] ∧ Same H H') ⟨none, rfl, Same.refl _⟩ ?_ ?_ ?_⟩
    · rintro i σ H' hi ⟨y2, rfl, sm⟩
      exact SqL.of (sm _ _ hp)
    · rintro i x σ H' hx ⟨y2, rfl, sm⟩
      rw [List.getElem?_map] at hx
      cases hn : ns[i]? with
      | none => rw [hn] at hx; cases hx
      | some z =>
        rw [hn] at hx
        have ex : V.int z = x := Option.some.inj hx
        subst ex
        have hz := hb z (List.mem_of_getElem? hn)
        refine ⟨fun m σ H' => ∃ u : Nat, σ = [some (.ref p), some (.int (u : Int)), some (.int (m : Int))] ∧ Nat.gcd u m = gl (ns.take (i + 1)) ∧ Same H H', ⟨z.toNat, gl (ns.take i), ?_, (gl_step hn).symm, sm⟩, ?_⟩
        · show [some (.ref p), some (.int _), some (.int z)] = [some (V.ref p), _, _]
          rw [Int.toNat_of_nonneg hz.1]
        · rintro m σ H' ⟨u, rfl, hg, sm⟩
          refine ⟨.int (m : Int), rfl, rfl, _, rfl, ?_⟩
          by_cases h0 : m = 0
          · subst h0
            refine iteFF rfl ?_
            rw [Nat.gcd_zero_right] at hg
            rw [hg]
            exact ⟨_, rfl, sm⟩
          · have hne : ¬ V.int (m : Int) = V.int 0 := fun z => h0 (by have := V.int.inj z; omega)
            refine iteTT (by rw [decide_eq_false hne]; rfl) ?_
            refine ⟨fun σ' H' => ∃ u : Nat, σ' = [some (.ref p), some (.int (m : Int)), some (.int ((u % m : Nat) : Int))] ∧ Nat.gcd u m = gl (ns.take (i + 1)) ∧ Same H H', ?_, ?_⟩
            · rintro σ' H' ⟨u, rfl, hg, sm⟩
              exact ⟨u % m, Nat.mod_lt _ (by omega), m, rfl, by rw [gcd_turn]; exact hg, sm⟩
            · refine ⟨.int (m : Int), rfl, .int (u : Int), rfl, .int (m : Int), rfl, u, m, rfl, rfl, (by show (0 : Int) < m; omega), (by show 2 ≤ sizeLine; decide), fun t nt => ?_⟩
              exact ⟨t, _, rfl, SqT.of upd_same, rfl, _, _, rfl, _, _, rfl, rfl, u, rfl, hg, sm.trans (same_new nt)⟩
    · rintro σ H1 ⟨y2, rfl, sm⟩
      rw [List.length_map, List.take_length]
      have hg := gl_pos hy py
      refine ⟨.ref p, rfl, p, rfl, ⟨_, SqL.of (sm _ _ hp)⟩, fun D nD => lc_list (xs := ns.map V.int) (fun i H' => Same H H' ∧ H' D = some (.lst (((ns.take i).map fun x => x / (gl ns : Int)).map V.int))) ⟨sm.trans (same_new nD), upd_same⟩ (fun i H' _ h => SqL.of (h.1 _ _ hp)) ?_ ?_⟩
      · rintro i x H' hx ⟨sm', hD⟩
        rw [List.getElem?_map] at hx
        cases hn : ns[i]? with
        | none => rw [hn] at hx; cases hx
        | some z =>
          rw [hn] at hx
          have ex : V.int z = x := Option.some.inj hx
          subst ex
          have hgs : gl ns ≤ z.toNat ∨ z = 0 := by
            have hz := hb z (List.mem_of_getElem? hn)
            by_cases h0 : z = 0
            · exact .inr h0
            · exact .inl (Nat.le_of_dvd (by omega) (gl_dvd (List.mem_of_getElem? hn)))
          have hgy : gl ns ≤ y.toNat := Nat.le_of_dvd (by omega) (gl_dvd hy)
          have hyb := hb y hy
          refine ⟨rfl, tYes_in ?_⟩
          refine ⟨.int z, rfl, .int (gl ns : Int), rfl, z, (gl ns : Int), rfl, rfl, wide_div (b := 100) (by omega) (by omega) (by decide) (by decide), _, hD, ?_, ?_, ?_⟩
          · rw [List.length_map, List.length_map, List.length_take]
            exact small1000 (by omega)
          · exact fun b' o e => by
              rw [upd_ne (ne_of_none (sm _ _ e) nD)]
              exact sm' _ _ e
          · rw [upd_same, List.take_add_one, hn, List.map_append, List.map_append]
            rfl
      · rintro H' ⟨sm', hD⟩
        rw [List.length_map, List.take_length] at hD
        refine .inl ⟨D, _, rfl, SqL.of hD, fun t nt => ?_⟩
        obtain ⟨k1, k2, k3⟩ := low_sh hb hl hy py
        exact q _ _ (low ns) (sm'.trans (same_new nt)) ⟨t, rfl, SqT.of upd_same, by unfold low; rw [List.length_map], k1, k2, k3⟩
theorem ok_shares {f : Addr} {fd : FuncData} (F : Fun K "_law_shares" "_law_shares" s_L_shares f fd) (gF : mg "_law_shares" = some (.ref f)) (b : Binds K fd ["_law_hand_here", "_law_many"] []) (B : Bl mg) (c_L_take : Cal P w K mg base 1 "_law_take" spTake) (c_L_of : Cal P w K mg base 2 "_law_of" (spOf K)) (c_L_lowest : Cal P w K mg base 1 "_law_lowest" (spLow K)) : Cal P w K mg base 3 "_law_shares" (spShares K) := by
  refine ⟨f, fd, _, F.ok sc_L_shares (fun vs H Q E h => ?_) (fun cdv A outer s H vs Q E hr h => ?_), gF, F.kp, b⟩
  · obtain ⟨_, _, _, rfl, _⟩ := h
    rfl
  · obtain ⟨a, many, n, rfl, hm1, hm2, hh, hn, q⟩ := h
    refine ⟨_, (pss_cons (ps_set (i := 2) sc_L_shares.nd rfl (.inl rfl) (pe_lst pa_nil)) (pss_cons (ps_for PassesOwn.never rfl (pi_range1 rfl B.range (pa_cons (pv 1) pa_nil)) (pg_name (i := 3) sc_L_shares.nd rfl (.inl rfl)) (pss_cons (ps_set (i := 4) sc_L_shares.nd rfl (.inl rfl) (pe_lst (pa_cons pe_int (pa_cons pe_int (pa_cons pe_int (pa_cons pe_int (pa_cons (pe_c c_L_take hr (by omega) (by rfl) (pa_cons (pv 0) (pa_cons pe_int pa_nil))) (pa_cons (pe_c c_L_take hr (by omega) (by rfl) (pa_cons (pv 0) (pa_cons pe_int pa_nil))) (pa_cons (pe_op op_add (pe_op op_pow pe_int pe_int) (pe_c c_L_take hr (by omega) (by rfl) (pa_cons (pv 0) (pa_cons pe_int pa_nil)))) pa_nil))))))))) (pss_one (ps_expr (pe_bm PySem.F.plainAttrs_list PySem.F.slot_list_append PySem.F.type_list_append mt_append (pv 2) (pa_cons (pe_c c_L_of hr (by omega) (by rfl) (pa_cons (pv 0) (pa_cons (pv 4) pa_nil))) pa_nil)))))) (C8.pss_cut (ps_if (pt_cmpR op_eq (pe_callB (cr_max rfl) (by rfl) B.max (by decide +kernel) (pa_cons (pv 2) pa_nil)) pe_int (nomark _)) (pss_one (ps_asg pe_int (pg_sub (pv 2) (pe_c c_L_take hr (by omega) (by rfl) (pa_cons (pv 0) (pa_cons (pv 1) pa_nil))) set_list))) pss_nil) (pss_one (ps_ret (pe_c c_L_lowest hr (by omega) (by rfl) (pa_cons (pv 2) pa_nil))))))), ?_⟩
    refine ⟨(by show 0 ≤ sizeLine; decide), fun l nl => ?_⟩
    have hla := hh.ne nl
    refine ⟨.int (many : Int), rfl, _, rfl, by omega, by omega, ?_⟩
    refine for_range (n := ((many : Int)).toNat) (fun i σ H' => ∃ y3 y4, ∃ ns : List Int, σ = [some (.ref a), some (.int (many : Int)), some (.ref l), y3, y4] ∧ But a H H' ∧ HandAt H' a (n + 4 * i) ∧ H' l = some (.lst (ns.map V.int)) ∧ ns.length = i ∧ ∀ x ∈ ns, 0 ≤ x ∧ x < 2 ^ 50) ⟨none, none, [], rfl, But.new nl, hh.new nl, upd_same, rfl, fun x h => by cases h⟩ ?_ ?_
    · rintro i σ H1 hi ⟨y3, y4, ns, rfl, b1, hh1, hl1, hlen, hb⟩
      have hi3 : i < 3 := by omega
      refine ⟨.ref a, rfl, a, 12, _, rfl, by decide, by decide, hh1, by omega, fun H2 r2 b2 hh2 r20 r21 => ?_⟩
      refine ⟨.ref a, rfl, a, 1001, _, rfl, by decide, by decide, hh2, by omega, fun H3 r3 b3 hh3 r30 r31 => ?_⟩
      refine ⟨10, 12, rfl, rfl, ⟨by decide, by decide, by decide⟩, .ref a, rfl, a, 9, _, rfl, by decide, by decide, hh3, by omega, fun H4 r4 b4 hh4 r40 r41 => ⟨_, _, rfl, rfl, (by show 7 ≤ sizeLine; decide), fun p np => ?_⟩⟩
      have hpa := hh4.ne np
      have e4 : H4 l = some (.lst (ns.map V.int)) := b4 _ _ hla (b3 _ _ hla (b2 _ _ hla hl1))
      have hpl : l ≠ p := ne_of_none e4 np
      have e5 : (upd H4 p (.lst [.int 0, .int 1, .int 1, .int 2, .int r2, .int r3, .int (10 ^ (12 : Int).toNat + r4)])) l = some (.lst (ns.map V.int)) := (upd_ne hpl).trans e4
      refine ⟨.ref l, rfl, .inl ⟨rfl, _, SqL.of e5⟩, .ref a, rfl, .ref p, rfl, a, p, _, _, rfl, hpa.symm, upd_same, (by show 0 < 7; decide), (by show 7 ≤ 1000; decide), hh4.new np, by omega, fun H6 v b6 hh6 hv => ?_⟩
      have key : ∃ c : Int, v = .int c ∧ 0 ≤ c ∧ c < 2 ^ 50 := by
        have hv : v ∈ ([.int 0, .int 1, .int 1, .int 2, .int r2, .int r3, .int (10 ^ 12 + r4)] : List V) := hv
        simp only [List.mem_cons, List.not_mem_nil, or_false] at hv
        rcases hv with rfl | rfl | rfl | rfl | rfl | rfl | rfl
        all_goals exact ⟨_, rfl, by omega, by omega⟩
      obtain ⟨c, rfl, c0, c1⟩ := key
      have e6 : H6 l = some (.lst (ns.map V.int)) := b6 _ _ hla e5
      refine ⟨l, _, _, rfl, rfl, e6, ?_, ?_⟩
      · rw [List.length_map]
        exact small1000 (by omega)
      · have bb : But a H H6 := ((((b1.trans b2).trans b3).trans b4).trans (But.new np)).trans b6
        refine ⟨_, _, ns ++ [c], rfl, fun b' o nb e => ?_, (hh6.put hla).le (by omega), ?_, ?_, ?_⟩
        · rw [upd_ne (ne_of_none e nl)]
          exact bb _ _ nb e
        · rw [upd_same, List.map_append]
          rfl
        · rw [List.length_append, hlen]
          rfl
        · intro x hx
          rcases List.mem_append.mp hx with hx | hx
          · exact hb x hx
          · rw [List.mem_singleton.mp hx]
            exact ⟨c0, c1⟩
    · rintro σ H1 ⟨y3, y4, ns, rfl, b1, hh1, hl1, hlen, hb⟩
      have hlen : ns.length = many := by omega
      have hh1 : HandAt H1 a (n + 12) := hh1.le (by omega)
      refine ⟨fun σ H' => ∃ y3 y4, ∃ ns : List Int, ∃ y : Int, σ = [some (.ref a), some (.int (many : Int)), some (.ref l), y3, y4] ∧ But a H H' ∧ HandAt H' a (n + 13) ∧ H' l = some (.lst (ns.map V.int)) ∧ ns.length = many ∧ (∀ x ∈ ns, 0 ≤ x ∧ x < 2 ^ 50) ∧ y ∈ ns ∧ 0 < y, ?_, ?_⟩
      · refine ⟨.ref l, rfl, l, ns, rfl, SqL.of hl1, by omega, fun m hm hmax => ⟨rfl, _, rfl, iteD (fun c => ?_) (fun c => ?_)⟩⟩
        · refine ⟨.ref l, rfl, .ref a, rfl, .int (many : Int), rfl, a, _, _, rfl, by omega, by omega, hh1, by omega, fun H2 r b2 hh2 r0 r1 => ?_⟩
          have e2 := b2 _ _ hla hl1
          refine ⟨l, _, r, _, rfl, rfl, e2, ixN_of r0 (by rw [List.length_map]; omega), ?_⟩
          have hj : r.toNat < ns.length := by omega
          refine ⟨_, _, ns.set r.toNat 1, 1, rfl, fun b' o nb e => ?_, hh2.put hla, ?_, ?_, fun x hx => ?_, ?_, by decide⟩
          · rw [upd_ne (ne_of_none e nl)]
            exact b2 _ _ nb (b1 _ _ nb e)
          · rw [upd_same, List.map_set]
          · rw [List.length_set]
            exact hlen
          · rcases List.mem_or_eq_of_mem_set hx with hx | rfl
            · exact hb x hx
            · exact ⟨by decide, by decide⟩
          · exact List.mem_iff_getElem.mpr ⟨r.toNat, by rw [List.length_set]; exact hj, List.getElem_set_self _⟩
        · have hm0 : m ≠ 0 := fun z => c (by rw [z])
          exact ⟨_, _, ns, m, rfl, b1, hh1.le (by omega), hl1, hlen, hb, hm, by have := hb m hm; omega⟩
      · rintro σ H2 ⟨y3, y4, ns, y, rfl, b2, hh2, hl2, hlen, hb, hy, py⟩
        refine ⟨.ref l, rfl, l, ns, y, rfl, hl2, hb, by omega, hy, py, fun H3 v ms sm hv => ?_⟩
        rw [hlen] at hv
        obtain ⟨g, sd, m, e, z1, z2, z3, z4⟩ := hh2
        exact q _ _ ms (b2.trans (But.of sm)) ⟨g, sd, m, sm _ _ e, z1, z2, z3, by omega⟩ hv
theorem ok_regs {f : Addr} {fd : FuncData} (F : Fun K "_law_registers" "_law_registers" s_L_registers f fd) (gF : mg "_law_registers" = some (.ref f)) (b : Binds K fd ["_law_hand_here"] []) (B : Bl mg) (c_L_figure : Cal P w K mg base 3 "_law_figure" spFigure) : Cal P w K mg base 4 "_law_registers" (spRegs K) := by
  refine ⟨f, fd, _, F.ok sc_L_registers (fun vs H Q E h => ?_) (fun cdv A outer s H vs Q E hr h => ?_), gF, F.kp, b⟩
  · obtain ⟨_, _, rfl, _⟩ := h
    rfl
  · obtain ⟨a, n, rfl, hh, hn, q⟩ := h
    refine ⟨_, (pss_one (ps_ret (pe_tupleOf (by rfl) B.tuple (pe_lc (own := [("_law_turn", 1)]) rfl sc_L_registers.nd (pi_range1 rfl B.range (pa_cons pe_int pa_nil)) (blkOk_by (N := N_L_registers) (sc := defScope s_L_registers) (by decide +kernel)) (fun _ _ _ _ _ => pg_name (i := 1) sc_L_registers.nd rfl (.inl rfl)) (fun _ _ _ _ _ => pts_nil) (fun _ _ _ _ _ => pe_c c_L_figure hr (by omega) (by rfl) (pa_cons (pv 0) pa_nil)))))), ?_⟩
    refine ⟨4, rfl, by decide, by decide, fun D nD => lc_range (n := (4 : Int).toNat) (fun i H' => ∃ rs : List Int, But a H H' ∧ HandAt H' a (n + 3 * i) ∧ H' D = some (.lst (rs.map V.int)) ∧ rs.length = i ∧ ∀ x ∈ rs, -1000 ≤ x ∧ x ≤ 1000) ⟨[], But.new nD, hh.new nD, upd_same, rfl, fun x h => by cases h⟩ ?_ ?_⟩
    · rintro i H1 hi ⟨rs, b1, hh1, hD, hlen, hb⟩
      have hi4 : i < 4 := hi
      have hDa := hh.ne nD
      refine ⟨rfl, tYes_in ?_⟩
      refine ⟨.ref a, rfl, a, _, rfl, hh1, by omega, fun H2 c b2 hh2 c0 c1 => ⟨_, b2 _ _ hDa hD, ?_, ?_⟩⟩
      · rw [List.length_map]
        exact small1000 (by omega)
      · refine ⟨rs ++ [c], fun b' o nb e => ?_, (hh2.put hDa).le (by omega), ?_, ?_, ?_⟩
        · rw [upd_ne (ne_of_none e nD)]
          exact b2 _ _ nb (b1 _ _ nb e)
        · rw [upd_same, List.map_append]
          rfl
        · rw [List.length_append, hlen]
          rfl
        · intro x hx
          rcases List.mem_append.mp hx with hx | hx
          · exact hb x hx
          · rw [List.mem_singleton.mp hx]
            exact ⟨c0, c1⟩
    · rintro H1 ⟨rs, b1, hh1, hD, hlen, hb⟩
      refine .inl ⟨D, _, rfl, SqL.of hD, fun t nt => ?_⟩
      exact q _ _ rs (b1.trans (But.new nt)) (hh1.new nt) ⟨t, rfl, SqT.of upd_same, hlen, hb⟩
end
end NG

namespace NG
open PySem PySem.Spec PyProof.Rows L2
section
variable {P : Program} {w : World} {K : PySem.W.Frag} {mg : Str → Option Value} {base : Heap}
theorem ok_stake {f : Addr} {fd : FuncData} (F : Fun K "_law_stake" "_law_stake" s_L_stake f fd) (gF : mg "_law_stake" = some (.ref f)) (b : Binds K fd ["_law_hand_here", "_law_many", "_law_level", "_law_jumps"] []) (B : Bl mg) (c_L_take : Cal P w K mg base 1 "_law_take" spTake) (c_L_of : Cal P w K mg base 2 "_law_of" (spOf K)) {m : Nat} (c_L_expression : Cal P w K mg base (m + 4) "_law_expression" (spExprB K m)) : Cal P w K mg base (m + 5) "_law_stake" (spStakeB K m) := by
  refine ⟨f, fd, _, F.ok sc_L_stake (fun vs H Q E h => ?_) (fun cdv A outer s H vs Q E hr h => ?_), gF, F.kp, b⟩
  · obtain ⟨_, _, _, _, _, rfl, _⟩ := h
    rfl
  · obtain ⟨a, many, l, n, j, rfl, hj, hl, hm1, hm2, hh, hn, q⟩ := h
    refine ⟨_, (pss_cons (ps_set (i := 4) sc_L_stake.nd rfl (.inl rfl) (pe_c c_L_of hr (by omega) (by rfl) (pa_cons (pv 0) (pa_cons (pe_lst (pa_cons pe_int (pa_cons pe_int (pa_cons pe_int (pa_cons pe_int (pa_cons (pe_op op_add pe_int (pe_c c_L_take hr (by omega) (by rfl) (pa_cons (pv 0) (pa_cons pe_int pa_nil)))) pa_nil)))))) pa_nil)))) (pss_cons (ps_if (pt_cmpR op_eq (pe_c c_L_take hr (by omega) (by rfl) (pa_cons (pv 0) (pa_cons pe_int pa_nil))) pe_int (nomark _)) (pss_one (ps_ret (pe_tup (pa_cons pe_str (pa_cons (pe_c c_L_of hr (by omega) (by rfl) (pa_cons (pv 0) (pa_cons (pe_lst (pa_cons pe_int (pa_cons pe_int (pa_cons (pv 4) (pa_cons (pe_un un_neg (pv 4)) pa_nil))))) pa_nil))) pa_nil))))) pss_nil) (pss_cons (ps_set (i := 5) sc_L_stake.nd rfl (.inl rfl) (pe_tup (pa_cons pe_str (pa_cons (pe_tup (pa_cons pe_str (pa_cons (pe_un un_neg (pv 4)) pa_nil))) (pa_cons (pe_c c_L_expression hr (by omega) (by rfl) (pa_cons (pv 0) (pa_cons (pv 1) (pa_cons (pv 2) (pa_cons (pv 3) pa_nil))))) pa_nil))))) (pss_one (ps_ret (pe_tup (pa_cons pe_str (pa_cons (pe_tup (pa_cons pe_str (pa_cons (pv 4) pa_nil))) (pa_cons (pv 5) pa_nil))))))))), ?_⟩
    have two_le : 2 ≤ sizeLine := by decide
    have three_le : 3 ≤ sizeLine := by decide
    have hcl := cost_ge l
    refine ⟨.ref a, rfl, .ref a, rfl, a, 500, n, rfl, by decide, by decide, hh, by omega, fun H1 r b1 hh1 r0 r1 => ⟨1, r, rfl, rfl, (by show 5 ≤ sizeLine; decide), fun p1 n1 => ?_⟩⟩
    have ne1 := hh1.ne n1
    refine ⟨a, p1, _, n + 1, rfl, ne1.symm, upd_same, (by show 0 < 5; decide), (by show 5 ≤ 1000; decide), hh1.new n1, by omega, fun H2 v b2 hh2 hv => ?_⟩
    have key : ∃ c : Int, v = .int c ∧ 1 ≤ c ∧ c ≤ 500 := by
      have hv : v ∈ ([.int 500, .int 125, .int 50, .int 1, .int (1 + r)] : List V) := hv
      simp only [List.mem_cons, List.not_mem_nil, or_false] at hv
      rcases hv with rfl | rfl | rfl | rfl | rfl
      all_goals exact ⟨_, rfl, by omega, by omega⟩
    obtain ⟨c, rfl, c0, c1⟩ := key
    have b02 := (b1.trans (But.new n1)).trans b2
    refine ⟨.ref a, rfl, a, 4, _, rfl, by decide, by decide, hh2, by omega, fun H3 z b3 hh3 z0 z1 => ⟨rfl, _, rfl, iteD (fun cz => ?_) (fun cz => ?_)⟩⟩
    · refine ⟨.ref a, rfl, .int c, rfl, .int c, rfl, c, rfl, (by show 4 ≤ sizeLine; decide), fun p2 n2 => ?_⟩
      have ne2 := hh3.ne n2
      refine ⟨a, p2, _, _, rfl, ne2.symm, upd_same, (by show 0 < 4; decide), (by show 4 ≤ 1000; decide), hh3.new n2, by omega, fun H4 v b4 hh4 hv => ⟨two_le, fun p3 n3 => ?_⟩⟩
      have key : ∃ c : Int, v = .int c ∧ -500 ≤ c ∧ c ≤ 500 := by
        have hv : v ∈ ([.int 0, .int 0, .int c, .int (-c)] : List V) := hv
        simp only [List.mem_cons, List.not_mem_nil, or_false] at hv
        rcases hv with rfl | rfl | rfl | rfl
        all_goals exact ⟨_, rfl, by omega, by omega⟩
      obtain ⟨x, rfl, x0, x1⟩ := key
      exact q _ _ (.fig x) ((((b02.trans b3).trans (But.new n2)).trans b4).trans (But.new n3)) ((hh4.new n3).le (by omega)) ⟨p3, rfl, SqT.of upd_same⟩ ⟨by omega, by omega⟩ (by show 1 ≤ l + 3; omega) (.inl ⟨x, rfl, x0, x1⟩)
    · refine ⟨.int c, rfl, c, rfl, two_le, fun p4 n4 => ?_⟩
      have hh4 := hh3.new (o := .tup [.str "fig", .int (-c)]) n4
      have h4 : (upd H3 p4 (.tup [.str "fig", .int (-c)])) p4 = some (.tup [.str "fig", .int (-c)]) := upd_same
      have b4 := (b02.trans b3).trans (But.new (o := .tup [.str "fig", .int (-c)]) n4)
      generalize upd H3 p4 (.tup [.str "fig", .int (-c)]) = H4 at hh4 h4 b4
      refine ⟨.ref a, rfl, .int (many : Int), rfl, .int (l : Int), rfl, .bl j, rfl, a, many, l, _, j, rfl, hj, hl, hm1, hm2, hh4, by omega, fun H5 v e b5 hh5 he ho hd => ⟨three_le, fun p5 n5 => ?_⟩⟩
      have h5 : ExAt K H5 (.fig (-c)) (.ref p4) := ⟨p4, rfl, b5.sq hh4 (SqT.of h4)⟩
      have hh6 := hh5.new (o := .tup [.str "most", .ref p4, v]) n5
      have hi6 : ExAt K (upd H5 p5 (.tup [.str "most", .ref p4, v])) (.two .most (.fig (-c)) e) (.ref p5) := ⟨p5, .ref p4, v, rfl, SqT.of upd_same, h5.new n5, he.new n5⟩
      have b6 := (b4.trans b5).trans (But.new (o := .tup [.str "most", .ref p4, v]) n5)
      generalize upd H5 p5 (.tup [.str "most", .ref p4, v]) = H6 at hh6 hi6 b6
      refine ⟨.int c, rfl, two_le, fun p7 n7 => ⟨.ref p5, rfl, three_le, fun p8 n8 => ?_⟩⟩
      have hh7 := hh6.new (o := .tup [.str "fig", .int c]) n7
      have h7 : ExAt K (upd H6 p7 (.tup [.str "fig", .int c])) (.fig c) (.ref p7) := ⟨p7, rfl, SqT.of upd_same⟩
      have hi7 := hi6.new (o := .tup [.str "fig", .int c]) n7
      refine q _ _ (.two .least (.fig c) (.two .most (.fig (-c)) e)) ((b6.trans (But.new n7)).trans (But.new n8)) ((hh7.new n8).le (by omega)) ⟨p8, .ref p7, .ref p5, rfl, SqT.of upd_same, h7.new n8, hi7.new n8⟩ ⟨⟨by omega, by omega⟩, ⟨by omega, by omega⟩, ho⟩ ?_ (.inr ⟨c, e, rfl, c0, c1, ho, hd⟩)
      show max 1 (max 1 e.dep + 1) + 1 ≤ l + 3
      omega
theorem ok_deeds {f : Addr} {fd : FuncData} (F : Fun K "_law_deeds" "_law_deeds" s_L_deeds f fd) (gF : mg "_law_deeds" = some (.ref f)) (b : Binds K fd ["_law_hand_here", "_law_many", "_law_deep"] []) (B : Bl mg) (c_L_take : Cal P w K mg base 1 "_law_take" spTake) (c_L_of : Cal P w K mg base 2 "_law_of" (spOf K)) (c_L_figure : Cal P w K mg base 3 "_law_figure" spFigure) : ∀ n, Cal P w K mg base (n + 4) "_law_deeds" (spDeeds K n) := by
  intro n
  induction n with
  | zero =>
    refine cal_never F gF b fun vs H Q E h => ?_
    obtain ⟨_, _, l, _, _, hl, _⟩ := h
    omega
  | succ m c_L_deeds =>
  refine ⟨f, fd, _, F.ok sc_L_deeds (fun vs H Q E h => ?_) (fun cdv A outer s H vs Q E hr h => ?_), gF, F.kp, b⟩
  · obtain ⟨_, _, _, _, rfl, _⟩ := h
    rfl
  · obtain ⟨a, many, l, n, rfl, hl, hl3, hm1, hm2, hh, hn, q⟩ := h
    refine ⟨_, (pss_cons (ps_set (i := 3) sc_L_deeds.nd rfl (.inl rfl) (pe_lst pa_nil)) (pss_cons (ps_for PassesOwn.never rfl (pi_range1 rfl B.range (pa_cons (pe_c c_L_take hr (by omega) (by rfl) (pa_cons (pv 0) (pa_cons pe_int pa_nil))) pa_nil)) (pg_name (i := 4) sc_L_deeds.nd rfl (.inl rfl)) (pss_cons (ps_par (i := 5) (j := 6) rfl sc_L_deeds.nd rfl rfl (by decide) rfl rfl (pa_cons (pe_c c_L_take hr (by omega) (by rfl) (pa_cons (pv 0) (pa_cons pe_int pa_nil))) (pa_cons (pe_c c_L_of hr (by omega) (by rfl) (pa_cons (pv 0) (pa_cons (pe_lst (pa_cons pe_str (pa_cons pe_str (pa_cons pe_str (pa_cons pe_str (pa_cons pe_str (pa_cons pe_str pa_nil))))))) pa_nil))) pa_nil)) (by rfl)) (pss_one (ps_if (pt_cmpR op_in_seq (pv 6) (pe_tup (pa_cons pe_str (pa_cons pe_str pa_nil))) (by rfl)) (pss_one (ps_expr (pe_bm PySem.F.plainAttrs_list PySem.F.slot_list_append PySem.F.type_list_append mt_append (pv 3) (pa_cons (pe_tup (pa_cons (pv 6) (pa_cons (pv 5) (pa_cons (pe_c c_L_figure hr (by omega) (by rfl) (pa_cons (pv 0) pa_nil)) pa_nil)))) pa_nil)))) (pss_one (ps_if (pt_cmpR op_in_seq (pv 6) (pe_tup (pa_cons pe_str (pa_cons pe_str pa_nil))) (by rfl)) (pss_one (ps_expr (pe_bm PySem.F.plainAttrs_list PySem.F.slot_list_append PySem.F.type_list_append mt_append (pv 3) (pa_cons (pe_tup (pa_cons (pv 6) (pa_cons (pv 5) (pa_cons (pe_c c_L_take hr (by omega) (by rfl) (pa_cons (pv 0) (pa_cons pe_int pa_nil))) pa_nil)))) pa_nil)))) (pss_one (ps_expr (pe_bm PySem.F.plainAttrs_list PySem.F.slot_list_append PySem.F.type_list_append mt_append (pv 3) (pa_cons (pe_tup (pa_cons (pv 6) (pa_cons (pv 5) (pa_cons (pe_c c_L_take hr (by omega) (by rfl) (pa_cons (pv 0) (pa_cons (pv 1) pa_nil))) pa_nil)))) pa_nil)))))))))) (C8.pss_cut (ps_if (PW.pt (pw_and (pt_cmpR op_gt (pv 2) pe_int (nomark _)) (pw_and1 (pt_cmpR op_eq (pe_c c_L_take hr (by omega) (by rfl) (pa_cons (pv 0) (pa_cons pe_int pa_nil))) pe_int (nomark _))))) (pss_cons (ps_setLc (i := 7) (own := [("_law_turn", 4)]) rfl sc_L_deeds.nd rfl rfl (sw_true rfl rfl rfl (by decide +kernel)) (pi_range1 rfl B.range (pa_cons pe_int pa_nil)) (blkOk_by (N := N_L_deeds) (sc := defScope s_L_deeds) (by decide +kernel)) (fun _ _ _ _ _ => pg_name (i := 4) sc_L_deeds.nd rfl (.inl rfl)) (fun _ _ _ _ _ => pts_nil) (fun _ _ _ _ _ => pe_c c_L_deeds hr (by omega) (by rfl) (pa_cons (pv 0) (pa_cons (pv 1) (pa_cons (pe_op op_sub (pv 2) pe_int) pa_nil))))) (pss_one (ps_expr (pe_bm PySem.F.plainAttrs_list PySem.F.slot_list_append PySem.F.type_list_append mt_append (pv 3) (pa_cons (pe_tup (pa_cons pe_str (pa_cons (pe_c c_L_take hr (by omega) (by rfl) (pa_cons (pv 0) (pa_cons pe_int pa_nil))) (pa_cons (pe_c c_L_figure hr (by omega) (by rfl) (pa_cons (pv 0) pa_nil)) (pa_cons (pe_ix ix_list (pv 7) pe_int (fun _ _ => rfl)) (pa_cons (pe_ix ix_list (pv 7) pe_int (fun _ _ => rfl)) pa_nil)))))) pa_nil))))) pss_nil) (pss_one (ps_ret (pe_tupleOf (by rfl) B.tuple (pv 3))))))), ?_⟩
    have two_le : 2 ≤ sizeLine := by decide
    have three_le : 3 ≤ sizeLine := by decide
    have hBg := dB_ge l
    have hCg := dC_ge l
    have hCl : dC l ≤ 52 := by
      have : l = 0 ∨ l = 1 ∨ l = 2 ∨ l = 3 := by omega
      rcases this with rfl | rfl | rfl | rfl <;> decide
    refine ⟨(by show 0 ≤ sizeLine; decide), fun g ng => ?_⟩
    have hga := hh.ne ng
    refine ⟨.ref a, rfl, a, 4, n, rfl, by decide, by decide, hh.new ng, by omega, fun H0 t0 b0 hh0 t00 t01 => ⟨t0, rfl, by omega, by omega, ?_⟩⟩
    have hg0 := b0 _ _ hga (upd_same (o := .lst []))
    have bb0 : But a H H0 := (But.new ng).trans b0
    refine for_range (n := t0.toNat) (fun i σ H' => ∃ y4 y5 y6 us d, σ = [some (.ref a), some (.int (many : Int)), some (.int (l : Int)), some (.ref g), y4, y5, y6, none] ∧ But a H H' ∧ HandAt H' a (n + 1 + 5 * i) ∧ H' g = some (.lst us) ∧ DsAt K H' d us ∧ DsOk many d ∧ d.dep ≤ 1 ∧ d.cnt ≤ i) ⟨none, none, none, [], .nil, rfl, bb0, hh0, hg0, rfl, trivial, by decide, Nat.le_refl _⟩ ?_ ?_
    · rintro i σ H1 hi ⟨y4, y5, y6, us, d, rfl, b1, hh1, hg1, hd1, ho1, hdp, hdc⟩
      have hi3 : i < 3 := by omega
      have hul : us.length ≤ 3 := by
        have h1 := hd1.len
        have h2 := d.len_le
        omega
      refine ⟨.ref a, rfl, a, 4, _, rfl, by decide, by decide, hh1, by omega, fun H2 r b2 hh2 r0 r1 => ⟨.ref a, rfl, (by show 6 ≤ sizeLine; decide), fun p1 n1 => ?_⟩⟩
      have ne1 := hh2.ne n1
      refine ⟨a, p1, _, _, rfl, ne1.symm, upd_same, (by show 0 < 6; decide), (by show 6 ≤ 1000; decide), hh2.new n1, by omega, fun H3 v b3 hh3 hv => ⟨_, _, rfl, ?_⟩⟩
      have key : ∃ dw : D5, v = .str (dn dw) := by
        have hv : v ∈ ([.str "put", .str "add", .str "copy", .str "plus", .str "told", .str "add"] : List V) := hv
        simp only [List.mem_cons, List.not_mem_nil, or_false] at hv
        rcases hv with rfl | rfl | rfl | rfl | rfl | rfl
        · exact ⟨.put, rfl⟩
        · exact ⟨.add, rfl⟩
        · exact ⟨.copy, rfl⟩
        · exact ⟨.plus, rfl⟩
        · exact ⟨.told, rfl⟩
        · exact ⟨.add, rfl⟩
      obtain ⟨dw, rfl⟩ := key
      have b13 : But a H1 H3 := (b2.trans (But.new n1)).trans b3
      obtain ⟨r, rfl⟩ : ∃ r' : Nat, r = (r' : Int) := ⟨r.toNat, by omega⟩
      have fin : ∀ (x : Int) (Hx : Hp) (k : Nat), But a H1 Hx → HandAt Hx a k → k ≤ n + 1 + 5 * (i + 1) → xok many dw x → ∀ t, Hx t = none →
          ∃ xs, (upd Hx t (.tup [.str (dn dw), .int (r : Int), .int x])) g = some (.lst xs) ∧ xs.length < sizeLine ∧ ∃ y4 y5 y6 us d, ([some (.ref a), some (.int (many : Int)), some (.int (l : Int)), some (.ref g), some (.int (0 + (i : Int))), some (.int (r : Int)), some (.str (dn dw)), none] : L2.St) = [some (.ref a), some (.int (many : Int)), some (.int (l : Int)), some (.ref g), y4, y5, y6, none] ∧ But a H (upd (upd Hx t (.tup [.str (dn dw), .int (r : Int), .int x])) g (.lst (xs ++ [.ref t]))) ∧ HandAt (upd (upd Hx t (.tup [.str (dn dw), .int (r : Int), .int x])) g (.lst (xs ++ [.ref t]))) a (n + 1 + 5 * (i + 1)) ∧ (upd (upd Hx t (.tup [.str (dn dw), .int (r : Int), .int x])) g (.lst (xs ++ [.ref t]))) g = some (.lst us) ∧ DsAt K (upd (upd Hx t (.tup [.str (dn dw), .int (r : Int), .int x])) g (.lst (xs ++ [.ref t]))) d us ∧ DsOk many d ∧ d.dep ≤ 1 ∧ d.cnt ≤ i + 1 := by
        intro x Hx k bx hx hk ok t nt
        have hgx := bx _ _ hga hg1
        have smt := same_new (o := .tup [.str (dn dw), .int (r : Int), .int x]) nt
        have htt : (upd Hx t (.tup [.str (dn dw), .int (r : Int), .int x])) t = some (.tup [.str (dn dw), .int (r : Int), .int x]) := upd_same
        have hht := hx.new (o := .tup [.str (dn dw), .int (r : Int), .int x]) nt
        have hgt := smt _ _ hgx
        have hdt := (hd1.imp fun _ _ q => bx.sq hh1 q).same smt
        have bt := b1.trans (bx.trans (But.of smt))
        clear smt
        generalize upd Hx t (.tup [.str (dn dw), .int (r : Int), .int x]) = Ht at htt hht hgt hdt bt
        refine ⟨us, hgt, small1000 (by omega), _, _, _, us ++ [.ref t], d.app (.op dw r x .nil), rfl, fun b' o nb eb => ?_, (hht.put hga).le hk, upd_same, ?_, ho1.app ⟨by omega, ok, trivial⟩, ?_, ?_⟩
        · rw [upd_ne (ne_of_none eb ng)]
          exact bt _ _ nb eb
        · exact (DsAt.app (e := .op dw r x .nil) (ws := [.ref t]) hdt ⟨t, [], rfl, SqT.of htt, rfl⟩).imp fun _ _ q => put_sqt hgt q
        · rw [Ds.dep_app]
          show max d.dep (max 1 0) ≤ 1
          omega
        · rw [Ds.cnt_app]
          show d.cnt + (1 + 0) ≤ i + 1
          omega
      have tails : ∀ (x : Int) (Hx : Hp) (k : Nat), But a H1 Hx → HandAt Hx a k → k ≤ n + 1 + 5 * (i + 1) → xok many dw x → ∀ t, Hx t = none → _ := fin
      have hg3 := b13 _ _ hga hg1
      have go2 : ∀ (tq : Addr) (nq : H3 tq = none) (o : HO), But a H1 (upd H3 tq o) ∧ HandAt (upd H3 tq o) a (n + 1 + 5 * i + 1 + 1) ∧ (upd H3 tq o) g = some (.lst us) := fun tq nq o => ⟨b13.trans (But.new nq), hh3.new nq, (same_new nq) _ _ hg3⟩
      cases dw with
      | put =>
        refine ⟨_, rfl, two_le, fun t1 nt1 => ⟨t1, _, rfl, .inr (SqT.of upd_same), rfl, rfl, _, rfl, iteTT rfl ?_⟩⟩
        obtain ⟨bq, hq, gq⟩ := go2 t1 nt1 (.tup [.str "put", .str "add"])
        refine ⟨.ref g, rfl, .inl ⟨rfl, _, SqL.of gq⟩, _, rfl, .int (r : Int), rfl, .ref a, rfl, a, _, rfl, hq, by omega, fun H5 x b5 hh5 x0 x1 => ⟨three_le, fun t nt => ?_⟩⟩
        obtain ⟨xs, e1, e2, e3⟩ := fin x H5 _ (bq.trans b5) hh5 (by omega) ⟨x0, x1⟩ t nt
        exact ⟨g, xs, _, rfl, rfl, e1, e2, e3⟩
      | add =>
        refine ⟨_, rfl, two_le, fun t1 nt1 => ⟨t1, _, rfl, .inr (SqT.of upd_same), rfl, rfl, _, rfl, iteTT rfl ?_⟩⟩
        obtain ⟨bq, hq, gq⟩ := go2 t1 nt1 (.tup [.str "put", .str "add"])
        refine ⟨.ref g, rfl, .inl ⟨rfl, _, SqL.of gq⟩, _, rfl, .int (r : Int), rfl, .ref a, rfl, a, _, rfl, hq, by omega, fun H5 x b5 hh5 x0 x1 => ⟨three_le, fun t nt => ?_⟩⟩
        obtain ⟨xs, e1, e2, e3⟩ := fin x H5 _ (bq.trans b5) hh5 (by omega) ⟨x0, x1⟩ t nt
        exact ⟨g, xs, _, rfl, rfl, e1, e2, e3⟩
      | copy =>
        refine ⟨_, rfl, two_le, fun t1 nt1 => ⟨t1, _, rfl, .inr (SqT.of upd_same), rfl, rfl, _, rfl, iteFF rfl ?_⟩⟩
        obtain ⟨bq, hq, gq⟩ := go2 t1 nt1 (.tup [.str "put", .str "add"])
        refine ⟨_, rfl, two_le, fun t2 nt2 => ⟨t2, _, rfl, .inr (SqT.of upd_same), rfl, rfl, _, rfl, iteTT rfl ?_⟩⟩
        have gq2 := (same_new (o := .tup [.str "copy", .str "plus"]) nt2) _ _ gq
        refine ⟨.ref g, rfl, .inl ⟨rfl, _, SqL.of gq2⟩, _, rfl, .int (r : Int), rfl, .ref a, rfl, a, 4, _, rfl, by decide, by decide, hq.new nt2, by omega, fun H5 x b5 hh5 x0 x1 => ⟨three_le, fun t nt => ?_⟩⟩
        obtain ⟨xs, e1, e2, e3⟩ := fin x H5 _ ((bq.trans (But.new nt2)).trans b5) hh5 (by omega) ⟨x0, x1⟩ t nt
        exact ⟨g, xs, _, rfl, rfl, e1, e2, e3⟩
      | plus =>
        refine ⟨_, rfl, two_le, fun t1 nt1 => ⟨t1, _, rfl, .inr (SqT.of upd_same), rfl, rfl, _, rfl, iteFF rfl ?_⟩⟩
        obtain ⟨bq, hq, gq⟩ := go2 t1 nt1 (.tup [.str "put", .str "add"])
        refine ⟨_, rfl, two_le, fun t2 nt2 => ⟨t2, _, rfl, .inr (SqT.of upd_same), rfl, rfl, _, rfl, iteTT rfl ?_⟩⟩
        have gq2 := (same_new (o := .tup [.str "copy", .str "plus"]) nt2) _ _ gq
        refine ⟨.ref g, rfl, .inl ⟨rfl, _, SqL.of gq2⟩, _, rfl, .int (r : Int), rfl, .ref a, rfl, a, 4, _, rfl, by decide, by decide, hq.new nt2, by omega, fun H5 x b5 hh5 x0 x1 => ⟨three_le, fun t nt => ?_⟩⟩
        obtain ⟨xs, e1, e2, e3⟩ := fin x H5 _ ((bq.trans (But.new nt2)).trans b5) hh5 (by omega) ⟨x0, x1⟩ t nt
        exact ⟨g, xs, _, rfl, rfl, e1, e2, e3⟩
      | told =>
        refine ⟨_, rfl, two_le, fun t1 nt1 => ⟨t1, _, rfl, .inr (SqT.of upd_same), rfl, rfl, _, rfl, iteFF rfl ?_⟩⟩
        obtain ⟨bq, hq, gq⟩ := go2 t1 nt1 (.tup [.str "put", .str "add"])
        refine ⟨_, rfl, two_le, fun t2 nt2 => ⟨t2, _, rfl, .inr (SqT.of upd_same), rfl, rfl, _, rfl, iteFF rfl ?_⟩⟩
        have gq2 := (same_new (o := .tup [.str "copy", .str "plus"]) nt2) _ _ gq
        refine ⟨.ref g, rfl, .inl ⟨rfl, _, SqL.of gq2⟩, _, rfl, .int (r : Int), rfl, .ref a, rfl, .int (many : Int), rfl, a, many, _, rfl, by omega, by omega, hq.new nt2, by omega, fun H5 x b5 hh5 x0 x1 => ⟨three_le, fun t nt => ?_⟩⟩
        obtain ⟨xs, e1, e2, e3⟩ := fin x H5 _ ((bq.trans (But.new nt2)).trans b5) hh5 (by omega) ⟨x0, x1⟩ t nt
        exact ⟨g, xs, _, rfl, rfl, e1, e2, e3⟩
    · rintro σ H1 ⟨y4, y5, y6, us, d, rfl, b1, hh1, hg1, hd1, ho1, hdp, hdc⟩
      have hh1 : HandAt H1 a (n + 16) := hh1.le (by omega)
      have hdc : d.cnt ≤ 3 := by omega
      have hul : us.length ≤ 3 := by
        have h1 := hd1.len
        have h2 := d.len_le
        omega
      refine ⟨fun σ H' => ∃ y4 y5 y6 y7 us d, σ = [some (.ref a), some (.int (many : Int)), some (.int (l : Int)), some (.ref g), y4, y5, y6, y7] ∧ But a H H' ∧ HandAt H' a (n + dB l) ∧ H' g = some (.lst us) ∧ DsAt K H' d us ∧ DsOk many d ∧ d.dep ≤ l + 1 ∧ d.cnt ≤ dC l, ?_, ?_⟩
      · refine ⟨.int (l : Int), rfl, _, _, rfl, rfl, _, rfl, iteD (fun c => ?_) (fun c => ?_)⟩
        · obtain ⟨l', rfl⟩ : ∃ l', l = l' + 1 := ⟨l - 1, by omega⟩
          have eB : dB (l' + 1) = 2 * dB l' + 30 := rfl
          have eC : dC (l' + 1) = 2 * dC l' + 4 := rfl
          refine ⟨.ref a, rfl, a, 3, _, rfl, by decide, by decide, hh1, by omega, fun H2 z b2 hh2 z0 z1 => ⟨rfl, _, rfl, iteD (fun cz => ?_) (fun cz => ?_)⟩⟩
          · have hg2 := b2 _ _ hga hg1
            refine ⟨2, rfl, by decide, by decide, fun D nD => lc_range (n := (2 : Int).toNat) (fun j H' => ∃ ws ds, But a H2 H' ∧ HandAt H' a (n + 17 + dB l' * j) ∧ H' D = some (.lst ws) ∧ BhAt K H' ws ds ∧ ds.length = j ∧ ∀ d ∈ ds, DsOk many d ∧ d.dep ≤ l' + 1 ∧ d.cnt ≤ dC l') ⟨[], [], But.new nD, hh2.new nD, upd_same, trivial, rfl, fun x h => by cases h⟩ ?_ ?_⟩
            · rintro j H5 hj ⟨ws, ds, b5, hh5, hD, hbh, hel, hes⟩
              have hj : j < 2 := hj
              have hDa : D ≠ a := hh2.ne nD
              have elev : V.int (((l' + 1 : Nat) : Int) - 1) = V.int (l' : Int) := by
                congr 1
                omega
              have hjb : dB l' * j + dB l' ≤ 2 * dB l' := by
                have : j = 0 ∨ j = 1 := by omega
                rcases this with rfl | rfl <;> omega
              refine ⟨rfl, tYes_in ?_⟩
              refine ⟨.ref a, rfl, .int (many : Int), rfl, .int ((l' + 1 : Nat) : Int), rfl, _, 1, rfl, rfl, a, many, l', _, (by show [V.ref a, V.int (many : Int), V.int (((l' + 1 : Nat) : Int) - 1)] = _; rw [elev]), by omega, by omega, hm1, hm2, hh5, by omega, fun H6 p xs d b6 hh6 hp hd ho hdp hdc => ?_⟩
              have hD6 := b6 _ _ hDa hD
              have hwl := hbh.len
              refine ⟨ws, hD6, small1000 (by omega), ws ++ [.ref p], ds ++ [d], fun b' o nb eb => ?_, (hh6.le (by rw [Nat.mul_add]; omega)).put hDa, upd_same, BhAt.snoc (put_sqt hD6 hp) (hd.imp fun _ _ q => put_sqt hD6 q) ((hbh.imp fun _ _ q => b6.sq hh5 q).imp fun _ _ q => put_sqt hD6 q), by rw [List.length_append, hel]; rfl, fun e' he' => ?_⟩
              · rw [upd_ne (ne_of_none eb nD)]
                exact b6 _ _ nb (b5 _ _ nb eb)
              · rcases List.mem_append.mp he' with h | h
                · exact hes _ h
                · rw [List.mem_singleton.mp h]
                  exact ⟨ho, hdp, hdc⟩
            · rintro H5 ⟨ws, ds, b5, hh5, hD, hbh, hel, hes⟩
              have hel : ds.length = 2 := hel
              match ds, hel, hbh, hes with
              | [d1, d2], _, hbh, hes =>
              obtain ⟨w1, w2, rfl⟩ : ∃ w1 w2, ws = [w1, w2] := by
                have := hbh.len
                match ws, this with
                | [w1, w2], _ => exact ⟨w1, w2, rfl⟩
              obtain ⟨⟨p1, x1, rfl, q1, e1⟩, ⟨p2, x2, rfl, q2, e2⟩, _⟩ := hbh
              obtain ⟨k1, k2, k3⟩ := hes d1 (by simp)
              obtain ⟨m1, m2, m3⟩ := hes d2 (by simp)
              have hDa : D ≠ a := hh2.ne nD
              have hg5 := b5 _ _ hga hg2
              have hh5 : HandAt H5 a (n + 17 + dB l' * 2) := hh5
              refine ⟨.ref g, rfl, .inl ⟨rfl, _, SqL.of hg5⟩, .ref a, rfl, a, 4, _, rfl, by decide, by decide, hh5, by omega, fun H6 r b6 hh6 r0 r1 => ⟨.ref a, rfl, a, _, rfl, hh6, by omega, fun H7 x b7 hh7 x0 x1' => ?_⟩⟩
              have b57 := b6.trans b7
              have hD7 := b57 _ _ hDa hD
              refine ⟨.ref D, rfl, D, _, 0, _, rfl, rfl, SqL.of hD7, rfl, .ref D, rfl, D, _, 1, _, rfl, rfl, SqL.of hD7, rfl, (by show 5 ≤ sizeLine; decide), fun t nt => ?_⟩
              obtain ⟨r, rfl⟩ : ∃ r' : Nat, r = (r' : Int) := ⟨r.toNat, by omega⟩
              have smt := same_new (o := .tup [.str "when", .int (r : Int), .int x, .ref p1, .ref p2]) nt
              have htt : (upd H7 t (.tup [.str "when", .int (r : Int), .int x, .ref p1, .ref p2])) t = some (.tup [.str "when", .int (r : Int), .int x, .ref p1, .ref p2]) := upd_same
              have hht := hh7.new (o := .tup [.str "when", .int (r : Int), .int x, .ref p1, .ref p2]) nt
              have sq : ∀ p xs, SqT K H5 p xs → SqT K (upd H7 t (.tup [.str "when", .int (r : Int), .int x, .ref p1, .ref p2])) p xs := fun _ _ h => same_sqt smt (b7.sq hh6 (b6.sq hh5 h))
              have sq1 : ∀ p xs, SqT K H1 p xs → SqT K (upd H7 t (.tup [.str "when", .int (r : Int), .int x, .ref p1, .ref p2])) p xs := fun _ _ h => sq _ _ (b5.sq hh2 (b2.sq hh1 h))
              have hgt := smt _ _ (b57 _ _ hga hg5)
              have bt := ((b1.trans b2).trans (b5.trans b57)).trans (But.of smt)
              have new : DsAt K (upd H7 t (.tup [.str "when", .int (r : Int), .int x, .ref p1, .ref p2])) (.when r x d1 d2 .nil) [.ref t] := ⟨t, p1, p2, x1, x2, [], rfl, SqT.of htt, sq _ _ q1, e1.imp sq, sq _ _ q2, e2.imp sq, rfl⟩
              have hdt := DsAt.app (hd1.imp sq1) new
              clear new sq sq1 smt htt
              generalize upd H7 t (.tup [.str "when", .int (r : Int), .int x, .ref p1, .ref p2]) = Ht at hht hgt bt hdt
              refine ⟨g, us, _, rfl, rfl, hgt, small1000 (by omega), _, _, _, _, us ++ [.ref t], d.app (.when r x d1 d2 .nil), rfl, fun b' o nb eb => ?_, (hht.put hga).le (by omega), upd_same, hdt.imp fun _ _ q => put_sqt hgt q, ho1.app ⟨by omega, ⟨x0, x1'⟩, k1, m1, trivial⟩, ?_, ?_⟩
              · rw [upd_ne (ne_of_none eb ng)]
                exact bt _ _ nb eb
              · rw [Ds.dep_app]
                show max d.dep (max (max d1.dep d2.dep + 1) 0) ≤ l' + 1 + 1
                omega
              · rw [Ds.cnt_app]
                show d.cnt + (1 + (d1.cnt + d2.cnt) + 0) ≤ _
                omega
          · exact ⟨_, _, _, _, us, d, rfl, b1.trans b2, hh2.le (by omega), b2 _ _ hga hg1, hd1.imp fun _ _ q => b2.sq hh1 q, ho1, by omega, by omega⟩
        · exact ⟨_, _, _, _, us, d, rfl, b1, hh1.le (by omega), hg1, hd1, ho1, by omega, by omega⟩
      · rintro σ H2 ⟨y4, y5, y6, y7, us, d, rfl, b2, hh2, hg2, hd2, ho2, hdp2, hdc2⟩
        refine ⟨.ref g, rfl, .inl ⟨g, us, rfl, SqL.of hg2, fun t nt => ?_⟩⟩
        exact q _ t us d (b2.trans (But.new nt)) (hh2.new nt) (SqT.of upd_same) (hd2.same (same_new nt)) ho2 hdp2 hdc2
theorem ok_doubter {f : Addr} {fd : FuncData} (F : Fun K "_law_doubter" "_law_doubter" s_L_doubter f fd) (gF : mg "_law_doubter" = some (.ref f)) (b : Binds K fd ["_law_hand_here", "_law_many", "_law_level", "_law_jumps"] []) (B : Bl mg) (c_L_take : Cal P w K mg base 1 "_law_take" spTake) (c_L_of : Cal P w K mg base 2 "_law_of" (spOf K)) (c_L_registers : Cal P w K mg base 4 "_law_registers" (spRegs K)) {m : Nat} (c_L_stake : Cal P w K mg base (m + 5) "_law_stake" (spStakeB K m)) (c_L_deeds : Cal P w K mg base 6 "_law_deeds" (spDeeds K 2)) : Cal P w K mg base (m + 7) "_law_doubter" (spDoubterB K m) := by
  refine ⟨f, fd, _, F.ok sc_L_doubter (fun vs H Q E h => ?_) (fun cdv A outer s H vs Q E hr h => ?_), gF, F.kp, b⟩
  · obtain ⟨_, _, _, _, _, rfl, _⟩ := h
    rfl
  · obtain ⟨a, many, l, n, j, rfl, hj, hl, hl5, hm1, hm2, hh, hn, q⟩ := h
    refine ⟨_, (pss_cons (ps_par (i := 4) (j := 5) rfl sc_L_doubter.nd rfl rfl (by decide) rfl rfl (pa_cons (pe_c c_L_of hr (by omega) (by rfl) (pa_cons (pv 0) (pa_cons (pe_lst (pa_cons pe_str (pa_cons pe_str (pa_cons pe_str (pa_cons pe_str pa_nil))))) pa_nil))) (pa_cons (pe_c c_L_take hr (by omega) (by rfl) (pa_cons (pv 0) (pa_cons pe_int pa_nil))) pa_nil)) (by rfl)) (pss_cons (ps_set (i := 6) sc_L_doubter.nd rfl (.inl rfl) (pe_tupleOf (by rfl) B.tuple (pe_lc (own := [("_law_mark", 7)]) rfl sc_L_doubter.nd (pi_range1 rfl B.range (pa_cons (pv 1) pa_nil)) (blkOk_by (N := N_L_doubter) (sc := defScope s_L_doubter) (by decide +kernel)) (fun _ _ _ _ _ => pg_name (i := 7) sc_L_doubter.nd rfl (.inl rfl)) (fun _ _ _ _ _ => pts_nil) (fun _ _ _ _ _ => pe_c c_L_stake hr (by omega) (by rfl) (pa_cons (pv 0) (pa_cons (pv 1) (pa_cons (pv 2) (pa_cons (pv 3) pa_nil)))))))) (pss_cons (ps_set (i := 8) sc_L_doubter.nd rfl (.inl rfl) (pe_tupleOf (by rfl) B.tuple (pe_lc (own := [("_law_mark", 7)]) rfl sc_L_doubter.nd (pi_range1 rfl B.range (pa_cons (pv 1) pa_nil)) (blkOk_by (N := N_L_doubter) (sc := defScope s_L_doubter) (by decide +kernel)) (fun _ _ _ _ _ => pg_name (i := 7) sc_L_doubter.nd rfl (.inl rfl)) (fun _ _ _ _ _ => pts_nil) (fun _ _ _ _ _ => pe_c c_L_deeds hr (by omega) (by rfl) (pa_cons (pv 0) (pa_cons (pv 1) (pa_cons pe_int pa_nil))))))) (pss_one (ps_ret (pe_tup (pa_cons (pv 4) (pa_cons (pv 5) (pa_cons (pe_c c_L_registers hr (by omega) (by rfl) (pa_cons (pv 0) pa_nil)) (pa_cons (pv 6) (pa_cons (pv 8) pa_nil))))))))))), ?_⟩
    have hcl : cost l ≤ 900 := by
      have : l = 0 ∨ l = 1 ∨ l = 2 ∨ l = 3 ∨ l = 4 ∨ l = 5 := by omega
      rcases this with rfl | rfl | rfl | rfl | rfl | rfl <;> decide
    refine ⟨.ref a, rfl, (by show 4 ≤ sizeLine; decide), fun p1 n1 => ?_⟩
    have ne1 := hh.ne n1
    refine ⟨a, p1, _, n, rfl, ne1.symm, upd_same, (by show 0 < 4; decide), (by show 4 ≤ 1000; decide), hh.new n1, by omega, fun H1 nv b1 hh1 hv => ?_⟩
    have key : ∃ x : Str, nv = .str x ∧ (x = "a" ∨ x = "doubter" ∨ x = "sceptics" ∨ x = "zz") := by
      have hv : nv ∈ ([.str "a", .str "doubter", .str "sceptics", .str "zz"] : List V) := hv
      simp only [List.mem_cons, List.not_mem_nil, or_false] at hv
      rcases hv with rfl | rfl | rfl | rfl
      all_goals exact ⟨_, rfl, by simp⟩
    obtain ⟨nm, rfl, hnm⟩ := key
    refine ⟨.ref a, rfl, a, 5, _, rfl, by decide, by decide, hh1, by omega, fun H2 sc b2 hh2 s0 s1 => ⟨_, _, rfl, ?_⟩⟩
    obtain ⟨sc, rfl⟩ : ∃ r' : Nat, sc = (r' : Int) := ⟨sc.toNat, by omega⟩
    have b02 : But a H H2 := ((But.new n1).trans b1).trans b2
    refine ⟨.int (many : Int), rfl, _, rfl, by omega, by omega, fun D nD => lc_range (n := ((many : Int)).toNat) (fun i H' => ∃ us es, But a H2 H' ∧ HandAt H' a (n + 2 + (cost l + 3) * i) ∧ H' D = some (.lst us) ∧ RowsAt K H' us es ∧ es.length = i ∧ ∀ e ∈ es, (ExOk many e ∧ e.dep ≤ l + 3) ∧ StOk many l e) ⟨[], [], But.new nD, hh2.new nD, upd_same, trivial, rfl, fun x h => by cases h⟩ ?_ ?_⟩
    · rintro i H5 hi ⟨us, es, b5, hh5, hD, hrow, hel, hes⟩
      have hi : i < 3 := by omega
      have hDa : D ≠ a := hh2.ne nD
      have hib : (cost l + 3) * i ≤ 903 * 2 := Nat.mul_le_mul (by omega) (by omega)
      refine ⟨rfl, tYes_in ?_⟩
      refine ⟨.ref a, rfl, .int (many : Int), rfl, .int (l : Int), rfl, .bl j, rfl, a, many, l, _, j, rfl, hj, hl, hm1, by omega, hh5, by omega, fun H6 v e b6 hh6 he ho hd hst => ?_⟩
      have hD6 := b6 _ _ hDa hD
      have hwl := hrow.len
      refine ⟨us, hD6, small1000 (by omega), us ++ [v], es ++ [e], fun b' o nb eb => ?_, (hh6.le (by rw [Nat.mul_add]; omega)).put hDa, upd_same, RowsAt.snoc (he.imp fun _ _ q => put_sqt hD6 q) ((hrow.imp fun _ _ q => b6.sq hh5 q).imp fun _ _ q => put_sqt hD6 q), by rw [List.length_append, hel]; rfl, fun e' he' => ?_⟩
      · rw [upd_ne (ne_of_none eb nD)]
        exact b6 _ _ nb (b5 _ _ nb eb)
      · rcases List.mem_append.mp he' with h | h
        · exact hes _ h
        · rw [List.mem_singleton.mp h]
          exact ⟨⟨ho, hd⟩, hst⟩
    · rintro H5 ⟨us, es, b5, hh5, hD, hrow, hel, hes⟩
      have hel : es.length = many := by omega
      have hib : (cost l + 3) * ((many : Int)).toNat ≤ (cost l + 3) * 3 := Nat.mul_le_mul_left _ (by omega)
      have hh5 : HandAt H5 a (n + 11 + 3 * cost l) := hh5.le (by omega)
      refine .inl ⟨D, us, rfl, SqL.of hD, fun T nT => ?_⟩
      have smT := same_new (o := .tup us) nT
      have hT : (upd H5 T (.tup us)) T = some (.tup us) := upd_same
      have hhT := hh5.new (o := .tup us) nT
      have hrT := hrow.same smT
      have bT := (b02.trans b5).trans (But.of smT)
      clear smT
      generalize upd H5 T (.tup us) = H6 at hT hhT hrT bT
      refine ⟨.int (many : Int), rfl, _, rfl, by omega, by omega, fun D2 nD2 => lc_range (n := ((many : Int)).toNat) (fun i H' => ∃ ws ds, But a H6 H' ∧ HandAt H' a (n + 11 + 3 * cost l + 70 * i) ∧ H' D2 = some (.lst ws) ∧ BhAt K H' ws ds ∧ ds.length = i ∧ ∀ d ∈ ds, DsOk many d ∧ d.dep ≤ 2 ∧ d.cnt ≤ 10) ⟨[], [], But.new nD2, hhT.new nD2, upd_same, trivial, rfl, fun x h => by cases h⟩ ?_ ?_⟩
      · rintro i H7 hi ⟨ws, ds, b7, hh7, hD7, hbh, hdl, hds⟩
        have hi : i < 3 := by omega
        have hDa : D2 ≠ a := hhT.ne nD2
        refine ⟨rfl, tYes_in ?_⟩
        refine ⟨.ref a, rfl, .int (many : Int), rfl, a, many, 1, _, rfl, by decide, by decide, hm1, by omega, hh7, (by show _ + 70 ≤ _; omega), fun H8 p xs d b8 hh8 hp hd ho hdp hdc => ?_⟩
        have hD8 := b8 _ _ hDa hD7
        have hwl := hbh.len
        refine ⟨ws, hD8, small1000 (by omega), ws ++ [.ref p], ds ++ [d], fun b' o nb eb => ?_, (hh8.le (by show _ + 70 ≤ _; omega)).put hDa, upd_same, BhAt.snoc (put_sqt hD8 hp) (hd.imp fun _ _ q => put_sqt hD8 q) ((hbh.imp fun _ _ q => b8.sq hh7 q).imp fun _ _ q => put_sqt hD8 q), by rw [List.length_append, hdl]; rfl, fun e' he' => ?_⟩
        · rw [upd_ne (ne_of_none eb nD2)]
          exact b8 _ _ nb (b7 _ _ nb eb)
        · rcases List.mem_append.mp he' with h | h
          · exact hds _ h
          · rw [List.mem_singleton.mp h]
            exact ⟨ho, hdp, hdc⟩
      · rintro H7 ⟨ws, ds, b7, hh7, hD7, hbh, hdl, hds⟩
        have hdl : ds.length = many := by omega
        have hh7 : HandAt H7 a (n + 221 + 3 * cost l) := hh7.le (by omega)
        refine .inl ⟨D2, ws, rfl, SqL.of hD7, fun T2 nT2 => ?_⟩
        have smT2 := same_new (o := .tup ws) nT2
        have hT2 : (upd H7 T2 (.tup ws)) T2 = some (.tup ws) := upd_same
        have hhT2 := hh7.new (o := .tup ws) nT2
        have hbT2 := hbh.same smT2
        have bT2 := b7.trans (But.of smT2)
        clear smT2
        generalize upd H7 T2 (.tup ws) = H8 at hT2 hhT2 hbT2 bT2
        refine ⟨_, rfl, _, rfl, .ref a, rfl, a, _, rfl, hhT2, by omega, fun H9 v rs b9 hh9 hR => ⟨.ref T, rfl, .ref T2, rfl, (by show 5 ≤ sizeLine; decide), fun t nt => ?_⟩⟩
        have s10 := same_new (o := .tup [.str nm, .int (sc : Int), v, .ref T, .ref T2]) nt
        have sq69 : ∀ p xs, SqT K H6 p xs → SqT K (upd H9 t (.tup [.str nm, .int (sc : Int), v, .ref T, .ref T2])) p xs := fun _ _ h => same_sqt s10 (b9.sq hhT2 (bT2.sq hhT h))
        have sq89 : ∀ p xs, SqT K H8 p xs → SqT K (upd H9 t (.tup [.str nm, .int (sc : Int), v, .ref T, .ref T2])) p xs := fun _ _ h => same_sqt s10 (b9.sq hhT2 h)
        refine q _ _ ⟨nm, sc, rs, es, ds⟩ (((bT.trans bT2).trans b9).trans (But.of s10)) ((hh9.new nt).le (by omega)) ⟨t, v, T, T2, us, ws, rfl, SqT.of upd_same, hR.same s10, sq69 _ _ (SqT.of hT), hrT.imp sq69, sq89 _ _ (SqT.of hT2), hbT2.imp sq89⟩ ⟨hnm, by show sc < 5; omega, hR.ok, hel, fun e he => (hes e he).1, hdl, hds⟩ fun e he => (hes e he).2
end
end NG

namespace NG
open PySem PySem.Spec PyProof.Rows L2
section
variable {P : Program} {w : World} {K : PySem.W.Frag} {mg : Str → Option Value} {base : Heap}
theorem ok_mills {f : Addr} {fd : FuncData} (F : Fun K "mills" "mills" s_mills f fd) (gF : mg "mills" = some (.ref f)) (b : Binds K fd ["shares", "sign"] []) (B : Bl mg) : Cal P w K mg base 1 "mills" (spMills K) := by
  refine ⟨f, fd, _, F.ok sc_mills (fun vs H Q E h => ?_) (fun cdv A outer s H vs Q E hr h => ?_), gF, F.kp, b⟩
  · obtain ⟨_, _, _, _, rfl, _⟩ := h
    rfl
  · obtain ⟨_, many, j, ss, rfl, ⟨p, rfl, hs, hl, hb, h0, h1⟩, hj, q⟩ := h
    refine ⟨_, (pss_one (ps_ret (pe_op op_fdivW (pe_op op_mul pe_int (pe_ix ix_tup (pv 0) (pv 1) (fun _ _ => rfl))) (pe_callB (cr_sumT rfl) (by rfl) B.sum (by decide +kernel) (pa_cons (pv 0) pa_nil))))), ?_⟩
    refine ⟨.ref p, rfl, .int (j : Int), rfl, p, _, _, _, rfl, rfl, hs, at_nth (by omega), 1000, _, rfl, rfl, .inl ⟨by decide, by decide⟩, .ref p, rfl, p, ss, rfl, hs, _, _, rfl, rfl, wide_div (b := 200) h0 (by omega) (by decide) (by decide), q⟩
end
end NG

namespace NG
open PySem PySem.Spec PyProof.Rows L2
/-! ### deeds one behind the other -/
def Ds.tl : Ds → Ds
  | .nil => .nil
  | .op _ _ _ r => r
  | .when _ _ _ _ r => r
def Ds.drop : Nat → Ds → Ds
  | 0, d => d
  | n + 1, d => (d.drop n).tl
theorem DsAt.tl {K : PySem.W.Frag} {H : Hp} : ∀ {d : Ds} {vs : List V}, DsAt K H d vs → DsAt K H d.tl (vs.drop 1)
  | .nil, _, e => by subst e; rfl
  | .op _ _ _ _, _, ⟨p, us, e, q, r⟩ => by subst e; exact r
  | .when _ _ _ _ _, _, ⟨p, pa, pb, xa, xb, us, e, q, qa, a, qb, b, r⟩ => by subst e; exact r
theorem DsAt.drop {K : PySem.W.Frag} {H : Hp} {d : Ds} {vs : List V} (h : DsAt K H d vs) : ∀ n, DsAt K H (d.drop n) (vs.drop n)
  | 0 => h
  | n + 1 => by
    have := (DsAt.drop h n).tl
    rw [List.drop_drop] at this
    exact this
theorem DsOk.tl {many : Nat} : ∀ {d : Ds}, DsOk many d → DsOk many d.tl
  | .nil, h => h
  | .op _ _ _ _, h => h.2.2
  | .when _ _ _ _ _, h => h.2.2.2.2
theorem DsOk.drop {many : Nat} {d : Ds} (h : DsOk many d) : ∀ n, DsOk many (d.drop n)
  | 0 => h
  | n + 1 => (DsOk.drop h n).tl
theorem Ds.dep_tl : ∀ d : Ds, d.tl.dep ≤ d.dep
  | .nil => Nat.le_refl _
  | .op _ _ _ r => by show r.dep ≤ max 1 r.dep; omega
  | .when _ _ a b r => by show r.dep ≤ max (max a.dep b.dep + 1) r.dep; omega
theorem Ds.dep_drop (d : Ds) : ∀ n, (d.drop n).dep ≤ d.dep
  | 0 => Nat.le_refl _
  | n + 1 => Nat.le_trans (Ds.dep_tl _) (Ds.dep_drop d n)
theorem ap_end {ss : List Int} {K : PySem.W.Frag} {H : Hp} {d : Ds} {vs : List V} (h : DsAt K H d vs) (rs : List Int) : ap ss (d.drop vs.length) rs = rs := by
  have := h.drop vs.length
  rw [List.drop_length] at this
  cases e : d.drop vs.length with
  | nil => rfl
  | op w i x r =>
    rw [e] at this
    obtain ⟨_, _, z, _⟩ := this
    cases z
  | when i c a b r =>
    rw [e] at this
    obtain ⟨_, _, _, _, _, _, z, _⟩ := this
    cases z
theorem set_int {rs : List Int} {i : Nat} {h : Int} (hi : i < rs.length) : (rs.map V.int).take i ++ [V.int h] ++ (rs.map V.int).drop (i + 1) = (rs.set i h).map V.int := by
  rw [List.map_set, List.set_eq_take_append_cons_drop, if_pos (by rw [List.length_map]; exact hi), List.append_assoc]
  rfl
theorem cutT {ws : List V} {i : Nat} (h : i ≤ ws.length) : cutV ws none (some (i : Int)) = ws.take i := by
  unfold cutV
  rw [HT.sIx_none, show HT.sIx ws.length ws.length (some (i : Int)) = min i ws.length from HT.sIx_nat _ _ _, List.drop_zero, Nat.sub_zero, Nat.min_eq_left h]
theorem cutF {ws : List V} {i : Nat} (h : i ≤ ws.length) : cutV ws (some (i : Int)) none = ws.drop i := by
  unfold cutV
  rw [HT.sIx_none, show HT.sIx ws.length 0 (some (i : Int)) = min i ws.length from HT.sIx_nat _ _ _, Nat.min_eq_left h]
  exact List.take_of_length_le (by rw [List.length_drop]; omega)
def spHeld (K : PySem.W.Frag) : Sp := fun vs H Q _ => ∃ (p : Addr) (r s : V) (o : D5) (i many : Nat) (x : Int) (rs ss : List Int), vs = [.ref p, r, s] ∧ SqT K H p [.str (dn o), .int (i : Int), .int x] ∧ i < 4 ∧ xok many o x ∧ RegsAt K H rs r ∧ ShAt K H many ss s ∧ Q (.int (hb ss o i x rs)) H
def spWithHeld (K : PySem.W.Frag) : Sp := fun vs H Q _ => ∃ (r : V) (i : Nat) (n : Int) (rs : List Int), vs = [r, .int (i : Int), .int n] ∧ i < 4 ∧ RegsAt K H rs r ∧ ∀ H' v, Same H H' → RegsAt K H' (rs.set i (cl n)) v → Q v H'
def spLedD (K : PySem.W.Frag) : Sp := fun vs H Q _ => ∃ (p : Addr) (r x y : V) (i : Nat) (c : Int) (rs : List Int), vs = [.ref p, r] ∧ SqT K H p [.str "when", .int (i : Int), .int c, x, y] ∧ i < 4 ∧ RegsAt K H rs r ∧ Q (if rs.getD i 0 < c then x else y) H
def spDo (K : PySem.W.Frag) (n : Nat) : Sp := fun vs H Q _ => ∃ (p : Addr) (r s : V) (xs : List V) (d : Ds) (many : Nat) (rs ss : List Int), vs = [.ref p, r, s] ∧ SqT K H p xs ∧ DsAt K H d xs ∧ DsOk many d ∧ d.dep < n ∧ RegsAt K H rs r ∧ ShAt K H many ss s ∧ ∀ H' v, Same H H' → RegsAt K H' (ap ss d rs) v → Q v H'
def spBehind (K : PySem.W.Frag) (n : Nat) : Sp := fun vs H Q _ => ∃ (dv r s : V) (j many : Nat) (D : Dbt) (d : Ds) (rs ss : List Int), vs = [dv, r, s, .int (j : Int)] ∧ DbAt K H D dv ∧ D.behinds[j]? = some d ∧ DsOk many d ∧ d.dep < n ∧ RegsAt K H rs r ∧ ShAt K H many ss s ∧ ∀ H' v, Same H H' → RegsAt K H' (ap ss d rs) v → Q v H'
section
variable {P : Program} {w : World} {K : PySem.W.Frag} {mg : Str → Option Value} {base : Heap}
theorem ok_held {f : Addr} {fd : FuncData} (F : Fun K "held_by" "held_by" s_held_by f fd) (gF : mg "held_by" = some (.ref f)) (b : Binds K fd ["deed", "registers", "shares"] []) (B : Bl mg) (c_mills : Cal P w K mg base 1 "mills" (spMills K)) : Cal P w K mg base 2 "held_by" (spHeld K) := by
  refine ⟨f, fd, _, F.ok sc_held_by (fun vs H Q E h => ?_) (fun cdv A outer s H vs Q E hr h => ?_), gF, F.kp, b⟩
  · obtain ⟨_, _, _, _, _, _, _, _, _, rfl, _⟩ := h
    rfl
  · obtain ⟨p, _, sv, o, i, many, x, rs, ss, rfl, hp, hi, hx, ⟨r, rfl, hr', hl, hb'⟩, hs, q⟩ := h
    refine ⟨_, (pss_cons (ps_asg (pv 0) (pg_tup rfl (pgs_cons (pg_name (i := 3) sc_held_by.nd rfl (.inl rfl)) (pgs_cons (pg_name (i := 4) sc_held_by.nd rfl (.inl rfl)) (pgs_cons (pg_name (i := 5) sc_held_by.nd rfl (.inl rfl)) pgs_nil))))) (pss_cons (ps_if (pt_cmpR op_eq (pv 3) pe_str (nomark _)) (pss_one (ps_ret (pv 5))) pss_nil) (pss_cons (ps_if (pt_cmpR op_eq (pv 3) pe_str (nomark _)) (pss_one (ps_ret (pe_op op_add (pe_ix ix_tup (pv 1) (pv 4) (fun _ _ => rfl)) (pv 5)))) pss_nil) (pss_cons (ps_if (pt_cmpR op_eq (pv 3) pe_str (nomark _)) (pss_one (ps_ret (pe_ix ix_tup (pv 1) (pv 5) (fun _ _ => rfl)))) pss_nil) (pss_cons (ps_if (pt_cmpR op_eq (pv 3) pe_str (nomark _)) (pss_one (ps_ret (pe_op op_add (pe_ix ix_tup (pv 1) (pv 4) (fun _ _ => rfl)) (pe_ix ix_tup (pv 1) (pv 5) (fun _ _ => rfl))))) pss_nil) (pss_one (ps_ret (pe_c c_mills hr (by omega) (by rfl) (pa_cons (pv 2) (pa_cons (pv 5) pa_nil)))))))))), ?_⟩
    refine ⟨.ref p, rfl, p, _, rfl, hp, rfl, _, _, rfl, _, _, rfl, _, _, rfl, rfl, ?_⟩
    cases o with
    | put => exact ⟨_, rfl, rfl, _, rfl, iteTT (by decide) ⟨_, rfl, q⟩⟩
    | add =>
      refine ⟨_, rfl, rfl, _, rfl, iteFF (by decide) ⟨_, rfl, rfl, _, rfl, iteTT (by decide) ?_⟩⟩
      exact ⟨.ref r, rfl, .int (i : Int), rfl, r, _, _, _, rfl, rfl, hr', at_nth (by omega), .int x, rfl, _, _, rfl, rfl, q⟩
    | copy =>
      refine ⟨_, rfl, rfl, _, rfl, iteFF (by decide) ⟨_, rfl, rfl, _, rfl, iteFF (by decide) ⟨_, rfl, rfl, _, rfl, iteTT (by decide) ?_⟩⟩⟩
      exact ⟨.ref r, rfl, .int x, rfl, r, _, _, _, rfl, rfl, hr', at_int hx.1 (by have := hx.2; omega), q⟩
    | plus =>
      refine ⟨_, rfl, rfl, _, rfl, iteFF (by decide) ⟨_, rfl, rfl, _, rfl, iteFF (by decide) ⟨_, rfl, rfl, _, rfl, iteFF (by decide) ⟨_, rfl, rfl, _, rfl, iteTT (by decide) ?_⟩⟩⟩⟩
      exact ⟨.ref r, rfl, .int (i : Int), rfl, r, _, _, _, rfl, rfl, hr', at_nth (by omega), .ref r, rfl, .int x, rfl, r, _, _, _, rfl, rfl, hr', at_int hx.1 (by have := hx.2; omega), _, _, rfl, rfl, q⟩
    | told =>
      refine ⟨_, rfl, rfl, _, rfl, iteFF (by decide) ⟨_, rfl, rfl, _, rfl, iteFF (by decide) ⟨_, rfl, rfl, _, rfl, iteFF (by decide) ⟨_, rfl, rfl, _, rfl, iteFF (by decide) ?_⟩⟩⟩⟩
      obtain ⟨k, rfl⟩ : ∃ k : Nat, x = (k : Int) := ⟨x.toNat, by have := hx.1; omega⟩
      exact ⟨sv, rfl, .int (k : Int), rfl, sv, many, k, ss, rfl, hs, by have := hx.2; omega, q⟩
theorem ok_withheld {f : Addr} {fd : FuncData} (F : Fun K "with_held" "with_held" s_with_held f fd) (gF : mg "with_held" = some (.ref f)) (b : Binds K fd ["registers", "place", "number"] []) (B : Bl mg) {t1 t2 : Tok} (mg_LEAST_HELD : mg "LEAST_HELD" = some (.int (-1000) t1)) (mg_MOST_HELD : mg "MOST_HELD" = some (.int 1000 t2)) : Cal P w K mg base 1 "with_held" (spWithHeld K) := by
  refine ⟨f, fd, _, F.ok sc_with_held (fun vs H Q E h => ?_) (fun cdv A outer s H vs Q E hr h => ?_), gF, F.kp, b⟩
  · obtain ⟨_, _, _, _, rfl, _⟩ := h
    rfl
  · obtain ⟨_, i, n, rs, rfl, hi, ⟨r, rfl, hr', hl, hb'⟩, q⟩ := h
    refine ⟨_, (pss_cons (ps_set (i := 3) sc_with_held.nd rfl (.inl rfl) (pe_callB (call_max2 rfl) (by rfl) B.max (by decide +kernel) (pa_cons (pe_glob (v := .int (-1000)) (by rfl) mg_LEAST_HELD ⟨_, rfl⟩) (pa_cons (pe_callB (call_min2 rfl) (by rfl) B.min (by decide +kernel) (pa_cons (pe_glob (v := .int (1000)) (by rfl) mg_MOST_HELD ⟨_, rfl⟩) (pa_cons (pv 2) pa_nil))) pa_nil)))) (pss_one (ps_ret (pe_op op_catA (pe_op op_catA (pe_slice sl_tupA (pv 0) po_none (po_some (pv 1))) (pe_tup (pa_cons (pv 3) pa_nil))) (pe_slice sl_tupA (pv 0) (po_some (pe_op op_add (pv 1) pe_int)) po_none))))), ?_⟩
    have hwl : (rs.map V.int).length = 4 := by rw [List.length_map]; exact hl
    refine ⟨.int n, rfl, 1000, n, rfl, -1000, _, rfl, ?_⟩
    refine ⟨.ref r, rfl, .int (i : Int), rfl, (i : Int), rfl, slA hr' fun H6 p6 sm6 hp6 => ?_⟩
    rw [cutT (by omega)] at hp6
    refine ⟨.int (cl n), rfl, (by show 1 ≤ sizeLine; decide), fun t7 n7 => ?_⟩
    have s7 := same_new (o := .tup [.int (cl n)]) n7
    refine catA (same_sqt s7 hp6) (SqT.of upd_same) (Nat.le_of_lt (small1000 (by rw [List.length_take]; show _ + 1 ≤ 1000; omega))) fun H8 p8 sm8 hp8 => ?_
    have sm58 := (sm6.trans s7).trans sm8
    refine ⟨.ref r, rfl, .int (i : Int), rfl, _, _, rfl, rfl, _, rfl, ?_⟩
    refine slA (K := K) (lo := some ((i : Int) + 1)) (hi := none) (Q := fun y H2 => rCatA K (.ref p8) y H2 Q) (same_sqt sm58 hr') fun H9 p9 sm9 hp9 => ?_
    rw [show (i : Int) + 1 = ((i + 1 : Nat) : Int) by omega, cutF (by omega)] at hp9
    refine catA (same_sqt sm9 hp8) hp9 (Nat.le_of_lt (small1000 (by rw [List.length_append, List.length_take, List.length_drop]; show _ + 1 + _ ≤ 1000; omega))) fun H10 p10 sm10 hp10 => ?_
    rw [set_int (by omega)] at hp10
    have ok := RegOk.set ⟨hl, hb'⟩ i n
    exact q _ _ ((sm58.trans sm9).trans sm10) ⟨p10, rfl, hp10, ok.1, ok.2⟩
theorem ok_leddeeds {f : Addr} {fd : FuncData} (F : Fun K "led_deeds" "led_deeds" s_led_deeds f fd) (gF : mg "led_deeds" = some (.ref f)) (b : Binds K fd ["deed", "registers"] []) (B : Bl mg) : Cal P w K mg base 1 "led_deeds" (spLedD K) := by
  refine ⟨f, fd, _, F.ok sc_led_deeds (fun vs H Q E h => ?_) (fun cdv A outer s H vs Q E hr h => ?_), gF, F.kp, b⟩
  · obtain ⟨_, _, _, _, _, _, _, rfl, _⟩ := h
    rfl
  · obtain ⟨p, _, x, y, i, c, rs, rfl, hp, hi, ⟨r, rfl, hr', hl, hb'⟩, q⟩ := h
    refine ⟨_, (pss_cons (ps_asg (pv 0) (pg_tup rfl (pgs_cons (pg_name (i := 2) sc_led_deeds.nd rfl (.inl rfl)) (pgs_cons (pg_name (i := 3) sc_led_deeds.nd rfl (.inl rfl)) (pgs_cons (pg_name (i := 4) sc_led_deeds.nd rfl (.inl rfl)) (pgs_cons (pg_name (i := 5) sc_led_deeds.nd rfl (.inl rfl)) (pgs_cons (pg_name (i := 6) sc_led_deeds.nd rfl (.inl rfl)) pgs_nil))))))) (pss_one (ps_ret (pe_ifExp (pt_cmpR op_lt (pe_ix ix_tup (pv 1) (pv 3) (fun _ _ => rfl)) (pv 4) (nomark _)) (pv 5) (pv 6))))), ?_⟩
    refine ⟨.ref p, rfl, p, _, rfl, hp, rfl, _, _, rfl, _, _, rfl, _, _, rfl, _, _, rfl, _, _, rfl, rfl, ?_⟩
    refine ⟨.ref r, rfl, .int (i : Int), rfl, r, _, _, _, rfl, rfl, hr', at_nth (by omega), .int c, rfl, _, _, rfl, rfl, _, rfl, iteD (fun h => ?_) (fun h => ?_)⟩
    · rw [if_pos h] at q
      exact ⟨x, rfl, q⟩
    · rw [if_neg h] at q
      exact ⟨y, rfl, q⟩
theorem ok_do {f : Addr} {fd : FuncData} (F : Fun K "do_deeds" "do_deeds" s_do_deeds f fd) (gF : mg "do_deeds" = some (.ref f)) (b : Binds K fd ["deeds", "registers", "shares"] []) (B : Bl mg) (c_held_by : Cal P w K mg base 2 "held_by" (spHeld K)) (c_with_held : Cal P w K mg base 1 "with_held" (spWithHeld K)) (c_led_deeds : Cal P w K mg base 1 "led_deeds" (spLedD K)) : ∀ n, Cal P w K mg base (n + 3) "do_deeds" (spDo K n) := by
  intro n
  induction n with
  | zero =>
    refine cal_never F gF b fun vs H Q E h => ?_
    obtain ⟨_, _, _, _, _, _, _, _, _, _, _, _, hd, _⟩ := h
    omega
  | succ n c_do_deeds =>
  refine ⟨f, fd, _, F.ok sc_do_deeds (fun vs H Q E h => ?_) (fun cdv A outer s H vs Q E hr h => ?_), gF, F.kp, b⟩
  · obtain ⟨_, _, _, _, _, _, _, _, rfl, _⟩ := h
    rfl
  · obtain ⟨p, r, sv, xs, d, many, rs, ss, rfl, hp, hd, ho, hdp, hR, hS, q⟩ := h
    refine ⟨_, (pss_cons (ps_for PassesOwn.never rfl (pi_tup (pv 0)) (pg_name (i := 3) sc_do_deeds.nd rfl (.inl rfl)) (pss_one (ps_if (pt_cmpR op_eq (pe_ix ix_tup (pv 3) pe_int (fun _ _ => rfl)) pe_str (nomark _)) (pss_one (ps_set (i := 1) sc_do_deeds.nd rfl (.inl rfl) (pe_c c_do_deeds hr (by omega) (by rfl) (pa_cons (pe_c c_led_deeds hr (by omega) (by rfl) (pa_cons (pv 3) (pa_cons (pv 1) pa_nil))) (pa_cons (pv 1) (pa_cons (pv 2) pa_nil)))))) (pss_one (ps_set (i := 1) sc_do_deeds.nd rfl (.inl rfl) (pe_c c_with_held hr (by omega) (by rfl) (pa_cons (pv 1) (pa_cons (pe_ix ix_tup (pv 3) pe_int (fun _ _ => rfl)) (pa_cons (pe_c c_held_by hr (by omega) (by rfl) (pa_cons (pv 3) (pa_cons (pv 1) (pa_cons (pv 2) pa_nil)))) pa_nil))))))))) (pss_one (ps_ret (pv 1)))), ?_⟩
    refine ⟨.ref p, rfl, p, rfl, ⟨_, hp⟩, for_tup (xs := xs) (fun i σ H' => ∃ y3 v rs', σ = [some (.ref p), some v, some sv, y3] ∧ Same H H' ∧ RegsAt K H' rs' v ∧ ap ss (d.drop i) rs' = ap ss d rs) ⟨none, r, rs, rfl, Same.refl _, hR, rfl⟩ ?_ ?_ ?_⟩
    · rintro i σ H' _ ⟨_, _, _, _, sm, _⟩
      exact same_sqt sm hp
    · rintro i x σ H1 hx ⟨y3, v, rs', rfl, sm1, hR1, hap⟩
      have hil := (List.getElem?_eq_some_iff.mp hx).1
      have hdi := (hd.drop i).same sm1
      have hoi := ho.drop i
      have hpi := d.dep_drop i
      rw [List.drop_eq_getElem_cons hil] at hdi
      have ex : xs[i] = x := (List.getElem?_eq_some_iff.mp hx).2
      rw [ex] at hdi
      have etl : d.drop (i + 1) = (d.drop i).tl := rfl
      cases e : d.drop i with
      | nil =>
        rw [e] at hdi
        cases hdi
      | op o k z rest =>
        rw [e] at hdi hoi hap etl
        obtain ⟨pd, us, eq1, hq, _⟩ := hdi
        cases eq1
        obtain ⟨ok, oz, _⟩ := hoi
        have hne : decide (V.str (dn o) = V.str "when") = false := by cases o <;> decide
        refine ⟨.ref pd, rfl, pd, _, 0, _, rfl, rfl, hq, rfl, rfl, _, rfl, iteFF hne ?_⟩
        refine ⟨v, rfl, .ref pd, rfl, pd, _, 1, _, rfl, rfl, hq, rfl, .ref pd, rfl, v, rfl, sv, rfl, pd, v, sv, o, k, many, z, rs', ss, rfl, hq, ok, oz, hR1, hS.same sm1, ?_⟩
        refine ⟨v, k, _, rs', rfl, ok, hR1, fun H2 v2 sm2 hR2 => ?_⟩
        exact ⟨_, v2, _, rfl, sm1.trans sm2, hR2, by rw [etl]; exact hap⟩
      | when k c da db rest =>
        rw [e] at hdi hoi hap etl hpi
        obtain ⟨pd, pa, pb, xa, xb, us, eq1, hq, qa, ha, qb, hb', _⟩ := hdi
        cases eq1
        obtain ⟨ok, oc, oa, ob, _⟩ := hoi
        have hpi : max (max da.dep db.dep + 1) rest.dep ≤ d.dep := hpi
        refine ⟨.ref pd, rfl, pd, _, 0, _, rfl, rfl, hq, rfl, rfl, _, rfl, iteTT rfl ?_⟩
        refine ⟨.ref pd, rfl, v, rfl, pd, v, .ref pa, .ref pb, k, c, rs', rfl, hq, ok, hR1, ?_⟩
        have hap : ap ss rest (if rs'.getD k 0 < c then ap ss da rs' else ap ss db rs') = ap ss d rs := hap
        by_cases hc : rs'.getD k 0 < c
        · rw [if_pos hc]
          rw [if_pos hc] at hap
          refine ⟨v, rfl, sv, rfl, pa, v, sv, xa, da, many, rs', ss, rfl, qa, ha, oa, by omega, hR1, hS.same sm1, fun H2 v2 sm2 hR2 => ?_⟩
          exact ⟨_, v2, _, rfl, sm1.trans sm2, hR2, by rw [etl]; exact hap⟩
        · rw [if_neg hc]
          rw [if_neg hc] at hap
          refine ⟨v, rfl, sv, rfl, pb, v, sv, xb, db, many, rs', ss, rfl, qb, hb', ob, by omega, hR1, hS.same sm1, fun H2 v2 sm2 hR2 => ?_⟩
          exact ⟨_, v2, _, rfl, sm1.trans sm2, hR2, by rw [etl]; exact hap⟩
    · rintro σ H1 ⟨y3, v, rs', rfl, sm1, hR1, hap⟩
      rw [ap_end hd] at hap
      rw [hap] at hR1
      exact ⟨v, rfl, q _ v sm1 hR1⟩
theorem fn_behind {f : Addr} {fd : FuncData} (F : Fun K "behind" "behind" s_behind f fd) (B : Bl mg) {n : Nat} (c_do_deeds : Cal P w K mg base (n + 3) "do_deeds" (spDo K n)) : FnOk P w K mg base CX0 (n + 4) f fd ["doubter", "registers", "shares", "sign"] (spBehind K n) := by
  refine F.ok sc_behind (fun vs H Q E h => ?_) (fun cdv A outer s H vs Q E hr h => ?_)
  · obtain ⟨_, _, _, _, _, _, _, _, _, rfl, _⟩ := h
    rfl
  · obtain ⟨dv, r, sv, j, many, D, d, rs, ss, rfl, hD, hj, ho, hdp, hR, hS, q⟩ := h
    obtain ⟨p, vb, ps, pb, us, ws, rfl, hp, _, _, _, hpb, hbh⟩ := hD
    refine ⟨_, (pss_cons (ps_asg (pv 0) (pg_tup rfl (pgs_cons (pg_name (i := 4) sc_behind.nd rfl (.inl rfl)) (pgs_cons (pg_name (i := 5) sc_behind.nd rfl (.inl rfl)) (pgs_cons (pg_name (i := 6) sc_behind.nd rfl (.inl rfl)) (pgs_cons (pg_name (i := 7) sc_behind.nd rfl (.inl rfl)) (pgs_cons (pg_name (i := 8) sc_behind.nd rfl (.inl rfl)) pgs_nil))))))) (pss_one (ps_ret (pe_c c_do_deeds hr (by omega) (by rfl) (pa_cons (pe_ix ix_tup (pv 8) (pv 3) (fun _ _ => rfl)) (pa_cons (pv 1) (pa_cons (pv 2) pa_nil))))))), ?_⟩
    obtain ⟨pd, xs, hpd, hq, hds⟩ := hbh.get hj
    refine ⟨.ref p, rfl, p, _, rfl, hp, rfl, _, _, rfl, _, _, rfl, _, _, rfl, _, _, rfl, _, _, rfl, rfl, ?_⟩
    exact ⟨.ref pb, rfl, .int (j : Int), rfl, pb, _, _, _, rfl, rfl, hpb, atI_nat hpd, r, rfl, sv, rfl, pd, r, sv, xs, d, many, rs, ss, rfl, hq, hds, ho, hdp, hR, hS, q⟩
end
end NG

namespace NG
open PySem PySem.Spec PyProof.Rows L2
def spWorthS (K : PySem.W.Frag) (n : Nat) : Sp := fun vs H Q _ => ∃ (v r s : V) (e : Ex) (many : Nat) (rs ss : List Int), vs = [v, r, s] ∧ ExAt K H e v ∧ ExOk many e ∧ e.dep ≤ n ∧ RegsAt K H rs r ∧ ShAt K H many ss s ∧ ∀ H', Same H H' → Q (.int (wo rs ss e)) H'
theorem wide1000 {z x : Int} (h1 : -1000 ≤ z) (h2 : z ≤ 1000) : CMul x z := .inr ⟨by omega, by omega⟩
section
variable {P : Program} {w : World} {K : PySem.W.Frag} {mg : Str → Option Value} {base : Heap}
theorem ok_Lworth {f : Addr} {fd : FuncData} (F : Fun K "_law_worth" "_law_worth" s_L_worth f fd) (gF : mg "_law_worth" = some (.ref f)) (b : Binds K fd ["_law_expression_here", "_law_registers_here", "_law_lot"] []) (B : Bl mg) : ∀ n, Cal P w K mg base (n + 1) "_law_worth" (spWorthS K n) := by
  intro n
  induction n with
  | zero =>
    refine cal_never F gF b fun vs H Q E h => ?_
    obtain ⟨_, _, _, e, _, _, _, _, _, _, hd, _⟩ := h
    cases e <;> (unfold Ex.dep at hd; omega)
  | succ n c_L_worth =>
  refine ⟨f, fd, _, F.ok sc_L_worth (fun vs H Q E h => ?_) (fun cdv A outer s H vs Q E hr h => ?_), gF, F.kp, b⟩
  · obtain ⟨_, _, _, _, _, _, _, rfl, _⟩ := h
    rfl
  · obtain ⟨v, _, _, e, many, rs, ss, rfl, he, ho, hd, hR0, hS0, q⟩ := h
    refine ⟨_, (pss_cons (ps_par (i := 3) (j := 4) rfl sc_L_worth.nd rfl rfl (by decide) rfl rfl (pa_cons (pe_ix ix_tup (pv 0) pe_int (fun _ _ => rfl)) (pa_cons (pe_callB (cr_sumT rfl) (by rfl) B.sum (by decide +kernel) (pa_cons (pv 2) pa_nil)) pa_nil)) (by rfl)) (pss_cons (ps_if (pt_cmpR op_in_seq (pv 3) (pe_tup (pa_cons pe_str (pa_cons pe_str pa_nil))) (by rfl)) (pss_one (ps_ret (pe_op op_mul (pv 4) (pe_cut (pe_ifExp (pt_cmpR op_eq (pv 3) pe_str (nomark _)) (pe_ix ix_tup (pv 0) pe_int (fun _ _ => rfl)) (pe_ix ix_tup (pv 1) (pe_ix ix_tup (pv 0) pe_int (fun _ _ => rfl)) (fun _ _ => rfl))))))) pss_nil) (pss_cons (ps_if (pt_cmpR op_eq (pv 3) pe_str (nomark _)) (pss_one (ps_ret (pe_op op_mul pe_int (pe_ix ix_tup (pv 2) (pe_ix ix_tup (pv 0) pe_int (fun _ _ => rfl)) (fun _ _ => rfl))))) pss_nil) (pss_cons (ps_setLc (i := 5) (own := [("_law_part", 6)]) rfl sc_L_worth.nd rfl rfl (sw_true rfl rfl rfl (by decide +kernel)) (pi_tup (pv 0)) (blkOk_by (N := N_L_worth) (sc := defScope s_L_worth) (by decide +kernel)) (fun _ _ _ _ _ => pg_name (i := 6) sc_L_worth.nd rfl (.inl rfl)) (fun _ _ _ _ _ => pts_one (pt_val (pe_callB (isiK K) (by rfl) B.isinstance (by decide +kernel) (pa_cons (pv 6) (pa_cons (pe_bltn (v := .ty "tuple") (by rfl) B.tuple (by decide +kernel) rfl) pa_nil))))) (fun _ _ _ _ _ => pe_c c_L_worth hr (by omega) (by rfl) (pa_cons (pv 6) (pa_cons (pv 1) (pa_cons (pv 2) pa_nil))))) (pss_cons (ps_if (pt_cmpR op_in_seq (pv 3) (pe_tup (pa_cons pe_str (pa_cons pe_str pa_nil))) (by rfl)) (pss_one (ps_ret (pe_op op_mul (pe_ix ix_list (pv 5) pe_int (fun _ _ => rfl)) (pe_cut (pe_ifExp (pt_cmpR op_eq (pv 3) pe_str (nomark _)) (pe_ix ix_tup (pv 0) pe_int (fun _ _ => rfl)) (pe_ix ix_tup (pv 1) (pe_ix ix_tup (pv 0) pe_int (fun _ _ => rfl)) (fun _ _ => rfl))))))) pss_nil) (pss_cons (ps_if (pt_cmpR op_eq (pv 3) pe_str (nomark _)) (pss_one (ps_ret (pe_ix ix_list (pv 5) (pe_callTy call_int1 (by rfl) B.int (by decide +kernel) (pa_cons (pe_cmpR op_ge (pe_ix ix_tup (pv 1) (pe_ix ix_tup (pv 0) pe_int (fun _ _ => rfl)) (fun _ _ => rfl)) (pe_ix ix_tup (pv 0) pe_int (fun _ _ => rfl)) (nomark _)) pa_nil)) (fun _ _ => rfl)))) pss_nil) (pss_cons (ps_if (pt_cmpR op_eq (pv 3) pe_str (nomark _)) (pss_one (ps_ret (pe_ix ix_list (pv 5) (pe_callTy call_int1 (by rfl) B.int (by decide +kernel) (pa_cons (pe_cmpR op_ge (pe_op op_mul pe_int (pe_ix ix_tup (pv 2) (pe_ix ix_tup (pv 0) pe_int (fun _ _ => rfl)) (fun _ _ => rfl))) (pe_op op_mul (pe_ix ix_tup (pv 0) pe_int (fun _ _ => rfl)) (pv 4)) (nomark _)) pa_nil)) (fun _ _ => rfl)))) pss_nil) (pss_cons (ps_if (pt_cmpR op_in_seq (pv 3) (pe_tup (pa_cons pe_str (pa_cons pe_str pa_nil))) (by rfl)) (pss_one (ps_ret (pe_op op_add (pe_ix ix_list (pv 5) pe_int (fun _ _ => rfl)) (pe_op op_mul (pe_ix ix_list (pv 5) pe_int (fun _ _ => rfl)) (pe_cut (pe_ifExp (pt_cmpR op_eq (pv 3) pe_str (nomark _)) pe_int (pe_un un_neg pe_int))))))) pss_nil) (pss_one (ps_ret (pe_ix ix_list (pe_callB cr_sorted (by rfl) B.sorted (by decide +kernel) (pa_cons (pv 5) pa_nil)) (pe_callTy call_int1 (by rfl) B.int (by decide +kernel) (pa_cons (pe_cmpR op_eq (pv 3) pe_str (nomark _)) pa_nil)) (fun _ _ => rfl)))))))))))), ?_⟩
    have two_le : 2 ≤ sizeLine := by decide
    have hR := hR0
    have hS := hS0
    obtain ⟨r, rfl, hr1, hr2, hr3⟩ := hR
    obtain ⟨t, rfl, ht1, ht2, ht3, ht4, ht5⟩ := hS
    have rb : ∀ i, i < 4 → -1000 ≤ rs.getD i 0 ∧ rs.getD i 0 ≤ 1000 := fun i hi => hr3 _ (getD_mem (by omega))
    obtain ⟨p, xs, rfl, hp, hl0, hits⟩ := he.rst
    refine ⟨.ref p, rfl, p, _, 0, _, rfl, rfl, hp, at_of (j := 0) rfl rfl, .ref t, rfl, t, ss, rfl, ht1, _, _, rfl, ?_⟩
    refine ⟨_, rfl, two_le, fun t1 n1 => ⟨t1, _, rfl, .inr (SqT.of upd_same), rfl, rfl, _, rfl, ?_⟩⟩
    have sm1 := same_new (o := .tup [.str "fig", .str "reg"]) n1
    generalize upd H t1 (.tup [.str "fig", .str "reg"]) = H1 at sm1
    have hp1 := same_sqt sm1 hp
    by_cases hleaf : e.kids = []
    · cases e with
      | fig c =>
        obtain ⟨p', e', hpc⟩ := he
        cases e'
        have hpc := same_sqt sm1 hpc
        refine iteTT rfl ⟨.int ss.sum, rfl, fun v H' => v = .int c ∧ H' = H1, ⟨_, rfl, rfl, _, rfl, iteTT rfl ⟨.ref p, rfl, p, _, 1, _, rfl, rfl, hpc, rfl, rfl, rfl⟩⟩, fun v H' hv => ?_⟩
        obtain ⟨rfl, rfl⟩ := hv
        refine ⟨_, _, rfl, rfl, .inl ⟨by omega, by omega⟩, ?_⟩
        have q1 := q _ sm1
        rw [show wo rs ss (.fig c) = ss.sum * c from Int.mul_comm _ _] at q1
        exact q1
      | reg i =>
        have o : i < 4 := ho
        obtain ⟨p', e', hpc⟩ := he
        cases e'
        have hpc := same_sqt sm1 hpc
        refine iteTT rfl ⟨.int ss.sum, rfl, fun v H' => v = .int (rs.getD i 0) ∧ H' = H1, ⟨_, rfl, rfl, _, rfl, iteFF rfl ⟨.ref r, rfl, .ref p, rfl, p, _, 1, _, rfl, rfl, hpc, rfl, r, _, _, _, rfl, rfl, same_sqt sm1 hr1, at_nth (by omega), rfl, rfl⟩⟩, fun v H' hv => ?_⟩
        obtain ⟨rfl, rfl⟩ := hv
        refine ⟨_, _, rfl, rfl, .inl ⟨by omega, by omega⟩, ?_⟩
        have q1 := q _ sm1
        rw [show wo rs ss (.reg i) = ss.sum * rs.getD i 0 from Int.mul_comm _ _] at q1
        exact q1
      | share j =>
        have o : j < many := ho
        obtain ⟨p', e', hpc⟩ := he
        cases e'
        have hpc := same_sqt sm1 hpc
        refine iteFF rfl ⟨_, rfl, rfl, _, rfl, iteTT rfl ⟨.ref t, rfl, .ref p, rfl, p, _, 1, _, rfl, rfl, hpc, rfl, t, _, _, _, rfl, rfl, same_sqt sm1 ht1, at_nth (by omega), _, _, rfl, rfl, .inl ⟨by decide, by decide⟩, q _ sm1⟩⟩
      | two o a b => cases hleaf
      | times f a => cases hleaf
      | «by» i a => cases hleaf
      | when i c a b => cases hleaf
      | whr i c a b => cases hleaf
    · have nn : inV (V.str (wordOf e)) [V.str "fig", V.str "reg"] = false ∧ decide (V.str (wordOf e) = V.str "share") = false := by
        cases e with
        | fig c => exact absurd rfl hleaf
        | reg c => exact absurd rfl hleaf
        | share c => exact absurd rfl hleaf
        | two o a b => cases o <;> exact ⟨rfl, rfl⟩
        | times f a => exact ⟨rfl, rfl⟩
        | «by» i a => exact ⟨rfl, rfl⟩
        | when i c a b => exact ⟨rfl, rfl⟩
        | whr i c a b => exact ⟨rfl, rfl⟩
      refine iteFF nn.1 ⟨_, rfl, rfl, _, rfl, iteFF nn.2 ?_⟩
      have hits1 : ItsAt K H1 (.str (wordOf e) :: xs) (.s (wordOf e) :: e.rest) := ⟨rfl, hits.imp sm1⟩
      have hlen5 : (Itm.s (wordOf e) :: e.rest).length ≤ 5 := by
        have := rest_len e
        rw [List.length_cons]
        omega
      have kI : ∀ l : List Itm, (kidsI l).length ≤ l.length := fun l => by
        induction l with
        | nil => exact Nat.le_refl _
        | cons t r ih => cases t <;> simp only [kidsI, List.length_cons] <;> omega
      refine ⟨.ref p, rfl, p, rfl, ⟨_, hp1⟩, fun D nD => lc_tup (xs := .str (wordOf e) :: xs) (fun i H' => Same H1 H' ∧ H' D = some (.lst (((kidsI ((Itm.s (wordOf e) :: e.rest).take i)).map (wo rs ss)).map V.int))) ⟨same_new nD, upd_same⟩ (fun i H' _ h => same_sqt h.1 hp1) ?_ ?_⟩
      · rintro i x H2 hx ⟨sm2, hD⟩
        obtain ⟨tm, htm, hit⟩ := (hits1.imp sm2).get hx
        obtain ⟨ty, tyx, kk⟩ := isi_item hit
        refine ⟨rfl, ?_⟩
        refine ⟨x, rfl, _, _, _, _, tm.isK, rfl, .ty _, tyx, kk, _, rfl, ?_⟩
        cases tm with
        | s z =>
          refine iteFF rfl ⟨sm2, ?_⟩
          rw [hD, kidsI_snoc htm]
          show _ = some (HO.lst (List.map V.int (List.map (wo rs ss) (kidsI (List.take i (Itm.s (wordOf e) :: e.rest)) ++ []))))
          rw [List.append_nil]
        | i z =>
          refine iteFF rfl ⟨sm2, ?_⟩
          rw [hD, kidsI_snoc htm]
          show _ = some (HO.lst (List.map V.int (List.map (wo rs ss) (kidsI (List.take i (Itm.s (wordOf e) :: e.rest)) ++ []))))
          rw [List.append_nil]
        | k k =>
          have hkm : k ∈ e.kids := by
            rw [← kidsI_rest]
            have := mem_kidsI (List.mem_of_getElem? htm)
            exact this
          have hkd := kids_dep e k hkm
          have smq : Same H H2 := sm1.trans sm2
          refine iteTT rfl ⟨x, rfl, .ref r, rfl, .ref t, rfl, x, _, _, k, many, rs, ss, rfl, hit, kids_ok e k ho hkm, by omega, hR0.imp fun _ _ q => same_sqt smq q, hS0.imp fun _ _ q => same_sqt smq q, fun H3 sm3 => ?_⟩
          have hD3 := sm3 _ _ hD
          have hkl := kI ((Itm.s (wordOf e) :: e.rest).take i)
          rw [List.length_take] at hkl
          refine ⟨_, hD3, ?_, fun b' o eb => ?_, ?_⟩
          · rw [List.length_map, List.length_map]
            exact small1000 (by omega)
          · rw [upd_ne (ne_of_none eb nD)]
            exact sm3 _ _ (sm2 _ _ eb)
          · rw [upd_same, kidsI_snoc htm, List.map_append, List.map_append]
            rfl
      · rintro H2 ⟨sm2, hD⟩
        have sm02 := sm1.trans sm2
        rw [hits1.len, List.take_length] at hD
        have hD : H2 D = some (.lst ((e.kids.map (wo rs ss)).map V.int)) := by
          rw [← kidsI_rest]
          exact hD
        clear hits1 nD hp1
        refine ⟨_, rfl, two_le, fun t3 n3 => ⟨t3, _, rfl, .inr (SqT.of upd_same), rfl, rfl, _, rfl, ?_⟩⟩
        have sm3 := same_new (o := .tup [.str "times", .str "by"]) n3
        have hD := sm3 _ _ hD
        have sm03 := sm02.trans sm3
        generalize upd H2 t3 (.tup [.str "times", .str "by"]) = H3 at sm03 hD
        clear sm3 sm02 sm2
        have hr3' := same_sqt sm03 hr1
        have ht3' := same_sqt sm03 ht1
        have sD := SqL.of (K := K) hD
        cases e with
        | fig c => exact absurd rfl hleaf
        | reg c => exact absurd rfl hleaf
        | share c => exact absurd rfl hleaf
        | times fa a =>
          obtain ⟨⟨o1, o2⟩, oa⟩ := ho
          obtain ⟨p', x', e', q', _⟩ := he
          cases e'
          have hpf := same_sqt sm03 q'
          refine iteTT rfl ⟨.ref D, rfl, D, _, 0, _, rfl, rfl, sD, rfl, fun v H' => v = .int fa ∧ H' = H3, ⟨_, rfl, rfl, _, rfl, iteTT rfl ⟨.ref p, rfl, p, _, 1, _, rfl, rfl, hpf, rfl, rfl, rfl⟩⟩, fun v H' hv => ?_⟩
          obtain ⟨rfl, rfl⟩ := hv
          refine ⟨_, _, rfl, rfl, wide1000 (by omega) (by omega), ?_⟩
          have q1 := q _ sm03
          rw [show wo rs ss (.times fa a) = wo rs ss a * fa from Int.mul_comm _ _] at q1
          exact q1
        | «by» i a =>
          obtain ⟨o1, oa⟩ := ho
          obtain ⟨p', x', e', q', _⟩ := he
          cases e'
          have hpf := same_sqt sm03 q'
          refine iteTT rfl ⟨.ref D, rfl, D, _, 0, _, rfl, rfl, sD, rfl, fun v H' => v = .int (rs.getD i 0) ∧ H' = H3, ⟨_, rfl, rfl, _, rfl, iteFF rfl ⟨.ref r, rfl, .ref p, rfl, p, _, 1, _, rfl, rfl, hpf, rfl, r, _, _, _, rfl, rfl, hr3', at_nth (by omega), rfl, rfl⟩⟩, fun v H' hv => ?_⟩
          obtain ⟨rfl, rfl⟩ := hv
          refine ⟨_, _, rfl, rfl, wide1000 (rb i o1).1 (rb i o1).2, ?_⟩
          have q1 := q _ sm03
          rw [show wo rs ss (.by i a) = wo rs ss a * rs.getD i 0 from Int.mul_comm _ _] at q1
          exact q1
        | when i c a b' =>
          obtain ⟨o1, _, oa, ob⟩ := ho
          obtain ⟨p', x', y', e', q', _⟩ := he
          cases e'
          have hpf := same_sqt sm03 q'
          refine iteFF rfl ⟨_, rfl, rfl, _, rfl, iteTT rfl ?_⟩
          refine ⟨.ref D, rfl, .ref r, rfl, .ref p, rfl, p, _, 1, _, rfl, rfl, hpf, rfl, r, _, _, _, rfl, rfl, hr3', at_nth (by omega), .ref p, rfl, p, _, 2, _, rfl, rfl, hpf, rfl, _, _, rfl, rfl, .inr ⟨_, rfl, D, _, _, .int (if rs.getD i 0 < c then wo rs ss a else wo rs ss b'), rfl, rfl, sD, ?_, q _ sm03⟩⟩
          by_cases hc : rs.getD i 0 < c
          · rw [if_pos hc, decide_eq_false (show ¬ c ≤ rs.getD i 0 by omega)]
            rfl
          · rw [if_neg hc, decide_eq_true (show c ≤ rs.getD i 0 by omega)]
            rfl
        | whr j c a b' =>
          obtain ⟨o1, o2, oa, ob⟩ := ho
          obtain ⟨p', x', y', e', q', _⟩ := he
          cases e'
          have hpf := same_sqt sm03 q'
          refine iteFF rfl ⟨_, rfl, rfl, _, rfl, iteFF rfl ⟨_, rfl, rfl, _, rfl, iteTT rfl ?_⟩⟩
          refine ⟨.ref D, rfl, .ref t, rfl, .ref p, rfl, p, _, 1, _, rfl, rfl, hpf, rfl, t, _, _, _, rfl, rfl, ht3', at_nth (by omega), _, _, rfl, rfl, .inl ⟨by decide, by decide⟩, .ref p, rfl, p, _, 2, _, rfl, rfl, hpf, rfl, _, rfl, _, _, rfl, rfl, .inl ⟨by omega, by omega⟩, _, _, rfl, rfl, .inr ⟨_, rfl, D, _, _, .int (if 1000 * ss.getD j 0 < c * ss.sum then wo rs ss a else wo rs ss b'), rfl, rfl, sD, ?_, q _ sm03⟩⟩
          by_cases hc : 1000 * ss.getD j 0 < c * ss.sum
          · rw [if_pos hc, decide_eq_false (show ¬ c * ss.sum ≤ 1000 * ss.getD j 0 by omega)]
            rfl
          · rw [if_neg hc, decide_eq_true (show c * ss.sum ≤ 1000 * ss.getD j 0 by omega)]
            rfl
        | two o a b' =>
          refine iteFF (by cases o <;> rfl) ⟨_, rfl, rfl, _, rfl, iteFF (wn_ne (by simp)) ⟨_, rfl, rfl, _, rfl, iteFF (wn_ne (by simp)) ?_⟩⟩
          refine ⟨_, rfl, two_le, fun t4 n4 => ⟨t4, _, rfl, .inr (SqT.of upd_same), rfl, rfl, _, rfl, ?_⟩⟩
          have sm4 := same_new (o := .tup [.str "sum", .str "less"]) n4
          have hD := sm4 _ _ hD
          have sm04 := sm03.trans sm4
          generalize upd H3 t4 (.tup [.str "sum", .str "less"]) = H4 at sm04 hD
          have sD := SqL.of (K := K) hD
          cases o with
          | sum =>
            refine iteTT rfl ⟨.ref D, rfl, D, _, 0, _, rfl, rfl, sD, rfl, .ref D, rfl, D, _, 1, _, rfl, rfl, sD, rfl, fun v H' => v = .int 1 ∧ H' = H4, ⟨_, rfl, rfl, _, rfl, iteTT rfl ⟨rfl, rfl⟩⟩, fun v H' hv => ?_⟩
            obtain ⟨rfl, rfl⟩ := hv
            refine ⟨_, _, rfl, rfl, wide1000 (by decide) (by decide), _, _, rfl, rfl, ?_⟩
            have q1 := q _ sm04
            rw [show wo rs ss (.two .sum a b') = wo rs ss a + wo rs ss b' * 1 by rw [Int.mul_one]; rfl] at q1
            exact q1
          | less =>
            refine iteTT rfl ⟨.ref D, rfl, D, _, 0, _, rfl, rfl, sD, rfl, .ref D, rfl, D, _, 1, _, rfl, rfl, sD, rfl, fun v H' => v = .int (-1) ∧ H' = H4, ⟨_, rfl, rfl, _, rfl, iteFF rfl ⟨_, rfl, rfl, rfl⟩⟩, fun v H' hv => ?_⟩
            obtain ⟨rfl, rfl⟩ := hv
            refine ⟨_, _, rfl, rfl, wide1000 (by decide) (by decide), _, _, rfl, rfl, ?_⟩
            have q1 := q _ sm04
            rw [show wo rs ss (.two .less a b') = wo rs ss a + wo rs ss b' * -1 by rw [Int.mul_neg_one, ← Int.sub_eq_add_neg]; rfl] at q1
            exact q1
          | least =>
            refine iteFF rfl ⟨.ref D, rfl, D, [wo rs ss a, wo rs ss b'], rfl, sD, (by show 2 < 64; decide), fun ns' ps hperm hpw nps => ?_⟩
            rw [sort2 hperm hpw]
            exact ⟨_, rfl, rfl, .inr ⟨_, rfl, ps, _, _, _, rfl, rfl, SqL.of upd_same, rfl, q _ (sm04.trans (same_new nps))⟩⟩
          | most =>
            refine iteFF rfl ⟨.ref D, rfl, D, [wo rs ss a, wo rs ss b'], rfl, sD, (by show 2 < 64; decide), fun ns' ps hperm hpw nps => ?_⟩
            rw [sort2 hperm hpw]
            exact ⟨_, rfl, rfl, .inr ⟨_, rfl, ps, _, _, _, rfl, rfl, SqL.of upd_same, rfl, q _ (sm04.trans (same_new nps))⟩⟩
end
end NG

namespace NG
open PySem PySem.Spec PyProof.Rows L2
def moF (x : List Int × Mk) : Int := match x.2 with
  | .one o => o.motes
  | .house _ _ => 0
theorem mo_sum : ∀ {xs : List (List Int × Mk)}, (∀ x ∈ xs, isOne x = true) → (xs.map moF).sum = ((xs.filterMap toOne).map (·.motes)).sum
  | [], _ => rfl
  | (p, .one o) :: r, h => by
    rw [List.filterMap_cons_some (b := o) (by rfl), List.map_cons, List.map_cons, List.sum_cons, List.sum_cons, mo_sum fun x hx => h x (List.mem_cons_of_mem _ hx)]
    rfl
  | (p, .house nm m) :: r, h => by
    have := h (p, .house nm m) (by simp)
    cases this
theorem motes_eq (m : Ms) : ((onesI m).map moF).sum = motesI m := by
  rw [mo_sum (xs := onesI m) fun x hx => (List.mem_filter.mp hx).2]
  unfold onesI motesI
  rw [ao_std]
theorem one_room {us : List V} {acc : List (List Int × Mk)} {K : PySem.W.Frag} {H : Hp} {m : Ms} {i : Nat} (hpr : PrsAt K H us acc) (hal : acc.length + (m.drop i).cnt = m.cnt) (hc : m.cnt ≤ 300) : us.length ≤ 300 := by
  rw [hpr.len]
  omega
section
variable {P : Program} {w : World} {K : PySem.W.Frag} {mg : Str → Option Value} {base : Heap}
theorem ok_stands {f : Addr} {fd : FuncData} (F : Fun K "stands" "stands" s_stands f fd) (gF : mg "stands" = some (.ref f)) (b : Binds K fd ["members", "path"] []) (B : Bl mg) : ∀ n, Cal P w K mg base (n + 1) "stands" (spStands K n) := by
  intro n
  induction n with
  | zero =>
    refine cal_never F gF b fun vs H Q E h => ?_
    obtain ⟨_, _, _, _, _, _, _, _, hd, _⟩ := h
    omega
  | succ n c_stands =>
  refine ⟨f, fd, _, F.ok sc_stands (fun vs H Q E h => ?_) (fun cdv A outer s H vs Q E hr h => ?_), gF, F.kp, b⟩
  · obtain ⟨_, _, _, _, _, rfl, _⟩ := h
    rfl
  · obtain ⟨p, q, xs, m, path, rfl, hp, hm, hdp, hc, hq, hpl, qq⟩ := h
    refine ⟨_, (pss_cons (ps_set (i := 2) sc_stands.nd rfl (.inl rfl) (pe_lst pa_nil)) (pss_cons (ps_for PassesOwn.never rfl (pi_enumT (by rfl) B.enumerate (pa_cons (pv 0) pa_nil)) (pg_tup rfl (pgs_cons (pg_name (i := 3) sc_stands.nd rfl (.inl rfl)) (pgs_cons (pg_name (i := 4) sc_stands.nd rfl (.inl rfl)) pgs_nil))) (pss_cons (ps_set (i := 5) sc_stands.nd rfl (.inl rfl) (pe_op op_catA (pv 1) (pe_tup (pa_cons (pv 3) pa_nil)))) (pss_cons (ps_expr (pe_bm PySem.F.plainAttrs_list PySem.F.slot_list_append PySem.F.type_list_append mt_append (pv 2) (pa_cons (pe_tup (pa_cons (pv 5) (pa_cons (pv 4) pa_nil))) pa_nil))) (pss_one (ps_if (pt_cmpR op_eq (pe_ix ix_tup (pv 4) pe_int (fun _ _ => rfl)) pe_str (nomark _)) (pss_one (ps_expr (pe_bm PySem.F.plainAttrs_list PySem.F.slot_list_extend PySem.F.type_list_extend mt_extend (pv 2) (pa_cons (pe_c c_stands hr (by omega) (by rfl) (pa_cons (pe_ix ix_tup (pv 4) pe_int (fun _ _ => rfl)) (pa_cons (pv 5) pa_nil))) pa_nil)))) pss_nil))))) (pss_one (ps_ret (pv 2))))), ?_⟩
    refine ⟨(by show 0 ≤ sizeLine; decide), fun g ng => ?_⟩
    have hxl : xs.length ≤ 300 := by
      have h1 := hm.len
      have h2 := m.len_le
      omega
    refine ⟨.ref p, rfl, p, xs, rfl, same_sqt (same_new ng) hp, for_it (walk_En (K := K) (ws := xs) rfl) (fun i σ H' => ∃ y3 y4 y5 us, ∃ acc : List (List Int × Mk), σ = [some (.ref p), some (.ref q), some (.ref g), y3, y4, y5] ∧ Same H H' ∧ H' g = some (.lst us) ∧ PrsAt K H' us acc ∧ acc ++ stdI (m.drop i) path (i : Int) = stdI m path 0 ∧ acc.length + (m.drop i).cnt = m.cnt) ⟨none, none, none, [], [], rfl, same_new ng, upd_same, trivial, rfl, by show 0 + m.cnt = m.cnt; omega⟩ (fun i σ H' _ h => ?_) ?_ ?_⟩
    · obtain ⟨_, _, _, _, _, _, sm, _⟩ := h
      exact same_sqt sm hp
    · rintro i x σ H1 H2 hi ⟨y3, y4, y5, us, acc, rfl, sm1, hg1, hpr1, hacc, hal⟩ ⟨T, x0, y, rfl, nT, rfl, hx0, hy⟩
      cases hx0
      have hul := one_room hpr1 hal hc
      have sT := same_new (o := .tup [.int ((i : Nat) : Int), y]) nT
      have hT : (upd H1 T (.tup [.int ((i : Nat) : Int), y])) T = some (.tup [.int ((i : Nat) : Int), y]) := upd_same
      have sm2 := sm1.trans sT
      have hg2 := sT _ _ hg1
      have hpr2 := hpr1.imp fun _ _ h => same_sqt sT h
      clear sT
      generalize upd H1 T (.tup [.int ((i : Nat) : Int), y]) = H2 at hT sm2 hg2 hpr2
      obtain ⟨k, hk, mk⟩ := hm.nth hy
      refine ⟨T, _, rfl, SqT.of hT, rfl, _, _, rfl, _, _, rfl, rfl, ?_⟩
      refine ⟨.ref q, rfl, .int ((i : Nat) : Int), rfl, (by show 1 ≤ sizeLine; decide), fun t1 n1 => ?_⟩
      have s1 := same_new (o := .tup [.int ((i : Nat) : Int)]) n1
      refine catA (same_sqt s1 (same_sqt sm2 hq)) (SqT.of upd_same) (Nat.le_of_lt (small1000 (by rw [List.length_map]; show _ + 1 ≤ 1000; omega))) fun H3 ph sm3 hph => ?_
      have sm23 := s1.trans sm3
      have hg3 := sm23 _ _ hg2
      have hph : SqT K H3 ph ((path ++ [((i : Nat) : Int)]).map V.int) := by rw [List.map_append]; exact hph
      refine ⟨.ref g, rfl, .inl ⟨rfl, _, SqL.of hg3⟩, .ref ph, rfl, y, rfl, (by show 2 ≤ sizeLine; decide), fun t2 n2 => ?_⟩
      have s4 := same_new (o := .tup [.ref ph, y]) n2
      have hg4 := s4 _ _ hg3
      have sm24 := sm23.trans s4
      have ht2 : (upd H3 t2 (.tup [.ref ph, y])) t2 = some (.tup [.ref ph, y]) := upd_same
      have hph4 := same_sqt s4 hph
      clear s4
      generalize upd H3 t2 (.tup [.ref ph, y]) = H4 at hg4 sm24 ht2 hph4
      refine ⟨g, us, _, rfl, rfl, hg4, small1000 (by omega), ?_⟩
      have smH4 := sm2.trans sm24
      have mk4 : MkAt K H4 k y := mk.imp fun _ _ h => same_sqt smH4 h
      have pr4 : PrsAt K H4 (us ++ [.ref t2]) (acc ++ [(path ++ [((i : Nat) : Int)], k)]) := PrsAt.app (hpr2.imp fun _ _ h => same_sqt sm24 h) ⟨⟨t2, ph, y, rfl, SqT.of ht2, hph4, mk4⟩, trivial⟩
      have smH5 : Same H (upd H4 g (.lst (us ++ [.ref t2]))) := fun b' o eb => by
        rw [upd_ne (ne_of_none eb ng)]
        exact smH4 _ _ eb
      have hg5 : (upd H4 g (.lst (us ++ [.ref t2]))) g = some (.lst (us ++ [.ref t2])) := upd_same
      have pr5 := pr4.imp fun _ _ h => put_sqt (us' := us ++ [.ref t2]) hg4 h
      have mk5 := mk4.imp fun _ _ h => put_sqt (us' := us ++ [.ref t2]) hg4 h
      have hph5 := put_sqt (us' := us ++ [.ref t2]) hg4 hph4
      clear hg4 hph4 mk4 pr4
      generalize upd H4 g (.lst (us ++ [.ref t2])) = H5 at smH5 hg5 pr5 mk5 hph5
      have est := stdI_step (m.drop i) path (i : Int)
      rw [hk] at est
      cases k with
      | one o =>
        obtain ⟨py, dv, rv, rfl, hpy, _⟩ := mk5
        refine ⟨.ref py, rfl, py, _, 0, _, rfl, rfl, hpy, rfl, rfl, _, rfl, iteFF rfl ?_⟩
        refine ⟨_, _, _, us ++ [.ref t2], acc ++ [(path ++ [((i : Nat) : Int)], .one o)], rfl, smH5, hg5, pr5, ?_, ?_⟩
        · rw [est] at hacc
          rw [List.append_assoc]
          exact hacc
        · rw [List.length_append]
          show acc.length + 1 + (m.drop i).tl.cnt = _
          cases hd : m.drop i with
          | nil => rw [hd] at hk; cases hk
          | one o2 r => rw [hd] at hal; have hal : acc.length + (1 + r.cnt) = m.cnt := hal; show acc.length + 1 + r.cnt = _; omega
          | house nm m2 r => rw [hd] at hk; cases hk
      | house nm m2 =>
        obtain ⟨py, pm, xs2, rfl, hpy, hpm, hm2⟩ := mk5
        obtain ⟨d1, c1⟩ := Ms.hd_house hk
        have d2 := m.dep_drop i
        have c2 := m.cnt_drop i
        refine ⟨.ref py, rfl, py, _, 0, _, rfl, rfl, hpy, rfl, rfl, _, rfl, iteTT rfl ?_⟩
        refine ⟨.ref g, rfl, .inl ⟨rfl, _, SqL.of hg5⟩, .ref py, rfl, py, _, 2, _, rfl, rfl, hpy, rfl, .ref ph, rfl, pm, ph, xs2, m2, path ++ [((i : Nat) : Int)], rfl, hpm, hm2, by omega, by omega, hph5, by rw [List.length_append]; show path.length + 1 + _ ≤ 100; omega, fun H6 l2 us2 sm6 nl2 hl2 hpr6 => ?_⟩
        have hg6 := sm6 _ _ hg5
        have hal2 : acc.length + (1 + m2.cnt + (m.drop i).tl.cnt) = m.cnt := by
          cases hd : m.drop i with
          | nil => rw [hd] at hk; cases hk
          | one o2 r => rw [hd] at hk; cases hk
          | house nm2 m3 r =>
            rw [hd] at hk hal
            cases hk
            exact hal
        have hl6 := hpr6.len
        rw [stdI_len] at hl6
        refine ⟨g, l2, _, _, rfl, rfl, hg6, hl2, Nat.le_of_lt (small1000 (by rw [List.length_append]; show us.length + 1 + _ ≤ 1000; omega)), ?_⟩
        refine ⟨_, _, _, us ++ [.ref t2] ++ us2, acc ++ [(path ++ [((i : Nat) : Int)], .house nm m2)] ++ stdI m2 (path ++ [((i : Nat) : Int)]) 0, rfl, fun b' o eb => ?_, upd_same, ?_, ?_, ?_⟩
        · rw [upd_ne (ne_of_none eb ng)]
          exact sm6 _ _ (smH5 _ _ eb)
        · exact (PrsAt.app (pr5.imp fun _ _ h => same_sqt sm6 h) hpr6).imp fun _ _ h => put_sqt hg6 h
        · rw [est] at hacc
          rw [List.append_assoc, List.append_assoc]
          exact hacc
        · rw [List.length_append, List.length_append, stdI_len]
          show acc.length + 1 + m2.cnt + (m.drop i).tl.cnt = _
          omega
    · rintro σ H1 ⟨y3, y4, y5, us, acc, rfl, sm1, hg1, hpr1, hacc, hal⟩
      have hend := hm.drop xs.length
      rw [List.drop_length] at hend
      have enil : m.drop xs.length = .nil := by
        cases hd : m.drop xs.length with
        | nil => rfl
        | one o r => rw [hd] at hend; obtain ⟨_, _, z, _⟩ := hend; cases z
        | house nm m2 r => rw [hd] at hend; obtain ⟨_, _, _, _, z, _⟩ := hend; cases z
      rw [enil] at hacc
      have hacc : acc ++ [] = stdI m path 0 := hacc
      rw [List.append_nil] at hacc
      rw [hacc] at hpr1
      exact ⟨.ref g, rfl, qq _ g us sm1 ng hg1 hpr1⟩
theorem fn_ones {f : Addr} {fd : FuncData} (F : Fun K "ones" "ones" s_ones f fd) (B : Bl mg) {n : Nat} (c_stands : Cal P w K mg base (n + 1) "stands" (spStands K n)) : FnOk P w K mg base CX0 (n + 2) f fd ["house"] (spOnes K n) := by
  refine F.ok sc_ones (fun vs H Q E h => ?_) (fun cdv A outer s H vs Q E hr h => ?_)
  · obtain ⟨_, _, _, _, _, rfl, _⟩ := h
    rfl
  · obtain ⟨p, pm, xs, many, m, rfl, hp, hpm, hm, hdp, hc, hd5, q⟩ := h
    refine ⟨_, (pss_cons (ps_asg (pv 0) (pg_tup rfl (pgs_cons (pg_name (i := 1) sc_ones.nd rfl (.inl rfl)) (pgs_cons (pg_name (i := 2) sc_ones.nd rfl (.inl rfl)) pgs_nil)))) (pss_one (ps_ret (pe_tupleOf (by rfl) B.tuple (pe_lc (own := [("path", 3), ("member", 4)]) rfl sc_ones.nd (pi_list (pe_c c_stands hr (by omega) (by rfl) (pa_cons (pv 2) (pa_cons (pe_tup pa_nil) pa_nil)))) (blkOk_by (N := N_ones) (sc := defScope s_ones) (by decide +kernel)) (fun _ _ _ _ _ => pgtK (n := 2) K rfl (pgs_cons (pg_name (i := 3) sc_ones.nd rfl (.inl rfl)) (pgs_cons (pg_name (i := 4) sc_ones.nd rfl (.inl rfl)) pgs_nil))) (fun _ _ _ _ _ => pts_one (pt_cmpR op_eq (pe_ix (ixt K) (pv 4) pe_int (fun _ _ => rfl)) pe_str (nomark _))) (fun _ _ _ _ _ => pe_tup (pa_cons (pv 3) (pa_cons (pv 4) pa_nil)))))))), ?_⟩
    refine ⟨.ref p, rfl, p, _, rfl, hp, rfl, _, _, rfl, _, _, rfl, rfl, ?_⟩
    refine ⟨.ref pm, rfl, (by show 0 ≤ sizeLine; decide), fun t0 n0 => ?_⟩
    have s0 := same_new (o := .tup []) n0
    refine ⟨pm, t0, xs, m, [], rfl, same_sqt s0 hpm, hm.same s0, hdp, hc, SqT.of upd_same, by show 0 + m.dep ≤ 100; omega, fun H2 l us sm2 nl hl hpr => ?_⟩
    have sm02 := s0.trans sm2
    have hul : us.length ≤ 300 := by rw [hpr.len, stdI_len]; exact hc
    refine ⟨l, rfl, ⟨_, SqL.of hl⟩, fun D nD => lc_list (xs := us) (fun i H' => ∃ ws, Same H2 H' ∧ H' D = some (.lst ws) ∧ ws.length ≤ i ∧ PrsAt K H' ws (((stdI m [] 0).take i).filter isOne)) ⟨[], same_new nD, upd_same, Nat.le_refl _, trivial⟩ (fun i H' _ h => ?_) ?_ ?_⟩
    · obtain ⟨_, sm, _⟩ := h
      exact SqL.of (sm _ _ hl)
    · rintro i x H3 hx ⟨ws, sm3, hD3, hwl, hws⟩
      have hil := (List.getElem?_eq_some_iff.mp hx).1
      obtain ⟨it, hit, t, h, v, rfl, qt, qh, mk⟩ := hpr.get hx
      have qt := same_sqt sm3 qt
      have qh := same_sqt sm3 qh
      have mk := mk.imp fun _ _ h => same_sqt sm3 h
      obtain ⟨py, ys, rfl, hpy⟩ := mk.wd
      have etk : ((stdI m [] 0).take (i + 1)).filter isOne = ((stdI m [] 0).take i).filter isOne ++ (if isOne it then [it] else []) := by
        rw [List.take_add_one, hit, List.filter_append]
        congr 1
        show List.filter isOne [it] = _
        cases hb : isOne it with
        | true => rw [List.filter_cons_of_pos (by exact hb)]; rfl
        | false => rw [List.filter_cons_of_neg (by rw [hb]; exact Bool.false_ne_true)]; rfl
      refine ⟨t, _, rfl, qt, rfl, _, _, rfl, _, _, rfl, rfl, rfl, .ref py, rfl, py, _, 0, _, rfl, rfl, hpy, at_of (j := 0) rfl rfl, rfl, _, rfl, ?_⟩
      rw [etk]
      obtain ⟨pth, k⟩ := it
      cases k with
      | one o =>
        refine iteTT rfl ⟨.ref h, rfl, .ref py, rfl, (by show 2 ≤ sizeLine; decide), fun t2 n2 => ?_⟩
        have s4 := same_new (o := .tup [.ref h, .ref py]) n2
        have hD4 := s4 _ _ hD3
        refine ⟨ws, hD4, small1000 (by omega), ws ++ [.ref t2], fun b' o eb => ?_, upd_same, by rw [List.length_append]; show _ + 1 ≤ _; omega, ?_⟩
        · rw [upd_ne (ne_of_none eb nD)]
          exact s4 _ _ (sm3 _ _ eb)
        · refine PrsAt.app ((hws.imp fun _ _ h => same_sqt s4 h).imp fun _ _ h => put_sqt hD4 h) ⟨⟨t2, h, .ref py, rfl, put_sqt hD4 (SqT.of upd_same), put_sqt hD4 (same_sqt s4 qh), (mk.imp fun _ _ h => same_sqt s4 h).imp fun _ _ h => put_sqt hD4 h⟩, trivial⟩
      | house nm m2 =>
        refine iteFF rfl ⟨ws, sm3, hD3, by omega, ?_⟩
        show PrsAt K H3 ws (_ ++ [])
        rw [List.append_nil]
        exact hws
    · rintro H3 ⟨ws, sm3, hD3, hwl, hws⟩
      rw [hpr.len, List.take_length] at hws
      refine .inl ⟨D, ws, rfl, SqL.of hD3, fun t nt => ?_⟩
      have st := same_new (o := .tup ws) nt
      exact q _ t ws ((sm02.trans sm3).trans st) (SqT.of upd_same) (hws.imp fun _ _ h => same_sqt st h)
end
end NG

namespace NG
open PySem PySem.Spec PyProof.Rows L2
/-! ### pulls -/
def pwr : Nat → Int
  | 0 => 16
  | 1 => 8
  | 2 => 4
  | 3 => 2
  | _ => 1
theorem pwr_bnd (s : Nat) : 1 ≤ pwr s ∧ pwr s ≤ 16 := by
  match s with
  | 0 => decide
  | 1 => decide
  | 2 => decide
  | 3 => decide
  | _ + 4 => show (1 : Int) ≤ 1 ∧ (1 : Int) ≤ 16; decide
def onePull (ss : List Int) (o : One) : List Int := o.dbt.stakes.map fun e => o.motes * pwr o.dbt.scale * wo o.regs ss e
def pullI (many : Nat) (ss : List Int) (os : List One) : List Int := (List.range many).map fun j => (os.map fun o => (onePull ss o).getD j 0).sum
def spPower : Sp := fun vs H Q _ => ∃ s : Nat, vs = [.int (4 - (s : Int))] ∧ s < 5 ∧ Q (.int (pwr s)) H
def spStakes (K : PySem.W.Frag) (n : Nat) : Sp := fun vs H Q _ => ∃ (dv r s : V) (D : Dbt) (many : Nat) (rs ss : List Int), vs = [dv, r, s] ∧ DbAt K H D dv ∧ D.stakes.length ≤ 3 ∧ (∀ e ∈ D.stakes, ExOk many e ∧ e.dep ≤ n) ∧ RegsAt K H rs r ∧ ShAt K H many ss s ∧
  ∀ H' t, Same H H' → SqT K H' t ((D.stakes.map (wo rs ss)).map V.int) → Q (.ref t) H'
/-- a one that may pull -/
structure PuOk (many n : Nat) (o : One) : Prop where
  sl : o.dbt.stakes.length = many
  sc : o.dbt.scale < 5
  st : ∀ e ∈ o.dbt.stakes, ExOk many e ∧ e.dep ≤ n
  m1 : 0 ≤ o.motes ∧ o.motes ≤ 4611686018427387904
def spOnePull (K : PySem.W.Frag) (n : Nat) : Sp := fun vs H Q _ => ∃ (ov s : V) (o : One) (many : Nat) (ss : List Int), vs = [ov, s] ∧ OneAt K H o ov ∧ PuOk many n o ∧ many ≤ 3 ∧ ShAt K H many ss s ∧
  ∀ H' l, Same H H' → H l = none → H' l = some (.lst ((onePull ss o).map V.int)) → Q (.ref l) H'
def spPull (K : PySem.W.Frag) (n : Nat) : Sp := fun vs H Q _ => ∃ (p pm : Addr) (s : V) (xs : List V) (m : Ms) (many : Nat) (ss : List Int), vs = [.ref p, s] ∧ SqT K H p [.int (many : Int), .ref pm] ∧ SqT K H pm xs ∧ MsAt K H m xs ∧ m.dep < 8 ∧ m.cnt ≤ 300 ∧ m.all (PuOk many n) ∧ 2 ≤ many ∧ many ≤ 3 ∧ ShAt K H many ss s ∧
  ∀ H' t, Same H H' → SqT K H' t ((pullI many ss (aoI m)).map V.int) → Q (.ref t) H'
/-- rows of numbers, none of them at D -/
def RlAt (H : Hp) (D : Addr) : List V → List (List Int) → Prop
  | [], [] => True
  | u :: us, r :: rs => (∃ l, u = .ref l ∧ l ≠ D ∧ H l = some (.lst (r.map V.int))) ∧ RlAt H D us rs
  | _, _ => False
theorem RlAt.same {H H' : Hp} {D : Addr} (sm : Same H H') : ∀ {us : List V} {rs : List (List Int)}, RlAt H D us rs → RlAt H' D us rs
  | [], [], _ => trivial
  | _ :: _, _ :: _, ⟨⟨l, e, n, h⟩, r⟩ => ⟨⟨l, e, n, sm _ _ h⟩, r.same sm⟩
theorem RlAt.put {H : Hp} {D : Addr} {o : HO} : ∀ {us : List V} {rs : List (List Int)}, RlAt H D us rs → RlAt (upd H D o) D us rs
  | [], [], _ => trivial
  | _ :: _, _ :: _, ⟨⟨l, e, n, h⟩, r⟩ => ⟨⟨l, e, n, by rw [upd_ne n]; exact h⟩, r.put⟩
theorem RlAt.snoc {H : Hp} {D l : Addr} {row : List Int} (n : l ≠ D) (h : H l = some (.lst (row.map V.int))) : ∀ {us : List V} {rs : List (List Int)}, RlAt H D us rs → RlAt H D (us ++ [.ref l]) (rs ++ [row])
  | [], [], _ => ⟨⟨l, rfl, n, h⟩, trivial⟩
  | _ :: _, _ :: _, ⟨x, r⟩ => ⟨x, RlAt.snoc n h r⟩
theorem RlAt.len {H : Hp} {D : Addr} : ∀ {us : List V} {rs : List (List Int)}, RlAt H D us rs → us.length = rs.length
  | [], [], _ => rfl
  | _ :: _, _ :: _, ⟨_, r⟩ => by rw [List.length_cons, List.length_cons, r.len]
theorem RlAt.get {H : Hp} {D : Addr} : ∀ {us : List V} {rs : List (List Int)} {i : Nat} {u : V}, RlAt H D us rs → us[i]? = some u → ∃ row l, rs[i]? = some row ∧ u = .ref l ∧ H l = some (.lst (row.map V.int))
  | [], [], _, _, _, h => by simp at h
  | v :: us, x :: xs, 0, u, ⟨⟨l, e, _, h⟩, r⟩, hu => by
    have : v = u := Option.some.inj hu
    subst this
    exact ⟨x, l, rfl, e, h⟩
  | v :: us, x :: xs, i + 1, u, ⟨y, r⟩, h => RlAt.get (i := i) r h
def opF (ss : List Int) (x : List Int × Mk) : List Int := match x.2 with
  | .one o => onePull ss o
  | .house _ _ => []
theorem op_map (ss : List Int) : ∀ {xs : List (List Int × Mk)}, (∀ x ∈ xs, isOne x = true) → xs.map (opF ss) = (xs.filterMap toOne).map (onePull ss)
  | [], _ => rfl
  | (p, .one o) :: r, h => by
    rw [List.filterMap_cons_some (b := o) (by rfl), List.map_cons, List.map_cons, op_map ss fun x hx => h x (List.mem_cons_of_mem _ hx)]
    rfl
  | (p, .house nm m) :: r, h => by
    have := h (p, .house nm m) (by simp)
    cases this
theorem op_all (ss : List Int) (m : Ms) : (onesI m).map (opF ss) = (aoI m).map (onePull ss) := by
  rw [op_map ss (xs := onesI m) fun x hx => (List.mem_filter.mp hx).2]
  unfold onesI
  rw [ao_std]
section
variable {P : Program} {w : World} {K : PySem.W.Frag} {mg : Str → Option Value} {base : Heap}
theorem ok_power {f : Addr} {fd : FuncData} (F : Fun K "power" "power" s_power f fd) (gF : mg "power" = some (.ref f)) (b : Binds K fd ["scale"] []) (B : Bl mg) : Cal P w K mg base 1 "power" spPower := by
  refine ⟨f, fd, _, F.ok sc_power (fun vs H Q E h => ?_) (fun cdv A outer s H vs Q E hr h => ?_), gF, F.kp, b⟩
  · obtain ⟨_, rfl, _⟩ := h
    rfl
  · obtain ⟨sc, rfl, hs, q⟩ := h
    refine ⟨_, (pss_one (ps_ret (pe_op op_shl pe_int (pe_callB (call_max2 rfl) (by rfl) B.max (by decide +kernel) (pa_cons pe_int (pa_cons (pv 0) pa_nil)))))), ?_⟩
    have : sc = 0 ∨ sc = 1 ∨ sc = 2 ∨ sc = 3 ∨ sc = 4 := by omega
    rcases this with rfl | rfl | rfl | rfl | rfl <;> exact ⟨_, rfl, _, _, rfl, _, _, rfl, rfl, ⟨by decide, by decide, by decide⟩, q⟩
theorem ok_stakes {f : Addr} {fd : FuncData} (F : Fun K "stakes_at" "stakes_at" s_stakes_at f fd) (gF : mg "stakes_at" = some (.ref f)) (b : Binds K fd ["doubter", "registers", "shares"] []) (B : Bl mg) {n : Nat} (c_worth : Cal P w K mg base (n + 2) "worth" (spWorth K n)) : Cal P w K mg base (n + 3) "stakes_at" (spStakes K n) := by
  refine ⟨f, fd, _, F.ok sc_stakes_at (fun vs H Q E h => ?_) (fun cdv A outer s H vs Q E hr h => ?_), gF, F.kp, b⟩
  · obtain ⟨_, _, _, _, _, _, _, rfl, _⟩ := h
    rfl
  · obtain ⟨dv, r, sv, D, many, rs, ss, rfl, hD, hsl, hst, hR, hS, q⟩ := h
    obtain ⟨p, vb, ps, pb, us, ws, rfl, hp, hvb, hps, hus, hpb, hws⟩ := hD
    refine ⟨_, (pss_cons (ps_asg (pv 0) (pg_tup rfl (pgs_cons (pg_name (i := 3) sc_stakes_at.nd rfl (.inl rfl)) (pgs_cons (pg_name (i := 4) sc_stakes_at.nd rfl (.inl rfl)) (pgs_cons (pg_name (i := 5) sc_stakes_at.nd rfl (.inl rfl)) (pgs_cons (pg_name (i := 6) sc_stakes_at.nd rfl (.inl rfl)) (pgs_cons (pg_name (i := 7) sc_stakes_at.nd rfl (.inl rfl)) pgs_nil))))))) (pss_one (ps_ret (pe_tupleOf (by rfl) B.tuple (pe_lc (own := [("stake", 8)]) rfl sc_stakes_at.nd (pi_tup (pv 6)) (blkOk_by (N := N_stakes_at) (sc := defScope s_stakes_at) (by decide +kernel)) (fun _ _ _ _ _ => pg_name (i := 8) sc_stakes_at.nd rfl (.inl rfl)) (fun _ _ _ _ _ => pts_nil) (fun _ _ _ _ _ => pe_c c_worth hr (by omega) (by rfl) (pa_cons (pv 8) (pa_cons (pv 1) (pa_cons (pv 2) pa_nil))))))))), ?_⟩
    have hul := hus.len
    refine ⟨.ref p, rfl, p, _, rfl, hp, rfl, _, _, rfl, _, _, rfl, _, _, rfl, _, _, rfl, _, _, rfl, rfl, ?_⟩
    refine ⟨.ref ps, rfl, ps, rfl, ⟨_, hps⟩, fun D' nD => lc_tup (xs := us) (fun i H' => Same H H' ∧ H' D' = some (.lst (((D.stakes.take i).map (wo rs ss)).map V.int))) ⟨same_new nD, upd_same⟩ (fun i H' _ h => same_sqt h.1 hps) ?_ ?_⟩
    · rintro i x H1 hx ⟨sm1, hD1⟩
      have hil := (List.getElem?_eq_some_iff.mp hx).1
      obtain ⟨e, he, xe⟩ := hus.get' hx
      obtain ⟨oe, de⟩ := hst e (List.mem_of_getElem? he)
      refine ⟨rfl, tYes_in ?_⟩
      refine ⟨x, rfl, r, rfl, sv, rfl, x, r, sv, e, many, rs, ss, rfl, xe.same sm1, oe, de, hR.same sm1, hS.same sm1, _, hD1, ?_, fun b' o eb => ?_, ?_⟩
      · rw [List.length_map, List.length_map, List.length_take]
        exact small1000 (by omega)
      · rw [upd_ne (ne_of_none eb nD)]
        exact sm1 _ _ eb
      · rw [upd_same, List.take_add_one, he, List.map_append, List.map_append]
        rfl
    · rintro H1 ⟨sm1, hD1⟩
      rw [hul, List.take_length] at hD1
      refine .inl ⟨D', _, rfl, SqL.of hD1, fun t nt => ?_⟩
      exact q _ t (sm1.trans (same_new nt)) (SqT.of upd_same)
def spOneFactor (K : PySem.W.Frag) (n : Nat) : Sp := fun vs H Q _ => ∃ (ov : V) (o : One) (many : Nat), vs = [ov] ∧ OneAt K H o ov ∧ PuOk many n o ∧ Q (.int (o.motes * pwr o.dbt.scale)) H
theorem ok_onefactor {f : Addr} {fd : FuncData} (F : Fun K "one_factor" "one_factor" s_one_factor f fd) (gF : mg "one_factor" = some (.ref f)) (b : Binds K fd ["one"] []) (B : Bl mg) {t1 : Tok} (mg_GREATEST_SCALE : mg "GREATEST_SCALE" = some (.int 4 t1)) (c_power : Cal P w K mg base 1 "power" spPower) {n : Nat} : Cal P w K mg base 2 "one_factor" (spOneFactor K n) := by
  refine ⟨f, fd, _, F.ok sc_one_factor (fun vs H Q E h => ?_) (fun cdv A outer s H vs Q E hr h => ?_), gF, F.kp, b⟩
  · obtain ⟨_, _, _, rfl, _⟩ := h
    rfl
  · obtain ⟨ov, o, many, rfl, hO, ok, q⟩ := h
    obtain ⟨p, dv, rv, rfl, hp, hD, hR⟩ := hO
    refine ⟨_, (pss_cons (ps_asg (pv 0) (pg_tup rfl (pgs_cons (pg_name (i := 1) sc_one_factor.nd rfl (.inl rfl)) (pgs_cons (pg_name (i := 2) sc_one_factor.nd rfl (.inl rfl)) (pgs_cons (pg_name (i := 3) sc_one_factor.nd rfl (.inl rfl)) (pgs_cons (pg_name (i := 4) sc_one_factor.nd rfl (.inl rfl)) (pgs_cons (pg_name (i := 5) sc_one_factor.nd rfl (.inl rfl)) (pgs_cons (pg_name (i := 6) sc_one_factor.nd rfl (.inl rfl)) (pgs_cons (pg_name (i := 7) sc_one_factor.nd rfl (.inl rfl)) (pgs_cons (pg_name (i := 8) sc_one_factor.nd rfl (.inl rfl)) pgs_nil)))))))))) (pss_one (ps_ret (pe_op op_mul (pv 5) (pe_c c_power hr (by omega) (by rfl) (pa_cons (pe_op op_sub (pe_glob (v := .int (4)) (by rfl) mg_GREATEST_SCALE ⟨_, rfl⟩) (pe_ix ix_tup (pv 2) pe_int (fun _ _ => rfl))) pa_nil)))))), ?_⟩
    refine ⟨.ref p, rfl, p, _, rfl, hp, rfl, _, _, rfl, _, _, rfl, _, _, rfl, _, _, rfl, _, _, rfl, _, _, rfl, _, _, rfl, _, _, rfl, rfl, ?_⟩
    obtain ⟨pd, vb, ps, pb, us, ws, rfl, hpd, hvb, hps, hus, hpb, hws⟩ := id hD
    exact ⟨.int o.motes, rfl, .ref pd, rfl, pd, _, 1, _, rfl, rfl, hpd, rfl, 4, _, rfl, rfl, o.dbt.scale, rfl, ok.sc, _, _, rfl, rfl, .inl ⟨by have := ok.m1; omega, by have := ok.m1; omega⟩, q⟩
theorem wo_abs {K : PySem.W.Frag} {H : Hp} {many : Nat} {ss rs : List Int} {sv rv : V} {e : Ex} (hS : ShAt K H many ss sv) (hR : RegsAt K H rs rv) (ho : ExOk many e) (hd : e.dep ≤ 10) : (wo rs ss e).natAbs < 2 ^ 400 := by
  obtain ⟨_, _, _, hsl, hsb, hs0, hsn⟩ := hS
  obtain ⟨_, _, _, hrl, hrb⟩ := hR
  obtain ⟨h1, h2⟩ := in_span hrl hrb hsl (fun x hx => (hsb x hx).1) e ho
  obtain ⟨b1, b2⟩ := spn_bnd ho
  have c1 := bnd_600 hd b1
  have c2 := bnd_600 hd b2
  have z : ss.sum.natAbs < 2 ^ 60 := by omega
  have d1 := wide_lt c1 z
  have d2 := wide_lt c2 z
  have e1 : (2 : Nat) ^ (300 + 60) < 2 ^ 400 := Nat.pow_lt_pow_right (by decide) (by decide)
  generalize (2 : Nat) ^ (300 + 60) = X at *
  generalize (2 : Nat) ^ 400 = Y at *
  omega
theorem ok_onepull {f : Addr} {fd : FuncData} (F : Fun K "one_pull" "one_pull" s_one_pull f fd) (gF : mg "one_pull" = some (.ref f)) (b : Binds K fd ["one", "shares"] []) (B : Bl mg) {n : Nat} (hn10 : n ≤ 10) (c_one_factor : Cal P w K mg base 2 "one_factor" (spOneFactor K n)) (c_stakes_at : Cal P w K mg base (n + 3) "stakes_at" (spStakes K n)) : Cal P w K mg base (n + 4) "one_pull" (spOnePull K n) := by
  refine ⟨f, fd, _, F.ok sc_one_pull (fun vs H Q E h => ?_) (fun cdv A outer s H vs Q E hr h => ?_), gF, F.kp, b⟩
  · obtain ⟨_, _, _, _, _, rfl, _⟩ := h
    rfl
  · obtain ⟨ov, sv, o, many, ss, rfl, hO, ok, hm, hS, q⟩ := h
    obtain ⟨p, dv, rv, rfl, hp, hD, hR⟩ := id hO
    have hS' := hS
    have hR' := hR
    refine ⟨_, (pss_cons (ps_set (i := 2) sc_one_pull.nd rfl (.inr rfl) (pe_c c_one_factor hr (by omega) (by rfl) (pa_cons (pv 0) pa_nil))) (pss_one (ps_ret (pe_lc (own := [("stake", 3)]) rfl sc_one_pull.nd (pi_tup (pe_c c_stakes_at hr (by omega) (by rfl) (pa_cons (pe_ix ix_tup (pv 0) pe_int (fun _ _ => rfl)) (pa_cons (pe_ix ix_tup (pv 0) pe_int (fun _ _ => rfl)) (pa_cons (pv 1) pa_nil))))) (blkOk_by (N := N_one_pull) (sc := defScope s_one_pull) (by decide +kernel)) (fun _ _ _ _ _ => pg_name (i := 3) sc_one_pull.nd rfl (.inl rfl)) (fun _ _ _ _ _ => pts_nil) (fun _ _ _ _ _ => pe_op op_mulW (pv 2) (pv 3)))))), ?_⟩
    have hb := pwr_bnd o.dbt.scale
    have hf : 0 ≤ o.motes * pwr o.dbt.scale ∧ o.motes * pwr o.dbt.scale ≤ 4611686018427387904 * 16 := ⟨Int.mul_nonneg ok.m1.1 (by omega), Int.mul_le_mul ok.m1.2 hb.2 (by omega) (by decide)⟩
    refine ⟨.ref p, rfl, .ref p, o, many, rfl, hO, ok, ?_⟩
    refine ⟨.ref p, rfl, p, _, 1, _, rfl, rfl, hp, rfl, .ref p, rfl, p, _, 2, _, rfl, rfl, hp, rfl, sv, rfl, dv, rv, sv, o.dbt, many, o.regs, ss, rfl, hD, by have := ok.sl; omega, ok.st, hR, hS, fun H1 t1 sm1 ht1 => ?_⟩
    have hl : ((o.dbt.stakes.map (wo o.regs ss)).map V.int).length = many := by rw [List.length_map, List.length_map]; exact ok.sl
    refine ⟨t1, rfl, ⟨_, ht1⟩, fun D' nD => lc_tup (xs := (o.dbt.stakes.map (wo o.regs ss)).map V.int) (fun i H' => Same H1 H' ∧ H' D' = some (.lst (((onePull ss o).take i).map V.int))) ⟨same_new nD, upd_same⟩ (fun i H' _ h => same_sqt h.1 ht1) ?_ ?_⟩
    · rintro i x H2 hx ⟨sm2, hD2⟩
      have hil := (List.getElem?_eq_some_iff.mp hx).1
      rw [hl] at hil
      have hie : i < o.dbt.stakes.length := by have := ok.sl; omega
      have ex : x = V.int (wo o.regs ss o.dbt.stakes[i]) := by
        rw [List.getElem?_map, List.getElem?_map, List.getElem?_eq_getElem hie] at hx
        exact (Option.some.inj hx).symm
      subst ex
      refine ⟨rfl, tYes_in ?_⟩
      refine ⟨_, rfl, _, rfl, _, _, rfl, rfl, wide_mul (a := 70) (b := 400) (by omega) (wo_abs hS' hR' (ok.st _ (List.getElem_mem hie)).1 (Nat.le_trans (ok.st _ (List.getElem_mem hie)).2 hn10)) (by decide) (by decide) (by decide), _, hD2, ?_, fun b' o eb => ?_, ?_⟩
      · rw [List.length_map, List.length_take]
        exact small1000 (by omega)
      · rw [upd_ne (ne_of_none eb nD)]
        exact sm2 _ _ eb
      · have eg : (onePull ss o)[i]? = some (o.motes * pwr o.dbt.scale * wo o.regs ss o.dbt.stakes[i]) := by
          unfold onePull
          rw [List.getElem?_map, List.getElem?_eq_getElem hie]
          rfl
        rw [upd_same, List.take_add_one, eg, List.map_append]
        rfl
    · rintro H2 ⟨sm2, hD2⟩
      have e1 : (onePull ss o).length = many := by unfold onePull; rw [List.length_map]; exact ok.sl
      rw [hl, ← e1, List.take_length] at hD2
      exact q _ D' (sm1.trans sm2) (sm1.free nD) hD2
theorem fn_pull {f : Addr} {fd : FuncData} (F : Fun K "pull" "pull" s_pull f fd) (B : Bl mg) (c_ones : Cal P w K mg base 10 "ones" (spOnes K 8)) {n : Nat} (c_one_pull : Cal P w K mg base (n + 4) "one_pull" (spOnePull K n)) : FnOk P w K mg base CX0 (n + 11) f fd ["house", "shares"] (spPull K n) := by
  refine F.ok sc_pull (fun vs H Q E h => ?_) (fun cdv A outer s H vs Q E hr h => ?_)
  · obtain ⟨_, _, _, _, _, _, _, rfl, _⟩ := h
    rfl
  · obtain ⟨p, pm, sv, xs, m, many, ss, rfl, hp, hpm, hm, hdp, hc, hall, hm2, hm3, hS, q⟩ := h
    refine ⟨_, (pss_cons (ps_asg (pv 0) (pg_tup rfl (pgs_cons (pg_name (i := 2) sc_pull.nd rfl (.inl rfl)) (pgs_cons (pg_name (i := 3) sc_pull.nd rfl (.inl rfl)) pgs_nil)))) (pss_cons (ps_set (i := 4) sc_pull.nd rfl (.inr rfl) (pe_lc (own := [("path", 5), ("one", 6)]) rfl sc_pull.nd (pi_tup (pe_c c_ones hr (by omega) (by rfl) (pa_cons (pv 0) pa_nil))) (blkOk_by (N := N_pull) (sc := defScope s_pull) (by decide +kernel)) (fun _ _ _ _ _ => pgtK (n := 2) K rfl (pgs_cons (pg_name (i := 5) sc_pull.nd rfl (.inl rfl)) (pgs_cons (pg_name (i := 6) sc_pull.nd rfl (.inl rfl)) pgs_nil))) (fun _ _ _ _ _ => pts_nil) (fun _ _ _ _ _ => pe_c c_one_pull hr (by omega) (by rfl) (pa_cons (pv 6) (pa_cons (pv 1) pa_nil))))) (pss_one (ps_ret (pe_tupleOf (by rfl) B.tuple (pe_lc (own := [("sign", 8)]) rfl sc_pull.nd (pi_range1 rfl B.range (pa_cons (pv 2) pa_nil)) (blkOk_by (N := N_pull) (sc := defScope s_pull) (by decide +kernel)) (fun _ _ _ _ _ => pg_name (i := 8) sc_pull.nd rfl (.inr rfl)) (fun _ _ _ _ _ => pts_nil) (fun _ _ _ _ _ => pe_callB (sumL K rfl) (by rfl) B.sum (by decide +kernel) (pa_cons (pe_lc (own := [("row", 7)]) rfl sc_pull.nd (pilK K (pv 4)) (blkOk_by (by rfl)) (fun _ _ _ _ _ => pg_name (i := 7) sc_pull.nd rfl (.inl rfl)) (fun _ _ _ _ _ => pts_nil) (fun _ _ _ _ _ => pe_ix (ixl K) (pv 7) (pv 8) (fun _ _ => rfl))) pa_nil)))))))), ?_⟩
    refine ⟨.ref p, rfl, p, _, rfl, hp, rfl, _, _, rfl, _, _, rfl, rfl, ?_⟩
    refine ⟨.ref p, rfl, p, pm, xs, _, m, rfl, hp, hpm, hm, hdp, hc, by omega, fun H1 t us sm1 ht hpr => ?_⟩
    have hul : us.length ≤ 300 := by
      rw [hpr.len, ones_len]
      exact Nat.le_trans (ao_len m) hc
    refine ⟨t, rfl, ⟨_, ht⟩, fun D nD => lc_tup (xs := us) (fun i H' => ∃ ws, Same H1 H' ∧ H' D = some (.lst ws) ∧ RlAt H' D ws (((onesI m).take i).map (opF ss))) ⟨[], same_new nD, upd_same, trivial⟩ (fun i H' _ h => ?_) ?_ ?_⟩
    · obtain ⟨_, sm, _⟩ := h
      exact same_sqt sm ht
    · rintro i x H2 hx ⟨ws, sm2, hD2, hws⟩
      have hil := (List.getElem?_eq_some_iff.mp hx).1
      obtain ⟨it, hit, t2, h, v, rfl, qt, qh, mk⟩ := hpr.get hx
      have hone : isOne it = true := (List.mem_filter.mp (List.mem_of_getElem? hit)).2
      have hmem := (List.mem_filter.mp (List.mem_of_getElem? hit)).1
      have hwl : ws.length ≤ i := by
        rw [hws.len, List.length_map, List.length_take]
        omega
      obtain ⟨pth, k⟩ := it
      cases k with
      | house nm m2 => cases hone
      | one o =>
        have ok := std_all m [] 0 hall _ hmem o rfl
        refine ⟨t2, _, rfl, same_sqt sm2 qt, rfl, _, _, rfl, _, _, rfl, rfl, rfl, tYes_in ?_⟩
        refine ⟨v, rfl, sv, rfl, v, sv, o, many, ss, rfl, OneAt.imp mk fun _ _ h => same_sqt sm2 h, ok, hm3, hS.same (sm1.trans sm2), fun H3 l sm3 nl hl => ?_⟩
        have hD3 := sm3 _ _ hD2
        have nlD : l ≠ D := fun z => by rw [z, hD2] at nl; cases nl
        refine ⟨ws, hD3, small1000 (by omega), ws ++ [.ref l], fun b' o eb => ?_, upd_same, ?_⟩
        · rw [upd_ne (ne_of_none eb nD)]
          exact sm3 _ _ (sm2 _ _ eb)
        · rw [List.take_add_one, hit, List.map_append]
          exact (RlAt.snoc nlD hl (hws.same sm3)).put
    · rintro H2 ⟨ws, sm2, hD2, hws⟩
      rw [hpr.len, List.take_length, op_all] at hws
      have hwl : ws.length ≤ 300 := by
        rw [hws.len, List.length_map]
        exact Nat.le_trans (ao_len m) hc
      refine ⟨.int (many : Int), rfl, _, rfl, by omega, by omega, fun D2 nD2 => lc_range (n := ((many : Int)).toNat) (fun j H' => Same H2 H' ∧ H' D2 = some (.lst (((pullI many ss (aoI m)).take j).map V.int))) ⟨same_new nD2, upd_same⟩ ?_ ?_⟩
      · rintro j H3 hj ⟨sm3, hD3⟩
        have hj : j < many := by omega
        refine ⟨rfl, tYes_in ?_⟩
        refine ⟨.ref D, rfl, D, rfl, ⟨_, SqL.of (sm3 _ _ hD2)⟩, fun D4 nD4 => lc_list (xs := ws) (fun i H' => Same H3 H' ∧ H' D4 = some (.lst ((((aoI m).take i).map fun o => (onePull ss o).getD j 0).map V.int))) ⟨same_new nD4, upd_same⟩ (fun i H' _ h => SqL.of (h.1 _ _ (sm3 _ _ hD2))) ?_ ?_⟩
        · rintro i x H4 hx ⟨sm4, hD4⟩
          have hil := (List.getElem?_eq_some_iff.mp hx).1
          obtain ⟨row, l, hrow, rfl, hl⟩ := (hws.same (sm3.trans sm4)).get hx
          rw [List.getElem?_map] at hrow
          obtain ⟨o, ho, rfl⟩ : ∃ o, (aoI m)[i]? = some o ∧ onePull ss o = row := by
            cases hz : (aoI m)[i]? with
            | none => rw [hz] at hrow; cases hrow
            | some o => rw [hz] at hrow; exact ⟨o, rfl, Option.some.inj hrow⟩
          have ok := ao_all hall o (List.mem_of_getElem? ho)
          have hlen : (onePull ss o).length = many := by unfold onePull; rw [List.length_map]; exact ok.sl
          refine ⟨rfl, tYes_in ?_⟩
          refine ⟨.ref l, rfl, .int (0 + (j : Int)), rfl, l, _, _, _, rfl, rfl, SqL.of hl, at_int (by omega) (by omega), _, hD4, ?_, fun b' o eb => ?_, ?_⟩
          · rw [List.length_map, List.length_map, List.length_take]
            exact small1000 (by omega)
          · rw [upd_ne (ne_of_none eb nD4)]
            exact sm4 _ _ eb
          · rw [upd_same, List.take_add_one, ho, List.map_append, List.map_append, show (0 + (j : Int)).toNat = j by omega]
            rfl
        · rintro H4 ⟨sm4, hD4⟩
          have ewl : ws.length = (aoI m).length := by rw [hws.len, List.length_map]
          rw [ewl, List.take_length] at hD4
          refine ⟨D4, _, rfl, SqL.of hD4, _, sm4 _ _ hD3, ?_, fun b' o eb => ?_, ?_⟩
          · rw [List.length_map, List.length_take]
            exact small1000 (by omega)
          · rw [upd_ne (ne_of_none eb nD2)]
            exact sm4 _ _ (sm3 _ _ eb)
          · have eg : (pullI many ss (aoI m))[j]? = some (((aoI m).map fun o => (onePull ss o).getD j 0).sum) := by
              unfold pullI
              rw [List.getElem?_map, List.getElem?_range hj]
              rfl
            rw [upd_same, List.take_add_one, eg, List.map_append]
            rfl
      · rintro H3 ⟨sm3, hD3⟩
        have e1 : (pullI many ss (aoI m)).length = ((many : Int)).toNat := by
          unfold pullI
          rw [List.length_map, List.length_range]
          omega
        rw [← e1, List.take_length] at hD3
        refine .inl ⟨D2, _, rfl, SqL.of hD3, fun t nt => ?_⟩
        exact q _ t (((sm1.trans sm2).trans sm3).trans (same_new nt)) (SqT.of upd_same)
end
end NG

namespace NG
open PySem PySem.Spec PyProof.Rows L2
theorem walk_zT {K : PySem.W.Frag} {a b : Addr} {us ws : List V} {n : Nat} (hx : us.length = n) (hy : ws.length = n) : Walk (RZ.ItzT K a b) n (fun H => SqT K H a us ∧ SqT K H b ws) (YPair (fun i => us[i]?) (fun i => ws[i]?)) := by
  refine ⟨fun i H hi q => ⟨us, ws, us[i]'(by omega), ws[i]'(by omega), q.1, q.2, List.getElem?_eq_getElem _, List.getElem?_eq_getElem _⟩, fun H q => ⟨us, ws, q.1, q.2, by omega⟩, fun i H v H' hi q y => ?_⟩
  obtain ⟨T, x, z, h1, h2, h3, h4, h5⟩ := y
  exact ⟨T, x, z, h1, h2, h3, h4 us q.1, h5 ws q.2⟩
/-- a house that may pull, and shares -/
def PuAt (K : PySem.W.Frag) (H : Hp) (n : Nat) (p : Addr) (s : V) (m : Ms) (many : Nat) (ss : List Int) : Prop := ∃ (pm : Addr) (xs : List V), SqT K H p [.int (many : Int), .ref pm] ∧ SqT K H pm xs ∧ MsAt K H m xs ∧ m.dep < 8 ∧ m.cnt ≤ 300 ∧ m.all (PuOk many n) ∧ 2 ≤ many ∧ many ≤ 3 ∧ ShAt K H many ss s
theorem PuAt.same {K : PySem.W.Frag} {H H' : Hp} {n : Nat} {p : Addr} {s : V} {m : Ms} {many : Nat} {ss : List Int} (h : PuAt K H n p s m many ss) (sm : Same H H') : PuAt K H' n p s m many ss := by
  obtain ⟨pm, xs, h1, h2, h3, h4, h5, h6, h7, h8, h9⟩ := h
  exact ⟨pm, xs, same_sqt sm h1, same_sqt sm h2, h3.same sm, h4, h5, h6, h7, h8, h9.same sm⟩
theorem pull_len (many : Nat) (ss : List Int) (os : List One) : (pullI many ss os).length = many := by
  unfold pullI
  rw [List.length_map, List.length_range]
theorem zip_take {f : Int → Int → α} {ss ps : List Int} {i : Nat} {s p : Int} (h1 : ss[i]? = some s) (h2 : ps[i]? = some p) : (List.zipWith f ss ps).take (i + 1) = (List.zipWith f ss ps).take i ++ [f s p] := by
  have : (List.zipWith f ss ps)[i]? = some (f s p) := by
    rw [List.getElem?_zipWith, h1, h2]
  rw [List.take_add_one, this]
  rfl
def spGain (K : PySem.W.Frag) (n : Nat) : Sp := fun vs H Q _ => ∃ (p : Addr) (s : V) (m : Ms) (many : Nat) (ss : List Int) (j : Int), vs = [.ref p, s, .int j] ∧ PuAt K H n p s m many ss ∧ 0 ≤ j ∧ j < (many : Int) ∧
  ∀ H', Same H H' → Q (.int (gainI ss (pullI many ss (aoI m)) ((pullI many ss (aoI m)).getD j.toNat 0))) H'
/-- of a list's numbers the greatest -/
def Best (ps : List Int) (g : Int) : Prop := g ∈ ps ∧ ∀ p ∈ ps, p ≤ g
theorem Best.eq {ps : List Int} {g h : Int} (a : Best ps g) (b : Best ps h) : g = h := Int.le_antisymm (b.2 _ a.1) (a.2 _ b.1)
def spIsR (K : PySem.W.Frag) (n : Nat) : Sp := fun vs H Q _ => ∃ (p : Addr) (s : V) (m : Ms) (many : Nat) (ss : List Int), vs = [.ref p, s] ∧ PuAt K H n p s m many ss ∧
  ∀ H' g, Same H H' → Best (pullI many ss (aoI m)) g → Q (.bl (rightI ss (pullI many ss (aoI m)) g)) H'
section
variable {P : Program} {w : World} {K : PySem.W.Frag} {mg : Str → Option Value} {base : Heap}
theorem fn_isright {f : Addr} {fd : FuncData} (F : Fun K "is_right" "is_right" s_is_right f fd) (B : Bl mg) {n : Nat} (c_pull : Cal P w K mg base (n + 11) "pull" (spPull K n)) : FnOk P w K mg base CX0 (n + 12) f fd ["house", "shares"] (spIsR K n) := by
  refine F.ok sc_is_right (fun vs H Q E h => ?_) (fun cdv A outer s H vs Q E hr h => ?_)
  · obtain ⟨_, _, _, _, _, rfl, _⟩ := h
    rfl
  · obtain ⟨p, sv, m, many, ss, rfl, ⟨pm, xs, hp, hpm, hms, hdp, hc, hall, hm2, hm3, hS⟩, q⟩ := h
    refine ⟨_, (pss_cons (ps_set (i := 2) sc_is_right.nd rfl (.inl rfl) (pe_c c_pull hr (by omega) (by rfl) (pa_cons (pv 0) (pa_cons (pv 1) pa_nil)))) (pss_cons (ps_set (i := 3) sc_is_right.nd rfl (.inr rfl) (pe_callB (cr_maxT rfl hr.units) (by rfl) B.max (by decide +kernel) (pa_cons (pv 2) pa_nil))) (pss_one (ps_ret (pe_callB (cr_all rfl) (by rfl) B.all (by decide +kernel) (pa_cons (pe_lc (own := [("number", 4), ("pulled", 5)]) rfl sc_is_right.nd (RZ.pi_zipA (by rfl) B.zip (pa_cons (pv 1) (pa_cons (pv 2) pa_nil))) (blkOk_by (N := N_is_right) (sc := defScope s_is_right) (by decide +kernel)) (fun _ _ _ _ _ => pgtK (n := 2) K rfl (pgs_cons (pg_name (i := 4) sc_is_right.nd rfl (.inl rfl)) (pgs_cons (pg_name (i := 5) sc_is_right.nd rfl (.inl rfl)) pgs_nil))) (fun _ _ _ _ _ => pts_nil) (fun _ _ _ _ _ => pe_or (pe_cmpR op_eq (pv 4) pe_int (nomark _)) (pe_one (pe_cmpR op_eq (pv 5) (pv 3) (nomark _))))) pa_nil)))))), ?_⟩
    refine ⟨.ref p, rfl, sv, rfl, p, pm, sv, xs, m, many, ss, rfl, hp, hpm, hms, hdp, hc, hall, hm2, hm3, hS, fun H1 t sm1 ht => ?_⟩
    obtain ⟨ps, rfl, hps, hsl, hsb, hs0, hsn⟩ := hS.same sm1
    have hpl := pull_len many ss (aoI m)
    generalize pullI many ss (aoI m) = us at ht hpl q
    match us, hpl, ht, q with
    | [], hpl, _, _ => exact absurd hpl (by show ¬ 0 = many; omega)
    | u :: ur, hpl, ht, q =>
    refine ⟨.ref t, rfl, t, u, ur, rfl, ht, ?_⟩
    have hb : Best (u :: ur) (ur.foldl max u) := by
      obtain ⟨⟨h1, h2⟩, h3⟩ := foldl_max_spec ur u
      refine ⟨?_, fun p hp => ?_⟩
      · rcases h3 with h3 | h3
        · rw [h3]
          simp
        · exact List.mem_cons_of_mem _ h3
      · rcases List.mem_cons.mp hp with rfl | hp
        · exact h1
        · exact h2 _ hp
    generalize ur.foldl max u = g at hb
    generalize u :: ur = us at hpl ht q hb
    refine ⟨.ref ps, rfl, .ref t, rfl, ps, t, ss.map V.int, us.map V.int, rfl, .inr ⟨hps, ht, fun D nD => lc_it (walk_zT (n := many) (us := ss.map V.int) (ws := us.map V.int) (by rw [List.length_map]; exact hsl) (by rw [List.length_map]; exact hpl)) (fun i H' => Same H1 H' ∧ H' D = some (.lst (((List.zipWith (fun s p => (s == 0 || p == g)) ss us).take i).map V.bl))) ⟨same_new nD, upd_same⟩ (fun i H' _ h => ⟨same_sqt h.1 hps, same_sqt h.1 ht⟩) ?_ ?_⟩⟩
    · rintro i x H2 H3 hi ⟨sm2, hD2⟩ ⟨T, x1, x2, rfl, nT, rfl, e1, e2⟩
      obtain ⟨z1, rfl, g1⟩ := int_at e1
      obtain ⟨z2, rfl, g2⟩ := int_at e2
      have sT := same_new (o := .tup [.int z1, .int z2]) nT
      refine ⟨T, _, rfl, SqT.of upd_same, rfl, _, _, rfl, _, _, rfl, rfl, rfl, tYes_in ?_⟩
      have key : ∃ acc, (upd H2 T (.tup [.int z1, .int z2])) D = some (.lst acc) ∧ acc.length < sizeLine ∧ Same H1 (upd (upd H2 T (.tup [.int z1, .int z2])) D (.lst (acc ++ [.bl (z1 == 0 || z2 == g)]))) ∧ (upd (upd H2 T (.tup [.int z1, .int z2])) D (.lst (acc ++ [.bl (z1 == 0 || z2 == g)]))) D = some (.lst (((List.zipWith (fun s p => (s == 0 || p == g)) ss us).take (i + 1)).map V.bl)) := by
        refine ⟨_, sT _ _ hD2, ?_, fun b' o eb => ?_, ?_⟩
        · rw [List.length_map, List.length_take]
          exact small1000 (by omega)
        · rw [upd_ne (ne_of_none eb nD)]
          exact sT _ _ (sm2 _ _ eb)
        · rw [upd_same, zip_take g1 g2, List.map_append]
          rfl
      refine ⟨.int z1, rfl, rfl, _, rfl, ?_⟩
      by_cases c : z1 = 0
      · subst c
        exact iteTT rfl key
      · rw [show (z1 == 0) = false from beq_eq_false_iff_ne.mpr c, Bool.false_or] at key
        refine iteFF (decide_eq_false fun e => c (V.int.inj e)) ⟨.int z2, rfl, .int g, rfl, rfl, ?_⟩
        have e : decide (V.int z2 = V.int g) = (z2 == g) := by
          rw [Bool.eq_iff_iff, decide_eq_true_iff, beq_iff_eq]
          exact ⟨V.int.inj, congrArg _⟩
        rw [← e] at key
        exact key
    · rintro H2 ⟨sm2, hD2⟩
      have hzl : (List.zipWith (fun s p => ((s : Int) == 0 || p == g)) ss us).length = many := by
        rw [List.length_zipWith, hsl, hpl, Nat.min_self]
      rw [← hzl, List.take_length] at hD2
      refine ⟨D, _, rfl, SqL.of hD2, ?_⟩
      exact q _ g (sm1.trans sm2) hb
end
end NG

namespace NG
open PySem PySem.Spec PyProof.Rows L2
def spPow3 : Sp := fun vs H Q _ => ∃ s : Nat, vs = [.int (s : Int)] ∧ s < 5 ∧ Q (.int (pw2 s)) H
structure DyOk (many n nd : Nat) (o : One) : Prop where
  sc : o.dbt.scale < 5
  sl : o.dbt.stakes.length = many
  st : ∀ e ∈ o.dbt.stakes, ExOk many e ∧ e.dep ≤ n
  bl : o.dbt.behinds.length = many
  bh : ∀ d ∈ o.dbt.behinds, DsOk many d ∧ d.dep < nd
  m1 : 0 ≤ o.motes ∧ o.motes < 2 ^ 63
  o1 : 0 ≤ o.owed ∧ o.owed < 2 ^ 63
def spOneDay (K : PySem.W.Frag) (n nd : Nat) : Sp := fun vs H Q _ => ∃ (ov sv : V) (o : One) (many j : Nat) (ss : List Int), vs = [ov, sv, .int (j : Int)] ∧ OneAt K H o ov ∧ DyOk many n nd o ∧ 2 ≤ many ∧ many ≤ 3 ∧ j < many ∧ ShAt K H many ss sv ∧ ∀ H' v, Same H H' → OneAt K H' (dayO ap ss j o) v → Q v H'
section
variable {P : Program} {w : World} {K : PySem.W.Frag} {mg : Str → Option Value} {base : Heap}
theorem ok_pow3 {f : Addr} {fd : FuncData} (F : Fun K "power" "power" s_power f fd) (gF : mg "power" = some (.ref f)) (b : Binds K fd ["scale"] []) (B : Bl mg) : Cal P w K mg base 1 "power" spPow3 := by
  refine ⟨f, fd, _, F.ok sc_power (fun vs H Q E h => ?_) (fun cdv A outer s H vs Q E hr h => ?_), gF, F.kp, b⟩
  · obtain ⟨_, rfl, _⟩ := h
    rfl
  · obtain ⟨sc, rfl, hs, q⟩ := h
    refine ⟨_, (pss_one (ps_ret (pe_op op_shl pe_int (pe_callB (call_max2 rfl) (by rfl) B.max (by decide +kernel) (pa_cons pe_int (pa_cons (pv 0) pa_nil)))))), ?_⟩
    have : sc = 0 ∨ sc = 1 ∨ sc = 2 ∨ sc = 3 ∨ sc = 4 := by omega
    rcases this with rfl | rfl | rfl | rfl | rfl <;> exact ⟨_, rfl, _, _, rfl, _, _, rfl, rfl, ⟨by decide, by decide, by decide⟩, q⟩
theorem ok_oneday {f : Addr} {fd : FuncData} (F : Fun K "one_day" "one_day" s_one_day f fd) (gF : mg "one_day" = some (.ref f)) (b : Binds K fd ["one", "shares", "sign"] []) (B : Bl mg) {t1 : Tok} (mg_GOT_PARTS : mg "GOT_PARTS" = some (.int 1000000000 t1)) (c_power : Cal P w K mg base 1 "power" spPow3) {n nd lv : Nat} (hl1 : n + 3 ≤ lv) (hl2 : nd + 4 ≤ lv) (c_stakes_at : Cal P w K mg base (n + 3) "stakes_at" (spStakes K n)) (c_behind : Cal P w K mg base (nd + 4) "behind" (spBehind K nd)) : Cal P w K mg base (lv + 1) "one_day" (spOneDay K n nd) := by
  refine ⟨f, fd, _, F.ok sc_one_day (fun vs H Q E h => ?_) (fun cdv A outer s H vs Q E hr h => ?_), gF, F.kp, b⟩
  · obtain ⟨_, _, _, _, _, _, rfl, _⟩ := h
    rfl
  · obtain ⟨ov, sv, o, many, j, ss, rfl, hO, ok, hm2, hm3, hj, hS, q⟩ := h
    obtain ⟨p, dv, rv, rfl, hp, hD, hR⟩ := hO
    obtain ⟨psv, rfl, hps, hsl, hsb, hs0, hsn⟩ := id hS
    refine ⟨_, (C8.pss_cut (ps_asg (pv 0) (pg_tup rfl (pgs_cons (pg_name (i := 3) sc_one_day.nd rfl (.inl rfl)) (pgs_cons (pg_name (i := 4) sc_one_day.nd rfl (.inl rfl)) (pgs_cons (pg_name (i := 5) sc_one_day.nd rfl (.inl rfl)) (pgs_cons (pg_name (i := 6) sc_one_day.nd rfl (.inl rfl)) (pgs_cons (pg_name (i := 7) sc_one_day.nd rfl (.inl rfl)) (pgs_cons (pg_name (i := 8) sc_one_day.nd rfl (.inl rfl)) (pgs_cons (pg_name (i := 9) sc_one_day.nd rfl (.inl rfl)) (pgs_cons (pg_name (i := 10) sc_one_day.nd rfl (.inl rfl)) pgs_nil)))))))))) (pss_cons (ps_set (i := 11) sc_one_day.nd rfl (.inl rfl) (pe_c c_stakes_at hr (by omega) (by rfl) (pa_cons (pv 4) (pa_cons (pv 5) (pa_cons (pv 1) pa_nil))))) (pss_cons (ps_set (i := 12) sc_one_day.nd rfl (.inl rfl) (pe_op op_mul (pe_op op_mul (pe_op op_mul pe_int (pe_c c_power hr (by omega) (by rfl) (pa_cons (pe_ix ix_tup (pv 4) pe_int (fun _ _ => rfl)) pa_nil))) (pe_callB (cr_sumT rfl) (by rfl) B.sum (by decide +kernel) (pa_cons (pv 1) pa_nil))) (pe_callB (cr_sumT rfl) (by rfl) B.sum (by decide +kernel) (pa_cons (pv 1) pa_nil)))) (pss_cons (ps_set (i := 13) sc_one_day.nd rfl (.inl rfl) (pe_callB (cr_sum rfl) (by rfl) B.sum (by decide +kernel) (pa_cons (pe_lc (own := [("number", 14), ("stake", 15)]) rfl sc_one_day.nd (RZ.pi_zipA (by rfl) B.zip (pa_cons (pv 1) (pa_cons (pv 11) pa_nil))) (blkOk_by (N := N_one_day) (sc := defScope s_one_day) (by decide +kernel)) (fun _ _ _ _ _ => pgtK (n := 2) K rfl (pgs_cons (pg_name (i := 14) sc_one_day.nd rfl (.inl rfl)) (pgs_cons (pg_name (i := 15) sc_one_day.nd rfl (.inl rfl)) pgs_nil))) (fun _ _ _ _ _ => pts_nil) (fun _ _ _ _ _ => pe_op op_mul (pv 14) (pv 15))) pa_nil))) (C8.pss_cut (ps_set (i := 16) sc_one_day.nd rfl (.inl rfl) (pe_op op_sub (pe_op op_mul (pe_callB (cr_sumT rfl) (by rfl) B.sum (by decide +kernel) (pa_cons (pv 1) pa_nil)) (pe_ix ix_tup (pv 11) (pv 2) (fun _ _ => rfl))) (pv 13))) (pss_one (ps_ret (pe_tup (pa_cons (pv 3) (pa_cons (pv 4) (pa_cons (pe_c c_behind hr (by omega) (by rfl) (pa_cons (pv 4) (pa_cons (pv 5) (pa_cons (pv 1) (pa_cons (pv 2) pa_nil))))) (pa_cons (pv 6) (pa_cons (pe_op op_fdivW (pe_op op_mul (pv 7) (pe_op op_add (pv 12) (pv 16))) (pv 12)) (pa_cons (pe_op op_add (pe_un un_neg (pe_op op_fdivW (pe_op op_mul (pe_un un_neg (pv 8)) (pe_op op_add (pv 12) (pv 16))) (pv 12))) pe_int) (pa_cons (pe_cut (pe_ifExp (pt_cmpR op_eq (pe_callB (cr_minT rfl hr.units) (by rfl) B.min (by decide +kernel) (pa_cons (pv 11) pa_nil)) (pe_callB (cr_maxT rfl hr.units) (by rfl) B.max (by decide +kernel) (pa_cons (pv 11) pa_nil)) (nomark _)) (pv 9) (pe_op op_add (pv 9) pe_int))) (pa_cons (pe_op op_add (pv 10) (pe_op op_fdivW (pe_op op_mul (pe_glob (v := .int (1000000000)) (by rfl) mg_GOT_PARTS ⟨_, rfl⟩) (pv 16)) (pv 12))) pa_nil)))))))))))))))), ?_⟩
    refine ⟨fun σ' H' => σ' = [some (.ref p), some (.ref psv), some (.int (j : Int)), some (.str "one"), some dv, some rv, some (.int o.weight), some (.int o.motes), some (.int o.owed), some (.int o.days), some (.int o.got), none, none, none, none, none, none] ∧ H = H', ⟨.ref p, rfl, p, _, rfl, hp, rfl, _, _, rfl, _, _, rfl, _, _, rfl, _, _, rfl, _, _, rfl, _, _, rfl, _, _, rfl, _, _, rfl, rfl, rfl, rfl⟩, ?_⟩
    rintro σ' H' ⟨rfl, rfl⟩
    obtain ⟨pd, vb, pst, pb, us, ws, rfl, hpd, hvb, hpst, hus, hpb, hws⟩ := id hD
    have hwl : (wsI ss o).length = many := by unfold wsI; rw [List.length_map]; exact ok.sl
    have hp2 := pw2_bnd o.dbt.scale
    refine ⟨.ref pd, rfl, rv, rfl, .ref psv, rfl, .ref pd, rv, .ref psv, o.dbt, many, o.regs, ss, rfl, hD, by have := ok.sl; omega, ok.st, hR, hS, fun H1 t1 sm1 ht1 => ?_⟩
    have ht1 : SqT K H1 t1 ((wsI ss o).map V.int) := ht1
    have hpd1 := same_sqt sm1 hpd
    have hps1 := same_sqt sm1 hps
    refine ⟨.ref pd, rfl, pd, _, 1, _, rfl, rfl, hpd1, rfl, o.dbt.scale, rfl, ok.sc, 1000, _, rfl, rfl, .inl ⟨by decide, by decide⟩, .ref psv, rfl, psv, ss, rfl, hps1, _, _, rfl, rfl, .inl ⟨by omega, by omega⟩, .ref psv, rfl, psv, ss, rfl, hps1, _, _, rfl, rfl, .inr ⟨by omega, by omega⟩, ?_⟩
    -- paid
    refine ⟨.ref psv, rfl, .ref t1, rfl, psv, t1, ss.map V.int, (wsI ss o).map V.int, rfl, .inr ⟨hps1, ht1, fun D2 nD2 => lc_it (walk_zipT (K := K) (a := psv) (b := t1) (xs := ss.map V.int) (ys := (wsI ss o).map V.int) (n := many) (by rw [List.length_map]; exact hsl) (by rw [List.length_map]; exact hwl)) (fun i H' => Same H1 H' ∧ H' D2 = some (.lst (((List.zipWith (· * ·) ss (wsI ss o)).take i).map V.int))) ⟨same_new nD2, upd_same⟩ (fun i H' _ h => ⟨same_sqt h.1 hps1, same_sqt h.1 ht1⟩) ?_ ?_⟩⟩
    · rintro i x Ha Hb hi ⟨sma, hDa⟩ ⟨T, x1, x2, rfl, nT, rfl, e1, e2⟩
      obtain ⟨z1, rfl, g1⟩ := int_at e1
      obtain ⟨z2, rfl, g2⟩ := int_at e2
      have hz := hsb z1 (List.mem_of_getElem? g1)
      have sT := same_new (o := .tup [.int z1, .int z2]) nT
      refine ⟨T, _, rfl, SqT.of upd_same, rfl, _, _, rfl, _, _, rfl, rfl, rfl, tYes_in ?_⟩
      refine ⟨.int z1, rfl, .int z2, rfl, _, _, rfl, rfl, .inl ⟨by omega, by omega⟩, _, sT _ _ hDa, ?_, fun b' o eb => ?_, ?_⟩
      · rw [List.length_map, List.length_take]
        exact small1000 (by omega)
      · rw [upd_ne (ne_of_none eb nD2)]
        exact sT _ _ (sma _ _ eb)
      · have eg : (List.zipWith (· * ·) ss (wsI ss o))[i]? = some (z1 * z2) := by rw [List.getElem?_zipWith, g1, g2]
        rw [upd_same, List.take_add_one, eg, List.map_append]
        rfl
    rintro H2 ⟨sm2, hD2⟩
    rw [List.take_of_length_le (by rw [List.length_zipWith, hsl, hwl, Nat.min_self]; exact Nat.le_refl _)] at hD2
    refine ⟨D2, _, rfl, SqL.of hD2, ?_⟩
    have sm12 := sm1.trans sm2
    have ht2 := same_sqt sm2 ht1
    have hps2 := same_sqt sm2 hps1
    -- won
    refine ⟨fun σ' H' => σ' = [some (.ref p), some (.ref psv), some (.int (j : Int)), some (.str "one"), some (.ref pd), some rv, some (.int o.weight), some (.int o.motes), some (.int o.owed), some (.int o.days), some (.int o.got), some (.ref t1), some (.int (fullI ss o)), some (.int (dotI ss (wsI ss o))), none, none, some (.int (winI ss j o))] ∧ H2 = H', ?_, ?_⟩
    · exact ⟨.ref psv, rfl, psv, ss, rfl, hps2, .ref t1, rfl, .int (j : Int), rfl, t1, _, _, _, rfl, rfl, ht2, at_nth (by omega), _, _, rfl, rfl, .inl ⟨by omega, by omega⟩, .int (dotI ss (wsI ss o)), rfl, _, _, rfl, rfl, rfl, rfl⟩
    rintro σ' H' ⟨rfl, rfl⟩
    have hfull : 0 < fullI ss o := Int.mul_pos (Int.mul_pos (by omega) hs0) hs0
    have hfb : (fullI ss o).natAbs < 2 ^ 200 := by
      unfold fullI
      have z1 : (1000 * pw2 o.dbt.scale).natAbs < 2 ^ 20 := by omega
      have z2 : ss.sum.natAbs < 2 ^ 60 := by omega
      exact Nat.lt_of_lt_of_le (wide_lt (wide_lt z1 z2) z2) (Nat.pow_le_pow_right (by decide) (by decide))
    obtain ⟨d, hd⟩ : ∃ d, o.dbt.behinds[j]? = some d := ⟨_, List.getElem?_eq_getElem (by have := ok.bl; omega)⟩
    have hdm := ok.bh d (List.mem_of_getElem? hd)
    have edd : o.dbt.behinds.getD j .nil = d := by rw [List.getD_eq_getElem?_getD, hd]; rfl
    have hS2 : ShAt K H2 many ss (.ref psv) := ⟨psv, rfl, hps2, hsl, hsb, hs0, hsn⟩
    have m1 := ok.m1
    have o1 := ok.o1
    refine ⟨.str "one", rfl, .ref pd, rfl, .ref pd, rfl, rv, rfl, .ref psv, rfl, .int (j : Int), rfl, .ref pd, rv, .ref psv, j, many, o.dbt, d, o.regs, ss, rfl, hD.same sm12, hd, hdm.1, hdm.2, hR.imp fun _ _ h => same_sqt sm12 h, hS2, fun H3 v3 sm3 hv3 => ?_⟩
    refine ⟨.int o.weight, rfl, .int o.motes, rfl, .int (fullI ss o), rfl, .int (winI ss j o), rfl, _, _, rfl, rfl, _, _, rfl, rfl, .inl ⟨by omega, by omega⟩, .int (fullI ss o), rfl, _, _, rfl, rfl, wide_div (b := 200) hfull hfb (by decide) (by decide), ?_⟩
    refine ⟨.int o.owed, rfl, _, rfl, .int (fullI ss o), rfl, .int (winI ss j o), rfl, _, _, rfl, rfl, _, _, rfl, rfl, .inl ⟨by omega, by omega⟩, .int (fullI ss o), rfl, _, _, rfl, rfl, wide_div (b := 200) hfull hfb (by decide) (by decide), _, rfl, _, _, rfl, rfl, ?_⟩
    obtain ⟨n0, ns0, en⟩ : ∃ n0 ns0, wsI ss o = n0 :: ns0 := by
      cases h : wsI ss o with
      | nil => rw [h] at hwl; simp at hwl; omega
      | cons x r => exact ⟨x, r, rfl⟩
    have ht3 := same_sqt sm3 ht2
    refine ⟨fun v H' => v = .int (if alikeI (wsI ss o) = true then o.days else o.days + 1) ∧ H3 = H', ?_, ?_⟩
    · refine ⟨.ref t1, rfl, t1, n0, ns0, rfl, by rw [← en]; exact ht3, .ref t1, rfl, t1, n0, ns0, rfl, by rw [← en]; exact ht3, rfl, _, rfl, ?_⟩
      rw [en]
      show if decide (V.int (ns0.foldl min n0) = V.int (ns0.foldl max n0)) = true then _ else _
      rw [dec_int, alike_eq]
      cases alikeI (n0 :: ns0) with
      | true => exact iteT ⟨.int o.days, rfl, rfl, rfl⟩
      | false => exact iteF ⟨.int o.days, rfl, _, _, rfl, rfl, rfl, rfl⟩
    rintro v H' ⟨rfl, rfl⟩
    refine ⟨.int o.got, rfl, .int (winI ss j o), rfl, 1000000000, _, rfl, rfl, .inl ⟨by decide, by decide⟩, .int (fullI ss o), rfl, _, _, rfl, rfl, wide_div (b := 200) hfull hfb (by decide) (by decide), _, _, rfl, rfl, (by show 8 ≤ sizeLine; decide), fun t4 n4 => ?_⟩
    dsimp only at n4 ⊢
    have s4 := same_new (o := .tup [.str "one", .ref pd, v3, .int o.weight, .int (o.motes * (fullI ss o + winI ss j o) / fullI ss o), .int (-(-o.owed * (fullI ss o + winI ss j o) / fullI ss o) + 1), .int (if alikeI (wsI ss o) = true then o.days else o.days + 1), .int (o.got + 1000000000 * winI ss j o / fullI ss o)]) n4
    have sm4 := (sm12.trans sm3).trans s4
    refine q _ _ sm4 ⟨t4, .ref pd, v3, rfl, SqT.of upd_same, hD.same sm4, ?_⟩
    show RegsAt K _ (ap ss (o.dbt.behinds.getD j .nil) o.regs) v3
    rw [edd]
    exact hv3.imp fun _ _ h => same_sqt s4 h
end
end NG

namespace NG
open PySem PySem.Spec PyProof.Rows L2
def spMembersDay (K : PySem.W.Frag) (n nd d : Nat) : Sp := fun vs H Q _ => ∃ (pm : Addr) (sv : V) (xs : List V) (m : Ms) (many j : Nat) (ss : List Int), vs = [.ref pm, sv, .int (j : Int)] ∧ SqT K H pm xs ∧ MsAt K H m xs ∧ m.dep < d ∧ m.cnt ≤ 300 ∧ m.all (DyOk many n nd) ∧ 2 ≤ many ∧ many ≤ 3 ∧ j < many ∧ ShAt K H many ss sv ∧
  ∀ H' t ys, Same H H' → SqT K H' t ys → MsAt K H' (dayMs ap ss j m) ys → Q (.ref t) H'
def spMemberDay (K : PySem.W.Frag) (n nd d : Nat) : Sp := fun vs H Q _ => ∃ (v sv : V) (k : Mk) (many j : Nat) (ss : List Int), vs = [v, sv, .int (j : Int)] ∧ MkAt K H k v ∧ MkD (DyOk many n nd) d 300 k ∧ 2 ≤ many ∧ many ≤ 3 ∧ j < many ∧ ShAt K H many ss sv ∧
  ∀ H' u, Same H H' → MkAt K H' (dayMk ap ss j k) u → Q u H'
theorem ShAt.sm {K : PySem.W.Frag} {H H' : Hp} {many : Nat} {ss : List Int} {v : V} (h : ShAt K H many ss v) (s : Same H H') : ShAt K H' many ss v := h.imp fun _ _ q => same_sqt s q
section
variable {P : Program} {w : World} {K : PySem.W.Frag} {mg : Str → Option Value} {base : Heap}
theorem ok_memberday {f : Addr} {fd : FuncData} (F : Fun K "member_day" "member_day" s_member_day f fd) (gF : mg "member_day" = some (.ref f)) (b : Binds K fd ["member", "shares", "sign"] []) (B : Bl mg) {n nd lv d : Nat} (c_one_day : Cal P w K mg base lv "one_day" (spOneDay K n nd)) (c_members_day : Cal P w K mg base (lv + 2 * d) "members_day" (spMembersDay K n nd d)) : Cal P w K mg base (lv + 2 * d + 1) "member_day" (spMemberDay K n nd d) := by
  refine ⟨f, fd, _, F.ok sc_member_day (fun vs H Q E h => ?_) (fun cdv A outer s H vs Q E hr h => ?_), gF, F.kp, b⟩
  · obtain ⟨_, _, _, _, _, _, rfl, _⟩ := h
    rfl
  · obtain ⟨v, sv, k, many, j, ss, rfl, hk, ok, hm2, hm3, hj, hS, q⟩ := h
    refine ⟨_, (pss_cons (ps_if (pt_cmpR op_eq (pe_ix ix_tup (pv 0) pe_int (fun _ _ => rfl)) pe_str (nomark _)) (pss_one (ps_ret (pe_c c_one_day hr (by omega) (by rfl) (pa_cons (pv 0) (pa_cons (pv 1) (pa_cons (pv 2) pa_nil)))))) pss_nil) (pss_cons (ps_asg (pv 0) (pg_tup rfl (pgs_cons (pg_name (i := 3) sc_member_day.nd rfl (.inl rfl)) (pgs_cons (pg_name (i := 4) sc_member_day.nd rfl (.inl rfl)) (pgs_cons (pg_name (i := 5) sc_member_day.nd rfl (.inl rfl)) pgs_nil))))) (pss_one (ps_ret (pe_tup (pa_cons (pv 3) (pa_cons (pv 4) (pa_cons (pe_c c_members_day hr (by omega) (by rfl) (pa_cons (pv 5) (pa_cons (pv 1) (pa_cons (pv 2) pa_nil)))) pa_nil)))))))), ?_⟩
    cases k with
    | one o =>
      obtain ⟨p, dv, rv, rfl, hp, hD, hR⟩ := id hk
      refine ⟨.ref p, rfl, p, _, 0, _, rfl, rfl, hp, rfl, rfl, _, rfl, iteTT rfl ?_⟩
      exact ⟨.ref p, rfl, sv, rfl, .int (j : Int), rfl, .ref p, sv, o, many, j, ss, rfl, hk, ok, hm2, hm3, hj, hS, fun H1 u sm1 hu => q _ _ sm1 hu⟩
    | house nm m =>
      obtain ⟨p, pm, xs, rfl, hp, hpm, hm⟩ := hk
      refine ⟨.ref p, rfl, p, _, 0, _, rfl, rfl, hp, rfl, rfl, _, rfl, iteFF rfl ?_⟩
      refine ⟨.ref p, rfl, p, _, rfl, hp, rfl, _, _, rfl, _, _, rfl, _, _, rfl, rfl, ?_⟩
      refine ⟨_, rfl, _, rfl, .ref pm, rfl, sv, rfl, .int (j : Int), rfl, pm, sv, xs, m, many, j, ss, rfl, hpm, hm, ok.1, ok.2.1, ok.2.2, hm2, hm3, hj, hS, fun H1 t ys sm1 ht hys => ⟨(by show 3 ≤ sizeLine; decide), fun t2 n2 => ?_⟩⟩
      have s2 := same_new (o := .tup [.str "house", .str nm, .ref t]) n2
      exact q _ _ (sm1.trans s2) ⟨t2, t, ys, rfl, SqT.of upd_same, same_sqt s2 ht, hys.same s2⟩
theorem ok_membersday {f g : Addr} {fd gd : FuncData} (F : Fun K "members_day" "members_day" s_members_day f fd) (gF : mg "members_day" = some (.ref f)) (b : Binds K fd ["members", "shares", "sign"] []) (G : Fun K "member_day" "member_day" s_member_day g gd) (gG : mg "member_day" = some (.ref g)) (bG : Binds K gd ["member", "shares", "sign"] []) (B : Bl mg) {n nd lv : Nat} (c_one_day : Cal P w K mg base lv "one_day" (spOneDay K n nd)) : ∀ d, Cal P w K mg base (lv + 2 * d) "members_day" (spMembersDay K n nd d) := by
  intro d
  induction d with
  | zero =>
    refine cal_never F gF b fun vs H Q E h => ?_
    obtain ⟨_, _, _, _, _, _, _, _, _, _, hd, _⟩ := h
    exact absurd hd (Nat.not_lt_zero _)
  | succ d ih =>
    have c_member_day := ok_memberday (d := d) G gG bG B c_one_day ih
    rw [show lv + 2 * (d + 1) = lv + 2 * d + 1 + 1 by omega]
    refine ⟨f, fd, _, F.ok sc_members_day (fun vs H Q E h => ?_) (fun cdv A outer s H vs Q E hr h => ?_), gF, F.kp, b⟩
    · obtain ⟨_, _, _, _, _, _, _, rfl, _⟩ := h
      rfl
    · obtain ⟨pm, sv, xs, m, many, j, ss, rfl, hpm, hm, hd, hc, hall, hm2, hm3, hj, hS, q⟩ := h
      refine ⟨_, (pss_one (ps_ret (pe_tupleOf (by rfl) B.tuple (pe_lc (own := [("member", 3)]) rfl sc_members_day.nd (pi_tup (pv 0)) (blkOk_by (N := N_members_day) (sc := defScope s_members_day) (by decide +kernel)) (fun _ _ _ _ _ => pg_name (i := 3) sc_members_day.nd rfl (.inl rfl)) (fun _ _ _ _ _ => pts_nil) (fun _ _ _ _ _ => pe_c c_member_day hr (by omega) (by rfl) (pa_cons (pv 3) (pa_cons (pv 1) (pa_cons (pv 2) pa_nil)))))))), ?_⟩
      have hmk := MsAt.mks hm
      have hml := mks_len m
      have hlen := hmk.len
      have hok := mks_ok hd hc hall
      refine ⟨.ref pm, rfl, pm, rfl, ⟨_, hpm⟩, fun D nD => lc_tup (xs := xs) (fun i H' => ∃ ws, Same H H' ∧ H' D = some (.lst ws) ∧ MksAt K H' ws (((mks m).take i).map (dayMk ap ss j))) ⟨[], same_new nD, upd_same, trivial⟩ (fun i H' _ h => ?_) ?_ ?_⟩
      · obtain ⟨_, sm, _⟩ := h
        exact same_sqt sm hpm
      · rintro i x H1 hx ⟨ws, sm1, hD1, hws⟩
        obtain ⟨k, hk, xk⟩ := (hmk.imp fun _ _ h => same_sqt sm1 h).get' hx
        have hil := (List.getElem?_eq_some_iff.mp hk).1
        have hwl : ws.length ≤ i := by
          rw [hws.len, List.length_map, List.length_take]
          omega
        refine ⟨rfl, tYes_in ?_⟩
        refine ⟨x, rfl, sv, rfl, .int (j : Int), rfl, x, sv, k, many, j, ss, rfl, xk, hok k (List.mem_of_getElem? hk), hm2, hm3, hj, hS.sm sm1, fun H2 u sm2 hu => ?_⟩
        have hD2 := sm2 _ _ hD1
        refine ⟨ws, hD2, small1000 (by omega), ws ++ [u], fun b' o eb => ?_, upd_same, ?_⟩
        · rw [upd_ne (ne_of_none eb nD)]
          exact sm2 _ _ (sm1 _ _ eb)
        · rw [List.take_add_one, hk, List.map_append]
          exact (MksAt.snoc hu (hws.imp fun _ _ h => same_sqt sm2 h)).imp fun _ _ h => put_sqt hD2 h
      · rintro H1 ⟨ws, sm1, hD1, hws⟩
        rw [hlen, List.take_length, ← mks_day] at hws
        refine .inl ⟨D, _, rfl, SqL.of hD1, fun t nt => ?_⟩
        exact q _ t ws (sm1.trans (same_new nt)) (SqT.of upd_same) ((MksAt.ms hws).same (same_new nt))
def spNumDay (K : PySem.W.Frag) (n nd : Nat) : Sp := fun vs H Q _ => ∃ (p : Addr) (sv : V) (m : Ms) (many j : Nat) (ss : List Int) (num : Int) (g : Int), vs = [.ref p, sv, .int (j : Int), .int num] ∧ PuAt K H n p sv m many ss ∧ m.all (DyOk many n nd) ∧ j < many ∧ Best (pullI many ss (aoI m)) g ∧ rightI ss (pullI many ss (aoI m)) g = true ∧
  ∀ H' t tm ys, Same H H' → SqT K H' t [.int (many : Int), .ref tm] → SqT K H' tm ys → MsAt K H' (dayMs ap ss j m) ys → Q (.ref t) H'
def spDay (K : PySem.W.Frag) (n nd : Nat) : Sp := fun vs H Q _ => ∃ (p : Addr) (sv : V) (m : Ms) (many j : Nat) (ss : List Int) (g : Int), vs = [.ref p, sv, .int (j : Int)] ∧ PuAt K H n p sv m many ss ∧ m.all (DyOk many n nd) ∧ j < many ∧ Best (pullI many ss (aoI m)) g ∧ rightI ss (pullI many ss (aoI m)) g = true ∧
  ∀ H' t tm ys, Same H H' → SqT K H' t [.int (many : Int), .ref tm] → SqT K H' tm ys → MsAt K H' (dayMs ap ss j m) ys → Q (.ref t) H'
theorem ok_numday {f : Addr} {fd : FuncData} (F : Fun K "numbered_day" "numbered_day" s_numbered_day f fd) (gF : mg "numbered_day" = some (.ref f)) (b : Binds K fd ["house", "shares", "sign", "number"] []) (B : Bl mg) {n nd lv lw : Nat} (hl : n + 12 ≤ lw) (hl2 : lv + 2 * 8 ≤ lw) (c_is_right : Cal P w K mg base (n + 12) "is_right" (spIsR K n)) (c_members_day : Cal P w K mg base (lv + 2 * 8) "members_day" (spMembersDay K n nd 8)) : Cal P w K mg base (lw + 1) "numbered_day" (spNumDay K n nd) := by
  refine ⟨f, fd, _, F.ok sc_numbered_day (fun vs H Q E h => ?_) (fun cdv A outer s H vs Q E hr h => ?_), gF, F.kp, b⟩
  · obtain ⟨_, _, _, _, _, _, _, _, rfl, _⟩ := h
    rfl
  · obtain ⟨p, sv, m, many, j, ss, num, g, rfl, hpu, hall, hj, hb, hri, q⟩ := h
    refine ⟨_, (pss_cons (ps_if (pt_not (pt_val (pe_c c_is_right hr (by omega) (by rfl) (pa_cons (pv 0) (pa_cons (pv 1) pa_nil))))) (pss_one ps_dead) pss_nil) (pss_cons (ps_asg (pv 0) (pg_tup rfl (pgs_cons (pg_name (i := 4) sc_numbered_day.nd rfl (.inl rfl)) (pgs_cons (pg_name (i := 5) sc_numbered_day.nd rfl (.inl rfl)) pgs_nil)))) (pss_one (ps_ret (pe_tup (pa_cons (pv 4) (pa_cons (pe_c c_members_day hr (by omega) (by rfl) (pa_cons (pv 5) (pa_cons (pv 1) (pa_cons (pv 2) pa_nil)))) pa_nil))))))), ?_⟩
    refine ⟨.ref p, rfl, sv, rfl, p, sv, m, many, ss, rfl, hpu, fun H1 g1 sm1 hg1 => ⟨_, rfl, ?_⟩⟩
    obtain rfl := hb.eq hg1
    rw [hri]
    refine iteFF rfl ?_
    have hpu1 := hpu.same sm1
    obtain ⟨pm, xs, hp, hpm, hm, hd, hc, _, hm2, hm3, hS⟩ := hpu1
    refine ⟨.ref p, rfl, p, _, rfl, hp, rfl, _, _, rfl, _, _, rfl, rfl, ?_⟩
    refine ⟨_, rfl, .ref pm, rfl, sv, rfl, .int (j : Int), rfl, pm, sv, xs, m, many, j, ss, rfl, hpm, hm, hd, hc, hall, hm2, hm3, hj, hS, fun H2 t2 ys sm2 ht2 hys => ⟨(by show 2 ≤ sizeLine; decide), fun t3 n3 => ?_⟩⟩
    have s3 := same_new (o := .tup [.int (many : Int), .ref t2]) n3
    exact q _ t3 t2 ys ((sm1.trans sm2).trans s3) (SqT.of upd_same) (same_sqt s3 ht2) (hys.same s3)
theorem fn_day {f : Addr} {fd : FuncData} (F : Fun K "day" "day" s_day f fd) (B : Bl mg) {n nd lw : Nat} (c_numbered_day : Cal P w K mg base lw "numbered_day" (spNumDay K n nd)) : FnOk P w K mg base CX0 (lw + 1) f fd ["house", "shares", "sign"] (spDay K n nd) := by
  refine F.ok sc_day (fun vs H Q E h => ?_) (fun cdv A outer s H vs Q E hr h => ?_)
  · obtain ⟨_, _, _, _, _, _, _, rfl, _⟩ := h
    rfl
  · obtain ⟨p, sv, m, many, j, ss, g, rfl, hpu, hall, hj, hb, hri, q⟩ := h
    refine ⟨_, (pss_one (ps_ret (pe_c c_numbered_day hr (by omega) (by rfl) (pa_cons (pv 0) (pa_cons (pv 1) (pa_cons (pv 2) (pa_cons pe_int pa_nil))))))), ?_⟩
    exact ⟨.ref p, rfl, sv, rfl, .int (j : Int), rfl, p, sv, m, many, j, ss, 0, g, rfl, hpu, hall, hj, hb, hri, q⟩
end
end NG

namespace NG
open PySem PySem.Spec PyProof.Rows L2
theorem cl_mn (n : Int) : mn 1000 (mx (-1000) n) = cl n := by
  unfold cl mn mx
  by_cases h1 : n > -1000 <;> by_cases h2 : n < 1000 <;> simp only [h1, h2, if_true, if_false] <;> split <;> omega
theorem ms_of {many : Nat} {ss : List Int} {j : Nat} (hl : ss.length = many) (hs : ∀ x ∈ ss, 0 ≤ x) (h0 : 0 < ss.sum) (hj : j < many) : cl (1000 * ss.getD j 0 / ss.sum) = 1000 * ss.getD j 0 / ss.sum := by
  have hm := getD_mem (ns := ss) (i := j) (by omega)
  have h1 := hs _ hm
  have h2 := le_sum (ss := ss) (j := j) hs (by omega)
  have a1 : 0 ≤ 1000 * ss.getD j 0 / ss.sum := Int.ediv_nonneg (by omega) (by omega)
  have a2 : 1000 * ss.getD j 0 / ss.sum ≤ 1000 := by
    refine Int.ediv_le_of_le_mul h0 ?_
    generalize ss.getD j 0 = x at *
    omega
  generalize 1000 * ss.getD j 0 / ss.sum = y at *
  unfold cl mn mx
  by_cases h1 : y < 1000 <;> simp only [h1, if_true, if_false] <;> split <;> omega
section
variable {P : Program} {w : World} {K : PySem.W.Frag} {mg : Str → Option Value} {base : Heap}
theorem ok_gone {f : Addr} {fd : FuncData} (F : Fun K "_law_gone" "_law_gone" s_L_gone f fd) (gF : mg "_law_gone" = some (.ref f)) (b : Binds K fd ["_law_deeds_here", "_law_registers_here", "_law_lot"] []) (B : Bl mg) : ∀ n, Cal P w K mg base (n + 1) "_law_gone" (spDo K n) := by
  intro n
  induction n with
  | zero =>
    refine cal_never F gF b fun vs H Q E h => ?_
    obtain ⟨_, _, _, _, _, _, _, _, _, _, _, _, hd, _⟩ := h
    omega
  | succ n c_L_gone =>
  refine ⟨f, fd, _, F.ok sc_L_gone (fun vs H Q E h => ?_) (fun cdv A outer s H vs Q E hr h => ?_), gF, F.kp, b⟩
  · obtain ⟨_, _, _, _, _, _, _, _, rfl, _⟩ := h
    rfl
  · obtain ⟨p, r, sv, xs, d, many, rs, ss, rfl, hp, hd, ho, hdp, hR, hS, q⟩ := h
    refine ⟨_, (pss_cons (ps_set (i := 3) sc_L_gone.nd rfl (.inl rfl) (pe_callTy call_list_of (by rfl) B.list (by decide +kernel) (pa_cons (pv 1) pa_nil))) (pss_cons (ps_for PassesOwn.never rfl (pi_tup (pv 0)) (pg_name (i := 4) sc_L_gone.nd rfl (.inl rfl)) (pss_cons (ps_par3 (i := 5) (j := 6) (l := 7) rfl sc_L_gone.nd rfl rfl rfl (by decide) (by decide) (by decide) rfl rfl rfl (pa_cons (pe_ix ix_tup (pv 4) pe_int (fun _ _ => rfl)) (pa_cons (pe_ix ix_tup (pv 4) pe_int (fun _ _ => rfl)) (pa_cons (pe_ix ix_tup (pv 4) pe_int (fun _ _ => rfl)) pa_nil))) (by rfl)) (pss_one (ps_if (pt_cmpR op_eq (pv 5) pe_str (nomark _)) (pss_one (ps_set (i := 3) sc_L_gone.nd rfl (.inl rfl) (pe_callTy call_list_of (by rfl) B.list (by decide +kernel) (pa_cons (pe_c c_L_gone hr (by omega) (by rfl) (pa_cons (pe_ix ix_tup (pv 4) (pe_op op_add pe_int (pe_callTy call_int1 (by rfl) B.int (by decide +kernel) (pa_cons (pe_cmpR op_ge (pe_ix ix_list (pv 3) (pv 6) (fun _ _ => rfl)) (pv 7) (nomark _)) pa_nil))) (fun _ _ => rfl)) (pa_cons (pe_tupleOf (by rfl) B.tuple (pv 3)) (pa_cons (pv 2) pa_nil)))) pa_nil)))) (pss_one (ps_if (pt_cmpR op_eq (pv 5) pe_str (nomark _)) (pss_one (ps_asg (pe_op op_fdivW (pe_op op_mul pe_int (pe_ix ix_tup (pv 2) (pv 7) (fun _ _ => rfl))) (pe_callB (cr_sumT rfl) (by rfl) B.sum (by decide +kernel) (pa_cons (pv 2) pa_nil))) (pg_sub (pv 3) (pv 6) set_list))) (pss_cons (ps_set (i := 8) sc_L_gone.nd rfl (.inl rfl) (pe_cut (pe_ifExp (pt_cmpR op_in_seq (pv 5) (pe_tup (pa_cons pe_str (pa_cons pe_str pa_nil))) (by rfl)) (pv 7) (pe_ix ix_list (pv 3) (pv 7) (fun _ _ => rfl))))) (pss_cons (ps_set (i := 8) sc_L_gone.nd rfl (.inl rfl) (pe_cut (pe_ifExp (pt_cmpR op_in_seq (pv 5) (pe_tup (pa_cons pe_str (pa_cons pe_str pa_nil))) (by rfl)) (pv 8) (pe_op op_add (pe_ix ix_list (pv 3) (pv 6) (fun _ _ => rfl)) (pv 8))))) (pss_one (ps_asg (pe_callB (call_min2 rfl) (by rfl) B.min (by decide +kernel) (pa_cons pe_int (pa_cons (pe_callB (call_max2 rfl) (by rfl) B.max (by decide +kernel) (pa_cons (pe_un un_neg pe_int) (pa_cons (pv 8) pa_nil))) pa_nil))) (pg_sub (pv 3) (pv 6) set_list))))))))))) (pss_one (ps_ret (pe_tupleOf (by rfl) B.tuple (pv 3)))))), ?_⟩
    have two_le : 2 ≤ sizeLine := by decide
    have hRok := hR.ok
    obtain ⟨pr, rfl, hpr, hl4, hb4⟩ := id hR
    refine ⟨.ref pr, rfl, pr, _, rfl, .inr hpr, fun l nl => ?_⟩
    have sl := same_new (o := .lst (rs.map V.int)) nl
    refine ⟨.ref p, rfl, p, rfl, ⟨_, same_sqt sl hp⟩, for_tup (xs := xs) (fun i σ H' => ∃ l y4 y5 y6 y7 y8 rs', σ = [some (.ref p), some (.ref pr), some sv, some (.ref l), y4, y5, y6, y7, y8] ∧ H l = none ∧ Same H H' ∧ H' l = some (.lst (rs'.map V.int)) ∧ RegOk rs' ∧ ap ss (d.drop i) rs' = ap ss d rs) ⟨l, none, none, none, none, none, rs, rfl, nl, sl, upd_same, hRok, rfl⟩ ?_ ?_ ?_⟩
    · rintro i σ H' _ ⟨_, _, _, _, _, _, _, _, _, sm, _⟩
      exact same_sqt sm hp
    · rintro i x σ H1 hx ⟨l, y4, y5, y6, y7, y8, rs', rfl, nl, sm1, hl1, hrok, hap⟩
      have hil := (List.getElem?_eq_some_iff.mp hx).1
      have hdi := (hd.drop i).same sm1
      have hoi := ho.drop i
      have hpi := d.dep_drop i
      rw [List.drop_eq_getElem_cons hil] at hdi
      have ex : xs[i] = x := (List.getElem?_eq_some_iff.mp hx).2
      rw [ex] at hdi
      have etl : d.drop (i + 1) = (d.drop i).tl := rfl
      obtain ⟨ps, rfl, hps, hsl, hsb, hs0, hs1⟩ := hS.same sm1
      have hl4 := hrok.1
      have hwl : (rs'.map V.int).length = 4 := by rw [List.length_map]; exact hl4
      cases e : d.drop i with
      | nil =>
        rw [e] at hdi
        cases hdi
      | op o k z rest =>
        rw [e] at hdi hoi hap etl
        obtain ⟨pd, us, eq1, hq, _⟩ := hdi
        cases eq1
        obtain ⟨ok, oz, _⟩ := hoi
        have hne : decide (V.str (dn o) = V.str "when") = false := by cases o <;> decide
        refine ⟨.ref pd, rfl, pd, _, 0, _, rfl, rfl, hq, rfl, .ref pd, rfl, pd, _, 1, _, rfl, rfl, hq, rfl, .ref pd, rfl, pd, _, 2, _, rfl, rfl, hq, rfl, _, _, _, rfl, ?_⟩
        refine ⟨_, rfl, rfl, _, rfl, iteFF hne ?_⟩
        have fin : ∀ (H2 : Hp) (y8' : Option V) (h : Int), Same H1 H2 → cl h = cl (hb ss o k z rs') → ∃ l2 y4 y5 y6 y7 y8 rs2, [some (.ref p), some (.ref pr), some (.ref ps), some (.ref l), some (.ref pd), some (.str (dn o)), some (.int (k : Int)), some (.int z), y8'] = [some (V.ref p), some (V.ref pr), some (V.ref ps), some (V.ref l2), y4, y5, y6, y7, y8] ∧ H l2 = none ∧ Same H (upd H2 l (.lst ((rs'.map V.int).set k (.int (cl h))))) ∧ (upd H2 l (.lst ((rs'.map V.int).set k (.int (cl h))))) l2 = some (.lst (rs2.map V.int)) ∧ RegOk rs2 ∧ ap ss (d.drop (i + 1)) rs2 = ap ss d rs := fun H2 y8' h sm2 eh => by
          refine ⟨_, _, _, _, _, _, rs'.set k (cl (hb ss o k z rs')), rfl, nl, fun b' ob eb => ?_, ?_, hrok.set k _, by rw [etl]; exact hap⟩
          · rw [upd_ne (ne_of_none eb nl)]
            exact sm2 _ _ (sm1 _ _ eb)
          · rw [upd_same, eh, List.map_set]
        have hixk : ixN (rs'.map V.int).length (k : Int) = some k := by rw [ixN_of (by omega) (by omega), Int.toNat_natCast]
        cases o with
        | told =>
          have e1 : cl (hb ss .told k z rs') = 1000 * ss.getD z.toNat 0 / ss.sum := ms_of hsl (fun x hx => (hsb x hx).1) hs0 (by have := oz.2; have := oz.1; omega)
          refine ⟨_, rfl, rfl, _, rfl, iteTT rfl ?_⟩
          refine ⟨.ref ps, rfl, .int z, rfl, ps, _, _, _, rfl, rfl, hps, at_int oz.1 (by have := oz.2; omega), 1000, _, rfl, rfl, .inl ⟨by decide, by decide⟩, .ref ps, rfl, ps, ss, rfl, hps, _, _, rfl, rfl, wide_div (b := 200) hs0 (by omega) (by decide) (by decide), ?_⟩
          refine ⟨.ref l, rfl, .int (k : Int), rfl, l, _, _, k, rfl, rfl, hl1, hixk, ?_⟩
          have f1 := fin H1 y8 _ (Same.refl _) rfl
          rw [e1] at f1
          exact f1
        | put =>
          refine ⟨_, rfl, rfl, _, rfl, iteFF rfl ?_⟩
          refine ⟨fun v H' => v = .int (z) ∧ Same H1 H', ⟨_, rfl, two_le, fun t nt => ⟨t, _, rfl, .inr (SqT.of upd_same), rfl, rfl, _, rfl, iteTT rfl ⟨_, rfl, rfl, same_new nt⟩⟩⟩, ?_⟩
          rintro v H2 ⟨rfl, sm'⟩
          refine ⟨fun v H' => v = .int (z) ∧ Same H1 H', ⟨_, rfl, two_le, fun t nt => ⟨t, _, rfl, .inr (SqT.of upd_same), rfl, rfl, _, rfl, iteTT rfl ⟨_, rfl, rfl, sm'.trans (same_new nt)⟩⟩⟩, ?_⟩
          rintro v H3 ⟨rfl, sm3⟩
          refine ⟨_, rfl, _, rfl, _, _, rfl, _, _, rfl, .ref l, rfl, .int (k : Int), rfl, l, _, _, k, rfl, rfl, sm3 _ _ hl1, hixk, ?_⟩
          have f1 := fin H3 (some (.int (z))) (z) sm3 rfl
          rw [← cl_mn] at f1
          exact f1
        | add =>
          refine ⟨_, rfl, rfl, _, rfl, iteFF rfl ?_⟩
          refine ⟨fun v H' => v = .int (z) ∧ Same H1 H', ⟨_, rfl, two_le, fun t nt => ⟨t, _, rfl, .inr (SqT.of upd_same), rfl, rfl, _, rfl, iteTT rfl ⟨_, rfl, rfl, same_new nt⟩⟩⟩, ?_⟩
          rintro v H2 ⟨rfl, sm'⟩
          refine ⟨fun v H' => v = .int (rs'.getD k 0 + (z)) ∧ Same H1 H', ⟨_, rfl, two_le, fun t nt => ⟨t, _, rfl, .inr (SqT.of upd_same), rfl, rfl, _, rfl, iteFF rfl ⟨.ref l, rfl, .int (k : Int), rfl, l, _, _, _, rfl, rfl, SqL.of ((sm'.trans (same_new nt)) _ _ hl1), at_nth (by omega), _, rfl, _, _, rfl, rfl, rfl, sm'.trans (same_new nt)⟩⟩⟩, ?_⟩
          rintro v H3 ⟨rfl, sm3⟩
          refine ⟨_, rfl, _, rfl, _, _, rfl, _, _, rfl, .ref l, rfl, .int (k : Int), rfl, l, _, _, k, rfl, rfl, sm3 _ _ hl1, hixk, ?_⟩
          have f1 := fin H3 (some (.int (rs'.getD k 0 + (z)))) (rs'.getD k 0 + (z)) sm3 rfl
          rw [← cl_mn] at f1
          exact f1
        | copy =>
          refine ⟨_, rfl, rfl, _, rfl, iteFF rfl ?_⟩
          refine ⟨fun v H' => v = .int (rs'.getD z.toNat 0) ∧ Same H1 H', ⟨_, rfl, two_le, fun t nt => ⟨t, _, rfl, .inr (SqT.of upd_same), rfl, rfl, _, rfl, iteFF rfl ⟨.ref l, rfl, .int z, rfl, l, _, _, _, rfl, rfl, SqL.of (same_new nt _ _ hl1), at_int oz.1 (by have := oz.2; omega), rfl, same_new nt⟩⟩⟩, ?_⟩
          rintro v H2 ⟨rfl, sm'⟩
          refine ⟨fun v H' => v = .int (rs'.getD z.toNat 0) ∧ Same H1 H', ⟨_, rfl, two_le, fun t nt => ⟨t, _, rfl, .inr (SqT.of upd_same), rfl, rfl, _, rfl, iteTT rfl ⟨_, rfl, rfl, sm'.trans (same_new nt)⟩⟩⟩, ?_⟩
          rintro v H3 ⟨rfl, sm3⟩
          refine ⟨_, rfl, _, rfl, _, _, rfl, _, _, rfl, .ref l, rfl, .int (k : Int), rfl, l, _, _, k, rfl, rfl, sm3 _ _ hl1, hixk, ?_⟩
          have f1 := fin H3 (some (.int (rs'.getD z.toNat 0))) (rs'.getD z.toNat 0) sm3 rfl
          rw [← cl_mn] at f1
          exact f1
        | plus =>
          refine ⟨_, rfl, rfl, _, rfl, iteFF rfl ?_⟩
          refine ⟨fun v H' => v = .int (rs'.getD z.toNat 0) ∧ Same H1 H', ⟨_, rfl, two_le, fun t nt => ⟨t, _, rfl, .inr (SqT.of upd_same), rfl, rfl, _, rfl, iteFF rfl ⟨.ref l, rfl, .int z, rfl, l, _, _, _, rfl, rfl, SqL.of (same_new nt _ _ hl1), at_int oz.1 (by have := oz.2; omega), rfl, same_new nt⟩⟩⟩, ?_⟩
          rintro v H2 ⟨rfl, sm'⟩
          refine ⟨fun v H' => v = .int (rs'.getD k 0 + (rs'.getD z.toNat 0)) ∧ Same H1 H', ⟨_, rfl, two_le, fun t nt => ⟨t, _, rfl, .inr (SqT.of upd_same), rfl, rfl, _, rfl, iteFF rfl ⟨.ref l, rfl, .int (k : Int), rfl, l, _, _, _, rfl, rfl, SqL.of ((sm'.trans (same_new nt)) _ _ hl1), at_nth (by omega), _, rfl, _, _, rfl, rfl, rfl, sm'.trans (same_new nt)⟩⟩⟩, ?_⟩
          rintro v H3 ⟨rfl, sm3⟩
          refine ⟨_, rfl, _, rfl, _, _, rfl, _, _, rfl, .ref l, rfl, .int (k : Int), rfl, l, _, _, k, rfl, rfl, sm3 _ _ hl1, hixk, ?_⟩
          have f1 := fin H3 (some (.int (rs'.getD k 0 + (rs'.getD z.toNat 0)))) (rs'.getD k 0 + (rs'.getD z.toNat 0)) sm3 rfl
          rw [← cl_mn] at f1
          exact f1
      | when k c da db rest =>
        rw [e] at hdi hoi hap etl hpi
        obtain ⟨pd, pa, pb, xa, xb, us, eq1, hq, qa, ha, qb, hb', _⟩ := hdi
        cases eq1
        obtain ⟨ok, oc, oa, ob, _⟩ := hoi
        have hpi : max (max da.dep db.dep + 1) rest.dep ≤ d.dep := hpi
        refine ⟨.ref pd, rfl, pd, _, 0, _, rfl, rfl, hq, rfl, .ref pd, rfl, pd, _, 1, _, rfl, rfl, hq, rfl, .ref pd, rfl, pd, _, 2, _, rfl, rfl, hq, rfl, _, _, _, rfl, ?_⟩
        refine ⟨_, rfl, rfl, _, rfl, iteTT rfl ?_⟩
        have hap : ap ss rest (if rs'.getD k 0 < c then ap ss da rs' else ap ss db rs') = ap ss d rs := hap
        by_cases hc : rs'.getD k 0 < c
        · have hat : atI [V.str "when", .int (k : Int), .int c, .ref pa, .ref pb] (3 + (if decide (c ≤ rs'.getD k 0) = true then (1 : Int) else 0)) = some (.ref pa) := by
            rw [decide_eq_false (by omega)]
            rfl
          rw [if_pos hc] at hap
          refine ⟨.ref pd, rfl, .ref l, rfl, .int (k : Int), rfl, l, _, _, _, rfl, rfl, SqL.of hl1, at_nth (by omega), .int c, rfl, _, _, rfl, rfl, .inr ⟨_, rfl, ?_⟩⟩
          refine ⟨3, _, rfl, rfl, pd, _, _, _, rfl, rfl, hq, hat, .ref l, rfl, .inl ⟨l, _, rfl, SqL.of hl1, fun t nt => ?_⟩⟩
          have st := same_new (o := .tup (rs'.map V.int)) nt
          refine ⟨.ref ps, rfl, pa, .ref t, .ref ps, xa, da, many, rs', ss, rfl, same_sqt st qa, ha.same st, oa, by omega, ⟨t, rfl, SqT.of upd_same, hrok.1, hrok.2⟩, hS.same (sm1.trans st), fun H4 v2 sm4 hR4 => ?_⟩
          have hok4 := hR4.ok
          obtain ⟨p4, rfl, hp4, _, _⟩ := hR4
          refine ⟨p4, _, rfl, .inr hp4, fun l5 nl5 => ?_⟩
          have sm04 := (sm1.trans st).trans sm4
          have nl0 : H l5 = none := by
            cases e5 : H l5 with
            | none => rfl
            | some ob => exact absurd (sm04 _ _ e5) (by rw [nl5]; intro z; cases z)
          exact ⟨l5, _, _, _, _, _, _, rfl, nl0, sm04.trans (same_new nl5), upd_same, hok4, by rw [etl]; exact hap⟩
        · have hat : atI [V.str "when", .int (k : Int), .int c, .ref pa, .ref pb] (3 + (if decide (c ≤ rs'.getD k 0) = true then (1 : Int) else 0)) = some (.ref pb) := by
            rw [decide_eq_true (by omega)]
            rfl
          rw [if_neg hc] at hap
          refine ⟨.ref pd, rfl, .ref l, rfl, .int (k : Int), rfl, l, _, _, _, rfl, rfl, SqL.of hl1, at_nth (by omega), .int c, rfl, _, _, rfl, rfl, .inr ⟨_, rfl, ?_⟩⟩
          refine ⟨3, _, rfl, rfl, pd, _, _, _, rfl, rfl, hq, hat, .ref l, rfl, .inl ⟨l, _, rfl, SqL.of hl1, fun t nt => ?_⟩⟩
          have st := same_new (o := .tup (rs'.map V.int)) nt
          refine ⟨.ref ps, rfl, pb, .ref t, .ref ps, xb, db, many, rs', ss, rfl, same_sqt st qb, hb'.same st, ob, by omega, ⟨t, rfl, SqT.of upd_same, hrok.1, hrok.2⟩, hS.same (sm1.trans st), fun H4 v2 sm4 hR4 => ?_⟩
          have hok4 := hR4.ok
          obtain ⟨p4, rfl, hp4, _, _⟩ := hR4
          refine ⟨p4, _, rfl, .inr hp4, fun l5 nl5 => ?_⟩
          have sm04 := (sm1.trans st).trans sm4
          have nl0 : H l5 = none := by
            cases e5 : H l5 with
            | none => rfl
            | some ob => exact absurd (sm04 _ _ e5) (by rw [nl5]; intro z; cases z)
          exact ⟨l5, _, _, _, _, _, _, rfl, nl0, sm04.trans (same_new nl5), upd_same, hok4, by rw [etl]; exact hap⟩
    · rintro σ H1 ⟨l, y4, y5, y6, y7, y8, rs', rfl, nl, sm1, hl1, hrok, hap⟩
      rw [ap_end hd] at hap
      rw [hap] at hl1 hrok
      refine ⟨.ref l, rfl, .inl ⟨l, _, rfl, SqL.of hl1, fun t nt => ?_⟩⟩
      exact q _ (.ref t) (sm1.trans (same_new nt)) ⟨t, rfl, SqT.of upd_same, hrok.1, hrok.2⟩
end
end NG

namespace NG
open PySem PySem.Spec PyProof.Rows L2
theorem foldl_min_spec : ∀ (ns : List Int) (n : Int), (ns.foldl min n ≤ n ∧ ∀ x ∈ ns, ns.foldl min n ≤ x) ∧ (ns.foldl min n = n ∨ ns.foldl min n ∈ ns)
  | [], n => ⟨⟨Int.le_refl _, fun _ h => absurd h (by simp)⟩, .inl rfl⟩
  | k :: r, n => by
    obtain ⟨⟨h1, h2⟩, h3⟩ := foldl_min_spec r (min n k)
    rw [List.foldl_cons]
    refine ⟨⟨by omega, fun x hx => ?_⟩, ?_⟩
    · rcases List.mem_cons.mp hx with rfl | hx
      · omega
      · exact h2 x hx
    · rcases h3 with h3 | h3
      · rcases Int.le_total n k with c | c
        · left; rw [h3]; omega
        · right; rw [h3, show min n k = k by omega]; exact List.mem_cons_self ..
      · right; exact List.mem_cons_of_mem _ h3
theorem alike_lt {ws : List Int} {a b : Int} (ha : a ∈ ws) (hal : ∀ y ∈ ws, a ≤ y) (hb : b ∈ ws) (hbl : ∀ y ∈ ws, y ≤ b) (d : Int) : d + (if decide (a < b) = true then 1 else 0) = (if alikeI ws = true then d else d + 1) := by
  cases ws with
  | nil => cases ha
  | cons n ns =>
    obtain ⟨⟨h1, h2⟩, h3⟩ := foldl_min_spec ns n
    obtain ⟨⟨g1, g2⟩, g3⟩ := foldl_max_spec ns n
    have e1 : ns.foldl min n = a := by
      have t1 : a ≤ ns.foldl min n := by
        rcases h3 with h3 | h3
        · rw [h3]; exact hal n (by simp)
        · exact hal _ (List.mem_cons_of_mem _ h3)
      have t2 : ns.foldl min n ≤ a := by
        rcases List.mem_cons.mp ha with rfl | ha
        · exact h1
        · exact h2 a ha
      omega
    have e2 : ns.foldl max n = b := by
      have t1 : ns.foldl max n ≤ b := by
        rcases g3 with g3 | g3
        · rw [g3]; exact hbl n (by simp)
        · exact hbl _ (List.mem_cons_of_mem _ g3)
      have t2 : b ≤ ns.foldl max n := by
        rcases List.mem_cons.mp hb with rfl | hb
        · exact g1
        · exact g2 b hb
      omega
    have hab := hal b hb
    show _ = if decide (ns.foldl min n = ns.foldl max n) = true then d else d + 1
    rw [e1, e2]
    by_cases c : a < b
    · rw [decide_eq_true c, decide_eq_false (by omega : ¬ a = b)]
      rfl
    · rw [decide_eq_false c, decide_eq_true (by omega : a = b)]
      exact Int.add_zero d
structure LkOk (many n : Nat) (o : One) : Prop where
  sl : o.dbt.stakes.length = many
  sc : o.dbt.scale < 5
  st : ∀ e ∈ o.dbt.stakes, ExOk many e ∧ e.dep ≤ n
def spLuck (K : PySem.W.Frag) (n : Nat) : Sp := fun vs H Q _ => ∃ (ov sv : V) (o : One) (many j : Nat) (ss : List Int), vs = [ov, sv, .int (j : Int)] ∧ OneAt K H o ov ∧ LkOk many n o ∧ many ≤ 3 ∧ j < many ∧ ShAt K H many ss sv ∧
  ∀ H' t, Same H H' → SqT K H' t [.int (winI ss j o), .int (fullI ss o)] → Q (.ref t) H'
section
variable {P : Program} {w : World} {K : PySem.W.Frag} {mg : Str → Option Value} {base : Heap}
theorem ok_luck {f : Addr} {fd : FuncData} (F : Fun K "_law_luck" "_law_luck" s_L_luck f fd) (gF : mg "_law_luck" = some (.ref f)) (b : Binds K fd ["_law_one", "_law_lot", "_law_mark"] []) (B : Bl mg) {n : Nat} (c_L_worth : Cal P w K mg base (n + 1) "_law_worth" (spWorthS K n)) : Cal P w K mg base (n + 2) "_law_luck" (spLuck K n) := by
  refine ⟨f, fd, _, F.ok sc_L_luck (fun vs H Q E h => ?_) (fun cdv A outer s H vs Q E hr h => ?_), gF, F.kp, b⟩
  · obtain ⟨_, _, _, _, _, _, rfl, _⟩ := h
    rfl
  · obtain ⟨ov, sv, o, many, j, ss, rfl, hO, ok, hm3, hj, hS, q⟩ := h
    obtain ⟨py, dv, rv, rfl, hpy, hD, hR⟩ := id hO
    obtain ⟨ps, rfl, hps, hsl, hsb, hs0, hsn⟩ := id hS
    obtain ⟨pd, vb, pst, pb, us, ws, rfl, hpd, hvb, hpst, hus, hpb, hws⟩ := id hD
    refine ⟨_, (pss_cons (ps_set (i := 3) sc_L_luck.nd rfl (.inl rfl) (pe_callB (cr_sumT rfl) (by rfl) B.sum (by decide +kernel) (pa_cons (pv 1) pa_nil))) (pss_cons (ps_setLc (i := 4) (own := [("_law_stake_here", 5)]) rfl sc_L_luck.nd rfl rfl (sw_true rfl rfl rfl (by decide +kernel)) (pi_tup (pe_ix ix_tup (pe_ix ix_tup (pv 0) pe_int (fun _ _ => rfl)) pe_int (fun _ _ => rfl))) (blkOk_by (N := N_L_luck) (sc := defScope s_L_luck) (by decide +kernel)) (fun _ _ _ _ _ => pg_name (i := 5) sc_L_luck.nd rfl (.inl rfl)) (fun _ _ _ _ _ => pts_nil) (fun _ _ _ _ _ => pe_c c_L_worth hr (by omega) (by rfl) (pa_cons (pv 5) (pa_cons (pe_ix (ixt K) (pv 0) pe_int (fun _ _ => rfl)) (pa_cons (pv 1) pa_nil))))) (pss_cons (ps_set (i := 6) sc_L_luck.nd rfl (.inl rfl) (pe_callB (cr_sum rfl) (by rfl) B.sum (by decide +kernel) (pa_cons (pe_lc (own := [("_law_share", 7), ("_law_part", 8)]) rfl sc_L_luck.nd (pi_zipTL (by rfl) B.zip (pa_cons (pv 1) (pa_cons (pv 4) pa_nil))) (blkOk_by (N := N_L_luck) (sc := defScope s_L_luck) (by decide +kernel)) (fun _ _ _ _ _ => pgtK (n := 2) K rfl (pgs_cons (pg_name (i := 7) sc_L_luck.nd rfl (.inl rfl)) (pgs_cons (pg_name (i := 8) sc_L_luck.nd rfl (.inl rfl)) pgs_nil))) (fun _ _ _ _ _ => pts_nil) (fun _ _ _ _ _ => pe_op op_mul (pv 7) (pv 8))) pa_nil))) (pss_cons (ps_set (i := 9) sc_L_luck.nd rfl (.inl rfl) (pe_op op_mul pe_int (pe_ix ix_list (pe_lst (pa_cons pe_int (pa_cons pe_int (pa_cons pe_int (pa_cons pe_int (pa_cons pe_int pa_nil)))))) (pe_ix ix_tup (pe_ix ix_tup (pv 0) pe_int (fun _ _ => rfl)) pe_int (fun _ _ => rfl)) (fun _ _ => rfl)))) (pss_one (ps_ret (pe_tup (pa_cons (pe_op op_sub (pe_op op_mul (pv 3) (pe_ix ix_list (pv 4) (pv 2) (fun _ _ => rfl))) (pv 6)) (pa_cons (pe_op op_mul (pe_op op_mul (pv 9) (pv 3)) (pv 3)) pa_nil))))))))), ?_⟩
    have hul := hus.len
    have hwl : (wsI ss o).length = many := by unfold wsI; rw [List.length_map]; exact ok.sl
    have hp2 := pw2_bnd o.dbt.scale
    have osl := ok.sl
    refine ⟨.ref ps, rfl, ps, ss, rfl, hps, ?_⟩
    refine ⟨.ref py, rfl, py, _, 1, _, rfl, rfl, hpy, rfl, pd, _, 3, _, rfl, rfl, hpd, rfl, pst, rfl, ⟨_, hpst⟩, fun D nD => lc_tup (xs := us) (fun i H' => Same H H' ∧ H' D = some (.lst (((o.dbt.stakes.take i).map (wo o.regs ss)).map V.int))) ⟨same_new nD, upd_same⟩ (fun i H' _ h => same_sqt h.1 hpst) ?_ ?_⟩
    · rintro i x H1 hx ⟨sm1, hD1⟩
      have hil := (List.getElem?_eq_some_iff.mp hx).1
      obtain ⟨e, he, xe⟩ := hus.get' hx
      obtain ⟨oe, de⟩ := ok.st e (List.mem_of_getElem? he)
      refine ⟨rfl, tYes_in ?_⟩
      refine ⟨x, rfl, .ref py, rfl, py, _, 2, _, rfl, rfl, same_sqt sm1 hpy, rfl, .ref ps, rfl, x, rv, .ref ps, e, many, o.regs, ss, rfl, xe.same sm1, oe, de, hR.same sm1, hS.same sm1, fun H2 sm2 => ⟨_, sm2 _ _ hD1, ?_, fun b' ob eb => ?_, ?_⟩⟩
      · rw [List.length_map, List.length_map, List.length_take]
        exact small1000 (by omega)
      · rw [upd_ne (ne_of_none eb nD)]
        exact sm2 _ _ (sm1 _ _ eb)
      · rw [upd_same, List.take_add_one, he, List.map_append, List.map_append]
        rfl
    rintro H1 ⟨sm1, hD1⟩
    rw [hul, List.take_length] at hD1
    have hD1 : H1 D = some (.lst ((wsI ss o).map V.int)) := hD1
    have hps1 := same_sqt sm1 hps
    refine ⟨.ref ps, rfl, .ref D, rfl, ps, D, ss.map V.int, (wsI ss o).map V.int, rfl, hps1, SqL.of hD1, fun D2 nD2 => lc_it (walk_TL (K := K) (a := ps) (b := D) (us := ss.map V.int) (ws := (wsI ss o).map V.int) (n := many) (by rw [List.length_map]; exact hsl) (by rw [List.length_map]; exact hwl)) (fun i H' => Same H1 H' ∧ H' D2 = some (.lst (((List.zipWith (· * ·) ss (wsI ss o)).take i).map V.int))) ⟨same_new nD2, upd_same⟩ (fun i H' _ h => ⟨same_sqt h.1 hps1, SqL.of (h.1 _ _ hD1)⟩) ?_ ?_⟩
    · rintro i x Ha Hb hi ⟨sma, hDa⟩ ⟨T, x1, x2, rfl, nT, rfl, e1, e2⟩
      obtain ⟨z1, rfl, g1⟩ := int_at e1
      obtain ⟨z2, rfl, g2⟩ := int_at e2
      have hz := hsb z1 (List.mem_of_getElem? g1)
      have sT := same_new (o := .tup [.int z1, .int z2]) nT
      refine ⟨T, _, rfl, SqT.of upd_same, rfl, _, _, rfl, _, _, rfl, rfl, rfl, tYes_in ?_⟩
      refine ⟨.int z1, rfl, .int z2, rfl, _, _, rfl, rfl, .inl ⟨by omega, by omega⟩, _, sT _ _ hDa, ?_, fun b' o eb => ?_, ?_⟩
      · rw [List.length_map, List.length_take]
        exact small1000 (by omega)
      · rw [upd_ne (ne_of_none eb nD2)]
        exact sT _ _ (sma _ _ eb)
      · have eg : (List.zipWith (· * ·) ss (wsI ss o))[i]? = some (z1 * z2) := by rw [List.getElem?_zipWith, g1, g2]
        rw [upd_same, List.take_add_one, eg, List.map_append]
        rfl
    rintro H2 ⟨sm2, hD2⟩
    rw [List.take_of_length_le (by rw [List.length_zipWith, hsl, hwl, Nat.min_self]; exact Nat.le_refl _)] at hD2
    refine ⟨D2, _, rfl, SqL.of hD2, ?_⟩
    have sm12 := sm1.trans sm2
    refine ⟨(by show 5 ≤ sizeLine; decide), fun l3 n3 => ?_⟩
    have s3 := same_new (o := .lst [.int 1, .int 2, .int 4, .int 8, .int 16]) n3
    have sm13 := sm12.trans s3
    have hsc : atI [.int 1, .int 2, .int 4, .int 8, .int 16] (o.dbt.scale : Int) = some (V.int (pw2 o.dbt.scale)) := by
      have h5 := ok.sc
      generalize o.dbt.scale = sc at h5
      match sc, h5 with
      | 0, _ => rfl
      | 1, _ => rfl
      | 2, _ => rfl
      | 3, _ => rfl
      | 4, _ => rfl
    refine ⟨.ref py, rfl, py, _, 1, _, rfl, rfl, same_sqt sm13 hpy, rfl, pd, _, 1, _, rfl, rfl, same_sqt sm13 hpd, rfl, l3, _, _, _, rfl, rfl, SqL.of upd_same, hsc, 1000, _, rfl, rfl, .inl ⟨by decide, by decide⟩, ?_⟩
    refine ⟨.int ss.sum, rfl, .ref D, rfl, .int (j : Int), rfl, D, _, _, _, rfl, rfl, SqL.of (s3 _ _ (sm2 _ _ hD1)), at_nth (by omega), _, _, rfl, rfl, .inl ⟨by omega, by omega⟩, .int (dotI ss (wsI ss o)), rfl, _, _, rfl, rfl, ?_⟩
    refine ⟨.int (1000 * pw2 o.dbt.scale), rfl, .int ss.sum, rfl, _, _, rfl, rfl, .inr ⟨by omega, by omega⟩, .int ss.sum, rfl, _, _, rfl, rfl, .inr ⟨by omega, by omega⟩, (by show 2 ≤ sizeLine; decide), fun t nt => ?_⟩
    exact q _ t (sm13.trans (same_new nt)) (SqT.of upd_same)
theorem ok_moved {f : Addr} {fd : FuncData} (F : Fun K "_law_moved_on" "_law_moved_on" s_L_moved_on f fd) (gF : mg "_law_moved_on" = some (.ref f)) (b : Binds K fd ["_law_one", "_law_lot", "_law_mark"] []) (B : Bl mg) {n nd lv : Nat} (hl1 : n + 2 ≤ lv) (hl2 : nd + 1 ≤ lv) (c_L_worth : Cal P w K mg base (n + 1) "_law_worth" (spWorthS K n)) (c_L_luck : Cal P w K mg base (n + 2) "_law_luck" (spLuck K n)) (c_L_gone : Cal P w K mg base (nd + 1) "_law_gone" (spDo K nd)) : Cal P w K mg base (lv + 1) "_law_moved_on" (spOneDay K n nd) := by
  refine ⟨f, fd, _, F.ok sc_L_moved_on (fun vs H Q E h => ?_) (fun cdv A outer s H vs Q E hr h => ?_), gF, F.kp, b⟩
  · obtain ⟨_, _, _, _, _, _, rfl, _⟩ := h
    rfl
  · obtain ⟨ov, sv, o, many, j, ss, rfl, hO, ok, hm2, hm3, hj, hS, q⟩ := h
    obtain ⟨py, dv, rv, rfl, hpy, hD, hR⟩ := id hO
    obtain ⟨ps, rfl, hps, hsl, hsb, hs0, hsn⟩ := id hS
    obtain ⟨pd, vb, pst, pb, us, ws, rfl, hpd, hvb, hpst, hus, hpb, hws⟩ := id hD
    refine ⟨_, (pss_cons (ps_asg (pe_slice sl_tupA (pv 0) po_none (po_some pe_int)) (pg_tup rfl (pgs_cons (pg_name (i := 3) sc_L_moved_on.nd rfl (.inl rfl)) (pgs_cons (pg_name (i := 4) sc_L_moved_on.nd rfl (.inl rfl)) (pgs_cons (pg_name (i := 5) sc_L_moved_on.nd rfl (.inr rfl)) (pgs_cons (pg_name (i := 6) sc_L_moved_on.nd rfl (.inl rfl)) pgs_nil)))))) (pss_cons (ps_asg (pe_slice sl_tupA (pv 0) (po_some pe_int) po_none) (pg_tup rfl (pgs_cons (pg_name (i := 7) sc_L_moved_on.nd rfl (.inl rfl)) (pgs_cons (pg_name (i := 8) sc_L_moved_on.nd rfl (.inl rfl)) (pgs_cons (pg_name (i := 9) sc_L_moved_on.nd rfl (.inl rfl)) (pgs_cons (pg_name (i := 10) sc_L_moved_on.nd rfl (.inl rfl)) pgs_nil)))))) (C8.pss_cut (ps_asg (pe_c c_L_luck hr (by omega) (by rfl) (pa_cons (pv 0) (pa_cons (pv 1) (pa_cons (pv 2) pa_nil)))) (pg_tup rfl (pgs_cons (pg_name (i := 11) sc_L_moved_on.nd rfl (.inl rfl)) (pgs_cons (pg_name (i := 12) sc_L_moved_on.nd rfl (.inl rfl)) pgs_nil)))) (pss_cons (ps_setLc (i := 13) (own := [("_law_stake_here", 14)]) rfl sc_L_moved_on.nd rfl rfl (sw_true rfl rfl rfl (by decide +kernel)) (pi_tup (pe_ix ix_tup (pv 4) pe_int (fun _ _ => rfl))) (blkOk_by (N := N_L_moved_on) (sc := defScope s_L_moved_on) (by decide +kernel)) (fun _ _ _ _ _ => pg_name (i := 14) sc_L_moved_on.nd rfl (.inl rfl)) (fun _ _ _ _ _ => pts_nil) (fun _ _ _ _ _ => pe_c c_L_worth hr (by omega) (by rfl) (pa_cons (pv 14) (pa_cons (pv 5) (pa_cons (pv 1) pa_nil))))) (pss_cons (ps_set (i := 7) sc_L_moved_on.nd rfl (.inl rfl) (pe_op op_fdivW (pe_op op_mul (pv 7) (pe_op op_add (pv 12) (pv 11))) (pv 12))) (pss_cons (ps_set (i := 8) sc_L_moved_on.nd rfl (.inl rfl) (pe_op op_sub pe_int (pe_op op_fdivW (pe_op op_sub pe_int (pe_op op_mul (pv 8) (pe_op op_add (pv 12) (pv 11)))) (pv 12)))) (pss_cons (ps_set (i := 9) sc_L_moved_on.nd rfl (.inl rfl) (pe_op op_add (pv 9) (pe_callTy call_int1 (by rfl) B.int (by decide +kernel) (pa_cons (pe_cmpR op_lt (pe_callB (cr_min rfl) (by rfl) B.min (by decide +kernel) (pa_cons (pv 13) pa_nil)) (pe_callB (cr_max rfl) (by rfl) B.max (by decide +kernel) (pa_cons (pv 13) pa_nil)) (nomark _)) pa_nil)))) (pss_cons (ps_set (i := 5) sc_L_moved_on.nd rfl (.inr rfl) (pe_c c_L_gone hr (by omega) (by rfl) (pa_cons (pe_ix ix_tup (pe_ix ix_tup (pv 4) pe_int (fun _ _ => rfl)) (pv 2) (fun _ _ => rfl)) (pa_cons (pv 5) (pa_cons (pv 1) pa_nil))))) (pss_cons (ps_set (i := 10) sc_L_moved_on.nd rfl (.inl rfl) (pe_op op_add (pv 10) (pe_op op_fdivW (pe_op op_mul (pe_op op_pow pe_int pe_int) (pv 11)) (pv 12)))) (pss_one (ps_ret (pe_tup (pa_cons (pv 3) (pa_cons (pv 4) (pa_cons (pv 5) (pa_cons (pv 6) (pa_cons (pv 7) (pa_cons (pe_op op_add (pv 8) pe_int) (pa_cons (pv 9) (pa_cons (pv 10) pa_nil)))))))))))))))))))), ?_⟩
    have hul := hus.len
    have hwl : (wsI ss o).length = many := by unfold wsI; rw [List.length_map]; exact ok.sl
    have osl := ok.sl
    have m1 := ok.m1
    have o1 := ok.o1
    have pu : LkOk many n o := ⟨ok.sl, ok.sc, ok.st⟩
    have hp2 := pw2_bnd o.dbt.scale
    refine ⟨.ref py, rfl, 4, rfl, slA hpy fun Ha pa sma hpa => ?_⟩
    have hpa : SqT K Ha pa [.str "one", .ref pd, rv, .int o.weight] := hpa
    refine ⟨pa, _, rfl, hpa, rfl, _, _, rfl, _, _, rfl, _, _, rfl, _, _, rfl, rfl, ?_⟩
    refine ⟨.ref py, rfl, 4, rfl, ?_⟩
    dsimp only [tNoPart]
    refine slA (same_sqt sma hpy) fun Hb pb2 smb hpb2 => ?_
    have hpb2 : SqT K Hb pb2 [.int o.motes, .int o.owed, .int o.days, .int o.got] := hpb2
    refine ⟨pb2, _, rfl, hpb2, rfl, _, _, rfl, _, _, rfl, _, _, rfl, _, _, rfl, rfl, ?_⟩
    have smab := sma.trans smb
    refine ⟨fun σ' H' => σ' = [some (.ref py), some (.ref ps), some (.int (j : Int)), some (.str "one"), some (.ref pd), some rv, some (.int o.weight), some (.int o.motes), some (.int o.owed), some (.int o.days), some (.int o.got), some (.int (winI ss j o)), some (.int (fullI ss o)), none, none] ∧ Same H H', ⟨.ref py, rfl, .ref ps, rfl, .int (j : Int), rfl, .ref py, .ref ps, o, many, j, ss, rfl, hO.imp fun _ _ h => same_sqt smab h, pu, hm3, hj, hS.same smab, fun Hc t3 smc ht3 => ⟨t3, _, rfl, ht3, rfl, _, _, rfl, _, _, rfl, rfl, rfl, smab.trans smc⟩⟩, ?_⟩
    rintro σ' Hc ⟨rfl, sm⟩
    have hpst0 := same_sqt sm hpst
    have hus0 := hus.same sm
    have hR0 := hR.same sm
    have hS0 := hS.same sm
    refine ⟨.ref pd, rfl, pd, _, 3, _, rfl, rfl, same_sqt sm hpd, rfl, pst, rfl, ⟨_, hpst0⟩, fun D nD => lc_tup (xs := us) (fun i H' => Same Hc H' ∧ H' D = some (.lst (((o.dbt.stakes.take i).map (wo o.regs ss)).map V.int))) ⟨same_new nD, upd_same⟩ (fun i H' _ h => same_sqt h.1 hpst0) ?_ ?_⟩
    · rintro i x H1 hx ⟨sm1, hD1⟩
      have hil := (List.getElem?_eq_some_iff.mp hx).1
      obtain ⟨e, he, xe⟩ := hus0.get' hx
      obtain ⟨oe, de⟩ := ok.st e (List.mem_of_getElem? he)
      refine ⟨rfl, tYes_in ?_⟩
      refine ⟨x, rfl, rv, rfl, .ref ps, rfl, x, rv, .ref ps, e, many, o.regs, ss, rfl, xe.same sm1, oe, de, hR0.same sm1, hS0.same sm1, fun H2 sm2 => ⟨_, sm2 _ _ hD1, ?_, fun b' ob eb => ?_, ?_⟩⟩
      · rw [List.length_map, List.length_map, List.length_take]
        exact small1000 (by omega)
      · rw [upd_ne (ne_of_none eb nD)]
        exact sm2 _ _ (sm1 _ _ eb)
      · rw [upd_same, List.take_add_one, he, List.map_append, List.map_append]
        rfl
    rintro H1 ⟨sm1, hD1⟩
    rw [hul, List.take_length] at hD1
    have hD1 : H1 D = some (.lst ((wsI ss o).map V.int)) := hD1
    have sm01 := sm.trans sm1
    have hfull : 0 < fullI ss o := Int.mul_pos (Int.mul_pos (by omega) hs0) hs0
    have hfb : (fullI ss o).natAbs < 2 ^ 200 := by
      unfold fullI
      have z1 : (1000 * pw2 o.dbt.scale).natAbs < 2 ^ 20 := by omega
      have z2 : ss.sum.natAbs < 2 ^ 60 := by omega
      exact Nat.lt_of_lt_of_le (wide_lt (wide_lt z1 z2) z2) (Nat.pow_le_pow_right (by decide) (by decide))
    refine ⟨.int o.motes, rfl, .int (fullI ss o), rfl, .int (winI ss j o), rfl, _, _, rfl, rfl, _, _, rfl, rfl, .inl ⟨by omega, by omega⟩, .int (fullI ss o), rfl, _, _, rfl, rfl, wide_div (b := 200) hfull hfb (by decide) (by decide), ?_⟩
    refine ⟨.int o.owed, rfl, .int (fullI ss o), rfl, .int (winI ss j o), rfl, _, _, rfl, rfl, _, _, rfl, rfl, .inl ⟨by omega, by omega⟩, 0, _, rfl, rfl, .int (fullI ss o), rfl, _, _, rfl, rfl, wide_div (b := 200) hfull hfb (by decide) (by decide), 0, _, rfl, rfl, ?_⟩
    refine ⟨.int o.days, rfl, .ref D, rfl, D, wsI ss o, rfl, SqL.of hD1, by omega, fun a ha hal => ?_⟩
    refine ⟨.ref D, rfl, D, wsI ss o, rfl, SqL.of hD1, by omega, fun z hz hzl => ?_⟩
    refine ⟨_, _, rfl, rfl, .inr ⟨_, rfl, _, _, rfl, rfl, ?_⟩⟩
    dsimp only
    rw [alike_lt ha hal hz hzl]
    obtain ⟨d, hd⟩ : ∃ d, o.dbt.behinds[j]? = some d := ⟨_, List.getElem?_eq_getElem (by have := ok.bl; omega)⟩
    have hdm := ok.bh d (List.mem_of_getElem? hd)
    have edd : o.dbt.behinds.getD j .nil = d := by rw [List.getD_eq_getElem?_getD, hd]; rfl
    obtain ⟨pdd, xs, hpdd, hq, hds⟩ := hws.get hd
    have sm1' := sm01
    refine ⟨.ref pd, rfl, pd, _, 4, _, rfl, rfl, same_sqt sm01 hpd, rfl, .int (j : Int), rfl, pb, _, _, _, rfl, rfl, same_sqt sm01 hpb, atI_nat hpdd, rv, rfl, .ref ps, rfl, pdd, rv, .ref ps, xs, d, many, o.regs, ss, rfl, same_sqt sm01 hq, hds.same sm01, hdm.1, hdm.2, hR.same sm01, hS.same sm01, fun H2 v2 sm2 hv2 => ?_⟩
    have sm02 := sm01.trans sm2
    refine ⟨.int o.got, rfl, 10, 9, rfl, rfl, ⟨by decide, by decide, by decide⟩, .int (winI ss j o), rfl, _, _, rfl, rfl, .inl ⟨by decide, by decide⟩, .int (fullI ss o), rfl, _, _, rfl, rfl, wide_div (b := 200) hfull hfb (by decide) (by decide), _, _, rfl, rfl, ?_⟩
    refine ⟨_, rfl, _, rfl, _, rfl, _, rfl, _, rfl, _, rfl, _, _, rfl, rfl, _, rfl, _, rfl, (by show 8 ≤ sizeLine; decide), fun t4 n4 => ?_⟩
    dsimp only at n4 ⊢
    have e9 : (10 : Int) ^ (9 : Int).toNat = 1000000000 := by decide
    have eo : 0 - (0 - o.owed * (fullI ss o + winI ss j o)) / fullI ss o + 1 = -(-o.owed * (fullI ss o + winI ss j o) / fullI ss o) + 1 := by rw [Int.zero_sub, Int.zero_sub, Int.neg_mul]
    rw [e9, eo]
    have s4 := same_new (o := .tup [.str "one", .ref pd, v2, .int o.weight, .int (o.motes * (fullI ss o + winI ss j o) / fullI ss o), .int (-(-o.owed * (fullI ss o + winI ss j o) / fullI ss o) + 1), .int (if alikeI (wsI ss o) = true then o.days else o.days + 1), .int (o.got + 1000000000 * winI ss j o / fullI ss o)]) n4
    have sm4 := sm02.trans s4
    refine q _ _ sm4 ⟨t4, .ref pd, v2, rfl, SqT.of upd_same, hD.same sm4, ?_⟩
    show RegsAt K _ (ap ss (o.dbt.behinds.getD j .nil) o.regs) v2
    rw [edd]
    exact hv2.imp fun _ _ h => same_sqt s4 h
end
end NG

namespace NG
open PySem PySem.Spec PyProof.Rows L2
theorem Ms.all_mono {P R : One → Prop} (h : ∀ o, P o → R o) : ∀ {m : Ms}, m.all P → m.all R
  | .nil, _ => trivial
  | .one _ _, a => ⟨h _ a.1, Ms.all_mono h a.2⟩
  | .house _ _ _, a => ⟨Ms.all_mono h a.1, Ms.all_mono h a.2⟩
theorem ao_of : ∀ os : List One, aoI (ofOnes os) = os
  | [] => rfl
  | o :: r => by show o :: aoI (ofOnes r) = o :: r; rw [ao_of r]
/-! ### how great pulls may be -/
def mirO (o : One) : One := ⟨⟨o.dbt.name, o.dbt.scale, o.dbt.begins, o.dbt.stakes.map fun e => .two .less (.fig 0) e, o.dbt.behinds⟩, o.regs, o.weight, o.motes, o.owed, o.days, o.got⟩
def spMir (K : PySem.W.Frag) : Sp := fun vs H Q _ => ∃ (v : V) (o : One), vs = [v] ∧ OneAt K H o v ∧ o.dbt.stakes.length ≤ 3 ∧ ∀ H' v', Same H H' → OneAt K H' (mirO o) v' → Q v' H'
section
variable {P : Program} {w : World} {K : PySem.W.Frag} {mg : Str → Option Value} {base : Heap}
theorem ok_mirrored {f : Addr} {fd : FuncData} (F : Fun K "_law_mirrored" "_law_mirrored" s_L_mirrored f fd) (gF : mg "_law_mirrored" = some (.ref f)) (b : Binds K fd ["_law_one"] []) (B : Bl mg) : Cal P w K mg base 1 "_law_mirrored" (spMir K) := by
  refine ⟨f, fd, _, F.ok sc_L_mirrored (fun vs H Q E h => ?_) (fun cdv A outer s H vs Q E hr h => ?_), gF, F.kp, b⟩
  · obtain ⟨_, _, rfl, _⟩ := h
    rfl
  · obtain ⟨v, o, rfl, hO, hsl, q⟩ := h
    obtain ⟨py, dv, rv, rfl, hpy, hDv, hRv⟩ := hO
    obtain ⟨pd, vb, ps, pb, us, ws, rfl, hpd, hvb, hps, hus, hpb, hws⟩ := id hDv
    refine ⟨_, (pss_cons (ps_set (i := 1) sc_L_mirrored.nd rfl (.inl rfl) (pe_ix ix_tup (pv 0) pe_int (fun _ _ => rfl))) (pss_cons (ps_set (i := 2) sc_L_mirrored.nd rfl (.inl rfl) (pe_tupleOf (by rfl) B.tuple (pe_lc (own := [("_law_stake_here", 3)]) rfl sc_L_mirrored.nd (pi_tup (pe_ix ix_tup (pv 1) pe_int (fun _ _ => rfl))) (blkOk_by (N := N_L_mirrored) (sc := defScope s_L_mirrored) (by decide +kernel)) (fun _ _ _ _ _ => pg_name (i := 3) sc_L_mirrored.nd rfl (.inl rfl)) (fun _ _ _ _ _ => pts_nil) (fun _ _ _ _ _ => pe_tup (pa_cons pe_str (pa_cons (pe_tup (pa_cons pe_str (pa_cons pe_int pa_nil))) (pa_cons (pv 3) pa_nil))))))) (pss_one (ps_ret (pe_op op_catA (pe_op op_catA (pe_slice sl_tupA (pv 0) po_none (po_some pe_int)) (pe_tup (pa_cons (pe_op op_catA (pe_slice sl_tupA (pv 1) po_none (po_some pe_int)) (pe_tup (pa_cons (pv 2) (pa_cons (pe_ix ix_tup (pv 1) pe_int (fun _ _ => rfl)) pa_nil)))) pa_nil))) (pe_slice sl_tupA (pv 0) (po_some pe_int) po_none)))))), ?_⟩
    have hul := hus.len
    refine ⟨.ref py, rfl, py, _, 1, _, rfl, rfl, hpy, rfl, ?_⟩
    refine ⟨.ref pd, rfl, pd, _, 3, _, rfl, rfl, hpd, rfl, ps, rfl, ⟨_, hps⟩, fun D nD => lc_tup (xs := us) (fun i H' => ∃ rs, Same H H' ∧ H' D = some (.lst rs) ∧ RowsAt K H' rs ((o.dbt.stakes.take i).map fun e => .two .less (.fig 0) e)) ⟨[], same_new nD, upd_same, trivial⟩ (fun i H' _ h => ?_) ?_ ?_⟩
    · obtain ⟨_, sm, _⟩ := h
      exact same_sqt sm hps
    · rintro i x H1 hx ⟨rs, sm1, hD1, hrs⟩
      have hil := (List.getElem?_eq_some_iff.mp hx).1
      obtain ⟨e, he, xe⟩ := hus.get' hx
      have hrl : rs.length ≤ 3 := by
        rw [hrs.len, List.length_map, List.length_take]
        omega
      refine ⟨rfl, tYes_in ⟨(by show 2 ≤ sizeLine; decide), fun f1 n1 => ⟨x, rfl, (by show 3 ≤ sizeLine; decide), fun f2 n2 => ?_⟩⟩⟩
      have s1 := same_new (o := .tup [.str "fig", .int 0]) n1
      have s2 := same_new (o := .tup [.str "less", .ref f1, x]) n2
      have s12 := s1.trans s2
      have hD2 := s12 _ _ hD1
      refine ⟨rs, hD2, small1000 (by omega), rs ++ [.ref f2], fun b' ob eb => ?_, upd_same, ?_⟩
      · rw [upd_ne (ne_of_none eb nD)]
        exact s12 _ _ (sm1 _ _ eb)
      · rw [List.take_add_one, he, List.map_append]
        refine (RowsAt.append (hrs.same s12) ?_).imp fun _ _ h => put_sqt hD2 h
        exact ⟨⟨f2, .ref f1, x, rfl, SqT.of upd_same, ⟨f1, rfl, same_sqt s2 (SqT.of upd_same)⟩, xe.same (sm1.trans s12)⟩, trivial⟩
    · rintro H1 ⟨rs, sm1, hD1, hrs⟩
      rw [hul, List.take_length] at hrs
      refine .inl ⟨D, rs, rfl, SqL.of hD1, fun t nt => ?_⟩
      have st := same_new (o := .tup rs) nt
      have hT : SqT K (upd H1 t (.tup rs)) t rs := SqT.of upd_same
      have sm2 := sm1.trans st
      have hrs2 := hrs.same st
      clear st
      generalize upd H1 t (.tup rs) = H2 at hT sm2 hrs2
      refine ⟨.ref py, rfl, 1, rfl, slA (same_sqt sm2 hpy) fun H3 p3 sm3 hp3 => ?_⟩
      have hp3 : SqT K H3 p3 [.str "one"] := hp3
      have sm23 := sm2.trans sm3
      refine ⟨.ref pd, rfl, 3, rfl, slA (same_sqt sm23 hpd) fun H4 p4 sm4 hp4 => ?_⟩
      have hp4 : SqT K H4 p4 [.str o.dbt.name, .int (o.dbt.scale : Int), vb] := hp4
      have sm24 := sm23.trans sm4
      refine ⟨.ref t, rfl, .ref pd, rfl, pd, _, 4, _, rfl, rfl, same_sqt sm24 hpd, rfl, (by show 2 ≤ sizeLine; decide), fun t5 n5 => ?_⟩
      have s5 := same_new (o := .tup [.ref t, .ref pb]) n5
      refine catA (same_sqt s5 hp4) (SqT.of upd_same) (by show 3 + 2 ≤ sizeLine; decide) fun H6 p6 sm6 hp6 => ?_
      have hp6 : SqT K H6 p6 [.str o.dbt.name, .int (o.dbt.scale : Int), vb, .ref t, .ref pb] := hp6
      have sm26 := sm24.trans (s5.trans sm6)
      refine ⟨(by show 1 ≤ sizeLine; decide), fun t7 n7 => ?_⟩
      have s7 := same_new (o := .tup [.ref p6]) n7
      refine catA (same_sqt s7 (same_sqt sm6 (same_sqt s5 (same_sqt sm4 hp3)))) (SqT.of upd_same) (by show 1 + 1 ≤ sizeLine; decide) fun H8 p8 sm8 hp8 => ?_
      have hp8 : SqT K H8 p8 [.str "one", .ref p6] := hp8
      have sm28 := sm26.trans (s7.trans sm8)
      refine ⟨.ref py, rfl, 2, rfl, ?_⟩
      dsimp only [tNoPart]
      refine slA (same_sqt sm28 hpy) fun H9 p9 sm9 hp9 => ?_
      have hp9 : SqT K H9 p9 [rv, .int o.weight, .int o.motes, .int o.owed, .int o.days, .int o.got] := hp9
      refine catA (same_sqt sm9 hp8) hp9 (by show 2 + 6 ≤ sizeLine; decide) fun H10 p10 sm10 hp10 => ?_
      have hp10 : SqT K H10 p10 [.str "one", .ref p6, rv, .int o.weight, .int o.motes, .int o.owed, .int o.days, .int o.got] := hp10
      have sm610 := ((s7.trans sm8).trans sm9).trans sm10
      have smz := sm26.trans sm610
      have sm2z := ((sm3.trans sm4).trans (s5.trans sm6)).trans sm610
      exact q _ (.ref p10) smz ⟨p10, .ref p6, rv, rfl, hp10, ⟨p6, vb, t, pb, rs, ws, rfl, same_sqt sm610 hp6, hvb.same smz, same_sqt sm2z hT, hrs2.same sm2z, same_sqt smz hpb, hws.same smz⟩, hRv.same smz⟩
end
end NG

namespace NG
open PySem PySem.Spec PyProof.Rows L2
/-- a doubter that may be called all -/
structure DbA (many dE dD cD : Nat) (D : Dbt) : Prop where
  nm : D.name = "a" ∨ D.name = "doubter" ∨ D.name = "sceptics" ∨ D.name = "zz" ∨ D.name = "all"
  sc : D.scale < 5
  rg : RegOk D.begins
  sl : D.stakes.length = many
  st : ∀ e ∈ D.stakes, ExOk many e ∧ e.dep ≤ dE
  bl : D.behinds.length = many
  bh : ∀ d ∈ D.behinds, DsOk many d ∧ d.dep ≤ dD ∧ d.cnt ≤ cD
theorem DbA.of {many dE dD cD : Nat} {D : Dbt} (h : DbOk many dE dD cD D) : DbA many dE dD cD D := ⟨by rcases h.nm with e | e | e | e <;> simp [e], h.sc, h.rg, h.sl, h.st, h.bl, h.bh⟩
theorem shw_dbA {many dE dD cD : Nat} {D : Dbt} (hm : many ≤ 3) (hE : dE ≤ 8) (hD : dD ≤ 8) (o : DbA many dE dD cD D) : Shw (dbD D) (120 + 3 * wgt dE + 180 * cD) 20 := by
  have h0 : Shw (.str D.name) 10 0 := by rcases o.nm with e | e | e | e | e <;> rw [e] <;> exact .str (by decide) (by decide)
  have h1 : Shw (.int (D.scale : Int)) 15 0 := .small (by have := o.sc; omega)
  have h2 := (shw_smalls o.rg.2).tup
  have h3 := (shw_list (f := toD) (w := wgt dE) (k := dE) fun e he => (shw_ex (many := many) (by omega) (o.st e he).1).mono (wgt_mono (o.st e he).2) (o.st e he).2).tup
  have h4 := (shw_list (f := fun d => PyData.tuple (dsD d)) (w := 60 * cD) (k := 2 * dD + 1) fun d hd => ((shw_ds (many := many) (by omega) (o.bh d hd).1).tup).mono (Nat.mul_le_mul_left _ (o.bh d hd).2.2) (by have := (o.bh d hd).2.1; omega)).tup
  have h5 := ShwAll.tup (.cons h0 (.cons h1 (.cons h2 (.cons h3 (.cons h4 (ShwAll.nil (k := 0)) (k := 18) (by omega) (by omega)) (by omega) (Nat.le_refl 18)) (by omega) (Nat.le_refl 18)) (by omega) (Nat.le_refl 18)) (by omega) (Nat.le_refl 18))
  refine h5.mono ?_ (by decide)
  rw [o.sl, o.bl, o.rg.1]
  have a1 : (wgt dE + 1) * many ≤ (wgt dE + 1) * 3 := Nat.mul_le_mul_left _ hm
  have a2 : (60 * cD + 1) * many ≤ (60 * cD + 1) * 3 := Nat.mul_le_mul_left _ hm
  omega
theorem lf_dbA {many dE dD cD : Nat} {D : Dbt} (hm : many ≤ 1000) (o : DbA many dE dD cD D) : (dbD D).leavesShort 70 = true := by
  refine lf_and (d := .str D.name) (by rcases o.nm with e | e | e | e | e <;> rw [e] <;> decide) (lf_and (int60 (by have := o.sc; omega)) (lf_and (d := .tuple (D.begins.map PyData.int)) (lf_list fun x hx => int60 (by have := o.rg.2 x hx; omega)) (lf_and (d := .tuple (D.stakes.map toD)) (lf_list fun e he => lf_ex hm (o.st e he).1) (lf_and (d := .tuple (D.behinds.map fun d => .tuple (dsD d))) (lf_list fun d hd => ?_) rfl))))
  exact lf_ds hm (o.bh d hd).1
theorem StOk.up {many l k : Nat} {e : Ex} (h : StOk many l e) (hl : l ≤ k) : StOk many k e := by
  rcases h with h | ⟨c, e', h1, h2, h3, h4, h5⟩
  · exact .inl h
  · exact .inr ⟨c, e', h1, h2, h3, h4, by omega⟩
/-- how a one that joins is -/
structure FrOk (many : Nat) (o : One) : Prop where
  db : DbA many 4 2 10 o.dbt
  so : ∀ e ∈ o.dbt.stakes, StOk many 1 e
  rg : RegOk o.regs
def spFresh (K : PySem.W.Frag) : Sp := fun vs H Q _ => ∃ (a : Addr) (many n : Nat), vs = [.ref a, .int (many : Int)] ∧ 2 ≤ many ∧ many ≤ 3 ∧ HandAt H a n ∧ n ≤ 900000000 ∧
  ∀ H' v o, But a H H' → HandAt H' a (n + 500) → OneAt K H' o v → FrOk many o → (1 ≤ o.weight ∧ o.weight ≤ 1000000000000) → o.motes = o.weight → o.owed = 0 → o.days = 0 → o.got = 0 → Q v H'
def spSign (K : PySem.W.Frag) (n : Nat) : Sp := fun vs H Q _ => ∃ (a : Addr) (ov sv : V) (o : One) (many k : Nat) (ss : List Int), vs = [.ref a, ov, sv] ∧ HandAt H a k ∧ k ≤ 900000000 ∧ OneAt K H o ov ∧ LkOk many n o ∧ 2 ≤ many ∧ many ≤ 3 ∧ ShAt K H many ss sv ∧
  ∀ H' (j : Nat), But a H H' → HandAt H' a (k + 2) → j < many → Q (.int (j : Int)) H'
def spPair (K : PySem.W.Frag) : Sp := fun vs H Q _ => ∃ (ov v0 v1 : V) (t : Addr) (x e : Int) (o o0 o1 : One), vs = [ov, .ref t, .int x, .int e] ∧ OneAt K H o ov ∧ SqT K H t [v0, v1] ∧ OneAt K H o0 v0 ∧ OneAt K H o1 v1 ∧ 0 < e ∧ (0 ≤ o.motes ∧ o.motes < 2 ^ 63) ∧
  o0.motes + o1.motes = 2 * o.motes - (if o.motes * (e + x) % e = 0 then 0 else 1) ∧ Q (.bl true) H
theorem first_at : ∀ {ns : List Int} {m : Int}, m ∈ ns → ∃ j : Nat, ns[j]? = some m ∧ ∀ (i : Nat) (z : Int), i < j → ns[i]? = some z → z ≠ m
  | [], m, h => by cases h
  | n :: r, m, h => by
    by_cases c : n = m
    · exact ⟨0, by rw [c]; rfl, fun i z hi => by omega⟩
    · rcases List.mem_cons.mp h with e | h
      · exact absurd e.symm c
      · obtain ⟨j, hj, hn⟩ := first_at h
        refine ⟨j + 1, hj, fun i z hi hz => ?_⟩
        cases i with
        | zero => exact (Option.some.inj hz) ▸ c
        | succ i => exact hn i z (by omega) hz
section
variable {P : Program} {w : World} {K : PySem.W.Frag} {mg : Str → Option Value} {base : Heap}
theorem ok_fresh {f : Addr} {fd : FuncData} (F : Fun K "_law_fresh" "_law_fresh" s_L_fresh f fd) (gF : mg "_law_fresh" = some (.ref f)) (b : Binds K fd ["_law_hand_here", "_law_many"] []) (B : Bl mg) (c_L_take : Cal P w K mg base 1 "_law_take" spTake) (c_L_of : Cal P w K mg base 2 "_law_of" (spOf K)) {m lv : Nat} (hm : 2 ≤ m) (hlv : m + 7 ≤ lv) (c_L_doubter : Cal P w K mg base (m + 7) "_law_doubter" (spDoubterB K m)) : Cal P w K mg base (lv + 1) "_law_fresh" (spFresh K) := by
  refine ⟨f, fd, _, F.ok sc_L_fresh (fun vs H Q E h => ?_) (fun cdv A outer s H vs Q E hr h => ?_), gF, F.kp, b⟩
  · obtain ⟨_, _, _, rfl, _⟩ := h
    rfl
  · obtain ⟨a, many, n, rfl, hm2, hm3, hh, hn, q⟩ := h
    refine ⟨_, (pss_cons (ps_set (i := 2) sc_L_fresh.nd rfl (.inl rfl) (pe_c c_L_doubter hr (by omega) (by rfl) (pa_cons (pv 0) (pa_cons (pv 1) (pa_cons (pe_op op_sub pe_int (pv 1)) (pa_cons pe_bl pa_nil)))))) (C8.pss_cut (ps_if (pt_cmpR op_eq (pe_c c_L_take hr (by omega) (by rfl) (pa_cons (pv 0) (pa_cons pe_int pa_nil))) pe_int (nomark _)) (pss_cons (ps_set (i := 3) sc_L_fresh.nd rfl (.inl rfl) (pe_tupleOf (by rfl) B.tuple (pe_lc (own := [("_law_mark", 4)]) rfl sc_L_fresh.nd (pi_range1 rfl B.range (pa_cons (pv 1) pa_nil)) (blkOk_by (N := N_L_fresh) (sc := defScope s_L_fresh) (by decide +kernel)) (fun _ _ _ _ _ => pg_name (i := 4) sc_L_fresh.nd rfl (.inl rfl)) (fun _ _ _ _ _ => pts_nil) (fun _ _ _ _ _ => pe_tup (pa_cons pe_str (pa_cons (pe_ix (ixl K) (pe_lst (pa_cons pe_int (pa_cons (pe_un un_neg pe_int) (pa_cons pe_int pa_nil)))) (pv 4) (fun _ _ => rfl)) pa_nil)))))) (pss_one (ps_set (i := 2) sc_L_fresh.nd rfl (.inl rfl) (pe_tup (pa_cons pe_str (pa_cons pe_int (pa_cons (pe_ix ix_tup (pv 2) pe_int (fun _ _ => rfl)) (pa_cons (pv 3) (pa_cons (pe_ix ix_tup (pv 2) pe_int (fun _ _ => rfl)) pa_nil))))))))) pss_nil) (pss_cons (ps_set (i := 5) sc_L_fresh.nd rfl (.inl rfl) (pe_c c_L_of hr (by omega) (by rfl) (pa_cons (pv 0) (pa_cons (pe_lst (pa_cons pe_int (pa_cons pe_int (pa_cons pe_int (pa_cons (pe_op op_pow pe_int pe_int) (pa_cons (pe_op op_add pe_int (pe_c c_L_take hr (by omega) (by rfl) (pa_cons (pv 0) (pa_cons (pe_op op_pow pe_int pe_int) pa_nil)))) pa_nil)))))) pa_nil)))) (pss_one (ps_ret (pe_tup (pa_cons pe_str (pa_cons (pv 2) (pa_cons (pe_ix ix_tup (pv 2) pe_int (fun _ _ => rfl)) (pa_cons (pv 5) (pa_cons (pv 5) (pa_cons pe_int (pa_cons pe_int (pa_cons pe_int pa_nil)))))))))))))), ?_⟩
    obtain ⟨lw, hlw, hlw1⟩ : ∃ lw : Nat, 3 - (many : Int) = (lw : Int) ∧ lw ≤ 1 := ⟨3 - many, by omega, by omega⟩
    refine ⟨.ref a, rfl, .int (many : Int), rfl, .int (many : Int), rfl, _, _, rfl, rfl, a, many, lw, n, true, by rw [← hlw]; rfl, trivial, by omega, by omega, by omega, hm3, hh, by omega, fun H1 v1 D b1 hh1 hD ok so => ?_⟩
    have hcl : cost lw ≤ 40 := by
      have : lw = 0 ∨ lw = 1 := by omega
      rcases this with rfl | rfl <;> decide
    have okA := DbA.of (ok : DbOk many (lw + 3) 2 10 D)
    refine ⟨fun σ' H' => ∃ v D y3 y4, σ' = [some (.ref a), some (.int (many : Int)), some v, y3, y4, none] ∧ But a H H' ∧ HandAt H' a (n + 450) ∧ DbAt K H' D v ∧ DbA many 4 2 10 D ∧ ∀ e ∈ D.stakes, StOk many 1 e, ?_, ?_⟩
    · refine ⟨.ref a, rfl, a, 4, _, rfl, by decide, by decide, hh1, by omega, fun H2 r2 b2 hh2 _ _ => ⟨rfl, _, rfl, iteD (fun c => ?_) (fun c => ?_)⟩⟩
      · have hD2 := hD.imp fun _ _ h => b2.sq hh1 h
        obtain ⟨pd, vb, pst, pb, us, ws, rfl, hpd, hvb, hpst, hus, hpb, hws⟩ := hD2
        refine ⟨.int (many : Int), rfl, _, rfl, by omega, by omega, fun D4 nD => lc_range (n := ((many : Int)).toNat) (fun i H' => ∃ rs, Same H2 H' ∧ H' D4 = some (.lst rs) ∧ RowsAt K H' rs (([.fig 500, .fig (-500), .fig 500] : List Ex).take i)) ⟨[], same_new nD, upd_same, trivial⟩ ?_ ?_⟩
        · rintro i H3 hi ⟨rs, sm3, hD3, hrs⟩
          have hi3 : i < 3 := by omega
          have hrl := hrs.len
          rw [List.length_take] at hrl
          refine ⟨rfl, tYes_in ⟨500, rfl, (by show 3 ≤ sizeLine; decide), fun l5 n5 => ?_⟩⟩
          have s5 := same_new (o := .lst [.int 500, .int (-500), .int 500]) n5
          obtain ⟨c5, hc5, hE⟩ : ∃ c5 : Int, atI [.int 500, .int (-500), .int 500] (0 + (i : Int)) = some (V.int c5) ∧ (([.fig 500, .fig (-500), .fig 500] : List Ex))[i]? = some (.fig c5) := by
            rcases (by omega : i = 0 ∨ i = 1 ∨ i = 2) with rfl | rfl | rfl <;> exact ⟨_, rfl, rfl⟩
          refine ⟨.int (0 + (i : Int)), rfl, l5, _, _, _, rfl, rfl, SqL.of upd_same, hc5, (by show 2 ≤ sizeLine; decide), fun t6 n6 => ?_⟩
          have s6 := same_new (o := .tup [.str "fig", .int c5]) n6
          have s56 := s5.trans s6
          have hD6 := s56 _ _ hD3
          refine ⟨rs, hD6, small1000 (by omega), rs ++ [.ref t6], fun b' ob eb => ?_, upd_same, ?_⟩
          · rw [upd_ne (ne_of_none eb nD)]
            exact s56 _ _ (sm3 _ _ eb)
          · rw [List.take_add_one, hE]
            exact RowsAt.snoc (e := .fig c5) (show ExAt K _ (.fig c5) (.ref t6) from ⟨t6, rfl, put_sqt hD6 (SqT.of upd_same)⟩) ((hrs.same s56).imp fun _ _ h => put_sqt hD6 h)
        · rintro H3 ⟨rs, sm3, hD3, hrs⟩
          refine .inl ⟨D4, rs, rfl, SqL.of hD3, fun t7 n7 => ?_⟩
          have s7 := same_new (o := .tup rs) n7
          have sm7 := sm3.trans s7
          have hT7 : SqT K (upd H3 t7 (.tup rs)) t7 rs := SqT.of upd_same
          have hrs7 := hrs.same s7
          clear s7
          generalize upd H3 t7 (.tup rs) = H7 at sm7 hT7 hrs7
          have hpd7 := same_sqt sm7 hpd
          refine ⟨.ref pd, rfl, pd, _, 2, _, rfl, rfl, hpd7, rfl, .ref t7, rfl, .ref pd, rfl, pd, _, 4, _, rfl, rfl, hpd7, rfl, (by show 5 ≤ sizeLine; decide), fun t8 n8 => ?_⟩
          have s8 := same_new (o := .tup [.str "all", .int 0, vb, .ref t7, .ref pb]) n8
          have hso : ∀ e ∈ ([.fig 500, .fig (-500), .fig 500] : List Ex).take many, StOk many 1 e ∧ ExOk many e ∧ e.dep ≤ 4 := fun e he => by
            have he := List.mem_of_mem_take he
            simp only [List.mem_cons, List.not_mem_nil, or_false] at he
            rcases he with rfl | rfl | rfl <;> exact ⟨.inl ⟨_, rfl, by decide, by decide⟩, ⟨by decide, by decide⟩, by show 1 ≤ 4; decide⟩
          have sm78 := sm7.trans s8
          refine ⟨.ref t8, ⟨"all", 0, D.begins, ([.fig 500, .fig (-500), .fig 500] : List Ex).take many, D.behinds⟩, _, _, rfl, (b1.trans b2).trans (But.of sm78), (hh2.same sm78).le (by omega), ⟨t8, vb, t7, pb, rs, ws, rfl, SqT.of upd_same, hvb.same sm78, same_sqt s8 hT7, hrs7.same s8, same_sqt sm78 hpb, hws.same sm78⟩, ⟨by simp, by show 0 < 5; decide, okA.rg, by show (List.take many _).length = many; rw [List.length_take]; show min many 3 = many; omega, fun e he => (hso e he).2, okA.bl, okA.bh⟩, fun e he => (hso e he).1⟩
      · refine ⟨_, D, _, _, rfl, b1.trans b2, hh2.le (by omega), hD.imp fun _ _ h => b2.sq hh1 h, ⟨okA.nm, okA.sc, okA.rg, okA.sl, fun e he => ⟨(okA.st e he).1, by have := (okA.st e he).2; omega⟩, okA.bl, okA.bh⟩, fun e he => (so e he).up (by omega)⟩
    · rintro σ' H2 ⟨v, D, y3, y4, rfl, b2, hh2, hD, okA, so⟩
      have e12 : (10 : Int) ^ (12 : Int).toNat = 1000000000000 := by decide
      refine ⟨.ref a, rfl, 10, 12, rfl, rfl, ⟨by decide, by decide, by decide⟩, .ref a, rfl, 10, 12, rfl, rfl, ⟨by decide, by decide, by decide⟩, a, _, _, rfl, by decide, by decide, hh2, by omega, fun H3 r3 b3 hh3 r30 r31 => ⟨1, _, rfl, rfl, (by show 5 ≤ sizeLine; decide), fun l3 n3 => ?_⟩⟩
      rw [e12] at r31
      refine ⟨a, l3, _, _, rfl, (hh3.ne n3).symm, upd_same, (by show 0 < 5; decide), (by show 5 ≤ 1000; decide), hh3.new n3, by omega, fun H4 v4 b4 hh4 hv4 => ?_⟩
      obtain ⟨wt, rfl, wt0, wt1⟩ : ∃ c : Int, v4 = .int c ∧ 1 ≤ c ∧ c ≤ 1000000000000 := by
        have hv4 : v4 ∈ ([.int 1, .int 3, .int 1000, .int (10 ^ (12 : Int).toNat), .int (1 + r3)] : List V) := hv4
        rw [e12] at hv4
        simp only [List.mem_cons, List.not_mem_nil, or_false] at hv4
        rcases hv4 with rfl | rfl | rfl | rfl | rfl
        all_goals exact ⟨_, rfl, by omega, by omega⟩
      have b24 := (b3.trans (But.new n3)).trans b4
      have hD4 := hD.imp fun _ _ h => b24.sq hh2 h
      obtain ⟨pd, vb, pst, pb, us, ws, rfl, hpd, hvb, hpst, hus, hpb, hws⟩ := id hD4
      refine ⟨_, rfl, .ref pd, rfl, pd, _, 2, _, rfl, rfl, hpd, rfl, _, rfl, _, rfl, (by show 8 ≤ sizeLine; decide), fun t nt => ?_⟩
      have st := same_new (o := .tup [.str "one", .ref pd, vb, .int wt, .int wt, .int 0, .int 0, .int 0]) nt
      exact q _ (.ref t) ⟨D, D.begins, wt, wt, 0, 0, 0⟩ ((b2.trans b24).trans (But.of st)) ((hh4.new nt).le (by omega)) ⟨t, .ref pd, vb, rfl, SqT.of upd_same, hD4.same st, hvb.same st⟩ ⟨okA, so, okA.rg⟩ ⟨wt0, wt1⟩ rfl rfl rfl rfl
theorem ok_sign {f : Addr} {fd : FuncData} (F : Fun K "_law_sign" "_law_sign" s_L_sign f fd) (gF : mg "_law_sign" = some (.ref f)) (b : Binds K fd ["_law_hand_here", "_law_one", "_law_lot"] []) (B : Bl mg) {n : Nat} (c_L_take : Cal P w K mg base 1 "_law_take" spTake) (c_L_luck : Cal P w K mg base (n + 2) "_law_luck" (spLuck K n)) : Cal P w K mg base (n + 3) "_law_sign" (spSign K n) := by
  refine ⟨f, fd, _, F.ok sc_L_sign (fun vs H Q E h => ?_) (fun cdv A outer s H vs Q E hr h => ?_), gF, F.kp, b⟩
  · obtain ⟨_, _, _, _, _, _, _, rfl, _⟩ := h
    rfl
  · obtain ⟨a, ov, sv, o, many, k, ss, rfl, hh, hk, hO, ok, hm2, hm3, hS, q⟩ := h
    obtain ⟨ps, rfl, hps, hsl, hsb, hs0, hsn⟩ := id hS
    refine ⟨_, (pss_cons (ps_set (i := 3) sc_L_sign.nd rfl (.inl rfl) (pe_callB call_len_seq (by rfl) B.len PySem.boot_len (pa_cons (pv 2) pa_nil))) (pss_cons (ps_if (pt_cmpR op_gt (pe_c c_L_take hr (by omega) (by rfl) (pa_cons (pv 0) (pa_cons pe_int pa_nil))) pe_int (nomark _)) (pss_one (ps_ret (pe_c c_L_take hr (by omega) (by rfl) (pa_cons (pv 0) (pa_cons (pv 3) pa_nil))))) pss_nil) (pss_cons (ps_setLc (i := 4) (own := [("_law_mark", 5)]) rfl sc_L_sign.nd rfl rfl (sw_true rfl rfl rfl (by decide +kernel)) (pi_range1 rfl B.range (pa_cons (pv 3) pa_nil)) (blkOk_by (N := N_L_sign) (sc := defScope s_L_sign) (by decide +kernel)) (fun _ _ _ _ _ => pg_name (i := 5) sc_L_sign.nd rfl (.inl rfl)) (fun _ _ _ _ _ => pts_nil) (fun _ _ _ _ _ => pe_ix (ixt K) (pe_c c_L_luck hr (by omega) (by rfl) (pa_cons (pv 1) (pa_cons (pv 2) (pa_cons (pv 5) pa_nil)))) pe_int (fun _ _ => rfl))) (pss_one (ps_ret (pe_bm PySem.F.plainAttrs_list PySem.F.slot_list_index PySem.F.type_list_index mt_index (pv 4) (pa_cons (pe_callB (cr_min rfl) (by rfl) B.min (by decide +kernel) (pa_cons (pv 4) pa_nil)) pa_nil))))))), ?_⟩
    have hll : (((ss.map V.int).length : Nat) : Int) = (many : Int) := by rw [List.length_map, hsl]
    refine ⟨.ref ps, rfl, ps, _, rfl, .inr hps, ?_⟩
    rw [hll]
    refine ⟨.ref a, rfl, a, 3, k, rfl, by decide, by decide, hh, by omega, fun H1 r1 b1 hh1 _ _ => ⟨_, _, rfl, rfl, _, rfl, iteD (fun c => ?_) (fun c => ?_)⟩⟩
    · refine ⟨.ref a, rfl, .int (many : Int), rfl, a, _, k + 1, rfl, by omega, by omega, hh1, by omega, fun H2 r2 b2 hh2 r20 r21 => ?_⟩
      obtain ⟨j, rfl⟩ : ∃ j : Nat, r2 = (j : Int) := ⟨r2.toNat, by omega⟩
      exact q _ j (b1.trans b2) hh2 (by omega)
    have hO1 := hO.imp fun _ _ h => b1.sq hh h
    have hS1 := hS.imp fun _ _ h => b1.sq hh h
    refine ⟨.int (many : Int), rfl, _, rfl, by omega, by omega, fun D nD => lc_range (n := ((many : Int)).toNat) (fun i H' => Same H1 H' ∧ H' D = some (.lst ((((List.range many).map fun j => winI ss j o).take i).map V.int))) ⟨same_new nD, upd_same⟩ ?_ ?_⟩
    · rintro i H2 hi ⟨sm2, hD2⟩
      have hi : i < many := by omega
      refine ⟨rfl, tYes_in ?_⟩
      refine ⟨ov, rfl, .ref ps, rfl, .int (0 + (i : Int)), rfl, ov, .ref ps, o, many, i, ss, by rw [Int.zero_add]; rfl, hO1.imp fun _ _ h => same_sqt sm2 h, ok, hm3, hi, hS1.same sm2, fun H3 t sm3 ht => ?_⟩
      refine ⟨t, _, 0, _, rfl, rfl, ht, rfl, _, sm3 _ _ hD2, ?_, fun b' ob eb => ?_, ?_⟩
      · rw [List.length_map, List.length_take]
        exact small1000 (by omega)
      · rw [upd_ne (ne_of_none eb nD)]
        exact sm3 _ _ (sm2 _ _ eb)
      · rw [upd_same, List.take_add_one, List.getElem?_map, List.getElem?_range hi, List.map_append]
        rfl
    · rintro H2 ⟨sm2, hD2⟩
      rw [Int.toNat_natCast, List.take_of_length_le (by rw [List.length_map, List.length_range]; exact Nat.le_refl _)] at hD2
      have hnl : ((List.range many).map fun j => winI ss j o).length = many := by rw [List.length_map, List.length_range]
      generalize ((List.range many).map fun j => winI ss j o) = ns at hD2 hnl
      refine ⟨.ref D, rfl, .inl ⟨rfl, _, SqL.of hD2⟩, .ref D, rfl, D, ns, rfl, SqL.of hD2, by omega, fun m hm hml => ?_⟩
      obtain ⟨j, hj, hjn⟩ := first_at hm
      have hjl : j < many := by rw [← hnl]; exact (List.getElem?_eq_some_iff.mp hj).1
      refine ⟨D, ns.map V.int, .int m, j, .int m, rfl, rfl, SqL.of hD2, rfl, ?_, by rw [List.getElem?_map, hj]; rfl, ?_, fun i z hi hz => ?_, ?_⟩
      · rw [List.all_eq_true]
        intro v hv
        obtain ⟨z, _, rfl⟩ := List.mem_map.mp hv
        rfl
      · show (m == m) = true
        exact beq_self_eq_true m
      · rw [List.getElem?_map] at hz
        cases hz2 : ns[i]? with
        | none => rw [hz2] at hz; cases hz
        | some y =>
          rw [hz2] at hz
          cases hz
          have := hjn i y hi hz2
          show (y == m) = false
          simpa using this
      · exact q _ j (b1.trans (But.of sm2)) ((hh1.same sm2).le (by omega)) hjl
theorem ok_pair {f : Addr} {fd : FuncData} (F : Fun K "_law_pair_right" "_law_pair_right" s_L_pair_right f fd) (gF : mg "_law_pair_right" = some (.ref f)) (b : Binds K fd ["_law_one", "_law_told", "_law_extra", "_law_entire"] []) (B : Bl mg) : Cal P w K mg base 1 "_law_pair_right" (spPair K) := by
  refine ⟨f, fd, _, F.ok sc_L_pair_right (fun vs H Q E h => ?_) (fun cdv A outer s H vs Q E hr h => ?_), gF, F.kp, b⟩
  · obtain ⟨_, _, _, _, _, _, _, _, _, rfl, _⟩ := h
    rfl
  · obtain ⟨ov, v0, v1, t, x, e, o, o0, o1, rfl, hO, ht, hO0, hO1, he, hm, hsum, q⟩ := h
    obtain ⟨py, dv, rv, rfl, hpy, _, _⟩ := hO
    obtain ⟨p0, dv0, rv0, rfl, hp0, _, _⟩ := hO0
    obtain ⟨p1, dv1, rv1, rfl, hp1, _, _⟩ := hO1
    refine ⟨_, (pss_cons (ps_set (i := 4) sc_L_pair_right.nd rfl (.inl rfl) (pe_callTy call_int1 (by rfl) B.int (by decide +kernel) (pa_cons (pe_cmpR op_ne (pe_op op_mod (pe_op op_mul (pe_ix ix_tup (pv 0) pe_int (fun _ _ => rfl)) (pe_op op_add (pv 3) (pv 2))) (pv 3)) pe_int (nomark _)) pa_nil))) (pss_one (ps_ret (pe_cmpR op_eq (pe_op op_add (pe_ix ix_tup (pe_ix ix_tup (pv 1) pe_int (fun _ _ => rfl)) pe_int (fun _ _ => rfl)) (pe_ix ix_tup (pe_ix ix_tup (pv 1) pe_int (fun _ _ => rfl)) pe_int (fun _ _ => rfl))) (pe_op op_sub (pe_op op_mul pe_int (pe_ix ix_tup (pv 0) pe_int (fun _ _ => rfl))) (pv 4)) (nomark _))))), ?_⟩
    refine ⟨.ref py, rfl, py, _, 4, _, rfl, rfl, hpy, rfl, .int e, rfl, .int x, rfl, _, _, rfl, rfl, _, _, rfl, rfl, .inl ⟨by omega, by omega⟩, .int e, rfl, _, _, rfl, rfl, he, ?_⟩
    refine ⟨rfl, .inr ⟨_, rfl, ?_⟩⟩
    refine ⟨.ref t, rfl, t, _, 0, _, rfl, rfl, ht, rfl, p0, _, 4, _, rfl, rfl, hp0, rfl, .ref t, rfl, t, _, 1, _, rfl, rfl, ht, rfl, p1, _, 4, _, rfl, rfl, hp1, rfl, _, _, rfl, rfl, ?_⟩
    refine ⟨.ref py, rfl, py, _, 4, _, rfl, rfl, hpy, rfl, 2, _, rfl, rfl, .inl ⟨by decide, by decide⟩, _, rfl, _, _, rfl, rfl, rfl, ?_⟩
    have hl : (if (!decide (V.int (o.motes * (e + x) % e) = V.int 0)) = true then (1 : Int) else 0) = if o.motes * (e + x) % e = 0 then 0 else 1 := by
      by_cases c : o.motes * (e + x) % e = 0
      · rw [c]; rfl
      · rw [if_neg c, decide_eq_false (fun h => c (V.int.inj h))]; rfl
    dsimp only
    rw [hl]
    have hz : decide (V.int (o0.motes + o1.motes) = V.int (2 * o.motes - if o.motes * (e + x) % e = 0 then 0 else 1)) = true := decide_eq_true (by rw [hsum])
    rw [hz]
    exact q
end
end NG

namespace NG
open PySem PySem.Spec PyProof.Rows L2
theorem scaled {N : Nat} {lo hi S x : Int} (h1 : lo.natAbs ≤ N) (h2 : hi.natAbs ≤ N) (hS : 0 ≤ S) (h3 : lo * S ≤ x) (h4 : x ≤ hi * S) : x.natAbs ≤ N * S.natAbs := by
  have a1 : (-(N : Int)) * S ≤ lo * S := Int.mul_le_mul_of_nonneg_right (by omega) hS
  have a2 : hi * S ≤ (N : Int) * S := Int.mul_le_mul_of_nonneg_right (by omega) hS
  have e1 : (-(N : Int)) * S = -((N : Int) * S) := Int.neg_mul _ _
  have e2 : ((N : Int) * S).natAbs = N * S.natAbs := by rw [Int.natAbs_mul, Int.natAbs_natCast]
  rw [← e2]
  generalize (N : Int) * S = M at *
  omega
theorem dot_bnd {B : Nat} : ∀ {ss ps : List Int}, (∀ s ∈ ss, 0 ≤ s) → (∀ p ∈ ps, p.natAbs ≤ B) → (dotI ss ps).natAbs ≤ ss.sum.natAbs * B
  | [], _, _, _ => by simp [dotI]
  | s :: ss, [], hs, _ => by
    show (0 : Int).natAbs ≤ _
    exact Nat.zero_le _
  | s :: ss, p :: ps, hs, hp => by
    have ih := dot_bnd (B := B) (ss := ss) (ps := ps) (fun x hx => hs x (List.mem_cons_of_mem _ hx)) (fun x hx => hp x (List.mem_cons_of_mem _ hx))
    have e : dotI (s :: ss) (p :: ps) = s * p + dotI ss ps := by
      unfold dotI
      rw [List.zipWith_cons_cons, List.sum_cons]
    have s0 := hs s (by simp)
    have t0 := sum_nonneg (ms := ss) fun x hx => hs x (List.mem_cons_of_mem _ hx)
    have h1 := Int.natAbs_add_le (s * p) (dotI ss ps)
    have h2 : (s * p).natAbs ≤ s.natAbs * B := by
      rw [Int.natAbs_mul]
      exact Nat.mul_le_mul_left _ (hp p (by simp))
    have h3 : (s :: ss).sum.natAbs = s.natAbs + ss.sum.natAbs := by
      rw [List.sum_cons]
      omega
    rw [e, h3, Nat.add_mul]
    omega
/-- no day brings more than all, or takes more -/
theorem win_full {many : Nat} {ss : List Int} {o : One} {j : Nat} (ok : FrOk many o) (hl : ss.length = many) (hs : ∀ x ∈ ss, 0 ≤ x) (h0 : 0 < ss.sum) : -fullI ss o ≤ winI ss j o ∧ winI ss j o ≤ fullI ss o := by
  have hw : ∀ p ∈ wsI ss o, p.natAbs ≤ 500 * ss.sum.natAbs := fun p hp => by
    obtain ⟨e, he, rfl⟩ := List.mem_map.mp hp
    have h1 := in_span ok.rg.1 ok.rg.2 hl hs e (ok.db.st e he).1
    obtain ⟨a1, a2⟩ := st_ends (ok.so e he)
    have z : ∀ x : Int, ab x ≤ 500 → x.natAbs ≤ 500 := fun x h => by unfold ab at h; split at h <;> omega
    exact scaled (z _ a1) (z _ a2) (by omega) h1.1 h1.2
  have hd := dot_bnd (B := 500 * ss.sum.natAbs) (ss := ss) (ps := wsI ss o) hs hw
  have hg : ((wsI ss o).getD j 0).natAbs ≤ 500 * ss.sum.natAbs := by
    rw [List.getD_eq_getElem?_getD]
    cases h : (wsI ss o)[j]? with
    | none => exact Nat.zero_le _
    | some p => exact hw p (List.mem_of_getElem? h)
  have hg2 : (ss.sum * (wsI ss o).getD j 0).natAbs ≤ ss.sum.natAbs * (500 * ss.sum.natAbs) := by
    rw [Int.natAbs_mul]
    exact Nat.mul_le_mul_left _ hg
  have hp := pw2_bnd o.dbt.scale
  have hf : 1000 * ss.sum * ss.sum ≤ fullI ss o := by
    unfold fullI
    refine Int.mul_le_mul_of_nonneg_right (Int.mul_le_mul_of_nonneg_right (by omega) (by omega)) (by omega)
  obtain ⟨S, hS⟩ : ∃ S : Nat, ss.sum = (S : Int) := ⟨ss.sum.toNat, by omega⟩
  have e1 : ss.sum.natAbs * (500 * ss.sum.natAbs) = 500 * (S * S) := by
    rw [hS, Int.natAbs_natCast, Nat.mul_left_comm]
  have e2 : 1000 * ss.sum * ss.sum = 1000 * ((S * S : Nat) : Int) := by
    rw [hS, Int.mul_assoc, Int.natCast_mul]
  rw [e1] at hg2 hd
  rw [e2] at hf
  unfold winI
  generalize ss.sum * (wsI ss o).getD j 0 = x at *
  generalize dotI ss (wsI ss o) = y at *
  generalize S * S = z at *
  omega
/-- a one and its mirror -/
theorem pair_sum {m f x : Int} (hf : 0 < f) : m * (f + x) / f + m * (f + -x) / f = 2 * m - (if m * (f + x) % f = 0 then 0 else 1) := by
  have a1 : m * (f + x) / f = m + m * x / f := by
    rw [Int.mul_add, Int.mul_comm m f, Int.add_comm, Int.add_mul_ediv_left _ _ (by omega), Int.add_comm]
  have a2 : m * (f + -x) / f = m + -(m * x) / f := by
    rw [Int.mul_add, Int.mul_comm m f, Int.add_comm, Int.add_mul_ediv_left _ _ (by omega), Int.add_comm, Int.mul_neg]
  have a3 : m * (f + x) % f = m * x % f := by
    rw [Int.mul_add, Int.mul_comm m f, Int.add_comm, Int.add_mul_emod_self_left]
  rw [a1, a2, a3]
  generalize m * x = y
  have e1 := Int.emod_add_mul_ediv y f
  have e2 := Int.emod_nonneg y (show f ≠ 0 by omega)
  have e3 := Int.emod_lt_of_pos y hf
  have d1 := Int.emod_add_mul_ediv (-y) f
  have d2 := Int.emod_nonneg (-y) (show f ≠ 0 by omega)
  have d3 := Int.emod_lt_of_pos (-y) hf
  generalize y / f = q at *
  generalize -y / f = r at *
  generalize y % f = u at *
  generalize -y % f = v at *
  have k : f * (q + r) = -(u + v) := by rw [Int.mul_add]; omega
  have k1 : q + r ≤ 0 := by
    rcases Int.lt_or_le 0 (q + r) with h | h
    · have : 0 < f * (q + r) := Int.mul_pos hf h
      omega
    · exact h
  have k2 : -1 ≤ q + r := by
    rcases Int.lt_or_le (q + r) (-1) with h | h
    · have h1 : q + r ≤ -2 := by omega
      have := Int.mul_le_mul_of_nonneg_left h1 (show 0 ≤ f by omega)
      omega
    · exact h
  by_cases c : u = 0
  · rw [if_pos c]
    have : q + r ≠ -1 := fun h => by
      rw [h] at k
      omega
    omega
  · rw [if_neg c]
    have : q + r ≠ 0 := fun h => by
      rw [h] at k
      omega
    omega
/-- weight times factors stays below motes and what is owed -/
theorem step_prod {W P B m o f e : Int} (hB : 0 < B) (he : 0 < e) (hf : 0 ≤ f) (h : W * P ≤ (m + o) * B) : W * (P * f) < (m * f / e + (-(-o * f / e) + 1)) * (B * e) := by
  have e1 := Int.emod_add_mul_ediv (m * f) e
  have e3 := Int.emod_lt_of_pos (m * f) he
  have d1 := Int.emod_add_mul_ediv (-o * f) e
  have d2 := Int.emod_nonneg (-o * f) (show e ≠ 0 by omega)
  generalize m * f / e = q at *
  generalize -o * f / e = r at *
  have k1 : m * f - e < e * q := by omega
  have k2 : o * f ≤ -(e * r) := by
    have : -o * f = -(o * f) := Int.neg_mul _ _
    omega
  have k3 : m * f + o * f < e * (q + (-r + 1)) := by
    have : e * (q + (-r + 1)) = e * q - e * r + e := by
      rw [Int.mul_add, Int.mul_add, Int.mul_neg, Int.mul_one]
      omega
    omega
  have k4 : W * P * f ≤ (m + o) * B * f := Int.mul_le_mul_of_nonneg_right h hf
  have k5 : (m * f + o * f) * B < e * (q + (-r + 1)) * B := Int.mul_lt_mul_of_pos_right k3 hB
  have z1 : (m + o) * B * f = (m * f + o * f) * B := by grind
  have z2 : e * (q + (-r + 1)) * B = (q + (-r + 1)) * (B * e) := by grind
  have z3 : W * (P * f) = W * P * f := by grind
  omega
/-- what lucks come to in parts -/
theorem step_luck {L0 L1 g x e t : Int} (h1 : 0 < L1) (he : 0 < e) (h : 0 ≤ 1000000000 * L0 - g * L1) (h2 : 1000000000 * L0 - g * L1 ≤ t * L1) :
    0 < L1 * e ∧ 0 ≤ 1000000000 * (L0 * e + x * L1) - (g + 1000000000 * x / e) * (L1 * e) ∧ 1000000000 * (L0 * e + x * L1) - (g + 1000000000 * x / e) * (L1 * e) < (t + 1) * (L1 * e) := by
  have e1 := Int.emod_add_mul_ediv (1000000000 * x) e
  have e2 := Int.emod_nonneg (1000000000 * x) (show e ≠ 0 by omega)
  have e3 := Int.emod_lt_of_pos (1000000000 * x) he
  generalize 1000000000 * x / e = q at *
  generalize 1000000000 * x % e = u at *
  have z : 1000000000 * (L0 * e + x * L1) - (g + q) * (L1 * e) = (1000000000 * L0 - g * L1) * e + L1 * u := by
    have : L1 * (u + e * q) = L1 * (1000000000 * x) := by rw [e1]
    grind
  have k1 : 0 ≤ (1000000000 * L0 - g * L1) * e := Int.mul_nonneg h (by omega)
  have k2 : 0 ≤ L1 * u := Int.mul_nonneg (by omega) e2
  have k3 : (1000000000 * L0 - g * L1) * e ≤ t * L1 * e := Int.mul_le_mul_of_nonneg_right h2 (by omega)
  have k4 : L1 * u < L1 * e := Int.mul_lt_mul_of_pos_left e3 h1
  have k5 : (t + 1) * (L1 * e) = t * L1 * e + L1 * e := by grind
  exact ⟨Int.mul_pos h1 he, by omega, by omega⟩
theorem ws_mir (ss : List Int) (o : One) : wsI ss (mirO o) = (wsI ss o).map fun x => -x := by
  unfold wsI mirO
  rw [List.map_map, List.map_map]
  refine List.map_congr_left fun e _ => ?_
  show wo o.regs ss (.two .less (.fig 0) e) = -wo o.regs ss e
  show 0 * ss.sum - wo o.regs ss e = -wo o.regs ss e
  rw [Int.zero_mul]
  omega
theorem dot_neg : ∀ ss ps : List Int, dotI ss (ps.map fun x => -x) = -dotI ss ps
  | [], _ => rfl
  | _ :: _, [] => rfl
  | s :: ss, p :: ps => by
    have ih := dot_neg ss ps
    unfold dotI at ih ⊢
    rw [List.map_cons, List.zipWith_cons_cons, List.zipWith_cons_cons, List.sum_cons, List.sum_cons, ih, Int.mul_neg]
    omega
theorem win_mir (ss : List Int) (j : Nat) (o : One) : winI ss j (mirO o) = -winI ss j o := by
  unfold winI
  rw [ws_mir, dot_neg]
  have : ((wsI ss o).map fun x => -x).getD j 0 = -(wsI ss o).getD j 0 := by
    rw [List.getD_eq_getElem?_getD, List.getD_eq_getElem?_getD, List.getElem?_map]
    cases (wsI ss o)[j]? <;> rfl
  rw [this, Int.mul_neg]
  omega
theorem full_mir (ss : List Int) (o : One) : fullI ss (mirO o) = fullI ss o := rfl
end NG

namespace NG
open PySem PySem.Spec PyProof.Rows L2
theorem right_zero : ∀ (ss : List Int) (k : Nat), rightI ss (List.replicate k 0) 0 = true
  | [], k => by simp [rightI]
  | s :: ss, 0 => rfl
  | s :: ss, k + 1 => by
    have ih := right_zero ss k
    rw [List.replicate_succ]
    show ((s == 0 || (0 : Int) == 0) && rightI ss (List.replicate k 0) 0) = true
    rw [ih]
    simp
theorem pull_mir (ss : List Int) (o : One) (j : Nat) : (onePull ss (mirO o)).getD j 0 = -(onePull ss o).getD j 0 := by
  unfold onePull
  rw [List.getD_eq_getElem?_getD, List.getD_eq_getElem?_getD, List.getElem?_map, List.getElem?_map]
  show ((o.dbt.stakes.map fun e => Ex.two .less (.fig 0) e)[j]?.map _).getD 0 = _
  rw [List.getElem?_map]
  cases o.dbt.stakes[j]? with
  | none => rfl
  | some e =>
    show o.motes * pwr o.dbt.scale * (0 * ss.sum - wo o.regs ss e) = -(o.motes * pwr o.dbt.scale * wo o.regs ss e)
    rw [Int.zero_mul, Int.zero_sub, Int.mul_neg]
theorem pull_pair (many : Nat) (ss : List Int) (o : One) : pullI many ss [o, mirO o] = List.replicate many 0 := by
  unfold pullI
  rw [show (fun j => (List.map (fun o => (onePull ss o).getD j 0) [o, mirO o]).sum) = fun _ => (0 : Int) from funext fun j => by
    rw [List.map_cons, List.map_cons, List.map_nil, List.sum_cons, List.sum_cons, pull_mir]
    show (onePull ss o).getD j 0 + (-(onePull ss o).getD j 0 + 0) = 0
    omega]
  rw [List.map_const', List.length_range]
/-- a one so many days on -/
structure DayI (many i : Nat) (W : Int) (o : One) : Prop where
  fr : FrOk many o
  w : o.weight = W
  w1 : 1 ≤ W ∧ W ≤ 1000000000000
  m1 : 0 ≤ o.motes ∧ o.motes ≤ 1000000000000 * 2 ^ i
  o1 : 0 ≤ o.owed ∧ o.owed < 2 ^ i
  d1 : 0 ≤ o.days ∧ o.days ≤ (i : Int)
  g1 : -(1000000000 * (i : Int)) ≤ o.got ∧ o.got ≤ 1000000000 * (i : Int)
theorem full_pos {ss : List Int} (o : One) (h0 : 0 < ss.sum) : 0 < fullI ss o := Int.mul_pos (Int.mul_pos (by have := pw2_bnd o.dbt.scale; omega) h0) h0
theorem part_le {m f x : Int} (hf : 0 < f) (hm : 0 ≤ m) (h1 : -f ≤ x) (h2 : x ≤ f) : 0 ≤ m * (f + x) / f ∧ m * (f + x) / f ≤ 2 * m := by
  refine ⟨Int.ediv_nonneg (Int.mul_nonneg hm (by omega)) (by omega), Int.ediv_le_of_le_mul hf ?_⟩
  have := Int.mul_le_mul_of_nonneg_left (show f + x ≤ 2 * f by omega) hm
  have e : m * (2 * f) = 2 * m * f := by grind
  omega
theorem owe_le {o f x : Int} (hf : 0 < f) (ho : 0 ≤ o) (h1 : -f ≤ x) (h2 : x ≤ f) : 1 ≤ -(-o * (f + x) / f) + 1 ∧ -(-o * (f + x) / f) + 1 ≤ 2 * o + 1 := by
  have e1 := Int.emod_add_mul_ediv (-o * (f + x)) f
  have e2 := Int.emod_nonneg (-o * (f + x)) (show f ≠ 0 by omega)
  have e3 := Int.emod_lt_of_pos (-o * (f + x)) hf
  have k0 : 0 ≤ o * (f + x) := Int.mul_nonneg ho (by omega)
  have k1 := Int.mul_le_mul_of_nonneg_left (show f + x ≤ 2 * f by omega) ho
  have k2 : o * (2 * f) = f * (2 * o) := by grind
  have k3 : -o * (f + x) = -(o * (f + x)) := Int.neg_mul _ _
  rw [k3] at e1 e2 e3 ⊢
  generalize -(o * (f + x)) / f = q at *
  generalize o * (f + x) = y at *
  have hq0 : q ≤ 0 := by
    rcases Int.lt_or_le 0 q with h | h
    · have := Int.mul_pos hf h
      omega
    · exact h
  have hq1 : -(2 * o) ≤ q := by
    rcases Int.lt_or_le q (-(2 * o)) with h | h
    · have := Int.mul_le_mul_of_nonneg_left (show q ≤ -(2 * o) - 1 by omega) (show 0 ≤ f by omega)
      have e : f * (-(2 * o) - 1) = -(f * (2 * o)) - f := by grind
      omega
    · exact h
  omega
theorem luck_le {f x : Int} (hf : 0 < f) (h1 : -f ≤ x) (h2 : x ≤ f) : -1000000000 ≤ 1000000000 * x / f ∧ 1000000000 * x / f ≤ 1000000000 := by
  constructor
  · refine Int.le_ediv_of_mul_le hf ?_
    have := Int.mul_le_mul_of_nonneg_left h1 (show (0 : Int) ≤ 1000000000 by decide)
    omega
  · exact Int.ediv_le_of_le_mul hf (by omega)
theorem DayI.step {many i : Nat} {W : Int} {o : One} {ss : List Int} {j : Nat} (h : DayI many i W o) (hl : ss.length = many) (hs : ∀ x ∈ ss, 0 ≤ x) (h0 : 0 < ss.sum) : DayI many (i + 1) W (dayO ap ss j o) := by
  have hf := full_pos (ss := ss) o h0
  obtain ⟨w1, w2⟩ := win_full (j := j) h.fr hl hs h0
  obtain ⟨a1, a2⟩ := part_le hf h.m1.1 w1 w2
  obtain ⟨b1, b2⟩ := owe_le hf h.o1.1 w1 w2
  obtain ⟨c1, c2⟩ := luck_le hf w1 w2
  have e2 : (2 : Int) ^ (i + 1) = 2 * 2 ^ i := by rw [Int.pow_succ, Int.mul_comm]
  have m1 := h.m1
  have o1 := h.o1
  have d1 := h.d1
  have g1 := h.g1
  refine ⟨⟨h.fr.db, h.fr.so, RegOk.ap h.fr.rg⟩, h.w, h.w1, ?_, ?_, ?_, ?_⟩
  · show 0 ≤ o.motes * (fullI ss o + winI ss j o) / fullI ss o ∧ o.motes * (fullI ss o + winI ss j o) / fullI ss o ≤ _
    rw [e2]
    generalize (2 : Int) ^ i = z at *
    omega
  · show 0 ≤ -(-o.owed * (fullI ss o + winI ss j o) / fullI ss o) + 1 ∧ -(-o.owed * (fullI ss o + winI ss j o) / fullI ss o) + 1 < _
    rw [e2]
    generalize (2 : Int) ^ i = z at *
    omega
  · show 0 ≤ (if alikeI (wsI ss o) = true then o.days else o.days + 1) ∧ (if alikeI (wsI ss o) = true then o.days else o.days + 1) ≤ ((i + 1 : Nat) : Int)
    split <;> omega
  · show -(1000000000 * ((i + 1 : Nat) : Int)) ≤ o.got + 1000000000 * winI ss j o / fullI ss o ∧ o.got + 1000000000 * winI ss j o / fullI ss o ≤ 1000000000 * ((i + 1 : Nat) : Int)
    omega
theorem pow_le {i : Nat} (h : i ≤ 10) : (2 : Int) ^ i ≤ 1024 := by
  have : (2 : Nat) ^ i ≤ 2 ^ 10 := Nat.pow_le_pow_right (by decide) h
  have e : (2 : Int) ^ i = ((2 ^ i : Nat) : Int) := by rw [Int.natCast_pow]; rfl
  have e10 : (2 : Nat) ^ 10 = 1024 := by decide
  omega
theorem DayI.bnd {many i : Nat} {W : Int} {o : One} (h : DayI many i W o) (hi : i ≤ 10) : (0 ≤ o.motes ∧ o.motes ≤ 1024000000000000) ∧ (0 ≤ o.owed ∧ o.owed ≤ 1023) ∧ (0 ≤ o.days ∧ o.days ≤ 10) ∧ (-10000000000 ≤ o.got ∧ o.got ≤ 10000000000) := by
  have hp := pow_le hi
  have m1 := h.m1
  have o1 := h.o1
  have d1 := h.d1
  have g1 := h.g1
  generalize (2 : Int) ^ i = z at *
  refine ⟨by omega, by omega, by omega, by omega⟩
theorem DayI.lk {many i : Nat} {W : Int} {o : One} (h : DayI many i W o) : LkOk many 5 o := ⟨h.fr.db.sl, h.fr.db.sc, fun e he => ⟨(h.fr.db.st e he).1, by have := (h.fr.db.st e he).2; omega⟩⟩
theorem DayI.dy {many i : Nat} {W : Int} {o : One} (h : DayI many i W o) (hi : i ≤ 10) : DyOk many 5 3 o := by
  obtain ⟨a, b, _, _⟩ := h.bnd hi
  exact ⟨h.fr.db.sc, h.fr.db.sl, h.lk.st, h.fr.db.bl, fun d hd => ⟨(h.fr.db.bh d hd).1, by have := (h.fr.db.bh d hd).2.1; omega⟩, by omega, by omega⟩
theorem st_mir {many : Nat} {o : One} (h : FrOk many o) : ∀ e ∈ (mirO o).dbt.stakes, ExOk many e ∧ e.dep ≤ 5 := fun e he => by
  obtain ⟨e2, he2, rfl⟩ := List.mem_map.mp (show e ∈ o.dbt.stakes.map fun e => Ex.two .less (.fig 0) e from he)
  have h2 := h.db.st e2 he2
  refine ⟨⟨⟨by decide, by decide⟩, h2.1⟩, ?_⟩
  show max 1 e2.dep + 1 ≤ 5
  have := h2.2
  omega
theorem sl_mir {many : Nat} {o : One} (h : FrOk many o) : (mirO o).dbt.stakes.length = many := by
  show (o.dbt.stakes.map fun e => Ex.two .less (.fig 0) e).length = many
  rw [List.length_map]
  exact h.db.sl
theorem DayI.dym {many i : Nat} {W : Int} {o : One} (h : DayI many i W o) (hi : i ≤ 10) : DyOk many 5 3 (mirO o) := by
  have d := h.dy hi
  exact ⟨d.sc, sl_mir h.fr, st_mir h.fr, d.bl, d.bh, d.m1, d.o1⟩
theorem DayI.pu {many i : Nat} {W : Int} {o : One} (h : DayI many i W o) (hi : i ≤ 10) : PuOk many 5 o ∧ PuOk many 5 (mirO o) := by
  obtain ⟨a, _, _, _⟩ := h.bnd hi
  exact ⟨⟨h.fr.db.sl, h.fr.db.sc, h.lk.st, by omega⟩, ⟨sl_mir h.fr, h.fr.db.sc, st_mir h.fr, by show 0 ≤ o.motes ∧ o.motes ≤ 4611686018427387904; omega⟩⟩
theorem w4 : wgt 4 = 900 := rfl
theorem DayI.shh {many i : Nat} {W : Int} {o : One} (hm : many ≤ 3) (h : DayI many i W o) (hi : i ≤ 10) : Shh (oneD o) 200000 22 := by
  obtain ⟨a, b, c, d⟩ := h.bnd hi
  have hw := h.w
  have hw1 := h.w1
  have h1 : Shh (.str "one") 10 0 := .str (by decide) (by decide)
  have h2 := (shw_dbA hm (by decide) (by decide) h.fr.db).hh (lf_dbA (by omega) h.fr.db)
  rw [w4] at h2
  have h3 : Shh (.tuple (o.regs.map PyData.int)) (16 * o.regs.length) 1 := ((shw_smalls h.fr.rg.2).tup).hh (lf_list fun x hx => int60 (by have := h.fr.rg.2 x hx; omega))
  have i1 : Shh (.int o.weight) 60 0 := .int (by omega)
  have i2 : Shh (.int o.motes) 60 0 := .int (by omega)
  have i3 : Shh (.int o.owed) 60 0 := .int (by omega)
  have i4 : Shh (.int o.days) 60 0 := .int (by omega)
  have i5 : Shh (.int o.got) 60 0 := .int (by omega)
  have hl := h.fr.rg.1
  rw [hl] at h3
  have z : ShhAll [PyData.str "one", dbD o.dbt, .tuple (o.regs.map PyData.int), .int o.weight, .int o.motes, .int o.owed, .int o.days, .int o.got] _ 21 := .cons h1 (.cons h2 (.cons h3 (.cons i1 (.cons i2 (.cons i3 (.cons i4 (.cons i5 (ShhAll.nil (k := 0)) (k := 21) (by omega) (by omega)) (by omega) (Nat.le_refl _)) (by omega) (Nat.le_refl _)) (by omega) (Nat.le_refl _)) (by omega) (Nat.le_refl _)) (by omega) (Nat.le_refl _)) (by omega) (Nat.le_refl _)) (by omega) (Nat.le_refl _)
  exact z.tup.mono (by omega) (by omega)
/-- the reckoning so far -/
structure Rec (i : Nat) (W P B L0 L1 : Int) (o : One) : Prop where
  b0 : 0 < B
  pr : W * P ≤ (o.motes + o.owed) * B
  l0 : 0 < L1
  lo : 0 ≤ 1000000000 * L0 - o.got * L1
  hi : 1000000000 * L0 - o.got * L1 ≤ (i : Int) * L1
  zp : P.natAbs < 2 ^ (142 * i + 1)
  zb : B.natAbs < 2 ^ (142 * i + 1)
  z0 : L0.natAbs < 2 ^ (142 * i + 1)
  z1 : L1.natAbs < 2 ^ (142 * i + 1)
theorem full_bnd {ss : List Int} (o : One) (h0 : 0 < ss.sum) (hn : ss.sum < 2 ^ 60) : (fullI ss o).natAbs < 2 ^ 140 := by
  unfold fullI
  have hp2 := pw2_bnd o.dbt.scale
  have z1 : (1000 * pw2 o.dbt.scale).natAbs < 2 ^ 20 := by omega
  have z2 : ss.sum.natAbs < 2 ^ 60 := by omega
  exact Nat.lt_of_lt_of_le (wide_lt (wide_lt z1 z2) z2) (Nat.pow_le_pow_right (by decide) (by decide))
theorem Rec.step {many i : Nat} {W P B L0 L1 : Int} {o : One} {ss : List Int} {j : Nat} (r : Rec i W P B L0 L1 o) (h : DayI many i W o) (hl : ss.length = many) (hs : ∀ x ∈ ss, 0 ≤ x) (h0 : 0 < ss.sum) (hn : ss.sum < 2 ^ 60) :
    W * (P * (fullI ss o + winI ss j o)) < ((dayO ap ss j o).motes + (dayO ap ss j o).owed) * (B * fullI ss o) ∧
    1000000000 * (L0 * fullI ss o + winI ss j o * L1) - (dayO ap ss j o).got * (L1 * fullI ss o) < ((i : Int) + 1) * (L1 * fullI ss o) ∧
    Rec (i + 1) W (P * (fullI ss o + winI ss j o)) (B * fullI ss o) (L0 * fullI ss o + winI ss j o * L1) (L1 * fullI ss o) (dayO ap ss j o) := by
  have hf := full_pos (ss := ss) o h0
  obtain ⟨w1, w2⟩ := win_full (j := j) h.fr hl hs h0
  have hb := full_bnd o h0 hn
  have k := step_prod (W := W) (P := P) (B := B) (m := o.motes) (o := o.owed) (f := fullI ss o + winI ss j o) (e := fullI ss o) r.b0 hf (by omega) r.pr
  obtain ⟨l1, l2, l3⟩ := step_luck (L0 := L0) (L1 := L1) (g := o.got) (x := winI ss j o) (e := fullI ss o) (t := (i : Int)) r.l0 hf r.lo r.hi
  have e141 : (2 : Nat) ^ 141 = 2 * 2 ^ 140 := by decide
  have xb : (winI ss j o).natAbs < 2 ^ 140 := by omega
  have fb : (fullI ss o + winI ss j o).natAbs < 2 ^ 141 := by omega
  have up : ∀ {x y : Int} {b : Nat}, x.natAbs < 2 ^ (142 * i + 1) → y.natAbs < 2 ^ b → b ≤ 141 → (x * y).natAbs < 2 ^ (142 * i + 142) := fun hx hy hbb => Nat.lt_of_lt_of_le (wide_lt hx hy) (Nat.pow_le_pow_right (by decide) (by omega))
  have ix : 142 * (i + 1) + 1 = 142 * i + 143 := by omega
  have e1 : (2 : Nat) ^ (142 * i + 143) = 2 * 2 ^ (142 * i + 142) := by rw [Nat.pow_succ, Nat.mul_comm]
  refine ⟨k, l3, ⟨Int.mul_pos r.b0 hf, Int.le_of_lt k, l1, l2, ?_, ?_, ?_, ?_, ?_⟩⟩
  · exact Int.le_of_lt l3
  · have := up r.zp fb (by decide)
    rw [ix, e1]
    omega
  · have := up r.zb hb (by decide)
    rw [ix, e1]
    omega
  · have a1 := up r.z0 hb (by decide)
    have a2 := up r.z1 xb (by decide)
    rw [Int.mul_comm (L1)] at a2
    rw [ix, e1]
    omega
  · have := up r.z1 hb (by decide)
    rw [ix, e1]
    omega
end NG

set_option maxHeartbeats 8000000
namespace NG
open PySem PySem.Spec PyProof.Rows L2
def spRight : Sp := fun vs H Q _ => ∃ (a : Addr) (n : Nat), vs = [.ref a] ∧ HandAt H a n ∧ n ≤ 800000000 ∧ ∀ H', But a H H' → Q (.bl true) H'
section
variable {P : Program} {w : World} {K : PySem.W.Frag} {mg : Str → Option Value} {base : Heap}
theorem ok_right {f : Addr} {fd : FuncData} (F : Fun K "_law_right" "_law_right" s_L_right f fd) (gF : mg "_law_right" = some (.ref f)) (b : Binds K fd ["_law_hand_here"] []) (B : Bl mg) {lw : Nat} (hlw : 27 ≤ lw) (c_L_take : Cal P w K mg base 1 "_law_take" spTake) (c_L_fresh : Cal P w K mg base 10 "_law_fresh" (spFresh K)) (c_L_shares : Cal P w K mg base 3 "_law_shares" (spShares K)) (c_L_sign : Cal P w K mg base 8 "_law_sign" (spSign K 5)) (c_L_luck : Cal P w K mg base 7 "_law_luck" (spLuck K 5)) (c_day : Cal P w K mg base 27 "day" (spDay K 5 3)) (c_L_mirrored : Cal P w K mg base 1 "_law_mirrored" (spMir K)) (c_L_pair_right : Cal P w K mg base 1 "_law_pair_right" (spPair K)) (c_L_moved_on : Cal P w K mg base 8 "_law_moved_on" (spOneDay K 5 3)) : CalG P w K mg base (lw + 1) "_law_right" spRight := by
  refine ⟨f, fd, _, fnG F sc_L_right (fun vs H Q E h => ?_) (fun cdv A outer s H vs Q hg hr h => ?_), gF, F.kp, b⟩
  · obtain ⟨_, _, rfl, _⟩ := h
    rfl
  · obtain ⟨a, n, rfl, hh, hn, q⟩ := h
    refine ⟨_, (pss_cons (ps_set (i := 1) sc_L_right.nd rfl (.inl rfl) (pe_op op_add pe_int (pe_c c_L_take hr (by omega) (by rfl) (pa_cons (pv 0) (pa_cons pe_int pa_nil))))) (pss_cons (ps_set (i := 2) sc_L_right.nd rfl (.inl rfl) (pe_c c_L_fresh hr (by omega) (by rfl) (pa_cons (pv 0) (pa_cons (pv 1) pa_nil)))) (pss_cons (ps_asg (pe_tup (pa_cons pe_int (pa_cons pe_int (pa_cons (pe_tup (pa_cons pe_int (pa_cons pe_int pa_nil))) (pa_cons (pe_ix ix_tup (pv 2) pe_int (fun _ _ => rfl)) pa_nil))))) (pg_tup rfl (pgs_cons (pg_name (i := 3) sc_L_right.nd rfl (.inl rfl)) (pgs_cons (pg_name (i := 4) sc_L_right.nd rfl (.inl rfl)) (pgs_cons (pg_name (i := 5) sc_L_right.nd rfl (.inl rfl)) (pgs_cons (pg_name (i := 6) sc_L_right.nd rfl (.inl rfl)) pgs_nil)))))) (pss_cons (ps_for PassesOwn.never rfl (pi_range1 rfl B.range (pa_cons (pe_op op_add pe_int (pe_c c_L_take hr (by omega) (by rfl) (pa_cons (pv 0) (pa_cons pe_int pa_nil)))) pa_nil)) (pg_name (i := 7) sc_L_right.nd rfl (.inl rfl)) (pss_cons (ps_set (i := 8) sc_L_right.nd rfl (.inl rfl) (pe_c c_L_shares hr (by omega) (by rfl) (pa_cons (pv 0) (pa_cons (pv 1) pa_nil)))) (pss_cons (ps_set (i := 9) sc_L_right.nd rfl (.inl rfl) (pe_c c_L_sign hr (by omega) (by rfl) (pa_cons (pv 0) (pa_cons (pv 2) (pa_cons (pv 8) pa_nil))))) (pss_cons (ps_asg (pe_c c_L_luck hr (by omega) (by rfl) (pa_cons (pv 2) (pa_cons (pv 8) (pa_cons (pv 9) pa_nil)))) (pg_tup rfl (pgs_cons (pg_name (i := 10) sc_L_right.nd rfl (.inl rfl)) (pgs_cons (pg_name (i := 11) sc_L_right.nd rfl (.inl rfl)) pgs_nil)))) (C8.pss_cut (ps_set (i := 12) sc_L_right.nd rfl (.inl rfl) (pe_ix ix_tup (pe_c c_day hr (by omega) (by rfl) (pa_cons (pe_tup (pa_cons (pv 1) (pa_cons (pe_tup (pa_cons (pv 2) (pa_cons (pe_c c_L_mirrored hr (by omega) (by rfl) (pa_cons (pv 2) pa_nil)) pa_nil))) pa_nil))) (pa_cons (pv 8) (pa_cons (pv 9) pa_nil)))) pe_int (fun _ _ => rfl))) (pss_cons (ps_if (pt_not (pt_val (pe_c c_L_pair_right hr (by omega) (by rfl) (pa_cons (pv 2) (pa_cons (pv 12) (pa_cons (pv 10) (pa_cons (pv 11) pa_nil))))))) (pss_one (ps_ret pe_bl)) pss_nil) (pss_cons (ps_if (pt_cmpR op_ne (pe_callB (cr_repr hg hr.units) (by rfl) B.repr (by decide +kernel) (pa_cons (pe_ix ix_tup (pv 12) pe_int (fun _ _ => rfl)) pa_nil)) (pe_callB (cr_repr hg hr.units) (by rfl) B.repr (by decide +kernel) (pa_cons (pe_c c_L_moved_on hr (by omega) (by rfl) (pa_cons (pv 2) (pa_cons (pv 8) (pa_cons (pv 9) pa_nil)))) pa_nil)) (nomark _)) (pss_one (ps_ret pe_bl)) pss_nil) (C8.pss_cut (ps_if (PW.pt (pw_and (pt_cmpR op_eq (pe_ix ix_tup (pv 2) pe_int (fun _ _ => rfl)) pe_int (nomark _)) (pw_and1 (pt_cmpR op_ne (pe_ix ix_tup (pe_ix ix_tup (pv 12) pe_int (fun _ _ => rfl)) pe_int (fun _ _ => rfl)) pe_int (nomark _))))) (pss_one (ps_ret pe_bl)) pss_nil) (pss_cons (ps_set (i := 2) sc_L_right.nd rfl (.inl rfl) (pe_ix ix_tup (pv 12) pe_int (fun _ _ => rfl))) (pss_cons (ps_par (i := 3) (j := 4) rfl sc_L_right.nd rfl rfl (by decide) rfl rfl (pa_cons (pe_op op_mulW (pv 3) (pe_op op_add (pv 11) (pv 10))) (pa_cons (pe_op op_mulW (pv 4) (pv 11)) pa_nil)) (by rfl)) (pss_cons (ps_if (pt_cmpR op_ge (pe_op op_mul (pv 6) (pv 3)) (pe_op op_mul (pe_op op_add (pe_ix ix_tup (pv 2) pe_int (fun _ _ => rfl)) (pe_ix ix_tup (pv 2) pe_int (fun _ _ => rfl))) (pv 4)) (nomark _)) (pss_one (ps_ret pe_bl)) pss_nil) (pss_cons (ps_if (pt_cmpR op_gt (pe_ix ix_tup (pv 2) pe_int (fun _ _ => rfl)) (pe_op op_add (pv 7) pe_int) (nomark _)) (pss_one (ps_ret pe_bl)) pss_nil) (pss_cons (ps_set (i := 5) sc_L_right.nd rfl (.inl rfl) (pe_tup (pa_cons (pe_op op_add (pe_op op_mulW (pe_ix ix_tup (pv 5) pe_int (fun _ _ => rfl)) (pv 11)) (pe_op op_mulW (pv 10) (pe_ix ix_tup (pv 5) pe_int (fun _ _ => rfl)))) (pa_cons (pe_op op_mulW (pe_ix ix_tup (pv 5) pe_int (fun _ _ => rfl)) (pv 11)) pa_nil)))) (pss_cons (ps_set (i := 13) sc_L_right.nd rfl (.inl rfl) (pe_op op_sub (pe_op op_mul (pe_op op_pow pe_int pe_int) (pe_ix ix_tup (pv 5) pe_int (fun _ _ => rfl))) (pe_op op_mul (pe_ix ix_tup (pv 2) pe_int (fun _ _ => rfl)) (pe_ix ix_tup (pv 5) pe_int (fun _ _ => rfl))))) (pss_one (ps_if (pt_not (pt_chain op_le op_lt pe_int (pv 13) (pe_op op_mul (pe_op op_add (pv 7) pe_int) (pe_ix ix_tup (pv 5) pe_int (fun _ _ => rfl))))) (pss_one (ps_ret pe_bl)) pss_nil)))))))))))))))) (pss_one (ps_ret pe_bl)))))), ?_⟩
    have two_le : 2 ≤ sizeLine := by decide
    refine ⟨.ref a, rfl, a, 2, n, rfl, by decide, by decide, hh, by omega, fun H1 r b1 hh1 r0 r1 => ⟨_, _, rfl, rfl, ?_⟩⟩
    obtain ⟨many, hmany, hm2, hm3⟩ : ∃ many : Nat, 2 + r = (many : Int) ∧ 2 ≤ many ∧ many ≤ 3 := ⟨(2 + r).toNat, by omega, by omega, by omega⟩
    show gName 1 (V.int (2 + r)) _ _ _
    rw [hmany]
    refine ⟨.ref a, rfl, .int (many : Int), rfl, a, many, _, rfl, hm2, hm3, hh1, by omega, fun H2 ov o b2 hh2 hO fr hw hmo how hda hgo => ?_⟩
    obtain ⟨py, dv, rv, rfl, hpy, _, _⟩ := id hO
    refine ⟨two_le, fun lp nlp => ?_⟩
    have slp := same_new (o := .tup [.int 0, .int 1]) nlp
    refine ⟨.ref py, rfl, py, _, 3, _, rfl, rfl, same_sqt slp hpy, rfl, (by show 4 ≤ sizeLine; decide), fun t3 n3 => ⟨t3, _, rfl, SqT.of upd_same, rfl, _, _, rfl, _, _, rfl, _, _, rfl, _, _, rfl, rfl, ?_⟩⟩
    have s3 := same_new (o := .tup [.int 1, .int 1, .ref lp, .int o.weight]) n3
    have hlp3 := same_sqt s3 (show SqT K (upd H2 lp (.tup [.int 0, .int 1])) lp [.int 0, .int 1] from SqT.of upd_same)
    have sm3 := slp.trans s3
    have hh3 := hh2.same sm3
    have hO3 := hO.imp fun _ _ h => same_sqt sm3 h
    have b03 := (b1.trans b2).trans (But.of sm3)
    clear s3 slp
    generalize upd (upd H2 lp (.tup [.int 0, .int 1])) t3 (.tup [.int 1, .int 1, .ref lp, .int o.weight]) = H3 at hlp3 hh3 hO3 b03
    clear sm3
    refine ⟨.ref a, rfl, a, 10, _, rfl, by decide, by decide, hh3, by omega, fun H4 rt b4 hh4 rt0 rt1 => ⟨1, _, rfl, rfl, _, rfl, by omega, by omega, ?_⟩⟩
    have d0 : DayI many 0 o.weight o := ⟨fr, rfl, hw, by rw [hmo]; show _ ∧ _ ≤ 1000000000000 * 1; omega, by rw [how]; decide, by rw [hda]; decide, by rw [hgo]; decide⟩
    have q0 : Rec 0 o.weight 1 1 0 1 o := ⟨by decide, by rw [hmo, how]; omega, by decide, by rw [hgo]; decide, by rw [hgo]; decide, by decide, by decide, by decide, by decide⟩
    generalize hWW : o.weight = W at d0 q0
    have hO4 := hO3.imp fun _ _ h => b4.sq hh3 h
    have hlp4 := b4.sq hh3 hlp3
    have b04 := b03.trans b4
    refine for_range (n := ((1 : Int) + rt).toNat) (fun i σ H' => ∃ (ov : V) (o : One) (Pr Be L0 L1 : Int) (lp : Addr) (y7 y8 y9 y10 y11 y12 y13 : Option V), σ = [some (.ref a), some (.int (many : Int)), some ov, some (.int Pr), some (.int Be), some (.ref lp), some (.int W), y7, y8, y9, y10, y11, y12, y13] ∧ But a H4 H' ∧ HandAt H' a (n + 502 + 30 * i) ∧ OneAt K H' o ov ∧ SqT K H' lp [.int L0, .int L1] ∧ DayI many i W o ∧ Rec i W Pr Be L0 L1 o) ⟨.ref py, o, 1, 1, 0, 1, lp, none, none, none, none, none, none, none, rfl, fun _ _ _ h => h, hh4.le (by omega), hO4, hlp4, d0, q0⟩ ?_ ?_
    · clear hO4 hlp4 d0 q0 hO3 hlp3 hO hpy
      rintro i σ H5 hi ⟨ov, o, Pr, Be, L0, L1, lp, y7, y8, y9, y10, y11, y12, y13, rfl, b5, hh5, hO, hlp, dI, rI⟩
      have hi : i ≤ 9 := by omega
      refine ⟨.ref a, rfl, .int (many : Int), rfl, a, many, _, rfl, by omega, hm3, hh5, by omega, fun H6 sv ss b6 hh6 hS => ?_⟩
      obtain ⟨ps, rfl, hps, hsl, hsb, hs0, hsn⟩ := id hS
      have hO6 := hO.imp fun _ _ h => b6.sq hh5 h
      have hlp6 := b6.sq hh5 hlp
      refine ⟨.ref a, rfl, ov, rfl, .ref ps, rfl, a, ov, .ref ps, o, many, _, ss, rfl, hh6, by omega, hO6, dI.lk, hm2, hm3, hS, fun H7 j b7 hh7 hj => ?_⟩
      have hO7 := hO6.imp fun _ _ h => b7.sq hh6 h
      have hlp7 := b7.sq hh6 hlp6
      have hS7 := hS.imp fun _ _ h => b7.sq hh6 h
      refine ⟨ov, rfl, .ref ps, rfl, .int (j : Int), rfl, ov, .ref ps, o, many, j, ss, rfl, hO7, dI.lk, hm3, hj, hS7, fun H8 t8 sm8 ht8 => ⟨t8, _, rfl, ht8, rfl, _, _, rfl, _, _, rfl, rfl, ?_⟩⟩
      have hO8 := hO7.imp fun _ _ h => same_sqt sm8 h
      have hlp8 := same_sqt sm8 hlp7
      have hS8 := hS7.same sm8
      have hh8 := hh7.same sm8
      have b48 := ((b5.trans b6).trans b7).trans (But.of sm8)
      have hf := full_pos (ss := ss) o hs0
      have hfb := full_bnd o hs0 hsn
      obtain ⟨rk, rl, rn⟩ := rI.step (j := j) dI hsl (fun x hx => (hsb x hx).1) hs0 hsn
      have dN := dI.step (j := j) hsl (fun x hx => (hsb x hx).1) hs0
      obtain ⟨bm, bo, bd, bg⟩ := dI.bnd (by omega)
      obtain ⟨nm, no, nd, ng⟩ := dN.bnd (by omega)
      refine ⟨fun σ' H' => ∃ tm v0 v1, σ' = [some (.ref a), some (.int (many : Int)), some ov, some (.int Pr), some (.int Be), some (.ref lp), some (.int W), some (.int (0 + (i : Int))), some (.ref ps), some (.int (j : Int)), some (.int (winI ss j o)), some (.int (fullI ss o)), some (.ref tm), y13] ∧ Same H8 H' ∧ SqT K H' tm [v0, v1] ∧ OneAt K H' (dayO ap ss j o) v0 ∧ OneAt K H' (dayO ap ss j (mirO o)) v1, ?_, ?_⟩
      · refine ⟨.int (many : Int), rfl, ov, rfl, ov, rfl, ov, o, rfl, hO8, by have := dI.fr.db.sl; omega, fun H9 v9 sm9 hv9 => ⟨two_le, fun t9 n9 => ⟨two_le, fun t10 n10 => ?_⟩⟩⟩
        have s9 := same_new (o := .tup [ov, v9]) n9
        have s10 := same_new (o := .tup [.int (many : Int), .ref t9]) n10
        have s910 := s9.trans s10
        have sm10 := sm9.trans s910
        have hpu := dI.pu (by omega)
        refine ⟨.ref ps, rfl, .int (j : Int), rfl, t10, .ref ps, .one o (.one (mirO o) .nil), many, j, ss, 0, rfl, ⟨t9, [ov, v9], SqT.of upd_same, same_sqt s10 (SqT.of upd_same), ⟨ov, _, rfl, hO8.imp fun _ _ h => same_sqt sm10 h, v9, _, rfl, hv9.imp fun _ _ h => same_sqt s910 h, rfl⟩, by show 0 < 8; decide, by show 2 ≤ 300; decide, ⟨hpu.1, hpu.2, trivial⟩, hm2, hm3, hS8.same sm10⟩, ⟨dI.dy (by omega), dI.dym (by omega), trivial⟩, hj, ?_, ?_, fun H11 t11 tm ys sm11 ht11 htm hys => ?_⟩
        · show Best (pullI many ss [o, mirO o]) 0
          rw [pull_pair]
          exact ⟨List.mem_replicate.mpr ⟨by omega, rfl⟩, fun p hp => by rw [(List.mem_replicate.mp hp).2]; exact Int.le_refl _⟩
        · show rightI ss (pullI many ss [o, mirO o]) 0 = true
          rw [pull_pair]
          exact right_zero ss many
        · obtain ⟨v0, us, rfl, hv0, v1, us1, rfl, hv1, rfl⟩ := hys
          exact ⟨t11, _, 1, _, rfl, rfl, ht11, rfl, tm, v0, v1, rfl, sm10.trans sm11, htm, hv0, hv1⟩
      rintro σ' H9 ⟨tm, v0, v1, rfl, sm9, htm, hv0, hv1⟩
      have hO9 := hO8.imp fun _ _ h => same_sqt sm9 h
      have hlp9 := same_sqt sm9 hlp8
      have hS9 := hS8.same sm9
      have hh9 := hh8.same sm9
      refine ⟨ov, rfl, .ref tm, rfl, .int (winI ss j o), rfl, .int (fullI ss o), rfl, ov, v0, v1, tm, winI ss j o, fullI ss o, o, dayO ap ss j o, dayO ap ss j (mirO o), rfl, hO9, htm, hv0, hv1, hf, by omega, ?_, _, rfl, iteFF rfl ?_⟩
      · show o.motes * (fullI ss o + winI ss j o) / fullI ss o + o.motes * (fullI ss (mirO o) + winI ss j (mirO o)) / fullI ss (mirO o) = _
        rw [full_mir, win_mir]
        exact pair_sum hf
      obtain ⟨p0, dv0, rv0, rfl, hp0, _, _⟩ := id hv0
      have sho := dN.shh hm3 (by omega)
      have fo := sho.fits (by decide)
      obtain ⟨dat, hdat⟩ : ∃ d, d = oneD (dayO ap ss j o) := ⟨_, rfl⟩
      have dpo : ∀ {Hq : Hp} {v : V}, OneAt K Hq (dayO ap ss j o) v → Dp K Hq v dat := fun h => by rw [hdat]; exact h.dp
      rw [← hdat] at sho fo
      clear hdat
      refine ⟨.ref tm, rfl, tm, _, 0, _, rfl, rfl, htm, rfl, p0, dat, rfl, dpo hv0, sho.sh, by have := sho.dp; omega, fo, ?_⟩
      refine ⟨ov, rfl, .ref ps, rfl, .int (j : Int), rfl, ov, .ref ps, o, many, j, ss, rfl, hO9, dI.dy (by omega), hm2, hm3, hj, hS9, fun H10 v10 sm10 hv10 => ?_⟩
      obtain ⟨p10, dv10, rv10, rfl, hp10, _, _⟩ := id hv10
      refine ⟨p10, dat, rfl, dpo hv10, sho.sh, by have := sho.dp; omega, fo, rfl, _, rfl, iteFF (by rw [decide_eq_true rfl]; rfl) ?_⟩
      have sm810 := sm9.trans sm10
      have htm10 := same_sqt sm10 htm
      have hv010 := hv0.imp fun _ _ h => same_sqt sm10 h
      have hp010 := same_sqt sm10 hp0
      have hlp10 := same_sqt sm10 hlp9
      have hh10 := hh9.same sm10
      have hO10 := hO9.imp fun _ _ h => same_sqt sm10 h
      have b410 := b48.trans (But.of sm810)
      clear hS hS7 hS8 hS9 hO hO6 hO7 hO8 hO9 hlp hlp6 hlp7 hlp8 hlp9 htm hv0 hp0 hh5 hh6 hh7 hh8 hh9 b5 b6 b7 sm8 sm9 hv1 hv10 hp10
      obtain ⟨py, dvy, rvy, rfl, hpy, _, _⟩ := id hO10
      have em : o.motes = 0 → (dayO ap ss j o).motes = 0 := fun h => by
        show o.motes * (fullI ss o + winI ss j o) / fullI ss o = 0
        rw [h, Int.zero_mul, Int.zero_ediv]
      generalize hN : dayO ap ss j o = oN at *
      have hCW : ∀ {x y : Int} {b c : Nat}, x.natAbs < 2 ^ b → y.natAbs < 2 ^ c → 0 < b ∧ b ≤ 1500 → 0 < c ∧ c ≤ 1500 → CMulW x y := fun h1 h2 h3 h4 => wide_mul h1 h2 (by omega) (by omega) (by omega)
      have xb : (winI ss j o).natAbs < 2 ^ 140 := by
        have := win_full (j := j) dI.fr hsl (fun x hx => (hsb x hx).1) hs0
        omega
      have fxb : (fullI ss o + winI ss j o).natAbs < 2 ^ 141 := by
        have e141 : (2 : Nat) ^ 141 = 2 * 2 ^ 140 := by decide
        omega
      have hW := dI.w1
      refine ⟨fun σ' H' => σ' = [some (.ref a), some (.int (many : Int)), some (.ref py), some (.int Pr), some (.int Be), some (.ref lp), some (.int W), some (.int (0 + (i : Int))), some (.ref ps), some (.int (j : Int)), some (.int (winI ss j o)), some (.int (fullI ss o)), some (.ref tm), y13] ∧ H10 = H', ?_, ?_⟩
      · refine ⟨.ref py, rfl, py, _, 4, _, rfl, rfl, hpy, rfl, rfl, _, rfl, iteD (fun c => ?_) (fun c => ?_)⟩
        · refine ⟨.ref tm, rfl, tm, _, 0, _, rfl, rfl, htm10, rfl, p0, _, 4, _, rfl, rfl, hp010, rfl, rfl, _, rfl, iteFF ?_ ⟨rfl, rfl⟩⟩
          rw [em (V.int.inj c)]
          rfl
        · exact iteFF rfl ⟨rfl, rfl⟩
      rintro σ' H' ⟨rfl, rfl⟩
      refine ⟨.ref tm, rfl, tm, _, 0, _, rfl, rfl, htm10, rfl, ?_⟩
      refine ⟨.int Pr, rfl, .int (fullI ss o), rfl, .int (winI ss j o), rfl, _, _, rfl, rfl, _, _, rfl, rfl, hCW rI.zp fxb (by omega) (by decide), .int Be, rfl, .int (fullI ss o), rfl, _, _, rfl, rfl, hCW rI.zb hfb (by omega) (by decide), _, _, rfl, ?_⟩
      dsimp only at rk rl rn ⊢
      have rn0 := rn
      generalize Pr * (fullI ss o + winI ss j o) = P2 at rk rn ⊢
      generalize Be * fullI ss o = B2 at rk rn ⊢
      refine ⟨.int W, rfl, .int P2, rfl, _, _, rfl, rfl, .inl ⟨by omega, by omega⟩, .ref p0, rfl, p0, _, 4, _, rfl, rfl, hp010, rfl, .ref p0, rfl, p0, _, 5, _, rfl, rfl, hp010, rfl, _, _, rfl, rfl, .int B2, rfl, _, _, rfl, rfl, .inl ⟨by omega, by omega⟩, _, _, rfl, rfl, _, rfl, iteFF (decide_eq_false (by omega)) ?_⟩
      refine ⟨.ref p0, rfl, p0, _, 6, _, rfl, rfl, hp010, rfl, .int (0 + (i : Int)), rfl, _, _, rfl, rfl, _, _, rfl, rfl, _, rfl, iteFF (decide_eq_false (by have := dN.d1; omega)) ?_⟩
      refine ⟨.ref lp, rfl, lp, _, 0, _, rfl, rfl, hlp10, rfl, .int (fullI ss o), rfl, _, _, rfl, rfl, hCW rI.z0 hfb (by omega) (by decide), .int (winI ss j o), rfl, .ref lp, rfl, lp, _, 1, _, rfl, rfl, hlp10, rfl, _, _, rfl, rfl, hCW xb rI.z1 (by decide) (by omega), _, _, rfl, rfl, .ref lp, rfl, lp, _, 1, _, rfl, rfl, hlp10, rfl, .int (fullI ss o), rfl, _, _, rfl, rfl, hCW rI.z1 hfb (by omega) (by decide), two_le, fun tl ntl => ?_⟩
      dsimp only at rl rn ntl ⊢
      generalize L0 * fullI ss o + winI ss j o * L1 = M0 at rl rn ntl ⊢
      generalize L1 * fullI ss o = M1 at rl rn ntl ⊢
      have stl := same_new (o := .tup [.int M0, .int M1]) ntl
      have htl : SqT K (upd H10 tl (.tup [.int M0, .int M1])) tl [.int M0, .int M1] := SqT.of upd_same
      have e9 : (10 : Int) ^ (9 : Int).toNat = 1000000000 := by decide
      refine ⟨10, 9, rfl, rfl, ⟨by decide, by decide, by decide⟩, .ref tl, rfl, tl, _, 0, _, rfl, rfl, htl, rfl, _, _, rfl, rfl, .inl ⟨by rw [e9]; decide, by rw [e9]; decide⟩, .ref p0, rfl, p0, _, 7, _, rfl, rfl, same_sqt stl hp010, rfl, .ref tl, rfl, tl, _, 1, _, rfl, rfl, htl, rfl, _, _, rfl, rfl, .inl ⟨by omega, by omega⟩, _, _, rfl, rfl, ?_⟩
      dsimp only
      rw [e9]
      have rlo := rn.lo
      refine ⟨_, rfl, 0, _, rfl, rfl, _, rfl, iteTT (decide_eq_true rlo) ?_⟩
      refine ⟨.int (0 + (i : Int)), rfl, _, _, rfl, rfl, .ref tl, rfl, tl, _, 1, _, rfl, rfl, htl, rfl, _, _, rfl, rfl, .inl ⟨by omega, by omega⟩, _, _, rfl, rfl, _, rfl, iteFF ?_ ?_⟩
      · rw [decide_eq_true (by rw [Int.zero_add]; exact rl)]
        rfl
      exact ⟨.ref p0, oN, P2, B2, M0, M1, tl, _, _, _, _, _, _, _, rfl, b410.trans (But.of stl), (hh10.same stl).le (by omega), hv010.imp fun _ _ h => same_sqt stl h, htl, dN, rn⟩
    · rintro σ H5 ⟨ov, o, Pr, Be, L0, L1, lp, y7, y8, y9, y10, y11, y12, y13, rfl, b5, _⟩
      exact q _ (b04.trans b5)
end
end NG

namespace NG
open PySem PySem.Spec PyProof.Rows L2
def spLaw (K : PySem.W.Frag) : Sp := fun vs H Q _ => ∃ (a : Addr) (ns : List Int), vs = [.ref a] ∧ SqL K H a (ns.map V.int) ∧ ns.length ≤ 63 ∧ ∀ H', Q (.bl true) H'
section
variable {P : Program} {w : World} {K : PySem.W.Frag} {mg : Str → Option Value} {base : Heap}
theorem ok_law {f : Addr} {fd : FuncData} (F : Fun K "law" "law" s_law f fd) (B : Bl mg) {lw : Nat} (h1 : 1 ≤ lw) (c_L_hand : Cal P w K mg base 1 "_law_hand" (spHand K)) (c_L_right : CalG P w K mg base lw "_law_right" spRight) : FnG P w K mg base (lw + 1) f fd ["_law_script"] (spLaw K) := by
  refine fnG F sc_law (fun vs H Q E h => ?_) (fun cdv A outer s H vs Q hg hr h => ?_)
  · obtain ⟨_, _, rfl, _⟩ := h
    rfl
  · obtain ⟨sc, ns, rfl, hS, hl, q⟩ := h
    refine ⟨_, (pss_one (ps_ret (pe_callB (cr_all rfl) (by rfl) B.all (by decide +kernel) (pa_cons (pe_lc (own := [("_law_k", 1)]) rfl sc_law.nd (pi_range1 rfl B.range (pa_cons (pe_op op_add pe_int (pe_callB (call_min2 rfl) (by rfl) B.min (by decide +kernel) (pa_cons pe_int (pa_cons (pe_callB call_len_seq (by rfl) B.len PySem.boot_len (pa_cons (pv 0) pa_nil)) pa_nil)))) pa_nil)) (blkOk_by (N := N_law) (sc := defScope s_law) (by decide +kernel)) (fun _ _ _ _ _ => pg_name (i := 1) sc_law.nd rfl (.inl rfl)) (fun _ _ _ _ _ => pts_nil) (fun _ _ _ _ _ => pe_g c_L_right hg hr (by omega) (by rfl) (pa_cons (pe_c c_L_hand hr (by omega) (by rfl) (pa_cons (pv 0) (pa_cons (pv 1) pa_nil))) pa_nil))) pa_nil)))), ?_⟩
    have hb : ∀ z : Int, (if z < 3 then z else 3) ≤ 3 := fun z => by split <;> omega
    have hb0 : ∀ z : Int, 0 ≤ z → 0 ≤ (if z < 3 then z else 3) := fun z hz => by split <;> omega
    have h3 := hb (((ns.map V.int).length : Nat) : Int)
    have h4 := hb0 (((ns.map V.int).length : Nat) : Int) (by omega)
    refine ⟨.ref sc, rfl, sc, _, rfl, .inl hS, _, _, rfl, _, _, rfl, rfl, _, rfl, by omega, by omega, fun D nD => lc_range (fun i H' => Same H H' ∧ H' D = some (.lst ((List.replicate i true).map V.bl))) ⟨same_new nD, upd_same⟩ ?_ ?_⟩
    · rintro i H1 hi ⟨sm1, hD1⟩
      have hi4 : i < 4 := by omega
      refine ⟨rfl, tYes_in ?_⟩
      refine ⟨.ref sc, rfl, .int (0 + (i : Int)), rfl, sc, _, ns, rfl, by omega, by omega, sm1.seq hS, fun p g sd np g0 sd0 => ?_⟩
      have hh1 : HandAt (upd H1 p (.lst [.int g, .int sd, .int 0])) p 0 := ⟨g, sd, 0, upd_same, g0, sd0, by decide, by decide⟩
      have b1 : But p H1 (upd H1 p (.lst [.int g, .int sd, .int 0])) := But.put
      generalize upd H1 p (.lst [.int g, .int sd, .int 0]) = H2 at hh1 b1
      refine ⟨p, 0, rfl, hh1, by decide, fun H3 b3 => ?_⟩
      have b13 := b1.trans b3
      have sm13 := b13.same np
      have hD3 := sm13 _ _ hD1
      refine ⟨_, hD3, ?_, fun b' o eb => ?_, ?_⟩
      · rw [List.length_map, List.length_replicate]
        exact small1000 (by omega)
      · rw [upd_ne (ne_of_none eb nD)]
        exact sm13 _ _ (sm1 _ _ eb)
      · rw [upd_same, List.replicate_succ', List.map_append]
        rfl
    · rintro H1 ⟨sm1, hD1⟩
      refine ⟨D, _, rfl, SqL.of hD1, ?_⟩
      rw [show ∀ m, (List.replicate m true).all id = true from fun m => by simp]
      exact q _
end
end NG

namespace NG
open PySem PySem.Spec PyProof.Rows L2
theorem all_mk {l : PySem.W.OpenLaw} {w : World} {K : PySem.W.Frag} {h : Heap} {mg : Str → Option Value} {fa f_mills f_led_part f_side_part f_join_worths f_worth f_power f_stakes_at f_held_by f_with_held f_led_deeds f_do_deeds f_behind f_stands f_ones f_one_factor f_one_pull f_pull f_is_right f_one_day f_member_day f_members_day f_numbered_day f_day f_L_hand f_L_take f_L_of f_L_lowest f_L_shares f_L_figure f_L_registers f_L_leaf f_L_expression f_L_stake f_L_deeds f_L_doubter f_L_worth f_L_gone f_L_luck f_L_moved_on f_L_mirrored f_L_fresh f_L_sign f_L_pair_right f_L_right f_law : Addr} (X : K.In h) (G : h.Ns mainGlobals mg) (hfa : mg "law" = some (.ref fa))
    {od_mills an_mills od_led_part an_led_part od_side_part an_side_part od_join_worths an_join_worths od_worth an_worth od_power an_power od_stakes_at an_stakes_at od_held_by an_held_by od_with_held an_with_held od_led_deeds an_led_deeds od_do_deeds an_do_deeds od_behind an_behind od_stands an_stands od_ones an_ones od_one_factor an_one_factor od_one_pull an_one_pull od_pull an_pull od_is_right an_is_right od_one_day an_one_day od_member_day an_member_day od_members_day an_members_day od_numbered_day an_numbered_day od_day an_day od_L_hand an_L_hand od_L_take an_L_take od_L_of an_L_of od_L_lowest an_L_lowest od_L_shares an_L_shares od_L_figure an_L_figure od_L_registers an_L_registers od_L_leaf an_L_leaf od_L_expression an_L_expression od_L_stake an_L_stake od_L_deeds an_L_deeds od_L_doubter an_L_doubter od_L_worth an_L_worth od_L_gone an_L_gone od_L_luck an_L_luck od_L_moved_on an_L_moved_on od_L_mirrored an_L_mirrored od_L_fresh an_L_fresh od_L_sign an_L_sign od_L_pair_right an_L_pair_right od_L_right an_L_right od_law an_law : Option Addr} {sl_mills sl_led_part sl_side_part sl_join_worths sl_worth sl_power sl_stakes_at sl_held_by sl_with_held sl_led_deeds sl_do_deeds sl_behind sl_stands sl_ones sl_one_factor sl_one_pull sl_pull sl_is_right sl_one_day sl_member_day sl_members_day sl_numbered_day sl_day sl_L_hand sl_L_take sl_L_of sl_L_lowest sl_L_shares sl_L_figure sl_L_registers sl_L_leaf sl_L_expression sl_L_stake sl_L_deeds sl_L_doubter sl_L_worth sl_L_gone sl_L_luck sl_L_moved_on sl_L_mirrored sl_L_fresh sl_L_sign sl_L_pair_right sl_L_right sl_law : Array (Option Value)} {oc_mills kV_mills dc_mills pm_mills cd_mills ct_mills oc_led_part kV_led_part dc_led_part pm_led_part cd_led_part ct_led_part oc_side_part kV_side_part dc_side_part pm_side_part cd_side_part ct_side_part oc_join_worths kV_join_worths dc_join_worths pm_join_worths cd_join_worths ct_join_worths oc_worth kV_worth dc_worth pm_worth cd_worth ct_worth oc_power kV_power dc_power pm_power cd_power ct_power oc_stakes_at kV_stakes_at dc_stakes_at pm_stakes_at cd_stakes_at ct_stakes_at oc_held_by kV_held_by dc_held_by pm_held_by cd_held_by ct_held_by oc_with_held kV_with_held dc_with_held pm_with_held cd_with_held ct_with_held oc_led_deeds kV_led_deeds dc_led_deeds pm_led_deeds cd_led_deeds ct_led_deeds oc_do_deeds kV_do_deeds dc_do_deeds pm_do_deeds cd_do_deeds ct_do_deeds oc_behind kV_behind dc_behind pm_behind cd_behind ct_behind oc_stands kV_stands dc_stands pm_stands cd_stands ct_stands oc_ones kV_ones dc_ones pm_ones cd_ones ct_ones oc_one_factor kV_one_factor dc_one_factor pm_one_factor cd_one_factor ct_one_factor oc_one_pull kV_one_pull dc_one_pull pm_one_pull cd_one_pull ct_one_pull oc_pull kV_pull dc_pull pm_pull cd_pull ct_pull oc_is_right kV_is_right dc_is_right pm_is_right cd_is_right ct_is_right oc_one_day kV_one_day dc_one_day pm_one_day cd_one_day ct_one_day oc_member_day kV_member_day dc_member_day pm_member_day cd_member_day ct_member_day oc_members_day kV_members_day dc_members_day pm_members_day cd_members_day ct_members_day oc_numbered_day kV_numbered_day dc_numbered_day pm_numbered_day cd_numbered_day ct_numbered_day oc_day kV_day dc_day pm_day cd_day ct_day oc_L_hand kV_L_hand dc_L_hand pm_L_hand cd_L_hand ct_L_hand oc_L_take kV_L_take dc_L_take pm_L_take cd_L_take ct_L_take oc_L_of kV_L_of dc_L_of pm_L_of cd_L_of ct_L_of oc_L_lowest kV_L_lowest dc_L_lowest pm_L_lowest cd_L_lowest ct_L_lowest oc_L_shares kV_L_shares dc_L_shares pm_L_shares cd_L_shares ct_L_shares oc_L_figure kV_L_figure dc_L_figure pm_L_figure cd_L_figure ct_L_figure oc_L_registers kV_L_registers dc_L_registers pm_L_registers cd_L_registers ct_L_registers oc_L_leaf kV_L_leaf dc_L_leaf pm_L_leaf cd_L_leaf ct_L_leaf oc_L_expression kV_L_expression dc_L_expression pm_L_expression cd_L_expression ct_L_expression oc_L_stake kV_L_stake dc_L_stake pm_L_stake cd_L_stake ct_L_stake oc_L_deeds kV_L_deeds dc_L_deeds pm_L_deeds cd_L_deeds ct_L_deeds oc_L_doubter kV_L_doubter dc_L_doubter pm_L_doubter cd_L_doubter ct_L_doubter oc_L_worth kV_L_worth dc_L_worth pm_L_worth cd_L_worth ct_L_worth oc_L_gone kV_L_gone dc_L_gone pm_L_gone cd_L_gone ct_L_gone oc_L_luck kV_L_luck dc_L_luck pm_L_luck cd_L_luck ct_L_luck oc_L_moved_on kV_L_moved_on dc_L_moved_on pm_L_moved_on cd_L_moved_on ct_L_moved_on oc_L_mirrored kV_L_mirrored dc_L_mirrored pm_L_mirrored cd_L_mirrored ct_L_mirrored oc_L_fresh kV_L_fresh dc_L_fresh pm_L_fresh cd_L_fresh ct_L_fresh oc_L_sign kV_L_sign dc_L_sign pm_L_sign cd_L_sign ct_L_sign oc_L_pair_right kV_L_pair_right dc_L_pair_right pm_L_pair_right cd_L_pair_right ct_L_pair_right oc_L_right kV_L_right dc_L_right pm_L_right cd_L_right ct_L_right oc_law kV_law dc_law pm_law cd_law ct_law : Value}
    (a_mills : PySem.W.nsIn K mainGlobals "mills" = some (some (.ref f_mills))) (l_mills : K.lookup f_mills = some ⟨oc_mills, od_mills, .func (PySem.W.fnOf "mills" "mills" (defArgs s_mills) (defBody s_mills) (defScope s_mills) .none kV_mills dc_mills pm_mills an_mills cd_mills ct_mills), sl_mills⟩) (c_mills : PySem.W.codeIn K cd_mills "mills" = true) (k_mills : PySem.W.keepIn K (.ref f_mills) = true)
    (a_led_part : PySem.W.nsIn K mainGlobals "led_part" = some (some (.ref f_led_part))) (l_led_part : K.lookup f_led_part = some ⟨oc_led_part, od_led_part, .func (PySem.W.fnOf "led_part" "led_part" (defArgs s_led_part) (defBody s_led_part) (defScope s_led_part) .none kV_led_part dc_led_part pm_led_part an_led_part cd_led_part ct_led_part), sl_led_part⟩) (c_led_part : PySem.W.codeIn K cd_led_part "led_part" = true) (k_led_part : PySem.W.keepIn K (.ref f_led_part) = true)
    (a_side_part : PySem.W.nsIn K mainGlobals "side_part" = some (some (.ref f_side_part))) (l_side_part : K.lookup f_side_part = some ⟨oc_side_part, od_side_part, .func (PySem.W.fnOf "side_part" "side_part" (defArgs s_side_part) (defBody s_side_part) (defScope s_side_part) .none kV_side_part dc_side_part pm_side_part an_side_part cd_side_part ct_side_part), sl_side_part⟩) (c_side_part : PySem.W.codeIn K cd_side_part "side_part" = true) (k_side_part : PySem.W.keepIn K (.ref f_side_part) = true)
    (a_join_worths : PySem.W.nsIn K mainGlobals "join_worths" = some (some (.ref f_join_worths))) (l_join_worths : K.lookup f_join_worths = some ⟨oc_join_worths, od_join_worths, .func (PySem.W.fnOf "join_worths" "join_worths" (defArgs s_join_worths) (defBody s_join_worths) (defScope s_join_worths) .none kV_join_worths dc_join_worths pm_join_worths an_join_worths cd_join_worths ct_join_worths), sl_join_worths⟩) (c_join_worths : PySem.W.codeIn K cd_join_worths "join_worths" = true) (k_join_worths : PySem.W.keepIn K (.ref f_join_worths) = true)
    (a_worth : PySem.W.nsIn K mainGlobals "worth" = some (some (.ref f_worth))) (l_worth : K.lookup f_worth = some ⟨oc_worth, od_worth, .func (PySem.W.fnOf "worth" "worth" (defArgs s_worth) (defBody s_worth) (defScope s_worth) .none kV_worth dc_worth pm_worth an_worth cd_worth ct_worth), sl_worth⟩) (c_worth : PySem.W.codeIn K cd_worth "worth" = true) (k_worth : PySem.W.keepIn K (.ref f_worth) = true)
    (a_power : PySem.W.nsIn K mainGlobals "power" = some (some (.ref f_power))) (l_power : K.lookup f_power = some ⟨oc_power, od_power, .func (PySem.W.fnOf "power" "power" (defArgs s_power) (defBody s_power) (defScope s_power) .none kV_power dc_power pm_power an_power cd_power ct_power), sl_power⟩) (c_power : PySem.W.codeIn K cd_power "power" = true) (k_power : PySem.W.keepIn K (.ref f_power) = true)
    (a_stakes_at : PySem.W.nsIn K mainGlobals "stakes_at" = some (some (.ref f_stakes_at))) (l_stakes_at : K.lookup f_stakes_at = some ⟨oc_stakes_at, od_stakes_at, .func (PySem.W.fnOf "stakes_at" "stakes_at" (defArgs s_stakes_at) (defBody s_stakes_at) (defScope s_stakes_at) .none kV_stakes_at dc_stakes_at pm_stakes_at an_stakes_at cd_stakes_at ct_stakes_at), sl_stakes_at⟩) (c_stakes_at : PySem.W.codeIn K cd_stakes_at "stakes_at" = true) (k_stakes_at : PySem.W.keepIn K (.ref f_stakes_at) = true)
    (a_held_by : PySem.W.nsIn K mainGlobals "held_by" = some (some (.ref f_held_by))) (l_held_by : K.lookup f_held_by = some ⟨oc_held_by, od_held_by, .func (PySem.W.fnOf "held_by" "held_by" (defArgs s_held_by) (defBody s_held_by) (defScope s_held_by) .none kV_held_by dc_held_by pm_held_by an_held_by cd_held_by ct_held_by), sl_held_by⟩) (c_held_by : PySem.W.codeIn K cd_held_by "held_by" = true) (k_held_by : PySem.W.keepIn K (.ref f_held_by) = true)
    (a_with_held : PySem.W.nsIn K mainGlobals "with_held" = some (some (.ref f_with_held))) (l_with_held : K.lookup f_with_held = some ⟨oc_with_held, od_with_held, .func (PySem.W.fnOf "with_held" "with_held" (defArgs s_with_held) (defBody s_with_held) (defScope s_with_held) .none kV_with_held dc_with_held pm_with_held an_with_held cd_with_held ct_with_held), sl_with_held⟩) (c_with_held : PySem.W.codeIn K cd_with_held "with_held" = true) (k_with_held : PySem.W.keepIn K (.ref f_with_held) = true)
    (a_led_deeds : PySem.W.nsIn K mainGlobals "led_deeds" = some (some (.ref f_led_deeds))) (l_led_deeds : K.lookup f_led_deeds = some ⟨oc_led_deeds, od_led_deeds, .func (PySem.W.fnOf "led_deeds" "led_deeds" (defArgs s_led_deeds) (defBody s_led_deeds) (defScope s_led_deeds) .none kV_led_deeds dc_led_deeds pm_led_deeds an_led_deeds cd_led_deeds ct_led_deeds), sl_led_deeds⟩) (c_led_deeds : PySem.W.codeIn K cd_led_deeds "led_deeds" = true) (k_led_deeds : PySem.W.keepIn K (.ref f_led_deeds) = true)
    (a_do_deeds : PySem.W.nsIn K mainGlobals "do_deeds" = some (some (.ref f_do_deeds))) (l_do_deeds : K.lookup f_do_deeds = some ⟨oc_do_deeds, od_do_deeds, .func (PySem.W.fnOf "do_deeds" "do_deeds" (defArgs s_do_deeds) (defBody s_do_deeds) (defScope s_do_deeds) .none kV_do_deeds dc_do_deeds pm_do_deeds an_do_deeds cd_do_deeds ct_do_deeds), sl_do_deeds⟩) (c_do_deeds : PySem.W.codeIn K cd_do_deeds "do_deeds" = true) (k_do_deeds : PySem.W.keepIn K (.ref f_do_deeds) = true)
    (a_behind : PySem.W.nsIn K mainGlobals "behind" = some (some (.ref f_behind))) (l_behind : K.lookup f_behind = some ⟨oc_behind, od_behind, .func (PySem.W.fnOf "behind" "behind" (defArgs s_behind) (defBody s_behind) (defScope s_behind) .none kV_behind dc_behind pm_behind an_behind cd_behind ct_behind), sl_behind⟩) (c_behind : PySem.W.codeIn K cd_behind "behind" = true) (k_behind : PySem.W.keepIn K (.ref f_behind) = true)
    (a_stands : PySem.W.nsIn K mainGlobals "stands" = some (some (.ref f_stands))) (l_stands : K.lookup f_stands = some ⟨oc_stands, od_stands, .func (PySem.W.fnOf "stands" "stands" (defArgs s_stands) (defBody s_stands) (defScope s_stands) .none kV_stands dc_stands pm_stands an_stands cd_stands ct_stands), sl_stands⟩) (c_stands : PySem.W.codeIn K cd_stands "stands" = true) (k_stands : PySem.W.keepIn K (.ref f_stands) = true)
    (a_ones : PySem.W.nsIn K mainGlobals "ones" = some (some (.ref f_ones))) (l_ones : K.lookup f_ones = some ⟨oc_ones, od_ones, .func (PySem.W.fnOf "ones" "ones" (defArgs s_ones) (defBody s_ones) (defScope s_ones) .none kV_ones dc_ones pm_ones an_ones cd_ones ct_ones), sl_ones⟩) (c_ones : PySem.W.codeIn K cd_ones "ones" = true) (k_ones : PySem.W.keepIn K (.ref f_ones) = true)
    (a_one_factor : PySem.W.nsIn K mainGlobals "one_factor" = some (some (.ref f_one_factor))) (l_one_factor : K.lookup f_one_factor = some ⟨oc_one_factor, od_one_factor, .func (PySem.W.fnOf "one_factor" "one_factor" (defArgs s_one_factor) (defBody s_one_factor) (defScope s_one_factor) .none kV_one_factor dc_one_factor pm_one_factor an_one_factor cd_one_factor ct_one_factor), sl_one_factor⟩) (c_one_factor : PySem.W.codeIn K cd_one_factor "one_factor" = true) (k_one_factor : PySem.W.keepIn K (.ref f_one_factor) = true)
    (a_one_pull : PySem.W.nsIn K mainGlobals "one_pull" = some (some (.ref f_one_pull))) (l_one_pull : K.lookup f_one_pull = some ⟨oc_one_pull, od_one_pull, .func (PySem.W.fnOf "one_pull" "one_pull" (defArgs s_one_pull) (defBody s_one_pull) (defScope s_one_pull) .none kV_one_pull dc_one_pull pm_one_pull an_one_pull cd_one_pull ct_one_pull), sl_one_pull⟩) (c_one_pull : PySem.W.codeIn K cd_one_pull "one_pull" = true) (k_one_pull : PySem.W.keepIn K (.ref f_one_pull) = true)
    (a_pull : PySem.W.nsIn K mainGlobals "pull" = some (some (.ref f_pull))) (l_pull : K.lookup f_pull = some ⟨oc_pull, od_pull, .func (PySem.W.fnOf "pull" "pull" (defArgs s_pull) (defBody s_pull) (defScope s_pull) .none kV_pull dc_pull pm_pull an_pull cd_pull ct_pull), sl_pull⟩) (c_pull : PySem.W.codeIn K cd_pull "pull" = true) (k_pull : PySem.W.keepIn K (.ref f_pull) = true)
    (a_is_right : PySem.W.nsIn K mainGlobals "is_right" = some (some (.ref f_is_right))) (l_is_right : K.lookup f_is_right = some ⟨oc_is_right, od_is_right, .func (PySem.W.fnOf "is_right" "is_right" (defArgs s_is_right) (defBody s_is_right) (defScope s_is_right) .none kV_is_right dc_is_right pm_is_right an_is_right cd_is_right ct_is_right), sl_is_right⟩) (c_is_right : PySem.W.codeIn K cd_is_right "is_right" = true) (k_is_right : PySem.W.keepIn K (.ref f_is_right) = true)
    (a_one_day : PySem.W.nsIn K mainGlobals "one_day" = some (some (.ref f_one_day))) (l_one_day : K.lookup f_one_day = some ⟨oc_one_day, od_one_day, .func (PySem.W.fnOf "one_day" "one_day" (defArgs s_one_day) (defBody s_one_day) (defScope s_one_day) .none kV_one_day dc_one_day pm_one_day an_one_day cd_one_day ct_one_day), sl_one_day⟩) (c_one_day : PySem.W.codeIn K cd_one_day "one_day" = true) (k_one_day : PySem.W.keepIn K (.ref f_one_day) = true)
    (a_member_day : PySem.W.nsIn K mainGlobals "member_day" = some (some (.ref f_member_day))) (l_member_day : K.lookup f_member_day = some ⟨oc_member_day, od_member_day, .func (PySem.W.fnOf "member_day" "member_day" (defArgs s_member_day) (defBody s_member_day) (defScope s_member_day) .none kV_member_day dc_member_day pm_member_day an_member_day cd_member_day ct_member_day), sl_member_day⟩) (c_member_day : PySem.W.codeIn K cd_member_day "member_day" = true) (k_member_day : PySem.W.keepIn K (.ref f_member_day) = true)
    (a_members_day : PySem.W.nsIn K mainGlobals "members_day" = some (some (.ref f_members_day))) (l_members_day : K.lookup f_members_day = some ⟨oc_members_day, od_members_day, .func (PySem.W.fnOf "members_day" "members_day" (defArgs s_members_day) (defBody s_members_day) (defScope s_members_day) .none kV_members_day dc_members_day pm_members_day an_members_day cd_members_day ct_members_day), sl_members_day⟩) (c_members_day : PySem.W.codeIn K cd_members_day "members_day" = true) (k_members_day : PySem.W.keepIn K (.ref f_members_day) = true)
    (a_numbered_day : PySem.W.nsIn K mainGlobals "numbered_day" = some (some (.ref f_numbered_day))) (l_numbered_day : K.lookup f_numbered_day = some ⟨oc_numbered_day, od_numbered_day, .func (PySem.W.fnOf "numbered_day" "numbered_day" (defArgs s_numbered_day) (defBody s_numbered_day) (defScope s_numbered_day) .none kV_numbered_day dc_numbered_day pm_numbered_day an_numbered_day cd_numbered_day ct_numbered_day), sl_numbered_day⟩) (c_numbered_day : PySem.W.codeIn K cd_numbered_day "numbered_day" = true) (k_numbered_day : PySem.W.keepIn K (.ref f_numbered_day) = true)
    (a_day : PySem.W.nsIn K mainGlobals "day" = some (some (.ref f_day))) (l_day : K.lookup f_day = some ⟨oc_day, od_day, .func (PySem.W.fnOf "day" "day" (defArgs s_day) (defBody s_day) (defScope s_day) .none kV_day dc_day pm_day an_day cd_day ct_day), sl_day⟩) (c_day : PySem.W.codeIn K cd_day "day" = true) (k_day : PySem.W.keepIn K (.ref f_day) = true)
    (a_L_hand : PySem.W.nsIn K mainGlobals "_law_hand" = some (some (.ref f_L_hand))) (l_L_hand : K.lookup f_L_hand = some ⟨oc_L_hand, od_L_hand, .func (PySem.W.fnOf "_law_hand" "_law_hand" (defArgs s_L_hand) (defBody s_L_hand) (defScope s_L_hand) .none kV_L_hand dc_L_hand pm_L_hand an_L_hand cd_L_hand ct_L_hand), sl_L_hand⟩) (c_L_hand : PySem.W.codeIn K cd_L_hand "_law_hand" = true) (k_L_hand : PySem.W.keepIn K (.ref f_L_hand) = true)
    (a_L_take : PySem.W.nsIn K mainGlobals "_law_take" = some (some (.ref f_L_take))) (l_L_take : K.lookup f_L_take = some ⟨oc_L_take, od_L_take, .func (PySem.W.fnOf "_law_take" "_law_take" (defArgs s_L_take) (defBody s_L_take) (defScope s_L_take) .none kV_L_take dc_L_take pm_L_take an_L_take cd_L_take ct_L_take), sl_L_take⟩) (c_L_take : PySem.W.codeIn K cd_L_take "_law_take" = true) (k_L_take : PySem.W.keepIn K (.ref f_L_take) = true)
    (a_L_of : PySem.W.nsIn K mainGlobals "_law_of" = some (some (.ref f_L_of))) (l_L_of : K.lookup f_L_of = some ⟨oc_L_of, od_L_of, .func (PySem.W.fnOf "_law_of" "_law_of" (defArgs s_L_of) (defBody s_L_of) (defScope s_L_of) .none kV_L_of dc_L_of pm_L_of an_L_of cd_L_of ct_L_of), sl_L_of⟩) (c_L_of : PySem.W.codeIn K cd_L_of "_law_of" = true) (k_L_of : PySem.W.keepIn K (.ref f_L_of) = true)
    (a_L_lowest : PySem.W.nsIn K mainGlobals "_law_lowest" = some (some (.ref f_L_lowest))) (l_L_lowest : K.lookup f_L_lowest = some ⟨oc_L_lowest, od_L_lowest, .func (PySem.W.fnOf "_law_lowest" "_law_lowest" (defArgs s_L_lowest) (defBody s_L_lowest) (defScope s_L_lowest) .none kV_L_lowest dc_L_lowest pm_L_lowest an_L_lowest cd_L_lowest ct_L_lowest), sl_L_lowest⟩) (c_L_lowest : PySem.W.codeIn K cd_L_lowest "_law_lowest" = true) (k_L_lowest : PySem.W.keepIn K (.ref f_L_lowest) = true)
    (a_L_shares : PySem.W.nsIn K mainGlobals "_law_shares" = some (some (.ref f_L_shares))) (l_L_shares : K.lookup f_L_shares = some ⟨oc_L_shares, od_L_shares, .func (PySem.W.fnOf "_law_shares" "_law_shares" (defArgs s_L_shares) (defBody s_L_shares) (defScope s_L_shares) .none kV_L_shares dc_L_shares pm_L_shares an_L_shares cd_L_shares ct_L_shares), sl_L_shares⟩) (c_L_shares : PySem.W.codeIn K cd_L_shares "_law_shares" = true) (k_L_shares : PySem.W.keepIn K (.ref f_L_shares) = true)
    (a_L_figure : PySem.W.nsIn K mainGlobals "_law_figure" = some (some (.ref f_L_figure))) (l_L_figure : K.lookup f_L_figure = some ⟨oc_L_figure, od_L_figure, .func (PySem.W.fnOf "_law_figure" "_law_figure" (defArgs s_L_figure) (defBody s_L_figure) (defScope s_L_figure) .none kV_L_figure dc_L_figure pm_L_figure an_L_figure cd_L_figure ct_L_figure), sl_L_figure⟩) (c_L_figure : PySem.W.codeIn K cd_L_figure "_law_figure" = true) (k_L_figure : PySem.W.keepIn K (.ref f_L_figure) = true)
    (a_L_registers : PySem.W.nsIn K mainGlobals "_law_registers" = some (some (.ref f_L_registers))) (l_L_registers : K.lookup f_L_registers = some ⟨oc_L_registers, od_L_registers, .func (PySem.W.fnOf "_law_registers" "_law_registers" (defArgs s_L_registers) (defBody s_L_registers) (defScope s_L_registers) .none kV_L_registers dc_L_registers pm_L_registers an_L_registers cd_L_registers ct_L_registers), sl_L_registers⟩) (c_L_registers : PySem.W.codeIn K cd_L_registers "_law_registers" = true) (k_L_registers : PySem.W.keepIn K (.ref f_L_registers) = true)
    (a_L_leaf : PySem.W.nsIn K mainGlobals "_law_leaf" = some (some (.ref f_L_leaf))) (l_L_leaf : K.lookup f_L_leaf = some ⟨oc_L_leaf, od_L_leaf, .func (PySem.W.fnOf "_law_leaf" "_law_leaf" (defArgs s_L_leaf) (defBody s_L_leaf) (defScope s_L_leaf) .none kV_L_leaf dc_L_leaf pm_L_leaf an_L_leaf cd_L_leaf ct_L_leaf), sl_L_leaf⟩) (c_L_leaf : PySem.W.codeIn K cd_L_leaf "_law_leaf" = true) (k_L_leaf : PySem.W.keepIn K (.ref f_L_leaf) = true)
    (a_L_expression : PySem.W.nsIn K mainGlobals "_law_expression" = some (some (.ref f_L_expression))) (l_L_expression : K.lookup f_L_expression = some ⟨oc_L_expression, od_L_expression, .func (PySem.W.fnOf "_law_expression" "_law_expression" (defArgs s_L_expression) (defBody s_L_expression) (defScope s_L_expression) .none kV_L_expression dc_L_expression pm_L_expression an_L_expression cd_L_expression ct_L_expression), sl_L_expression⟩) (c_L_expression : PySem.W.codeIn K cd_L_expression "_law_expression" = true) (k_L_expression : PySem.W.keepIn K (.ref f_L_expression) = true)
    (a_L_stake : PySem.W.nsIn K mainGlobals "_law_stake" = some (some (.ref f_L_stake))) (l_L_stake : K.lookup f_L_stake = some ⟨oc_L_stake, od_L_stake, .func (PySem.W.fnOf "_law_stake" "_law_stake" (defArgs s_L_stake) (defBody s_L_stake) (defScope s_L_stake) .none kV_L_stake dc_L_stake pm_L_stake an_L_stake cd_L_stake ct_L_stake), sl_L_stake⟩) (c_L_stake : PySem.W.codeIn K cd_L_stake "_law_stake" = true) (k_L_stake : PySem.W.keepIn K (.ref f_L_stake) = true)
    (a_L_deeds : PySem.W.nsIn K mainGlobals "_law_deeds" = some (some (.ref f_L_deeds))) (l_L_deeds : K.lookup f_L_deeds = some ⟨oc_L_deeds, od_L_deeds, .func (PySem.W.fnOf "_law_deeds" "_law_deeds" (defArgs s_L_deeds) (defBody s_L_deeds) (defScope s_L_deeds) .none kV_L_deeds dc_L_deeds pm_L_deeds an_L_deeds cd_L_deeds ct_L_deeds), sl_L_deeds⟩) (c_L_deeds : PySem.W.codeIn K cd_L_deeds "_law_deeds" = true) (k_L_deeds : PySem.W.keepIn K (.ref f_L_deeds) = true)
    (a_L_doubter : PySem.W.nsIn K mainGlobals "_law_doubter" = some (some (.ref f_L_doubter))) (l_L_doubter : K.lookup f_L_doubter = some ⟨oc_L_doubter, od_L_doubter, .func (PySem.W.fnOf "_law_doubter" "_law_doubter" (defArgs s_L_doubter) (defBody s_L_doubter) (defScope s_L_doubter) .none kV_L_doubter dc_L_doubter pm_L_doubter an_L_doubter cd_L_doubter ct_L_doubter), sl_L_doubter⟩) (c_L_doubter : PySem.W.codeIn K cd_L_doubter "_law_doubter" = true) (k_L_doubter : PySem.W.keepIn K (.ref f_L_doubter) = true)
    (a_L_worth : PySem.W.nsIn K mainGlobals "_law_worth" = some (some (.ref f_L_worth))) (l_L_worth : K.lookup f_L_worth = some ⟨oc_L_worth, od_L_worth, .func (PySem.W.fnOf "_law_worth" "_law_worth" (defArgs s_L_worth) (defBody s_L_worth) (defScope s_L_worth) .none kV_L_worth dc_L_worth pm_L_worth an_L_worth cd_L_worth ct_L_worth), sl_L_worth⟩) (c_L_worth : PySem.W.codeIn K cd_L_worth "_law_worth" = true) (k_L_worth : PySem.W.keepIn K (.ref f_L_worth) = true)
    (a_L_gone : PySem.W.nsIn K mainGlobals "_law_gone" = some (some (.ref f_L_gone))) (l_L_gone : K.lookup f_L_gone = some ⟨oc_L_gone, od_L_gone, .func (PySem.W.fnOf "_law_gone" "_law_gone" (defArgs s_L_gone) (defBody s_L_gone) (defScope s_L_gone) .none kV_L_gone dc_L_gone pm_L_gone an_L_gone cd_L_gone ct_L_gone), sl_L_gone⟩) (c_L_gone : PySem.W.codeIn K cd_L_gone "_law_gone" = true) (k_L_gone : PySem.W.keepIn K (.ref f_L_gone) = true)
    (a_L_luck : PySem.W.nsIn K mainGlobals "_law_luck" = some (some (.ref f_L_luck))) (l_L_luck : K.lookup f_L_luck = some ⟨oc_L_luck, od_L_luck, .func (PySem.W.fnOf "_law_luck" "_law_luck" (defArgs s_L_luck) (defBody s_L_luck) (defScope s_L_luck) .none kV_L_luck dc_L_luck pm_L_luck an_L_luck cd_L_luck ct_L_luck), sl_L_luck⟩) (c_L_luck : PySem.W.codeIn K cd_L_luck "_law_luck" = true) (k_L_luck : PySem.W.keepIn K (.ref f_L_luck) = true)
    (a_L_moved_on : PySem.W.nsIn K mainGlobals "_law_moved_on" = some (some (.ref f_L_moved_on))) (l_L_moved_on : K.lookup f_L_moved_on = some ⟨oc_L_moved_on, od_L_moved_on, .func (PySem.W.fnOf "_law_moved_on" "_law_moved_on" (defArgs s_L_moved_on) (defBody s_L_moved_on) (defScope s_L_moved_on) .none kV_L_moved_on dc_L_moved_on pm_L_moved_on an_L_moved_on cd_L_moved_on ct_L_moved_on), sl_L_moved_on⟩) (c_L_moved_on : PySem.W.codeIn K cd_L_moved_on "_law_moved_on" = true) (k_L_moved_on : PySem.W.keepIn K (.ref f_L_moved_on) = true)
    (a_L_mirrored : PySem.W.nsIn K mainGlobals "_law_mirrored" = some (some (.ref f_L_mirrored))) (l_L_mirrored : K.lookup f_L_mirrored = some ⟨oc_L_mirrored, od_L_mirrored, .func (PySem.W.fnOf "_law_mirrored" "_law_mirrored" (defArgs s_L_mirrored) (defBody s_L_mirrored) (defScope s_L_mirrored) .none kV_L_mirrored dc_L_mirrored pm_L_mirrored an_L_mirrored cd_L_mirrored ct_L_mirrored), sl_L_mirrored⟩) (c_L_mirrored : PySem.W.codeIn K cd_L_mirrored "_law_mirrored" = true) (k_L_mirrored : PySem.W.keepIn K (.ref f_L_mirrored) = true)
    (a_L_fresh : PySem.W.nsIn K mainGlobals "_law_fresh" = some (some (.ref f_L_fresh))) (l_L_fresh : K.lookup f_L_fresh = some ⟨oc_L_fresh, od_L_fresh, .func (PySem.W.fnOf "_law_fresh" "_law_fresh" (defArgs s_L_fresh) (defBody s_L_fresh) (defScope s_L_fresh) .none kV_L_fresh dc_L_fresh pm_L_fresh an_L_fresh cd_L_fresh ct_L_fresh), sl_L_fresh⟩) (c_L_fresh : PySem.W.codeIn K cd_L_fresh "_law_fresh" = true) (k_L_fresh : PySem.W.keepIn K (.ref f_L_fresh) = true)
    (a_L_sign : PySem.W.nsIn K mainGlobals "_law_sign" = some (some (.ref f_L_sign))) (l_L_sign : K.lookup f_L_sign = some ⟨oc_L_sign, od_L_sign, .func (PySem.W.fnOf "_law_sign" "_law_sign" (defArgs s_L_sign) (defBody s_L_sign) (defScope s_L_sign) .none kV_L_sign dc_L_sign pm_L_sign an_L_sign cd_L_sign ct_L_sign), sl_L_sign⟩) (c_L_sign : PySem.W.codeIn K cd_L_sign "_law_sign" = true) (k_L_sign : PySem.W.keepIn K (.ref f_L_sign) = true)
    (a_L_pair_right : PySem.W.nsIn K mainGlobals "_law_pair_right" = some (some (.ref f_L_pair_right))) (l_L_pair_right : K.lookup f_L_pair_right = some ⟨oc_L_pair_right, od_L_pair_right, .func (PySem.W.fnOf "_law_pair_right" "_law_pair_right" (defArgs s_L_pair_right) (defBody s_L_pair_right) (defScope s_L_pair_right) .none kV_L_pair_right dc_L_pair_right pm_L_pair_right an_L_pair_right cd_L_pair_right ct_L_pair_right), sl_L_pair_right⟩) (c_L_pair_right : PySem.W.codeIn K cd_L_pair_right "_law_pair_right" = true) (k_L_pair_right : PySem.W.keepIn K (.ref f_L_pair_right) = true)
    (a_L_right : PySem.W.nsIn K mainGlobals "_law_right" = some (some (.ref f_L_right))) (l_L_right : K.lookup f_L_right = some ⟨oc_L_right, od_L_right, .func (PySem.W.fnOf "_law_right" "_law_right" (defArgs s_L_right) (defBody s_L_right) (defScope s_L_right) .none kV_L_right dc_L_right pm_L_right an_L_right cd_L_right ct_L_right), sl_L_right⟩) (c_L_right : PySem.W.codeIn K cd_L_right "_law_right" = true) (k_L_right : PySem.W.keepIn K (.ref f_L_right) = true)
    (a_law : PySem.W.nsIn K mainGlobals "law" = some (some (.ref f_law))) (l_law : K.lookup f_law = some ⟨oc_law, od_law, .func (PySem.W.fnOf "law" "law" (defArgs s_law) (defBody s_law) (defScope s_law) .none kV_law dc_law pm_law an_law cd_law ct_law), sl_law⟩) (c_law : PySem.W.codeIn K cd_law "law" = true) (k_law : PySem.W.keepIn K (.ref f_law) = true)
    {t_GREATEST_SCALE : Tok} (i_GREATEST_SCALE : PySem.W.nsIn K mainGlobals "GREATEST_SCALE" = some (some (.int (4) t_GREATEST_SCALE)))
    {t_LEAST_HELD : Tok} (i_LEAST_HELD : PySem.W.nsIn K mainGlobals "LEAST_HELD" = some (some (.int (-1000) t_LEAST_HELD)))
    {t_MOST_HELD : Tok} (i_MOST_HELD : PySem.W.nsIn K mainGlobals "MOST_HELD" = some (some (.int (1000) t_MOST_HELD)))
    {t_GOT_PARTS : Tok} (i_GOT_PARTS : PySem.W.nsIn K mainGlobals "GOT_PARTS" = some (some (.int (1000000000) t_GOT_PARTS)))
    (z_len : PySem.W.nsIn K mainGlobals "len" = some none)
    (z_sum : PySem.W.nsIn K mainGlobals "sum" = some none)
    (z_max : PySem.W.nsIn K mainGlobals "max" = some none)
    (z_min : PySem.W.nsIn K mainGlobals "min" = some none)
    (z_abs : PySem.W.nsIn K mainGlobals "abs" = some none)
    (z_int : PySem.W.nsIn K mainGlobals "int" = some none)
    (z_tuple : PySem.W.nsIn K mainGlobals "tuple" = some none)
    (z_range : PySem.W.nsIn K mainGlobals "range" = some none)
    (z_sorted : PySem.W.nsIn K mainGlobals "sorted" = some none)
    (z_zip : PySem.W.nsIn K mainGlobals "zip" = some none)
    (z_isinstance : PySem.W.nsIn K mainGlobals "isinstance" = some none)
    (z_list : PySem.W.nsIn K mainGlobals "list" = some none)
    (z_all : PySem.W.nsIn K mainGlobals "all" = some none)
    (z_repr : PySem.W.nsIn K mainGlobals "repr" = some none)
    (z_str : PySem.W.nsIn K mainGlobals "str" = some none)
    (z_enumerate : PySem.W.nsIn K mainGlobals "enumerate" = some none)
    (z_bool : PySem.W.nsIn K mainGlobals "bool" = some none)
    : ∃ fd : FuncData, (∀ (s : Shared) (v : Value), BindsTo s fd ⟨[v], []⟩ [("_law_script", v)]) ∧ ∀ base : Heap, K.In base → base.Ns mainGlobals mg → FnG l.prog w K mg base 29 fa fd ["_law_script"] (spLaw K) := by
  have e := hfa.symm.trans (PySem.W.mg_of X G a_law)
  cases e
  have F_mills := fun_mk (st := s_mills) l_mills c_mills k_mills
  have g_mills := PySem.W.mg_of X G a_mills
  have b_mills := F_mills.binds (ps := ["shares", "sign"]) fun _ _ _ _ _ _ us hl => match us, hl with | [_, _], _ => rfl
  have F_led_part := fun_mk (st := s_led_part) l_led_part c_led_part k_led_part
  have g_led_part := PySem.W.mg_of X G a_led_part
  have b_led_part := F_led_part.binds (ps := ["expression", "registers"]) fun _ _ _ _ _ _ us hl => match us, hl with | [_, _], _ => rfl
  have F_side_part := fun_mk (st := s_side_part) l_side_part c_side_part k_side_part
  have g_side_part := PySem.W.mg_of X G a_side_part
  have b_side_part := F_side_part.binds (ps := ["expression", "shares"]) fun _ _ _ _ _ _ us hl => match us, hl with | [_, _], _ => rfl
  have F_join_worths := fun_mk (st := s_join_worths) l_join_worths c_join_worths k_join_worths
  have g_join_worths := PySem.W.mg_of X G a_join_worths
  have b_join_worths := F_join_worths.binds (ps := ["word", "first", "second"]) fun _ _ _ _ _ _ us hl => match us, hl with | [_, _, _], _ => rfl
  have F_worth := fun_mk (st := s_worth) l_worth c_worth k_worth
  have g_worth := PySem.W.mg_of X G a_worth
  have b_worth := F_worth.binds (ps := ["expression", "registers", "shares"]) fun _ _ _ _ _ _ us hl => match us, hl with | [_, _, _], _ => rfl
  have F_power := fun_mk (st := s_power) l_power c_power k_power
  have g_power := PySem.W.mg_of X G a_power
  have b_power := F_power.binds (ps := ["scale"]) fun _ _ _ _ _ _ us hl => match us, hl with | [_], _ => rfl
  have F_stakes_at := fun_mk (st := s_stakes_at) l_stakes_at c_stakes_at k_stakes_at
  have g_stakes_at := PySem.W.mg_of X G a_stakes_at
  have b_stakes_at := F_stakes_at.binds (ps := ["doubter", "registers", "shares"]) fun _ _ _ _ _ _ us hl => match us, hl with | [_, _, _], _ => rfl
  have F_held_by := fun_mk (st := s_held_by) l_held_by c_held_by k_held_by
  have g_held_by := PySem.W.mg_of X G a_held_by
  have b_held_by := F_held_by.binds (ps := ["deed", "registers", "shares"]) fun _ _ _ _ _ _ us hl => match us, hl with | [_, _, _], _ => rfl
  have F_with_held := fun_mk (st := s_with_held) l_with_held c_with_held k_with_held
  have g_with_held := PySem.W.mg_of X G a_with_held
  have b_with_held := F_with_held.binds (ps := ["registers", "place", "number"]) fun _ _ _ _ _ _ us hl => match us, hl with | [_, _, _], _ => rfl
  have F_led_deeds := fun_mk (st := s_led_deeds) l_led_deeds c_led_deeds k_led_deeds
  have g_led_deeds := PySem.W.mg_of X G a_led_deeds
  have b_led_deeds := F_led_deeds.binds (ps := ["deed", "registers"]) fun _ _ _ _ _ _ us hl => match us, hl with | [_, _], _ => rfl
  have F_do_deeds := fun_mk (st := s_do_deeds) l_do_deeds c_do_deeds k_do_deeds
  have g_do_deeds := PySem.W.mg_of X G a_do_deeds
  have b_do_deeds := F_do_deeds.binds (ps := ["deeds", "registers", "shares"]) fun _ _ _ _ _ _ us hl => match us, hl with | [_, _, _], _ => rfl
  have F_behind := fun_mk (st := s_behind) l_behind c_behind k_behind
  have g_behind := PySem.W.mg_of X G a_behind
  have b_behind := F_behind.binds (ps := ["doubter", "registers", "shares", "sign"]) fun _ _ _ _ _ _ us hl => match us, hl with | [_, _, _, _], _ => rfl
  have F_stands := fun_mk (st := s_stands) l_stands c_stands k_stands
  have g_stands := PySem.W.mg_of X G a_stands
  have b_stands := F_stands.binds (ps := ["members", "path"]) fun _ _ _ _ _ _ us hl => match us, hl with | [_, _], _ => rfl
  have F_ones := fun_mk (st := s_ones) l_ones c_ones k_ones
  have g_ones := PySem.W.mg_of X G a_ones
  have b_ones := F_ones.binds (ps := ["house"]) fun _ _ _ _ _ _ us hl => match us, hl with | [_], _ => rfl
  have F_one_factor := fun_mk (st := s_one_factor) l_one_factor c_one_factor k_one_factor
  have g_one_factor := PySem.W.mg_of X G a_one_factor
  have b_one_factor := F_one_factor.binds (ps := ["one"]) fun _ _ _ _ _ _ us hl => match us, hl with | [_], _ => rfl
  have F_one_pull := fun_mk (st := s_one_pull) l_one_pull c_one_pull k_one_pull
  have g_one_pull := PySem.W.mg_of X G a_one_pull
  have b_one_pull := F_one_pull.binds (ps := ["one", "shares"]) fun _ _ _ _ _ _ us hl => match us, hl with | [_, _], _ => rfl
  have F_pull := fun_mk (st := s_pull) l_pull c_pull k_pull
  have g_pull := PySem.W.mg_of X G a_pull
  have b_pull := F_pull.binds (ps := ["house", "shares"]) fun _ _ _ _ _ _ us hl => match us, hl with | [_, _], _ => rfl
  have F_is_right := fun_mk (st := s_is_right) l_is_right c_is_right k_is_right
  have g_is_right := PySem.W.mg_of X G a_is_right
  have b_is_right := F_is_right.binds (ps := ["house", "shares"]) fun _ _ _ _ _ _ us hl => match us, hl with | [_, _], _ => rfl
  have F_one_day := fun_mk (st := s_one_day) l_one_day c_one_day k_one_day
  have g_one_day := PySem.W.mg_of X G a_one_day
  have b_one_day := F_one_day.binds (ps := ["one", "shares", "sign"]) fun _ _ _ _ _ _ us hl => match us, hl with | [_, _, _], _ => rfl
  have F_member_day := fun_mk (st := s_member_day) l_member_day c_member_day k_member_day
  have g_member_day := PySem.W.mg_of X G a_member_day
  have b_member_day := F_member_day.binds (ps := ["member", "shares", "sign"]) fun _ _ _ _ _ _ us hl => match us, hl with | [_, _, _], _ => rfl
  have F_members_day := fun_mk (st := s_members_day) l_members_day c_members_day k_members_day
  have g_members_day := PySem.W.mg_of X G a_members_day
  have b_members_day := F_members_day.binds (ps := ["members", "shares", "sign"]) fun _ _ _ _ _ _ us hl => match us, hl with | [_, _, _], _ => rfl
  have F_numbered_day := fun_mk (st := s_numbered_day) l_numbered_day c_numbered_day k_numbered_day
  have g_numbered_day := PySem.W.mg_of X G a_numbered_day
  have b_numbered_day := F_numbered_day.binds (ps := ["house", "shares", "sign", "number"]) fun _ _ _ _ _ _ us hl => match us, hl with | [_, _, _, _], _ => rfl
  have F_day := fun_mk (st := s_day) l_day c_day k_day
  have g_day := PySem.W.mg_of X G a_day
  have b_day := F_day.binds (ps := ["house", "shares", "sign"]) fun _ _ _ _ _ _ us hl => match us, hl with | [_, _, _], _ => rfl
  have F_L_hand := fun_mk (st := s_L_hand) l_L_hand c_L_hand k_L_hand
  have g_L_hand := PySem.W.mg_of X G a_L_hand
  have b_L_hand := F_L_hand.binds (ps := ["_law_script", "_law_k"]) fun _ _ _ _ _ _ us hl => match us, hl with | [_, _], _ => rfl
  have F_L_take := fun_mk (st := s_L_take) l_L_take c_L_take k_L_take
  have g_L_take := PySem.W.mg_of X G a_L_take
  have b_L_take := F_L_take.binds (ps := ["_law_hand_here", "_law_many"]) fun _ _ _ _ _ _ us hl => match us, hl with | [_, _], _ => rfl
  have F_L_of := fun_mk (st := s_L_of) l_L_of c_L_of k_L_of
  have g_L_of := PySem.W.mg_of X G a_L_of
  have b_L_of := F_L_of.binds (ps := ["_law_hand_here", "_law_some"]) fun _ _ _ _ _ _ us hl => match us, hl with | [_, _], _ => rfl
  have F_L_lowest := fun_mk (st := s_L_lowest) l_L_lowest c_L_lowest k_L_lowest
  have g_L_lowest := PySem.W.mg_of X G a_L_lowest
  have b_L_lowest := F_L_lowest.binds (ps := ["_law_row"]) fun _ _ _ _ _ _ us hl => match us, hl with | [_], _ => rfl
  have F_L_shares := fun_mk (st := s_L_shares) l_L_shares c_L_shares k_L_shares
  have g_L_shares := PySem.W.mg_of X G a_L_shares
  have b_L_shares := F_L_shares.binds (ps := ["_law_hand_here", "_law_many"]) fun _ _ _ _ _ _ us hl => match us, hl with | [_, _], _ => rfl
  have F_L_figure := fun_mk (st := s_L_figure) l_L_figure c_L_figure k_L_figure
  have g_L_figure := PySem.W.mg_of X G a_L_figure
  have b_L_figure := F_L_figure.binds (ps := ["_law_hand_here"]) fun _ _ _ _ _ _ us hl => match us, hl with | [_], _ => rfl
  have F_L_registers := fun_mk (st := s_L_registers) l_L_registers c_L_registers k_L_registers
  have g_L_registers := PySem.W.mg_of X G a_L_registers
  have b_L_registers := F_L_registers.binds (ps := ["_law_hand_here"]) fun _ _ _ _ _ _ us hl => match us, hl with | [_], _ => rfl
  have F_L_leaf := fun_mk (st := s_L_leaf) l_L_leaf c_L_leaf k_L_leaf
  have g_L_leaf := PySem.W.mg_of X G a_L_leaf
  have b_L_leaf := F_L_leaf.binds (ps := ["_law_hand_here", "_law_many"]) fun _ _ _ _ _ _ us hl => match us, hl with | [_, _], _ => rfl
  have F_L_expression := fun_mk (st := s_L_expression) l_L_expression c_L_expression k_L_expression
  have g_L_expression := PySem.W.mg_of X G a_L_expression
  have b_L_expression := F_L_expression.binds (ps := ["_law_hand_here", "_law_many", "_law_level", "_law_jumps"]) fun _ _ _ _ _ _ us hl => match us, hl with | [_, _, _, _], _ => rfl
  have F_L_stake := fun_mk (st := s_L_stake) l_L_stake c_L_stake k_L_stake
  have g_L_stake := PySem.W.mg_of X G a_L_stake
  have b_L_stake := F_L_stake.binds (ps := ["_law_hand_here", "_law_many", "_law_level", "_law_jumps"]) fun _ _ _ _ _ _ us hl => match us, hl with | [_, _, _, _], _ => rfl
  have F_L_deeds := fun_mk (st := s_L_deeds) l_L_deeds c_L_deeds k_L_deeds
  have g_L_deeds := PySem.W.mg_of X G a_L_deeds
  have b_L_deeds := F_L_deeds.binds (ps := ["_law_hand_here", "_law_many", "_law_deep"]) fun _ _ _ _ _ _ us hl => match us, hl with | [_, _, _], _ => rfl
  have F_L_doubter := fun_mk (st := s_L_doubter) l_L_doubter c_L_doubter k_L_doubter
  have g_L_doubter := PySem.W.mg_of X G a_L_doubter
  have b_L_doubter := F_L_doubter.binds (ps := ["_law_hand_here", "_law_many", "_law_level", "_law_jumps"]) fun _ _ _ _ _ _ us hl => match us, hl with | [_, _, _, _], _ => rfl
  have F_L_worth := fun_mk (st := s_L_worth) l_L_worth c_L_worth k_L_worth
  have g_L_worth := PySem.W.mg_of X G a_L_worth
  have b_L_worth := F_L_worth.binds (ps := ["_law_expression_here", "_law_registers_here", "_law_lot"]) fun _ _ _ _ _ _ us hl => match us, hl with | [_, _, _], _ => rfl
  have F_L_gone := fun_mk (st := s_L_gone) l_L_gone c_L_gone k_L_gone
  have g_L_gone := PySem.W.mg_of X G a_L_gone
  have b_L_gone := F_L_gone.binds (ps := ["_law_deeds_here", "_law_registers_here", "_law_lot"]) fun _ _ _ _ _ _ us hl => match us, hl with | [_, _, _], _ => rfl
  have F_L_luck := fun_mk (st := s_L_luck) l_L_luck c_L_luck k_L_luck
  have g_L_luck := PySem.W.mg_of X G a_L_luck
  have b_L_luck := F_L_luck.binds (ps := ["_law_one", "_law_lot", "_law_mark"]) fun _ _ _ _ _ _ us hl => match us, hl with | [_, _, _], _ => rfl
  have F_L_moved_on := fun_mk (st := s_L_moved_on) l_L_moved_on c_L_moved_on k_L_moved_on
  have g_L_moved_on := PySem.W.mg_of X G a_L_moved_on
  have b_L_moved_on := F_L_moved_on.binds (ps := ["_law_one", "_law_lot", "_law_mark"]) fun _ _ _ _ _ _ us hl => match us, hl with | [_, _, _], _ => rfl
  have F_L_mirrored := fun_mk (st := s_L_mirrored) l_L_mirrored c_L_mirrored k_L_mirrored
  have g_L_mirrored := PySem.W.mg_of X G a_L_mirrored
  have b_L_mirrored := F_L_mirrored.binds (ps := ["_law_one"]) fun _ _ _ _ _ _ us hl => match us, hl with | [_], _ => rfl
  have F_L_fresh := fun_mk (st := s_L_fresh) l_L_fresh c_L_fresh k_L_fresh
  have g_L_fresh := PySem.W.mg_of X G a_L_fresh
  have b_L_fresh := F_L_fresh.binds (ps := ["_law_hand_here", "_law_many"]) fun _ _ _ _ _ _ us hl => match us, hl with | [_, _], _ => rfl
  have F_L_sign := fun_mk (st := s_L_sign) l_L_sign c_L_sign k_L_sign
  have g_L_sign := PySem.W.mg_of X G a_L_sign
  have b_L_sign := F_L_sign.binds (ps := ["_law_hand_here", "_law_one", "_law_lot"]) fun _ _ _ _ _ _ us hl => match us, hl with | [_, _, _], _ => rfl
  have F_L_pair_right := fun_mk (st := s_L_pair_right) l_L_pair_right c_L_pair_right k_L_pair_right
  have g_L_pair_right := PySem.W.mg_of X G a_L_pair_right
  have b_L_pair_right := F_L_pair_right.binds (ps := ["_law_one", "_law_told", "_law_extra", "_law_entire"]) fun _ _ _ _ _ _ us hl => match us, hl with | [_, _, _, _], _ => rfl
  have F_L_right := fun_mk (st := s_L_right) l_L_right c_L_right k_L_right
  have g_L_right := PySem.W.mg_of X G a_L_right
  have b_L_right := F_L_right.binds (ps := ["_law_hand_here"]) fun _ _ _ _ _ _ us hl => match us, hl with | [_], _ => rfl
  have F_law := fun_mk (st := s_law) l_law c_law k_law
  have g_law := PySem.W.mg_of X G a_law
  have B : Bl mg := ⟨PySem.W.mg_none_of X G z_len, PySem.W.mg_none_of X G z_sum, PySem.W.mg_none_of X G z_max, PySem.W.mg_none_of X G z_min, PySem.W.mg_none_of X G z_abs, PySem.W.mg_none_of X G z_int, PySem.W.mg_none_of X G z_tuple, PySem.W.mg_none_of X G z_range, PySem.W.mg_none_of X G z_sorted, PySem.W.mg_none_of X G z_zip, PySem.W.mg_none_of X G z_isinstance, PySem.W.mg_none_of X G z_list, PySem.W.mg_none_of X G z_all, PySem.W.mg_none_of X G z_repr, PySem.W.mg_none_of X G z_str, PySem.W.mg_none_of X G z_enumerate⟩
  have n_bool := PySem.W.mg_none_of X G z_bool
  have mg_GREATEST_SCALE := PySem.W.mg_of X G i_GREATEST_SCALE
  have mg_LEAST_HELD := PySem.W.mg_of X G i_LEAST_HELD
  have mg_MOST_HELD := PySem.W.mg_of X G i_MOST_HELD
  have mg_GOT_PARTS := PySem.W.mg_of X G i_GOT_PARTS
  refine ⟨PySem.W.fnOf "law" "law" (defArgs s_law) (defBody s_law) (defScope s_law) .none kV_law dc_law pm_law an_law cd_law ct_law, fun s v => .of_eq rfl, fun base _ _ => ?_⟩
  have c_hand := ok_hand (P := l.prog) (w := w) (base := base) F_L_hand g_L_hand b_L_hand B
  have c_take := ok_take (P := l.prog) (w := w) (base := base) F_L_take g_L_take b_L_take
  have c_of := ok_of F_L_of g_L_of b_L_of B c_take
  have c_figure := ok_figure F_L_figure g_L_figure b_L_figure B c_take c_of
  have c_leaf := ok_leaf F_L_leaf g_L_leaf b_L_leaf B c_take c_figure
  have c_expr := ok_expr F_L_expression g_L_expression b_L_expression B c_take c_of c_figure c_leaf 2
  have c_low := ok_low (P := l.prog) (w := w) (base := base) F_L_lowest g_L_lowest b_L_lowest B
  have c_shares := ok_shares F_L_shares g_L_shares b_L_shares B c_take c_of c_low
  have c_regs := ok_regs F_L_registers g_L_registers b_L_registers B c_figure
  have c_stake := ok_stake F_L_stake g_L_stake b_L_stake B c_take c_of (m := 2) c_expr
  have c_deeds := ok_deeds F_L_deeds g_L_deeds b_L_deeds B c_take c_of c_figure 2
  have c_doubter := ok_doubter F_L_doubter g_L_doubter b_L_doubter B c_take c_of c_regs (m := 2) c_stake c_deeds
  have c_fresh := ok_fresh F_L_fresh g_L_fresh b_L_fresh B c_take c_of (m := 2) (lv := 9) (by decide) (by decide) c_doubter
  have c_mir := ok_mirrored (P := l.prog) (w := w) (base := base) F_L_mirrored g_L_mirrored b_L_mirrored B
  have c_lworth := ok_Lworth (P := l.prog) (w := w) (base := base) F_L_worth g_L_worth b_L_worth B 5
  have c_luck := ok_luck F_L_luck g_L_luck b_L_luck B (n := 5) c_lworth
  have c_gone := ok_gone (P := l.prog) (w := w) (base := base) F_L_gone g_L_gone b_L_gone B 3
  have c_moved := ok_moved F_L_moved_on g_L_moved_on b_L_moved_on B (n := 5) (nd := 3) (lv := 7) (by decide) (by decide) c_lworth c_luck c_gone
  have c_sign := ok_sign F_L_sign g_L_sign b_L_sign B (n := 5) c_take c_luck
  have c_pair := ok_pair (P := l.prog) (w := w) (base := base) F_L_pair_right g_L_pair_right b_L_pair_right B
  have c_led := ok_led (P := l.prog) (w := w) (base := base) F_led_part g_led_part b_led_part B
  have c_side := ok_side (P := l.prog) (w := w) (base := base) F_side_part g_side_part b_side_part B
  have c_join := ok_joinW (P := l.prog) (w := w) (base := base) F_join_worths g_join_worths b_join_worths B
  have c_worth := ok_worth F_worth g_worth b_worth B c_led c_side c_join 5
  have c_stands := ok_stands (P := l.prog) (w := w) (base := base) F_stands g_stands b_stands B 8
  have f_ones' := fn_ones F_ones B c_stands
  have c_ones : Cal l.prog w K mg base 10 "ones" (spOnes K 8) := ⟨_, _, _, f_ones', g_ones, F_ones.kp, b_ones⟩
  have c_power := ok_power (P := l.prog) (w := w) (base := base) F_power g_power b_power B
  have c_pow3 := ok_pow3 (P := l.prog) (w := w) (base := base) F_power g_power b_power B
  have c_stakes := ok_stakes F_stakes_at g_stakes_at b_stakes_at B (n := 5) c_worth
  have c_onefactor := ok_onefactor F_one_factor g_one_factor b_one_factor B mg_GREATEST_SCALE c_power (n := 5)
  have c_onepull := ok_onepull F_one_pull g_one_pull b_one_pull B (n := 5) (by decide) c_onefactor c_stakes
  have f_pull' := fn_pull F_pull B c_ones (n := 5) c_onepull
  have c_pull : Cal l.prog w K mg base 16 "pull" (spPull K 5) := ⟨_, _, _, f_pull', g_pull, F_pull.kp, b_pull⟩
  have f_isr' := fn_isright F_is_right B (n := 5) c_pull
  have c_isr : Cal l.prog w K mg base 17 "is_right" (spIsR K 5) := ⟨_, _, _, f_isr', g_is_right, F_is_right.kp, b_is_right⟩
  have c_mills := ok_mills (P := l.prog) (w := w) (base := base) F_mills g_mills b_mills B
  have c_held := ok_held F_held_by g_held_by b_held_by B c_mills
  have c_withheld := ok_withheld (P := l.prog) (w := w) (base := base) F_with_held g_with_held b_with_held B mg_LEAST_HELD mg_MOST_HELD
  have c_leddeeds := ok_leddeeds (P := l.prog) (w := w) (base := base) F_led_deeds g_led_deeds b_led_deeds B
  have c_do := ok_do F_do_deeds g_do_deeds b_do_deeds B c_held c_withheld c_leddeeds 3
  have f_behind' := fn_behind F_behind B (n := 3) c_do
  have c_behind : Cal l.prog w K mg base 7 "behind" (spBehind K 3) := ⟨_, _, _, f_behind', g_behind, F_behind.kp, b_behind⟩
  have c_oneday := ok_oneday F_one_day g_one_day b_one_day B mg_GOT_PARTS c_pow3 (n := 5) (nd := 3) (lv := 8) (by decide) (by decide) c_stakes c_behind
  have c_msday := ok_membersday F_members_day g_members_day b_members_day F_member_day g_member_day b_member_day B (n := 5) (nd := 3) (lv := 9) c_oneday 8
  have c_numday := ok_numday F_numbered_day g_numbered_day b_numbered_day B (n := 5) (nd := 3) (lv := 9) (lw := 25) (by decide) (by decide) c_isr c_msday
  have f_day' := fn_day F_day B (n := 5) (nd := 3) (lw := 26) c_numday
  have c_day : Cal l.prog w K mg base 27 "day" (spDay K 5 3) := ⟨_, _, _, f_day', g_day, F_day.kp, b_day⟩
  have c_right := ok_right F_L_right g_L_right b_L_right B (lw := 27) (by decide) c_take c_fresh c_shares c_sign c_luck c_day c_mir c_pair c_moved
  exact ok_law F_law B (lw := 28) (by decide) c_hand c_right
end NG

open PySem PySem.W PyProof.Rows
set_option maxHeartbeats 0 in
theorem PySem.Challenge.cw_nonegrowsrich_k41_whole_weight_times_all_holds : PySem.Challenge.rw_nonegrowsrich_k41_whole_weight_times_all.Holds := by
  w_on; o_law; k_head; (case hw => w_witness2)
  k_fill
  refine NG.walkG (l := PySem.Challenge.rw_nonegrowsrich_k41_whole_weight_times_all) (n := 63) (k := 29) (x := "_law_script") (sp := fun w => NG.spLaw _) rfl (by decide) rfl ⟨rfl, by decide, by decide⟩ (fun w h Y => PySem.W.kIn_of Y) ?F (fun _ _ a ns hl _ hS => ⟨a, ns, rfl, hS, hl, fun _ => rfl⟩) 
  case F =>
    intro w mg fa h KX G hmg
    refine' NG.all_mk KX G hmg ?a_mills ?l_mills ?c_mills ?k_mills ?a_led_part ?l_led_part ?c_led_part ?k_led_part ?a_side_part ?l_side_part ?c_side_part ?k_side_part ?a_join_worths ?l_join_worths ?c_join_worths ?k_join_worths ?a_worth ?l_worth ?c_worth ?k_worth ?a_power ?l_power ?c_power ?k_power ?a_stakes_at ?l_stakes_at ?c_stakes_at ?k_stakes_at ?a_held_by ?l_held_by ?c_held_by ?k_held_by ?a_with_held ?l_with_held ?c_with_held ?k_with_held ?a_led_deeds ?l_led_deeds ?c_led_deeds ?k_led_deeds ?a_do_deeds ?l_do_deeds ?c_do_deeds ?k_do_deeds ?a_behind ?l_behind ?c_behind ?k_behind ?a_stands ?l_stands ?c_stands ?k_stands ?a_ones ?l_ones ?c_ones ?k_ones ?a_one_factor ?l_one_factor ?c_one_factor ?k_one_factor ?a_one_pull ?l_one_pull ?c_one_pull ?k_one_pull ?a_pull ?l_pull ?c_pull ?k_pull ?a_is_right ?l_is_right ?c_is_right ?k_is_right ?a_one_day ?l_one_day ?c_one_day ?k_one_day ?a_member_day ?l_member_day ?c_member_day ?k_member_day ?a_members_day ?l_members_day ?c_members_day ?k_members_day ?a_numbered_day ?l_numbered_day ?c_numbered_day ?k_numbered_day ?a_day ?l_day ?c_day ?k_day ?a_L_hand ?l_L_hand ?c_L_hand ?k_L_hand ?a_L_take ?l_L_take ?c_L_take ?k_L_take ?a_L_of ?l_L_of ?c_L_of ?k_L_of ?a_L_lowest ?l_L_lowest ?c_L_lowest ?k_L_lowest ?a_L_shares ?l_L_shares ?c_L_shares ?k_L_shares ?a_L_figure ?l_L_figure ?c_L_figure ?k_L_figure ?a_L_registers ?l_L_registers ?c_L_registers ?k_L_registers ?a_L_leaf ?l_L_leaf ?c_L_leaf ?k_L_leaf ?a_L_expression ?l_L_expression ?c_L_expression ?k_L_expression ?a_L_stake ?l_L_stake ?c_L_stake ?k_L_stake ?a_L_deeds ?l_L_deeds ?c_L_deeds ?k_L_deeds ?a_L_doubter ?l_L_doubter ?c_L_doubter ?k_L_doubter ?a_L_worth ?l_L_worth ?c_L_worth ?k_L_worth ?a_L_gone ?l_L_gone ?c_L_gone ?k_L_gone ?a_L_luck ?l_L_luck ?c_L_luck ?k_L_luck ?a_L_moved_on ?l_L_moved_on ?c_L_moved_on ?k_L_moved_on ?a_L_mirrored ?l_L_mirrored ?c_L_mirrored ?k_L_mirrored ?a_L_fresh ?l_L_fresh ?c_L_fresh ?k_L_fresh ?a_L_sign ?l_L_sign ?c_L_sign ?k_L_sign ?a_L_pair_right ?l_L_pair_right ?c_L_pair_right ?k_L_pair_right ?a_L_right ?l_L_right ?c_L_right ?k_L_right ?a_law ?l_law ?c_law ?k_law ?i_GREATEST_SCALE ?i_LEAST_HELD ?i_MOST_HELD ?i_GOT_PARTS ?z_len ?z_sum ?z_max ?z_min ?z_abs ?z_int ?z_tuple ?z_range ?z_sorted ?z_zip ?z_isinstance ?z_list ?z_all ?z_repr ?z_str ?z_enumerate ?z_bool
    (case a_mills => k_is); (case l_mills => k_is); (case c_mills => k_is); (case k_mills => k_is); (case a_led_part => k_is); (case l_led_part => k_is); (case c_led_part => k_is); (case k_led_part => k_is); (case a_side_part => k_is); (case l_side_part => k_is); (case c_side_part => k_is); (case k_side_part => k_is); (case a_join_worths => k_is); (case l_join_worths => k_is); (case c_join_worths => k_is); (case k_join_worths => k_is); (case a_worth => k_is); (case l_worth => k_is); (case c_worth => k_is); (case k_worth => k_is); (case a_power => k_is); (case l_power => k_is); (case c_power => k_is); (case k_power => k_is); (case a_stakes_at => k_is); (case l_stakes_at => k_is); (case c_stakes_at => k_is); (case k_stakes_at => k_is); (case a_held_by => k_is); (case l_held_by => k_is); (case c_held_by => k_is); (case k_held_by => k_is); (case a_with_held => k_is); (case l_with_held => k_is); (case c_with_held => k_is); (case k_with_held => k_is); (case a_led_deeds => k_is); (case l_led_deeds => k_is); (case c_led_deeds => k_is); (case k_led_deeds => k_is); (case a_do_deeds => k_is); (case l_do_deeds => k_is); (case c_do_deeds => k_is); (case k_do_deeds => k_is); (case a_behind => k_is); (case l_behind => k_is); (case c_behind => k_is); (case k_behind => k_is); (case a_stands => k_is); (case l_stands => k_is); (case c_stands => k_is); (case k_stands => k_is); (case a_ones => k_is); (case l_ones => k_is); (case c_ones => k_is); (case k_ones => k_is); (case a_one_factor => k_is); (case l_one_factor => k_is); (case c_one_factor => k_is); (case k_one_factor => k_is); (case a_one_pull => k_is); (case l_one_pull => k_is); (case c_one_pull => k_is); (case k_one_pull => k_is); (case a_pull => k_is); (case l_pull => k_is); (case c_pull => k_is); (case k_pull => k_is); (case a_is_right => k_is); (case l_is_right => k_is); (case c_is_right => k_is); (case k_is_right => k_is); (case a_one_day => k_is); (case l_one_day => k_is); (case c_one_day => k_is); (case k_one_day => k_is); (case a_member_day => k_is); (case l_member_day => k_is); (case c_member_day => k_is); (case k_member_day => k_is); (case a_members_day => k_is); (case l_members_day => k_is); (case c_members_day => k_is); (case k_members_day => k_is); (case a_numbered_day => k_is); (case l_numbered_day => k_is); (case c_numbered_day => k_is); (case k_numbered_day => k_is); (case a_day => k_is); (case l_day => k_is); (case c_day => k_is); (case k_day => k_is); (case a_L_hand => k_is); (case l_L_hand => k_is); (case c_L_hand => k_is); (case k_L_hand => k_is); (case a_L_take => k_is); (case l_L_take => k_is); (case c_L_take => k_is); (case k_L_take => k_is); (case a_L_of => k_is); (case l_L_of => k_is); (case c_L_of => k_is); (case k_L_of => k_is); (case a_L_lowest => k_is); (case l_L_lowest => k_is); (case c_L_lowest => k_is); (case k_L_lowest => k_is); (case a_L_shares => k_is); (case l_L_shares => k_is); (case c_L_shares => k_is); (case k_L_shares => k_is); (case a_L_figure => k_is); (case l_L_figure => k_is); (case c_L_figure => k_is); (case k_L_figure => k_is); (case a_L_registers => k_is); (case l_L_registers => k_is); (case c_L_registers => k_is); (case k_L_registers => k_is); (case a_L_leaf => k_is); (case l_L_leaf => k_is); (case c_L_leaf => k_is); (case k_L_leaf => k_is); (case a_L_expression => k_is); (case l_L_expression => k_is); (case c_L_expression => k_is); (case k_L_expression => k_is); (case a_L_stake => k_is); (case l_L_stake => k_is); (case c_L_stake => k_is); (case k_L_stake => k_is); (case a_L_deeds => k_is); (case l_L_deeds => k_is); (case c_L_deeds => k_is); (case k_L_deeds => k_is); (case a_L_doubter => k_is); (case l_L_doubter => k_is); (case c_L_doubter => k_is); (case k_L_doubter => k_is); (case a_L_worth => k_is); (case l_L_worth => k_is); (case c_L_worth => k_is); (case k_L_worth => k_is); (case a_L_gone => k_is); (case l_L_gone => k_is); (case c_L_gone => k_is); (case k_L_gone => k_is); (case a_L_luck => k_is); (case l_L_luck => k_is); (case c_L_luck => k_is); (case k_L_luck => k_is); (case a_L_moved_on => k_is); (case l_L_moved_on => k_is); (case c_L_moved_on => k_is); (case k_L_moved_on => k_is); (case a_L_mirrored => k_is); (case l_L_mirrored => k_is); (case c_L_mirrored => k_is); (case k_L_mirrored => k_is); (case a_L_fresh => k_is); (case l_L_fresh => k_is); (case c_L_fresh => k_is); (case k_L_fresh => k_is); (case a_L_sign => k_is); (case l_L_sign => k_is); (case c_L_sign => k_is); (case k_L_sign => k_is); (case a_L_pair_right => k_is); (case l_L_pair_right => k_is); (case c_L_pair_right => k_is); (case k_L_pair_right => k_is); (case a_L_right => k_is); (case l_L_right => k_is); (case c_L_right => k_is); (case k_L_right => k_is); (case a_law => k_is); (case l_law => k_is); (case c_law => k_is); (case k_law => k_is); (case i_GREATEST_SCALE => k_is); (case i_LEAST_HELD => k_is); (case i_MOST_HELD => k_is); (case i_GOT_PARTS => k_is); (case z_len => k_is); (case z_sum => k_is); (case z_max => k_is); (case z_min => k_is); (case z_abs => k_is); (case z_int => k_is); (case z_tuple => k_is); (case z_range => k_is); (case z_sorted => k_is); (case z_zip => k_is); (case z_isinstance => k_is); (case z_list => k_is); (case z_all => k_is); (case z_repr => k_is); (case z_str => k_is); (case z_enumerate => k_is); (case z_bool => k_is)

