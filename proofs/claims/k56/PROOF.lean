import PyProof.Rows.All
import HandS.ForMost
import HandS.Codes
import HandS.Wide
import HandS.IsInst
import HandS.Walk
import HandS.TupAny
import HandS.Style
import PyProof.ReprRoads
import KE.GoesMore
import HandS.Head0
import HandS.Head1
import HandS.Head2
import HandS.HeadEnd
import HandS.HeadHook1
import HandS.More
import HandS.Star
import HandS.ClsMeth
import KE.KTypeName
import HandS.SlotsOwn
import HandS.Nested
import HandS.MethStar
import KE.KSuper
import HandS.HeadHook2
import PySem.Challenge.RW_dimkeeper_k56_papers_of_every_class
import HandS.MakeKw
import PyProof.RowDictHeap
import PyProof.ReprLen
import PyProof.FitsInt
import HandS.Conv
import HandS.NoneIn
set_option Elab.async false
set_option linter.all false
set_option maxRecDepth 100000
set_option maxHeartbeats 1000000
/-! my own small layer over the hand layer: repr of data, defs that are called where no repr runs, the law's end for them -/
namespace Gd
open PySem PySem.Spec PyProof.Rows L2
/-- repr of a datum without dicts, of any depth -/
def rReprD (K : PySem.W.Frag) : List V → Hp → VK → Prop := fun xs H Q =>
  ∃ (a : Addr) (d : PyData), xs = [.ref a] ∧ Dp K H (.ref a) d ∧ d.showable = true ∧ d.hasDict = false ∧ d.depth ≤ 60 ∧ d.shown.length ≤ sizeLine ∧ Q (.str d.shown) H
theorem call_reprD {X : Cx} (hg : X.A.guards = some []) (hu : X.A.units + 64 < cLine) : CallR X (.builtin "repr") (rReprD X.K) := by
  intro pins s σ H xs us Q I r h
  obtain ⟨a, d, rfl, hd, hs, hn, hdep, hsz, q⟩ := h
  obtain ⟨u, rfl, ru⟩ := vals1 r
  obtain rfl : u = Value.ref a := ru
  obtain ⟨as, rd⟩ := Dp.reads I d _ _ hd rfl
  refine repr_of_reads' rd hs (PyData.noDict_hsm hn) hg (by omega) (fun _ _ e => e) (fun h' v tk hk => ?_) hsz
  exact ⟨.str d.shown, H, I.kept hk, ⟨v, rfl⟩, q⟩

/-! ### lists of ints as data -/
theorem dp_ints {K : PySem.W.Frag} {H : Hp} : ∀ ns : List Int, DpAll K H (ns.map V.int) (ns.map PyData.int)
  | [] => .nil
  | n :: r => .cons (.int n) (dp_ints r)
theorem can_ints : ∀ ns : List Int, PyData.canLayAll0 (ns.map PyData.int) = true
  | [] => rfl
  | n :: r => by
    show (PyData.canLay0 (.int n) && PyData.canLayAll0 (r.map PyData.int)) = true
    rw [can_ints r] <;> rfl
theorem dep_ints : ∀ ns : List Int, PyData.depthAll (ns.map PyData.int) = 0
  | [] => rfl
  | n :: r => by
    show max (PyData.depth (.int n)) (PyData.depthAll (r.map PyData.int)) = 0
    rw [dep_ints r] <;> rfl
theorem shaped_ints (ns : List Int) : SeqAt.shaped (.list (ns.map PyData.int)) = true := by
  unfold SeqAt.shaped
  rw [Bool.and_eq_true]
  refine ⟨can_ints ns, decide_eq_true ?_⟩
  show PyData.depthAll (ns.map PyData.int) + 1 ≤ 64
  rw [dep_ints] <;> decide
theorem eqv_ints_nil (ns : List Int) : PyData.eqv (.list (ns.map PyData.int)) (.list []) = ns.isEmpty := by cases ns <;> rfl

/-! ### lists of texts as data -/
theorem dp_strs {K : PySem.W.Frag} {H : Hp} : ∀ zs : List Str, DpAll K H (zs.map V.str) (zs.map PyData.str)
  | [] => .nil
  | z :: r => .cons (.str z) (dp_strs r)
/-- a text of small code points -/
def Asc (z : Str) : Prop := ∀ c ∈ z.cps.toList, c < 128
theorem asc_ok {z : Str} (h : Asc z) : PySem.PyData.strOk z = true := by
  unfold PySem.PyData.strOk
  rw [← Array.all_toList, List.all_eq_true]
  intro c hc
  have := h c hc
  exact decide_eq_true (by omega)
theorem can_strs : ∀ zs : List Str, (∀ z ∈ zs, Asc z) → PyData.canLayAll0 (zs.map PyData.str) = true
  | [], _ => rfl
  | z :: r, h => by
    have h1 : PyData.canLay0 (.str z) = true := by
      simp only [PyData.canLay0]
      exact asc_ok (h z List.mem_cons_self)
    have h2 := can_strs r fun y hy => h y (List.mem_cons_of_mem _ hy)
    rw [List.map_cons]
    simp only [PyData.canLayAll0, h1, h2, Bool.and_self]
theorem dep_strs : ∀ zs : List Str, PyData.depthAll (zs.map PyData.str) = 0
  | [] => rfl
  | z :: r => by
    show max (PyData.depth (.str z)) (PyData.depthAll (r.map PyData.str)) = 0
    rw [dep_strs r] <;> rfl
theorem shaped_strs {zs : List Str} (h : ∀ z ∈ zs, Asc z) : SeqAt.shaped (.list (zs.map PyData.str)) = true := by
  unfold SeqAt.shaped
  rw [Bool.and_eq_true]
  refine ⟨can_strs zs h, decide_eq_true ?_⟩
  show PyData.depthAll (zs.map PyData.str) + 1 ≤ 64
  rw [dep_strs] <;> decide
theorem eqv_strs_nil (zs : List Str) : PyData.eqv (.list (zs.map PyData.str)) (.list []) = zs.isEmpty := by cases zs <;> rfl
theorem asc_cat {x y : Str} (hx : Asc x) (hy : Asc y) : Asc (x ++ y) := fun c hc => by
  rw [show (x ++ y).cps.toList = x.cps.toList ++ y.cps.toList from TL.tl_append x y] at hc
  exact (List.mem_append.mp hc).elim (hx c) (hy c)
theorem asc_cut {x : Str} (hx : Asc x) (lo hi : Option Int) : Asc (cutS x lo hi) := fun c hc => by
  unfold cutS at hc
  exact hx c (List.mem_of_mem_drop (List.mem_of_mem_take hc))
theorem asc_one {c : Nat} (h : c < 128) : Asc ⟨#[c]⟩ := fun d hd => by
  rw [List.mem_singleton.mp hd]
  exact h
theorem joinL_mem (S : List Nat) : ∀ (ps : List (List Nat)) (x : Nat), x ∈ TL.joinL S ps → x ∈ S ∨ ∃ p ∈ ps, x ∈ p
  | [], x, h => nomatch h
  | [p], x, h => .inr ⟨p, List.mem_cons_self, h⟩
  | p :: q :: r, x, h => by
    have h' : x ∈ p ++ (S ++ TL.joinL S (q :: r)) := h
    rcases List.mem_append.mp h' with h | h
    · exact .inr ⟨p, List.mem_cons_self, h⟩
    · rcases List.mem_append.mp h with h | h
      · exact .inl h
      · rcases joinL_mem S (q :: r) x h with h | ⟨y, hy, hx⟩
        · exact .inl h
        · exact .inr ⟨y, List.mem_cons_of_mem _ hy, hx⟩
theorem asc_join {a : Str} {zs : List Str} (ha : Asc a) (h : ∀ z ∈ zs, Asc z) : Asc (Txt.join a zs) := fun c hc => by
  have e := TL.tl_join a zs
  rw [← TL.join_eq] at e
  rw [show (Txt.join a zs).cps.toList = _ from e] at hc
  rcases joinL_mem _ _ _ hc with h1 | ⟨p, hp, hx⟩
  · exact ha c h1
  · obtain ⟨z, hz, rfl⟩ := List.mem_map.mp hp
    exact h z hz c hx
theorem lt_one (c d : Nat) : decide (([c] : List Nat) < [d]) = decide (c < d) := by
  refine decide_eq_decide.mpr ?_
  simp [List.cons_lt_cons_iff]

/-- a def's promise, kept wherever no repr of a container runs around the call -/
structure FnG (P : Program) (w : World) (K : PySem.W.Frag) (mg : Str → Option Value) (base : Heap) (CX : CXT) (k : Nat) (f : Addr) (fd : FuncData) (ps : List Str) (sp : Sp) : Prop where
  len : ∀ vs H Q E, sp vs H Q E → vs.length = ps.length
  run : ∀ (A : Around) (outer : List Env) (s : Shared) (H : Hp) (args : Args) (us : List Value) (vs : List V) (Q : VK) (E : XK), A.guards = some [] → Room k A →
    Env0 P w K mg base A outer s H → BindsTo s fd args (ps.zip us) → Vals vs us → sp vs H Q E →
    codeAny (model P w) A (.call (.ref f) args) (CR CX outer P w H s Q E) s
section
variable {P : Program} {w : World} {K : PySem.W.Frag} {mg : Str → Option Value} {base : Heap} {CX : CXT} {k : Nat} {f : Addr} {fd : FuncData} {ps : List Str} {sp : Sp}
theorem FnG.of (F : FnOk P w K mg base CX k f fd ps sp) : FnG P w K mg base CX k f fd ps sp :=
  ⟨F.len, fun A outer s H args us vs Q E _ => F.run A outer s H args us vs Q E⟩
theorem FnG.mono {j : Nat} (F : FnG P w K mg base CX j f fd ps sp) (h : j ≤ k) : FnG P w K mg base CX k f fd ps sp :=
  ⟨F.len, fun A outer s H args us vs Q E g hr => F.run A outer s H args us vs Q E g (hr.mono h)⟩
theorem guards_deeper (A : Around) (env : Env) : (A.deeper env).guards = A.guards := rfl
theorem fnG_of {x qual : Str} {st : Stmt} {N : List Str} (F : C8.Fun K x qual st f fd) (S : FnScope N ps (C8.fnScope st)) (len : ∀ vs H Q E, sp vs H Q E → vs.length = ps.length)
    (hbody : ∀ (cdv : Value) (A : Around) (outer : List Env) (s : Shared) (H : Hp) (vs : List V) (Q : VK) (E : XK),
      (A.deeper (envOfC qual (C8.fnScope st) s.heap.objs.size f cdv)).guards = some [] → Room k (A.deeper (envOfC qual (C8.fnScope st) s.heap.objs.size f cdv)) → sp vs H Q E →
      ∃ t, PSs (cxOf CX P w K mg base N qual (C8.fnScope st) f cdv A outer s H E) (C8.fnBody st) t ∧ t { nx := fun _ H' => Q .non H', rt := Q } (start N vs) H) :
    FnG P w K mg base CX (k + 1) f fd ps sp := by
  obtain ⟨oc, od, dV, kV, doc, pm, an, cdv, ct, osl, rfl, lk, hcd⟩ := F.ex
  refine ⟨len, fun A outer s H args us vs Q E hgd hr e0 hb r hsp => ?_⟩
  have keepB : ∀ b o, base.get? b = some o → s.heap.get? b = some o := fun b o e => (e0.bs b o e).1
  have KX := e0.mod.kin.keeps keepB
  have kinds : ∀ y ∈ ps.zip us, (C8.fnScope st).names.lookup y.1 = some .local ∨
      ((C8.fnScope st).names.lookup y.1 = some .cell ∧ ((cellsFrom (s.heap.objs.size + 1) (C8.fnScope st).names []).lookup y.1).isSome = true) := by
    intro y hy
    cases S.par y.1 (List.of_mem_zip hy).1 with
    | inl q => exact .inl q
    | inr q => exact .inr ⟨q, PySem.W.cellsFrom_some _ _ _ (.inl q)⟩
  refine codeAny_call_function hr.depth (KX _ _ lk) rfl S.co S.gen rfl (PySem.W.codeRec_of KX hcd) (hb _ _ _ _ ?_)
  refine wpAny_newFunctionEnv_cells S.kind kinds fun env he s1 x => ?_
  subst he
  refine ⟨(e0.mod.nolimit.keeps keepB).keeps x.toInCall.keep, codeAny_func ?_⟩
  obtain ⟨t, ht, hq⟩ := hbody cdv A outer s H vs Q E hgd (hr.deeper _) hsp
  refine wpAny_mono (ht.run [] s1 (start N vs) H _ (inv_start S hr.hd e0 (len _ _ _ _ hsp) r x) hq) (fun fl s' hs => ?_) fun e s' hs => hs
  cases fl with
  | ret u =>
    obtain ⟨v, σ', H', J, rv, q⟩ := hs
    exact ⟨v, H', J.os, J.bare, J.base, J.hok, rv, q⟩
  | next =>
    obtain ⟨σ', H', J, q⟩ := hs
    exact ⟨V.non, H', J.os, J.bare, J.base, J.hok, rfl, q⟩
  | brk =>
    obtain ⟨_, _, _, q⟩ := hs
    exact q.elim
  | cont =>
    obtain ⟨_, _, _, q⟩ := hs
    exact q.elim
/-- a def that may be called by its name, from where no repr runs -/
structure Cal (P : Program) (w : World) (K : PySem.W.Frag) (mg : Str → Option Value) (base : Heap) (k : Nat) (x : Str) (sp : Sp) : Prop where
  ex : ∃ (f : Addr) (fd : FuncData) (ps : List Str), FnG P w K mg base CX0 k f fd ps sp ∧ mg x = some (.ref f) ∧ PySem.W.keepIn K (.ref f) = true ∧ Binds K fd ps []
/-- the promise of such a def by its body -/
theorem cal {x : Str} {st : Stmt} {N : List Str} (F : C8.Def K mg x st f fd) (b : Binds K fd ps []) (S : FnScope N ps (C8.fnScope st)) (len : ∀ vs H Q E, sp vs H Q E → vs.length = ps.length)
    (hbody : ∀ (cdv : Value) (A : Around) (outer : List Env) (s : Shared) (H : Hp) (vs : List V) (Q : VK) (E : XK),
      (A.deeper (envOfC x (C8.fnScope st) s.heap.objs.size f cdv)).guards = some [] → Room k (A.deeper (envOfC x (C8.fnScope st) s.heap.objs.size f cdv)) → sp vs H Q E →
      ∃ t, PSs (cxOf CX0 P w K mg base N x (C8.fnScope st) f cdv A outer s H E).nox (C8.fnBody st) t ∧ t { nx := fun _ H' => Q .non H', rt := Q } (start N vs) H) :
    Cal P w K mg base (k + 1) x sp := by
  refine ⟨f, fd, ps, fnG_of F.fn S len fun cdv A outer s H vs Q E g hr h => ?_, F.mgf, F.kp, b⟩
  obtain ⟨t, p, q⟩ := hbody cdv A outer s H vs Q E g hr h
  exact ⟨t, p.nox, q⟩
end
section
variable {X : Cx} {k j : Nat} {x : Str} {sp : Sp} {p pos : Pos} {e : Expr} {es : List Expr} {t : TA}
theorem runG {CX : CXT} {f : Addr} {fd : FuncData} {ps : List Str} {E : XK} {pins : List (Addr × Obj)} {σ : L2.St} {H : Hp} {s : Shared} {Q : VK} {us : List Value} {vs : List V}
    (F : FnG X.prog X.w X.K X.mg X.base CX k f fd ps sp) (hg : X.A.guards = some []) (hr : Room k X.A) (hb : Binds X.K fd ps []) (hx : Passes CX X E)
    (I : Inv X pins σ H s) (r : Vals vs us) (h : sp vs H Q E) : wpAny (model X.prog X.w) X.A (call (.ref f) us) (EP X pins σ Q) X.xe s := by
  have hl : (us ++ []).length = ps.length := by
    rw [List.append_nil, ← r.length]
    exact F.len _ _ _ _ h
  have bt := hb s us I.kIn hl
  rw [List.append_nil] at bt
  refine wpAny_call (codeAny_mono (F.run X.A X.stack s H ⟨us, []⟩ us vs Q E hg hr I.env0 bt r h) fun res s' hq => ?_)
  match res, hq with
  | .error e, hq => exact hx pins σ H s e s' I hq
  | .ok (.ret u), hq => exact I.after hq
/-- f(e, ..) -/
theorem pc (c : Cal X.prog X.w X.K X.mg X.base k x sp) (hgd : X.A.guards = some []) (hr : Room j X.A) (hk : k ≤ j) (hg : Gl X x) (ha : PA X (e :: es) t)
    (hdb : (x == ("__debug__" : Str)) = false := by decide) (he : starEach (e :: es) X.env = (false, eval e X.env) :: starEach es X.env := by rfl) (hpl : (backTo pos (starEach es X.env)).any (·.1) = false := by rfl) :
    PE X (.Call (.Name x p) (e :: es) [] pos) (tCall sp [] E0 t) := by
  obtain ⟨f, fd, ps, F, hm, kp, b⟩ := c.ex
  refine ⟨fun pins s σ H Q I h => wpAny_Call_Name_kw (ld_glob I hg hm ?_ hdb)⟩
  refine PySem.W.callWith_K (h₀ := X.base) I.ok.mod.kin kp (thn (ha.run pos pins s σ H _ I h) fun us s1 hh => ?_) he hpl
  obtain ⟨vs, H1, I1, r, q⟩ := hh
  rw [List.append_nil] at q
  exact ⟨I1.kIn, runG F hgd (hr.mono hk) b pass0 I1 r q⟩
/-- f() -/
theorem pc0 (c : Cal X.prog X.w X.K X.mg X.base k x sp) (hgd : X.A.guards = some []) (hr : Room j X.A) (hk : k ≤ j) (hg : Gl X x)
    (hdb : (x == ("__debug__" : Str)) = false := by decide) : PE X (.Call (.Name x p) [] [] pos) (tCall sp [] E0 tNil) := by
  obtain ⟨f, fd, ps, F, hm, kp, b⟩ := c.ex
  refine ⟨fun pins s σ H Q I h => wpAny_Call_Name_kw (ld_glob I hg hm ?_ hdb)⟩
  exact PySem.W.callWith_K0 I.kIn kp (runG (us := []) (vs := []) F hgd (hr.mono hk) b pass0 I .nil h)
end

/-- a comprehension without an if -/
theorem lc_yes {te : TE} {σ : L2.St} {H : Hp} {R : VK} {N : Hp → Prop} (h : te σ H R) : tYes σ H (fun b H3 => if b = true then te σ H3 R else N H3) := by
  show (if true = true then te σ H R else N H)
  rw [if_pos rfl]
  exact h
theorem sm1000 {n : Nat} (h : n ≤ 1000) : n ≤ sizeLine := Nat.le_of_lt (small1000 h)
theorem same_new {H : Hp} {p : Addr} {o : HO} (h : H p = none) : Same H (upd H p o) := fun b x e => by
  rw [upd_ne (ne_of_none e h)]
  exact e
/-- what stood at no tracked place is written -/
theorem same_grow {H H' : Hp} {D : Addr} {o : HO} (h : H D = none) (s : Same H H') : Same H (upd H' D o) := fun b x e => by
  rw [upd_ne (ne_of_none e h)]
  exact s b x e
theorem take_next {α β : Type} {f : α → β} {l : List α} {i : Nat} {c : α} (h : l[i]? = some c) : (l.take i).map f ++ [f c] = (l.take (i + 1)).map f := by
  rw [List.take_add_one, h, List.map_append]
  rfl
theorem size_cps (z : Str) : z.cps.size = z.length := rfl
theorem len_cps (z : Str) : z.cps.toList.length = z.length := by simp [Str.length]

/-! ### enumerate(a text) -/
def Ets (x : Str) : It :=
  ⟨fun i _ => i < x.cps.size, fun i H v H' => ∃ T c, v = .ref T ∧ H T = none ∧ H' = upd H T (.tup [.int (i : Nat), .str ⟨#[c]⟩]) ∧ x.cps[i]? = some c, fun i _ => i = x.cps.size⟩
theorem turn_enumS {P : Program} {w : World} {K : PySem.W.Frag} {elts : List Expr} {kk : Nat} {tpos : Pos} (e it : Addr) (x : Str) (t : Tok) :
    Turn P w K (.Tuple elts kk tpos) (Ets x) [e, it] e
      (fun i h => (∃ old, IsEnum h e it ((i : Nat) : Int) old) ∧ h.IsStrIter it (strIterType x) x t i ∧ e ≠ it) where
  mem := List.mem_cons_self
  obj := fun i h st b hb => by
    obtain ⟨⟨old, he⟩, ⟨o, ho, _, hd⟩, _⟩ := st
    rcases List.mem_cons.mp hb with rfl | hb
    · exact ⟨_, he, fun v q => nomatch q⟩
    · obtain rfl := List.mem_singleton.mp hb
      exact ⟨o, ho, fun v q => by rw [hd] at q; cases q⟩
  keep := fun i h h' st k => by
    obtain ⟨⟨old, he⟩, ⟨o, ho, r⟩, hne⟩ := st
    exact ⟨⟨old, k e (by simp) _ he⟩, ⟨o, k it (by simp) _ ho, r⟩, hne⟩
  item := by
    intro X hP hw hK hc i pins s σ H E I hf st hg
    subst hP hw hK
    obtain ⟨⟨old, he⟩, hit, hne⟩ := st
    have hel : e < s.heap.objs.size := Heap.lt_size he
    have hil : it < s.heap.objs.size := by
      obtain ⟨_, q, _⟩ := hit
      exact Heap.lt_size q
    have D := Draws.text (prog := X.prog) (w := X.w) (A := X.A.in1) (I.ok.hd hc) it x t
    refine wpAny_pyNext_enum_itemD D he hit hg hne (by simpa using hne) fun xv h' tk hx ho hit' hT hsz hk => ?_
    obtain ⟨c, u, hcx, rfl⟩ := hx
    refine ⟨_, rfl, wpAny_letOwnedTupleGo_enum (s := { s with heap := h', toks := tk + 1 }) ho fun h'' he' sb => ?_⟩
    have tup : h''.get? s.heap.objs.size = some { cls := .type "tuple", data := .seq #[.int i tk, .str ⟨#[c]⟩ u] } :=
      (sb.2 _ (Nat.ne_of_gt hel)).trans hT
    have ok : ObjOk X.prog X.w (upd H s.heap.objs.size (.tup [.int (i : Nat), .str ⟨#[c]⟩])) h'' s.heap.objs.size (.tup [.int (i : Nat), .str ⟨#[c]⟩]) := by
      refine ⟨by show 2 ≤ sizeLine; decide, [.int i tk, .str ⟨#[c]⟩ u], .cons ⟨tk, rfl⟩ (.cons ⟨u, rfl⟩ .nil), ⟨_, tup, rfl, _, rfl⟩⟩
    have I1 : Inv X pins σ (upd H s.heap.objs.size (.tup [.int (i : Nat), .str ⟨#[c]⟩])) { s with heap := h'', toks := tk + 1 } := by
      refine I.turnedNew (ch := [e, it]) (fun b ob hb q => ?_) hf (Nat.le_refl _) ok
      have n1 : b ≠ e := fun z => hb (by simp [z])
      have n2 : b ≠ it := fun z => hb (by simp [z])
      exact (sb.2 b n1).trans (hk b ob n1 n2 q)
    have nx : ((i + 1 : Nat) : Int) = (i : Int) + 1 := by omega
    refine ⟨.ref s.heap.objs.size, _, I1, rfl, ⟨_, c, rfl, I.hok.fresh (Nat.le_refl _), rfl, hcx⟩, ⟨⟨_, by rw [nx]; exact he'⟩, ?_, hne⟩, fun b hb => ?_⟩
    · obtain ⟨o, q, r⟩ := hit'
      exact ⟨o, (sb.2 it (Ne.symm hne)).trans q, r⟩
    · have lt : b < s.heap.objs.size := by
        rcases List.mem_cons.mp hb with rfl | hb
        · exact hel
        · obtain rfl := List.mem_singleton.mp hb
          exact hil
      rw [upd_ne (Nat.ne_of_lt lt)]
      exact (hf b hb).1
  done := by
    intro X hP hw hK hc i pins s σ H E I hf st hg
    subst hP hw hK
    obtain ⟨⟨old, he⟩, hit, hne⟩ := st
    obtain ⟨f0, f1, f2, f3, f4, f5⟩ := hf it (by simp)
    have hi : i = x.cps.size := hg
    have D := Draws.text (prog := X.prog) (w := X.w) (A := X.A.in1) (I.ok.hd hc) it x t
    rw [hi] at hit
    exact wpAny_pyNext_enum_endD D he hit fun h' eb => ⟨rfl, I.turned (t' := s.toks) (fun b o hb q => eb b o hb q) f0 f1 f3 f4 f5⟩
  self := fun A i s Q E st h => by
    obtain ⟨⟨_, he⟩, _⟩ := st
    exact wpAny_pyIter_enum he h
def iEnumS (ta : TA) : TI := fun σ H R => ta σ H fun vs H1 => ∃ x, vs = [.str x] ∧ R (Ets x) H1
theorem pi_enumS {X : Cx} {e : Expr} {ta : TA} {p pos tpos : Pos} {elts : List Expr} {kk : Nat} (hg : Gl X "enumerate") (hm : X.mg "enumerate" = none) (ha : PA X [e] ta)
    (hs : starEach [e] X.env = [(false, eval e X.env)] := by rfl) : PI X (.Tuple elts kk tpos) (.Call (.Name "enumerate" p) [e] [] pos) (iEnumS ta) := by
  refine ⟨fun pins s σ H R I h => Call_ (ld_blt I hg hm boot_enumerate (PyProof.Rows.callWith_type1 (thn (ha.run pos pins s σ H _ I h) fun us s1 hh => ?_) hs rfl))⟩
  obtain ⟨vs, H1, I1, r1, x, rfl, q⟩ := hh
  obtain ⟨u, rfl, t, rfl⟩ := vals1 r1
  refine call_enumerate_str fun h' he hit hsz hk => wpAny_pyIter_enum he ?_
  have I2 : Inv X pins σ H1 { s1 with heap := h' } := I1.kept (t' := s1.toks) hk
  refine ⟨s1.heap.objs.size + 1, [s1.heap.objs.size + 1, s1.heap.objs.size], _, _, H1, rfl, I2, turn_enumS _ _ x t, ⟨⟨.none, he⟩, hit, Nat.succ_ne_self _⟩, fun b hb => ?_, q⟩
  have le : s1.heap.objs.size ≤ b := by
    rcases List.mem_cons.mp hb with rfl | hb
    · exact Nat.le_succ _
    · obtain rfl := List.mem_singleton.mp hb
      exact Nat.le_refl _
  exact I1.fpOk le (I1.hok.fresh le)
theorem walk_enumS {x : Str} : Walk (Ets x) x.cps.size (fun _ => True) (YPair (fun i => some (.int (i : Nat))) (fun i => x.cps[i]?.map fun c => .str ⟨#[c]⟩)) := by
  refine ⟨fun _ _ hi _ => hi, fun _ _ => rfl, fun i H v H' _ _ y => ?_⟩
  obtain ⟨T, c, h1, h2, h3, h4⟩ := y
  exact ⟨T, .int (i : Nat), .str ⟨#[c]⟩, h1, h2, h3, rfl, by show x.cps[i]?.map (fun c => V.str ⟨#[c]⟩) = _; rw [h4]; rfl⟩

/-! ### the law's end -/
theorem law_end {P : Program} {w : World} {K : PySem.W.Frag} {mg mb : Str → Option Value} {k : Nat} {fa a : Addr} {fd : FuncData} {x : Str} {sp : Sp} {s₁ : Shared} {vs : List Value} {ns : List Int}
    (KX : K.In s₁.heap) (hns : s₁.heap.Ns mainGlobals mg) (hb : s₁.heap.Ns builtinsNs mb) (hbb : ∀ x : Str, x ≠ "__name__" → mb x = bootBuiltins x) (hlim : s₁.heap.NoLimit) (hgn : s₁.gens = #[])
    (ha : s₁.heap.get? a = some { cls := .type "list", data := .seq vs.toArray }) (hi : IntsAre vs ns) (hl : ns.length ≤ sizeLine) (hr : Room k callerA)
    (F : ∀ base : Heap, K.In base → base.Ns mainGlobals mg → FnG P w K mg base CX0 k fa fd [x] sp) (hbind : ∀ (s : Shared) (u : Value), BindsTo s fd ⟨[u], []⟩ [(x, u)])
    (hsp : ∀ H : Hp, SqL K H a (ns.map V.int) → sp [.ref a] H (fun v _ => v = .bl true) E0) :
    codeAny (model P w) callerA (.call (.ref fa) ⟨[.ref a], []⟩) (fun r s' => r = .ok (.ret (.bool true)) ∧ OldK s₁.heap s'.heap ∧ s'.os = s₁.os ∧ AllBare s'.gens) s₁ := by
  have rv := vals_ints hi
  let O : Obj := { cls := .type "list", data := .seq vs.toArray }
  have key : ∀ H : Hp, SqL K H a (ns.map V.int) → HOk P w H s₁.heap → (∀ b, H b = none ∨ (b = a ∧ K.lookup b = none ∧ H b = some (.frz O (.lst (ns.map V.int))))) →
      codeAny (model P w) callerA (.call (.ref fa) ⟨[.ref a], []⟩) (fun r s' => r = .ok (.ret (.bool true)) ∧ OldK s₁.heap s'.heap ∧ s'.os = s₁.os ∧ AllBare s'.gens) s₁ := by
    intro H hS hok hO
    have free : ∀ {b : Addr} {o : Obj} {es : Array DictEntry} {ep : Nat}, s₁.heap.get? b = some o → o.data = .dict es ep → H b = none := by
      intro b o es ep e d
      rcases hO b with q | ⟨rfl, _, _⟩
      · exact q
      · rw [ha] at e
        cases e
        cases d
    have nsH : ∀ {b : Addr} {m : Str → Option Value}, s₁.heap.Ns b m → (hidT s₁.heap H).Ns b m := by
      rintro b m ⟨o, es, ep, e, d, r⟩
      exact ⟨o, es, ep, hidT_get e (free e d), d, r⟩
    have inH : K.In (hidT s₁.heap H) := by
      intro b o e
      refine hidT_get (KX b o e) ?_
      rcases hO b with q | ⟨_, z, _⟩
      · exact q
      · rw [z] at e
        cases e
    have lim : (hidT s₁.heap H).NoLimit := by
      obtain ⟨mc, h1, h2⟩ := hlim
      exact ⟨mc, nsH h1, h2⟩
    have md : Mod K mg (hidT s₁.heap H) := ⟨inH, nsH hns, ⟨mb, nsH hb, hbb⟩, lim⟩
    have e0 : Env0 P w K mg (hidT s₁.heap H) callerA [] s₁ H := by
      refine ⟨rfl, md, fun b o e => of_hidT e, Nat.le_of_eq (hidT_size _ _), trivial, fun b z => ?_, hok, .of_eq hgn⟩
      exact absurd (show b ∈ ([] : List Addr) from z) List.not_mem_nil
    refine codeAny_mono ((F _ inH (nsH hns)).run callerA [] s₁ H ⟨[.ref a], []⟩ [.ref a] [.ref a] _ _ rfl hr e0 (hbind s₁ (.ref a)) (.cons rfl .nil) (hsp H hS)) fun r s' h => ?_
    match r, h with
    | .error e, h => exact False.elim h
    | .ok (.ret u), h =>
      obtain ⟨v, H', os, bare, un, hok', r', q⟩ := h
      obtain rfl : v = .bl true := q
      obtain rfl : u = Value.bool true := r'
      refine ⟨rfl, OldK.of_keep fun b o e => ?_, os, bare⟩
      rcases hO b with q | ⟨_, _, q⟩
      · exact un.keep b o e q (fun z => absurd (show b ∈ ([] : List Addr) from z) List.not_mem_nil) List.not_mem_nil
      · have e1 := (hok b _ q).1
        have e2 := (hok' b _ (un.frzs b O _ q)).1
        rw [e] at e1
        cases e1
        exact e2
  cases hk : K.lookup a with
  | some o =>
    have e := KX a o hk
    rw [ha] at e
    cases e
    refine key (fun _ => none) (.inr ⟨_, vs.toArray, _, hk, rfl, rfl, rfl, ?_, ?_⟩) (fun b u z => nomatch z) fun _ => .inl rfl
    · rw [List.size_toArray, hi.length]
      exact hl
    · simpa using rv
  | none =>
    have at_a : ∀ b, (if b = a then some (HO.frz O (.lst (ns.map V.int))) else none) ≠ none → b = a := by
      intro b z
      by_cases e : b = a
      · exact e
      · rw [if_neg e] at z
        exact absurd rfl z
    refine key (fun b => if b = a then some (.frz O (.lst (ns.map V.int))) else none) (.inl (.inr ⟨O, if_pos rfl⟩)) (fun b u z => ?_) fun b => ?_
    · have z' : (if b = a then some (HO.frz O (.lst (ns.map V.int))) else none) = some u := z
      have e : b = a := at_a b (by rw [z']; exact fun z => nomatch z)
      subst e
      rw [if_pos rfl] at z'
      cases z'
      exact ⟨ha, by rw [List.length_map]; exact hl, vs, _, rv, ha⟩
    · by_cases e : b = a
      · subst e
        exact .inr ⟨rfl, hk, if_pos rfl⟩
      · exact .inl (if_neg e)
theorem walk_end {l : PySem.W.OpenLaw} {n k : Nat} {q : Program} {loose : List Str} {XP : (Str → Option Value) → Heap → Prop} {YP : World → Heap → Prop} {d : DefRec} {K : Params → PySem.W.Frag} {sp : World → Sp} {x : Str}
    (hn : l.most = some n) (hn2 : n ≤ sizeLine) (hdf : d.params.defaults = []) (hr : Room k callerA)
    (hY : ∀ (w : World) (h : Heap), YP w h → (K w.params).In h)
    (F : ∀ (w : World) (mg : Str → Option Value) (fa : Addr) (h : Heap), (K w.params).In h → h.Ns mainGlobals mg → mg d.name = some (.ref fa) →
      ∃ fd : FuncData, (∀ (s : Shared) (u : Value), BindsTo s fd ⟨[u], []⟩ [(x, u)]) ∧
        ∀ base : Heap, (K w.params).In base → base.Ns mainGlobals mg → FnG l.prog w (K w.params) mg base CX0 k fa fd [x] (sp w))
    (hsp : ∀ (w : World) (H : Hp) (a : Addr) (ns : List Int), ns.length ≤ n → SqL (K w.params) H a (ns.map V.int) → sp w [.ref a] H (fun v _ => v = .bl true) E0) :
    PySem.W.WalkO q loose XP YP l.row.toRowW d [] (fun f vs => PySem.call f vs) := by
  refine Att.attach_call hn hdf fun w s₀ s₁ mg mb fa o pm cd doc a vs ns G Y ho hd hcd hmg hobj hints hlen hg => ?_
  obtain ⟨fd, hb, hF⟩ := F w mg fa _ (hY w _ Y) G.T.g hmg
  exact law_end (hY w _ Y) G.T.g G.T.b G.T.builtins G.T.nolimit hg hobj hints (Nat.le_trans hlen hn2) hr hF hb fun H hS => hsp w H a ns hlen hS
end Gd

set_option Elab.async false
set_option linter.all false
set_option maxRecDepth 100000
set_option maxHeartbeats 2000000
/-! the head by one run of the kernel; what it leaves is told by a look of one's own -/
namespace Gd
open PySem PySem.Spec PyProof.Rows L2
/-- what a look tells: a truth about the part of the heap that the names reach in n steps, and the text of defs -/
def obG (n : Nat) (B : PySem.W.Frag → Bool) (fn : List He.FnD) (g : Addr → Option Obj) : Bool × List He.FnV := (B (He.frG g (He.asG g n)), fn.map fun d => He.fnObs (He.frG g (He.asG g n)) d.at_)
def SaysG (B : PySem.W.Frag → Bool) (fn : List He.FnD) (K : PySem.W.Frag) : Prop := B K = true ∧ fn.map (fun d => He.fnObs K d.at_) = fn.map He.FnD.val
def hkG (n : Nat) (B : PySem.W.Frag → Bool) (fn : List He.FnD) : PySem.W.Hook where
  α := Bool × List He.FnV
  obs := fun s => obG n B fn s.heap.get?
  val := fun _ => (true, fn.map He.FnD.val)
  says := fun _ h => ∃ K : PySem.W.Frag, K.In h ∧ SaysG B fn K
  of := fun _ s e => ⟨He.frG s.heap.get? (He.asG s.heap.get? n), He.frG_in, congrArg (fun z => z.1) e, congrArg (fun z => z.2) e⟩
  keeps := fun _ _ _ ⟨K, hK, c⟩ k => ⟨K, PySem.W.Frag.In.keeps hK k, c⟩
theorem obG_eq {n : Nat} {B : PySem.W.Frag → Bool} {fn : List He.FnD} (s : PySem.W.SharedT) : obG n B fn (HandSHeadRun.getT s) = (hkG n B fn).obs s.abs := by
  have e : HandSHeadRun.getT s = s.abs.heap.get? := funext (HandSHeadRun.getT_eq s)
  rw [e]
  rfl
theorem SaysG.fn {B : PySem.W.Frag → Bool} {fn : List He.FnD} {K : PySem.W.Frag} (c : SaysG B fn K) (i : Nat) {d : He.FnD} (h : fn[i]? = some d) : He.fnObs K d.at_ = d.val := by
  have e : (fn.map fun d => He.fnObs K d.at_)[i]? = (fn.map He.FnD.val)[i]? := by rw [c.2]
  rw [List.getElem?_map, List.getElem?_map, h] at e
  exact Option.some.inj e
/-- a def of the module as the look tells it -/
def gd (x : Str) (st : Stmt) : He.FnD := ⟨(x, none), x, x, C8.fnArgs st, C8.fnBody st, C8.fnScope st⟩
/-- .. of a class -/
def cd (x m q : Str) (st : Stmt) : He.FnD := ⟨(x, some m), m, q, C8.fnArgs st, C8.fnBody st, C8.fnScope st⟩
theorem fun_of {K : PySem.W.Frag} {p : Str × Option Str} {x q : Str} {st : Stmt} (o : He.fnObs K p = He.FnD.val ⟨p, x, q, C8.fnArgs st, C8.fnBody st, C8.fnScope st⟩) (cd : (He.Fa.code p q).ok K = true) :
    ∃ fd, C8.Fun K x q st (He.fAd K p) fd ∧ fd.defaults = .none := by
  obtain ⟨oc, od, osl, kV, doc, pm, an, cdv, ct, l, c⟩ := He.fn_ok (d := ⟨p, x, q, C8.fnArgs st, C8.fnBody st, C8.fnScope st⟩) o cd
  exact ⟨_, ⟨oc, od, .none, kV, doc, pm, an, cdv, ct, osl, rfl, l, c⟩, rfl⟩
theorem def_of {K : PySem.W.Frag} {h : Heap} {mg : Str → Option Value} {x : Str} {st : Stmt} (X : K.In h) (G : h.Ns mainGlobals mg) (o : He.fnObs K (x, none) = (gd x st).val) (g : (He.Fa.glo x).ok K = true) (k : (He.Fa.keep x).ok K = true)
    (cd : (He.Fa.code (x, none) x).ok K = true) : ∃ fd, C8.Def K mg x st (He.ga K x) fd ∧ fd.defaults = .none := by
  obtain ⟨fd, F, e⟩ := fun_of (p := (x, none)) o cd
  exact ⟨fd, ⟨F, He.glo_ok X G g, k⟩, e⟩
theorem fa_at {fas : List He.Fa} {K : PySem.W.Frag} (c : (fas.all fun f => f.ok K) = true) (i : Nat) {f : He.Fa} (h : fas[i]? = some f) : f.ok K = true := List.all_eq_true.mp c f (List.mem_of_getElem? h)
theorem walk_endE {l : PySem.W.OpenLaw} {n k : Nat} {q : Program} {loose : List Str} {XP : (Str → Option Value) → Heap → Prop} {YP : World → Heap → Prop} {d : DefRec} {x : Str} (hn : l.most = some n) (hn2 : n ≤ sizeLine) (hdf : d.params.defaults = []) (hr : Room k callerA)
    (F : ∀ (w : World) (mg : Str → Option Value) (fa : Addr) (h : Heap), YP w h → h.Ns mainGlobals mg → mg d.name = some (.ref fa) → ∃ (K : PySem.W.Frag) (fd : FuncData) (sp : Sp), K.In h ∧ (∀ (s : Shared) (u : Value), BindsTo s fd ⟨[u], []⟩ [(x, u)]) ∧
      (∀ (H : Hp) (a : Addr) (ns : List Int), ns.length ≤ n → SqL K H a (ns.map V.int) → sp [.ref a] H (fun v _ => v = .bl true) E0) ∧ ∀ base : Heap, K.In base → base.Ns mainGlobals mg → FnG l.prog w K mg base CX0 k fa fd [x] sp) :
    PySem.W.WalkO q loose XP YP l.row.toRowW d [] (fun f vs => PySem.call f vs) := by
  refine Att.attach_call hn hdf fun w s₀ s₁ mg mb fa o pm cd doc a vs ns G Y ho hd hcd hmg hobj hints hlen hg => ?_
  obtain ⟨K, fd, sp, KX, hb, hsp, hF⟩ := F w mg fa _ Y G.T.g hmg
  exact law_end KX G.T.g G.T.b G.T.builtins G.T.nolimit hg hobj hints (Nat.le_trans hlen hn2) hr hF hb fun H hS => hsp H a ns hlen hS
end Gd

set_option Elab.async false
set_option linter.all false
set_option maxRecDepth 100000
set_option maxHeartbeats 1000000
/-! instances: their class and its name; == and truth by own defs -/
namespace Gd
open PySem PySem.Spec PyProof.Rows L2
theorem isCls_of {K : PySem.W.Frag} {C : Addr} (c : Cls K C) : (PySem.W.clsIn K C).isSome = true := by
  have h := c.hd
  unfold PySem.W.hasDictIn at h
  cases e : PySem.W.clsIn K C with
  | none => rw [e] at h; exact absurd h (by simp)
  | some cd => rfl
section
variable {X : Cx} {pins : List (Addr × Obj)} {σ : L2.St} {H : Hp} {s : Shared} {a C dx : Addr} {fs : List (Str × V)} {A : Around} {E : Value → Shared → Prop}
theorem getcls_ok {b : Bool} {Q : Value → Shared → Prop} (I : Inv X pins σ H s) (e : H a = some (.ins C dx fs)) (c : C8.InsC X.K C) (h : ∀ s', Inv X pins σ H s' → Q (.ref C) s') :
    wpAny (model X.prog X.w) A (getAttr (.ref a) "__class__" b) Q E s := by
  obtain ⟨mA, O, _⟩ := ins_get I.hok e
  obtain ⟨od, J, _⟩ := O.look
  refine PySem.W.get_bind I.kIn J (PySem.W.plainGet_of c.cl.pg).1 (PySem.W.findObj_data (isCls_of c.cl) c.ha c.hn c.htk) (PySem.W.plainGet_of c.cl.pg).2 ?_
  exact wpAny_call (PySem.W.class_get (s := { s with toks := s.toks + 1 }) I.kIn J c.hm (PySem.W.handed_on rfl (h _ (I.tok _))))
/-- C.__name__ is the text z -/
structure NameC (K : PySem.W.Frag) (C : Addr) (z : Str) : Prop where
  rd : PySem.W.readsIn K C (.type "type") = true
  at_ : PySem.W.findCls K (.ref C) (.type "type") "__name__" = some (.get (.builtin "getset_descriptor.__get__") (.builtin "type.__name__") (.ref C) (.type "type"))
  ty : PySem.W.typeIn K (.ref C) = some (.type "type")
  ob : ∃ (o : Obj) (t : Tok), K.lookup C = some o ∧ o.slots[2]? = some (some (.str z t))
theorem name_get {K : PySem.W.Frag} {P : Program} {w : World} {R : Result → Shared → Prop} {z : Str} {tp : Value} (X : K.In s.heap) (n : NameC K C z) (h : ∀ t, R (.ok (.ret (.str z t))) s) :
    codeAny (model P w) A (.call (.builtin "getset_descriptor.__get__") ⟨[.builtin "type.__name__", .ref C, tp], []⟩) R s := by
  obtain ⟨o, t, ho, hsl⟩ := n.ob
  have ho2 := X _ _ ho
  obtain ⟨hh, g, dr, tk, os⟩ := s
  have L0 : PySem.W.Looks (model P w) hh (typeOf (.ref C)) (.type "type") := PySem.W.looks_typeIn X n.ty
  have L1 : PySem.W.Looks (model P w) hh (isSubtype (.type "type") (.type "type")) true := PySem.W.Looks.of_pure (by rw [isSubtype_type]; kernel_rfl)
  refine codeAny_call_builtin PySem.W.KF.slot_gs.plain PySem.W.KF.entry_gs (PySem.W.KF.slot_gs.check _ _ _ _ _ _ _ _ PySem.W.ktyn_type (PySem.W.KF.args_gs _ _ _) ?_)
  unfold Builtin.«getset_descriptor.__get__» Builtin.Getset_descriptor.descrGet
  rw [PySem.W.dga_obj]
  refine wpAny_bind (wpAny_pure ?_)
  unfold Builtin.Getset_descriptor.descrGetter Builtin.Getset_descriptor.descrCheckInstance Builtin.Getset_descriptor.descrNameAndClass isInstance
  simp only [PySem.W.ktyn_owner]
  repeat lk
  refine ⟨Code.quiet_builtin _ (by decide +kernel), codeAny_builtin PySem.W.ktyn_entry ?_⟩
  unfold Builtin.«type.__name__»
  dsimp only
  unfold Builtin.keptObject slotAt
  refine wpAny_bind (wpAny_bind (wpAny_loadPart ho2 (wpAny_pure ?_)))
  rw [hsl]
  exact wpAny_pure (h _)
/-- == where the right one's class lies below the left one's -/
theorem cmp_R {K : PySem.W.Frag} {x y C' f : Addr} {ox oy : Obj} {odx ody : Option Obj} {P : Program} {w : World} {Q : Value → Shared → Prop} (hu : A.units < cLine) (KX : K.In s.heap) (Ix : PySem.W.InstAt s.heap x ox C odx) (Iy : PySem.W.InstAt s.heap y oy C' ody) (hn : C ≠ C')
    (hsub : PySem.W.subIn K (.ref C') (.ref C) = some true) (hs : PySem.W.findIn K (.ref C') "__eq__" = some (some (.ref f))) (hf : PySem.W.isFn K (.ref f) = true)
    (h : wpAny (model P w) A (call (.ref f) [.ref y, .ref x]) (PySem.W.CmpBack Q) E s) : wpAny (model P w) A (richCompare .Eq (.ref x) (.ref y)) Q E s := by
  have one : wpAny (model P w) A (tryCompare (.ref y) (cmpInfo .Eq).2.2 (.ref x)) (fun r s' => ∃ v, r = some v ∧ Q v s') E s := by
    unfold tryCompare
    refine wpAny_bind (PySem.W.ifBound_K KX Iy hs hf (wpAny_mono h (fun v s' hv => ?_) fun _ _ e => e))
    cases v <;> first | exact hv.elim | exact wpAny_pure ⟨_, rfl, hv⟩
  unfold richCompare
  simp only [oneThing_ref]
  refine wpAny_holding (wpAny_bind (wpAny_cRoomFor hu ?_))
  refine wpAny_bind (Ix.type.here (wpAny_bind (Iy.type.here ?_)))
  split
  · refine wpAny_bind ((PySem.W.looks_subIn KX hsub).here ?_)
    simp only [if_true]
    refine wpAny_bind (wpAny_mono one (fun r s' z => ?_) fun _ _ e => e)
    obtain ⟨v, rfl, hq⟩ := z
    first
      | exact wpAny_bind (wpAny_rule (wpAny_pure hq))
      | exact wpAny_rule (wpAny_pure hq)
      | exact wpAny_pure hq
  · rename_i q
    exact absurd (show (Value.ref C != Value.ref C') = true by simpa using hn) q
theorem bool_own {P : Program} {w : World} {Q : Value → Shared → Prop} {x : Addr} (h : wpAny (model P w) A.in1.in1 (truthy (.ref x)) (fun b s₁ => Q (.bool b) s₁) E s) : wpAny (model P w) A (call (.type "bool") [.ref x]) Q E s := by
  refine callType_codes (T := "bool") (Bi := Builtin.«object.__init__») (Q₁ := fun r s₁ => ∃ b, r = Value.bool b ∧ Q r s₁) PySem.F.called_bool (PySem.F.typeCall_bool_1 _) PySem.F.entry_object_init ?_ ?_
  · refine codeAny_of_tree ?_
    show wpAny _ A.in1.in1 (do checkBuiltinCall "bool.__new__" ⟨[.type "bool", .ref x], []⟩; again (.builtin "bool.__new__" ⟨[.type "bool", .ref x], []⟩)) _ _ s
    refine wpAny_bind (wpAny_of_eq (PySem.F.newCall_bool_1 _) (wpAny_pure ⟨plainId_quiet (by decide +kernel) _, codeAny_builtin PySem.F.entry_bool_new ?_⟩))
    rw [Around.under_plainId (by decide +kernel) _]
    unfold Builtin.«bool.__new__»
    refine wpAny_bind (wpAny_of_eq (a := true) (by kernel_rfl) ?_)
    refine PySem.W.KFB.if_not rfl ?_
    refine wpAny_bind (wpAny_of_eq (a := true) PySem.F.conv_sub_bool ?_)
    refine PySem.W.KFB.if_not rfl ?_
    refine wpAny_bind (wpAny_of_eq (a := [Value.ref x]) (by rfl) ?_)
    refine wpAny_bind (wpAny_mono h (fun r s₁ hr => ?_) fun _ _ y => y)
    exact wpAny_pure ⟨r, rfl, hr⟩
  · rintro obj s₁ ⟨b, rfl, hq⟩
    exact ⟨PySem.typeIs_bool _ _, PySem.F.args_object_init_2 _ _, object_init_meets PySem.F.called_bool.init.lookup PySem.F.called_bool.made (by decide) P w A.in1 _ s₁ ⟨PySem.typeIs_bool _ _, rfl, hq⟩⟩
end
end Gd

set_option Elab.async false
set_option linter.all false
set_option maxRecDepth 100000
set_option maxHeartbeats 1000000
namespace Gd
open PySem PySem.Spec PyProof.Rows L2
/-- e.__class__ of an instance -/
def tCls (K : PySem.W.Frag) (ta : TE) : TE := fun σ H Q => ta σ H fun x H1 => ∃ a C dx fs, x = .ref a ∧ H1 a = some (.ins C dx fs) ∧ C8.InsC K C ∧ Q (.ref C) H1
/-- e.__name__ of a class -/
def tNam (K : PySem.W.Frag) (ta : TE) : TE := fun σ H Q => ta σ H fun x H1 => ∃ C z, x = .ref C ∧ NameC K C z ∧ Q (.str z) H1
section
variable {X : Cx} {e : Expr} {ta : TE} {pos : Pos}
theorem pe_cls (he : PE X e ta) (hb : attributeBase e "__class__" X.env (eval e X.env) = eval e X.env := by rfl) : PE X (.Attribute e "__class__" pos) (tCls X.K ta) := by
  refine ⟨fun pins s σ H Q I h => ?_⟩
  refine attr_of hb (thn (he.run pins s σ H _ I h) fun u s1 ⟨x, H1, I1, rx, a, C, dx, fs, ex, ea, c, q⟩ => ?_)
  subst ex
  obtain rfl : u = Value.ref a := rx
  exact getcls_ok I1 ea c fun s2 I2 => ⟨.ref C, H1, I2, rfl, q⟩
theorem pe_nam (he : PE X e ta) (hb : attributeBase e "__name__" X.env (eval e X.env) = eval e X.env := by rfl) : PE X (.Attribute e "__name__" pos) (tNam X.K ta) := by
  refine ⟨fun pins s σ H Q I h => ?_⟩
  refine attr_of hb (thn (he.run pins s σ H _ I h) fun u s1 ⟨x, H1, I1, rx, C, z, ex, n, q⟩ => ?_)
  subst ex
  obtain rfl : u = Value.ref C := rx
  refine PySem.W.cls_bind I1.kIn n.rd n.at_ (wpAny_call (name_get (s := { s1 with toks := s1.toks + 1 }) I1.kIn n fun t => PySem.W.handed_on rfl ?_))
  exact ⟨.str z, H1, I1.tok _, ⟨t, rfl⟩, q⟩
end
/-- what the text must say of a class whose instances are compared by the def at g -/
structure EqC (K : PySem.W.Frag) (C g : Addr) : Prop where
  ic : C8.InsC K C
  eq : PySem.W.findIn K (.ref C) "__eq__" = some (some (.ref g))
  fn : PySem.W.isFn K (.ref g) = true
/-- x == y, x such an instance, y a tuple or such an instance -/
def rEqO (K : PySem.W.Frag) (g : Addr) (sp : Sp) : R2 := fun x y H Q => ∃ a C dx fs b, x = .ref a ∧ y = .ref b ∧ H a = some (.ins C dx fs) ∧ EqC K C g ∧
  ((∃ xs, H b = some (.tup xs) ∧ PySem.W.subIn K (.type "tuple") (.ref C) = some false ∧ sp [x, y] H Q C8.E0) ∨
    ∃ C' dy gs, H b = some (.ins C' dy gs) ∧ ((PySem.W.notFirst K C (.ref C') = true ∧ sp [x, y] H Q C8.E0) ∨ (C ≠ C' ∧ EqC K C' g ∧ PySem.W.subIn K (.ref C') (.ref C) = some true ∧ sp [y, x] H Q C8.E0)))
section
variable {X : Cx} {n : Nat} {g : Addr} {sp : Sp}
theorem op_eqO (F : FnR X.prog X.w X.K X.mg X.base C8.CX0 n g sp) (hr : Room n X.A) : OpR X (compareOp .Eq) (rEqO X.K g sp) := by
  intro pins s σ H x y v u Q I rx ry h
  obtain ⟨a, C, dx, fs, b, rfl, rfl, ha, c, h⟩ := h
  cases (show v = Value.ref a from rx)
  cases (show u = Value.ref b from ry)
  obtain ⟨mA, O, _⟩ := ins_get I.hok ha
  obtain ⟨od, J, _⟩ := O.look
  obtain ⟨m, hF⟩ := I.fr
  show wpAny (model X.prog X.w) X.A (richCompare .Eq (.ref a) (.ref b)) (EP X pins σ Q) X.xe s
  have go : ∀ {p q : Addr}, sp [.ref p, .ref q] H Q C8.E0 → wpAny (model X.prog X.w) X.A (call (.ref g) [.ref p, .ref q]) (PySem.W.CmpBack (EP X pins σ Q)) X.xe s := fun {p q} hsp => by
    refine wpAny_mono (wpAny_call (run_fnR (us := [.ref p, .ref q]) (vs := [.ref p, .ref q]) F hr C8.pass0 I (.cons rfl (.cons rfl .nil)) hsp)) (fun w s' z => ?_) fun _ _ x => x
    obtain ⟨z', H', I', rz, qz⟩ := z
    exact SlX.cmpback rz ⟨z', H', I', rz, qz⟩
  rcases h with ⟨xs, hb, hn, q⟩ | ⟨C', dy, gs, hb, ⟨hn, q⟩ | ⟨hne, c', hsub, q⟩⟩
  · obtain ⟨_, its, _, o, h1, h2, _⟩ := (show ObjOk X.prog X.w H s.heap b (.tup xs) from I.hok b _ hb)
    have L : PySem.W.Looks (model X.prog X.w) s.heap (typeOf (.ref b)) (.type "tuple") := h2 ▸ (PySem.W.Looks.ld h1).andThen .now
    exact PySem.W.cmp_K (op := .Eq) hr.units0 hF I.ok.mod.kin J L (by unfold PySem.W.notFirst; rw [hn]; simp) c.eq c.fn (go q)
  · obtain ⟨mB, O', _⟩ := ins_get I.hok hb
    obtain ⟨od', J', _⟩ := O'.look
    exact PySem.W.cmp_K (op := .Eq) hr.units0 hF I.ok.mod.kin J J'.type hn c.eq c.fn (go q)
  · obtain ⟨mB, O', _⟩ := ins_get I.hok hb
    obtain ⟨od', J', _⟩ := O'.look
    exact cmp_R hr.units0 I.kIn J J' hne hsub c'.eq c'.fn (go q)
/-- bool(x), x an instance: by its own def at g, or True -/
def rBoolO (K : PySem.W.Frag) (g : Addr) (sp : Sp) : List V → Hp → VK → Prop := fun xs H Q => ∃ a C dx fs, xs = [.ref a] ∧ H a = some (.ins C dx fs) ∧
  ((PySem.W.findIn K (.ref C) "__bool__" = some none ∧ PySem.W.findIn K (.ref C) "__len__" = some none ∧ Q (.bl true) H) ∨
    (PySem.W.findIn K (.ref C) "__bool__" = some (some (.ref g)) ∧ PySem.W.isFn K (.ref g) = true ∧ sp [.ref a] H (fun z H' => ∃ b, z = .bl b ∧ Q (.bl b) H') C8.E0))
theorem call_boolO (F : FnR X.prog X.w X.K X.mg X.base C8.CX0 n g sp) (hr : Room (n + 2) X.A) : CallR X (.type "bool") (rBoolO X.K g sp) := by
  intro pins s σ H xs us Q I r h
  obtain ⟨a, C, dx, fs, rfl, ha, h⟩ := h
  obtain ⟨u, rfl, ru⟩ := r.one
  cases (show u = Value.ref a from ru)
  obtain ⟨mA, O, _⟩ := ins_get I.hok ha
  obtain ⟨od, J, _⟩ := O.look
  obtain ⟨m, hF⟩ := I.fr
  refine bool_own ?_
  rcases h with ⟨h1, h2, q⟩ | ⟨h1, h2, q⟩
  · exact PySem.W.truthy_K0 hF I.ok.mod.kin J h1 h2 ⟨.bl true, H, I, rfl, q⟩
  · have hr2 : Room n X.A.in1.in1 := (show Room (n + 1) X.A.in1 from Room.in1 hr).in1
    refine PySem.W.truthy_K hF I.ok.mod.kin J h1 h2 (wpAny_mono (wpAny_call (SlX.run_at (us := [.ref a]) (ws := [.ref a]) F hr2 I.env0.in1.in1 C8.pass0 I (.cons rfl .nil) q)) (fun w s' z => ?_) fun _ _ x => x)
    obtain ⟨z', H', I', rz, b, eb, qz⟩ := z
    subst eb
    cases rz
    exact ⟨.bl b, H', I', rfl, qz⟩
end
end Gd

set_option Elab.async false
set_option linter.all false
set_option maxRecDepth 100000
set_option maxHeartbeats 1000000
/-! super().m(..) at the head of a method -/
namespace Gd
open PySem PySem.Spec PyProof.Rows L2 NdefX
/-- what the context of a method's body must say, that super() may stand in it: the method at f, its code at cda, its cell of __class__ at cc, the class at D -/
structure Sup (X : Cx) (f cc cda D : Addr) : Prop where
  fn : ∃ (o : Obj) (fd : FuncData) (ar : Arg), X.K.lookup f = some o ∧ o.data = .func fd ∧ (fd.params.posonlyargs ++ fd.params.args).head? = some ar ∧ ar.arg = "self"
  hfu : X.env.func = some f
  hco : X.env.code = .ref cda
  code : ∃ (o : Obj) (vs : Array Value) (file : Str) (tf : Tok), X.K.lookup cda = some o ∧ o.data = .fields vs ∧ vs[2]? = some (.str file tf) ∧ ((X.prog.main.file : Str) == file) = true
  cel : ∃ o : Obj, X.K.lookup cc = some o ∧ o.data = .cell (some (.ref D))
  hcc : X.env.cells.lookup ("__class__" : Str) = some cc
  ks : X.env.kindOf "super" = some .globalImplicit
  kc : X.env.kindOf "__class__" = some .free
  ka : X.env.kindOf "self" = some .local
  top : (X.prog.main.scope.names.lookup ("super" : Str)).isSome = false
  clD : ∃ (o : Obj) (cd : ClassData), X.K.lookup D = some o ∧ o.data = .cls cd
  z : X.mg "super" = none
section
variable {X : Cx} {pins : List (Addr × Obj)} {σ : L2.St} {H : Hp} {s : Shared} {f cc cda D a C dx i : Addr} {fs : List (Str × V)} {body : List Stmt} {p0 p1 : Pos} {m : Str} {whole : Sem Value}
theorem sup_base (S : Sup X f cc cda D) (I : Inv X pins σ H s) (hN : X.N[i]? = some "self") (hs : σ[i]? = some (some (.ref a))) (ha : H a = some (.ins C dx fs)) (hsub : PySem.W.mroIn X.K C (.ref D) = some true) (hm : (m == ("__class__" : Str)) = false)
    {Q : Value → Shared → Prop} {E : Value → Shared → Prop} (hQ : ∀ so s', s'.heap.get? so = some (PySem.W.ks_superObj D a C) → Inv X pins σ H s' → Q (.ref so) s') :
    PySem.wpAt (model X.prog X.w) X.A (.func body X.env) (attributeBase (.Call (.Name "super" p0) [] [] p1) m X.env whole) Q E s := by
  obtain ⟨of, fd, ar, hf, hfd, har, hself⟩ := S.fn
  obtain ⟨oc, vs, file, tf, hc, hcd, hvs, hfile⟩ := S.code
  obtain ⟨ol, hl, hld⟩ := S.cel
  obtain ⟨oD, cdD, hD, hDd⟩ := S.clD
  have KX := I.kIn
  refine PySem.ks_wpAt_super_base (env := X.env) S.ks S.kc hm S.hfu (KX _ _ hf) hfd har S.hco (KX _ _ hc) hcd hvs hfile S.top ?_
  obtain ⟨mb, h1, h2⟩ := I.mod.blt
  refine PySem.W.ks_loadName_global I.ok.kind S.ks (Calls.loadGlobal_builtin (by rw [I.ok.glob]; exact I.mod.glob.keeps I.bk) S.z (by rw [I.ok.blt]; exact h1.keeps I.bk) ((h2 "super" (by decide)).trans (show bootBuiltins "super" = some (.type "super") by kernel_rfl)) ⟨rfl, ?_⟩)
  refine wpAny_loadName_free I.ok.kind S.kc S.hcc ⟨_, KX _ _ hl, hld⟩ ?_
  obtain ⟨mm, hn, hlk⟩ := I.loc
  obtain ⟨u, r, l⟩ := hlk i "self" _ hN hs (.inl S.ka)
  obtain rfl : u = Value.ref a := r
  rw [hself]
  have hk : mm "self" = some (.ref a) := by
    rcases l with ⟨_, e⟩ | ⟨hk, _⟩
    · exact e
    · have e := S.ka
      rcases hk with hk | hk
      · exact absurd (hk.symm.trans e) (by decide)
      · exact absurd (hk.symm.trans e) (by decide)
  refine wpAny_loadName_local I.ok.kind S.ka hn hk ?_
  obtain ⟨mA, O, _⟩ := ins_get I.hok ha
  obtain ⟨od, J, _⟩ := O.look
  obtain ⟨hp, g, d, t, os⟩ := s
  refine PySem.ks_wpAny_isType_cls (KX _ _ hD) hDd ⟨rfl, ?_⟩
  refine PySem.ks_wpAny_call_super (KX _ _ hD) hDd J.at_ J.cls (fun c e => ?_) (PySem.W.looks_mroIn KX hsub) (fun h' e k => hQ _ _ e (I.kept (t' := t) k))
  have z := J.no
  unfold PySem.W.notCls at z
  rw [e] at z
  cases z
/-- what the class at C must say, that super().m, from the class at D, is the def at g -/
structure SupC (K : PySem.W.Frag) (C D : Addr) (m : Str) (g : Addr) : Prop where
  op : PySem.W.nsIn K cStatics "thirdparty.any" = some none
  hm : PySem.W.ks_superIn K C D m = some (some (.ref g))
  ht : PySem.W.typeIn K (.ref g) = some (.type "function")
  sub : PySem.W.mroIn K C (.ref D) = some true
  fi : PySem.W.fnIn K g = true
theorem sup_meth {g so : Addr} {pl : Sem Bool} {Q : Value × List Value → Shared → Prop} {E : Value → Shared → Prop} (c : SupC X.K C D m g) (I : Inv X pins σ H s) (hso : s.heap.get? so = some (PySem.W.ks_superObj D a C)) (ha : H a = some (.ins C dx fs)) (hm : (m == ("__class__" : Str)) = false)
    (hQ : ∀ q s', H q = none → Inv X pins σ (upd H q (.met g a)) s' → Q (.ref q, []) s') : wpAny (model X.prog X.w) X.A (getMethod (.ref so) m pl) Q E s := by
  have KX := I.kIn
  have hne := I.hok.fresh (Nat.le_refl s.heap.objs.size)
  obtain ⟨mA, O, _⟩ := ins_get I.hok ha
  obtain ⟨od, J, _⟩ := O.look
  have hs := c.hm
  unfold PySem.W.ks_superIn at hs
  cases hc : PySem.W.clsIn X.K C with
  | none => rw [hc] at hs; cases hs
  | some cd =>
    rw [hc] at hs
    obtain ⟨of, hof, hofc⟩ : ∃ of, s.heap.get? g = some of ∧ of.cls = .type "function" := by
      have ht' : (X.K.lookup g).map (·.cls) = some (.type "function") := c.ht
      cases z : X.K.lookup g with
      | none => rw [z] at ht'; cases ht'
      | some of => rw [z] at ht'; exact ⟨of, KX _ _ z, Option.some.inj ht'⟩
    obtain ⟨hp, gg, d, t, os⟩ := s
    refine PySem.ks_wpAny_getMethod_super hso (PySem.W.looks_opaque KX c.op) (l₀ := cd.mro) (fun A Q E s k q => wpAny_bind ((PySem.W.looks_clsIn KX hc) A _ E s k (wpAny_pure q))) rfl KX hs hof hofc (PySem.W.ks_ne KX J hc) hm ?_
    refine hQ _ _ hne (I.laid (t' := t + 1) (a := hp.objs.size) (o := .met g a) (fun b u z => Heap.get?_push_of_some _ z) (Nat.le_refl _) ?_)
    exact Heap.get?_push_size _ rfl
/-- super().m(e, ..) as a statement at the head of a body -/
def tSup (g a : Addr) (sp : Sp) (t : TA) : L2.St → Hp → (Hp → Prop) → Prop := fun σ H Q => ∀ q, H q = none → t σ (upd H q (.met g a)) fun vs H2 => H2 q = some (.met g a) ∧ sp (.ref a :: vs) H2 (fun _ H3 => Q H3) C8.E0
theorem sup_stmt {g : Addr} {k : Nat} {sp : Sp} {t : TA} {e : Expr} {es : List Expr} {ap pos ep : Pos} (S : Sup X f cc cda D) (c : SupC X.K C D m g) (F : FnR X.prog X.w X.K X.mg X.base C8.CX0 k g sp) (hr : Room k X.A) (ht : PA X (e :: es) t)
    (I : Inv X pins σ H s) (hN : X.N[i]? = some "self") (hs : σ[i]? = some (some (.ref a))) (ha : H a = some (.ins C dx fs)) (hm : (m == ("__class__" : Str)) = false) (hi : interactive X.env = false)
    (hsw : swapsWith (.Call (.Attribute (.Call (.Name "super" p0) [] [] p1) m ap) (e :: es) [] pos) none ep.line X.env = pure false) {pl : Sem Bool}
    (he : eval (.Call (.Attribute (.Call (.Name "super" p0) [] [] p1) m ap) (e :: es) [] pos) X.env = (do
      let ov ← attributeBase (.Call (.Name "super" p0) [] [] p1) m X.env (eval (.Call (.Name "super" p0) [] [] p1) X.env)
      standAt ap.atName
      let (f, first) ← holding [ov] (getMethod ov m pl)
      callWith pos f first (backTo pos (starEach (e :: es) X.env)) []))
    (hst : starEach (e :: es) X.env = (false, eval e X.env) :: starEach es X.env) (hpl : (backTo pos (starEach (e :: es) X.env)).any (·.1) = false)
    {Qn : Hp → Prop} (h : tSup g a sp t σ H Qn) {Q : Flow → Shared → Prop} (hQ : ∀ H' s', Inv X pins σ H' s' → Qn H' → Q .next s') :
    PySem.wpAt (model X.prog X.w) X.A (.func body X.env) (exec (.Expr (.Call (.Attribute (.Call (.Name "super" p0) [] [] p1) m ap) (e :: es) [] pos) ep) X.env) Q X.xe s := by
  refine PySem.ks_wpAt_Expr_any (PySem.ks_wpAt_MethodCall (pl := pl) (sup_base S I hN hs ha c.sub hm fun so s1 hso I1 => sup_meth c I1 hso ha hm fun q s2 hq I2 => ?_) he) hi hsw
  refine callwith_met (g := g) (a := a) (by rw [hpl]; rfl) c.fi ?_
  rw [hst]
  show wpAny _ _ (evalArgs (.ref q) true ((false, eval e X.env) :: backTo pos (starEach es X.env)) []) _ _ _
  refine Calls.evalArgs_plain ?_
  have z := ht.run pos pins s2 σ _ _ I2 (h q hq)
  rw [hst] at z
  refine thn z fun us s3 ⟨vs, H3, I3, r, hmt, q3⟩ => ⟨met_P I3 hmt, ?_⟩
  refine wpAny_call (PySem.W.method_call (met_P I3 hmt).1 (codeAny_mono (F X.A X.stack s3 H3 (.ref a :: us) (.ref a :: vs) _ C8.E0 hr I3.env0 (.cons rfl r) q3) fun res s' hq => ?_))
  match res, hq with
  | .error er, hq => exact False.elim hq
  | .ok (.ret u), hq =>
    obtain ⟨v, H4, I4, rv, q4⟩ := I3.after hq
    exact hQ H4 s' I4 q4
theorem sup_attr {g so : Addr} {Q : Value → Shared → Prop} {E : Value → Shared → Prop} (c : SupC X.K C D m g) (I : Inv X pins σ H s) (hso : s.heap.get? so = some (PySem.W.ks_superObj D a C)) (ha : H a = some (.ins C dx fs)) (hm : (m == ("__class__" : Str)) = false)
    (hQ : ∀ q s', H q = none → Inv X pins σ (upd H q (.met g a)) s' → Q (.ref q) s') : wpAny (model X.prog X.w) X.A (getAttr (.ref so) m true) Q E s := by
  have KX := I.kIn
  have hne := I.hok.fresh (Nat.le_refl s.heap.objs.size)
  obtain ⟨mA, O, _⟩ := ins_get I.hok ha
  obtain ⟨od, J, _⟩ := O.look
  have hs := c.hm
  unfold PySem.W.ks_superIn at hs
  cases hc : PySem.W.clsIn X.K C with
  | none => rw [hc] at hs; cases hs
  | some cd =>
    rw [hc] at hs
    obtain ⟨of, hof, hofc⟩ : ∃ of, s.heap.get? g = some of ∧ of.cls = .type "function" := by
      have ht' : (X.K.lookup g).map (·.cls) = some (.type "function") := c.ht
      cases z : X.K.lookup g with
      | none => rw [z] at ht'; cases ht'
      | some of => rw [z] at ht'; exact ⟨of, KX _ _ z, Option.some.inj ht'⟩
    obtain ⟨hp, gg, d, t, os⟩ := s
    have hlk := F.ks_slot_super_ga.lookup
    have hT : ∀ t', (⟨hp, gg, d, t', os⟩ : Shared).TypeIs (.ref so) "super" := fun _ => ⟨_, hso, rfl⟩
    unfold getAttr getAttrBy
    refine wpAny_bind (wpAny_mkText (wpAny_holding (wpAny_bind (wpAny_typeOf (hT _) (wpAny_bind (wpAny_of_eq hlk ?_))))))
    show wpAny _ _ (getAttrByItsOwn (.ref so) (.str m t) (.type "super") (.builtin "super.__getattribute__") true true) _ _ _
    unfold getAttrByItsOwn hookBefore callGetattribute boundAndCalled
    refine wpAny_bind (wpAny_of_eq (show (if onTheHeap (.type "super") then typeLookup (.type "super") "__getattr__" else pure none) = pure none from rfl) ?_)
    refine wpAny_bind (wpAny_attempt (wpAny_holding ?_))
    show wpAny _ _ (bindSpecial (.builtin "super.__getattribute__") (.ref so) >>= _) _ _ _
    refine wpAny_bind (wpAny_of_eq (F.ks_slot_super_ga.bind _) ?_)
    refine wpAny_mono (Q := fun v s' => v = .ref hp.objs.size ∧ s' = ⟨hp.push { cls := .type "method", data := .fields #[.ref g, .ref a] }, gg, d, t + 1, os⟩) (E := fun _ _ => False)
      (wpAny_call_entry F.ks_slot_super_ga (hT _) F.ks_entry_super_ga (PySem.ks_wpAny_super_ga hso (PySem.W.looks_opaque KX c.op) (l₀ := cd.mro) (fun A Q E s k q => wpAny_bind ((PySem.W.looks_clsIn KX hc) A _ E s k (wpAny_pure q))) rfl KX hs hof hofc (PySem.W.ks_ne KX J hc) hm ⟨_, rfl, rfl, rfl⟩) (F.ks_gaArgs_super _ _)) (fun v s' hv => ?_) fun _ _ z => z.elim
    obtain ⟨rfl, rfl⟩ := hv
    have fin := hQ _ ⟨hp.push { cls := .type "method", data := .fields #[.ref g, .ref a] }, gg, d, t + 1, os⟩ hne (I.laid (t' := t + 1) (a := hp.objs.size) (o := .met g a) (fun b u z => Heap.get?_push_of_some _ z) (Nat.le_refl _) (Heap.get?_push_size _ rfl))
    exact wpAny_pure fin
/-- super().m(e1, *e2) as a statement at the head of a body -/
def tSup2 (K : PySem.W.Frag) (g a : Addr) (sp : Sp) (t1 t2 : TE) : L2.St → Hp → (Hp → Prop) → Prop := fun σ H Q => ∀ q, H q = none → t1 σ (upd H q (.met g a)) fun y1 H1 => t2 σ H1 fun y2 H2 => ∃ b vs, y2 = .ref b ∧ (SqT K H2 b vs ∨ SqL K H2 b vs) ∧
  H2 q = some (.met g a) ∧ sp (.ref a :: y1 :: vs) H2 (fun _ H3 => Q H3) C8.E0
theorem sup_stmt2 {g : Addr} {k : Nat} {sp : Sp} {t1 t2 : TE} {e1 e2 : Expr} {ap pos ep pp : Pos} (S : Sup X f cc cda D) (c : SupC X.K C D m g) (F : FnR X.prog X.w X.K X.mg X.base C8.CX0 k g sp) (hr : Room k X.A) (h1 : PE X e1 t1) (h2 : PE X e2 t2)
    (I : Inv X pins σ H s) (hN : X.N[i]? = some "self") (hs : σ[i]? = some (some (.ref a))) (ha : H a = some (.ins C dx fs)) (hm : (m == ("__class__" : Str)) = false) (hi : interactive X.env = false)
    (hsw : swapsWith (.Call (.Attribute (.Call (.Name "super" p0) [] [] p1) m ap) [e1, .Starred e2 pp] [] pos) none ep.line X.env = pure false)
    (hst : starEach [e1, .Starred e2 pp] X.env = [(false, eval e1 X.env), (true, eval e2 X.env)])
    {Qn : Hp → Prop} (h : tSup2 X.K g a sp t1 t2 σ H Qn) {Q : Flow → Shared → Prop} (hQ : ∀ H' s', Inv X pins σ H' s' → Qn H' → Q .next s') :
    PySem.wpAt (model X.prog X.w) X.A (.func body X.env) (exec (.Expr (.Call (.Attribute (.Call (.Name "super" p0) [] [] p1) m ap) [e1, .Starred e2 pp] [] pos) ep) X.env) Q X.xe s := by
  have hke : backToKw pos (keywordEach [] X.env) = [] := rfl
  have hform : methodCallForm ([e1, Expr.Starred e2 pp].length + ([] : List Keyword).length) (backTo pos [(false, eval e1 X.env), (true, eval e2 X.env)]) [] = false := rfl
  have hpos : methodCallPos false (.Call (.Name "super" p0) [] [] p1) X.env ap pos = pure pos := rfl
  have hcal : ∀ ov, calleeOf false (.Call (.Name "super" p0) [] [] p1) X.env ov m = (getAttr ov m true >>= fun v => pure (v, [])) := fun _ => rfl
  refine PySem.ks_wpAt_Expr_any ?_ hi hsw
  rw [arm_eval_Call, hst, hke]
  refine PySem.wpAt_bind (PySem.ks_wpAt_mono (sup_base (Q := fun ov s₁ => wpAny (model X.prog X.w) X.A (getAttr ov m true) (fun f s₂ => wpAny (model X.prog X.w) X.A (callWith pos f [] (backTo pos [(false, eval e1 X.env), (true, eval e2 X.env)]) []) (fun _ => Q .next) X.xe s₂) X.xe s₁) S I hN hs ha c.sub hm fun so s1 hso I1 => sup_attr c I1 hso ha hm fun q s2 hq I2 => ?_) (fun ov s₁ h₁ => PySem.wpAt_of_wpAny ?_) fun _ _ x => x)
  · refine PySem.W.ks_call (P := PySem.W.MethP X.K q g (.ref a)) rfl (PySem.W.keeps_M c.fi) (Calls.evalArgs_plain (Calls.spliced_cons (thn (h1.run pins s2 σ _ _ I2 (h q hq)) fun v1 s3 ⟨y1, H2, I3, ry1, q2⟩ =>
      PySem.W.ks_spliced (thn (h2.run pins s3 σ H2 _ I3 q2) fun v2 s4 ⟨y2, H3, I4, ry2, t, vs, ey, ht, hmt, hsp⟩ => ?_))))
    subst ey
    obtain rfl : v2 = Value.ref t := ry2
    refine StX.star_any I4 ht fun us s5 I5 rv => Calls.spliced_nil ?_
    show PySem.W.MethP X.K q g (.ref a) s5.heap ∧ wpAny (model X.prog X.w) X.A (call (.ref q) (v1 :: (us ++ [])) []) _ X.xe s5
    rw [List.append_nil]
    refine ⟨met_P I5 hmt, wpAny_call (PySem.W.method_call (met_P I5 hmt).1 (codeAny_mono (F X.A X.stack s5 H3 (.ref a :: v1 :: us) (.ref a :: y1 :: vs) _ C8.E0 hr I5.env0 (.cons rfl (.cons ry1 rv)) hsp) fun res s' hq => ?_))⟩
    match res, hq with
    | .error er, hq => exact False.elim hq
    | .ok (.ret u), hq =>
      obtain ⟨v, H4, I6, rv4, q4⟩ := I5.after hq
      exact hQ H4 s' I6 q4
  · refine wpAny_bind (wpAny_standAt ?_)
    unfold methodCall
    rw [hform, hpos, hcal]
    refine wpAny_bind (wpAny_holding (wpAny_bind (wpAny_mono h₁ (fun f s₂ h₂ => wpAny_pure ?_) fun _ _ x => x)))
    exact wpAny_bind (wpAny_pure h₂)
end
/-- what the text's top must say of a method that begins with super() -/
structure SupF (P : Program) (K : PySem.W.Frag) (mg : Str → Option Value) (f cc cda D : Addr) (F : NF) : Prop where
  lk : ∃ (oc : Value) (od : Option Addr) (kV doc pm : Value) (an : Option Addr) (ct : Value) (osl : Array (Option Value)),
    K.lookup f = some ⟨oc, od, .func (PySem.W.fnX F.name F.qual F.params F.body F.scope F.cl .none kV doc pm an (.ref cda) ct), osl⟩
  hcl : F.cl = [(("__class__" : Str), cc)]
  hc : F.c = cda
  hcd : PySem.W.codeIn K (.ref cda) F.qual = true
  code : ∃ (o : Obj) (vs : Array Value) (file : Str) (tf : Tok), K.lookup cda = some o ∧ o.data = .fields vs ∧ vs[2]? = some (.str file tf) ∧ ((P.main.file : Str) == file) = true
  cel : ∃ o : Obj, K.lookup cc = some o ∧ o.data = .cell (some (.ref D))
  clD : ∃ (o : Obj) (cd : ClassData), K.lookup D = some o ∧ o.data = .cls cd
  top : (P.main.scope.names.lookup ("super" : Str)).isSome = false
  z : mg "super" = none
/-- .. and its text -/
structure SupT (F : NF) : Prop where
  ar : ∃ ar : Arg, (F.params.posonlyargs ++ F.params.args).head? = some ar ∧ ar.arg = "self"
  ks : F.scope.names.lookup ("super" : Str) = some .globalImplicit
  kc : F.scope.names.lookup ("__class__" : Str) = some .free
  ka : F.scope.names.lookup ("self" : Str) = some .local
section
variable {P : Program} {w : World} {K : PySem.W.Frag} {mg : Str → Option Value} {base : Heap} {f cc cda D g : Addr} {F : NF} {N ps : List Str} {k : Nat} {sp spI : Sp} {rest : List Stmt} {e : Expr} {es : List Expr} {p0 p1 ap pos ep : Pos} {m : Str}
theorem sup_ctx (S : SupF P K mg f cc cda D F) (T : SupT F) {A : Around} {outer : List Env} {s : Shared} {H : Hp} {E : XK} : Sup (ncx C8.CX0 P w K mg base N F f A outer s H E) f cc cda D := by
  obtain ⟨oc, od, kV, doc, pm, an, ct, osl, lk⟩ := S.lk
  obtain ⟨ar, h1, h2⟩ := T.ar
  refine ⟨⟨_, _, ar, lk, rfl, h1, h2⟩, rfl, ?_, S.code, S.cel, ?_, T.ks, T.kc, T.ka, S.top, S.clD, S.z⟩
  · show Value.ref F.c = .ref cda
    rw [S.hc]
  · show F.cl.lookup _ = _
    rw [S.hcl]
    rfl
/-- a method whose first statement is one with super(): that statement by st, the rest as ever -/
theorem fn_sup {st : Stmt} (S : SupF P K mg f cc cda D F) (NS : NScope N ps ["__class__"] F.scope) (hp : ps[0]? = some ("self" : Str)) (hbody : F.body = st :: rest)
    (hbind : ∀ us : List Value, us.length = ps.length → ∀ (kV doc pm : Value) (an : Option Addr) (cdv ct : Value), bindArgs (PySem.W.fnX F.name F.qual F.params F.body F.scope F.cl .none kV doc pm an cdv ct) ⟨us, []⟩ = pure (ps.zip us))
    (len : ∀ vs H Q E, sp vs H Q E → vs.length = ps.length)
    (hrun : ∀ (A : Around) (outer : List Env) (s : Shared) (H : Hp) (vs : List V) (Q : VK) (E : XK), Room k (A.deeper (envF F f s.heap.objs.size)) → sp vs H Q E → N[0]? = some ("self" : Str) →
      ∃ u : TS, PSs (ncx C8.CX0 P w K mg base N F f A outer s H E) rest u ∧ ∀ s1 : Shared, Inv (ncx C8.CX0 P w K mg base N F f A outer s H E) [] (startF N vs [none]) H s1 →
        PySem.wpAt (model P w) (ncx C8.CX0 P w K mg base N F f A outer s H E).A (.func F.body (envF F f s.heap.objs.size)) (exec st (envF F f s.heap.objs.size))
          (fun fl s' => fl = .next ∧ ∃ H1, Inv (ncx C8.CX0 P w K mg base N F f A outer s H E) [] (startF N vs [none]) H1 s' ∧ u { nx := fun _ H' => Q .non H', rt := Q } (startF N vs [none]) H1) (ncx C8.CX0 P w K mg base N F f A outer s H E).xe s1) :
    FnR P w K mg base C8.CX0 (k + 1) f sp := by
  intro A outer s H us vs Q E hr e0 r hsp
  have hl := len _ _ _ _ hsp
  obtain ⟨oc, od, kV, doc, pm, an, ct, osl, lk⟩ := S.lk
  have lim : s.heap.NoLimit := e0.mod.nolimit.keeps fun b o e => (e0.bs b o e).1
  have KX : K.In s.heap := e0.mod.kin.keeps fun b o e => (e0.bs b o e).1
  refine codeAny_call_function hr.depth (KX _ _ lk) rfl NS.co NS.gen rfl (PySem.W.codeRec_of KX S.hcd) ?_
  rw [hbind us (by rw [← r.length]; exact hl)]
  refine wpAny_pure (wpAny_newFunctionEnv NS.nocell (fun ⟨n, _⟩ hy => NS.par n (List.of_mem_zip hy).1) (fun h₁ hns hsb => ⟨lim.fresh _ hsb, ?_⟩) NS.kind)
  have ecd : Value.ref cda = .ref F.c := by rw [S.hc]
  show codeAny _ _ (.func F.body (PySem.W.envX F.qual F.scope s.heap.objs.size f (.ref cda) F.cl)) _ _
  rw [ecd]
  have kp : ∀ b o, s.heap.get? b = some o → h₁.get? b = some o := fun b o e => hsb.extBut b o (Nat.ne_of_lt (Heap.lt_size e)) (Heap.get?_push_of_some _ e)
  obtain ⟨ol, hcel, hcd2⟩ := S.cel
  have CA : CellsAt F.cl ["__class__"] [none] s.heap H := by
    rw [S.hcl]
    refine ⟨rfl, fun y c hy => ?_, fun x y c hx hy => ?_, fun i y hi => ?_⟩
    · have e1 : y = ("__class__" : Str) ∧ cc = c := by
        by_cases z : y = ("__class__" : Str)
        · subst z
          simp [List.lookup] at hy
          exact ⟨rfl, hy⟩
        · have z2 : (y == ("__class__" : Str)) = false := beq_eq_false_iff_ne.mpr z
          simp [List.lookup, z2] at hy
      obtain ⟨_, rfl⟩ := e1
      obtain ⟨b1, b2⟩ := e0.bs _ _ (e0.mod.kin _ _ hcel)
      exact ⟨b2, _, _, b1, hcd2⟩
    · have key : ∀ z : Str, (z = ("__class__" : Str)) ∨ List.lookup z [(("__class__" : Str), cc)] = none := fun z => by
        by_cases q : z = ("__class__" : Str)
        · exact .inl q
        · have z2 : (z == ("__class__" : Str)) = false := beq_eq_false_iff_ne.mpr q
          exact .inr (by simp [List.lookup, z2])
      rcases key x with e1 | e1
      · rcases key y with e2 | e2
        · rw [e1, e2]
        · rw [e2] at hy
          cases hy
      · rw [e1] at hx
        cases hx
    · cases i with
      | zero =>
        have e1 : ("__class__" : Str) = y := Option.some.inj hi
        subst e1
        exact ⟨cc, by simp [List.lookup], fun v z => by cases z⟩
      | succ i => simp at hi
  have I : Inv (ncx C8.CX0 P w K mg base N F f A outer s H E) [] (startF N vs [none]) H { s with heap := h₁, toks := s.toks + (ps.zip us).length } := inv_startN NS hr.hd e0 hl r CA hns kp
  have hN : N[0]? = some ("self" : Str) := by
    have q : (N.take (ps.length + [("__class__" : Str)].length))[0]? = (ps ++ [("__class__" : Str)])[0]? := by rw [NS.pre]
    have lp : 0 < ps.length := by
      cases ps with
      | nil => cases hp
      | cons _ _ => exact Nat.succ_pos _
    rw [List.getElem?_take_of_lt (by omega), List.getElem?_append_left lp] at q
    rw [q]
    exact hp
  refine PySem.ks_codeAny_funcAt ?_
  obtain ⟨u, pr, hq⟩ := hrun A outer s H vs Q E (hr.deeper _) hsp hN
  have hst := hq _ I
  rw [hbody] at hst ⊢
  refine PySem.ks_wpAt_execs_cons (PySem.ks_wpAt_mono hst (fun fl0 s1 z => ?_) fun _ _ x => x)
  obtain ⟨rfl, H1, I1, hu⟩ := z
  refine PySem.ks_wpAt_mono (PySem.wpAt_of_wpAny (pr.run [] s1 _ H1 _ I1 hu)) (fun fl s' hs => ?_) fun _ _ x => x
  cases fl with
  | ret u' =>
    obtain ⟨v, σ', H', J, rv, q⟩ := hs
    exact ⟨v, H', J.os, J.bare, J.base, J.hok, rv, q⟩
  | next =>
    obtain ⟨σ', H', J, q⟩ := hs
    exact ⟨V.non, H', J.os, J.bare, J.base, J.hok, rfl, q⟩
  | brk =>
    obtain ⟨_, _, _, q⟩ := hs
    exact q.elim
  | cont =>
    obtain ⟨_, _, _, q⟩ := hs
    exact q.elim
end
end Gd

set_option Elab.async false
set_option linter.all false
set_option maxRecDepth 100000
set_option maxHeartbeats 2000000
/-! the head by one run of the kernel, with methods that close over their class -/
namespace Gd
open PySem PySem.Spec PyProof.Rows L2
/-- the part of the heap that the look reads -/
def frX (n : Nat) (g : Addr → Option Obj) : PySem.W.Frag := He.frG g ([cStatics, sysModules] ++ He.asD g n)
abbrev FnVX : Type := Option (Str × Str × Arguments × FuncBody × Scope × Addr × List Str × Value × Addr)
def obsX (K : PySem.W.Frag) (p : Str × Option Str) : FnVX := match K.lookup (He.fAd K p) with
  | some ⟨_, _, .func fd, _⟩ => some (fd.name, fd.qualname, fd.params, fd.body, fd.scope, fd.globals, fd.closure.map (·.1), fd.defaults, fd.builtins)
  | _ => none
/-- a def: where, its names, its text, the names that it closes over -/
structure FnDX where
  at_ : Str × Option Str
  name : Str
  qual : Str
  params : Arguments
  body : List Stmt
  scope : Scope
  ov : List Str
def FnDX.val (d : FnDX) : FnVX := some (d.name, d.qual, d.params, .stmts d.body, d.scope, mainGlobals, d.ov, .none, builtinsNs)
def obX (n : Nat) (B : PySem.W.Frag → Bool) (fn : List FnDX) (g : Addr → Option Obj) : Bool × List FnVX := (B (frX n g), fn.map fun d => obsX (frX n g) d.at_)
def SaysX (B : PySem.W.Frag → Bool) (fn : List FnDX) (K : PySem.W.Frag) : Prop := B K = true ∧ fn.map (fun d => obsX K d.at_) = fn.map FnDX.val
def hkX (n : Nat) (B : PySem.W.Frag → Bool) (fn : List FnDX) : PySem.W.Hook where
  α := Bool × List FnVX
  obs := fun s => obX n B fn s.heap.get?
  val := fun _ => (true, fn.map FnDX.val)
  says := fun _ h => ∃ K : PySem.W.Frag, K.In h ∧ SaysX B fn K
  of := fun _ s e => ⟨frX n s.heap.get?, He.frG_in, congrArg (fun z => z.1) e, congrArg (fun z => z.2) e⟩
  keeps := fun _ _ _ ⟨K, hK, c⟩ k => ⟨K, PySem.W.Frag.In.keeps hK k, c⟩
theorem obX_eq {n : Nat} {B : PySem.W.Frag → Bool} {fn : List FnDX} (s : PySem.W.SharedT) : obX n B fn (HandSHeadRun.getT s) = (hkX n B fn).obs s.abs := by
  have e : HandSHeadRun.getT s = s.abs.heap.get? := funext (HandSHeadRun.getT_eq s)
  rw [e]
  rfl
theorem SaysX.fn {B : PySem.W.Frag → Bool} {fn : List FnDX} {K : PySem.W.Frag} (c : SaysX B fn K) (i : Nat) {d : FnDX} (h : fn[i]? = some d) : obsX K d.at_ = d.val := by
  have e : (fn.map fun d => obsX K d.at_)[i]? = (fn.map FnDX.val)[i]? := by rw [c.2]
  rw [List.getElem?_map, List.getElem?_map, h] at e
  exact Option.some.inj e
def gdX (x : Str) (st : Stmt) : FnDX := ⟨(x, none), x, x, C8.fnArgs st, C8.fnBody st, C8.fnScope st, []⟩
def cdX (x m q : Str) (st : Stmt) (ov : List Str) : FnDX := ⟨(x, some m), m, q, C8.fnArgs st, C8.fnBody st, C8.fnScope st, ov⟩
/-- the function as it stands -/
theorem fnX_at {K : PySem.W.Frag} {d : FnDX} (e : obsX K d.at_ = d.val) : ∃ oc od osl kV doc pm an cdv ct cl, cl.map (·.1) = d.ov ∧ K.lookup (He.fAd K d.at_) = some ⟨oc, od, .func (PySem.W.fnX d.name d.qual d.params d.body d.scope cl .none kV doc pm an cdv ct), osl⟩ := by
  unfold obsX at e
  cases q : K.lookup (He.fAd K d.at_) with
  | none =>
    rw [q] at e
    cases e
  | some o =>
    obtain ⟨oc, od, dt, osl⟩ := o
    rw [q] at e
    cases dt with
    | func fd =>
      obtain ⟨n1, n2, n3, n4, n5, n6, n7, n8, n9, n10, n11, n12, n13, n14, n15⟩ := fd
      have e2 : (some (n1, n2, n3, n4, n5, n6, n7.map (·.1), n8, n15) : FnVX) = some (d.name, d.qual, d.params, .stmts d.body, d.scope, mainGlobals, d.ov, .none, builtinsNs) := e
      simp only [Option.some.injEq, Prod.mk.injEq] at e2
      obtain ⟨h1, h2, h3, h4, h5, h6, h7, h8, h9⟩ := e2
      subst h1 h2 h3 h4 h5 h6 h8 h9
      exact ⟨oc, od, osl, n9, n10, n11, n12, n13, n14, n7, h7, rfl⟩
    | _ => cases e
theorem funX_of {K : PySem.W.Frag} {p : Str × Option Str} {x q : Str} {st : Stmt} (o : obsX K p = FnDX.val ⟨p, x, q, C8.fnArgs st, C8.fnBody st, C8.fnScope st, []⟩) (cd : (He.Fa.code p q).ok K = true) :
    ∃ fd, C8.Fun K x q st (He.fAd K p) fd ∧ fd.defaults = .none := by
  obtain ⟨oc, od, osl, kV, doc, pm, an, cdv, ct, cl, h, l⟩ := fnX_at (d := ⟨p, x, q, C8.fnArgs st, C8.fnBody st, C8.fnScope st, []⟩) o
  obtain rfl : cl = [] := List.map_eq_nil_iff.mp h
  have c2 : (match K.lookup (He.fAd K p) with
    | some ⟨_, _, .func fd, _⟩ => PySem.W.codeIn K fd.code q
    | _ => false) = true := cd
  rw [l] at c2
  exact ⟨_, ⟨oc, od, .none, kV, doc, pm, an, cdv, ct, osl, rfl, l, c2⟩, rfl⟩
theorem defX_of {K : PySem.W.Frag} {h : Heap} {mg : Str → Option Value} {x : Str} {st : Stmt} (X : K.In h) (G : h.Ns mainGlobals mg) (o : obsX K (x, none) = (gdX x st).val) (g : (He.Fa.glo x).ok K = true) (k : (He.Fa.keep x).ok K = true)
    (cd : (He.Fa.code (x, none) x).ok K = true) : ∃ fd, C8.Def K mg x st (He.ga K x) fd ∧ fd.defaults = .none := by
  obtain ⟨fd, F, e⟩ := funX_of (p := (x, none)) o cd
  exact ⟨fd, ⟨F, He.glo_ok X G g, k⟩, e⟩
/-! ### methods that begin with super() -/
def ccA (K : PySem.W.Frag) (p : Str × Option Str) : Addr := match K.lookup (He.fAd K p) with
  | some ⟨_, _, .func fd, _⟩ => (match fd.closure with
    | [(_, a)] => a
    | _ => 0)
  | _ => 0
def cdA (K : PySem.W.Frag) (p : Str × Option Str) : Addr := match K.lookup (He.fAd K p) with
  | some ⟨_, _, .func fd, _⟩ => (match fd.code with
    | .ref a => a
    | _ => 0)
  | _ => 0
def codB (K : PySem.W.Frag) (p : Str × Option Str) (q : Str) : Bool := match K.lookup (He.fAd K p) with
  | some ⟨_, _, .func fd, _⟩ => (match fd.code with
    | .ref a => PySem.W.codeIn K (.ref a) q
    | _ => false)
  | _ => false
def filB (K : PySem.W.Frag) (a : Addr) (file : Str) : Bool := match K.lookup a with
  | some ⟨_, _, .fields vs, _⟩ => (match (vs[2]? : Option Value) with
    | some (.str z _) => file == z
    | _ => false)
  | _ => false
def celB (K : PySem.W.Frag) (a D : Addr) : Bool := match K.lookup a with
  | some ⟨_, _, .cell (some (.ref b)), _⟩ => decide (b = D)
  | _ => false
def isClsB (K : PySem.W.Frag) (D : Addr) : Bool := match K.lookup D with
  | some ⟨_, _, .cls _, _⟩ => true
  | _ => false
def supB (K : PySem.W.Frag) (p : Str × Option Str) (q file : Str) (D : Addr) : Bool := codB K p q && (filB K (cdA K p) file && (celB K (ccA K p) D && isClsB K D))
theorem supF_of {P : Program} {K : PySem.W.Frag} {mg : Str → Option Value} {p : Str × Option Str} {m q file : Str} {st : Stmt} {D : Addr} (o : obsX K p = FnDX.val ⟨p, m, q, C8.fnArgs st, C8.fnBody st, C8.fnScope st, ["__class__"]⟩) (b : supB K p q file D = true)
    (hf : P.main.file = file) (ht : (P.main.scope.names.lookup ("super" : Str)).isSome = false) (hz : mg "super" = none) :
    SupF P K mg (He.fAd K p) (ccA K p) (cdA K p) D ⟨m, q, C8.fnArgs st, C8.fnBody st, C8.fnScope st, [("__class__", ccA K p)], cdA K p⟩ := by
  obtain ⟨b1, b⟩ := Bool.and_eq_true_iff.mp b
  obtain ⟨b2, b⟩ := Bool.and_eq_true_iff.mp b
  obtain ⟨b3, b4⟩ := Bool.and_eq_true_iff.mp b
  obtain ⟨oc, od, osl, kV, doc, pm, an, cdv, ct, cl, h, l⟩ := fnX_at (d := ⟨p, m, q, C8.fnArgs st, C8.fnBody st, C8.fnScope st, ["__class__"]⟩) o
  obtain ⟨cca, rfl⟩ : ∃ a, cl = [(("__class__" : Str), a)] := by
    match cl, h with
    | [(z, a)], h =>
      have e : z = ("__class__" : Str) := (List.cons.inj h).1
      exact ⟨a, by rw [e]⟩
  unfold codB at b1
  rw [l] at b1
  obtain ⟨cda, rfl⟩ : ∃ a, cdv = .ref a := by
    cases cdv with
    | ref a => exact ⟨a, rfl⟩
    | _ => cases b1
  have ec : ccA K p = cca := by
    unfold ccA
    rw [l]
  have ed : cdA K p = cda := by
    unfold cdA
    rw [l]
  rw [ed] at b2
  rw [ec] at b3
  rw [ec, ed]
  refine ⟨⟨oc, od, kV, doc, pm, an, ct, osl, l⟩, rfl, rfl, b1, ?_, ?_, ?_, ht, hz⟩
  · unfold filB at b2
    cases q2 : K.lookup cda with
    | none => rw [q2] at b2; cases b2
    | some ob =>
      obtain ⟨o1, o2, dt, o4⟩ := ob
      rw [q2] at b2
      cases dt with
      | fields vs =>
        have b5 : (match (vs[2]? : Option Value) with
          | some (.str z _) => file == z
          | _ => false) = true := b2
        cases q3 : vs[2]? with
        | none => rw [q3] at b5; cases b5
        | some v =>
          rw [q3] at b5
          cases v with
          | str z t => exact ⟨_, vs, z, t, rfl, rfl, q3, by rw [hf]; exact b5⟩
          | _ => cases b5
      | _ => cases b2
  · unfold celB at b3
    cases q2 : K.lookup cca with
    | none => rw [q2] at b3; cases b3
    | some ob =>
      obtain ⟨o1, o2, dt, o4⟩ := ob
      rw [q2] at b3
      cases dt with
      | cell v =>
        cases v with
        | none => cases b3
        | some v =>
          cases v with
          | ref b =>
            obtain rfl : b = D := of_decide_eq_true b3
            exact ⟨_, rfl, rfl⟩
          | _ => cases b3
      | _ => cases b3
  · unfold isClsB at b4
    cases q2 : K.lookup D with
    | none => rw [q2] at b4; cases b4
    | some ob =>
      obtain ⟨o1, o2, dt, o4⟩ := ob
      rw [q2] at b4
      cases dt with
      | cls cd => exact ⟨_, cd, rfl, rfl⟩
      | _ => cases b4
/-! ### classes -/
def icB (K : PySem.W.Frag) (C : Addr) : Bool := PySem.W.plainGet K C Str.empty && (PySem.W.hasDictIn K C && (PySem.W.plainOver K C && (He.eqO (PySem.W.findIn K (.ref C) "__setattr__") (some (some (.builtin "object.__setattr__"))) &&
  (He.eqO (PySem.W.findIn K (.ref C) "__class__") (some (some (.builtin "object.__class__"))) && (He.eqO (PySem.W.specialIn K (.builtin "object.__class__") "__get__") (some (some (.builtin "getset_descriptor.__get__"))) &&
  (decide (PySem.W.takesIn K (.builtin "object.__class__") = some true) && (decide (PySem.W.mroIn K C (.type "object") = some true) && decide (PySem.W.kitOne K (.ref C) (.ref C) = some true))))))))
theorem icB_ok {K : PySem.W.Frag} {C : Addr} (h : icB K C = true) : C8.InsC K C := by
  obtain ⟨h1, h⟩ := Bool.and_eq_true_iff.mp h
  obtain ⟨h2, h⟩ := Bool.and_eq_true_iff.mp h
  obtain ⟨h3, h⟩ := Bool.and_eq_true_iff.mp h
  obtain ⟨h4, h⟩ := Bool.and_eq_true_iff.mp h
  obtain ⟨h5, h⟩ := Bool.and_eq_true_iff.mp h
  obtain ⟨h6, h⟩ := Bool.and_eq_true_iff.mp h
  obtain ⟨h7, h⟩ := Bool.and_eq_true_iff.mp h
  obtain ⟨h8, h9⟩ := Bool.and_eq_true_iff.mp h
  exact ⟨⟨h1, h2, h3, He.eqO_ok h4⟩, He.eqO_ok h5, He.eqO_ok h6, of_decide_eq_true h7, of_decide_eq_true h8, of_decide_eq_true h9⟩
def nmB (K : PySem.W.Frag) (C : Addr) (z : Str) : Bool := PySem.W.readsIn K C (.type "type") && ((match PySem.W.findCls K (.ref C) (.type "type") "__name__" with
  | some (.get g a o t) => decide (g = .builtin "getset_descriptor.__get__") && (decide (a = .builtin "type.__name__") && (decide (o = .ref C) && decide (t = .type "type")))
  | _ => false) && (decide (PySem.W.typeIn K (.ref C) = some (.type "type")) && (match K.lookup C with
  | some o => (match (o.slots[2]? : Option (Option Value)) with
    | some (some (.str y _)) => decide (y = z)
    | _ => false)
  | _ => false)))
theorem nmB_ok {K : PySem.W.Frag} {C : Addr} {z : Str} (h : nmB K C z = true) : NameC K C z := by
  obtain ⟨h1, h⟩ := Bool.and_eq_true_iff.mp h
  obtain ⟨h2, h⟩ := Bool.and_eq_true_iff.mp h
  obtain ⟨h3, h4⟩ := Bool.and_eq_true_iff.mp h
  refine ⟨h1, ?_, of_decide_eq_true h3, ?_⟩
  · split at h2
    · rename_i g a o t e
      obtain ⟨e1, h2⟩ := Bool.and_eq_true_iff.mp h2
      obtain ⟨e2, h2⟩ := Bool.and_eq_true_iff.mp h2
      obtain ⟨e3, e4⟩ := Bool.and_eq_true_iff.mp h2
      rw [e, of_decide_eq_true e1, of_decide_eq_true e2, of_decide_eq_true e3, of_decide_eq_true e4]
    · cases h2
  · cases q : K.lookup C with
    | none => rw [q] at h4; cases h4
    | some o =>
      rw [q] at h4
      have h5 : (match (o.slots[2]? : Option (Option Value)) with
        | some (some (.str y _)) => decide (y = z)
        | _ => false) = true := h4
      split at h5
      · rename_i y t e
        obtain rfl : y = z := of_decide_eq_true h5
        exact ⟨o, t, rfl, e⟩
      · cases h5
theorem rg {n : Nat} {p : Nat → Bool} (h : (List.range n).all p = true) (i : Nat) (hi : i < n) : p i = true := List.all_eq_true.mp h i (List.mem_range.mpr hi)
def mkB (K : PySem.W.Frag) (C f : Addr) : Bool := PySem.W.makesIn K C && (He.eqO (PySem.W.findIn K (.ref C) "__init__") (some (some (.ref f))) && (PySem.W.isFn K (.ref f) && PySem.W.keepIn K (.ref C)))
theorem mkB_ok {K : PySem.W.Frag} {C f : Addr} (h : mkB K C f = true) : Mk K C f := by
  obtain ⟨h1, h⟩ := Bool.and_eq_true_iff.mp h
  obtain ⟨h2, h⟩ := Bool.and_eq_true_iff.mp h
  obtain ⟨h3, h4⟩ := Bool.and_eq_true_iff.mp h
  exact ⟨h1, He.eqO_ok h2, h3, h4⟩
def scB (K : PySem.W.Frag) (C D : Addr) (m : Str) (g : Addr) : Bool := He.eqO (PySem.W.nsIn K cStatics "thirdparty.any") (some none) && (He.eqO (PySem.W.ks_superIn K C D m) (some (some (.ref g))) && (decide (PySem.W.typeIn K (.ref g) = some (.type "function")) &&
  (decide (PySem.W.mroIn K C (.ref D) = some true) && PySem.W.fnIn K g)))
theorem scB_ok {K : PySem.W.Frag} {C D g : Addr} {m : Str} (h : scB K C D m g = true) : SupC K C D m g := by
  obtain ⟨h1, h⟩ := Bool.and_eq_true_iff.mp h
  obtain ⟨h2, h⟩ := Bool.and_eq_true_iff.mp h
  obtain ⟨h3, h⟩ := Bool.and_eq_true_iff.mp h
  obtain ⟨h4, h5⟩ := Bool.and_eq_true_iff.mp h
  exact ⟨He.eqO_ok h1, He.eqO_ok h2, of_decide_eq_true h3, of_decide_eq_true h4, h5⟩
end Gd

set_option Elab.async false
set_option linter.all false
set_option maxRecDepth 100000
set_option maxHeartbeats 1000000
namespace K56
open PySem PySem.Spec PyProof.Rows L2 Gd
/-! ### the text -/
def topS (i : Nat) : Stmt := PySem.Challenge.pw_dimkeeper_k56_papers_of_every_class.main.body.getD i (.Pass ⟨0, 0, 0, 0⟩)
abbrev sfixed : Stmt := topS 1
theorem scfixed : FnScope ["value", "key", "part"] ["value"] (C8.fnScope sfixed) := C8.fnScope_by (by decide +kernel)
abbrev s_law_font : Stmt := topS 58
theorem sc_law_font : FnScope ["_law_script", "_law_cell"] ["_law_script"] (C8.fnScope s_law_font) := C8.fnScope_by (by decide +kernel)
abbrev s_law_drip : Stmt := topS 59
theorem sc_law_drip : FnScope ["_law_font_here", "_law_many", "_law_rest", "_law_turn", "_law_cell", "_law_mixed"] ["_law_font_here", "_law_many"] (C8.fnScope s_law_drip) := C8.fnScope_by (by decide +kernel)
abbrev s_law_fill : Stmt := topS 60
theorem sc_law_fill : FnScope ["_law_font_here", "_law_some"] ["_law_font_here", "_law_some"] (C8.fnScope s_law_fill) := C8.fnScope_by (by decide +kernel)
abbrev s_law_value : Stmt := topS 61
theorem sc_law_value : FnScope ["_law_font_here", "_law_depth", "_law_way", "_law_plain", "_law_pairs", "_law_turn", "_law_due", "_law_pair", "_law_made", "_law_keys", "_law_at", "_law_key"] ["_law_font_here", "_law_depth"] (C8.fnScope s_law_value) := C8.fnScope_by (by decide +kernel)
abbrev s_law_ones : Stmt := topS 62
theorem sc_law_ones : FnScope ["_law_a", "_law_rows", "_law_place", "_law_named", "_law_told", "_law_word"] ["_law_a"] (C8.fnScope s_law_ones) := C8.fnScope_by (by decide +kernel)
abbrev s_law_twos : Stmt := topS 63
theorem sc_law_twos : FnScope ["_law_a", "_law_b", "_law_one", "_law_two", "_law_three", "_law_rows"] ["_law_a", "_law_b"] (C8.fnScope s_law_twos) := C8.fnScope_by (by decide +kernel)
abbrev s_law_threes : Stmt := topS 64
theorem sc_law_threes : FnScope ["_law_a", "_law_b", "_law_c", "_law_one", "_law_two", "_law_three", "_law_rows"] ["_law_a", "_law_b", "_law_c"] (C8.fnScope s_law_threes) := C8.fnScope_by (by decide +kernel)
abbrev s_law_more : Stmt := topS 65
theorem sc_law_more : FnScope ["_law_a", "_law_b", "_law_c", "_law_d", "_law_e", "_law_one", "_law_two", "_law_rows", "_law_told"] ["_law_a", "_law_b", "_law_c", "_law_d", "_law_e"] (C8.fnScope s_law_more) := C8.fnScope_by (by decide +kernel)
abbrev s_law_rows_right : Stmt := topS 66
theorem sc_law_rows_right : FnScope ["_law_rows", "_law_due", "_law_denials", "_law_at", "_law_row", "_law_place", "_law_named", "_law_told", "_law_word", "_law_spot", "_law_other"] ["_law_rows", "_law_due"] (C8.fnScope s_law_rows_right) := C8.fnScope_by (by decide +kernel)
abbrev s_law_unlike_right : Stmt := topS 67
theorem sc_law_unlike_right : FnScope ["_law_font_here", "_law_parts", "_law_spot", "_law_more_here", "_law_rows", "_law_others", "_law_at", "_law_row"] ["_law_font_here", "_law_parts"] (C8.fnScope s_law_unlike_right) := C8.fnScope_by (by decide +kernel)
abbrev slaw : Stmt := topS 68
theorem sclaw : FnScope ["_law_script", "_law_font_here", "_law_pairs", "_law_turn", "_law_a", "_law_b", "_law_c", "_law_d", "_law_e", "_law_pair", "_law_due", "_law_more_here"] ["_law_script"] (C8.fnScope slaw) := C8.fnScope_by (by decide +kernel)
/-! ### what the top has written -/
def Df (K : PySem.W.Frag) (mg : Str → Option Value) (x : Str) (st : Stmt) (ps : List Str) : Prop := ∃ (f : Addr) (fd : FuncData), C8.Def K mg x st f fd ∧ Binds K fd ps []
structure Txt (K : PySem.W.Frag) (mg : Str → Option Value) : Prop where
  d_fixed : Df K mg "fixed" sfixed ["value"]
  d_law_font : Df K mg "_law_font" s_law_font ["_law_script"]
  d_law_drip : Df K mg "_law_drip" s_law_drip ["_law_font_here", "_law_many"]
  d_law_fill : Df K mg "_law_fill" s_law_fill ["_law_font_here", "_law_some"]
  d_law_value : Df K mg "_law_value" s_law_value ["_law_font_here", "_law_depth"]
  d_law_ones : Df K mg "_law_ones" s_law_ones ["_law_a"]
  d_law_twos : Df K mg "_law_twos" s_law_twos ["_law_a", "_law_b"]
  d_law_threes : Df K mg "_law_threes" s_law_threes ["_law_a", "_law_b", "_law_c"]
  d_law_more : Df K mg "_law_more" s_law_more ["_law_a", "_law_b", "_law_c", "_law_d", "_law_e"]
  d_law_rows_right : Df K mg "_law_rows_right" s_law_rows_right ["_law_rows", "_law_due"]
  d_law_unlike_right : Df K mg "_law_unlike_right" s_law_unlike_right ["_law_font_here", "_law_parts"]
  d_law : Df K mg "law" slaw ["_law_script"]
  z_isinstance : mg "isinstance" = none
  z_dict : mg "dict" = none
  z_list : mg "list" = none
  z_tuple : mg "tuple" = none
  z_sorted : mg "sorted" = none
  z_int : mg "int" = none
  z_len : mg "len" = none
  z_abs : mg "abs" = none
  z_range : mg "range" = none
  z_repr : mg "repr" = none
  z_bool : mg "bool" = none
  z_super : mg "super" = none
  z_enumerate : mg "enumerate" = none
end K56

set_option Elab.async false
set_option linter.all false
set_option maxRecDepth 100000
set_option maxHeartbeats 1000000
namespace K56
open PySem PySem.Spec PyProof.Rows L2 Gd NdefX
/-! ### the classes of papers: Paper, Denial, Holds, Broken, Held, Lost, Kept -/
def nmP : Nat → Str
  | 0 => "Paper"
  | 1 => "Denial"
  | 2 => "Held"
  | 3 => "Lost"
  | 4 => "Shared"
  | 5 => "Parting"
  | 6 => "Serves"
  | 7 => "Holds"
  | 8 => "Lacks"
  | 9 => "Broken"
  | 10 => "Uncovered"
  | 11 => "Delay"
  | 12 => "Ring"
  | 13 => "Kept"
  | 14 => "Refusal"
  | 15 => "Patience"
  | 16 => "Never"
  | 17 => "DelayFront"
  | 18 => "Handed"
  | 19 => "Dropped"
  | 20 => "Safe"
  | 21 => "Unsafe"
  | 22 => "Implied"
  | 23 => "Apart"
  | 24 => "Least"
  | 25 => "Losing"
  | 26 => "SureTime"
  | 27 => "MomentFront"
  | 28 => "PromiseFront"
  | 29 => "SightFront"
  | 30 => "Stays"
  | 31 => "Slips"
  | 32 => "Firm"
  | 33 => "Unfirm"
  | 34 => "Steady"
  | _ => ""
def posP : Nat → Nat
  | 0 => 2
  | 1 => 3
  | 2 => 5
  | 3 => 6
  | 4 => 8
  | 5 => 9
  | 6 => 11
  | 7 => 12
  | 8 => 13
  | 9 => 14
  | 10 => 16
  | 11 => 18
  | 12 => 19
  | 13 => 21
  | 14 => 23
  | 15 => 25
  | 16 => 26
  | 17 => 28
  | 18 => 30
  | 19 => 31
  | 20 => 33
  | 21 => 34
  | 22 => 36
  | 23 => 37
  | 24 => 39
  | 25 => 41
  | 26 => 43
  | 27 => 45
  | 28 => 47
  | 29 => 49
  | 30 => 51
  | 31 => 52
  | 32 => 54
  | 33 => 55
  | 34 => 56
  | _ => 0
def upP (i : Nat) : Nat := if [3, 5, 8, 9, 10, 12, 14, 16, 19, 21, 23, 31, 33].contains i then 1 else 0
/-- a class is another one or lies below it -/
def belP (i j : Nat) : Bool := decide (i = j) || decide (j = 0) || (decide (j = 1) && [3, 5, 8, 9, 10, 12, 14, 16, 19, 21, 23, 31, 33].contains i)
def fldN : List Str := [("word" : Str), ("parts" : Str), ("at" : Str), ("cases" : Str), ("closed" : Str), ("deeds" : Str), ("delay" : Str), ("enough" : Str), ("entries" : Str), ("firm" : Str), ("first" : Str), ("heights" : Str), ("held" : Str), ("kept" : Str), ("lines" : Str), ("never" : Str), ("number" : Str), ("page" : Str), ("pages" : Str), ("pairs" : Str), ("places" : Str), ("play" : Str), ("points" : Str), ("ranked" : Str), ("reading" : Str), ("refusal" : Str), ("ring" : Str), ("row" : Str), ("sets" : Str), ("short" : Str), ("sight" : Str), ("spots" : Str), ("stands" : Str), ("states" : Str), ("steps" : Str), ("table" : Str), ("tree" : Str), ("triples" : Str), ("unfirm" : Str), ("way" : Str)]
abbrev mS (i j : Nat) : Stmt := (C8.clsBody (topS (posP i))).getD j (.Pass ⟨0, 0, 0, 0⟩)
abbrev nfP (i : Nat) (cc cda : Addr) : NF := ⟨"__init__", nmP i ++ ".__init__", C8.fnArgs (mS i 0), C8.fnBody (mS i 0), C8.fnScope (mS i 0), [("__class__", cc)], cda⟩
end K56

set_option Elab.async false
set_option linter.all false
set_option maxRecDepth 100000
set_option maxHeartbeats 2000000
namespace K56
open PySem PySem.Spec PyProof.Rows L2 Gd
def cK (K : PySem.W.Frag) (i : Nat) : Addr := He.ga K (nmP i)
def fK (K : PySem.W.Frag) (i : Nat) : Addr := He.fAd K (nmP i, some "__init__")
def ccK (K : PySem.W.Frag) (i : Nat) : Addr := ccA K (nmP i, some "__init__")
def cdK (K : PySem.W.Frag) (i : Nat) : Addr := cdA K (nmP i, some "__init__")
def fEK (K : PySem.W.Frag) : Addr := He.fAd K ("Paper", some "__eq__")
def fBK (K : PySem.W.Frag) : Addr := He.fAd K ("Denial", some "__bool__")
def oneB (K : PySem.W.Frag) (file : Str) (i : Nat) : Bool := (He.Fa.glo (nmP i)).ok K && (icB K (cK K i) && (nmB K (cK K i) (nmP i) && (He.eqO (PySem.W.findIn K (.ref (cK K i)) "__eq__") (some (some (.ref (fEK K)))) && (mkB K (cK K i) (fK K i) &&
  ((fldN.all fun x => He.eqO (PySem.W.findIn K (.ref (cK K i)) x) (some none)) && (decide (PySem.W.subIn K (.type "tuple") (.ref (cK K i)) = some false) &&
  (He.eqO (PySem.W.findIn K (.ref (cK K i)) "__bool__") (some (if belP i 1 = true then some (.ref (fBK K)) else none)) && (He.eqO (PySem.W.findIn K (.ref (cK K i)) "__len__") (some none) &&
  (decide (i = 0) || supB K (nmP i, some "__init__") (nmP i ++ ".__init__") file (cK K i))))))))))
def twoB (K : PySem.W.Frag) (i j : Nat) : Bool := (decide (1 < j) || decide (PySem.W.kitOne K (.ref (cK K i)) (.ref (cK K j)) = some (belP i j))) && (decide (PySem.W.subIn K (.ref (cK K i)) (.ref (cK K j)) = some (belP i j)) && ((!decide (cK K i = cK K j) || decide (i = j)) &&
  (!(decide (0 < j) && belP i j) || scB K (cK K i) (cK K j) "__init__" (fK K (upP j)))))
def tzB (file : Str) (K : PySem.W.Frag) : Bool := ((List.range 35).all fun i => oneB K file i) && (((List.range 35).all fun i => (List.range 35).all fun j => twoB K i j) && (decide (PySem.W.kitOne K (.type "tuple") (.ref (cK K 0)) = some false) && (PySem.W.isFn K (.ref (fEK K)) && (PySem.W.isFn K (.ref (fBK K)) && ((K.lookup sysModules).isSome &&
  ((He.Fa.code ("Paper", some "__init__") "Paper.__init__").ok K && ((He.Fa.code ("Paper", some "__eq__") "Paper.__eq__").ok K && (He.Fa.code ("Denial", some "__bool__") "Denial.__bool__").ok K)))))))
def fnP (i : Nat) : FnDX := ⟨(nmP i, some "__init__"), "__init__", nmP i ++ ".__init__", C8.fnArgs (mS i 0), C8.fnBody (mS i 0), C8.fnScope (mS i 0), ["__class__"]⟩
end K56

set_option Elab.async false
set_option linter.all false
set_option maxRecDepth 100000
set_option maxHeartbeats 4000000
namespace K56
open PySem PySem.Spec PyProof.Rows L2 Gd
def fileK : Str := PySem.Challenge.pw_dimkeeper_k56_papers_of_every_class.main.file
def fas0 : List He.Fa := [.glo "fixed", .keep "fixed", .code ("fixed", none) "fixed", .glo "_law_font", .keep "_law_font", .code ("_law_font", none) "_law_font", .glo "_law_drip", .keep "_law_drip", .code ("_law_drip", none) "_law_drip", .glo "_law_fill", .keep "_law_fill", .code ("_law_fill", none) "_law_fill", .glo "_law_value", .keep "_law_value", .code ("_law_value", none) "_law_value", .glo "_law_ones", .keep "_law_ones", .code ("_law_ones", none) "_law_ones", .glo "_law_twos", .keep "_law_twos", .code ("_law_twos", none) "_law_twos", .glo "_law_threes", .keep "_law_threes", .code ("_law_threes", none) "_law_threes", .glo "_law_more", .keep "_law_more", .code ("_law_more", none) "_law_more", .glo "_law_rows_right", .keep "_law_rows_right", .code ("_law_rows_right", none) "_law_rows_right"]
def fas1 : List He.Fa := [.glo "_law_unlike_right", .keep "_law_unlike_right", .code ("_law_unlike_right", none) "_law_unlike_right", .glo "law", .keep "law", .code ("law", none) "law", .free "isinstance", .free "dict", .free "list", .free "tuple", .free "sorted", .free "int", .free "len", .free "abs", .free "range", .free "repr", .free "bool", .free "super", .free "enumerate"]
def fas : List He.Fa := fas0 ++ fas1
def fnx0 : List FnDX := [gdX "fixed" sfixed, gdX "_law_font" s_law_font, gdX "_law_drip" s_law_drip, gdX "_law_fill" s_law_fill, gdX "_law_value" s_law_value, gdX "_law_ones" s_law_ones, gdX "_law_twos" s_law_twos, gdX "_law_threes" s_law_threes, gdX "_law_more" s_law_more, gdX "_law_rows_right" s_law_rows_right, gdX "_law_unlike_right" s_law_unlike_right, gdX "law" slaw, cdX "Paper" "__init__" "Paper.__init__" (mS 0 0) [], cdX "Paper" "__eq__" "Paper.__eq__" (mS 0 1) [], cdX "Denial" "__bool__" "Denial.__bool__" (mS 1 1) [], fnP 1, fnP 2, fnP 3, fnP 4, fnP 5, fnP 6, fnP 7, fnP 8, fnP 9, fnP 10, fnP 11, fnP 12, fnP 13, fnP 14, fnP 15]
def fnx1 : List FnDX := [fnP 16, fnP 17, fnP 18, fnP 19, fnP 20, fnP 21, fnP 22, fnP 23, fnP 24, fnP 25, fnP 26, fnP 27, fnP 28, fnP 29, fnP 30, fnP 31, fnP 32, fnP 33, fnP 34]
def fnx : List FnDX := fnx0 ++ fnx1
def Bx (K : PySem.W.Frag) : Bool := (fas.all fun f => f.ok K) && tzB fileK K
end K56

set_option Elab.async false
set_option linter.all false
set_option maxRecDepth 100000
set_option maxHeartbeats 0

namespace K56
open PySem PySem.W PySem.Calls PyProof.Rows
abbrev R : OpenRow := OpenLaw.row PySem.Challenge.rw_dimkeeper_k56_papers_of_every_class
def nm1 : List PySem.Str := (R.prog.main.scope.names.map (·.1)).filter fun x => x != ("law" : PySem.Str) && x != ("__name__" : PySem.Str)
abbrev ob (s : PySem.W.SharedT) : Bool × List Gd.FnVX := Gd.obX 4 Bx fnx (HandSHeadRun.getT s)
theorem run (w : World) : HandSHeadRun.RunEq R (view R.prog [68]) (Gd.hkX 4 Bx fnx) ob 20000 nm1 w := by
  intro os
  kernel_rfl
end K56

set_option Elab.async false
set_option linter.all false
set_option maxRecDepth 100000
set_option maxHeartbeats 1000000
/-! methods that begin with super(), called by keywords too; such with a star parameter; C(k = v, ..) -/
namespace Gd
open PySem PySem.Spec PyProof.Rows L2 NdefX
section
variable {P : Program} {w : World} {K : PySem.W.Frag} {mg : Str → Option Value} {base : Heap} {f cc cda D g : Addr} {F : NF} {N ps : List Str} {k : Nat} {sp spI : Sp} {rest : List Stmt} {e : Expr} {es : List Expr} {p0 p1 ap pos ep : Pos} {m : Str}
/-- the cell of __class__, as the frame has it -/
theorem sup_cells {A : Around} {outer : List Env} {s : Shared} {H : Hp} (S : SupF P K mg f cc cda D F) (e0 : Env0 P w K mg base A outer s H) : CellsAt F.cl ["__class__"] [none] s.heap H := by
  obtain ⟨ol, hcel, hcd2⟩ := S.cel
  rw [S.hcl]
  refine ⟨rfl, fun y c hy => ?_, fun x y c hx hy => ?_, fun i y hi => ?_⟩
  · have e1 : y = ("__class__" : Str) ∧ cc = c := by
      by_cases z : y = ("__class__" : Str)
      · subst z
        simp [List.lookup] at hy
        exact ⟨rfl, hy⟩
      · have z2 : (y == ("__class__" : Str)) = false := beq_eq_false_iff_ne.mpr z
        simp [List.lookup, z2] at hy
    obtain ⟨_, rfl⟩ := e1
    obtain ⟨b1, b2⟩ := e0.bs _ _ (e0.mod.kin _ _ hcel)
    exact ⟨b2, _, _, b1, hcd2⟩
  · have key : ∀ z : Str, (z = ("__class__" : Str)) ∨ List.lookup z [(("__class__" : Str), cc)] = none := fun z => by
      by_cases q : z = ("__class__" : Str)
      · exact .inl q
      · have z2 : (z == ("__class__" : Str)) = false := beq_eq_false_iff_ne.mpr q
        exact .inr (by simp [List.lookup, z2])
    rcases key x with e1 | e1
    · rcases key y with e2 | e2
      · rw [e1, e2]
      · rw [e2] at hy
        cases hy
    · rw [e1] at hx
      cases hx
  · cases i with
    | zero =>
      have e1 : ("__class__" : Str) = y := Option.some.inj hi
      subst e1
      exact ⟨cc, by simp [List.lookup], fun v z => by cases z⟩
    | succ i => simp at hi
/-- what a run of such a body leaves -/
def SupRun (P : Program) (w : World) (K : PySem.W.Frag) (mg : Str → Option Value) (base : Heap) (F : NF) (f : Addr) (N : List Str) (k : Nat) (st : Stmt) (rest : List Stmt) (sp : Sp) : Prop :=
  ∀ (A : Around) (outer : List Env) (s : Shared) (H : Hp) (vs : List V) (Q : VK) (E : XK), Room k (A.deeper (envF F f s.heap.objs.size)) → sp vs H Q E → N[0]? = some ("self" : Str) →
    ∃ u : TS, PSs (ncx C8.CX0 P w K mg base N F f A outer s H E) rest u ∧ ∀ s1 : Shared, Inv (ncx C8.CX0 P w K mg base N F f A outer s H E) [] (startF N vs [none]) H s1 →
      PySem.wpAt (model P w) (ncx C8.CX0 P w K mg base N F f A outer s H E).A (.func F.body (envF F f s.heap.objs.size)) (exec st (envF F f s.heap.objs.size))
        (fun fl s' => fl = .next ∧ ∃ H1, Inv (ncx C8.CX0 P w K mg base N F f A outer s H E) [] (startF N vs [none]) H1 s' ∧ u { nx := fun _ H' => Q .non H', rt := Q } (startF N vs [none]) H1) (ncx C8.CX0 P w K mg base N F f A outer s H E).xe s1
/-- the body, from its environment on -/
theorem sup_body {st : Stmt} {kV doc pm ct : Value} {an : Option Addr} (S : SupF P K mg f cc cda D F) (NS : NScope N ps ["__class__"] F.scope) (hp : ps[0]? = some ("self" : Str)) (hbody : F.body = st :: rest) (hrun : SupRun P w K mg base F f N k st rest sp)
    {A : Around} {outer : List Env} {s : Shared} {H : Hp} {us : List Value} {vs : List V} {Q : VK} {E : XK} {R : Result → Shared → Prop} (hr : Room (k + 1) A) (e0 : Env0 P w K mg base A outer s H) (r : Vals vs us) (hl : vs.length = ps.length) (hsp : sp vs H Q E)
    (hR : ∀ x s', CR C8.CX0 outer P w H s Q E x s' → R x s') :
    wpAny (model P w) A.in1 (newFunctionEnv (PySem.W.fnX F.name F.qual F.params F.body F.scope F.cl .none kV doc pm an (.ref cda) ct).scope (PySem.W.fnX F.name F.qual F.params F.body F.scope F.cl .none kV doc pm an (.ref cda) ct).globals
      (PySem.W.fnX F.name F.qual F.params F.body F.scope F.cl .none kV doc pm an (.ref cda) ct).closure (ps.zip us) ((PySem.W.fnX F.name F.qual F.params F.body F.scope F.cl .none kV doc pm an (.ref cda) ct).qualname ++ ".<locals>.") (some f)
      (PySem.W.fnX F.name F.qual F.params F.body F.scope F.cl .none kV doc pm an (.ref cda) ct).code none (PySem.W.fnX F.name F.qual F.params F.body F.scope F.cl .none kV doc pm an (.ref cda) ct).builtins)
      (fun env s₂ => s₂.heap.NoLimit ∧ codeAny (model P w) A (.func F.body env) R s₂) (fun e s' => R (.error e) s') s := by
  have lim : s.heap.NoLimit := e0.mod.nolimit.keeps fun b o e => (e0.bs b o e).1
  refine wpAny_newFunctionEnv NS.nocell (fun ⟨n, _⟩ hy => NS.par n (List.of_mem_zip hy).1) (fun h₁ hns hsb => ⟨lim.fresh _ hsb, ?_⟩) NS.kind
  have ecd : Value.ref cda = .ref F.c := by rw [S.hc]
  show codeAny _ _ (.func F.body (PySem.W.envX F.qual F.scope s.heap.objs.size f (.ref cda) F.cl)) _ _
  rw [ecd]
  have kp : ∀ b o, s.heap.get? b = some o → h₁.get? b = some o := fun b o e => hsb.extBut b o (Nat.ne_of_lt (Heap.lt_size e)) (Heap.get?_push_of_some _ e)
  have CA := sup_cells S e0
  have I : Inv (ncx C8.CX0 P w K mg base N F f A outer s H E) [] (startF N vs [none]) H { s with heap := h₁, toks := s.toks + (ps.zip us).length } := inv_startN NS hr.hd e0 hl r CA hns kp
  have hN : N[0]? = some ("self" : Str) := by
    have q : (N.take (ps.length + [("__class__" : Str)].length))[0]? = (ps ++ [("__class__" : Str)])[0]? := by rw [NS.pre]
    have lp : 0 < ps.length := by
      cases ps with
      | nil => cases hp
      | cons _ _ => exact Nat.succ_pos _
    rw [List.getElem?_take_of_lt (by omega), List.getElem?_append_left lp] at q
    rw [q]
    exact hp
  refine PySem.ks_codeAny_funcAt ?_
  obtain ⟨u, pr, hq⟩ := hrun A outer s H vs Q E (hr.deeper _) hsp hN
  have hst := hq _ I
  rw [hbody] at hst ⊢
  refine PySem.ks_wpAt_execs_cons (PySem.ks_wpAt_mono hst (fun fl0 s1 z => ?_) fun e _ x => wpAny_mono x (fun _ s2 z => hR (.error e) s2 z) fun e2 s2 z => hR (.error e2) s2 z)
  obtain ⟨rfl, H1, I1, hu⟩ := z
  refine PySem.ks_wpAt_mono (PySem.wpAt_of_wpAny (pr.run [] s1 _ H1 _ I1 hu)) (fun fl s' hs => ?_) fun e _ x => wpAny_mono x (fun _ s2 z => hR (.error e) s2 z) fun e2 s2 z => hR (.error e2) s2 z
  cases fl with
  | ret u' =>
    obtain ⟨v, σ', H', J, rv, q⟩ := hs
    exact hR _ _ ⟨v, H', J.os, J.bare, J.base, J.hok, rv, q⟩
  | next =>
    obtain ⟨σ', H', J, q⟩ := hs
    exact hR _ _ ⟨V.non, H', J.os, J.bare, J.base, J.hok, rfl, q⟩
  | brk =>
    obtain ⟨_, _, _, q⟩ := hs
    exact q.elim
  | cont =>
    obtain ⟨_, _, _, q⟩ := hs
    exact q.elim
/-- a method that begins with super(): its promise, however its arguments are given -/
theorem fn_supOk {st : Stmt} (S : SupF P K mg f cc cda D F) (NS : NScope N ps ["__class__"] F.scope) (hp : ps[0]? = some ("self" : Str)) (hbody : F.body = st :: rest) (len : ∀ vs H Q E, sp vs H Q E → vs.length = ps.length)
    (hrun : SupRun P w K mg base F f N k st rest sp) :
    ∃ (kV doc pm : Value) (an : Option Addr) (ct : Value), FnOk P w K mg base C8.CX0 (k + 1) f (PySem.W.fnX F.name F.qual F.params F.body F.scope F.cl .none kV doc pm an (.ref cda) ct) ps sp := by
  obtain ⟨oc, od, kV, doc, pm, an, ct, osl, lk⟩ := S.lk
  refine ⟨kV, doc, pm, an, ct, len, fun A outer s H args us vs Q E hr e0 hb r hsp => ?_⟩
  have KX : K.In s.heap := e0.mod.kin.keeps fun b o e => (e0.bs b o e).1
  refine codeAny_call_function hr.depth (KX _ _ lk) rfl NS.co NS.gen rfl (PySem.W.codeRec_of KX S.hcd) (hb _ _ _ _ ?_)
  exact sup_body S NS hp hbody hrun hr e0 r (len _ _ _ _ hsp) hsp fun _ _ z => z
/-- .. with a star parameter -/
theorem fn_supS {st : Stmt} {pv : Str} (S : SupF P K mg f cc cda D F) (NS : NScope N (ps ++ [pv]) ["__class__"] F.scope) (hp : (ps ++ [pv])[0]? = some ("self" : Str)) (hbody : F.body = st :: rest)
    (hb : ∀ us more : List Value, us.length = ps.length → ∀ (kV doc pm : Value) (an : Option Addr) (cdv ct : Value), bindArgs (PySem.W.fnX F.name F.qual F.params F.body F.scope F.cl .none kV doc pm an cdv ct) ⟨us ++ more, []⟩ = (newTuple more >>= fun t => pure (ps.zip us ++ [(pv, t)])))
    (hrun : SupRun P w K mg base F f N k st rest sp) :
    FnR P w K mg base C8.CX0 (k + 1) f (fun vs H Q E => ∃ ws more, vs = ws ++ more ∧ ws.length = ps.length ∧ more.length ≤ sizeLine ∧ ∀ p, H p = Option.none → sp (ws ++ [V.ref p]) (upd H p (.tup more)) Q E) := by
  intro A outer s H us vs Q E hr e0 r hsp
  obtain ⟨ws, more, ev, hl, hz, hq⟩ := hsp
  subst ev
  obtain ⟨u1, u2, eu, r1, r2⟩ := StX.vals_split r
  subst eu
  have hn : H s.heap.objs.size = Option.none := e0.hok.fresh (Nat.le_refl _)
  have hl1 : u1.length = ps.length := by rw [← r1.length]; exact hl
  have hl2 : u2.length ≤ sizeLine := by rw [← r2.length]; exact hz
  obtain ⟨oc, od, kV, doc, pm, an, ct, osl, lk⟩ := S.lk
  have KX : K.In s.heap := e0.mod.kin.keeps fun b o e => (e0.bs b o e).1
  refine codeAny_call_function hr.depth (KX _ _ lk) rfl NS.co NS.gen rfl (PySem.W.codeRec_of KX S.hcd) ?_
  rw [hb u1 u2 hl1]
  refine wpAny_bind (wpAny_newTuple (wpAny_pure ?_) hl2)
  have new : ObjOk P w (upd H s.heap.objs.size (.tup more)) (s.heap.push ({ cls := .type "tuple", data := .seq u2.toArray } : Obj)) s.heap.objs.size (.tup more) := ⟨hz, u2, r2, ⟨_, Heap.get?_push_size _ rfl, rfl, _, rfl⟩⟩
  have un : Un (frs outer) [] H (upd H s.heap.objs.size (.tup more)) s.heap (s.heap.push ({ cls := .type "tuple", data := .seq u2.toArray } : Obj)) := StX.un_laid (s := s) hn
  have ez : ps.zip u1 ++ [(pv, Value.ref s.heap.objs.size)] = (ps ++ [pv]).zip (u1 ++ [Value.ref s.heap.objs.size]) := by rw [List.zip_append hl1.symm]; rfl
  rw [ez]
  refine sup_body (us := u1 ++ [Value.ref s.heap.objs.size]) (vs := ws ++ [V.ref s.heap.objs.size]) (Q := Q) (E := E) S NS hp hbody hrun hr (StX.env0_laid e0 new) (r1.append (.cons rfl .nil)) (by rw [List.length_append, List.length_append, hl] <;> rfl) (hq _ hn) fun x s' z => ?_
  match x, z with
  | .error e, z => exact z
  | .ok (.ret u), z =>
    obtain ⟨v, H', ho, bare, un2, hok, rv, q⟩ := z
    exact ⟨v, H', ho, bare, un.trans un2, hok, rv, q⟩
end
section
variable {X : Cx} {CX : CXT} {k : Nat} {f C : Addr} {fd : FuncData} {ps ks : List Str} {sp : Sp} {E : XK} {x : Str} {p pos : Pos} {kws : List Keyword} {tk : TA} {g : List Value → List Value → List Value} {gV : List V → List V → List V}
/-- C(k = v, ..), keywords alone -/
theorem pe_makeK0 (M : Mk X.K C f) (F : FnOk X.prog X.w X.K X.mg X.base CX k f fd ps sp) (hr : Room (k + 1) X.A) (hg : Gl X x) (hm : X.mg x = some (.ref C)) (hb : KBn X.K fd ps 1 ks g gV) (hx : Passes CX X E)
    (hkw : PK X kws tk) (hall : (backToKw pos (keywordEach kws X.env)).all (·.1.isSome) = true := by rfl) (hks : (backToKw pos (keywordEach kws X.env)).filterMap (·.1) = ks := by rfl)
    (hdb : (x == ("__debug__" : Str)) = false := by decide) (hpl : ((backTo pos (starEach [] X.env)).any (·.1) || (backToKw pos (keywordEach kws X.env)).any (·.1.isNone)) = false := by rfl) :
    PE X (.Call (.Name x p) [] kws pos) (tMakeN C 0 ks.length sp gV E tNil tk) := by
  refine ⟨fun pins s σ H Q I h => wpAny_Call_Name_kw (ld_glob I hg hm ?_ hdb)⟩
  refine PySem.W.callWith_KW0 (h₀ := X.base) I.ok.mod.kin M.kp hall (thn (hkw.run pos pins s σ H _ I h) fun ws s2 ⟨zs, H2, I2, rz, _, l2, q2⟩ => ⟨I2.kIn, ?_⟩) hpl
  rw [hks]
  exact run_makeN (us := []) (vs := []) M F hr hb hx I2 .nil rz rfl l2 q2
end
end Gd

set_option Elab.async false
set_option linter.all false
set_option maxRecDepth 100000
set_option maxHeartbeats 1000000
/-! data of lists, tuples and dicts: what fixes them, how long their texts are -/
namespace Gd
open PySem PySem.Spec PyProof.Rows L2
/-! ### data alone -/
def kl : PyData → PyData → Bool
  | .int i, .int j => decide (i < j)
  | .str x, .str y => decide (x.cps.toList < y.cps.toList)
  | _, _ => false
def insK (p : PyData × PyData) : List (PyData × PyData) → List (PyData × PyData)
  | [] => [p]
  | q :: r => if kl q.1 p.1 = true then q :: insK p r else p :: q :: r
def srt (l : List (PyData × PyData)) : List (PyData × PyData) := l.foldl (fun acc p => insK p acc) []
def fx : Nat → PyData → PyData
  | n + 1, .list ds => .tuple (ds.map (fx n))
  | n + 1, .tuple ds => .tuple (ds.map (fx n))
  | n + 1, .dict kvs => .tuple ((srt kvs).map fun p => .tuple [p.1, fx n p.2])
  | _, d => d
def lfI (i : Int) : Prop := i.natAbs < 10 ^ 30
def lfS (x : Str) : Prop := Asc x ∧ x.length ≤ 10
def Lf : PyData → Prop
  | .none => True
  | .bool _ => True
  | .int i => lfI i
  | .str x => lfS x
  | _ => False
/-- keys of one kind, each once -/
def KO (ks : List PyData) : Prop := ks.Nodup ∧ ((∃ is : List Int, ks = is.map .int ∧ ∀ i ∈ is, lfI i) ∨ ∃ ss : List Str, ks = ss.map .str ∧ ∀ s ∈ ss, lfS s)
def Sh : Nat → PyData → Prop
  | 0, d => Lf d
  | n + 1, d => Lf d ∨ (∃ ds, (d = .list ds ∨ d = .tuple ds) ∧ ds.length ≤ 5 ∧ ∀ e ∈ ds, Sh n e) ∨ ∃ kvs, d = .dict kvs ∧ kvs.length ≤ 5 ∧ KO (kvs.map (·.1)) ∧ ∀ p ∈ kvs, Sh n p.2
def Tp : Nat → PyData → Prop
  | 0, d => Lf d
  | n + 1, d => Lf d ∨ ∃ ds, d = .tuple ds ∧ ds.length ≤ 5 ∧ ∀ e ∈ ds, Tp n e
theorem Sh.leaf {n : Nat} {d : PyData} (h : Lf d) : Sh n d := by
  cases n with
  | zero => exact h
  | succ n => exact .inl h
theorem Tp.leaf {n : Nat} {d : PyData} (h : Lf d) : Tp n d := by
  cases n with
  | zero => exact h
  | succ n => exact .inl h
theorem Sh.mono {n : Nat} : ∀ {d : PyData}, Sh n d → Sh (n + 1) d := by
  induction n with
  | zero => exact fun h => .inl h
  | succ n ih =>
    intro d h
    rcases h with h | ⟨ds, e, l, h⟩ | ⟨kvs, e, l, k, h⟩
    · exact .inl h
    · exact .inr (.inl ⟨ds, e, l, fun x hx => ih (h x hx)⟩)
    · exact .inr (.inr ⟨kvs, e, l, k, fun x hx => ih (h x hx)⟩)
theorem Sh.le {n m : Nat} {d : PyData} (h : Sh n d) (l : n ≤ m) : Sh m d := by
  induction l with
  | refl => exact h
  | step _ ih => exact ih.mono
theorem Tp.mono {n : Nat} : ∀ {d : PyData}, Tp n d → Tp (n + 1) d := by
  induction n with
  | zero => exact fun h => .inl h
  | succ n ih =>
    intro d h
    rcases h with h | ⟨ds, e, l, h⟩
    · exact .inl h
    · exact .inr ⟨ds, e, l, fun x hx => ih (h x hx)⟩
theorem Tp.le {n m : Nat} {d : PyData} (h : Tp n d) (l : n ≤ m) : Tp m d := by
  induction l with
  | refl => exact h
  | step _ ih => exact ih.mono
theorem Tp.sh {n : Nat} : ∀ {d : PyData}, Tp n d → Sh n d := by
  induction n with
  | zero => exact fun h => h
  | succ n ih =>
    intro d h
    rcases h with h | ⟨ds, e, l, h⟩
    · exact .inl h
    · exact .inr (.inl ⟨ds, .inr e, l, fun x hx => ih (h x hx)⟩)
theorem fx_leaf {n : Nat} {d : PyData} (h : Lf d) : fx n d = d := by
  cases n with
  | zero => unfold fx; rfl
  | succ n => cases d <;> first | exact h.elim | rfl
theorem fx_tp {m : Nat} : ∀ {n : Nat} {d : PyData}, Tp n d → fx m d = d := by
  induction m with
  | zero => intro n d h; unfold fx; rfl
  | succ m ih =>
    intro n d h
    cases n with
    | zero => exact fx_leaf h
    | succ n =>
      rcases h with h | ⟨ds, rfl, l, h⟩
      · exact fx_leaf h
      · show PyData.tuple (ds.map (fx m)) = _
        have e : ds.map (fx m) = ds := by
          conv => rhs; rw [← List.map_id ds]
          exact List.map_congr_left fun x hx => ih (h x hx)
        rw [e]
theorem insK_perm (p : PyData × PyData) : ∀ l, (insK p l).Perm (p :: l)
  | [] => .refl _
  | q :: r => by
    unfold insK
    split
    · exact ((insK_perm p r).cons q).trans (.swap p q r)
    · exact .refl _
theorem srt_perm' : ∀ (l acc : List (PyData × PyData)), (l.foldl (fun acc p => insK p acc) acc).Perm (l ++ acc)
  | [], acc => .refl _
  | p :: l, acc => by
    refine (srt_perm' l (insK p acc)).trans ?_
    refine ((insK_perm p acc).append_left l).trans ?_
    exact List.perm_middle
theorem srt_perm (l : List (PyData × PyData)) : (srt l).Perm l := by
  have h := srt_perm' l []
  rw [List.append_nil] at h
  exact h
theorem fx_sh {n : Nat} : ∀ {d : PyData}, Sh n d → Tp (2 * n) (fx n d) := by
  induction n with
  | zero =>
    intro d h
    rw [fx_leaf h]
    exact h
  | succ n ih =>
    intro d h
    rcases h with h | ⟨ds, e, l, h⟩ | ⟨kvs, rfl, l, k, h⟩
    · rw [fx_leaf h]
      exact Tp.leaf h
    · have e2 : fx (n + 1) d = .tuple (ds.map (fx n)) := by rcases e with rfl | rfl <;> rfl
      rw [e2, Nat.mul_succ]
      refine (show Tp (2 * n + 1) _ from .inr ⟨_, rfl, by rw [List.length_map]; exact l, fun x hx => ?_⟩).mono
      obtain ⟨y, hy, rfl⟩ := List.mem_map.mp hx
      exact ih (h y hy)
    · show Tp (2 * n + 1 + 1) (.tuple ((srt kvs).map fun p => .tuple [p.1, fx n p.2]))
      refine .inr ⟨_, rfl, by rw [List.length_map, (srt_perm kvs).length_eq]; exact l, fun x hx => ?_⟩
      obtain ⟨p, hp, rfl⟩ := List.mem_map.mp hx
      have hp2 := (srt_perm kvs).mem_iff.mp hp
      refine .inr ⟨_, rfl, by show 2 ≤ 5; decide, fun y hy => ?_⟩
      rcases List.mem_cons.mp hy with rfl | hy
      · have hk : p.1 ∈ kvs.map (·.1) := List.mem_map_of_mem hp2
        rcases k.2 with ⟨is, e, b⟩ | ⟨ss, e, b⟩
        · rw [e] at hk
          obtain ⟨i, hi, e2⟩ := List.mem_map.mp hk
          rw [← e2]
          exact Tp.leaf (b i hi)
        · rw [e] at hk
          obtain ⟨i, hi, e2⟩ := List.mem_map.mp hk
          rw [← e2]
          exact Tp.leaf (b i hi)
      · obtain rfl := List.mem_singleton.mp hy
        exact ih (h p hp2)
/-! ### sorted lists are told by what is in them -/
def SrtP (l : List (PyData × PyData)) : Prop := l.Pairwise fun a b => kl a.1 b.1 = true
theorem sorted_uniq : ∀ (l1 l2 : List (PyData × PyData)), l1.Perm l2 → SrtP l1 → SrtP l2 → (∀ a ∈ l1, ∀ b ∈ l1, kl a.1 b.1 = true → kl b.1 a.1 = true → False) → l1 = l2
  | [], l2, p, _, _, _ => (List.nil_perm.mp p).symm
  | a :: l1, [], p, _, _, _ => absurd (List.perm_nil.mp p) (by intro z; cases z)
  | a :: l1, b :: l2, p, h1, h2, as => by
    obtain ⟨ha, h1'⟩ := List.pairwise_cons.mp h1
    obtain ⟨hb, h2'⟩ := List.pairwise_cons.mp h2
    have e : a = b := by
      have m1 : a ∈ b :: l2 := p.mem_iff.mp List.mem_cons_self
      have m2 : b ∈ a :: l1 := p.mem_iff.mpr List.mem_cons_self
      rcases List.mem_cons.mp m1 with e | m1
      · exact e
      · rcases List.mem_cons.mp m2 with e | m2'
        · exact e.symm
        · exact (as a List.mem_cons_self b m2 (ha b m2') (hb a m1)).elim
    subst e
    rw [sorted_uniq l1 l2 (List.Perm.cons_inv p) h1' h2' fun x hx y hy => as x (List.mem_cons_of_mem _ hx) y (List.mem_cons_of_mem _ hy)]
theorem perm_map_inv {α β : Type} {f : α → β} : ∀ {l : List β} {m : List α}, l.Perm (m.map f) → ∃ j : List α, l = j.map f ∧ j.Perm m
  | [], m, p => by
    have e := List.nil_perm.mp p
    rw [List.map_eq_nil_iff] at e
    exact ⟨[], rfl, e ▸ .refl _⟩
  | a :: l, m, p => by
    have ha : a ∈ m.map f := p.mem_iff.mp List.mem_cons_self
    obtain ⟨x, hx, rfl⟩ := List.mem_map.mp ha
    obtain ⟨s, t, rfl⟩ := List.append_of_mem hx
    rw [List.map_append, List.map_cons] at p
    have p2 : l.Perm ((s ++ t).map f) := by
      rw [List.map_append]
      exact (p.trans List.perm_middle).cons_inv
    obtain ⟨j, e, q⟩ := perm_map_inv p2
    exact ⟨x :: j, by rw [e]; rfl, (q.cons x).trans List.perm_middle.symm⟩
/-! ### keys of one kind are in an order -/
theorem str_ext {x y : Str} (h : x.cps.toList = y.cps.toList) : x = y := by
  cases x
  cases y
  simp only [Str.mk.injEq] at h ⊢
  exact Array.toList_inj.mp h
theorem nat_lex_tri : ∀ x y : List Nat, x < y ∨ x = y ∨ y < x
  | [], [] => .inr (.inl rfl)
  | [], b :: y => .inl (List.nil_lt_cons b y)
  | a :: x, [] => .inr (.inr (List.nil_lt_cons a x))
  | a :: x, b :: y => by
    rcases Nat.lt_trichotomy a b with h | h | h
    · exact .inl (List.cons_lt_cons_iff.mpr (.inl h))
    · subst h
      rcases nat_lex_tri x y with h | h | h
      · exact .inl (List.cons_lt_cons_iff.mpr (.inr ⟨rfl, h⟩))
      · exact .inr (.inl (by rw [h]))
      · exact .inr (.inr (List.cons_lt_cons_iff.mpr (.inr ⟨rfl, h⟩)))
    · exact .inr (.inr (List.cons_lt_cons_iff.mpr (.inl h)))
/-- two keys of one kind -/
def Kin : PyData → PyData → Prop
  | .int _, .int _ => True
  | .str _, .str _ => True
  | _, _ => False
theorem KO.kin {ks : List PyData} (h : KO ks) {a b : PyData} (ha : a ∈ ks) (hb : b ∈ ks) : Kin a b := by
  rcases h.2 with ⟨is, rfl, _⟩ | ⟨is, rfl, _⟩
  · obtain ⟨i, _, rfl⟩ := List.mem_map.mp ha
    obtain ⟨j, _, rfl⟩ := List.mem_map.mp hb
    exact True.intro
  · obtain ⟨i, _, rfl⟩ := List.mem_map.mp ha
    obtain ⟨j, _, rfl⟩ := List.mem_map.mp hb
    exact True.intro
theorem kl_tri {a b : PyData} (h : Kin a b) : kl a b = true ∨ a = b ∨ kl b a = true := by
  cases a <;> cases b <;> first | exact h.elim | skip
  · rename_i i j
    rcases Int.lt_trichotomy i j with e | e | e
    · exact .inl (decide_eq_true e)
    · exact .inr (.inl (by rw [e]))
    · exact .inr (.inr (decide_eq_true e))
  · rename_i x y
    rcases nat_lex_tri x.cps.toList y.cps.toList with e | e | e
    · exact .inl (decide_eq_true e)
    · exact .inr (.inl (by rw [str_ext e]))
    · exact .inr (.inr (decide_eq_true e))
theorem kl_asym {a b : PyData} (h : kl a b = true) (h2 : kl b a = true) : False := by
  cases a <;> cases b <;> first | cases h | skip
  · have e1 := of_decide_eq_true h
    have e2 := of_decide_eq_true h2
    omega
  · exact List.lt_asymm (of_decide_eq_true h) (of_decide_eq_true h2)
theorem kl_irr {a : PyData} (h : kl a a = true) : False := kl_asym h h
theorem kl_trans {a b c : PyData} (h : kl a b = true) (h2 : kl b c = true) : kl a c = true := by
  cases a <;> cases b <;> first | cases h | skip
  all_goals cases c <;> first | cases h2 | skip
  · have e1 := of_decide_eq_true h
    have e2 := of_decide_eq_true h2
    exact decide_eq_true (by omega)
  · exact decide_eq_true (List.lt_trans (of_decide_eq_true h) (of_decide_eq_true h2))
theorem insK_srt {p : PyData × PyData} : ∀ {l : List (PyData × PyData)}, SrtP l → (∀ q ∈ l, Kin q.1 p.1 ∧ q.1 ≠ p.1) → SrtP (insK p l)
  | [], _, _ => List.pairwise_singleton _ _
  | q :: r, h, hk => by
    obtain ⟨h1, h2⟩ := List.pairwise_cons.mp h
    unfold insK
    by_cases c : kl q.1 p.1 = true
    · rw [if_pos c]
      refine List.pairwise_cons.mpr ⟨fun x hx => ?_, insK_srt h2 fun y hy => hk y (List.mem_cons_of_mem _ hy)⟩
      rcases List.mem_cons.mp ((insK_perm p r).mem_iff.mp hx) with rfl | hx
      · exact c
      · exact h1 x hx
    · rw [if_neg c]
      obtain ⟨k1, k2⟩ := hk q List.mem_cons_self
      have c2 : kl p.1 q.1 = true := by
        rcases kl_tri k1 with e | e | e
        · exact absurd e c
        · exact absurd e k2
        · exact e
      refine List.pairwise_cons.mpr ⟨fun x hx => ?_, h⟩
      rcases List.mem_cons.mp hx with rfl | hx
      · exact c2
      · exact kl_trans c2 (h1 x hx)
theorem srt_srt' : ∀ (l acc : List (PyData × PyData)), SrtP acc → KO ((l ++ acc).map (·.1)) → SrtP (l.foldl (fun acc p => insK p acc) acc)
  | [], acc, h, _ => h
  | p :: l, acc, h, k => by
    have kp : KO ((l ++ insK p acc).map (·.1)) := by
      have e : ((l ++ insK p acc).map (·.1)).Perm (((p :: l) ++ acc).map (·.1)) := (((insK_perm p acc).append_left l).trans List.perm_middle).map _
      refine ⟨e.nodup_iff.mpr k.1, ?_⟩
      have all : ∀ x, x ∈ (l ++ insK p acc).map (·.1) ↔ x ∈ ((p :: l) ++ acc).map (·.1) := fun x => e.mem_iff
      rcases k.2 with ⟨is, e2, b⟩ | ⟨is, e2, b⟩
      · left
        rw [e2] at e
        obtain ⟨js, e3, e4⟩ : ∃ js : List Int, (l ++ insK p acc).map (·.1) = js.map .int ∧ js.Perm is := by
          exact perm_map_inv (f := PyData.int) e
        exact ⟨js, e3, fun i hi => b i (e4.mem_iff.mp hi)⟩
      · right
        rw [e2] at e
        obtain ⟨js, e3, e4⟩ : ∃ js : List Str, (l ++ insK p acc).map (·.1) = js.map .str ∧ js.Perm is := by
          exact perm_map_inv (f := PyData.str) e
        exact ⟨js, e3, fun i hi => b i (e4.mem_iff.mp hi)⟩
    refine srt_srt' l (insK p acc) (insK_srt h fun q hq => ?_) kp
    have m1 : p.1 ∈ ((p :: l) ++ acc).map (·.1) := List.mem_map_of_mem List.mem_cons_self
    have m2 : q.1 ∈ ((p :: l) ++ acc).map (·.1) := List.mem_map_of_mem (List.mem_append_right _ hq)
    refine ⟨k.kin m2 m1, fun e => ?_⟩
    have nd := k.1
    rw [List.cons_append, List.map_cons, List.nodup_cons] at nd
    exact nd.1 (e ▸ List.mem_map_of_mem (List.mem_append_right _ hq))
theorem srt_srt {l : List (PyData × PyData)} (k : KO (l.map (·.1))) : SrtP (srt l) := srt_srt' l [] .nil (by rw [List.append_nil]; exact k)
theorem srt_of {l l2 : List (PyData × PyData)} (p : l2.Perm l) (k : KO (l.map (·.1))) (s : SrtP l2) : srt l = l2 :=
  sorted_uniq _ _ ((srt_perm l).trans p.symm) (srt_srt k) s fun _ _ _ _ h1 h2 => kl_asym h1 h2
end Gd

set_option Elab.async false
set_option linter.all false
set_option maxRecDepth 100000
set_option maxHeartbeats 1000000
namespace Gd
open PySem PySem.Spec PyProof.Rows L2
/-! ### how long, how deep -/
def sb : Nat → Nat
  | 0 => 110
  | n + 1 => 5 * (sb n + 120) + 10
def Few (B D : Nat) (d : PyData) : Prop := d.showable = true ∧ d.depth ≤ D ∧ d.shown.length ≤ B
theorem Few.mono {B D B' D' : Nat} {d : PyData} (h : Few B D d) (hb : B ≤ B') (hd : D ≤ D') : Few B' D' d := ⟨h.1, Nat.le_trans h.2.1 hd, Nat.le_trans h.2.2 hb⟩
theorem lf_few {d : PyData} (h : Lf d) : Few 110 0 d := by
  cases d with
  | none => exact ⟨rfl, Nat.le_refl _, by decide⟩
  | bool b => exact ⟨rfl, Nat.le_refl _, by cases b <;> decide⟩
  | int i =>
    have h2 : i.natAbs < 10 ^ 30 := h
    refine ⟨?_, Nat.le_refl _, ?_⟩
    · simp only [PyData.showable]
      have l : i.natAbs.log2 < 120 := PySem.Flt.log2_lt_of (by decide) (Nat.lt_trans h2 (by decide))
      exact decide_eq_true (by omega)
    · have e := int_text_length_le10 (k := 30) (by decide) h2
      simp only [PyData.shown]
      show (Str.ofString (toString i)).length ≤ 110
      rw [PyProof.Rows.ofString_length]
      rw [String.length_toList]
      omega
  | str x =>
    obtain ⟨h1, h2⟩ := (show lfS x from h)
    refine ⟨rfl, Nat.le_refl _, ?_⟩
    simp only [PyData.shown]
    have e := PySem.StrLaws.reprText_len x fun c hc => Nat.lt_trans (h1 c hc) (by decide)
    omega
  | list ds => exact h.elim
  | tuple ds => exact h.elim
  | dict ds => exact h.elim
theorem few_all {B D : Nat} : ∀ {ds : List PyData}, (∀ e ∈ ds, Few B D e) → PyData.showableAll ds = true ∧ PyData.depthAll ds ≤ D ∧ ((PyData.shownAll ds).map (·.length)).sum ≤ ds.length * B ∧ (PyData.shownAll ds).length = ds.length
  | [], _ => ⟨rfl, Nat.zero_le _, Nat.zero_le _, rfl⟩
  | d :: ds, h => by
    obtain ⟨h1, h2, h3⟩ := h d List.mem_cons_self
    obtain ⟨i1, i2, i3, i4⟩ := few_all fun e he => h e (List.mem_cons_of_mem _ he)
    refine ⟨by simp only [PyData.showableAll, h1, i1, Bool.and_self], ?_, ?_, ?_⟩
    · simp only [PyData.depthAll]
      omega
    · simp only [PyData.shownAll, List.map_cons, List.sum_cons, List.length_cons]
      rw [Nat.succ_mul]
      omega
    · simp only [PyData.shownAll, List.length_cons, i4]
theorem few_kv {B D : Nat} : ∀ {ds : List (PyData × PyData)}, (∀ e ∈ ds, Few B D e.1 ∧ Few B D e.2) → PyData.showableKv ds = true ∧ PyData.depthKv ds ≤ D ∧ ((PyData.shownKv ds).map (·.length)).sum ≤ ds.length * (2 * B + 2) ∧ (PyData.shownKv ds).length = ds.length
  | [], _ => ⟨rfl, Nat.zero_le _, Nat.zero_le _, rfl⟩
  | (k, d) :: ds, h => by
    obtain ⟨⟨h1, h2, h3⟩, g1, g2, g3⟩ := h (k, d) List.mem_cons_self
    obtain ⟨i1, i2, i3, i4⟩ := few_kv fun e he => h e (List.mem_cons_of_mem _ he)
    dsimp only at h1 h2 h3 g1 g2 g3
    have e2 : (k.shown ++ ": " ++ d.shown).length = k.shown.length + 2 + d.shown.length := by
      rw [PySem.strLen_append, PySem.strLen_append]; rfl
    refine ⟨by simp only [PyData.showableKv, h1, g1, i1, Bool.and_self], ?_, ?_, ?_⟩
    · simp only [PyData.depthKv]
      omega
    · simp only [PyData.shownKv, List.map_cons, List.sum_cons, List.length_cons]
      rw [Nat.succ_mul]
      omega
    · simp only [PyData.shownKv, List.length_cons, i4]
theorem few_list {B D : Nat} {ds : List PyData} (h : ∀ e ∈ ds, Few B D e) : Few (ds.length * (B + 2) + 3) (D + 1) (.list ds) := by
  obtain ⟨i1, i2, i3, i4⟩ := few_all h
  refine ⟨by simp only [PyData.showable]; exact i1, by simp only [PyData.depth]; omega, ?_⟩
  have e := listText_len_le (PyData.shownAll ds)
  simp only [PyData.shown]
  rw [Nat.mul_add]
  omega
theorem few_tup {B D : Nat} {ds : List PyData} (h : ∀ e ∈ ds, Few B D e) : Few (ds.length * (B + 2) + 3) (D + 1) (.tuple ds) := by
  obtain ⟨i1, i2, i3, i4⟩ := few_all h
  refine ⟨by simp only [PyData.showable]; exact i1, by simp only [PyData.depth]; omega, ?_⟩
  have e := tupleText_len_le (PyData.shownAll ds)
  simp only [PyData.shown]
  rw [Nat.mul_add]
  omega
theorem few_dict {B B' D : Nat} {ds : List (PyData × PyData)} (h1 : ∀ e ∈ ds, Few B D e.1 ∧ Few B D e.2) : Few (ds.length * (2 * B + 4) + 3) (D + 1) (.dict ds) := by
  obtain ⟨i1, i2, i3, i4⟩ := few_kv h1
  refine ⟨by simp only [PyData.showable]; exact i1, by simp only [PyData.depth]; omega, ?_⟩
  have e := dictText_len_le (PyData.shownKv ds)
  simp only [PyData.shown]
  have e3 : ds.length * (2 * B + 4) = ds.length * (2 * B + 2) + ds.length * 2 := by rw [← Nat.mul_add]
  omega
/-- the key's bound apart -/
theorem few_dict2 {B D : Nat} {ds : List (PyData × PyData)} (h1 : ∀ e ∈ ds, Few 110 0 e.1 ∧ Few B D e.2) (hl : ds.length ≤ 5) : Few (5 * (B + 120) + 10) (D + 1) (.dict ds) := by
  have key : ∀ {ds : List (PyData × PyData)}, (∀ e ∈ ds, Few 110 0 e.1 ∧ Few B D e.2) → PyData.showableKv ds = true ∧ PyData.depthKv ds ≤ D ∧ ((PyData.shownKv ds).map (·.length)).sum ≤ ds.length * (B + 112) ∧ (PyData.shownKv ds).length = ds.length := by
    intro ds
    induction ds with
    | nil => exact fun _ => ⟨rfl, Nat.zero_le _, Nat.zero_le _, rfl⟩
    | cons p ds ih =>
      intro h
      obtain ⟨k, d⟩ := p
      obtain ⟨⟨h1, h2, h3⟩, g1, g2, g3⟩ := h (k, d) List.mem_cons_self
      obtain ⟨i1, i2, i3, i4⟩ := ih fun e he => h e (List.mem_cons_of_mem _ he)
      dsimp only at h1 h2 h3 g1 g2 g3
      have e2 : (k.shown ++ ": " ++ d.shown).length = k.shown.length + 2 + d.shown.length := by
        rw [PySem.strLen_append, PySem.strLen_append]; rfl
      refine ⟨by simp only [PyData.showableKv, h1, g1, i1, Bool.and_self], ?_, ?_, ?_⟩
      · simp only [PyData.depthKv]
        omega
      · simp only [PyData.shownKv, List.map_cons, List.sum_cons, List.length_cons]
        rw [Nat.succ_mul]
        omega
      · simp only [PyData.shownKv, List.length_cons, i4]
  obtain ⟨i1, i2, i3, i4⟩ := key h1
  refine ⟨by simp only [PyData.showable]; exact i1, by simp only [PyData.depth]; omega, ?_⟩
  have e := dictText_len_le (PyData.shownKv ds)
  simp only [PyData.shown]
  have e3 : ds.length * (B + 112) ≤ 5 * (B + 112) := Nat.mul_le_mul_right _ hl
  omega
theorem KO.leaf {ks : List PyData} (h : KO ks) {k : PyData} (hk : k ∈ ks) : Lf k := by
  rcases h.2 with ⟨is, rfl, b⟩ | ⟨is, rfl, b⟩
  · obtain ⟨i, hi, rfl⟩ := List.mem_map.mp hk
    exact b i hi
  · obtain ⟨i, hi, rfl⟩ := List.mem_map.mp hk
    exact b i hi
theorem Sh.few {n : Nat} : ∀ {d : PyData}, Sh n d → Few (sb n) n d := by
  induction n with
  | zero => exact fun h => lf_few h
  | succ n ih =>
    intro d h
    have hsb : sb (n + 1) = 5 * (sb n + 120) + 10 := rfl
    rcases h with h | ⟨ds, e, l, h⟩ | ⟨kvs, rfl, l, k, h⟩
    · exact (lf_few h).mono (by omega) (Nat.zero_le _)
    · have l2 : ds.length * (sb n + 2) ≤ 5 * (sb n + 2) := Nat.mul_le_mul_right _ l
      rcases e with rfl | rfl
      · exact (few_list fun e he => ih (h e he)).mono (by omega) (Nat.le_refl _)
      · exact (few_tup fun e he => ih (h e he)).mono (by omega) (Nat.le_refl _)
    · refine (few_dict2 (B := sb n) (D := n) (fun p hp => ⟨lf_few (k.leaf (List.mem_map_of_mem hp)), ih (h p hp)⟩) l).mono (by omega) (Nat.le_refl _)
/-! ### == -/
theorem lf_can {d : PyData} (h : Lf d) : d.canLay0 = true := by
  cases d with
  | str x =>
    obtain ⟨h1, h2⟩ := (show lfS x from h)
    simp only [PyData.canLay0]
    exact asc_ok h1
  | list ds => exact h.elim
  | tuple ds => exact h.elim
  | dict ds => exact h.elim
  | _ => rfl
theorem can_all : ∀ {ds : List PyData}, (∀ e ∈ ds, e.canLay0 = true) → PyData.canLayAll0 ds = true
  | [], _ => rfl
  | d :: ds, h => by
    simp only [PyData.canLayAll0, h d List.mem_cons_self, can_all fun e he => h e (List.mem_cons_of_mem _ he), Bool.and_self]
theorem Tp.can {n : Nat} : ∀ {d : PyData}, Tp n d → d.canLay0 = true := by
  induction n with
  | zero => exact fun h => lf_can h
  | succ n ih =>
    intro d h
    rcases h with h | ⟨ds, rfl, l, h⟩
    · exact lf_can h
    · simp only [PyData.canLay0]
      exact can_all fun e he => ih (h e he)
theorem Tp.shaped {n : Nat} {d : PyData} (h : Tp n d) (hn : n ≤ 20) : SeqAt.shaped d = true := by
  unfold SeqAt.shaped
  rw [Bool.and_eq_true]
  exact ⟨h.can, decide_eq_true (by have := h.sh.few.2.1; omega)⟩
theorem eqvAll_len : ∀ {xs ys : List PyData}, xs.length ≠ ys.length → PyData.eqvAll xs ys = false
  | [], [], h => absurd rfl h
  | [], _ :: _, _ => by simp only [PyData.eqvAll]
  | _ :: _, [], _ => by simp only [PyData.eqvAll]
  | x :: xs, y :: ys, h => by
    simp only [PyData.eqvAll, eqvAll_len (xs := xs) (ys := ys) fun e => h (by rw [List.length_cons, List.length_cons, e]), Bool.and_false]
theorem eqv_tup_len {xs ys : List PyData} (h : xs.length ≠ ys.length) : PyData.eqv (.tuple xs) (.tuple ys) = false := by
  simp only [PyData.eqv]
  exact eqvAll_len h
theorem Tp.eqv {n : Nat} {d : PyData} (h : Tp n d) : PyData.eqv d d = true := SeqAt.eqv_refl _ h.can
end Gd

set_option Elab.async false
set_option linter.all false
set_option maxRecDepth 100000
set_option maxHeartbeats 1000000
namespace Gd
open PySem PySem.Spec PyProof.Rows L2
/-! ### data as it stands in the heap -/
def kd : Key → PyData
  | .inl i => .int i
  | .inr x => .str x
mutual
inductive Dq (H : Hp) : V → PyData → Prop
  | non : Dq H .non .none
  | bl (b : Bool) : Dq H (.bl b) (.bool b)
  | int (i : Int) : Dq H (.int i) (.int i)
  | str (x : Str) : Dq H (.str x) (.str x)
  | lst {a : Addr} {xs : List V} {ds : List PyData} : H a = some (.lst xs) → DqAll H xs ds → Dq H (.ref a) (.list ds)
  | tup {a : Addr} {xs : List V} {ds : List PyData} : H a = some (.tup xs) → DqAll H xs ds → Dq H (.ref a) (.tuple ds)
  | dk {a : Addr} {kvs : List (Key × V)} {ds : List (PyData × PyData)} : H a = some (.dK kvs) → DqKv H kvs ds → Dq H (.ref a) (.dict ds)
inductive DqAll (H : Hp) : List V → List PyData → Prop
  | nil : DqAll H [] []
  | cons {v : V} {vs : List V} {d : PyData} {ds : List PyData} : Dq H v d → DqAll H vs ds → DqAll H (v :: vs) (d :: ds)
inductive DqKv (H : Hp) : List (Key × V) → List (PyData × PyData) → Prop
  | nil : DqKv H [] []
  | cons {k : Key} {v : V} {vs : List (Key × V)} {d : PyData} {ds : List (PyData × PyData)} : Dq H v d → DqKv H vs ds → DqKv H ((k, v) :: vs) ((kd k, d) :: ds)
end
mutual
theorem Dq.same {H H' : Hp} (s : Same H H') : ∀ {v : V} {d : PyData}, Dq H v d → Dq H' v d
  | _, _, .non => .non
  | _, _, .bl b => .bl b
  | _, _, .int i => .int i
  | _, _, .str x => .str x
  | _, _, .lst h a => .lst (s _ _ h) (DqAll.same s a)
  | _, _, .tup h a => .tup (s _ _ h) (DqAll.same s a)
  | _, _, .dk h a => .dk (s _ _ h) (DqKv.same s a)
theorem DqAll.same {H H' : Hp} (s : Same H H') : ∀ {vs : List V} {ds : List PyData}, DqAll H vs ds → DqAll H' vs ds
  | _, _, .nil => .nil
  | _, _, .cons a b => .cons (Dq.same s a) (DqAll.same s b)
theorem DqKv.same {H H' : Hp} (s : Same H H') : ∀ {vs : List (Key × V)} {ds : List (PyData × PyData)}, DqKv H vs ds → DqKv H' vs ds
  | _, _, .nil => .nil
  | _, _, .cons a b => .cons (Dq.same s a) (DqKv.same s b)
end
theorem key_reads {P : Program} {w : World} {h : Heap} (k : Key) (key : Value) (hk : (mixKind P w).is k key = true) : Reads h key (kd k) [] := by
  rcases keyIs_shape hk with ⟨i, t, rfl, rfl⟩ | ⟨x, t, rfl, rfl⟩
  · exact .int i t
  · exact .str x t
theorem DqAll.len {H : Hp} : ∀ {vs : List V} {ds : List PyData}, DqAll H vs ds → vs.length = ds.length
  | _, _, .nil => rfl
  | _, _, .cons _ b => congrArg Nat.succ b.len
theorem DqAll.get {H : Hp} : ∀ {vs : List V} {ds : List PyData} {i : Nat} {v : V}, DqAll H vs ds → vs[i]? = some v → ∃ d, ds[i]? = some d ∧ Dq H v d
  | _, _, i, v, .nil, h => by simp at h
  | _, _, 0, v, .cons a b, h => by
    simp at h
    subst h
    exact ⟨_, rfl, a⟩
  | _, _, i + 1, v, .cons a b, h => by
    simp at h
    obtain ⟨d, h1, h2⟩ := b.get h
    exact ⟨d, by simp [h1], h2⟩
theorem DqAll.snoc {H : Hp} {v : V} {d : PyData} : ∀ {vs : List V} {ds : List PyData}, DqAll H vs ds → Dq H v d → DqAll H (vs ++ [v]) (ds ++ [d])
  | _, _, .nil, h => .cons h .nil
  | _, _, .cons a b, h => .cons a (b.snoc h)
theorem DqAll.append {H : Hp} {ws : List V} {es : List PyData} (h : DqAll H ws es) : ∀ {vs : List V} {ds : List PyData}, DqAll H vs ds → DqAll H (vs ++ ws) (ds ++ es)
  | _, _, .nil => h
  | _, _, .cons a b => .cons a (DqAll.append h b)
theorem DqAll.mem {H : Hp} : ∀ {vs : List V} {ds : List PyData} {v : V}, DqAll H vs ds → v ∈ vs → ∃ d ∈ ds, Dq H v d
  | _, _, _, .nil, h => absurd h List.not_mem_nil
  | _, _, v, .cons a b, h => by
    rcases List.mem_cons.mp h with rfl | h
    · exact ⟨_, List.mem_cons_self, a⟩
    · obtain ⟨d, h1, h2⟩ := b.mem h
      exact ⟨d, List.mem_cons_of_mem _ h1, h2⟩
theorem DqAll.inv {H : Hp} : ∀ {vs : List V} {d : PyData} {ds : List PyData}, DqAll H vs (d :: ds) → ∃ v us, vs = v :: us ∧ Dq H v d ∧ DqAll H us ds
  | _, _, _, .cons a b => ⟨_, _, rfl, a, b⟩
/-- data of tuples alone stays as long as tuples do -/
def Tups (H H' : Hp) : Prop := ∀ a xs, H a = some (.tup xs) → H' a = some (.tup xs)
theorem Tups.of {H H' : Hp} (s : Same H H') : Tups H H' := fun a xs h => s _ _ h
theorem Tups.trans {H H1 H2 : Hp} (a : Tups H H1) (b : Tups H1 H2) : Tups H H2 := fun x xs h => b _ _ (a _ _ h)
theorem Tups.upd {H H1 : Hp} (a : Tups H H1) {p : Addr} {o : HO} (h : ∀ xs, H1 p ≠ some (.tup xs)) : Tups H (upd H1 p o) := fun x xs e => by
  have e1 := a _ _ e
  have n : x ≠ p := fun z => h xs (by rw [← z]; exact e1)
  rw [upd_ne n]
  exact e1
theorem Dq.tups {H H' : Hp} (t : Tups H H') {n : Nat} : ∀ {v : V} {d : PyData}, Dq H v d → Tp n d → Dq H' v d := by
  induction n with
  | zero =>
    intro v d h l
    cases h with
    | non => exact .non
    | bl b => exact .bl b
    | int i => exact .int i
    | str x => exact .str x
    | lst a b => exact l.elim
    | tup a b => exact l.elim
    | dk a b => exact l.elim
  | succ n ih =>
    intro v d h l
    cases h with
    | non => exact .non
    | bl b => exact .bl b
    | int i => exact .int i
    | str x => exact .str x
    | lst a b =>
      rcases l with l | ⟨ds, e, _⟩
      · exact l.elim
      · cases e
    | tup a b =>
      rcases l with l | ⟨ds, e, _, l⟩
      · exact l.elim
      · cases e
        refine .tup (t _ _ a) ?_
        have key : ∀ {vs : List V} {ds : List PyData}, DqAll H vs ds → (∀ e ∈ ds, Tp n e) → DqAll H' vs ds := by
          intro vs
          induction vs with
          | nil => intro ds q _; cases q; exact .nil
          | cons v vs iv =>
            intro ds q l
            cases q with
            | cons a b => exact .cons (ih a (l _ List.mem_cons_self)) (iv b fun e he => l e (List.mem_cons_of_mem _ he))
        exact key b l
    | dk a b =>
      rcases l with l | ⟨ds, e, _⟩
      · exact l.elim
      · cases e
theorem DqAll.tups {H H' : Hp} (t : Tups H H') {n : Nat} : ∀ {vs : List V} {ds : List PyData}, DqAll H vs ds → (∀ e ∈ ds, Tp n e) → DqAll H' vs ds
  | _, _, .nil, _ => .nil
  | _, _, .cons a b, l => .cons (Dq.tups t a (l _ List.mem_cons_self)) (DqAll.tups t b fun e he => l e (List.mem_cons_of_mem _ he))
theorem Dq.dp {K : PySem.W.Frag} {H : Hp} {n : Nat} : ∀ {v : V} {d : PyData}, Dq H v d → Tp n d → Dp K H v d := by
  induction n with
  | zero =>
    intro v d h l
    cases h with
    | non => exact .non
    | bl b => exact .bl b
    | int i => exact .int i
    | str x => exact .str x
    | lst a b => exact l.elim
    | tup a b => exact l.elim
    | dk a b => exact l.elim
  | succ n ih =>
    intro v d h l
    cases h with
    | non => exact .non
    | bl b => exact .bl b
    | int i => exact .int i
    | str x => exact .str x
    | lst a b =>
      rcases l with l | ⟨ds, e, _⟩
      · exact l.elim
      · cases e
    | tup a b =>
      rcases l with l | ⟨ds, e, _, l⟩
      · exact l.elim
      · cases e
        refine .tup (SqT.of a) ?_
        have key : ∀ {vs : List V} {ds : List PyData}, DqAll H vs ds → (∀ e ∈ ds, Tp n e) → DpAll K H vs ds := by
          intro vs
          induction vs with
          | nil => intro ds q _; cases q; exact .nil
          | cons v vs iv =>
            intro ds q l
            cases q with
            | cons a b => exact .cons (ih a (l _ List.mem_cons_self)) (iv b fun e he => l e (List.mem_cons_of_mem _ he))
        exact key b l
    | dk a b =>
      rcases l with l | ⟨ds, e, _⟩
      · exact l.elim
      · cases e
section
variable {X : Cx} {pins : List (Addr × Obj)} {σ : L2.St} {H : Hp} {s : Shared}
theorem noSys (sm : (X.K.lookup sysModules).isSome = true) (I : Inv X pins σ H s) {a : Addr} {u : HO} (h : H a = some u) : a ≠ sysModules := fun z => by
  obtain ⟨o, ho⟩ := Option.isSome_iff_exists.mp sm
  have := (I.bs _ _ (I.ok.mod.kin _ _ ho)).2
  rw [← z, h] at this
  cases this
mutual
theorem Dq.reads (sm : (X.K.lookup sysModules).isSome = true) (I : Inv X pins σ H s) : ∀ {v : V} {d : PyData} {u : Value}, Dq H v d → RelV v u → ∃ as, Reads s.heap u d as ∧ sysModules ∉ as
  | _, _, _, .non, r => by
    cases r
    exact ⟨_, .none, List.not_mem_nil⟩
  | _, _, _, .bl b, r => by
    cases r
    exact ⟨_, .bool b, List.not_mem_nil⟩
  | _, _, _, .int i, r => by
    obtain ⟨t, rfl⟩ := r
    exact ⟨_, .int i t, List.not_mem_nil⟩
  | _, _, _, .str x, r => by
    obtain ⟨t, rfl⟩ := r
    exact ⟨_, .str x t, List.not_mem_nil⟩
  | _, _, _, .lst h a, r => by
    have n := noSys sm I h
    cases r
    obtain ⟨its, rv, ⟨o, m, ho, hc, _, hd⟩, _⟩ := I.list (SqL.of h)
    obtain ⟨as, hr, hn⟩ := DqAll.reads sm I a rv
    exact ⟨_, .list ho hc hd hr, fun z => (List.mem_cons.mp z).elim (fun e => n e.symm) hn⟩
  | _, _, _, .tup h a, r => by
    cases r
    obtain ⟨its, rv, ⟨o, ho, hc, m, hd⟩, _⟩ := I.tuple (SqT.of h)
    obtain ⟨as, hr, hn⟩ := DqAll.reads sm I a rv
    exact ⟨_, .tuple ho hc hd hr, hn⟩
  | _, _, _, .dk h a, r => by
    cases r
    obtain ⟨_, hsm, vs, kv, hd⟩ := dk_of I.hok h
    obtain ⟨as, hr, hn⟩ := DqKv.reads sm I a kv
    refine ⟨_, PyProof.V.reads_dictOf key_reads hd hr, fun z => ?_⟩
    rcases List.mem_cons.mp z with z | z
    · rw [← z] at hsm
      exact absurd hsm (by decide)
    · exact hn z
theorem DqAll.reads (sm : (X.K.lookup sysModules).isSome = true) (I : Inv X pins σ H s) : ∀ {vs : List V} {ds : List PyData} {us : List Value}, DqAll H vs ds → Vals vs us → ∃ as, ReadsAll s.heap us ds as ∧ sysModules ∉ as
  | _, _, _, .nil, r => by
    cases r
    exact ⟨_, .nil, List.not_mem_nil⟩
  | _, _, _, .cons a b, r => by
    cases r with
    | cons r1 r2 =>
      obtain ⟨as, q1, n1⟩ := Dq.reads sm I a r1
      obtain ⟨bs, q2, n2⟩ := DqAll.reads sm I b r2
      exact ⟨_, .cons q1 q2, fun z => (List.mem_append.mp z).elim n1 n2⟩
theorem DqKv.reads (sm : (X.K.lookup sysModules).isSome = true) (I : Inv X pins σ H s) : ∀ {vs : List (Key × V)} {ds : List (PyData × PyData)} {us : List (Key × Value)}, DqKv H vs ds → KV vs us → ∃ as, PyProof.V.PairsRead s.heap kd us ds as ∧ sysModules ∉ as
  | _, _, _, .nil, r => by
    cases r
    exact ⟨_, .nil, List.not_mem_nil⟩
  | _, _, _, .cons a b, r => by
    cases r with
    | cons r1 r2 =>
      rename_i kv2 _
      obtain ⟨k2, v2⟩ := kv2
      obtain ⟨e1, e2⟩ := r1
      cases e1
      obtain ⟨as, q1, n1⟩ := Dq.reads sm I a e2
      obtain ⟨bs, q2, n2⟩ := DqKv.reads sm I b r2
      exact ⟨_, .cons q1 q2, fun z => (List.mem_append.mp z).elim n1 n2⟩
end
end
def rReprQ : List V → Hp → VK → Prop := fun xs H Q => ∃ (v : V) (d : PyData), xs = [v] ∧ Dq H v d ∧ d.showable = true ∧ d.depth ≤ 60 ∧ d.shown.length ≤ sizeLine ∧ Q (.str d.shown) H
theorem repr_ref {X : Cx} (sm : (X.K.lookup sysModules).isSome = true) (hg : X.A.guards = some []) (hu : X.A.units + 64 < cLine) {pins : List (Addr × Obj)} {s : Shared} {σ : L2.St} {H : Hp} {Q : VK} {a : Addr} {d : PyData} (I : Inv X pins σ H s) (hd : Dq H (.ref a) d) (hs : d.showable = true)
    (hdep : d.depth ≤ 60) (hsz : d.shown.length ≤ sizeLine) (q : Q (.str d.shown) H) : wpAny (model X.prog X.w) X.A (call (.builtin "repr") [.ref a]) (EP X pins σ Q) X.xe s := by
  obtain ⟨as, rd, hn⟩ := hd.reads sm I (u := .ref a) rfl
  exact repr_of_reads' rd hs (fun _ => hn) hg (by omega) (fun _ _ e => e) (fun h' v tk hk => ⟨.str d.shown, H, I.kept hk, ⟨v, rfl⟩, q⟩) hsz
theorem call_reprQ {X : Cx} (sm : (X.K.lookup sysModules).isSome = true) (hg : X.A.guards = some []) (hu : X.A.units + 64 < cLine) : CallR X (.builtin "repr") rReprQ := by
  intro pins s σ H xs us Q I r h
  obtain ⟨v, d, rfl, hd, hs, hdep, hsz, q⟩ := h
  obtain ⟨u, rfl, ru⟩ := vals1 r
  cases hd with
  | non =>
    obtain rfl : u = Value.none := ru
    simp only [PyData.shown] at q
    exact PySem.P.repr_of_none ⟨.str _, H, I.tok _, ⟨_, rfl⟩, q⟩
  | bl b =>
    obtain rfl : u = Value.bool b := ru
    simp only [PyData.shown] at q
    refine PySem.P.repr_of_bool ⟨.str _, H, I.tok _, ⟨_, rfl⟩, ?_⟩
    cases b <;> exact q
  | int i =>
    obtain ⟨t, rfl⟩ := ru
    simp only [PyData.shown] at q
    exact PySem.P.repr_of_int (of_decide_eq_true (by simpa only [PyData.showable] using hs)) ⟨.str _, H, I.tok _, ⟨_, rfl⟩, q⟩
  | str x =>
    obtain ⟨t, rfl⟩ := ru
    simp only [PyData.shown] at q hsz
    exact PySem.P.repr_of_str ⟨.str _, H, I.tok _, ⟨_, rfl⟩, q⟩ hsz
  | lst h a =>
    obtain rfl := (show u = Value.ref _ from ru)
    exact repr_ref sm hg hu I (.lst h a) hs hdep hsz q
  | tup h a =>
    obtain rfl := (show u = Value.ref _ from ru)
    exact repr_ref sm hg hu I (.tup h a) hs hdep hsz q
  | dk h a =>
    obtain rfl := (show u = Value.ref _ from ru)
    exact repr_ref sm hg hu I (.dk h a) hs hdep hsz q
/-! ### lists that are not the table of modules -/
def tLstX (t : TA) : TE := fun σ H Q => t σ H fun xs H1 => xs.length ≤ sizeLine ∧ ∀ p, H1 p = none → p ≠ sysModules → Q (.ref p) (upd H1 p (.lst xs))
theorem pe_lstX {X : Cx} {es : List Expr} {t : TA} {pos : Pos} (h : PA X es t) : PE X (.List es pos) (tLstX t) := by
  refine ⟨fun pins s σ H Q I hq => wpAny_List_spliced (thn (h.run pos pins s σ H _ I hq) fun us s1 ⟨xs, H1, J, r, z, q⟩ => ⟨by rw [← r.length]; exact z, ?_⟩)⟩
  have hp := q _ (J.hok.fresh (Nat.le_refl _)) (Nat.ne_of_gt J.big)
  exact ⟨.ref s1.heap.objs.size, _, J.laid (t' := s1.toks) (o := .lst xs) (fun b u e => Heap.get?_push_of_some _ e) (Nat.le_refl _) ⟨z, us, 0, r, Heap.get?_push_size _ rfl⟩, rfl, hp⟩
/-! ### the keys of a dict, in order -/
theorem kd_inj {a b : Key} (h : kd a = kd b) : a = b := by
  cases a <;> cases b <;> simp only [kd] at h
  · injection h with h; rw [h]
  · exact PyData.noConfusion h
  · exact PyData.noConfusion h
  · injection h with h; rw [h]
theorem DqKv.keys {H : Hp} : ∀ {vs : List (Key × V)} {ds : List (PyData × PyData)}, DqKv H vs ds → ds.map (·.1) = vs.map fun p => kd p.1
  | _, _, .nil => rfl
  | _, _, .cons _ b => by rw [List.map_cons, List.map_cons, b.keys]
theorem DqKv.len {H : Hp} {vs : List (Key × V)} {ds : List (PyData × PyData)} (h : DqKv H vs ds) : vs.length = ds.length := by
  have e := congrArg List.length h.keys
  rw [List.length_map, List.length_map] at e
  exact e.symm
theorem DqKv.look {H : Hp} : ∀ {vs : List (Key × V)} {ds : List (PyData × PyData)} {k : Key}, DqKv H vs ds → k ∈ vs.map (·.1) → ∃ v d, valV vs k = some v ∧ (kd k, d) ∈ ds ∧ Dq H v d
  | _, _, k, .nil, h => absurd h List.not_mem_nil
  | _, _, k, .cons (k := k2) (v := v) (d := d) (vs := vs) a b, h => by
    by_cases e : k2 = k
    · subst e
      exact ⟨v, d, valV_pos rfl, List.mem_cons_self, a⟩
    · rw [List.map_cons] at h
      rcases List.mem_cons.mp h with h | h
      · exact absurd h.symm e
      · obtain ⟨v2, d2, h1, h2, h3⟩ := b.look h
        exact ⟨v2, d2, (valV_neg (p := (k2, v)) e).trans h1, List.mem_cons_of_mem _ h2, h3⟩
/-- what stands at these keys -/
inductive Lk (H : Hp) (vs : List (Key × V)) (ds : List (PyData × PyData)) : List Key → List (PyData × PyData) → Prop
  | nil : Lk H vs ds [] []
  | cons {k : Key} {v : V} {d : PyData} {ks : List Key} {l : List (PyData × PyData)} : valV vs k = some v → Dq H v d → (kd k, d) ∈ ds → Lk H vs ds ks l → Lk H vs ds (k :: ks) ((kd k, d) :: l)
theorem DqKv.lks {H : Hp} {vs : List (Key × V)} {ds : List (PyData × PyData)} (h : DqKv H vs ds) : ∀ {ks : List Key}, (∀ k ∈ ks, k ∈ vs.map (·.1)) → ∃ l, Lk H vs ds ks l
  | [], _ => ⟨[], .nil⟩
  | k :: ks, hk => by
    obtain ⟨l, hl⟩ := h.lks fun x hx => hk x (List.mem_cons_of_mem _ hx)
    obtain ⟨v, d, h1, h2, h3⟩ := h.look (hk k List.mem_cons_self)
    exact ⟨_, .cons h1 h3 h2 hl⟩
theorem Lk.keys {H : Hp} {vs : List (Key × V)} {ds : List (PyData × PyData)} : ∀ {ks : List Key} {l : List (PyData × PyData)}, Lk H vs ds ks l → l.map (·.1) = ks.map kd
  | _, _, .nil => rfl
  | _, _, .cons _ _ _ b => by rw [List.map_cons, List.map_cons, b.keys]
theorem Lk.sub {H : Hp} {vs : List (Key × V)} {ds : List (PyData × PyData)} : ∀ {ks : List Key} {l : List (PyData × PyData)}, Lk H vs ds ks l → ∀ p ∈ l, p ∈ ds
  | _, _, .nil, _, h => absurd h List.not_mem_nil
  | _, _, .cons _ _ m b, p, h => (List.mem_cons.mp h).elim (fun e => e ▸ m) fun h => b.sub p h
theorem Lk.get {H : Hp} {vs : List (Key × V)} {ds : List (PyData × PyData)} : ∀ {ks : List Key} {l : List (PyData × PyData)} {i : Nat} {k : Key}, Lk H vs ds ks l → ks[i]? = some k → ∃ v d, valV vs k = some v ∧ l[i]? = some (kd k, d) ∧ Dq H v d
  | _, _, i, k, .nil, h => by simp at h
  | _, _, 0, k, .cons a b c e, h => by
    simp at h
    subst h
    exact ⟨_, _, a, rfl, b⟩
  | _, _, i + 1, k, .cons a b c e, h => by
    simp at h
    obtain ⟨v, d, h1, h2, h3⟩ := e.get h
    exact ⟨v, d, h1, by simp [h2], h3⟩
theorem pair_ext {α β : Type} : ∀ {ds : List (α × β)} {p q : α × β}, (ds.map (·.1)).Nodup → p ∈ ds → q ∈ ds → p.1 = q.1 → p = q
  | [], _, _, _, h, _, _ => absurd h List.not_mem_nil
  | d :: ds, p, q, nd, hp, hq, e => by
    rw [List.map_cons, List.nodup_cons] at nd
    rcases List.mem_cons.mp hp with e1 | hp1 <;> rcases List.mem_cons.mp hq with e2 | hq1
    · rw [e1, e2]
    · exact absurd (show d.1 ∈ ds.map (·.1) by rw [← e1, e]; exact List.mem_map_of_mem hq1) nd.1
    · exact absurd (show d.1 ∈ ds.map (·.1) by rw [← e2, ← e]; exact List.mem_map_of_mem hp1) nd.1
    · exact pair_ext nd.2 hp1 hq1 e
theorem list_ext_keys {α β : Type} {ds : List (α × β)} (nd : (ds.map (·.1)).Nodup) : ∀ {l m : List (α × β)}, l.map (·.1) = m.map (·.1) → (∀ p ∈ l, p ∈ ds) → (∀ p ∈ m, p ∈ ds) → l = m
  | [], [], _, _, _ => rfl
  | [], b :: m, e, _, _ => by simp at e
  | a :: l, [], e, _, _ => by simp at e
  | a :: l, b :: m, e, h1, h2 => by
    rw [List.map_cons, List.map_cons] at e
    injection e with e1 e2
    rw [pair_ext nd (h1 a List.mem_cons_self) (h2 b List.mem_cons_self) e1, list_ext_keys nd e2 (fun p hp => h1 p (List.mem_cons_of_mem _ hp)) fun p hp => h2 p (List.mem_cons_of_mem _ hp)]
/-- the pairs at sorted keys are the sorted pairs -/
theorem Lk.srt {H : Hp} {vs : List (Key × V)} {ds l : List (PyData × PyData)} {ks : List Key} (h : DqKv H vs ds) (k : KO (ds.map (·.1))) (p : ks.Perm (vs.map (·.1))) (s : ks.Pairwise fun a b => kl (kd a) (kd b) = true) (hl : Lk H vs ds ks l) : srt ds = l := by
  have e1 : (l.map (·.1)).Perm (ds.map (·.1)) := by
    rw [hl.keys, h.keys]
    have := p.map kd
    rw [List.map_map] at this
    exact this
  obtain ⟨j, e2, p2⟩ := perm_map_inv (f := fun p : PyData × PyData => p.1) e1
  have e3 : l = j := list_ext_keys k.1 e2 hl.sub fun p hp => p2.mem_iff.mp hp
  refine srt_of (e3 ▸ p2) k ?_
  have e4 : (l.map (·.1)).Pairwise fun a b => kl a b = true := by
    rw [hl.keys, List.pairwise_map]
    exact s
  rw [List.pairwise_map] at e4
  exact e4
theorem risingS_lt : ∀ {l : List Str} {p : Str}, risingS p l = true → (p :: l).Nodup → (p :: l).Pairwise fun a b => a.cps.toList < b.cps.toList
  | [], p, _, _ => List.pairwise_singleton _ _
  | x :: r, p, h, nd => by
    have h' : (!ltCps x.cps.toList p.cps.toList && risingS x r) = true := h
    rw [Bool.and_eq_true, ltCps_eq, Bool.not_eq_true', decide_eq_false_iff_not] at h'
    rw [List.nodup_cons] at nd
    have ih := risingS_lt h'.2 nd.2
    have px : p.cps.toList < x.cps.toList := by
      rcases nat_lex_tri p.cps.toList x.cps.toList with e | e | e
      · exact e
      · exact absurd (str_ext e ▸ List.mem_cons_self) nd.1
      · exact absurd e h'.1
    refine List.pairwise_cons.mpr ⟨fun y hy => ?_, ih⟩
    rcases List.mem_cons.mp hy with rfl | hy
    · exact px
    · exact List.lt_trans px ((List.pairwise_cons.mp ih).1 y hy)
theorem sortedS_lt {l : List Str} (h : sortedS l = true) (nd : l.Nodup) : l.Pairwise fun a b => a.cps.toList < b.cps.toList := by
  cases l with
  | nil => exact .nil
  | cons p l => exact risingS_lt h nd
/-- sorted(d), d a dict of such keys -/
def rSortK : List V → Hp → VK → Prop := fun xs H Q => ∃ (a : Addr) (kvs : List (Key × V)), xs = [.ref a] ∧ H a = some (.dK kvs) ∧ KO (kvs.map fun p => kd p.1) ∧ kvs.length < 64 ∧
  ∀ (ks : List Key) (p : Addr), ks.Perm (kvs.map (·.1)) → (ks.Pairwise fun a b => kl (kd a) (kd b) = true) → H p = none → Q (.ref p) (upd H p (.lst (ks.map kV)))
theorem map_int_inv : ∀ {ks : List Key} {is : List Int}, ks.map kd = is.map PyData.int → ks = is.map Sum.inl
  | [], [], _ => rfl
  | [], _ :: _, h => by simp at h
  | _ :: _, [], h => by simp at h
  | .inl k :: ks, i :: is, h => by
    rw [List.map_cons, List.map_cons] at h
    injection h with h1 h2
    injection h1 with h1
    rw [List.map_cons, map_int_inv h2, h1]
  | .inr k :: ks, i :: is, h => by
    rw [List.map_cons, List.map_cons] at h
    injection h with h1 h2
    exact PyData.noConfusion h1
theorem map_str_inv : ∀ {ks : List Key} {is : List Str}, ks.map kd = is.map PyData.str → ks = is.map Sum.inr
  | [], [], _ => rfl
  | [], _ :: _, h => by simp at h
  | _ :: _, [], h => by simp at h
  | .inr k :: ks, i :: is, h => by
    rw [List.map_cons, List.map_cons] at h
    injection h with h1 h2
    injection h1 with h1
    rw [List.map_cons, map_str_inv h2, h1]
  | .inl k :: ks, i :: is, h => by
    rw [List.map_cons, List.map_cons] at h
    injection h with h1 h2
    exact PyData.noConfusion h1
theorem call_sortK {X : Cx} (hc : X.calm = true) : CallR X (.builtin "sorted") rSortK := by
  intro pins s σ H xs us Q I r h
  obtain ⟨a, kvs, rfl, ha, k, hl, q⟩ := h
  have e0 : (kvs.map fun p => kd p.1) = (kvs.map (·.1)).map kd := by rw [List.map_map]; rfl
  have nd : (kvs.map (·.1)).Nodup := by
    have := k.1
    rw [e0] at this
    exact List.Pairwise.of_map kd (fun a b h z => h (congrArg kd z)) this
  rcases k.2 with ⟨is, e, b⟩ | ⟨ss, e, b⟩
  · rw [e0] at e
    have e2 := map_int_inv e
    refine call_sortedDI hc pins s σ H _ us Q I r ⟨a, kvs, is, rfl, .inl ha, e2, ?_, fun ys p hp hs hn => ?_⟩
    · have := congrArg List.length e2
      rw [List.length_map, List.length_map] at this
      omega
    · have z := q (ys.map Sum.inl) p (by rw [e2]; exact hp.map _) ?_ hn
      · rw [List.map_map] at z
        exact z
      · rw [List.pairwise_map]
        have nd2 : ys.Nodup := by
          rw [e2] at nd
          exact hp.nodup_iff.mpr (List.Pairwise.of_map Sum.inl (fun a b h z => h (congrArg Sum.inl z)) nd)
        refine (hs.and nd2).imp fun {a b} h => decide_eq_true (by obtain ⟨h1, h2⟩ := h; omega)
  · rw [e0] at e
    have e2 := map_str_inv e
    refine call_sortedD hc pins s σ H _ us Q I r ⟨a, kvs, ss, rfl, .inl ha, e2, ?_, fun ys p hp hs hn => ?_⟩
    · have := congrArg List.length e2
      rw [List.length_map, List.length_map] at this
      omega
    · have z := q (ys.map Sum.inr) p (by rw [e2]; exact hp.map _) ?_ hn
      · rw [List.map_map] at z
        exact z
      · rw [List.pairwise_map]
        have nd2 : ys.Nodup := by
          rw [e2] at nd
          exact hp.nodup_iff.mpr (List.Pairwise.of_map Sum.inr (fun a b h z => h (congrArg Sum.inr z)) nd)
        exact (sortedS_lt hs nd2).imp fun {a b} h => decide_eq_true h
end Gd

set_option Elab.async false
set_option linter.all false
set_option maxRecDepth 100000
set_option maxHeartbeats 1000000
namespace Gd
open PySem PySem.Spec PyProof.Rows L2
/-! ### where a pair is put in; data do not hold themselves -/
def pos (p : PyData × PyData) : List (PyData × PyData) → Nat
  | [] => 0
  | q :: r => if kl q.1 p.1 = true then pos p r + 1 else 0
theorem insK_pos (p : PyData × PyData) : ∀ l, insK p l = l.take (pos p l) ++ p :: l.drop (pos p l)
  | [] => rfl
  | q :: r => by
    unfold insK pos
    split
    · rw [List.take_succ_cons, List.drop_succ_cons, insK_pos p r, List.cons_append]
    · rfl
theorem pos_le (p : PyData × PyData) : ∀ l, pos p l ≤ l.length
  | [] => Nat.le_refl _
  | q :: r => by
    unfold pos
    split
    · exact Nat.succ_le_succ (pos_le p r)
    · exact Nat.zero_le _
theorem pos_lt {p : PyData × PyData} : ∀ {l : List (PyData × PyData)} {j : Nat} {q : PyData × PyData}, l[j]? = some q → (j < pos p l → kl q.1 p.1 = true) ∧ (j = pos p l → kl q.1 p.1 = false)
  | [], j, q, h => by simp at h
  | a :: r, 0, q, h => by
    simp at h
    subst h
    unfold pos
    split
    · rename_i c
      exact ⟨fun _ => c, fun z => absurd z (by omega)⟩
    · rename_i c
      exact ⟨fun z => absurd z (by omega), fun _ => by simpa using c⟩
  | a :: r, j + 1, q, h => by
    simp at h
    have ih := pos_lt (p := p) h
    unfold pos
    split
    · exact ⟨fun z => ih.1 (by omega), fun z => ih.2 (by omega)⟩
    · exact ⟨fun z => absurd z (by omega), fun z => absurd z (by omega)⟩
theorem srt_step {l : List (PyData × PyData)} {i : Nat} {p : PyData × PyData} (h : l[i]? = some p) : srt (l.take (i + 1)) = insK p (srt (l.take i)) := by
  unfold srt
  rw [List.take_add_one, h, List.foldl_append]
  rfl
mutual
theorem Dq.det {H : Hp} : ∀ {v : V} {d d' : PyData}, Dq H v d → Dq H v d' → d = d'
  | _, _, _, .non, h => by cases h; rfl
  | _, _, _, .bl b, h => by cases h; rfl
  | _, _, _, .int i, h => by cases h; rfl
  | _, _, _, .str x, h => by cases h; rfl
  | _, _, _, .lst e a, h => by
    cases h with
    | lst e2 a2 =>
      rw [e] at e2
      cases e2
      rw [DqAll.det a a2]
    | tup e2 a2 => rw [e] at e2; cases e2
    | dk e2 a2 => rw [e] at e2; cases e2
  | _, _, _, .tup e a, h => by
    cases h with
    | lst e2 a2 => rw [e] at e2; cases e2
    | tup e2 a2 =>
      rw [e] at e2
      cases e2
      rw [DqAll.det a a2]
    | dk e2 a2 => rw [e] at e2; cases e2
  | _, _, _, .dk e a, h => by
    cases h with
    | lst e2 a2 => rw [e] at e2; cases e2
    | tup e2 a2 => rw [e] at e2; cases e2
    | dk e2 a2 =>
      rw [e] at e2
      cases e2
      rw [DqKv.det a a2]
theorem DqAll.det {H : Hp} : ∀ {vs : List V} {ds ds' : List PyData}, DqAll H vs ds → DqAll H vs ds' → ds = ds'
  | _, _, _, .nil, h => by cases h; rfl
  | _, _, _, .cons a b, h => by
    cases h with
    | cons a2 b2 => rw [Dq.det a a2, DqAll.det b b2]
theorem DqKv.det {H : Hp} : ∀ {vs : List (Key × V)} {ds ds' : List (PyData × PyData)}, DqKv H vs ds → DqKv H vs ds' → ds = ds'
  | _, _, _, .nil, h => by cases h; rfl
  | _, _, _, .cons a b, h => by
    cases h with
    | cons a2 b2 => rw [Dq.det a a2, DqKv.det b b2]
end
mutual
theorem Dq.off {H : Hp} {a : Addr} {o : HO} : ∀ {v : V} {d : PyData}, Dq H v d → (∀ d', Dq H (.ref a) d' → sizeOf d < sizeOf d') → Dq (upd H a o) v d
  | _, _, .non, _ => .non
  | _, _, .bl b, _ => .bl b
  | _, _, .int i, _ => .int i
  | _, _, .str x, _ => .str x
  | _, _, .lst (a := b) (ds := ds) e q, h => by
    have nb : b ≠ a := fun z => by
      subst z
      exact absurd (h _ (.lst e q)) (Nat.lt_irrefl _)
    refine .lst ((upd_ne nb).trans e) (DqAll.off q fun d' hd => ?_)
    have := h d' hd
    have e2 := PyData.list.sizeOf_spec ds
    omega
  | _, _, .tup (a := b) (ds := ds) e q, h => by
    have nb : b ≠ a := fun z => by
      subst z
      exact absurd (h _ (.tup e q)) (Nat.lt_irrefl _)
    refine .tup ((upd_ne nb).trans e) (DqAll.off q fun d' hd => ?_)
    have := h d' hd
    have e2 := PyData.tuple.sizeOf_spec ds
    omega
  | _, _, .dk (a := b) (ds := ds) e q, h => by
    have nb : b ≠ a := fun z => by
      subst z
      exact absurd (h _ (.dk e q)) (Nat.lt_irrefl _)
    refine .dk ((upd_ne nb).trans e) (DqKv.off q fun d' hd => ?_)
    have := h d' hd
    have e2 := PyData.dict.sizeOf_spec ds
    omega
theorem DqAll.off {H : Hp} {a : Addr} {o : HO} : ∀ {vs : List V} {ds : List PyData}, DqAll H vs ds → (∀ d', Dq H (.ref a) d' → sizeOf ds < sizeOf d') → DqAll (upd H a o) vs ds
  | _, _, .nil, _ => .nil
  | _, _, .cons (d := d) (ds := ds) q r, h => by
    have e2 : sizeOf (d :: ds) = 1 + sizeOf d + sizeOf ds := rfl
    exact .cons (Dq.off q fun d' hd => by have := h d' hd; omega) (DqAll.off r fun d' hd => by have := h d' hd; omega)
theorem DqKv.off {H : Hp} {a : Addr} {o : HO} : ∀ {vs : List (Key × V)} {ds : List (PyData × PyData)}, DqKv H vs ds → (∀ d', Dq H (.ref a) d' → sizeOf ds < sizeOf d') → DqKv (upd H a o) vs ds
  | _, _, .nil, _ => .nil
  | _, _, .cons (k := k) (d := d) (ds := ds) q r, h => by
    have e2 : sizeOf ((kd k, d) :: ds) = 1 + (1 + sizeOf (kd k) + sizeOf d) + sizeOf ds := rfl
    exact .cons (Dq.off q fun d' hd => by have := h d' hd; omega) (DqKv.off r fun d' hd => by have := h d' hd; omega)
end
/-- the values of a dict stay where the dict itself is locked -/
theorem DqKv.lock {H : Hp} {a : Addr} {o : HO} {vs : List (Key × V)} {ds : List (PyData × PyData)} (h : DqKv H vs ds) (e : H a = some (.dK vs)) : DqKv (upd H a o) vs ds := by
  refine h.off fun d' hd => ?_
  rw [hd.det (.dk e h)]
  have e2 := PyData.dict.sizeOf_spec ds
  omega
theorem DqKv.at {H : Hp} : ∀ {vs : List (Key × V)} {ds : List (PyData × PyData)} {i : Nat} {k : Key} {v : V}, DqKv H vs ds → vs[i]? = some (k, v) → ∃ d, ds[i]? = some (kd k, d) ∧ Dq H v d
  | _, _, i, k, v, .nil, h => by simp at h
  | _, _, 0, k, v, .cons a b, h => by
    simp at h
    obtain ⟨rfl, rfl⟩ := h
    exact ⟨_, rfl, a⟩
  | _, _, i + 1, k, v, .cons a b, h => by
    simp at h
    obtain ⟨d, h1, h2⟩ := b.at h
    exact ⟨d, by simp [h1], h2⟩
theorem valV_at {κ : Type} [DecidableEq κ] : ∀ {vs : List (κ × V)} {i : Nat} {k : κ} {v : V}, (vs.map (·.1)).Nodup → vs[i]? = some (k, v) → valV vs k = some v
  | [], i, k, v, _, h => by simp at h
  | p :: vs, 0, k, v, _, h => by
    simp at h
    subst h
    exact valV_pos rfl
  | p :: vs, i + 1, k, v, nd, h => by
    simp at h
    rw [List.map_cons, List.nodup_cons] at nd
    have n : ¬ p.1 = k := fun z => nd.1 (z ▸ List.mem_map_of_mem (List.mem_of_getElem? h))
    exact (valV_neg n).trans (valV_at nd.2 h)
theorem keys_nd {vs : List (Key × V)} (h : KO (vs.map fun p => kd p.1)) : (vs.map (·.1)).Nodup := by
  have := h.1
  rw [show (vs.map fun p => kd p.1) = (vs.map (·.1)).map kd by rw [List.map_map]; rfl] at this
  exact List.Pairwise.of_map kd (fun a b h z => h (congrArg kd z)) this
end Gd

set_option Elab.async false
set_option linter.all false
set_option maxRecDepth 100000
set_option maxHeartbeats 1000000
namespace Gd
open PySem PySem.Spec PyProof.Rows L2
/-! ### what is new in a heap -/
def nw (G H : Hp) : Hp := fun b => match G b with
  | none => H b
  | some _ => none
theorem nw_at {G H : Hp} {b : Addr} (g : G b = none) : nw G H b = H b := by
  unfold nw
  rw [g]
theorem nw_some {G H : Hp} {b : Addr} {o : HO} (h : nw G H b = some o) : G b = none ∧ H b = some o := by
  unfold nw at h
  cases g : G b with
  | none => rw [g] at h; exact ⟨rfl, h⟩
  | some u => rw [g] at h; cases h
theorem nw_same {G G' H H' : Hp} (h : ∀ b o, G b = none → H b = some o → G' b = none ∧ H' b = some o) : Same (nw G H) (nw G' H') := fun b o e => by
  obtain ⟨g, e2⟩ := nw_some e
  obtain ⟨g2, e3⟩ := h b o g e2
  rw [nw_at g2]
  exact e3
theorem nw_sub {G H : Hp} : Same (nw G H) H := fun b o e => (nw_some e).2
def Dom (H H' : Hp) : Prop := ∀ b, H b ≠ none → H' b ≠ none
theorem Dom.none {H H' : Hp} (d : Dom H H') {b : Addr} (h : H' b = none) : H b = none := by
  cases e : H b with
  | none => rfl
  | some o => exact absurd h (d b (by rw [e]; simp))
theorem Dom.trans {H H1 H2 : Hp} (a : Dom H H1) (b : Dom H1 H2) : Dom H H2 := fun x h => b x (a x h)
theorem Dom.same {H H' : Hp} (s : Same H H') : Dom H H' := fun b h => by
  cases e : H b with
  | none => exact absurd e h
  | some o => rw [s b o e]; simp
theorem Dom.upd (H : Hp) (p : Addr) (o : HO) : Dom H (upd H p o) := fun b h => by
  by_cases e : b = p
  · rw [e, upd_same]; simp
  · rw [upd_ne e]; exact h
theorem KO.sub {ks ks' : List PyData} (h : KO ks) (s : ks'.Sublist ks) : KO ks' := by
  refine ⟨s.nodup h.1, ?_⟩
  rcases h.2 with ⟨is, rfl, b⟩ | ⟨is, rfl, b⟩
  · left
    obtain ⟨js, hj, e⟩ := List.sublist_map_iff.mp s
    exact ⟨js, e, fun i hi => b i (hj.mem hi)⟩
  · right
    obtain ⟨js, hj, e⟩ := List.sublist_map_iff.mp s
    exact ⟨js, e, fun i hi => b i (hj.mem hi)⟩
theorem putK_new {κ : Type} [DecidableEq κ] {kvs : List (κ × V)} {k : κ} {v : V} (h : k ∉ kvs.map (·.1)) : putK kvs k v = kvs ++ [(k, v)] := by
  unfold putK
  rw [if_neg]
  intro z
  rw [List.any_eq_true] at z
  obtain ⟨p, hp, e⟩ := z
  exact h (of_decide_eq_true e ▸ List.mem_map_of_mem hp)
theorem DqKv.snoc {H : Hp} {k : Key} {v : V} {d : PyData} : ∀ {vs : List (Key × V)} {ds : List (PyData × PyData)}, DqKv H vs ds → Dq H v d → DqKv H (vs ++ [(k, v)]) (ds ++ [(kd k, d)])
  | _, _, .nil, h => .cons h .nil
  | _, _, .cons a b, h => .cons a (b.snoc h)
theorem Dq.lf {H : Hp} {v : V} {d : PyData} (h : Dq (fun _ => none) v d) : Dq H v d := h.same fun b o e => by cases e
end Gd

set_option Elab.async false
set_option linter.all false
set_option maxRecDepth 100000
set_option maxHeartbeats 1000000
namespace Gd
open PySem PySem.Spec PyProof.Rows L2
/-- data stand as long as lists, tuples, dicts do -/
structure DK (H H' : Hp) : Prop where
  l : ∀ b xs, H b = some (.lst xs) → H' b = some (.lst xs)
  t : ∀ b xs, H b = some (.tup xs) → H' b = some (.tup xs)
  d : ∀ b kvs, H b = some (.dK kvs) → H' b = some (.dK kvs)
theorem DK.of {H H' : Hp} (s : Same H H') : DK H H' := ⟨fun _ _ h => s _ _ h, fun _ _ h => s _ _ h, fun _ _ h => s _ _ h⟩
theorem DK.trans {H H1 H2 : Hp} (a : DK H H1) (b : DK H1 H2) : DK H H2 := ⟨fun _ _ h => b.l _ _ (a.l _ _ h), fun _ _ h => b.t _ _ (a.t _ _ h), fun _ _ h => b.d _ _ (a.d _ _ h)⟩
/-- an instance is written -/
theorem DK.ins {H H' : Hp} {a C dx : Addr} {fs : List (Str × V)} (h : H a = some (.ins C dx fs)) (k : ∀ b o, b ≠ a → H b = some o → H' b = some o) : DK H H' := by
  refine ⟨fun b xs e => k b _ (fun z => ?_) e, fun b xs e => k b _ (fun z => ?_) e, fun b xs e => k b _ (fun z => ?_) e⟩ <;> (rw [z, h] at e; cases e)
mutual
theorem Dq.keep {H H' : Hp} (s : DK H H') : ∀ {v : V} {d : PyData}, Dq H v d → Dq H' v d
  | _, _, .non => .non
  | _, _, .bl b => .bl b
  | _, _, .int i => .int i
  | _, _, .str x => .str x
  | _, _, .lst h a => .lst (s.l _ _ h) (DqAll.keep s a)
  | _, _, .tup h a => .tup (s.t _ _ h) (DqAll.keep s a)
  | _, _, .dk h a => .dk (s.d _ _ h) (DqKv.keep s a)
theorem DqAll.keep {H H' : Hp} (s : DK H H') : ∀ {vs : List V} {ds : List PyData}, DqAll H vs ds → DqAll H' vs ds
  | _, _, .nil => .nil
  | _, _, .cons a b => .cons (Dq.keep s a) (DqAll.keep s b)
theorem DqKv.keep {H H' : Hp} (s : DK H H') : ∀ {vs : List (Key × V)} {ds : List (PyData × PyData)}, DqKv H vs ds → DqKv H' vs ds
  | _, _, .nil => .nil
  | _, _, .cons a b => .cons (Dq.keep s a) (DqKv.keep s b)
end
theorem putF_len (f : Str) (v : V) : ∀ fs : List (Str × V), (putF f v fs).length ≤ fs.length + 1
  | [] => Nat.le_refl _
  | (g, x) :: r => by
    unfold putF
    split
    · show r.length + 1 ≤ r.length + 1 + 1
      omega
    · have := putF_len f v r
      show (putF f v r).length + 1 ≤ r.length + 1 + 1
      omega
theorem look_same (f : Str) (v : V) (fs : List (Str × V)) : (putF f v fs).lookup f = some v := by
  rw [lookup_putF, if_pos rfl]
theorem look_ne {f g : Str} (h : g ≠ f) (v : V) (fs : List (Str × V)) : (putF f v fs).lookup g = fs.lookup g := by
  rw [lookup_putF, if_neg h]
end Gd

set_option Elab.async false
set_option linter.all false
set_option maxRecDepth 100000
set_option maxHeartbeats 1000000
namespace K56
open PySem PySem.Spec PyProof.Rows L2 Gd
/-! ### rules for values of any kind -/
section
variable {X : Cx} {tg : Expr}
def rIsiA (K : PySem.W.Frag) : List V → Hp → VK → Prop := fun xs H Q => rIsi K xs H Q ∨ rIsiT K xs H Q
theorem call_isiA : CallR X (.builtin "isinstance") (rIsiA X.K) := fun pins s σ H xs us Q I r h => h.elim (fun h => call_isi pins s σ H xs us Q I r h) fun h => call_isiT pins s σ H xs us Q I r h
/-- list(x) of a list, a tuple, a dict -/
def rListA (K : PySem.W.Frag) : List V → Hp → VK → Prop := fun xs H Q => (∃ p ys, xs = [.ref p] ∧ (SqL K H p ys ∨ SqT K H p ys) ∧ ∀ l, H l = none → Q (.ref l) (upd H l (.lst ys))) ∨
  ∃ (a : Addr) (kvs : List (Key × V)), xs = [.ref a] ∧ Rd H a (.dK kvs) ∧ ∀ p, H p = none → Q (.ref p) (upd H p (.lst (kvs.map fun kv => kV kv.1)))
theorem call_listA (hc : X.calm = true) : CallR X (.type "list") (rListA X.K) := fun pins s σ H xs us Q I r h => h.elim (fun h => call_list_of pins s σ H xs us Q I r h) fun h => call_listD hc pins s σ H xs us Q I r h
def rLtA : R2 := fun x y H Q => (∃ i j, x = .int i ∧ y = .int j ∧ Q (.bl (decide (i < j))) H) ∨ ∃ i j, x = .str i ∧ y = .str j ∧ Q (.bl (decide (i.cps.toList < j.cps.toList))) H
theorem op_ltA : OpR X (compareOp .Lt) rLtA := fun pins s σ H x y v u Q I rx ry h => h.elim (fun h => op_lt pins s σ H x y v u Q I rx ry h) fun h => op_lt_str pins s σ H x y v u Q I rx ry h
/-- a list or a tuple, walked -/
def iSeqA (K : PySem.W.Frag) (tl : TE) : TI := fun σ H R => tl σ H fun x H1 => ∃ a, x = .ref a ∧ (((∃ xs, SqL K H1 a xs) ∧ R (Itl K a) H1) ∨ ((∃ xs, SqT K H1 a xs) ∧ R (Itt K a) H1))
theorem pi_seqA {l : Expr} {tl : TE} (hl : PE X l tl) : PI X tg l (iSeqA X.K tl) := by
  refine ⟨fun pins s σ H R I h => ?_⟩
  refine thn (hl.run pins s σ H _ I h) fun v s1 ⟨x, H1, I1, r1, q1⟩ => ?_
  obtain ⟨a, e, q1⟩ := q1
  subst e
  cases r1
  rcases q1 with ⟨⟨xs, hq⟩, q⟩ | ⟨⟨xs, hq⟩, q⟩
  · obtain ⟨its, rv, p, hz⟩ := I1.list hq
    refine wpAny_pyIter_list p.isList ?_
    refine ⟨s1.heap.objs.size, [s1.heap.objs.size], _, _, H1, rfl, I1.kept (t' := s1.toks) fun b o e => Heap.get?_push_of_some _ e, turn_list a _, ⟨_, Heap.get?_push_size _ rfl, rfl, rfl⟩, fun b hb => ?_, q⟩
    have e : b = s1.heap.objs.size := by simpa using hb
    subst e
    exact I1.fpOk (Nat.le_refl _) (I1.hok.fresh (Nat.le_refl _))
  · obtain ⟨its, rv, p, hz⟩ := I1.tuple hq
    refine wpAny_pyIter_tuple (show s1.heap.IsTuple a its.toArray from p) ?_
    refine ⟨s1.heap.objs.size, [s1.heap.objs.size], _, _, H1, rfl, I1.kept (t' := s1.toks) fun b o e => Heap.get?_push_of_some _ e, turn_tuple a _, ⟨_, Heap.get?_push_size _ rfl, rfl, rfl⟩, fun b hb => ?_, q⟩
    have e : b = s1.heap.objs.size := by simpa using hb
    subst e
    exact I1.fpOk (Nat.le_refl _) (I1.hok.fresh (Nat.le_refl _))
end
/-! ### the type of a datum -/
def tyD : PyData → String
  | .none => "NoneType"
  | .bool _ => "bool"
  | .int _ => "int"
  | .str _ => "str"
  | .list _ => "list"
  | .tuple _ => "tuple"
  | .dict _ => "dict"
theorem tyX {K : PySem.W.Frag} {H : Hp} {v : V} {d : PyData} (h : Dq H v d) : TyX K H v (.type (tyD d)) := by
  cases h with
  | non => exact .base .non
  | bl b => exact .base (.bl b)
  | int i => exact .base (.int i)
  | str x => exact .base (.str x)
  | lst a b => exact .base (.lst a)
  | tup a b => exact .base (.tup a)
  | dk a b => exact .base (.dK a)
def tyL : List String := ["NoneType", "bool", "int", "str", "list", "tuple", "dict"]
theorem ty_in (d : PyData) : tyD d ∈ tyL := by
  cases d <;> simp [tyD, tyL]
theorem kb_dict : ∀ n ∈ tyL, kitB n "dict" = some (n == "dict") := by decide +kernel
theorem kb_list : ∀ n ∈ tyL, kitB n "list" = some (n == "list") := by decide +kernel
theorem kb_tuple : ∀ n ∈ tyL, kitB n "tuple" = some (n == "tuple") := by decide +kernel
theorem kit_dict {K : PySem.W.Frag} (d : PyData) : PySem.W.kitOne K (.type (tyD d)) (.type "dict") = some (tyD d == "dict") := kit_ty (kb_dict _ (ty_in d))
theorem kit_list {K : PySem.W.Frag} (d : PyData) : PySem.W.kitOne K (.type (tyD d)) (.type "list") = some (tyD d == "list") := kit_ty (kb_list _ (ty_in d))
theorem kit_tuple {K : PySem.W.Frag} (d : PyData) : PySem.W.kitOne K (.type (tyD d)) (.type "tuple") = some (tyD d == "tuple") := kit_ty (kb_tuple _ (ty_in d))
theorem kit_any {K : PySem.W.Frag} (d : PyData) : PySem.W.kitAny K (.type (tyD d)) [.type "list", .type "tuple"] = some (tyD d == "list" || tyD d == "tuple") := by
  unfold PySem.W.kitAny
  rw [kit_list d]
  cases h : tyD d == "list" with
  | true => rfl
  | false =>
    unfold PySem.W.kitAny
    dsimp only
    rw [kit_tuple d]
    cases h2 : tyD d == "tuple" <;> rfl
section
variable {P : Program} {w : World} {K : PySem.W.Frag} {mg : Str → Option Value} {base : Heap}
/-- what fixes a datum of depth n, of the program and of the law alike -/
def spFix (n : Nat) : Sp := fun vs H Q _ => ∃ (v : V) (d : PyData), vs = [v] ∧ Dq H v d ∧ Sh n d ∧ ∀ (u : V) (H' : Hp), Same H H' → Dq H' u (fx n d) → Q u H'
theorem sh_list {n : Nat} {ds : List PyData} (h : Sh (n + 1) (.list ds)) : ds.length ≤ 5 ∧ ∀ e ∈ ds, Sh n e := by
  rcases h with h | ⟨es, e, l, h⟩ | ⟨kvs, e, _⟩
  · exact h.elim
  · rcases e with e | e <;> cases e
    exact ⟨l, h⟩
  · cases e
theorem sh_tup {n : Nat} {ds : List PyData} (h : Sh (n + 1) (.tuple ds)) : ds.length ≤ 5 ∧ ∀ e ∈ ds, Sh n e := by
  rcases h with h | ⟨es, e, l, h⟩ | ⟨kvs, e, _⟩
  · exact h.elim
  · rcases e with e | e <;> cases e
    exact ⟨l, h⟩
  · cases e
theorem sh_dict {n : Nat} {kvs : List (PyData × PyData)} (h : Sh (n + 1) (.dict kvs)) : kvs.length ≤ 5 ∧ KO (kvs.map (·.1)) ∧ ∀ p ∈ kvs, Sh n p.2 := by
  rcases h with h | ⟨es, e, l, h⟩ | ⟨kvs, e, l, k, h⟩
  · exact h.elim
  · rcases e with e | e <;> cases e
  · cases e
    exact ⟨l, k, h⟩
theorem sh0_lf {d : PyData} (h : Sh 0 d) : tyD d ≠ "dict" ∧ tyD d ≠ "list" ∧ tyD d ≠ "tuple" := by
  cases d <;> first | exact (show False from h).elim | exact ⟨by simp [tyD], by simp [tyD], by simp [tyD]⟩
theorem fx_other {n : Nat} {d : PyData} (h1 : tyD d ≠ "dict") (h2 : tyD d ≠ "list") (h3 : tyD d ≠ "tuple") : fx n d = d := by
  cases n with
  | zero => unfold fx; rfl
  | succ n => cases d <;> first | exact absurd rfl h1 | exact absurd rfl h2 | exact absurd rfl h3 | rfl
/-- the items so far, fixed -/
theorem all_snoc {H : Hp} {n i : Nat} {e : PyData} {ds : List PyData} {ws : List V} {u : V} (h : DqAll H ws ((ds.take i).map (fx n))) (he : ds[i]? = some e) (hu : Dq H u (fx n e)) : DqAll H (ws ++ [u]) ((ds.take (i + 1)).map (fx n)) := by
  rw [← take_next (f := fx n) he]
  exact h.snoc hu
end
end K56

set_option Elab.async false
set_option linter.all false
set_option maxRecDepth 100000
set_option maxHeartbeats 2000000
namespace K56
open PySem PySem.Spec PyProof.Rows L2 Gd
def spF : Nat → Sp
  | 0 => fun _ _ _ _ => False
  | n + 1 => spFix n
section
variable {P : Program} {w : World} {K : PySem.W.Frag} {mg : Str → Option Value} {base : Heap}
theorem fnF {f : Addr} {fd : FuncData} {ps : List Str} {k : Nat} : FnOk P w K mg base C8.CX0 k f fd ps (spF 0) := ⟨fun _ _ _ _ h => h.elim, fun _ _ _ _ _ _ _ _ _ _ _ _ _ h => h.elim⟩
/-- the list that a comprehension makes of fixed items -/
theorem fix_items {K' : PySem.W.Frag} {n : Nat} {ds : List PyData} {xs : List V} {H : Hp} {a : Addr} (hxs : DqAll H xs ds) (hl : ds.length ≤ 5) : xs.length ≤ 5 := by
  rw [hxs.len]
  exact hl
theorem dq_key {H : Hp} (k : Key) : Dq H (kV k) (kd k) := by
  cases k with
  | inl i => exact .int i
  | inr x => exact .str x
theorem tp_pair {m : Nat} {k e : PyData} (hk : Lf k) (he : Sh m e) : Tp (2 * m + 1) (.tuple [k, fx m e]) := by
  refine .inr ⟨_, rfl, by show 2 ≤ 5; decide, fun y hy => ?_⟩
  rcases List.mem_cons.mp hy with rfl | hy
  · exact Tp.leaf hk
  · obtain rfl := List.mem_singleton.mp hy
    exact fx_sh he
theorem ok_fixed (T : Txt K mg) (n : Nat) (G_fixed : C8.Cal P w K mg base n "fixed" (spF n) []) : C8.Cal P w K mg base (n + 1) "fixed" (spFix n) [] := by
  obtain ⟨f, fd, F, b⟩ := T.d_fixed
  refine C8.cal0 F b .nil scfixed (fun vs H Q E h => ?_) (fun cdv A outer s H vs Q E hr h => ?_)
  · obtain ⟨v, d, rfl, _⟩ := h
    rfl
  · have nd := scfixed.nd
    have hu := hu_of hr
    obtain ⟨v, d, rfl, hd, hs, q⟩ := h
    refine ⟨_, (pss_cons (ps_if (pt_val (pe_callB call_isiA (by rfl) T.z_isinstance (by decide +kernel) (pa_cons (pv 0) (pa_cons (pe_bltn (v := .ty "dict") (u := .type "dict") (by rfl) T.z_dict (by decide +kernel) rfl) pa_nil)))) (pss_one (ps_ret (pe_callTy call_tuple_of (by rfl) T.z_tuple (by decide +kernel) (pa_cons (pe_lc (own := [("key", 1)]) (g := gName 1) rfl nd (pi_list (pe_callB (call_sortK rfl) (by rfl) T.z_sorted (by decide +kernel) (pa_cons (pv 0) pa_nil))) (blkOk_by (own := [("key", 1)]) (N := ["value", "key", "part"]) (sc := (C8.fnScope sfixed)) (by decide +kernel)) (fun _ _ _ _ _ => pg_name (i := 1) nd rfl (Or.inl rfl)) (fun _ _ _ _ _ => pts_nil) (fun _ _ _ _ _ => (pe_tup (pa_cons (pv 1) (pa_cons (C8.pe_c G_fixed hr (by omega) (by rfl) (pa_cons (pe_dget hu (pv 0) (pv 1) (fun _ _ => rfl)) pa_nil)) pa_nil))))) pa_nil)))) pss_nil)
      (pss_cons (ps_if (pt_val (pe_callB call_isiA (by rfl) T.z_isinstance (by decide +kernel) (pa_cons (pv 0) (pa_cons (pe_tup (pa_cons (pe_bltn (v := .ty "list") (u := .type "list") (by rfl) T.z_list (by decide +kernel) rfl) (pa_cons (pe_bltn (v := .ty "tuple") (u := .type "tuple") (by rfl) T.z_tuple (by decide +kernel) rfl) pa_nil))) pa_nil)))) (pss_one (ps_ret (pe_callTy call_tuple_of (by rfl) T.z_tuple (by decide +kernel) (pa_cons (pe_lc (own := [("part", 2)]) (g := gName 2) rfl nd (pi_seqA (pv 0)) (blkOk_by (own := [("part", 2)]) (N := ["value", "key", "part"]) (sc := (C8.fnScope sfixed)) (by decide +kernel)) (fun _ _ _ _ _ => pg_name (i := 2) nd rfl (Or.inl rfl)) (fun _ _ _ _ _ => pts_nil) (fun _ _ _ _ _ => (C8.pe_c G_fixed hr (by omega) (by rfl) (pa_cons (pv 2) pa_nil)))) pa_nil)))) pss_nil)
      (pss_one (ps_ret (pv 0))))), ?_⟩
    refine ⟨v, rfl, .inl ⟨v, .ty "dict", .type (tyD d), .type "dict", tyD d == "dict", rfl, .ty _, tyX hd, kit_dict d, _, rfl, ite2 (fun e => ?_) (fun e => ?_)⟩⟩
    · cases hd with
      | @dk a kvs ds ha hkv =>
        cases n with
        | zero => exact (show False from hs).elim
        | succ m =>
          obtain ⟨l3, ko, sh⟩ := sh_dict hs
          have ko2 : KO (kvs.map fun p => kd p.1) := by rw [← hkv.keys]; exact ko
          have l3' : kvs.length ≤ 5 := by rw [hkv.len]; exact l3
          refine ⟨.ref a, rfl, a, kvs, rfl, ha, ko2, by omega, fun ks p hp hps np => ?_⟩
          obtain ⟨l, hl⟩ := hkv.lks (ks := ks) fun k hk => hp.mem_iff.mp hk
          have hsrt := hl.srt hkv ko hp hps
          have hkl : ks.length ≤ 5 := by rw [hp.length_eq, List.length_map]; exact l3'
          have hll : l.length = ks.length := by
            have := congrArg List.length hl.keys
            rw [List.length_map, List.length_map] at this
            exact this
          have s1 : Same H (upd H p (.lst (ks.map kV))) := same_new np
          refine ⟨p, rfl, ⟨_, SqL.of upd_same⟩, fun D nD => ?_⟩
          have nDp : D ≠ p := (ne_of_none upd_same nD).symm
          refine lc_list (xs := ks.map kV) (fun i H' => Same (upd H p (.lst (ks.map kV))) H' ∧ ∃ ws, H' D = some (.lst ws) ∧ DqAll H' ws ((l.take i).map fun q => .tuple [q.1, fx m q.2]))
            ⟨same_new nD, [], upd_same, .nil⟩ (fun i H' _ hP => SqL.of (hP.1 _ _ upd_same)) (fun i x H1 hx hP => ?_) (fun H1 hP => ?_)
          · obtain ⟨h1, ws, h2, h3⟩ := hP
            rw [List.getElem?_map] at hx
            obtain ⟨k, hk, rfl⟩ := Option.map_eq_some_iff.mp hx
            obtain ⟨u, e, g1, g2, g3⟩ := hl.get hk
            have hi : i < ks.length := by
              rcases Nat.lt_or_ge i ks.length with z | z
              · exact z
              · rw [List.getElem?_eq_none z] at hk
                cases hk
            have sh2 : Sh m e := sh _ (hl.sub _ (List.mem_of_getElem? g2))
            refine ⟨rfl, lc_yes ⟨kV k, rfl, .ref a, rfl, kV k, rfl, a, u, rfl, ?_, u, e, rfl, g3.same (s1.trans h1), sh2, fun y H2 s2 hy => ⟨by show 2 ≤ sizeLine; decide, fun t nt => ?_⟩⟩⟩
            · rw [← g1]
              exact DGet.k (h1 _ _ (s1 _ _ ha))
            · refine ⟨ws, ?_, ?_, ?_, ?_⟩
              · exact same_new nt _ _ (s2 _ _ h2)
              · have := h3.len
                rw [List.length_map, List.length_take] at this
                exact small1000 (by omega)
              · intro b o e2
                rw [upd_ne (ne_of_none e2 nD)]
                exact same_new nt _ _ (s2 _ _ (h1 _ _ e2))
              · refine ⟨ws ++ [.ref t], upd_same, ?_⟩
                have sD : Tups H1 (upd (upd H2 t (.tup [kV k, y])) D (.lst (ws ++ [.ref t]))) := (Tups.of (s2.trans (same_new nt))).upd fun zs ez => by
                  have z1 := same_new nt (o := .tup [kV k, y]) _ _ (s2 _ _ h2)
                  rw [z1] at ez
                  cases ez
                have hT : ∀ z ∈ (l.take i).map (fun q => PyData.tuple [q.1, fx m q.2]), Tp (2 * m + 1) z := fun z hz => by
                  obtain ⟨q2, hq2, rfl⟩ := List.mem_map.mp hz
                  have m2 := hl.sub _ (List.mem_of_mem_take hq2)
                  exact tp_pair (ko.leaf (List.mem_map_of_mem m2)) (sh _ m2)
                rw [← take_next (f := fun q : PyData × PyData => PyData.tuple [q.1, fx m q.2]) g2]
                refine (h3.tups sD hT).snoc (.tup (xs := [kV k, y]) ?_ (.cons (dq_key k) (.cons ?_ .nil)))
                · rw [upd_ne (ne_of_none (s2 _ _ h2) nt).symm]
                  exact upd_same
                · refine hy.tups ((Tups.of (same_new nt)).upd fun zs ez => ?_) (fx_sh sh2)
                  have z1 := same_new nt (o := .tup [kV k, y]) _ _ (s2 _ _ h2)
                  rw [z1] at ez
                  cases ez
          · obtain ⟨h1, ws, h2, h3⟩ := hP
            have e1 : (ks.map kV).length = l.length := by rw [List.length_map, hll]
            rw [e1, List.take_length] at h3
            refine ⟨D, ws, rfl, .inl ⟨SqL.of h2, fun t nt => q _ _ (s1.trans (h1.trans (same_new nt))) (.tup upd_same ?_)⟩⟩
            rw [hsrt]
            exact h3.same (same_new nt)
      | _ => exact absurd e (by simp [tyD])
    · have e0 : tyD d ≠ "dict" := fun z => e (by rw [z]; rfl)
      refine ⟨v, rfl, by show 2 ≤ sizeLine; decide, fun p np => ?_⟩
      refine .inr ⟨v, p, [.ty "list", .ty "tuple"], .type (tyD d), [.type "list", .type "tuple"], _, rfl, upd_same, .cons (.ty _) (.cons (.ty _) .nil), tyX (hd.same (same_new np)), kit_any d, _, rfl, ite2 (fun e1 => ?_) (fun e1 => ?_)⟩
      · cases hd with
        | @lst a xs es ha hxs =>
          cases n with
          | zero => exact (show False from hs).elim
          | succ m =>
          obtain ⟨l3, sh⟩ := sh_list hs
          have ha0 := ha
          have l3x : xs.length ≤ 5 := by rw [hxs.len]; exact l3
          have hq2 : ∀ (u : V) (H' : Hp), Same H H' → Dq H' u (.tuple (es.map (fx m))) → Q u H' := q
          refine ⟨.ref a, rfl, a, rfl, .inl ⟨⟨_, SqL.of (same_new np _ _ ha)⟩, fun D nD => lc_it (walk_list (xs := xs)) (fun i H' => Same (upd H p (.tup [.ty "list", .ty "tuple"])) H' ∧ ∃ ws, H' D = some (.lst ws) ∧ DqAll H' ws ((es.take i).map (fx m)))
            ⟨same_new nD, [], upd_same, .nil⟩ (fun i H' _ hP => SqL.of (hP.1 _ _ (same_new np _ _ ha0))) (fun i x H1 H2 hi hP hy => ?_) (fun H1 hP => ?_)⟩⟩
          · obtain ⟨h1, ws, h2, h3⟩ := hP
            obtain ⟨rfl, hx⟩ := hy
            obtain ⟨e, he, g3⟩ := hxs.get hx
            have sh2 : Sh m e := sh _ (List.mem_of_getElem? he)
            refine ⟨rfl, lc_yes ⟨x, rfl, x, e, rfl, g3.same ((same_new np).trans h1), sh2, fun y H3 s2 hy => ⟨ws, s2 _ _ h2, ?_, ?_, ws ++ [y], upd_same, ?_⟩⟩⟩
            · have := h3.len
              rw [List.length_map, List.length_take] at this
              exact small1000 (by omega)
            · intro b o e2
              rw [upd_ne (ne_of_none e2 nD)]
              exact s2 _ _ (h1 _ _ e2)
            · have sD : Tups H3 (upd H3 D (.lst (ws ++ [y]))) := (Tups.of (fun _ _ z => z)).upd fun zs ez => by
                have z1 := s2 _ _ h2
                rw [z1] at ez
                cases ez
              have hT : ∀ z ∈ (es.take i).map (fx m), Tp (2 * m) z := fun z hz => by
                obtain ⟨q2, hq2, rfl⟩ := List.mem_map.mp hz
                exact fx_sh (sh _ (List.mem_of_mem_take hq2))
              exact all_snoc ((h3.same s2).tups sD hT) he (hy.tups sD (fx_sh sh2))
          · obtain ⟨h1, ws, h2, h3⟩ := hP
            rw [hxs.len, List.take_length] at h3
            exact ⟨D, ws, rfl, .inl ⟨SqL.of h2, fun t nt => hq2 _ _ ((same_new np).trans (h1.trans (same_new nt))) (.tup upd_same (h3.same (same_new nt)))⟩⟩
        | @tup a xs es ha hxs =>
          cases n with
          | zero => exact (show False from hs).elim
          | succ m =>
          obtain ⟨l3, sh⟩ := sh_tup hs
          have ha0 := ha
          have l3x : xs.length ≤ 5 := by rw [hxs.len]; exact l3
          have hq2 : ∀ (u : V) (H' : Hp), Same H H' → Dq H' u (.tuple (es.map (fx m))) → Q u H' := q
          refine ⟨.ref a, rfl, a, rfl, .inr ⟨⟨_, SqT.of (same_new np _ _ ha)⟩, fun D nD => lc_it (walk_tup (xs := xs)) (fun i H' => Same (upd H p (.tup [.ty "list", .ty "tuple"])) H' ∧ ∃ ws, H' D = some (.lst ws) ∧ DqAll H' ws ((es.take i).map (fx m)))
            ⟨same_new nD, [], upd_same, .nil⟩ (fun i H' _ hP => SqT.of (hP.1 _ _ (same_new np _ _ ha0))) (fun i x H1 H2 hi hP hy => ?_) (fun H1 hP => ?_)⟩⟩
          · obtain ⟨h1, ws, h2, h3⟩ := hP
            obtain ⟨rfl, hx⟩ := hy
            obtain ⟨e, he, g3⟩ := hxs.get hx
            have sh2 : Sh m e := sh _ (List.mem_of_getElem? he)
            refine ⟨rfl, lc_yes ⟨x, rfl, x, e, rfl, g3.same ((same_new np).trans h1), sh2, fun y H3 s2 hy => ⟨ws, s2 _ _ h2, ?_, ?_, ws ++ [y], upd_same, ?_⟩⟩⟩
            · have := h3.len
              rw [List.length_map, List.length_take] at this
              exact small1000 (by omega)
            · intro b o e2
              rw [upd_ne (ne_of_none e2 nD)]
              exact s2 _ _ (h1 _ _ e2)
            · have sD : Tups H3 (upd H3 D (.lst (ws ++ [y]))) := (Tups.of (fun _ _ z => z)).upd fun zs ez => by
                have z1 := s2 _ _ h2
                rw [z1] at ez
                cases ez
              have hT : ∀ z ∈ (es.take i).map (fx m), Tp (2 * m) z := fun z hz => by
                obtain ⟨q2, hq2, rfl⟩ := List.mem_map.mp hz
                exact fx_sh (sh _ (List.mem_of_mem_take hq2))
              exact all_snoc ((h3.same s2).tups sD hT) he (hy.tups sD (fx_sh sh2))
          · obtain ⟨h1, ws, h2, h3⟩ := hP
            rw [hxs.len, List.take_length] at h3
            exact ⟨D, ws, rfl, .inl ⟨SqL.of h2, fun t nt => hq2 _ _ ((same_new np).trans (h1.trans (same_new nt))) (.tup upd_same (h3.same (same_new nt)))⟩⟩
        | _ => exact absurd e1 (by simp [tyD])
      · have e2 : tyD d ≠ "list" := fun z => e1 (by rw [z]; rfl)
        have e3 : tyD d ≠ "tuple" := fun z => e1 (by rw [z]; rfl)
        refine ⟨v, rfl, q v _ (same_new np) ?_⟩
        rw [fx_other e0 e2 e3]
        exact hd.same (same_new np)
theorem oks_fixed (T : Txt K mg) : ∀ n, C8.Cal P w K mg base n "fixed" (spF n) []
  | 0 => by
    obtain ⟨f, fd, F, b⟩ := T.d_fixed
    exact ⟨f, fd, _, _, fnF, F.mgf, F.kp, b, .nil⟩
  | n + 1 => ok_fixed T n (oks_fixed T n)
end
end K56

set_option Elab.async false
set_option linter.all false
set_option maxRecDepth 100000
set_option maxHeartbeats 1000000
namespace K56
open PySem PySem.Spec PyProof.Rows L2 Gd
/-- the law's well: the script's ints at a, how many were drawn, what is left of a great one -/
def Wl (ns : List Int) (w a : Addr) (N : Nat) (H : Hp) : Prop :=
  a ≠ w ∧ H a = some (.lst (ns.map V.int)) ∧ ns.length ≤ 63 ∧ ∃ t r : Nat, t ≤ N ∧ H w = some (.lst [.ref a, .int t, .int r])
/-- all that was tracked is as it was, but for w -/
def Kp (w : Addr) (H H' : Hp) : Prop := ∀ b o, b ≠ w → H b = some o → H' b = some o
def spDip : Sp := fun vs H Q _ => ∃ (w a : Addr) (ns : List Int) (N : Nat) (many : Int), vs = [.ref w, .int many] ∧ Wl ns w a N H ∧ N ≤ 1000000 ∧ 0 < many ∧ many < 2 ^ 250 ∧
  ∀ (v : Int) (H' : Hp), 0 ≤ v → v < many → Kp w H H' → Wl ns w a (N + 1) H' → Q (.int v) H'
section
variable {P : Program} {w : World} {K : PySem.W.Frag} {mg : Str → Option Value} {base : Heap}
theorem ok_dip (T : Txt K mg) : Cal P w K mg base 1 "_law_drip" spDip := by
  obtain ⟨f, fd, F, b⟩ := T.d_law_drip
  refine cal F b sc_law_drip (fun vs H Q E h => ?_) (fun cdv A outer s H vs Q E hgd hr h => ?_)
  · obtain ⟨w, a, ns, N, many, rfl, _⟩ := h
    rfl
  · have nd := sc_law_drip.nd
    obtain ⟨w, a, ns, N, many, rfl, ⟨haw, ha, hl, t, r, ht, hw⟩, hN, hm0, hm, q⟩ := h
    refine ⟨_, (pss_cons (ps_if (pt_cmpR op_gt (pe_ix ix_list (pv 0) pe_int (fun _ _ => rfl)) pe_int (nomark _)) (pss_cons (ps_set (i := 2) nd rfl (.inl rfl) (pe_ix ix_list (pv 0) pe_int (fun _ _ => rfl)))
      (pss_cons (ps_asg (pe_op op_fdivW (pe_callTy call_int1 (by rfl) T.z_int (by decide +kernel) (pa_cons (pv 2) pa_nil)) (pv 1)) (pg_sub (pv 0) pe_int set_list))
      (pss_one (ps_ret (pe_op op_mod (pe_callTy call_int1 (by rfl) T.z_int (by decide +kernel) (pa_cons (pv 2) pa_nil)) (pv 1)))))) pss_nil)
      (pss_cons (ps_set (i := 3) nd rfl (.inl rfl) (pe_ix ix_list (pv 0) pe_int (fun _ _ => rfl)))
      (pss_cons (ps_asg (pe_op op_add (pv 3) pe_int) (pg_sub (pv 0) pe_int set_list))
      (pss_cons (ps_set (i := 4) nd rfl (.inl rfl) (pe_op op_add (pe_op op_mulW pe_int (pv 3)) pe_int))
      (C8.pss_cut (ps_if (pt_cmpR (op_neD hr.units) (pe_ix ix_list (pv 0) pe_int (fun _ _ => rfl)) (pe_lstX pa_nil) (nomark _)) (pss_one (ps_set (i := 4) nd rfl (.inl rfl) (pe_ix ix_list (pe_ix ix_list (pv 0) pe_int (fun _ _ => rfl)) (pe_op op_mod (pe_callTy call_int1 (by rfl) T.z_int (by decide +kernel) (pa_cons (pv 3) pa_nil)) (pe_callB call_len (by rfl) T.z_len PySem.boot_len (pa_cons (pe_ix ix_list (pv 0) pe_int (fun _ _ => rfl)) pa_nil))) (fun _ _ => rfl)))) pss_nil)
      (C8.pss_cut (ps_if (PW.pt (pw_and (pt_cmpR op_lt (pv 3) (pe_callB call_len (by rfl) T.z_len PySem.boot_len (pa_cons (pe_ix ix_list (pv 0) pe_int (fun _ _ => rfl)) pa_nil)) (nomark _)) (pw_and1 (pt_cmpR op_ge (pe_callB call_abs (by rfl) T.z_abs (by decide +kernel) (pa_cons (pv 4) pa_nil)) (pe_op op_pow pe_int pe_int) (nomark _))))) (pss_cons (ps_set (i := 2) nd rfl (.inl rfl) (pe_op op_sub (pe_callB call_abs (by rfl) T.z_abs (by decide +kernel) (pa_cons (pv 4) pa_nil)) (pe_op op_pow pe_int pe_int)))
      (pss_cons (ps_asg (pe_op op_fdivW (pe_callTy call_int1 (by rfl) T.z_int (by decide +kernel) (pa_cons (pv 2) pa_nil)) (pv 1)) (pg_sub (pv 0) pe_int set_list))
      (pss_one (ps_ret (pe_op op_mod (pe_callTy call_int1 (by rfl) T.z_int (by decide +kernel) (pa_cons (pv 2) pa_nil)) (pv 1)))))) pss_nil)
      (pss_cons (ps_set (i := 5) nd rfl (.inl rfl) (pe_op op_mod (pe_callTy call_int1 (by rfl) T.z_int (by decide +kernel) (pa_cons (pe_op op_pow (pe_op op_add (pe_op op_add (pe_op op_mod (pe_callTy call_int1 (by rfl) T.z_int (by decide +kernel) (pa_cons (pv 4) pa_nil)) pe_int) (pe_op op_mulW pe_int (pv 3))) pe_int) pe_int) pa_nil)) pe_int))
      (pss_cons (ps_set (i := 5) nd rfl (.inl rfl) (pe_op op_mod (pe_callTy call_int1 (by rfl) T.z_int (by decide +kernel) (pa_cons (pe_op op_pow (pe_op op_add (pe_op op_add (pe_op op_mulW (pv 5) (pe_op op_add (pe_op op_mulW pe_int (pv 3)) pe_int)) (pe_op op_mulW (pe_op op_mulW pe_int (pv 3)) (pv 3))) pe_int) pe_int) pa_nil)) pe_int))
      (pss_one (ps_ret (pe_op op_mod (pe_callTy call_int1 (by rfl) T.z_int (by decide +kernel) (pa_cons (pe_op op_fdivW (pv 5) pe_int) pa_nil)) (pv 1)))))))))))), ?_⟩
    have hb : many.natAbs < 2 ^ 250 := by omega
    have hd : CDivW (0 : Int) many := wide_div hm0 hb (by decide) (by decide)
    refine ⟨.ref w, rfl, w, _, 2, .int r, rfl, rfl, SqL.of hw, rfl, r, 0, rfl, rfl, _, rfl, ite2 (fun e => ?_) (fun e => ?_)⟩
    · refine ⟨.ref w, rfl, w, _, 2, .int r, rfl, rfl, SqL.of hw, rfl, ?_⟩
      refine ⟨.int r, rfl, .inl ⟨r, rfl, .int many, rfl, r, many, rfl, rfl, hd, .ref w, rfl, w, _, 2, 2, rfl, rfl, hw, rfl, ?_⟩⟩
      refine ⟨.int r, rfl, .inl ⟨r, rfl, .int many, rfl, r, many, rfl, rfl, hm0, ?_⟩⟩
      refine q _ _ (Int.emod_nonneg _ (by omega)) (Int.emod_lt_of_pos _ hm0) (fun b o e1 e2 => ?_) ⟨haw, ?_, hl, t, (r / many).toNat, by omega, ?_⟩
      · rw [upd_ne e1]
        exact e2
      · rw [upd_ne haw]
        exact ha
      · rw [upd_same, Int.toNat_of_nonneg (Int.ediv_nonneg (by omega) (by omega))]
        rfl
    · refine ⟨.ref w, rfl, w, _, 1, .int t, rfl, rfl, SqL.of hw, rfl, ?_⟩
      refine ⟨.int t, rfl, t, 1, rfl, rfl, .ref w, rfl, w, _, 1, 1, rfl, rfl, hw, rfl, ?_⟩
      refine ⟨.int t, rfl, 36913, t, rfl, rfl, wide_mul (a := 20) (b := 30) (by decide) (by omega) (by decide) (by decide) (by decide), _, _, rfl, rfl, ?_⟩
      -- the list with the next turn; an empty list beside it
      have hw1 : ∀ o, upd H w o w = some o := fun o => upd_same
      have ha1 : ∀ o, upd H w o a = some (.lst (ns.map V.int)) := fun o => (upd_ne haw).trans ha
      refine ⟨fun σ' H' => ∃ c : Int, σ' = [some (.ref w), some (.int many), none, some (.int t), some (.int c), none] ∧ Kp w H H' ∧ H' a = some (.lst (ns.map V.int)) ∧
        H' w = some (.lst [.ref a, .int (t + 1 : Nat), .int r]), ?_, ?_⟩
      · refine ⟨.ref w, rfl, w, _, 0, .ref a, rfl, rfl, SqL.of (hw1 _), rfl, Nat.zero_le _, fun p np _ => ?_⟩
        have npw : p ≠ w := fun z => by
          rw [z, upd_same] at np
          cases np
        have npa : p ≠ a := fun z => by
          rw [z, ha1] at np
          cases np
        have kp : Kp w H (upd (upd H w (.lst ([.ref a, .int t, .int r].set 1 (.int (t + 1))))) p (.lst [])) := fun b o e1 e2 => by
          have nb : b ≠ p := fun z => by
            rw [← z, upd_ne e1, e2] at np
            cases np
          rw [upd_ne nb, upd_ne e1]
          exact e2
        have ha2 := (upd_ne npa.symm (H := upd H w (.lst ([.ref a, .int t, .int r].set 1 (.int (t + 1))))) (o := .lst [])).trans (ha1 _)
        have hw2 := (upd_ne npw.symm (H := upd H w (.lst ([.ref a, .int t, .int r].set 1 (.int (t + 1))))) (o := .lst [])).trans (hw1 _)
        refine ⟨.list (ns.map PyData.int), .list [], .lst (SqL.of ha2) (dp_ints ns), .lst (SqL.of upd_same) .nil, shaped_ints ns, rfl, _, rfl, ?_⟩
        rw [eqv_ints_nil]
        refine ite2 (fun e => ?_) (fun e => ?_)
        · have hne : 0 < ns.length := by
            cases ns with
            | nil => cases e
            | cons x l => exact Nat.succ_pos _
          have hi : t % ns.length < ns.length := Nat.mod_lt _ hne
          refine ⟨.ref w, rfl, w, _, 0, .ref a, rfl, rfl, SqL.of hw2, rfl, ?_⟩
          refine ⟨.int t, rfl, .inl ⟨t, rfl, ?_⟩⟩
          refine ⟨.ref w, rfl, w, _, 0, .ref a, rfl, rfl, SqL.of hw2, rfl, .ref a, ns.length, rfl, .inl ⟨_, SqL.of ha2, by rw [List.length_map]⟩, ?_⟩
          refine ⟨t, ns.length, rfl, rfl, by omega, ?_⟩
          refine ⟨a, _, ((t % ns.length : Nat) : Int), .int ns[t % ns.length], rfl, rfl, SqL.of ha2, atI_nat ?_, ?_⟩
          · rw [List.getElem?_map, List.getElem?_eq_getElem hi]
            rfl
          · exact ⟨_, rfl, kp, ha2, hw2⟩
        · exact ⟨_, rfl, kp, ha2, hw2⟩
      · rintro σ1 H1 ⟨c, rfl, kp, ha1, hw1⟩
        have fin : ∀ v : Int, 0 ≤ v → v < many → ∀ r' : Nat, ∀ H', H' a = some (.lst (ns.map V.int)) → H' w = some (.lst [.ref a, .int (t + 1 : Nat), .int r']) → Kp w H H' → Q (.int v) H' :=
          fun v h1 h2 r' H' h3 h4 h5 => q v H' h1 h2 h5 ⟨haw, h3, hl, t + 1, r', by omega, h4⟩
        have pw : CPow 10 18 := ⟨by decide, by decide, by decide⟩
        refine ⟨fun σ' H' => ∃ c : Int, σ' = [some (.ref w), some (.int many), none, some (.int t), some (.int c), none] ∧ Kp w H H' ∧ H' a = some (.lst (ns.map V.int)) ∧
          H' w = some (.lst [.ref a, .int (t + 1 : Nat), .int r]), ?_, ?_⟩
        · refine ⟨.int t, rfl, .ref w, rfl, w, _, 0, .ref a, rfl, rfl, SqL.of hw1, rfl, .ref a, ns.length, rfl, .inl ⟨_, SqL.of ha1, by rw [List.length_map]⟩, ?_⟩
          refine ⟨t, ns.length, rfl, rfl, _, rfl, ite2 (fun e1 => ?_) (fun e1 => iteF ⟨c, rfl, kp, ha1, hw1⟩)⟩
          refine ⟨.int c, rfl, c, rfl, 10, 18, rfl, rfl, pw, _, _, rfl, rfl, _, rfl, ite2 (fun e2 => ?_) (fun e2 => ⟨c, rfl, kp, ha1, hw1⟩)⟩
          have e3 : (10 : Int) ^ (18 : Int).toNat ≤ (if c < 0 then -c else c) := of_decide_eq_true e2
          refine ⟨.int c, rfl, c, rfl, 10, 18, rfl, rfl, pw, _, _, rfl, rfl, ?_⟩
          refine ⟨.int _, rfl, .inl ⟨_, rfl, .int many, rfl, _, many, rfl, rfl, hd, .ref w, rfl, w, _, 2, 2, rfl, rfl, hw1, rfl, ?_⟩⟩
          refine ⟨.int _, rfl, .inl ⟨_, rfl, .int many, rfl, _, many, rfl, rfl, hm0, ?_⟩⟩
          generalize hR : (if c < 0 then -c else c) - 10 ^ (18 : Int).toNat = R
          have hR0 : 0 ≤ R := by omega
          refine fin _ (Int.emod_nonneg _ (by omega)) (Int.emod_lt_of_pos _ hm0) (R / many).toNat _ ?_ ?_ (fun b o z1 z2 => ?_)
          · rw [upd_ne haw]
            exact ha1
          · rw [upd_same, Int.toNat_of_nonneg (Int.ediv_nonneg hR0 (by omega)), ← hR]
            rfl
          · rw [upd_ne z1]
            exact kp b o z1 z2
        · rintro σ2 H2 ⟨c, rfl, kp, ha2, hw2⟩
          have c1 : 0 ≤ c % 2147483543 := Int.emod_nonneg _ (by decide)
          have c2 : c % 2147483543 < 2147483543 := Int.emod_lt_of_pos _ (by decide)
          refine ⟨.int c, rfl, .inl ⟨c, rfl, c, 2147483543, rfl, rfl, (show (0 : Int) < 2147483543 by decide), .int t, rfl, 42701, t, rfl, rfl, wide_mul (a := 20) (b := 30) (by decide) (by omega) (by decide) (by decide) (by decide), _, _, rfl, rfl, _, _, rfl, rfl, _, _, rfl, rfl,
            ⟨by decide, by decide, by omega⟩, .inl ⟨_, rfl, _, _, rfl, rfl, (show (0 : Int) < 2147483647 by decide), ?_⟩⟩⟩
          obtain ⟨m1, hm1⟩ : ∃ m1 : Int, m1 = (c % 2147483543 + 42701 * (t : Int) + 1511) ^ (5 : Int).toNat % 2147483647 := ⟨_, rfl⟩
          have m10 : 0 ≤ m1 := hm1.symm ▸ Int.emod_nonneg _ (by decide)
          have m11 : m1 < 2147483647 := hm1.symm ▸ Int.emod_lt_of_pos _ (by decide)
          have t0 : (0 : Int) ≤ t := by omega
          have t1 : (t : Int) ≤ 1000000 := by omega
          have p1 : 0 ≤ m1 * (2 * (t : Int) + 1301) := Int.mul_nonneg m10 (by omega)
          have p2 : m1 * (2 * (t : Int) + 1301) ≤ 2147483647 * 2010000 := Int.mul_le_mul (by omega) (by omega) (by omega) (by omega)
          have p3 : 0 ≤ 36913 * (t : Int) * t := Int.mul_nonneg (by omega) t0
          have p4 : 36913 * (t : Int) * t ≤ 36913 * 1000000 * 1000000 := Int.mul_le_mul (by omega) t1 t0 (by omega)
          refine ⟨.int m1, by rw [hm1]; rfl, .int t, rfl, 2, t, rfl, rfl, wide_mul (a := 20) (b := 30) (by decide) (by omega) (by decide) (by decide) (by decide), _, _, rfl, rfl, m1, _, rfl, rfl,
            wide_mul (a := 40) (b := 40) (by omega) (by omega) (by decide) (by decide) (by decide), .int t, rfl, 36913, t, rfl, rfl, wide_mul (a := 20) (b := 30) (by decide) (by omega) (by decide) (by decide) (by decide),
            .int t, rfl, _, t, rfl, rfl, wide_mul (a := 60) (b := 30) (by omega) (by omega) (by decide) (by decide) (by decide), _, _, rfl, rfl, _, _, rfl, rfl, _, _, rfl, rfl,
            ⟨by decide, by decide, by omega⟩, .inl ⟨_, rfl, _, _, rfl, rfl, (show (0 : Int) < 2147483563 by decide), ?_⟩⟩
          refine ⟨.int _, rfl, _, 64, rfl, rfl, wide_div (b := 10) (by decide) (by decide) (by decide) (by decide), .inl ⟨_, rfl, .int many, rfl, _, many, rfl, rfl, hm0, ?_⟩⟩
          exact fin _ (Int.emod_nonneg _ (by omega)) (Int.emod_lt_of_pos _ hm0) r _ ha2 hw2 kp
end
end K56

set_option Elab.async false
set_option linter.all false
set_option maxRecDepth 100000
set_option maxHeartbeats 1000000
namespace K56
open PySem PySem.Spec PyProof.Rows L2 Gd
theorem Wl.mono {ns : List Int} {w a : Addr} {N M : Nat} {H : Hp} (h : Wl ns w a N H) (hN : N ≤ M) : Wl ns w a M H := by
  obtain ⟨h1, h2, h3, t, r, h4, h5⟩ := h
  exact ⟨h1, h2, h3, t, r, by omega, h5⟩
theorem Wl.same {ns : List Int} {w a : Addr} {N : Nat} {H H' : Hp} (h : Wl ns w a N H) (s : Same H H') : Wl ns w a N H' := by
  obtain ⟨h1, h2, h3, t, r, h4, h5⟩ := h
  exact ⟨h1, s _ _ h2, h3, t, r, h4, s _ _ h5⟩
theorem Wl.at_w {ns : List Int} {w a : Addr} {N : Nat} {H : Hp} (h : Wl ns w a N H) : ∃ o, H w = some o := by
  obtain ⟨h1, h2, h3, t, r, h4, h5⟩ := h
  exact ⟨_, h5⟩
theorem Kp.same {w : Addr} {H H' : Hp} (s : Same H H') : Kp w H H' := fun b o _ e => s b o e
theorem Kp.refl (w : Addr) (H : Hp) : Kp w H H := fun _ _ _ e => e
theorem Kp.trans {w : Addr} {H H1 H2 : Hp} (x : Kp w H H1) (y : Kp w H1 H2) : Kp w H H2 := fun b o n e => y b o n (x b o n e)
theorem Kp.new {w : Addr} {H H' : Hp} {p : Addr} {o : HO} (x : Kp w H H') (h : H' p = none) : Kp w H (upd H' p o) := x.trans (Kp.same (same_new h))
/-- a list at D, new since H, is written -/
theorem Kp.grow {w : Addr} {H H' : Hp} {D : Addr} {o : HO} (h : H D = none) (s : Kp w H H') : Kp w H (upd H' D o) := fun b x n e => by
  rw [upd_ne (ne_of_none e h)]
  exact s b x n e
theorem Wl.grow {ns : List Int} {w a : Addr} {N : Nat} {H : Hp} {D : Addr} {o : HO} (h : Wl ns w a N H) (hw : D ≠ w) (ha : D ≠ a) : Wl ns w a N (upd H D o) := by
  obtain ⟨h1, h2, h3, t, r, h4, h5⟩ := h
  exact ⟨h1, by rw [upd_ne ha.symm]; exact h2, h3, t, r, h4, by rw [upd_ne hw.symm]; exact h5⟩
/-- a place where nothing is tracked is neither the well nor its list -/
theorem Wl.off {ns : List Int} {w a : Addr} {N : Nat} {H : Hp} {p : Addr} (h : Wl ns w a N H) (n : H p = none) : p ≠ w ∧ p ≠ a := by
  obtain ⟨h1, h2, h3, t, r, h4, h5⟩ := h
  exact ⟨(ne_of_none h5 n).symm, (ne_of_none h2 n).symm⟩
def spWell (K : PySem.W.Frag) : Sp := fun vs H Q _ => ∃ (s : Addr) (ns : List Int), vs = [.ref s] ∧ SqL K H s (ns.map V.int) ∧ ns.length ≤ 63 ∧
  ∀ (w a : Addr) (H' : Hp), Same H H' → H w = none → Wl ns w a 0 H' → Q (.ref w) H'
/-- an item of a list, or a sign of a text -/
def spPick : Sp := fun vs H Q _ => ∃ (w a : Addr) (ns : List Int) (N : Nat), Wl ns w a N H ∧ N ≤ 1000000 ∧
  ((∃ (l : Addr) (xs : List V), vs = [.ref w, .ref l] ∧ l ≠ w ∧ H l = some (.lst xs) ∧ 0 < xs.length ∧ xs.length ≤ 1000 ∧
      ∀ (v : V) (H' : Hp), v ∈ xs → Kp w H H' → Wl ns w a (N + 1) H' → Q v H') ∨
   ∃ z : Str, vs = [.ref w, .str z] ∧ 0 < z.length ∧ z.length ≤ 1000 ∧ ∀ (c : Nat) (H' : Hp), c ∈ z.cps.toList → Kp w H H' → Wl ns w a (N + 1) H' → Q (.str ⟨#[c]⟩) H')
theorem cut63 {xs : List V} (h : xs.length ≤ 63) : cutV xs none (some 63) = xs := by
  unfold cutV
  rw [HT.sIx_none, show HT.sIx xs.length xs.length (some 63) = min 63 xs.length from HT.sIx_nat _ _ 63, List.drop_zero, Nat.sub_zero]
  exact List.take_of_length_le (by omega)
theorem tl_str (s : String) : (Str.ofString s).cps.toList = s.toList.map Char.toNat := PyProof.Rows.signs_ofString s
theorem cat_cps (x y : Str) : (x ++ y).cps.toList = x.cps.toList ++ y.cps.toList := TL.tl_append x y
theorem cat_len (x y : Str) : (x ++ y).length = x.length + y.length := by rw [← len_cps, cat_cps, List.length_append, len_cps, len_cps]
theorem one_len (c : Nat) : (⟨#[c]⟩ : Str).length = 1 := rfl
section
variable {P : Program} {w : World} {K : PySem.W.Frag} {mg : Str → Option Value} {base : Heap}
theorem ok_well (T : Txt K mg) : Cal P w K mg base 1 "_law_font" (spWell K) := by
  obtain ⟨f, fd, F, b⟩ := T.d_law_font
  refine cal F b sc_law_font (fun vs H Q E h => ?_) (fun cdv A outer s H vs Q E hgd hr h => ?_)
  · obtain ⟨s, ns, rfl, _⟩ := h
    rfl
  · have nd := sc_law_font.nd
    obtain ⟨s, ns, rfl, hS, hl, q⟩ := h
    refine ⟨_, (pss_one (ps_ret (pe_lstX (pa_cons (pe_lc (own := [("_law_cell", 1)]) (g := gName 1) rfl nd (pi_list (pe_slice sl_list (pv 0) po_none (po_some pe_int))) (blkOk_by (own := [("_law_cell", 1)]) (N := ["_law_script", "_law_cell"]) (sc := (C8.fnScope s_law_font)) (by decide +kernel)) (fun _ _ _ _ _ => pg_name (i := 1) nd rfl (Or.inl rfl)) (fun _ _ _ _ _ => pts_nil) (fun _ _ _ _ _ => (pe_callTy call_int1 (by rfl) T.z_int (by decide +kernel) (pa_cons (pv 1) pa_nil)))) (pa_cons pe_int (pa_cons pe_int pa_nil)))))), ?_⟩
    refine ⟨.ref s, rfl, 63, rfl, s, _, rfl, hS, fun p np => ?_⟩
    have l63 : (ns.map V.int).length ≤ 63 := by
      rw [List.length_map]
      exact hl
    rw [cut63 l63]
    have hp : (upd H p (.lst (ns.map V.int))) p = some (.lst (ns.map V.int)) := upd_same
    refine ⟨p, rfl, ⟨_, SqL.of hp⟩, fun D nD => lc_list (xs := ns.map V.int) (fun i H' => H' p = some (.lst (ns.map V.int)) ∧ H' D = some (.lst ((ns.take i).map V.int)) ∧ Same H H')
      ⟨?_, upd_same, (same_new np).trans (same_new nD)⟩ (fun i H' _ hP => SqL.of hP.1) (fun i x H1 hx hP => ?_) (fun H1 hP => ?_)⟩
    · rw [upd_ne (ne_of_none hp nD)]
      exact hp
    · obtain ⟨h1, h2, h3⟩ := hP
      rw [List.getElem?_map] at hx
      obtain ⟨n, hn, rfl⟩ := Option.map_eq_some_iff.mp hx
      refine ⟨rfl, lc_yes ⟨.int n, rfl, .inl ⟨n, rfl, _, h2, ?_, ?_, ?_, ?_⟩⟩⟩
      · rw [List.length_map, List.length_take]
        exact small1000 (by omega)
      · rw [upd_ne (ne_of_none hp nD)]
        exact h1
      · rw [upd_same]
        exact congrArg (fun l => some (HO.lst l)) (take_next (f := V.int) hn)
      · intro b o e
        have nb : b ≠ D := fun z => by
          have := (same_new np (o := .lst (ns.map V.int))) b o e
          rw [z, nD] at this
          cases this
        rw [upd_ne nb]
        exact h3 _ _ e
    · obtain ⟨h1, h2, h3⟩ := hP
      rw [List.length_map, List.take_length] at h2
      refine ⟨by show 3 ≤ sizeLine; decide, fun w0 nw _ => ?_⟩
      have s2 : Same H (upd H1 w0 (.lst [.ref D, .int 0, .int 0])) := h3.trans (same_new nw)
      refine q w0 D _ s2 (h3.free nw) ⟨(ne_of_none h2 nw), ?_, hl, 0, 0, Nat.le_refl _, upd_same⟩
      rw [upd_ne (ne_of_none h2 nw)]
      exact h2
theorem ok_pick (T : Txt K mg) (G__law_drip : Cal P w K mg base 1 "_law_drip" spDip) : Cal P w K mg base 2 "_law_fill" spPick := by
  obtain ⟨f, fd, F, b⟩ := T.d_law_fill
  refine cal F b sc_law_fill (fun vs H Q E h => ?_) (fun cdv A outer s H vs Q E hgd hr h => ?_)
  · obtain ⟨w, a, ns, N, _, _, ⟨l, xs, rfl, _⟩ | ⟨z, rfl, _⟩⟩ := h <;> rfl
  · have nd := sc_law_fill.nd
    obtain ⟨w, a, ns, N, hW, hN, ⟨l, xs, rfl, hlw, hl, h0, h1, q⟩ | ⟨z, rfl, h0, h1, q⟩⟩ := h
    · refine ⟨_, (pss_one (ps_ret (pe_ix ix_seq (pv 1) (pc G__law_drip hgd hr (by omega) (by rfl) (pa_cons (pv 0) (pa_cons (pe_callB call_len (by rfl) T.z_len PySem.boot_len (pa_cons (pv 1) pa_nil)) pa_nil))) (fun _ _ => rfl)))), ?_⟩
      refine ⟨.ref l, rfl, .ref w, rfl, .ref l, rfl, .ref l, xs.length, rfl, .inl ⟨xs, SqL.of hl, rfl⟩, w, a, ns, N, xs.length, rfl, hW, hN, by omega, by omega, fun v H' v0 v1 kp hW' => ?_⟩
      have hv : v.toNat < xs.length := by omega
      have e : v = ((v.toNat : Nat) : Int) := by omega
      refine .inl ⟨l, xs, v, xs[v.toNat], rfl, rfl, SqL.of (kp l _ hlw hl), at_of e (List.getElem?_eq_getElem hv), q _ _ (List.getElem_mem _) kp hW'⟩
    · refine ⟨_, (pss_one (ps_ret (pe_ix ix_seq (pv 1) (pc G__law_drip hgd hr (by omega) (by rfl) (pa_cons (pv 0) (pa_cons (pe_callB call_len (by rfl) T.z_len PySem.boot_len (pa_cons (pv 1) pa_nil)) pa_nil))) (fun _ _ => rfl)))), ?_⟩
      refine ⟨.str z, rfl, .ref w, rfl, .str z, rfl, .str z, z.length, rfl, ⟨sm1000 h1, rfl⟩, w, a, ns, N, z.length, rfl, hW, hN, by omega, by omega, fun v H' v0 v1 kp hW' => ?_⟩
      obtain ⟨j, rfl⟩ : ∃ j : Nat, v = j := ⟨v.toNat, by omega⟩
      have hv : j < z.cps.toList.length := by
        rw [len_cps]
        omega
      exact .inr (.inr ⟨z, j, z.cps.toList[j], rfl, rfl, sm1000 h1, atI_nat (List.getElem?_eq_getElem hv), q _ _ (List.getElem_mem _) kp hW'⟩)
end
end K56

set_option Elab.async false
set_option linter.all false
set_option maxRecDepth 100000
set_option maxHeartbeats 2000000
namespace K56
open PySem PySem.Spec PyProof.Rows L2 Gd
theorem fx_stab {n : Nat} : ∀ {m : Nat} {d : PyData}, Sh n d → n ≤ m → fx m d = fx n d := by
  induction n with
  | zero => exact fun {m d} h _ => (fx_leaf h).trans (fx_leaf h).symm
  | succ n ih =>
    intro m d h hm
    cases m with
    | zero => exact absurd hm (by omega)
    | succ m =>
      rcases h with h | ⟨ds, e, l, h⟩ | ⟨kvs, rfl, l, k, h⟩
      · exact (fx_leaf h).trans (fx_leaf h).symm
      · have e2 : ds.map (fx m) = ds.map (fx n) := List.map_congr_left fun x hx => ih (h x hx) (by omega)
        rcases e with rfl | rfl
        · show PyData.tuple _ = PyData.tuple _
          rw [e2]
        · show PyData.tuple _ = PyData.tuple _
          rw [e2]
      · show PyData.tuple _ = PyData.tuple _
        rw [List.map_congr_left fun x hx => ?_]
        rw [ih (h x ((srt_perm kvs).mem_iff.mp hx)) (by omega)]
theorem map_stab {n m m' : Nat} {ds : List PyData} (h : ∀ d ∈ ds, Sh n d) (hm : n ≤ m) (hm' : n ≤ m') : ds.map (fx m) = ds.map (fx m') :=
  List.map_congr_left fun d hd => (fx_stab (h d hd) hm).trans (fx_stab (h d hd) hm').symm
def vc : Nat → Nat
  | 0 => 3
  | n + 1 => 3 * vc n + 3
/-- a value and what is due of it -/
def spVal (n : Nat) : Sp := fun vs H Q _ => ∃ (w a : Addr) (ns : List Int) (N : Nat), vs = [.ref w, .int n] ∧ Wl ns w a N H ∧ N + vc n ≤ 900000 ∧
  ∀ (t : Addr) (v u : V) (d : PyData) (H' : Hp), Kp w H H' → Wl ns w a (N + vc n) H' → nw H H' t = some (.tup [v, u]) → Dq (nw H H') v d → Dq (nw H H') u (fx 7 d) → Sh n d → Q (.ref t) H'
def spV : Nat → Sp
  | 0 => fun _ _ _ _ => False
  | n + 1 => spVal n
theorem Kp.dom {ns : List Int} {w a : Addr} {N : Nat} {H H' : Hp} (k : Kp w H H') (h : Wl ns w a N H') : Dom H H' := fun b hb => by
  by_cases e : b = w
  · obtain ⟨o, z⟩ := h.at_w
    rw [e, z]
    simp
  · cases z : H b with
    | none => exact absurd z hb
    | some o => rw [k b o e z]; simp
theorem Wl.some {ns : List Int} {w a : Addr} {N : Nat} {H : Hp} (h : Wl ns w a N H) : H w ≠ none := by
  obtain ⟨o, z⟩ := h.at_w
  rw [z]
  simp
/-- what was new stays so -/
theorem nw_kp {w : Addr} {G H H' : Hp} (gw : G w ≠ none) (k : Kp w H H') : Same (nw G H) (nw G H') := nw_same fun b o g e => ⟨g, k b o (fun z => gw (z ▸ g)) e⟩
theorem leaf_of {v : V} {x : Int} (hx : 0 ≤ x) (hx2 : x < 10 ^ 20) (h : v ∈ [V.non, .str "x", .str "", .str "o.p", .int 0, .int 3, .int (-2), .int x]) : ∃ d, Dq (fun _ => none) v d ∧ Lf d := by
  have S : ∀ s : String, (s.length ≤ 10 ∧ ∀ c ∈ s.toList, c.toNat < 128) → Lf (.str (Str.ofString s)) := fun s h => by
    refine ⟨fun c hc => ?_, ?_⟩
    · rw [tl_str] at hc
      obtain ⟨x, hx, rfl⟩ := List.mem_map.mp hc
      exact h.2 x hx
    · rw [PyProof.Rows.ofString_length, String.length_toList]
      exact h.1
  have I : ∀ i : Int, i.natAbs < 10 ^ 30 → Lf (.int i) := fun i h => h
  simp only [List.mem_cons, List.not_mem_nil, or_false] at h
  rcases h with rfl | rfl | rfl | rfl | rfl | rfl | rfl | rfl
  · exact ⟨_, .non, True.intro⟩
  · exact ⟨_, .str _, S "x" (by decide)⟩
  · exact ⟨_, .str _, S "" (by decide)⟩
  · exact ⟨_, .str _, S "o.p" (by decide)⟩
  · exact ⟨_, .int _, I _ (by decide)⟩
  · exact ⟨_, .int _, I _ (by decide)⟩
  · exact ⟨_, .int _, I _ (by decide)⟩
  · exact ⟨_, .int _, I _ (by omega)⟩
theorem arg_pred {w : Addr} (m : Nat) : [V.ref w, V.int (((m + 1 : Nat) : Int) - 1)] = [V.ref w, V.int (m : Nat)] := by
  rw [show ((m + 1 : Nat) : Int) - 1 = (m : Nat) by omega]
/-- pairs of values and of what is due of them -/
inductive Prs (m : Nat) (G : Hp) : List V → List V → List V → List PyData → Prop
  | nil : Prs m G [] [] [] []
  | cons {t : Addr} {v u : V} {d : PyData} {ws vs us : List V} {ds : List PyData} : G t = some (.tup [v, u]) → Dq G v d → Dq G u (fx 7 d) → Sh m d → Prs m G ws vs us ds → Prs m G (.ref t :: ws) (v :: vs) (u :: us) (d :: ds)
theorem Prs.same {m : Nat} {G G' : Hp} (s : Same G G') : ∀ {ws vs us : List V} {ds : List PyData}, Prs m G ws vs us ds → Prs m G' ws vs us ds
  | _, _, _, _, .nil => .nil
  | _, _, _, _, .cons a b c d r => .cons (s _ _ a) (b.same s) (c.same s) d (r.same s)
theorem Prs.snoc {m : Nat} {G : Hp} {t : Addr} {v u : V} {d : PyData} (a : G t = some (.tup [v, u])) (b : Dq G v d) (e : Dq G u (fx 7 d)) (s : Sh m d) : ∀ {ws vs us : List V} {ds : List PyData}, Prs m G ws vs us ds → Prs m G (ws ++ [.ref t]) (vs ++ [v]) (us ++ [u]) (ds ++ [d])
  | _, _, _, _, .nil => .cons a b e s .nil
  | _, _, _, _, .cons a1 b1 c1 d1 r => .cons a1 b1 c1 d1 (r.snoc a b e s)
theorem Prs.len {m : Nat} {G : Hp} : ∀ {ws vs us : List V} {ds : List PyData}, Prs m G ws vs us ds → ws.length = ds.length ∧ vs.length = ds.length ∧ us.length = ds.length
  | _, _, _, _, .nil => ⟨rfl, rfl, rfl⟩
  | _, _, _, _, .cons _ _ _ _ r => ⟨congrArg Nat.succ r.len.1, congrArg Nat.succ r.len.2.1, congrArg Nat.succ r.len.2.2⟩
theorem Prs.vals {m : Nat} {G : Hp} : ∀ {ws vs us : List V} {ds : List PyData}, Prs m G ws vs us ds → DqAll G vs ds
  | _, _, _, _, .nil => .nil
  | _, _, _, _, .cons _ b _ _ r => .cons b r.vals
theorem Prs.dues {m : Nat} {G : Hp} : ∀ {ws vs us : List V} {ds : List PyData}, Prs m G ws vs us ds → DqAll G us (ds.map (fx 7))
  | _, _, _, _, .nil => .nil
  | _, _, _, _, .cons _ _ c _ r => .cons c r.dues
theorem Prs.sh {m : Nat} {G : Hp} : ∀ {ws vs us : List V} {ds : List PyData}, Prs m G ws vs us ds → ∀ d ∈ ds, Sh m d
  | _, _, _, _, .nil => fun d h => absurd h List.not_mem_nil
  | _, _, _, _, .cons _ _ _ s r => fun d h => by
    rcases List.mem_cons.mp h with rfl | h
    · exact s
    · exact r.sh d h
theorem Prs.get {m : Nat} {G : Hp} : ∀ {ws vs us : List V} {ds : List PyData} {i : Nat} {x : V}, Prs m G ws vs us ds → ws[i]? = some x → ∃ t v u, x = .ref t ∧ vs[i]? = some v ∧ us[i]? = some u ∧ G t = some (.tup [v, u])
  | _, _, _, _, i, x, .nil, h => by simp at h
  | _, _, _, _, 0, x, .cons a _ _ _ _, h => by
    simp at h
    subst h
    exact ⟨_, _, _, rfl, rfl, rfl, a⟩
  | _, _, _, _, i + 1, x, .cons _ _ _ _ r, h => by
    simp at h
    obtain ⟨t, v, u, h1, h2, h3, h4⟩ := r.get h
    exact ⟨t, v, u, h1, by simp [h2], by simp [h3], h4⟩
/-- the keys, in the order in which they are put in, and in their own -/
def kz : List Key := [.inr "c", .inr "a", .inr "b"]
def ka : List Str := ["a", "b", "c"]
def kj : Nat → Nat
  | 0 => 1
  | 1 => 2
  | _ => 0
theorem kz_val : ∀ (i : Nat) (s : Str), ka[i]? = some s → ∀ l : List V, l.length ≤ 3 → valV (kz.zip l) (.inr s) = l[kj i]? := by
  intro i s h l hl
  have hi : i < 3 := by
    rcases Nat.lt_or_ge i 3 with z | z
    · exact z
    · rw [List.getElem?_eq_none z] at h
      cases h
  match i, hi with
  | 0, _ =>
    obtain rfl : ("a" : Str) = s := Option.some.inj h
    match l with
    | [] => rfl
    | [_] => rfl
    | _ :: _ :: _ => rfl
  | 1, _ =>
    obtain rfl : ("b" : Str) = s := Option.some.inj h
    match l with
    | [] => rfl
    | [_] => rfl
    | [_, _] => rfl
    | _ :: _ :: _ :: _ => rfl
  | 2, _ =>
    obtain rfl : ("c" : Str) = s := Option.some.inj h
    match l with
    | [] => rfl
    | _ :: _ => rfl
theorem kz_at : ∀ (i : Nat) (s : Str), ka[i]? = some s → kj i < 3 ∧ (kz.map kV)[kj i]? = some (.str s) ∧ ∀ (m : Nat) (z : V), m < kj i → (kz.map kV)[m]? = some z → eqV z (.str s) = false := by
  intro i s h
  have hi : i < 3 := by
    rcases Nat.lt_or_ge i 3 with z | z
    · exact z
    · rw [List.getElem?_eq_none z] at h
      cases h
  match i, hi with
  | 0, _ =>
    obtain rfl : ("a" : Str) = s := Option.some.inj h
    refine ⟨by decide, rfl, fun m z hm hz => ?_⟩
    match m, hm with
    | 0, _ =>
      obtain rfl : V.str "c" = z := Option.some.inj hz
      decide
  | 1, _ =>
    obtain rfl : ("b" : Str) = s := Option.some.inj h
    refine ⟨by decide, rfl, fun m z hm hz => ?_⟩
    match m, hm with
    | 0, _ =>
      obtain rfl : V.str "c" = z := Option.some.inj hz
      decide
    | 1, _ =>
      obtain rfl : V.str "a" = z := Option.some.inj hz
      decide
  | 2, _ =>
    obtain rfl : ("c" : Str) = s := Option.some.inj h
    exact ⟨by decide, rfl, fun m z hm hz => absurd hm (Nat.not_lt_zero _)⟩
theorem kz_ok : KO (kz.map kd) := by
  have S : ∀ s : String, (s.length ≤ 10 ∧ ∀ c ∈ s.toList, c.toNat < 128) → lfS (Str.ofString s) := fun s h => by
    refine ⟨fun c hc => ?_, ?_⟩
    · rw [tl_str] at hc
      obtain ⟨x, hx, rfl⟩ := List.mem_map.mp hc
      exact h.2 x hx
    · rw [PyProof.Rows.ofString_length, String.length_toList]
      exact h.1
  refine ⟨?_, .inr ⟨["c", "a", "b"], rfl, fun s hs => ?_⟩⟩
  · exact List.Pairwise.map kd (fun a b h z => h (kd_inj z)) (show kz.Pairwise (· ≠ ·) by decide)
  · simp only [List.mem_cons, List.not_mem_nil, or_false] at hs
    rcases hs with rfl | rfl | rfl <;> exact S _ (by decide)
theorem zip_fst {α β : Type} : ∀ (xs : List α) (ys : List β), (xs.zip ys).map (·.1) = xs.take ys.length
  | [], _ => by simp
  | _ :: _, [] => rfl
  | x :: xs, y :: ys => congrArg (x :: ·) (zip_fst xs ys)
theorem dq_zip {H : Hp} : ∀ (ks : List Key) {vs : List V} {ds : List PyData}, DqAll H vs ds → DqKv H (ks.zip vs) ((ks.map kd).zip ds)
  | [], _, _, _ => .nil
  | _ :: _, _, _, .nil => .nil
  | _ :: ks, _, _, .cons a b => .cons a (dq_zip ks b)
/-- what is due of such a dict -/
def oneK (es : List PyData) (k : Nat) : Option PyData := match ka[k]?, es[kj k]? with
  | some s, some e => some (.tuple [.str s, e])
  | _, _ => none
def dueK (es : List PyData) (i : Nat) : List PyData := (List.range i).filterMap (oneK es)
theorem dueK_succ (es : List PyData) (i : Nat) : dueK es (i + 1) = dueK es i ++ (oneK es i).toList := by
  unfold dueK
  rw [List.range_succ, List.filterMap_append]
  congr 1
theorem yes_if {b : Bool} {p q : Prop} (hb : b = true) (h : p) : if b = true then p else q := by
  subst hb
  exact h
theorem no_if {b : Bool} {p q : Prop} (hb : b = false) (h : q) : if b = true then p else q := by
  subst hb
  exact h
theorem dueK_fx {n : Nat} (ds : List PyData) (h : ds.length ≤ 3) : fx (n + 1) (.dict ((kz.map kd).zip ds)) = .tuple (dueK (ds.map (fx n)) 3) := by
  match ds, h with
  | [], _ => rfl
  | [_], _ => rfl
  | [_, _], _ => rfl
  | [_, _, _], _ => rfl
section
variable {P : Program} {w : World} {K : PySem.W.Frag} {mg : Str → Option Value} {base : Heap}
theorem ok_value (T : Txt K mg) (n : Nat) (hn : n ≤ 2) (G__law_drip : Gd.Cal P w K mg base 1 "_law_drip" spDip) (G__law_fill : Gd.Cal P w K mg base 2 "_law_fill" spPick) (G__law_value : Gd.Cal P w K mg base (n + 2) "_law_value" (spV n)) : Gd.Cal P w K mg base (n + 3) "_law_value" (spVal n) := by
  obtain ⟨f, fd, F, b⟩ := T.d_law_value
  refine cal F b sc_law_value (fun vs H Q E h => ?_) (fun cdv A outer s H vs Q E hgd hr h => ?_)
  · obtain ⟨w, a, ns, N, rfl, _⟩ := h
    rfl
  · have nd := sc_law_value.nd
    have hu := hu_of hr
    obtain ⟨w, a, ns, N, rfl, hW, hN, q⟩ := h
    refine ⟨_, (C8.pss_cut (ps_set (i := 2) nd rfl (.inl rfl) (pc G__law_drip hgd hr (by omega) (by rfl) (pa_cons (pv 0) (pa_cons (pe_ifExp (pt_cmpR op_gt (pv 1) pe_int (nomark _)) pe_int pe_int) pa_nil))))
      (pss_cons (ps_if (pt_cmpR op_eq (pv 2) pe_int (nomark _)) (pss_cons (ps_set (i := 3) nd rfl (.inl rfl) (pc G__law_fill hgd hr (by omega) (by rfl) (pa_cons (pv 0) (pa_cons (pe_lstX (pa_cons pe_non (pa_cons pe_str (pa_cons pe_str (pa_cons pe_str (pa_cons pe_int (pa_cons pe_int (pa_cons (pe_un un_neg pe_int) (pa_cons (pc G__law_drip hgd hr (by omega) (by rfl) (pa_cons (pv 0) (pa_cons (pe_op op_pow pe_int pe_int) pa_nil))) pa_nil))))))))) pa_nil))))
      (pss_one (ps_ret (pe_tup (pa_cons (pv 3) (pa_cons (pv 3) pa_nil)))))) pss_nil)
      (C8.pss_cut (ps_setLc (i := 4) (own := [("_law_turn", 5)]) (g := gName 5) rfl nd rfl rfl (sw_true rfl rfl rfl (by decide +kernel)) (pi_range1 rfl T.z_range (pa_cons (pc G__law_drip hgd hr (by omega) (by rfl) (pa_cons (pv 0) (pa_cons pe_int pa_nil))) pa_nil)) (blkOk_by (own := [("_law_turn", 5)]) (N := ["_law_font_here", "_law_depth", "_law_way", "_law_plain", "_law_pairs", "_law_turn", "_law_due", "_law_pair", "_law_made", "_law_keys", "_law_at", "_law_key"]) (sc := (C8.fnScope s_law_value)) (by decide +kernel)) (fun _ _ _ _ _ => pg_name (i := 5) nd rfl (Or.inl rfl)) (fun _ _ _ _ _ => pts_nil) (fun _ _ _ _ _ => (pc G__law_value hgd hr (by omega) (by rfl) (pa_cons (pv 0) (pa_cons (pe_op op_sub (pv 1) pe_int) pa_nil)))))
      (C8.pss_cut (ps_set (i := 6) nd rfl (.inr rfl) (pe_callTy call_tuple_of (by rfl) T.z_tuple (by decide +kernel) (pa_cons (pe_lc (own := [("_law_pair", 7)]) (g := gName 7) rfl nd (pi_list (pv 4)) (blkOk_by (own := [("_law_pair", 7)]) (N := ["_law_font_here", "_law_depth", "_law_way", "_law_plain", "_law_pairs", "_law_turn", "_law_due", "_law_pair", "_law_made", "_law_keys", "_law_at", "_law_key"]) (sc := (C8.fnScope s_law_value)) (by decide +kernel)) (fun _ _ _ _ _ => pg_name (i := 7) nd rfl (Or.inl rfl)) (fun _ _ _ _ _ => pts_nil) (fun _ _ _ _ _ => (pe_ix (r := rIxT K) ix_tup (pv 7) pe_int (fun _ _ => rfl)))) pa_nil)))
      (pss_cons (ps_if (pt_cmpR op_lt (pv 2) pe_int (nomark _)) (pss_one (ps_ret (pe_tup (pa_cons (pe_ifExp (pt_cmpR op_eq (pv 2) pe_int (nomark _)) (pe_lc (own := [("_law_pair", 7)]) (g := gName 7) rfl nd (pi_list (pv 4)) (blkOk_by (own := [("_law_pair", 7)]) (N := ["_law_font_here", "_law_depth", "_law_way", "_law_plain", "_law_pairs", "_law_turn", "_law_due", "_law_pair", "_law_made", "_law_keys", "_law_at", "_law_key"]) (sc := (C8.fnScope s_law_value)) (by decide +kernel)) (fun _ _ _ _ _ => pg_name (i := 7) nd rfl (Or.inl rfl)) (fun _ _ _ _ _ => pts_nil) (fun _ _ _ _ _ => (pe_ix (r := rIxT K) ix_tup (pv 7) pe_int (fun _ _ => rfl)))) (pe_callTy call_tuple_of (by rfl) T.z_tuple (by decide +kernel) (pa_cons (pe_lc (own := [("_law_pair", 7)]) (g := gName 7) rfl nd (pi_list (pv 4)) (blkOk_by (own := [("_law_pair", 7)]) (N := ["_law_font_here", "_law_depth", "_law_way", "_law_plain", "_law_pairs", "_law_turn", "_law_due", "_law_pair", "_law_made", "_law_keys", "_law_at", "_law_key"]) (sc := (C8.fnScope s_law_value)) (by decide +kernel)) (fun _ _ _ _ _ => pg_name (i := 7) nd rfl (Or.inl rfl)) (fun _ _ _ _ _ => pts_nil) (fun _ _ _ _ _ => (pe_ix (r := rIxT K) ix_tup (pv 7) pe_int (fun _ _ => rfl)))) pa_nil))) (pa_cons (pv 6) pa_nil))))) pss_nil)
      (C8.pss_cut (ps_asg (pe_tup (pa_cons pe_dnewK (pa_cons (pe_lstX (pa_cons pe_str (pa_cons pe_str (pa_cons pe_str pa_nil)))) pa_nil))) (pg_tup rfl (pgs_cons (pg_name (i := 8) nd rfl (Or.inr rfl)) (pgs_cons (pg_name (i := 9) nd rfl (Or.inr rfl)) pgs_nil))))
      (pss_cons (ps_for PassesOwn.never rfl (pi_enum (by rfl) T.z_enumerate (pa_cons (pv 4) pa_nil)) (pg_tup rfl (pgs_cons (pg_name (i := 10) nd rfl (Or.inl rfl)) (pgs_cons (pg_name (i := 7) nd rfl (Or.inl rfl)) pgs_nil))) (pss_one (ps_dput hu (pv 8) (pe_ix ix_list (pv 9) (pv 10) (fun _ _ => rfl)) (pe_ix ix_tup (pv 7) pe_int (fun _ _ => rfl)) rfl)))
      (pss_one (ps_ret (pe_tup (pa_cons (pv 8) (pa_cons (pe_callTy call_tuple_of (by rfl) T.z_tuple (by decide +kernel) (pa_cons (pe_lc (own := [("_law_key", 11)]) (g := gName 11) rfl nd (pi_list (pe_lstX (pa_cons pe_str (pa_cons pe_str (pa_cons pe_str pa_nil))))) (blkOk_by (own := [("_law_key", 11)]) (N := ["_law_font_here", "_law_depth", "_law_way", "_law_plain", "_law_pairs", "_law_turn", "_law_due", "_law_pair", "_law_made", "_law_keys", "_law_at", "_law_key"]) (sc := (C8.fnScope s_law_value)) (by decide +kernel)) (fun _ _ _ _ _ => pg_name (i := 11) nd rfl (Or.inl rfl)) (fun _ _ _ _ _ => pts_one (pt_cmp (pc_din hu (pv 11) (pv 8)))) (fun _ _ _ _ _ => (pe_tup (pa_cons (pv 11) (pa_cons (pe_ix (r := rIxT K) ix_tup (pv 6) (show PE _ _ (tBM K "list" (rIndex K) _ _) from pe_bm PySem.F.plainAttrs_list PySem.F.slot_list_index PySem.F.type_list_index mt_index (pv 9) (pa_cons (pv 11) pa_nil)) (fun _ _ => rfl)) pa_nil))))) pa_nil)) pa_nil)))))))))))), ?_⟩
    have hvc : 3 ≤ vc n := by
      cases n with
      | zero => exact Nat.le_refl _
      | succ n => unfold vc; omega
    refine ⟨fun σ' H' => ∃ way : Int, σ' = [some (.ref w), some (.int n), some (.int way), none, none, none, none, none, none, none, none, none] ∧ Kp w H H' ∧ Wl ns w a (N + 1) H' ∧ 0 ≤ way ∧ way < 4 ∧ (n = 0 → way = 0), ?_, ?_⟩
    · refine ⟨.ref w, rfl, .int n, rfl, n, 0, rfl, rfl, _, rfl, ite2 (fun t => ?_) (fun t => ?_)⟩
      · refine ⟨w, a, ns, N, 4, rfl, hW, by omega, by decide, by decide, fun v H' v0 v1 kp hW' => ⟨v, rfl, kp, hW', v0, by omega, fun z => ?_⟩⟩
        have := of_decide_eq_true t
        omega
      · refine ⟨w, a, ns, N, 1, rfl, hW, by omega, by decide, by decide, fun v H' v0 v1 kp hW' => ⟨v, rfl, kp, hW', v0, by omega, fun z => by omega⟩⟩
    · rintro σ1 H1 ⟨way, rfl, kp1, hW1, w0, w4, wn⟩
      have dm1 : Dom H H1 := kp1.dom hW1
      have hw : H w ≠ none := hW.some
      refine ⟨.int way, rfl, rfl, _, rfl, ite2 (fun e1 => ?_) (fun e1 => ?_)⟩
      · -- a leaf
        refine ⟨.ref w, rfl, 2, rfl, .ref w, rfl, 10, 20, rfl, rfl, ⟨by decide, by decide, by decide⟩, w, a, ns, _, _, rfl, hW1, by omega, by decide, by decide, fun x H2 x0 x1 kp2 hW2 => ?_⟩
        refine ⟨by show 8 ≤ sizeLine; decide, fun l nl _ => ⟨w, a, ns, _, hW2.same (same_new nl), by omega, .inl ⟨l, _, rfl, (hW2.off nl).1, upd_same, by show 0 < 8; decide, by show 8 ≤ 1000; decide, fun v H3 hv kp3 hW3 => ?_⟩⟩⟩
        obtain ⟨d, hd, hl⟩ := leaf_of x0 x1 hv
        refine ⟨v, rfl, v, rfl, by show 2 ≤ sizeLine; decide, fun t nt => ?_⟩
        have kpH : Kp w H H3 := kp1.trans (kp2.trans ((Kp.same (same_new nl)).trans kp3))
        have ht : H t = none := (kpH.dom hW3).none nt
        exact q t v v d _ (kpH.trans (Kp.same (same_new nt))) ((hW3.same (same_new nt)).mono (by omega)) ((nw_at ht).trans upd_same) hd.lf (by rw [fx_leaf hl]; exact hd.lf) (Sh.leaf hl)
      · cases n with
        | zero => exact absurd (wn rfl) (fun z => e1 (by rw [z]; rfl))
        | succ m =>
        have evc : vc (m + 1) = 3 * vc m + 3 := rfl
        -- the pairs
        refine ⟨fun σ' H' => ∃ (D : Addr) (ws vs us : List V) (ds : List PyData), σ' = [some (.ref w), some (.int ((m + 1 : Nat) : Int)), some (.int way), none, some (.ref D), none, none, none, none, none, none, none] ∧ Kp w H H' ∧ Wl ns w a (N + 2 + 3 * vc m) H' ∧ H' D = some (.lst ws) ∧
          Prs m (nw H H') ws vs us ds ∧ ds.length ≤ 3, ?_, ?_⟩
        · refine ⟨.ref w, rfl, w, a, ns, _, 4, rfl, hW1, by omega, by decide, by decide, fun v H2 v0 v1 kp2 hW2 => ⟨v, rfl, by omega, by omega, fun D nD => ?_⟩⟩
          have hD : H D = none := dm1.none ((kp2.dom hW2).none nD)
          refine lc_range (lo := 0) (n := v.toNat) (fun k H' => ∃ ws vs us ds, H' D = some (.lst ws) ∧ ws.length = k ∧ Kp w H2 H' ∧ Wl ns w a (N + 2 + k * vc m) H' ∧ Prs m (nw (upd H D (.lst [])) H') ws vs us ds)
            ⟨[], [], [], [], upd_same, rfl, Kp.same (same_new nD), by rw [Nat.zero_mul]; exact hW2.same (same_new nD), .nil⟩ (fun k H3 hk hP => ?_) (fun H3 hP => ?_)
          · obtain ⟨ws, vs, us, ds, h1, h2, h3, h4, h5⟩ := hP
            have hDw : D ≠ w := fun z => by
              rw [z] at hD
              exact hw hD
            have hDa : D ≠ a := fun z => (hW2.off nD).2 z
            have hk4 : k * vc m + vc m ≤ 3 * vc m := by
              rw [← Nat.succ_mul]
              exact Nat.mul_le_mul_right _ (by omega)
            refine ⟨rfl, lc_yes ⟨.ref w, rfl, .int ((m + 1 : Nat) : Int), rfl, ((m + 1 : Nat) : Int), 1, rfl, rfl, w, a, ns, _, arg_pred m, h4, by omega, fun t y u dy H4 kp4 hW4 ht4 hd4 hu4 sh4 => ⟨ws, kp4 _ _ hDw h1, small1000 (by omega), ws ++ [.ref t], vs ++ [y], us ++ [u], ds ++ [dy], upd_same, by rw [List.length_append, h2] <;> rfl, ?_, ?_, ?_⟩⟩⟩
            · exact (h3.trans kp4).grow nD |> fun z => z
            · have := (hW4.grow hDw hDa (o := .lst (ws ++ [.ref t])))
              rw [Nat.add_assoc, ← Nat.succ_mul] at this
              exact this
            · have nDn : ∀ b, (upd H D (.lst [])) b = none → b ≠ D ∧ H b = none := fun b hb => by
                have n1 : b ≠ D := fun z => by
                  rw [z, upd_same] at hb
                  cases hb
                rw [upd_ne n1] at hb
                exact ⟨n1, hb⟩
              have sN : Same (nw H3 H4) (nw (upd H D (.lst [])) (upd H4 D (.lst (ws ++ [.ref t])))) := nw_same fun b o g e => by
                have n1 : b ≠ D := fun z => by
                  rw [z, h1] at g
                  cases g
                have n2 : H b = none := dm1.none ((kp2.dom hW2).none ((h3.dom h4).none g))
                exact ⟨by rw [upd_ne n1]; exact n2, by rw [upd_ne n1]; exact e⟩
              refine Prs.snoc (sN _ _ ht4) (hd4.same sN) (hu4.same sN) sh4 (h5.same (nw_same fun b o g e => ⟨g, ?_⟩))
              obtain ⟨n1, n2⟩ := nDn b g
              rw [upd_ne n1]
              exact kp4 b o (fun z => by rw [z] at n2; exact hw n2) e
          · obtain ⟨ws, vs, us, ds, h1, h2, h3, h4, h5⟩ := hP
            have hk4 : v.toNat * vc m ≤ 3 * vc m := Nat.mul_le_mul_right _ (by omega)
            refine ⟨D, ws, vs, us, ds, rfl, kp1.trans (kp2.trans h3), h4.mono (by omega), h1, h5.same (nw_same fun b o g e => ?_), by rw [← h5.len.1]; omega⟩
            have n1 : b ≠ D := fun z => by
              rw [z, upd_same] at g
              cases g
            rw [upd_ne n1] at g
            exact ⟨g, e⟩
        rintro σ3 H3 ⟨D, ws, vs, us, ds, rfl, kp3, hW3, hD3, pr3, l3⟩
        have dm3 : Dom H H3 := kp3.dom hW3
        obtain ⟨lw, lv, lu⟩ := pr3.len
        -- what is due
        refine ⟨fun σ' H' => ∃ td : Addr, σ' = [some (.ref w), some (.int ((m + 1 : Nat) : Int)), some (.int way), none, some (.ref D), none, some (.ref td), none, none, none, none, none] ∧ Same H3 H' ∧ H td = none ∧ H' td = some (.tup us), ?_, ?_⟩
        · refine ⟨.ref D, rfl, D, rfl, ⟨_, SqL.of hD3⟩, fun D5 nD5 => lc_it (walk_list (xs := ws)) (fun i H' => Same H3 H' ∧ H' D5 = some (.lst (us.take i))) ⟨same_new nD5, upd_same⟩ (fun i H' _ hP => SqL.of (hP.1 _ _ hD3)) (fun i x H5 H5b hi hP hy => ?_) (fun H5 hP => ?_)⟩
          · obtain ⟨g1, g2⟩ := hP
            obtain ⟨rfl, hx⟩ := hy
            obtain ⟨t, v, u, rfl, hv, hu', ht⟩ := pr3.get hx
            refine ⟨rfl, lc_yes ⟨.ref t, rfl, t, [v, u], 1, u, rfl, rfl, SqT.of (g1 _ _ (nw_sub _ _ ht)), atI_nat (j := 1) rfl, us.take i, g2, small1000 (by rw [List.length_take]; omega), ?_, ?_⟩⟩
            · intro b o e2
              rw [upd_ne (ne_of_none e2 nD5)]
              exact g1 _ _ e2
            · rw [upd_same, List.take_add_one, hu']
              rfl
          · obtain ⟨g1, g2⟩ := hP
            rw [lw, ← lu, List.take_length] at g2
            exact ⟨D5, us, rfl, .inl ⟨SqL.of g2, fun t5 nt5 => ⟨t5, rfl, g1.trans (same_new nt5), dm3.none (Dom.same g1 |>.none nt5), upd_same⟩⟩⟩
        rintro σ4 H4 ⟨td, rfl, s34, ntd, htd⟩
        have hD4 := s34 _ _ hD3
        have kp4 : Kp w H H4 := kp3.trans (Kp.same s34)
        have hW4 := hW3.same s34
        have dm4 : Dom H H4 := kp4.dom hW4
        have pr4 : Prs m (nw H H4) ws vs us ds := pr3.same (nw_same fun b o g e => ⟨g, s34 _ _ e⟩)
        have m2 : m ≤ 2 := by omega
        have e67 : ds.map (fx 6) = ds.map (fx 7) := map_stab pr4.sh (by omega) (by omega)
        refine ⟨.int way, rfl, way, 3, rfl, rfl, _, rfl, ite2 (fun e2 => ?_) (fun e2 => ?_)⟩
        · -- a row
          refine ⟨.int way, rfl, rfl, _, rfl, ite2 (fun t => ?_) (fun t => ?_)⟩
          · refine ⟨.ref D, rfl, D, rfl, ⟨_, SqL.of hD4⟩, fun D6 nD6 => lc_it (walk_list (xs := ws)) (fun i H' => Same H4 H' ∧ H' D6 = some (.lst (vs.take i))) ⟨same_new nD6, upd_same⟩ (fun i H' _ hP => SqL.of (hP.1 _ _ hD4)) (fun i x H5 H5b hi hP hy => ?_) (fun H5 hP => ?_)⟩
            · obtain ⟨g1, g2⟩ := hP
              obtain ⟨rfl, hx⟩ := hy
              obtain ⟨t, v, u, rfl, hv, hu', ht⟩ := pr4.get hx
              refine ⟨rfl, lc_yes ⟨.ref t, rfl, t, [v, u], 0, v, rfl, rfl, SqT.of (g1 _ _ (nw_sub _ _ ht)), atI_nat (j := 0) rfl, vs.take i, g2, small1000 (by rw [List.length_take]; omega), ?_, ?_⟩⟩
              · intro b o e2
                rw [upd_ne (ne_of_none e2 nD6)]
                exact g1 _ _ e2
              · rw [upd_same, List.take_add_one, hv]
                rfl
            · obtain ⟨g1, g2⟩ := hP
              rw [lw, ← lv, List.take_length] at g2
              refine ⟨.ref td, rfl, by show 2 ≤ sizeLine; decide, fun t nt => ?_⟩
              have st := same_new nt (o := .tup [.ref D6, .ref td])
              have s4t := g1.trans st
              have prt : Prs m (nw H _) ws vs us ds := pr4.same (nw_same fun b o g e => ⟨g, s4t _ _ e⟩)
              have n6 : H D6 = none := dm4.none nD6
              refine q t (.ref D6) (.ref td) (.list ds) _ (kp4.trans (Kp.same s4t)) ((hW4.same s4t).mono (by omega)) ((nw_at (dm4.none (Dom.same g1 |>.none nt))).trans upd_same) (.lst ((nw_at n6).trans (st _ _ g2)) prt.vals) ?_ (.inr (.inl ⟨ds, .inl rfl, by omega, pr4.sh⟩))
              show Dq _ _ (.tuple (ds.map (fx 6)))
              rw [e67]
              exact .tup ((nw_at ntd).trans (s4t _ _ htd)) prt.dues
          · refine ⟨.ref D, rfl, D, rfl, ⟨_, SqL.of hD4⟩, fun D6 nD6 => lc_it (walk_list (xs := ws)) (fun i H' => Same H4 H' ∧ H' D6 = some (.lst (vs.take i))) ⟨same_new nD6, upd_same⟩ (fun i H' _ hP => SqL.of (hP.1 _ _ hD4)) (fun i x H5 H5b hi hP hy => ?_) (fun H5 hP => ?_)⟩
            · obtain ⟨g1, g2⟩ := hP
              obtain ⟨rfl, hx⟩ := hy
              obtain ⟨t, v, u, rfl, hv, hu', ht⟩ := pr4.get hx
              refine ⟨rfl, lc_yes ⟨.ref t, rfl, t, [v, u], 0, v, rfl, rfl, SqT.of (g1 _ _ (nw_sub _ _ ht)), atI_nat (j := 0) rfl, vs.take i, g2, small1000 (by rw [List.length_take]; omega), ?_, ?_⟩⟩
              · intro b o e2
                rw [upd_ne (ne_of_none e2 nD6)]
                exact g1 _ _ e2
              · rw [upd_same, List.take_add_one, hv]
                rfl
            · obtain ⟨g1, g2⟩ := hP
              rw [lw, ← lv, List.take_length] at g2
              refine ⟨D6, vs, rfl, .inl ⟨SqL.of g2, fun t6 nt6 => ?_⟩⟩
              refine ⟨.ref td, rfl, by show 2 ≤ sizeLine; decide, fun t nt => ?_⟩
              have s6 := same_new nt6 (o := .tup vs)
              have st := same_new nt (o := .tup [.ref t6, .ref td])
              have s4t := g1.trans (s6.trans st)
              have prt : Prs m (nw H _) ws vs us ds := pr4.same (nw_same fun b o g e => ⟨g, s4t _ _ e⟩)
              have n6 : H t6 = none := dm4.none (Dom.same g1 |>.none nt6)
              refine q t (.ref t6) (.ref td) (.tuple ds) _ (kp4.trans (Kp.same s4t)) ((hW4.same s4t).mono (by omega)) ((nw_at (dm4.none (Dom.same (g1.trans s6) |>.none nt))).trans upd_same) (.tup ((nw_at n6).trans (st _ _ upd_same)) prt.vals) ?_ (.inr (.inl ⟨ds, .inr rfl, by omega, pr4.sh⟩))
              show Dq _ _ (.tuple (ds.map (fx 6)))
              rw [e67]
              exact .tup ((nw_at ntd).trans (s4t _ _ htd)) prt.dues
        · -- a dict
          refine ⟨fun σ' H' => ∃ Dm Dk : Addr, σ' = [some (.ref w), some (.int ((m + 1 : Nat) : Int)), some (.int way), none, some (.ref D), none, some (.ref td), none, some (.ref Dm), some (.ref Dk), none, none] ∧ Same H4 H' ∧ H4 Dm = none ∧ Dk ≠ Dm ∧ H' Dm = some (.dK []) ∧ H' Dk = some (.lst [.str "c", .str "a", .str "b"]), ?_, ?_⟩
          · intro Dm nDm
            refine ⟨by show 3 ≤ sizeLine; decide, fun Dk nDk _ => ?_⟩
            refine ⟨by show 2 ≤ sizeLine; decide, fun tt ntt => ?_⟩
            have s1 := same_new nDm (o := .dK [])
            have s2 := same_new nDk (o := .lst [.str "c", .str "a", .str "b"])
            have s3 := same_new ntt (o := .tup [.ref Dm, .ref Dk])
            exact ⟨tt, _, rfl, SqT.of upd_same, rfl, .ref Dm, [.ref Dk], rfl, .ref Dk, [], rfl, rfl, Dm, Dk, rfl, s1.trans (s2.trans s3), nDm, (ne_of_none upd_same nDk).symm, s3 _ _ (s2 _ _ upd_same), s3 _ _ upd_same⟩
          rintro σ5 H5 ⟨Dm, Dk, rfl, s45, nDm, nkm, hDm, hDk⟩
          have e3 : ws.length ≤ 3 := by omega
          refine ⟨.ref D, rfl, D, ws, rfl, SqL.of (s45 _ _ hD4), for_it (walk_enum (xs := ws)) (fun i σ' H' => ∃ y7 y10, σ' = [some (.ref w), some (.int ((m + 1 : Nat) : Int)), some (.int way), none, some (.ref D), none, some (.ref td), y7, some (.ref Dm), some (.ref Dk), y10, none] ∧
              Same H4 H' ∧ H' Dm = some (.dK ((kz.zip vs).take i)) ∧ H' Dk = some (.lst (kz.map kV)))
            ⟨none, none, rfl, s45, hDm, hDk⟩ (fun i σ' H' _ hP => ?_) (fun i x σ' H6 H7 hi hP hY => ?_) (fun σ' H6 hP => ?_)⟩
          · obtain ⟨_, _, _, g1, _⟩ := hP
            exact SqL.of (g1 _ _ hD4)
          · obtain ⟨y7, y10, rfl, g1, g2, g3⟩ := hP
            obtain ⟨T, x1, x2, rfl, nT, rfl, hx1, hx2⟩ := hY
            obtain rfl : V.int (i : Nat) = x1 := Option.some.inj hx1
            obtain ⟨t, v, u, rfl, hv, hu', ht⟩ := pr4.get hx2
            have sT := same_new nT (o := .tup [.int (i : Nat), .ref t])
            have hi3 : i < 3 := by omega
            obtain ⟨k, hk⟩ : ∃ k, kz[i]? = some k := ⟨_, List.getElem?_eq_getElem (show i < kz.length from hi3)⟩
            have hkV : (kz.map kV)[i]? = some (kV k) := by rw [List.getElem?_map, hk]; rfl
            refine ⟨T, _, rfl, SqT.of upd_same, rfl, .int (i : Nat), [.ref t], rfl, .ref t, [], rfl, rfl, ?_⟩
            refine ⟨.ref t, rfl, t, [v, u], 0, v, rfl, rfl, SqT.of (sT _ _ (g1 _ _ (nw_sub _ _ ht))), atI_nat (j := 0) rfl, .ref Dm, rfl, .ref Dk, rfl, .int (i : Nat), rfl, Dk, kz.map kV, (i : Nat), kV k, rfl, rfl, SqL.of (sT _ _ g3), atI_nat hkV, Dm, _, rfl, DPut.k (sT _ _ g2) ?_, ?_⟩
            · exact small1000 (by rw [List.length_take, List.length_zip]; omega)
            · have hz : (kz.zip vs)[i]? = some (k, v) := List.getElem?_zip_eq_some.mpr ⟨hk, hv⟩
              have hkn : k ∉ ((kz.zip vs).take i).map (·.1) := by
                intro z
                have nd2 : kz.Nodup := by decide
                obtain ⟨i2, hi2⟩ := List.getElem?_of_mem z
                rw [List.getElem?_map] at hi2
                obtain ⟨p, hp, rfl⟩ := Option.map_eq_some_iff.mp hi2
                rw [List.getElem?_take] at hp
                split at hp
                · rename_i hlt
                  have := (List.getElem?_zip_eq_some.mp hp).1
                  have := (List.getElem?_inj (by show i2 < 3; omega) nd2).mp (this.trans hk.symm)
                  omega
                · cases hp
              rw [putK_new hkn]
              refine ⟨_, _, rfl, fun b o e => ?_, ?_, ?_⟩
              · rw [upd_ne (ne_of_none e nDm)]
                exact sT _ _ (g1 _ _ e)
              · rw [upd_same, List.take_add_one, hz]
                rfl
              · rw [upd_ne nkm]
                exact sT _ _ g3
          obtain ⟨y7, y10, rfl, g1, g2, g3⟩ := hP
          have lz : (kz.zip vs).length = ws.length := by
            rw [List.length_zip, lw, ← lv]
            exact Nat.min_eq_right (by show vs.length ≤ 3; omega)
          rw [← lz, List.take_length] at g2
          have hDmn : H Dm = none := dm4.none nDm
          refine ⟨.ref Dm, rfl, by show 3 ≤ sizeLine; decide, fun pl nl _ => ?_⟩
          have sl := same_new nl (o := .lst [.str "a", .str "b", .str "c"])
          have r0 : Same H4 (upd H6 pl (.lst [.str "a", .str "b", .str "c"])) := g1.trans sl
          refine ⟨pl, rfl, ⟨_, SqL.of upd_same⟩, fun D7 nD7 => lc_it (walk_list (xs := ka.map V.str)) (fun i H' => Same (upd H6 pl (.lst [.str "a", .str "b", .str "c"])) H' ∧ ∃ rs, H' D7 = some (.lst rs) ∧ DqAll (nw (upd H D7 (.lst [])) H') rs (dueK (ds.map (fx 7)) i) ∧ rs.length ≤ i)
            ⟨same_new nD7, [], upd_same, .nil, Nat.le_refl _⟩ (fun i H' _ hP => SqL.of (hP.1 _ _ upd_same)) (fun i x H7 H7b hi hP hy => ?_) (fun H7 hP => ?_)⟩
          · obtain ⟨j1, rs, j2, j3, j4⟩ := hP
            obtain ⟨rfl, hx⟩ := hy
            rw [List.getElem?_map] at hx
            obtain ⟨s, hs, rfl⟩ := Option.map_eq_some_iff.mp hx
            obtain ⟨a1, a2, a3⟩ := kz_at i s hs
            have a4 := kz_val i s hs vs (by omega)
            have r1 := r0.trans j1
            refine ⟨rfl, .str s, rfl, .ref Dm, rfl, Dm, _, rfl, DGet.k (k := .inr s) (j1 _ _ (sl _ _ g2)), _, rfl, ?_⟩
            cases hv : vs[kj i]? with
            | none =>
              refine no_if (by rw [a4, hv]; rfl) ⟨j1, rs, j2, ?_, by omega⟩
              have hn : ds[kj i]? = none := by
                rw [List.getElem?_eq_none_iff] at hv ⊢
                omega
              have ho : oneK (ds.map (fx 7)) i = none := by
                unfold oneK
                rw [hs, List.getElem?_map, hn]
                rfl
              rw [dueK_succ, ho]
              show DqAll _ rs (dueK _ i ++ [])
              rw [List.append_nil]
              exact j3
            | some v =>
              have hlt : kj i < vs.length := (List.getElem?_eq_some_iff.mp hv).1
              obtain ⟨d, hd⟩ : ∃ d, ds[kj i]? = some d := ⟨_, List.getElem?_eq_getElem (show kj i < ds.length by omega)⟩
              obtain ⟨u, hu2⟩ : ∃ u, us[kj i]? = some u := ⟨_, List.getElem?_eq_getElem (show kj i < us.length by omega)⟩
              have ho : oneK (ds.map (fx 7)) i = some (.tuple [.str s, fx 7 d]) := by
                unfold oneK
                rw [hs, List.getElem?_map, hd]
                rfl
              have hud : Dq (nw H H4) u (fx 7 d) := by
                obtain ⟨e, he, hue⟩ := pr4.dues.get hu2
                rw [List.getElem?_map, hd] at he
                obtain rfl : fx 7 d = e := Option.some.inj he
                exact hue
              refine yes_if (by rw [a4, hv]; rfl) ⟨.str s, rfl, .ref td, rfl, .ref Dk, rfl, .inl ⟨rfl, _, SqL.of (j1 _ _ (sl _ _ g3))⟩, .str s, rfl, Dk, kz.map kV, .str s, kj i, .str s, rfl, rfl, SqL.of (j1 _ _ (sl _ _ g3)), rfl, rfl, a2, beq_self_eq_true s, a3,
                td, us, (kj i : Nat), u, rfl, rfl, SqT.of (r1 _ _ htd), atI_nat hu2, by show 2 ≤ sizeLine; decide, fun tt ntt => ⟨rs, same_new ntt _ _ j2, small1000 (by have : ds.length ≤ 3 := l3; have : (ka.map V.str).length = 3 := rfl; omega), ?_, rs ++ [.ref tt], upd_same, ?_, ?_⟩⟩
              · intro b o e2
                rw [upd_ne (ne_of_none e2 nD7)]
                exact same_new ntt _ _ (j1 _ _ e2)
              · have sN : ∀ b o, H b = none → H4 b = some o → (upd H D7 (.lst [])) b = none ∧ (upd (upd H7b tt (.tup [.str s, u])) D7 (.lst (rs ++ [.ref tt]))) b = some o := fun b o g e => by
                  have n1 : b ≠ D7 := ne_of_none (r0 _ _ e) nD7
                  rw [upd_ne n1, upd_ne n1]
                  exact ⟨g, same_new ntt _ _ (r1 _ _ e)⟩
                have nt7 : tt ≠ D7 := fun z => by
                  rw [z, j2] at ntt
                  cases ntt
                have hDt : H tt = none := dm4.none ((Dom.same r1).none ntt)
                rw [dueK_succ, ho]
                refine (j3.same (nw_same fun b o g e => ⟨g, ?_⟩)).snoc (.tup (xs := [.str s, u]) ?_ (.cons (.str s) (.cons (hud.same (nw_same sN)) .nil)))
                · have n1 : b ≠ D7 := fun z => by
                    rw [z, upd_same] at g
                    cases g
                  rw [upd_ne n1]
                  exact same_new ntt _ _ e
                · rw [nw_at (by rw [upd_ne nt7]; exact hDt), upd_ne nt7]
                  exact upd_same
              · rw [List.length_append]
                show rs.length + 1 ≤ i + 1
                omega
          · obtain ⟨j1, rs, j2, j3, j4⟩ := hP
            have hD7 : H D7 = none := dm4.none ((Dom.same r0).none nD7)
            refine ⟨D7, rs, rfl, .inl ⟨SqL.of j2, fun t7 nt7 => ?_⟩⟩
            refine ⟨by show 2 ≤ sizeLine; decide, fun t nt => ?_⟩
            have s7 := same_new nt7 (o := .tup rs)
            have st := same_new nt (o := .tup [.ref Dm, .ref t7])
            have r1 := r0.trans j1
            have rT := r1.trans (s7.trans st)
            have n7 : H t7 = none := dm4.none ((Dom.same r1).none nt7)
            have nT : H t = none := dm4.none ((Dom.same (r1.trans s7)).none nt)
            have dz : DqKv (nw H (upd (upd H7 t7 (.tup rs)) t (.tup [.ref Dm, .ref t7]))) (kz.zip vs) ((kz.map kd).zip ds) := dq_zip kz (pr4.vals.same (nw_same fun b o g e => ⟨g, rT _ _ e⟩))
            have kk : ((kz.map kd).zip ds).map (·.1) = (kz.map kd).take ds.length := by
              exact zip_fst _ _
            refine q t (.ref Dm) (.ref t7) (.dict ((kz.map kd).zip ds)) _ (kp4.trans (Kp.same rT)) ((hW4.same rT).mono (by omega)) ((nw_at nT).trans upd_same) (.dk ((nw_at hDmn).trans (st _ _ (s7 _ _ (j1 _ _ (sl _ _ g2))))) dz) ?_ (.inr (.inr ⟨_, rfl, ?_, ?_, ?_⟩))
            · rw [dueK_fx ds l3]
              refine .tup ((nw_at n7).trans (st _ _ upd_same)) ?_
              rw [e67]
              refine j3.same (nw_same fun b o g e => ?_)
              have n1 : b ≠ D7 := fun z => by
                rw [z, upd_same] at g
                cases g
              rw [upd_ne n1] at g
              exact ⟨g, st _ _ (s7 _ _ e)⟩
            · rw [List.length_zip]
              omega
            · rw [kk]
              exact kz_ok.sub (List.take_sublist _ _)
            · intro p hp
              exact pr4.sh p.2 (List.of_mem_zip hp).2
theorem oks_value (T : Txt K mg) (G__law_drip : Gd.Cal P w K mg base 1 "_law_drip" spDip) (G__law_fill : Gd.Cal P w K mg base 2 "_law_fill" spPick) : ∀ n, n ≤ 3 → Gd.Cal P w K mg base (n + 2) "_law_value" (spV n)
  | 0, _ => by
    obtain ⟨f, fd, F, b⟩ := T.d_law_value
    exact ⟨f, fd, _, ⟨fun _ _ _ _ h => h.elim, fun _ _ _ _ _ _ _ _ _ _ _ _ _ _ h => h.elim⟩, F.mgf, F.kp, b⟩
  | n + 1, h => ok_value T n (by omega) G__law_drip G__law_fill (oks_value T G__law_drip G__law_fill n (by omega))
end
end K56

set_option Elab.async false
set_option linter.all false
set_option maxRecDepth 100000
set_option maxHeartbeats 1000000
namespace K56
open PySem PySem.Spec PyProof.Rows L2 Gd NdefX
/-- what the top has written of them -/
structure Tz (P : Program) (K : PySem.W.Frag) (mg : Str → Option Value) (c f cc cda : Nat → Addr) (fE fB : Addr) : Prop where
  g : ∀ i, i < 35 → mg (nmP i) = some (.ref (c i))
  ic : ∀ i, i < 35 → C8.InsC K (c i)
  nm : ∀ i, i < 35 → NameC K (c i) (nmP i)
  eq : ∀ i, i < 35 → EqC K (c i) fE
  mkr : ∀ i, i < 35 → Mk K (c i) (f i)
  no : ∀ i, i < 35 → ∀ x ∈ fldN, PySem.W.findIn K (.ref (c i)) x = some none
  kin : ∀ i j, i < 35 → j < 2 → PySem.W.kitOne K (.ref (c i)) (.ref (c j)) = some (belP i j)
  tupP : PySem.W.kitOne K (.type "tuple") (.ref (c 0)) = some false
  tupS : ∀ i, i < 35 → PySem.W.subIn K (.type "tuple") (.ref (c i)) = some false
  sub : ∀ i j, i < 35 → j < 35 → PySem.W.subIn K (.ref (c i)) (.ref (c j)) = some (belP i j)
  inj : ∀ i j, i < 35 → j < 35 → c i = c j → i = j
  bl : ∀ i, i < 35 → PySem.W.findIn K (.ref (c i)) "__bool__" = some (if belP i 1 = true then some (.ref fB) else none)
  ln : ∀ i, i < 35 → PySem.W.findIn K (.ref (c i)) "__len__" = some none
  fb : PySem.W.isFn K (.ref fB) = true
  sm : (K.lookup sysModules).isSome = true
  pi : ∃ fd, C8.Fun K "__init__" "Paper.__init__" (mS 0 0) (f 0) fd ∧ fd.defaults = .none
  pe : ∃ fd, C8.Fun K "__eq__" "Paper.__eq__" (mS 0 1) fE fd ∧ fd.defaults = .none
  pb : ∃ fd, C8.Fun K "__bool__" "Denial.__bool__" (mS 1 1) fB fd ∧ fd.defaults = .none
  sf : ∀ i, 0 < i → i < 35 → SupF P K mg (f i) (cc i) (cda i) (c i) (nfP i (cc i) (cda i))
  sc : ∀ i j, i < 35 → 0 < j → j < 35 → belP i j = true → SupC K (c i) (c j) "__init__" (f (upP j))
/-- an instance with these fields -/
def InsF (C : Addr) (fl : List (Str × V)) (H : Hp) (a : Addr) : Prop := ∃ dx fs, H a = some (.ins C dx fs) ∧ fs.length ≤ 12 ∧ ∀ p ∈ fl, fs.lookup p.1 = some p.2
/-- a paper of the class C: its word, its parts, the parts' names -/
def Pap (C : Addr) (ns : List Str) (z : Str) (es : List PyData) (H : Hp) (a : Addr) : Prop := ∃ us t, InsF C (([(("word" : Str), V.str z), (("parts" : Str), V.ref t)] : List (Str × V)) ++ ns.zip us) H a ∧ H t = some (.tup us) ∧ DqAll H us es
theorem Pap.keep {C : Addr} {ns : List Str} {z : Str} {es : List PyData} {H H' : Hp} {a : Addr} (h : Pap C ns z es H a) (k : DK H H') (ha : ∀ C dx fs, H a = some (.ins C dx fs) → H' a = some (.ins C dx fs)) : Pap C ns z es H' a := by
  obtain ⟨us, t, ⟨dx, fs, h1, h2, h3⟩, h4, h5⟩ := h
  exact ⟨us, t, ⟨dx, fs, ha _ _ _ h1, h2, h3⟩, k.t _ _ h4, h5.keep k⟩
theorem Pap.same {C : Addr} {ns : List Str} {z : Str} {es : List PyData} {H H' : Hp} {a : Addr} (h : Pap C ns z es H a) (s : Same H H') : Pap C ns z es H' a := h.keep (DK.of s) fun _ _ _ e => s _ _ e
/-- what an __init__ of so many places leaves of an instance of the class C -/
def spIni (K : PySem.W.Frag) (C : Addr) : Sp := fun vs H Q _ => ∃ (a dx : Addr) (z : Str) (rest : List V) (ds : List PyData), vs = .ref a :: .str z :: rest ∧ H a = some (.ins C dx []) ∧ DqAll H rest ds ∧ (∀ d ∈ ds, Sh 7 d) ∧ rest.length ≤ 5 ∧
  ∀ (us : List V) (t : Addr) (fs : List (Str × V)) (H' : Hp), (∀ b o, b ≠ a → H b = some o → H' b = some o) → H' a = some (.ins C dx fs) → fs.length ≤ 2 → fs.lookup ("word" : Str) = some (.str z) → fs.lookup ("parts" : Str) = some (.ref t) → H' t = some (.tup us) → DqAll H' us (ds.map (fx 7)) → Q .non H'
theorem scPI : FnScope ["self", "word", "parts"] ["self", "word", "parts"] (C8.fnScope (mS 0 0)) := C8.fnScope_by (by decide +kernel)
theorem scPE : FnScope ["self", "other"] ["self", "other"] (C8.fnScope (mS 0 1)) := C8.fnScope_by (by decide +kernel)
theorem scPB : FnScope ["self"] ["self"] (C8.fnScope (mS 1 1)) := C8.fnScope_by (by decide +kernel)
section
variable {P : Program} {w : World} {K : PySem.W.Frag} {mg : Str → Option Value} {base : Heap} {c f cc cda : Nat → Addr} {fE fB : Addr}
theorem Tz.cls (Z : Tz P K mg c f cc cda fE fB) {i : Nat} (h : i < 35) : Cls K (c i) := (Z.ic i h).cl
theorem Tz.noA (Z : Tz P K mg c f cc cda fE fB) {i : Nat} (h : i < 35) {x : Str} (hx : x ∈ fldN) : NoAttr K (c i) x := Z.no i h x hx
theorem fn_pi (Z : Tz P K mg c f cc cda fE fB) (G_fixed : C8.Cal P w K mg base 9 "fixed" (spF 9) []) {i : Nat} (hi : i < 35) : FnR P w K mg base C8.CX0 10 (f 0) (spIni K (c i)) := by
  obtain ⟨fd, F, df⟩ := Z.pi
  obtain ⟨oc, od, dV, kV, doc, pm, an, cdv, ct, osl, rfl, lk, hcd⟩ := F.ex
  obtain rfl : dV = .none := df
  have R := StX.fn_star (P := P) (w := w) (mg := mg) (base := base) (k := 9) (ps := ["self", "word"]) (pv := "parts") (sp := fun vs H Q _ => ∃ (a dx p : Addr) (z : Str) (rest : List V) (ds : List PyData), vs = [.ref a, .str z, .ref p] ∧ H a = some (.ins (c i) dx []) ∧ H p = some (.tup rest) ∧ DqAll H rest ds ∧
    (∀ d ∈ ds, Sh 7 d) ∧ ds.length ≤ 5 ∧ ∀ (us : List V) (t : Addr) (fs : List (Str × V)) (H' : Hp), (∀ b o, b ≠ a → H b = some o → H' b = some o) → H' a = some (.ins (c i) dx fs) → fs.length ≤ 2 → fs.lookup ("word" : Str) = some (.str z) → fs.lookup ("parts" : Str) = some (.ref t) → H' t = some (.tup us) → DqAll H' us (ds.map (fx 7)) → Q .non H')
    lk hcd scPI StX.cxUp_none ?_ fun A outer s H vs Q E hr h => ?_
  · refine fun A outer s H us vs Q E hr e0 r h => R A outer s H us vs Q E hr e0 r ?_
    obtain ⟨a, dx, z, rest, ds, rfl, ha, hd, hs, hl, q⟩ := h
    refine ⟨[.ref a, .str z], rest, rfl, rfl, sm1000 (by omega), fun p np => ⟨a, dx, p, z, rest, ds, rfl, same_new np _ _ ha, upd_same, hd.same (same_new np), hs, by rw [← hd.len]; exact hl, fun us t fs H' k h1 h2 h3 h4 h5 h6 => ?_⟩⟩
    exact q us t fs H' (fun b o n e => k b o n (same_new np _ _ e)) h1 h2 h3 h4 h5 h6
  · exact StX.bind_star2 (B := fun us => bindArgs (PySem.W.fnOf "__init__" "Paper.__init__" (C8.fnArgs (mS 0 0)) (C8.fnBody (mS 0 0)) (C8.fnScope (mS 0 0)) .none kV doc pm an cdv ct) ⟨us, []⟩) (p1 := "self") (p2 := "word") (pv := "parts") (fun a b => rfl) (fun a b r rs => rfl)
  · obtain ⟨a, dx, p, z, rest, ds, rfl, ha, hp, hd, hs, hl, q⟩ := h
    have cl := Z.cls hi
    refine ⟨_, pss_cons (ps_fld (pv 0) (pv 1) rfl) (pss_one (ps_fld (pv 0) (C8.pe_c G_fixed hr (by omega) (by rfl) (pa_cons (pv 2) pa_nil)) rfl)), ?_⟩
    refine ⟨.str z, rfl, .ref a, rfl, a, c i, dx, [], rfl, ha, cl, Z.noA hi (by decide), by decide, ?_⟩
    have k1 : ∀ b o, b ≠ a → H b = some o → (upd H a (.ins (c i) dx (putF "word" (.str z) []))) b = some o := fun b o n e => by
      rw [upd_ne n]
      exact e
    have D1 := DK.ins ha k1
    refine ⟨.ref p, rfl, .ref p, .tuple ds, rfl, .tup (D1.t _ _ hp) (hd.keep D1), .inr (.inl ⟨ds, .inr rfl, hl, hs⟩), fun u H2 s2 hu => ?_⟩
    refine ⟨.ref a, rfl, a, c i, dx, _, rfl, s2 _ _ upd_same, cl, Z.noA hi (by decide), Nat.lt_of_le_of_lt (putF_len _ _ _) (by decide), ?_⟩
    cases hu with
    | @tup t us _ ht hus =>
    have k2 : ∀ b o, b ≠ a → H2 b = some o → (upd H2 a (.ins (c i) dx (putF "parts" (.ref t) (putF "word" (.str z) [])))) b = some o := fun b o n e => by
      rw [upd_ne n]
      exact e
    have D2 := DK.ins (s2 _ _ upd_same) k2
    exact q us t _ _ (fun b o n e => k2 b o n (s2 _ _ (k1 b o n e))) upd_same (Nat.le_trans (putF_len _ _ _) (Nat.succ_le_succ (putF_len _ _ _))) ((look_ne (by decide) _ _).trans (look_same _ _ _)) (look_same _ _ _) (D2.t _ _ ht) (hus.keep D2)
theorem supT_of {nf : NF} (h : ((nf.params.posonlyargs ++ nf.params.args).head?.map (·.arg) = some "self" ∧ nf.scope.names.lookup ("super" : Str) = some .globalImplicit ∧ nf.scope.names.lookup ("__class__" : Str) = some .free ∧ nf.scope.names.lookup ("self" : Str) = some .local)) : SupT nf := by
  obtain ⟨h1, h2, h3, h4⟩ := h
  obtain ⟨ar, h5, h6⟩ := Option.map_eq_some_iff.mp h1
  exact ⟨⟨ar, h5, h6⟩, h2, h3, h4⟩
theorem nsPD : NScope ["self", "word", "parts", "__class__"] ["self", "word", "parts"] ["__class__"] (C8.fnScope (mS 1 0)) := nscope_by (by decide +kernel)
theorem fn_den (Z : Tz P K mg c f cc cda fE fB) (G_fixed : C8.Cal P w K mg base 9 "fixed" (spF 9) []) {i : Nat} (hi : i < 35) (hb : belP i 1 = true) : FnR P w K mg base C8.CX0 11 (f 1) (spIni K (c i)) := by
  have S := Z.sf 1 (by decide) (by decide)
  have T : SupT (nfP 1 (cc 1) (cda 1)) := supT_of (show (((C8.fnArgs (mS 1 0)).posonlyargs ++ (C8.fnArgs (mS 1 0)).args).head?.map (·.arg) = some "self" ∧ (C8.fnScope (mS 1 0)).names.lookup ("super" : Str) = some .globalImplicit ∧ (C8.fnScope (mS 1 0)).names.lookup ("__class__" : Str) = some .free ∧ (C8.fnScope (mS 1 0)).names.lookup ("self" : Str) = some .local) by decide +kernel)
  have C := Z.sc i 1 hi (by decide) (by decide) hb
  have F0 := fn_pi (w := w) (base := base) Z G_fixed hi
  have R := fn_supS (P := P) (w := w) (mg := mg) (base := base) (N := ["self", "word", "parts", "__class__"]) (k := 10) (ps := ["self", "word"]) (pv := "parts") (st := (C8.fnBody (mS 1 0)).getD 0 (.Pass ⟨0, 0, 0, 0⟩)) (rest := [])
    (sp := fun vs H Q _ => ∃ (a dx p : Addr) (z : Str) (rest : List V) (ds : List PyData), vs = [.ref a, .str z, .ref p] ∧ H a = some (.ins (c i) dx []) ∧ H p = some (.tup rest) ∧ DqAll H rest ds ∧
    (∀ d ∈ ds, Sh 7 d) ∧ rest.length ≤ 5 ∧ ∀ (us : List V) (t : Addr) (fs : List (Str × V)) (H' : Hp), (∀ b o, b ≠ a → H b = some o → H' b = some o) → H' a = some (.ins (c i) dx fs) → fs.length ≤ 2 → fs.lookup ("word" : Str) = some (.str z) → fs.lookup ("parts" : Str) = some (.ref t) → H' t = some (.tup us) → DqAll H' us (ds.map (fx 7)) → Q .non H')
    S nsPD (by rfl) (by rfl) ?_ ?_
  · refine fun A outer s H us vs Q E hr e0 r h => R A outer s H us vs Q E hr e0 r ?_
    obtain ⟨a, dx, z, rest, ds, rfl, ha, hd, hs, hl, q⟩ := h
    refine ⟨[.ref a, .str z], rest, rfl, rfl, sm1000 (by omega), fun p np => ⟨a, dx, p, z, rest, ds, rfl, same_new np _ _ ha, upd_same, hd.same (same_new np), hs, hl, fun us t fs H' k h1 h2 h3 h4 h5 h6 => ?_⟩⟩
    exact q us t fs H' (fun b o n e => k b o n (same_new np _ _ e)) h1 h2 h3 h4 h5 h6
  · intro us more hl kV doc pm an cdv ct
    match us, hl with
    | [a, b], _ => cases more <;> rfl
  · intro A outer s H vs Q E hr h hN
    obtain ⟨a, dx, p, z, rest, ds, rfl, ha, hp, hd, hs, hl, q⟩ := h
    refine ⟨_, pss_nil, fun s1 I => ?_⟩
    refine sup_stmt2 (X := ncx C8.CX0 P w K mg base ["self", "word", "parts", "__class__"] (nfP 1 (cc 1) (cda 1)) (f 1) A outer s H E) (i := 0) (a := a) (C := c i) (sup_ctx S T) C F0 hr (pv 1) (pv 2) I hN rfl ha (by decide) (by rfl) (by rfl) (by rfl) (Qn := fun H' => Q .non H') ?_ fun H' s' I' hq => ⟨rfl, H', I', hq⟩
    intro q0 nq
    have Sq := same_new nq (o := .met (f 0) a)
    refine ⟨.str z, rfl, .ref p, rfl, p, rest, rfl, .inl (SqT.of (Sq _ _ hp)), upd_same, a, dx, z, rest, ds, rfl, Sq _ _ ha, hd.same Sq, hs, hl, fun us t fs H' k h1 h2 h3 h4 h5 h6 => ?_⟩
    exact q us t fs H' (fun b o n e => k b o n (Sq _ _ e)) h1 h2 h3 h4 h5 h6
end
end K56

set_option Elab.async false
set_option linter.all false
set_option maxRecDepth 100000
set_option maxHeartbeats 1000000
namespace K56
open PySem PySem.Spec PyProof.Rows L2 Gd NdefX
section
variable {P : Program} {w : World} {K : PySem.W.Frag} {mg : Str → Option Value} {base : Heap} {c f cc cda : Nat → Addr} {fE fB : Addr}
theorem fnR_of {CX : CXT} {k : Nat} {g : Addr} {fd : FuncData} {ps : List Str} {sp : Sp} (F : FnOk P w K mg base CX k g fd ps sp) (b : Binds K fd ps []) : FnR P w K mg base CX k g sp := by
  intro A outer s H us vs Q E hr e0 r h
  have KX : K.In s.heap := e0.mod.kin.keeps fun b o e => (e0.bs b o e).1
  have hl : (us ++ []).length = ps.length := by
    rw [List.append_nil, ← r.length]
    exact F.len _ _ _ _ h
  have bt := b s us KX hl
  rw [List.append_nil] at bt
  exact F.run A outer s H ⟨us, []⟩ us vs Q E hr e0 bt r h
def spB : Sp := fun vs H Q _ => ∃ a, vs = [.ref a] ∧ Q (.bl false) H
theorem fn_bool (Z : Tz P K mg c f cc cda fE fB) : FnR P w K mg base C8.CX0 1 fB spB := by
  obtain ⟨fd, F, df⟩ := Z.pb
  refine fnR_of (ps := ["self"]) (C8.fn0 F scPB (fun vs H Q E h => ?_) (fun cdv A outer s H vs Q E hr h => ?_)) (F.binds df fun _ _ _ _ _ _ us hl => match us, hl with | [_], _ => rfl)
  · obtain ⟨a, rfl, _⟩ := h
    rfl
  · obtain ⟨a, rfl, q⟩ := h
    exact ⟨_, pss_one (ps_ret pe_bl), q⟩
/-- papers compared -/
def spEqP (c : Nat → Addr) : Sp := fun vs H Q _ => ∃ (a b : Addr) (i : Nat) (ns : List Str) (z : Str) (es : List PyData), vs = [.ref a, .ref b] ∧ i < 35 ∧ Pap (c i) ns z es H a ∧ es.length ≤ 5 ∧ (∀ e ∈ es, Tp 14 e) ∧
  ((∃ xs, H b = some (.tup xs) ∧ Q (.bl false) H) ∨ ∃ (j : Nat) (ms : List Str) (y : Str) (ds : List PyData), j < 35 ∧ Pap (c j) ms y ds H b ∧ ds.length ≤ 5 ∧ (∀ e ∈ ds, Tp 14 e) ∧
    Q (.bl (decide (i = j) && (decide (z = y) && PyData.eqv (.tuple es) (.tuple ds)))) H)
theorem nmP_inj : ∀ i, i < 35 → ∀ j, j < 35 → nmP i = nmP j → i = j := by decide +kernel
theorem fn_eq (T : Txt K mg) (Z : Tz P K mg c f cc cda fE fB) : FnR P w K mg base C8.CX0 1 fE (spEqP c) := by
  obtain ⟨fd, F, df⟩ := Z.pe
  refine fnR_of (ps := ["self", "other"]) (C8.fn0 F scPE (fun vs H Q E h => ?_) (fun cdv A outer s H vs Q E hr h => ?_)) (F.binds df fun _ _ _ _ _ _ us hl => match us, hl with | [_, _], _ => rfl)
  · obtain ⟨a, b, _, _, _, _, rfl, _⟩ := h
    rfl
  · obtain ⟨a, b, i, ns, z, es, rfl, hi, hp, hl, hT, h⟩ := h
    refine ⟨_, PSs.nox (pss_cons (ps_if (PW.pt (pw_or (pt_not (pt_val (pe_callB call_isiA (by rfl) T.z_isinstance (by decide +kernel) (pa_cons (pv 1) (pa_cons (C8.pe_gc (v := .ref (c 0)) (by rfl) ⟨_, Z.g 0 (by decide), rfl⟩) pa_nil))))) (pw_or1 (pt_cmpR op_ne (pe_nam (pe_cls (pv 0))) (pe_nam (pe_cls (pv 1))) (nomark _))))) (pss_one (ps_ret pe_bl)) pss_nil)
      (pss_one (ps_ret (pe_and (pe_cmpR op_eq (pe_fld (pv 0) rfl) (pe_fld (pv 1) rfl) (nomark _)) (pe_one (pe_cmpR (op_eqD hr.units) (pe_fld (pv 0) rfl) (pe_fld (pv 1) rfl) (nomark _))))))), ?_⟩
    rcases h with ⟨xs, hb, q⟩ | ⟨j, ms, y, ds, hj, hp2, hl2, hT2, q⟩
    · refine ⟨.ref b, rfl, .inl ⟨.ref b, .ref (c 0), .type "tuple", .ref (c 0), false, rfl, .own _, .base (.tup hb), Z.tupP, _, rfl, iteT q⟩⟩
    · obtain ⟨us, t, ⟨dx, fs, h1, h2, h3⟩, h4, h5⟩ := hp
      obtain ⟨vs, t', ⟨dy, gs, g1, g2, g3⟩, g4, g5⟩ := hp2
      have ii := Z.ic i hi
      have jj := Z.ic j hj
      have bj : belP j 0 = true := by simp [belP]
      have kj := Z.kin j 0 hj (by decide)
      rw [bj] at kj
      refine ⟨.ref b, rfl, .inl ⟨.ref b, .ref (c 0), .ref (c j), .ref (c 0), true, rfl, .own _, .base (.ins g1 jj.cl jj.ha jj.hn jj.htk jj.hm), kj, _, rfl, iteF ?_⟩⟩
      refine ⟨.ref a, rfl, a, c i, dx, fs, rfl, h1, ii, c i, nmP i, rfl, Z.nm i hi, .ref b, rfl, b, c j, dy, gs, rfl, g1, jj, c j, nmP j, rfl, Z.nm j hj, rfl, _, rfl, ?_⟩
      have T1 : Tp 15 (.tuple es) := .inr ⟨es, rfl, hl, hT⟩
      have T2 : Tp 15 (.tuple ds) := .inr ⟨ds, rfl, hl2, hT2⟩
      by_cases hij : i = j
      · subst hij
        refine ite2 (fun e => ?_) (fun _ => ?_)
        · simp at e
        · rw [decide_eq_true rfl, Bool.true_and] at q
          refine ⟨.ref a, rfl, a, c i, dx, fs, .str z, rfl, h1, ii.cl, Z.noA hi (by decide), h3 _ (.head _), .ref b, rfl, b, c i, dy, gs, .str y, rfl, g1, ii.cl, Z.noA hi (by decide), g3 _ (.head _), rfl, _, rfl, ?_⟩
          refine ite2 (fun e => ?_) (fun e => ?_)
          · have hzy : z = y := V.str.inj (of_decide_eq_true e)
            rw [decide_eq_true hzy, Bool.true_and] at q
            refine ⟨.ref a, rfl, a, c i, dx, fs, .ref t, rfl, h1, ii.cl, Z.noA hi (by decide), h3 _ (.tail _ (.head _)), .ref b, rfl, b, c i, dy, gs, .ref t', rfl, g1, ii.cl, Z.noA hi (by decide), g3 _ (.tail _ (.head _)), ?_⟩
            exact ⟨.tuple es, .tuple ds, Dq.dp (.tup h4 h5) T1, Dq.dp (.tup g4 g5) T2, T1.shaped (by decide), T2.shaped (by decide), q⟩
          · have hzy : ¬ z = y := fun h => e (decide_eq_true (by rw [h]))
            rw [decide_eq_false hzy, Bool.false_and] at q
            exact q
      · rw [decide_eq_false hij, Bool.false_and] at q
        refine ite2 (fun e => q) (fun e => ?_)
        exfalso
        refine e ?_
        have hn : ¬ nmP i = nmP j := fun h => hij (nmP_inj i hi j hj h)
        simp [hn]
end
end K56

set_option Elab.async false
set_option linter.all false
set_option maxRecDepth 100000
set_option maxHeartbeats 1000000
namespace K56
open PySem PySem.Spec PyProof.Rows L2 Gd NdefX
/-- what the __init__ of a class with fields leaves -/
def spSub (C : Addr) (z : Str) (ns : List Str) : Sp := fun vs H Q _ => ∃ (a dx : Addr) (ps : List V) (ds : List PyData), vs = .ref a :: ps ∧ ps.length = ns.length ∧ H a = some (.ins C dx []) ∧ DqAll H ps ds ∧ (∀ d ∈ ds, Sh 7 d) ∧
  ∀ H' : Hp, (∀ b o, b ≠ a → H b = some o → H' b = some o) → Pap C ns z (ds.map (fx 7)) H' a → Q .non H'
theorem ne_of_none2 {H : Hp} {t a : Addr} {us : List V} {C dx : Addr} {fs : List (Str × V)} (h : H t = some (.tup us)) (h2 : H a = some (.ins C dx fs)) : t ≠ a := fun z => by
  rw [z, h2] at h
  cases h
section
variable {P : Program} {w : World} {K : PySem.W.Frag} {mg : Str → Option Value} {base : Heap} {c f cc cda : Nat → Addr} {fE fB : Addr}
theorem nsS2 : NScope ["self", "pages", "entries", "__class__"] ["self", "pages", "entries"] ["__class__"] (C8.fnScope (mS 2 0)) := nscope_by (by decide +kernel)
theorem fn_sub2 (Z : Tz P K mg c f cc cda fE fB) (G_fixed : C8.Cal P w K mg base 9 "fixed" (spF 9) []) : ∃ (kV doc pm : Value) (an : Option Addr) (ct : Value), FnOk P w K mg base C8.CX0 12 (f 2) (PySem.W.fnX "__init__" (nmP 2 ++ ".__init__") (C8.fnArgs (mS 2 0)) (C8.fnBody (mS 2 0)) (C8.fnScope (mS 2 0)) [("__class__", cc 2)] .none kV doc pm an (.ref (cda 2)) ct) ["self", "pages", "entries"] (spSub (c 2) "held" ["pages", "entries"]) := by
  have S := Z.sf 2 (by decide) (by decide)
  have T : SupT (nfP 2 (cc 2) (cda 2)) := supT_of (show (((C8.fnArgs (mS 2 0)).posonlyargs ++ (C8.fnArgs (mS 2 0)).args).head?.map (·.arg) = some "self" ∧ (C8.fnScope (mS 2 0)).names.lookup ("super" : Str) = some .globalImplicit ∧ (C8.fnScope (mS 2 0)).names.lookup ("__class__" : Str) = some .free ∧ (C8.fnScope (mS 2 0)).names.lookup ("self" : Str) = some .local) by decide +kernel)
  have C := Z.sc 2 2 (by decide) (by decide) (by decide) (by decide)
  have F0 := fn_pi (w := w) (base := base) Z G_fixed (show 2 < 35 by decide)
  have cl := Z.cls (show 2 < 35 by decide)
  refine fn_supOk (P := P) (w := w) (mg := mg) (base := base) (N := ["self", "pages", "entries", "__class__"]) (k := 11) (ps := ["self", "pages", "entries"]) (st := (C8.fnBody (mS 2 0)).getD 0 (.Pass ⟨0, 0, 0, 0⟩)) (rest := (C8.fnBody (mS 2 0)).drop 1) (sp := spSub (c 2) "held" ["pages", "entries"]) S nsS2 (by rfl) (by rfl) (fun vs H Q E h => ?_) ?_
  · obtain ⟨a, dx, ps, ds, rfl, hl, _⟩ := h
    exact congrArg Nat.succ hl
  · intro A outer s H vs Q E hr h hN
    obtain ⟨a, dx, ps, ds, rfl, hl, ha, hd, hs, q⟩ := h
    obtain ⟨p0, p1, rfl⟩ : ∃ p0 p1, ps = [p0, p1] := by
      match ps, hl with
      | [p0, p1], _ => exact ⟨p0, p1, rfl⟩
    refine ⟨_, (pss_cons (ps_fld (pv 0) (pe_ix ix_tup (pe_fld (pv 0) rfl) pe_int (fun _ _ => rfl)) rfl) (pss_one (ps_fld (pv 0) (pe_ix ix_tup (pe_fld (pv 0) rfl) pe_int (fun _ _ => rfl)) rfl))), fun s1 I => ?_⟩
    refine sup_stmt (X := ncx C8.CX0 P w K mg base ["self", "pages", "entries", "__class__"] (nfP 2 (cc 2) (cda 2)) (f 2) A outer s H E) (i := 0) (a := a) (C := c 2) (sup_ctx S T) C F0 (hr.mono (show 10 ≤ 11 by decide)) (pa_cons pe_str (pa_cons (pv 1) (pa_cons (pv 2) pa_nil))) I hN rfl ha (by decide) (by rfl) (by rfl) (by rfl) (by rfl) (by rfl) ?_ fun H' s' I' hq => ⟨rfl, H', I', hq⟩
    intro q0 nq
    have Sq := same_new nq (o := .met (f 0) a)
    refine ⟨p0, rfl, p1, rfl, upd_same, a, dx, "held", [p0, p1], ds, rfl, Sq _ _ ha, hd.same Sq, hs, by show 2 ≤ 5; decide, fun us t fs H1 kp h1 h2 h3 h4 h5 h6 => ?_⟩
    have hul : us.length = 2 := by
      rw [h6.len, List.length_map, ← hd.len]
      rfl
    obtain ⟨u0, u1, rfl⟩ : ∃ u0 u1, us = [u0, u1] := by
      match us, hul with
      | [u0, u1], _ => exact ⟨u0, u1, rfl⟩
    have kp0 : ∀ b o, b ≠ a → H b = some o → H1 b = some o := fun b o n e => kp b o n (Sq _ _ e)
    have few0 : List.length fs < 1000 := by
      omega
    refine ⟨.ref a, rfl, a, c 2, dx, _, .ref t, rfl, h1, cl, Z.noA (show 2 < 35 by decide) (by decide), h4, t, _, 0, u0, rfl, rfl, SqT.of h5, atI_nat (j := 0) rfl, .ref a, rfl, a, c 2, dx, _, rfl, h1, cl, Z.noA (show 2 < 35 by decide) (by decide), few0, ?_⟩
    have kp1 : ∀ b o, b ≠ a → H b = some o → (upd H1 a (.ins (c 2) dx (putF "pages" u0 fs))) b = some o := fun b o n e => (upd_ne n).trans (kp0 b o n e)
    have ht1 : (upd H1 a (.ins (c 2) dx (putF "pages" u0 fs))) t = some (.tup [u0, u1]) := (upd_ne (ne_of_none2 h5 h1)).trans h5
    have lp1 : (putF "pages" u0 fs).lookup ("parts" : Str) = some (.ref t) := (look_ne (by decide) _ _).trans h4
    have dk1 : DK H1 (upd H1 a (.ins (c 2) dx (putF "pages" u0 fs))) := DK.ins h1 fun b o n e => (upd_ne n).trans e
    have few1 : List.length (putF "pages" u0 fs) < 1000 := by
      have e0 := putF_len ("pages" : Str) u0 fs
      omega
    refine ⟨.ref a, rfl, a, c 2, dx, _, .ref t, rfl, upd_same, cl, Z.noA (show 2 < 35 by decide) (by decide), lp1, t, _, 1, u1, rfl, rfl, SqT.of ht1, atI_nat (j := 1) rfl, .ref a, rfl, a, c 2, dx, _, rfl, upd_same, cl, Z.noA (show 2 < 35 by decide) (by decide), few1, ?_⟩
    have kp2 : ∀ b o, b ≠ a → H b = some o → (upd (upd H1 a (.ins (c 2) dx (putF "pages" u0 fs))) a (.ins (c 2) dx (putF "entries" u1 (putF "pages" u0 fs)))) b = some o := fun b o n e => (upd_ne n).trans (kp1 b o n e)
    have ht2 : (upd (upd H1 a (.ins (c 2) dx (putF "pages" u0 fs))) a (.ins (c 2) dx (putF "entries" u1 (putF "pages" u0 fs)))) t = some (.tup [u0, u1]) := (upd_ne (ne_of_none2 ht1 upd_same)).trans ht1
    have lp2 : (putF "entries" u1 (putF "pages" u0 fs)).lookup ("parts" : Str) = some (.ref t) := (look_ne (by decide) _ _).trans lp1
    have dk2 : DK (upd H1 a (.ins (c 2) dx (putF "pages" u0 fs))) (upd (upd H1 a (.ins (c 2) dx (putF "pages" u0 fs))) a (.ins (c 2) dx (putF "entries" u1 (putF "pages" u0 fs)))) := DK.ins upd_same fun b o n e => (upd_ne n).trans e
    refine q _ kp2 ⟨[u0, u1], t, ⟨dx, _, upd_same, ?_, fun p hp => ?_⟩, ht2, h6.keep (dk1.trans dk2)⟩
    · have e0 := putF_len ("pages" : Str) u0 fs
      have e1 := putF_len ("entries" : Str) u1 (putF "pages" u0 fs)
      omega
    · simp only [List.cons_append, List.nil_append, List.zip_cons_cons, List.zip_nil_right, List.zip_nil_left, List.mem_cons, List.not_mem_nil, or_false] at hp
      rcases hp with rfl | rfl | rfl | rfl <;> dsimp only <;> repeat (first | exact look_same _ _ _ | exact h3 | exact h4 | refine (look_ne (by decide) _ _).trans ?_)
theorem nsS3 : NScope ["self", "number", "ranked", "kept", "__class__"] ["self", "number", "ranked", "kept"] ["__class__"] (C8.fnScope (mS 3 0)) := nscope_by (by decide +kernel)
theorem fn_sub3 (Z : Tz P K mg c f cc cda fE fB) (G_fixed : C8.Cal P w K mg base 9 "fixed" (spF 9) []) : ∃ (kV doc pm : Value) (an : Option Addr) (ct : Value), FnOk P w K mg base C8.CX0 12 (f 3) (PySem.W.fnX "__init__" (nmP 3 ++ ".__init__") (C8.fnArgs (mS 3 0)) (C8.fnBody (mS 3 0)) (C8.fnScope (mS 3 0)) [("__class__", cc 3)] .none kV doc pm an (.ref (cda 3)) ct) ["self", "number", "ranked", "kept"] (spSub (c 3) "lost" ["number", "ranked", "kept"]) := by
  have S := Z.sf 3 (by decide) (by decide)
  have T : SupT (nfP 3 (cc 3) (cda 3)) := supT_of (show (((C8.fnArgs (mS 3 0)).posonlyargs ++ (C8.fnArgs (mS 3 0)).args).head?.map (·.arg) = some "self" ∧ (C8.fnScope (mS 3 0)).names.lookup ("super" : Str) = some .globalImplicit ∧ (C8.fnScope (mS 3 0)).names.lookup ("__class__" : Str) = some .free ∧ (C8.fnScope (mS 3 0)).names.lookup ("self" : Str) = some .local) by decide +kernel)
  have C := Z.sc 3 3 (by decide) (by decide) (by decide) (by decide)
  have F0 := fn_den (w := w) (base := base) Z G_fixed (show 3 < 35 by decide) (by decide)
  have cl := Z.cls (show 3 < 35 by decide)
  refine fn_supOk (P := P) (w := w) (mg := mg) (base := base) (N := ["self", "number", "ranked", "kept", "__class__"]) (k := 11) (ps := ["self", "number", "ranked", "kept"]) (st := (C8.fnBody (mS 3 0)).getD 0 (.Pass ⟨0, 0, 0, 0⟩)) (rest := (C8.fnBody (mS 3 0)).drop 1) (sp := spSub (c 3) "lost" ["number", "ranked", "kept"]) S nsS3 (by rfl) (by rfl) (fun vs H Q E h => ?_) ?_
  · obtain ⟨a, dx, ps, ds, rfl, hl, _⟩ := h
    exact congrArg Nat.succ hl
  · intro A outer s H vs Q E hr h hN
    obtain ⟨a, dx, ps, ds, rfl, hl, ha, hd, hs, q⟩ := h
    obtain ⟨p0, p1, p2, rfl⟩ : ∃ p0 p1 p2, ps = [p0, p1, p2] := by
      match ps, hl with
      | [p0, p1, p2], _ => exact ⟨p0, p1, p2, rfl⟩
    refine ⟨_, (pss_cons (ps_fld (pv 0) (pe_ix ix_tup (pe_fld (pv 0) rfl) pe_int (fun _ _ => rfl)) rfl) (pss_cons (ps_fld (pv 0) (pe_ix ix_tup (pe_fld (pv 0) rfl) pe_int (fun _ _ => rfl)) rfl) (pss_one (ps_fld (pv 0) (pe_ix ix_tup (pe_fld (pv 0) rfl) pe_int (fun _ _ => rfl)) rfl)))), fun s1 I => ?_⟩
    refine sup_stmt (X := ncx C8.CX0 P w K mg base ["self", "number", "ranked", "kept", "__class__"] (nfP 3 (cc 3) (cda 3)) (f 3) A outer s H E) (i := 0) (a := a) (C := c 3) (sup_ctx S T) C F0 (hr.mono (show 11 ≤ 11 by decide)) (pa_cons pe_str (pa_cons (pv 1) (pa_cons (pv 2) (pa_cons (pv 3) pa_nil)))) I hN rfl ha (by decide) (by rfl) (by rfl) (by rfl) (by rfl) (by rfl) ?_ fun H' s' I' hq => ⟨rfl, H', I', hq⟩
    intro q0 nq
    have Sq := same_new nq (o := .met (f 1) a)
    refine ⟨p0, rfl, p1, rfl, p2, rfl, upd_same, a, dx, "lost", [p0, p1, p2], ds, rfl, Sq _ _ ha, hd.same Sq, hs, by show 3 ≤ 5; decide, fun us t fs H1 kp h1 h2 h3 h4 h5 h6 => ?_⟩
    have hul : us.length = 3 := by
      rw [h6.len, List.length_map, ← hd.len]
      rfl
    obtain ⟨u0, u1, u2, rfl⟩ : ∃ u0 u1 u2, us = [u0, u1, u2] := by
      match us, hul with
      | [u0, u1, u2], _ => exact ⟨u0, u1, u2, rfl⟩
    have kp0 : ∀ b o, b ≠ a → H b = some o → H1 b = some o := fun b o n e => kp b o n (Sq _ _ e)
    have few0 : List.length fs < 1000 := by
      omega
    refine ⟨.ref a, rfl, a, c 3, dx, _, .ref t, rfl, h1, cl, Z.noA (show 3 < 35 by decide) (by decide), h4, t, _, 0, u0, rfl, rfl, SqT.of h5, atI_nat (j := 0) rfl, .ref a, rfl, a, c 3, dx, _, rfl, h1, cl, Z.noA (show 3 < 35 by decide) (by decide), few0, ?_⟩
    have kp1 : ∀ b o, b ≠ a → H b = some o → (upd H1 a (.ins (c 3) dx (putF "number" u0 fs))) b = some o := fun b o n e => (upd_ne n).trans (kp0 b o n e)
    have ht1 : (upd H1 a (.ins (c 3) dx (putF "number" u0 fs))) t = some (.tup [u0, u1, u2]) := (upd_ne (ne_of_none2 h5 h1)).trans h5
    have lp1 : (putF "number" u0 fs).lookup ("parts" : Str) = some (.ref t) := (look_ne (by decide) _ _).trans h4
    have dk1 : DK H1 (upd H1 a (.ins (c 3) dx (putF "number" u0 fs))) := DK.ins h1 fun b o n e => (upd_ne n).trans e
    have few1 : List.length (putF "number" u0 fs) < 1000 := by
      have e0 := putF_len ("number" : Str) u0 fs
      omega
    refine ⟨.ref a, rfl, a, c 3, dx, _, .ref t, rfl, upd_same, cl, Z.noA (show 3 < 35 by decide) (by decide), lp1, t, _, 1, u1, rfl, rfl, SqT.of ht1, atI_nat (j := 1) rfl, .ref a, rfl, a, c 3, dx, _, rfl, upd_same, cl, Z.noA (show 3 < 35 by decide) (by decide), few1, ?_⟩
    have kp2 : ∀ b o, b ≠ a → H b = some o → (upd (upd H1 a (.ins (c 3) dx (putF "number" u0 fs))) a (.ins (c 3) dx (putF "ranked" u1 (putF "number" u0 fs)))) b = some o := fun b o n e => (upd_ne n).trans (kp1 b o n e)
    have ht2 : (upd (upd H1 a (.ins (c 3) dx (putF "number" u0 fs))) a (.ins (c 3) dx (putF "ranked" u1 (putF "number" u0 fs)))) t = some (.tup [u0, u1, u2]) := (upd_ne (ne_of_none2 ht1 upd_same)).trans ht1
    have lp2 : (putF "ranked" u1 (putF "number" u0 fs)).lookup ("parts" : Str) = some (.ref t) := (look_ne (by decide) _ _).trans lp1
    have dk2 : DK (upd H1 a (.ins (c 3) dx (putF "number" u0 fs))) (upd (upd H1 a (.ins (c 3) dx (putF "number" u0 fs))) a (.ins (c 3) dx (putF "ranked" u1 (putF "number" u0 fs)))) := DK.ins upd_same fun b o n e => (upd_ne n).trans e
    have few2 : List.length (putF "ranked" u1 (putF "number" u0 fs)) < 1000 := by
      have e0 := putF_len ("number" : Str) u0 fs
      have e1 := putF_len ("ranked" : Str) u1 (putF "number" u0 fs)
      omega
    refine ⟨.ref a, rfl, a, c 3, dx, _, .ref t, rfl, upd_same, cl, Z.noA (show 3 < 35 by decide) (by decide), lp2, t, _, 2, u2, rfl, rfl, SqT.of ht2, atI_nat (j := 2) rfl, .ref a, rfl, a, c 3, dx, _, rfl, upd_same, cl, Z.noA (show 3 < 35 by decide) (by decide), few2, ?_⟩
    have kp3 : ∀ b o, b ≠ a → H b = some o → (upd (upd (upd H1 a (.ins (c 3) dx (putF "number" u0 fs))) a (.ins (c 3) dx (putF "ranked" u1 (putF "number" u0 fs)))) a (.ins (c 3) dx (putF "kept" u2 (putF "ranked" u1 (putF "number" u0 fs))))) b = some o := fun b o n e => (upd_ne n).trans (kp2 b o n e)
    have ht3 : (upd (upd (upd H1 a (.ins (c 3) dx (putF "number" u0 fs))) a (.ins (c 3) dx (putF "ranked" u1 (putF "number" u0 fs)))) a (.ins (c 3) dx (putF "kept" u2 (putF "ranked" u1 (putF "number" u0 fs))))) t = some (.tup [u0, u1, u2]) := (upd_ne (ne_of_none2 ht2 upd_same)).trans ht2
    have lp3 : (putF "kept" u2 (putF "ranked" u1 (putF "number" u0 fs))).lookup ("parts" : Str) = some (.ref t) := (look_ne (by decide) _ _).trans lp2
    have dk3 : DK (upd (upd H1 a (.ins (c 3) dx (putF "number" u0 fs))) a (.ins (c 3) dx (putF "ranked" u1 (putF "number" u0 fs)))) (upd (upd (upd H1 a (.ins (c 3) dx (putF "number" u0 fs))) a (.ins (c 3) dx (putF "ranked" u1 (putF "number" u0 fs)))) a (.ins (c 3) dx (putF "kept" u2 (putF "ranked" u1 (putF "number" u0 fs))))) := DK.ins upd_same fun b o n e => (upd_ne n).trans e
    refine q _ kp3 ⟨[u0, u1, u2], t, ⟨dx, _, upd_same, ?_, fun p hp => ?_⟩, ht3, h6.keep ((dk1.trans dk2).trans dk3)⟩
    · have e0 := putF_len ("number" : Str) u0 fs
      have e1 := putF_len ("ranked" : Str) u1 (putF "number" u0 fs)
      have e2 := putF_len ("kept" : Str) u2 (putF "ranked" u1 (putF "number" u0 fs))
      omega
    · simp only [List.cons_append, List.nil_append, List.zip_cons_cons, List.zip_nil_right, List.zip_nil_left, List.mem_cons, List.not_mem_nil, or_false] at hp
      rcases hp with rfl | rfl | rfl | rfl | rfl <;> dsimp only <;> repeat (first | exact look_same _ _ _ | exact h3 | exact h4 | refine (look_ne (by decide) _ _).trans ?_)
theorem nsS4 : NScope ["self", "pairs", "__class__"] ["self", "pairs"] ["__class__"] (C8.fnScope (mS 4 0)) := nscope_by (by decide +kernel)
theorem fn_sub4 (Z : Tz P K mg c f cc cda fE fB) (G_fixed : C8.Cal P w K mg base 9 "fixed" (spF 9) []) : ∃ (kV doc pm : Value) (an : Option Addr) (ct : Value), FnOk P w K mg base C8.CX0 12 (f 4) (PySem.W.fnX "__init__" (nmP 4 ++ ".__init__") (C8.fnArgs (mS 4 0)) (C8.fnBody (mS 4 0)) (C8.fnScope (mS 4 0)) [("__class__", cc 4)] .none kV doc pm an (.ref (cda 4)) ct) ["self", "pairs"] (spSub (c 4) "shared" ["pairs"]) := by
  have S := Z.sf 4 (by decide) (by decide)
  have T : SupT (nfP 4 (cc 4) (cda 4)) := supT_of (show (((C8.fnArgs (mS 4 0)).posonlyargs ++ (C8.fnArgs (mS 4 0)).args).head?.map (·.arg) = some "self" ∧ (C8.fnScope (mS 4 0)).names.lookup ("super" : Str) = some .globalImplicit ∧ (C8.fnScope (mS 4 0)).names.lookup ("__class__" : Str) = some .free ∧ (C8.fnScope (mS 4 0)).names.lookup ("self" : Str) = some .local) by decide +kernel)
  have C := Z.sc 4 4 (by decide) (by decide) (by decide) (by decide)
  have F0 := fn_pi (w := w) (base := base) Z G_fixed (show 4 < 35 by decide)
  have cl := Z.cls (show 4 < 35 by decide)
  refine fn_supOk (P := P) (w := w) (mg := mg) (base := base) (N := ["self", "pairs", "__class__"]) (k := 11) (ps := ["self", "pairs"]) (st := (C8.fnBody (mS 4 0)).getD 0 (.Pass ⟨0, 0, 0, 0⟩)) (rest := (C8.fnBody (mS 4 0)).drop 1) (sp := spSub (c 4) "shared" ["pairs"]) S nsS4 (by rfl) (by rfl) (fun vs H Q E h => ?_) ?_
  · obtain ⟨a, dx, ps, ds, rfl, hl, _⟩ := h
    exact congrArg Nat.succ hl
  · intro A outer s H vs Q E hr h hN
    obtain ⟨a, dx, ps, ds, rfl, hl, ha, hd, hs, q⟩ := h
    obtain ⟨p0, rfl⟩ : ∃ p0, ps = [p0] := by
      match ps, hl with
      | [p0], _ => exact ⟨p0, rfl⟩
    refine ⟨_, (pss_one (ps_fld (pv 0) (pe_ix ix_tup (pe_fld (pv 0) rfl) pe_int (fun _ _ => rfl)) rfl)), fun s1 I => ?_⟩
    refine sup_stmt (X := ncx C8.CX0 P w K mg base ["self", "pairs", "__class__"] (nfP 4 (cc 4) (cda 4)) (f 4) A outer s H E) (i := 0) (a := a) (C := c 4) (sup_ctx S T) C F0 (hr.mono (show 10 ≤ 11 by decide)) (pa_cons pe_str (pa_cons (pv 1) pa_nil)) I hN rfl ha (by decide) (by rfl) (by rfl) (by rfl) (by rfl) (by rfl) ?_ fun H' s' I' hq => ⟨rfl, H', I', hq⟩
    intro q0 nq
    have Sq := same_new nq (o := .met (f 0) a)
    refine ⟨p0, rfl, upd_same, a, dx, "shared", [p0], ds, rfl, Sq _ _ ha, hd.same Sq, hs, by show 1 ≤ 5; decide, fun us t fs H1 kp h1 h2 h3 h4 h5 h6 => ?_⟩
    have hul : us.length = 1 := by
      rw [h6.len, List.length_map, ← hd.len]
      rfl
    obtain ⟨u0, rfl⟩ : ∃ u0, us = [u0] := by
      match us, hul with
      | [u0], _ => exact ⟨u0, rfl⟩
    have kp0 : ∀ b o, b ≠ a → H b = some o → H1 b = some o := fun b o n e => kp b o n (Sq _ _ e)
    have few0 : List.length fs < 1000 := by
      omega
    refine ⟨.ref a, rfl, a, c 4, dx, _, .ref t, rfl, h1, cl, Z.noA (show 4 < 35 by decide) (by decide), h4, t, _, 0, u0, rfl, rfl, SqT.of h5, atI_nat (j := 0) rfl, .ref a, rfl, a, c 4, dx, _, rfl, h1, cl, Z.noA (show 4 < 35 by decide) (by decide), few0, ?_⟩
    have kp1 : ∀ b o, b ≠ a → H b = some o → (upd H1 a (.ins (c 4) dx (putF "pairs" u0 fs))) b = some o := fun b o n e => (upd_ne n).trans (kp0 b o n e)
    have ht1 : (upd H1 a (.ins (c 4) dx (putF "pairs" u0 fs))) t = some (.tup [u0]) := (upd_ne (ne_of_none2 h5 h1)).trans h5
    have lp1 : (putF "pairs" u0 fs).lookup ("parts" : Str) = some (.ref t) := (look_ne (by decide) _ _).trans h4
    have dk1 : DK H1 (upd H1 a (.ins (c 4) dx (putF "pairs" u0 fs))) := DK.ins h1 fun b o n e => (upd_ne n).trans e
    refine q _ kp1 ⟨[u0], t, ⟨dx, _, upd_same, ?_, fun p hp => ?_⟩, ht1, h6.keep dk1⟩
    · have e0 := putF_len ("pairs" : Str) u0 fs
      omega
    · simp only [List.cons_append, List.nil_append, List.zip_cons_cons, List.zip_nil_right, List.zip_nil_left, List.mem_cons, List.not_mem_nil, or_false] at hp
      rcases hp with rfl | rfl | rfl <;> dsimp only <;> repeat (first | exact look_same _ _ _ | exact h3 | exact h4 | refine (look_ne (by decide) _ _).trans ?_)
theorem nsS5 : NScope ["self", "row", "way", "sets", "__class__"] ["self", "row", "way", "sets"] ["__class__"] (C8.fnScope (mS 5 0)) := nscope_by (by decide +kernel)
theorem fn_sub5 (Z : Tz P K mg c f cc cda fE fB) (G_fixed : C8.Cal P w K mg base 9 "fixed" (spF 9) []) : ∃ (kV doc pm : Value) (an : Option Addr) (ct : Value), FnOk P w K mg base C8.CX0 12 (f 5) (PySem.W.fnX "__init__" (nmP 5 ++ ".__init__") (C8.fnArgs (mS 5 0)) (C8.fnBody (mS 5 0)) (C8.fnScope (mS 5 0)) [("__class__", cc 5)] .none kV doc pm an (.ref (cda 5)) ct) ["self", "row", "way", "sets"] (spSub (c 5) "parting" ["row", "way", "sets"]) := by
  have S := Z.sf 5 (by decide) (by decide)
  have T : SupT (nfP 5 (cc 5) (cda 5)) := supT_of (show (((C8.fnArgs (mS 5 0)).posonlyargs ++ (C8.fnArgs (mS 5 0)).args).head?.map (·.arg) = some "self" ∧ (C8.fnScope (mS 5 0)).names.lookup ("super" : Str) = some .globalImplicit ∧ (C8.fnScope (mS 5 0)).names.lookup ("__class__" : Str) = some .free ∧ (C8.fnScope (mS 5 0)).names.lookup ("self" : Str) = some .local) by decide +kernel)
  have C := Z.sc 5 5 (by decide) (by decide) (by decide) (by decide)
  have F0 := fn_den (w := w) (base := base) Z G_fixed (show 5 < 35 by decide) (by decide)
  have cl := Z.cls (show 5 < 35 by decide)
  refine fn_supOk (P := P) (w := w) (mg := mg) (base := base) (N := ["self", "row", "way", "sets", "__class__"]) (k := 11) (ps := ["self", "row", "way", "sets"]) (st := (C8.fnBody (mS 5 0)).getD 0 (.Pass ⟨0, 0, 0, 0⟩)) (rest := (C8.fnBody (mS 5 0)).drop 1) (sp := spSub (c 5) "parting" ["row", "way", "sets"]) S nsS5 (by rfl) (by rfl) (fun vs H Q E h => ?_) ?_
  · obtain ⟨a, dx, ps, ds, rfl, hl, _⟩ := h
    exact congrArg Nat.succ hl
  · intro A outer s H vs Q E hr h hN
    obtain ⟨a, dx, ps, ds, rfl, hl, ha, hd, hs, q⟩ := h
    obtain ⟨p0, p1, p2, rfl⟩ : ∃ p0 p1 p2, ps = [p0, p1, p2] := by
      match ps, hl with
      | [p0, p1, p2], _ => exact ⟨p0, p1, p2, rfl⟩
    refine ⟨_, (pss_cons (ps_fld (pv 0) (pe_ix ix_tup (pe_fld (pv 0) rfl) pe_int (fun _ _ => rfl)) rfl) (pss_cons (ps_fld (pv 0) (pe_ix ix_tup (pe_fld (pv 0) rfl) pe_int (fun _ _ => rfl)) rfl) (pss_one (ps_fld (pv 0) (pe_ix ix_tup (pe_fld (pv 0) rfl) pe_int (fun _ _ => rfl)) rfl)))), fun s1 I => ?_⟩
    refine sup_stmt (X := ncx C8.CX0 P w K mg base ["self", "row", "way", "sets", "__class__"] (nfP 5 (cc 5) (cda 5)) (f 5) A outer s H E) (i := 0) (a := a) (C := c 5) (sup_ctx S T) C F0 (hr.mono (show 11 ≤ 11 by decide)) (pa_cons pe_str (pa_cons (pv 1) (pa_cons (pv 2) (pa_cons (pv 3) pa_nil)))) I hN rfl ha (by decide) (by rfl) (by rfl) (by rfl) (by rfl) (by rfl) ?_ fun H' s' I' hq => ⟨rfl, H', I', hq⟩
    intro q0 nq
    have Sq := same_new nq (o := .met (f 1) a)
    refine ⟨p0, rfl, p1, rfl, p2, rfl, upd_same, a, dx, "parting", [p0, p1, p2], ds, rfl, Sq _ _ ha, hd.same Sq, hs, by show 3 ≤ 5; decide, fun us t fs H1 kp h1 h2 h3 h4 h5 h6 => ?_⟩
    have hul : us.length = 3 := by
      rw [h6.len, List.length_map, ← hd.len]
      rfl
    obtain ⟨u0, u1, u2, rfl⟩ : ∃ u0 u1 u2, us = [u0, u1, u2] := by
      match us, hul with
      | [u0, u1, u2], _ => exact ⟨u0, u1, u2, rfl⟩
    have kp0 : ∀ b o, b ≠ a → H b = some o → H1 b = some o := fun b o n e => kp b o n (Sq _ _ e)
    have few0 : List.length fs < 1000 := by
      omega
    refine ⟨.ref a, rfl, a, c 5, dx, _, .ref t, rfl, h1, cl, Z.noA (show 5 < 35 by decide) (by decide), h4, t, _, 0, u0, rfl, rfl, SqT.of h5, atI_nat (j := 0) rfl, .ref a, rfl, a, c 5, dx, _, rfl, h1, cl, Z.noA (show 5 < 35 by decide) (by decide), few0, ?_⟩
    have kp1 : ∀ b o, b ≠ a → H b = some o → (upd H1 a (.ins (c 5) dx (putF "row" u0 fs))) b = some o := fun b o n e => (upd_ne n).trans (kp0 b o n e)
    have ht1 : (upd H1 a (.ins (c 5) dx (putF "row" u0 fs))) t = some (.tup [u0, u1, u2]) := (upd_ne (ne_of_none2 h5 h1)).trans h5
    have lp1 : (putF "row" u0 fs).lookup ("parts" : Str) = some (.ref t) := (look_ne (by decide) _ _).trans h4
    have dk1 : DK H1 (upd H1 a (.ins (c 5) dx (putF "row" u0 fs))) := DK.ins h1 fun b o n e => (upd_ne n).trans e
    have few1 : List.length (putF "row" u0 fs) < 1000 := by
      have e0 := putF_len ("row" : Str) u0 fs
      omega
    refine ⟨.ref a, rfl, a, c 5, dx, _, .ref t, rfl, upd_same, cl, Z.noA (show 5 < 35 by decide) (by decide), lp1, t, _, 1, u1, rfl, rfl, SqT.of ht1, atI_nat (j := 1) rfl, .ref a, rfl, a, c 5, dx, _, rfl, upd_same, cl, Z.noA (show 5 < 35 by decide) (by decide), few1, ?_⟩
    have kp2 : ∀ b o, b ≠ a → H b = some o → (upd (upd H1 a (.ins (c 5) dx (putF "row" u0 fs))) a (.ins (c 5) dx (putF "way" u1 (putF "row" u0 fs)))) b = some o := fun b o n e => (upd_ne n).trans (kp1 b o n e)
    have ht2 : (upd (upd H1 a (.ins (c 5) dx (putF "row" u0 fs))) a (.ins (c 5) dx (putF "way" u1 (putF "row" u0 fs)))) t = some (.tup [u0, u1, u2]) := (upd_ne (ne_of_none2 ht1 upd_same)).trans ht1
    have lp2 : (putF "way" u1 (putF "row" u0 fs)).lookup ("parts" : Str) = some (.ref t) := (look_ne (by decide) _ _).trans lp1
    have dk2 : DK (upd H1 a (.ins (c 5) dx (putF "row" u0 fs))) (upd (upd H1 a (.ins (c 5) dx (putF "row" u0 fs))) a (.ins (c 5) dx (putF "way" u1 (putF "row" u0 fs)))) := DK.ins upd_same fun b o n e => (upd_ne n).trans e
    have few2 : List.length (putF "way" u1 (putF "row" u0 fs)) < 1000 := by
      have e0 := putF_len ("row" : Str) u0 fs
      have e1 := putF_len ("way" : Str) u1 (putF "row" u0 fs)
      omega
    refine ⟨.ref a, rfl, a, c 5, dx, _, .ref t, rfl, upd_same, cl, Z.noA (show 5 < 35 by decide) (by decide), lp2, t, _, 2, u2, rfl, rfl, SqT.of ht2, atI_nat (j := 2) rfl, .ref a, rfl, a, c 5, dx, _, rfl, upd_same, cl, Z.noA (show 5 < 35 by decide) (by decide), few2, ?_⟩
    have kp3 : ∀ b o, b ≠ a → H b = some o → (upd (upd (upd H1 a (.ins (c 5) dx (putF "row" u0 fs))) a (.ins (c 5) dx (putF "way" u1 (putF "row" u0 fs)))) a (.ins (c 5) dx (putF "sets" u2 (putF "way" u1 (putF "row" u0 fs))))) b = some o := fun b o n e => (upd_ne n).trans (kp2 b o n e)
    have ht3 : (upd (upd (upd H1 a (.ins (c 5) dx (putF "row" u0 fs))) a (.ins (c 5) dx (putF "way" u1 (putF "row" u0 fs)))) a (.ins (c 5) dx (putF "sets" u2 (putF "way" u1 (putF "row" u0 fs))))) t = some (.tup [u0, u1, u2]) := (upd_ne (ne_of_none2 ht2 upd_same)).trans ht2
    have lp3 : (putF "sets" u2 (putF "way" u1 (putF "row" u0 fs))).lookup ("parts" : Str) = some (.ref t) := (look_ne (by decide) _ _).trans lp2
    have dk3 : DK (upd (upd H1 a (.ins (c 5) dx (putF "row" u0 fs))) a (.ins (c 5) dx (putF "way" u1 (putF "row" u0 fs)))) (upd (upd (upd H1 a (.ins (c 5) dx (putF "row" u0 fs))) a (.ins (c 5) dx (putF "way" u1 (putF "row" u0 fs)))) a (.ins (c 5) dx (putF "sets" u2 (putF "way" u1 (putF "row" u0 fs))))) := DK.ins upd_same fun b o n e => (upd_ne n).trans e
    refine q _ kp3 ⟨[u0, u1, u2], t, ⟨dx, _, upd_same, ?_, fun p hp => ?_⟩, ht3, h6.keep ((dk1.trans dk2).trans dk3)⟩
    · have e0 := putF_len ("row" : Str) u0 fs
      have e1 := putF_len ("way" : Str) u1 (putF "row" u0 fs)
      have e2 := putF_len ("sets" : Str) u2 (putF "way" u1 (putF "row" u0 fs))
      omega
    · simp only [List.cons_append, List.nil_append, List.zip_cons_cons, List.zip_nil_right, List.zip_nil_left, List.mem_cons, List.not_mem_nil, or_false] at hp
      rcases hp with rfl | rfl | rfl | rfl | rfl <;> dsimp only <;> repeat (first | exact look_same _ _ _ | exact h3 | exact h4 | refine (look_ne (by decide) _ _).trans ?_)
theorem nsS6 : NScope ["self", "spots", "__class__"] ["self", "spots"] ["__class__"] (C8.fnScope (mS 6 0)) := nscope_by (by decide +kernel)
theorem fn_sub6 (Z : Tz P K mg c f cc cda fE fB) (G_fixed : C8.Cal P w K mg base 9 "fixed" (spF 9) []) : ∃ (kV doc pm : Value) (an : Option Addr) (ct : Value), FnOk P w K mg base C8.CX0 12 (f 6) (PySem.W.fnX "__init__" (nmP 6 ++ ".__init__") (C8.fnArgs (mS 6 0)) (C8.fnBody (mS 6 0)) (C8.fnScope (mS 6 0)) [("__class__", cc 6)] .none kV doc pm an (.ref (cda 6)) ct) ["self", "spots"] (spSub (c 6) "serves" ["spots"]) := by
  have S := Z.sf 6 (by decide) (by decide)
  have T : SupT (nfP 6 (cc 6) (cda 6)) := supT_of (show (((C8.fnArgs (mS 6 0)).posonlyargs ++ (C8.fnArgs (mS 6 0)).args).head?.map (·.arg) = some "self" ∧ (C8.fnScope (mS 6 0)).names.lookup ("super" : Str) = some .globalImplicit ∧ (C8.fnScope (mS 6 0)).names.lookup ("__class__" : Str) = some .free ∧ (C8.fnScope (mS 6 0)).names.lookup ("self" : Str) = some .local) by decide +kernel)
  have C := Z.sc 6 6 (by decide) (by decide) (by decide) (by decide)
  have F0 := fn_pi (w := w) (base := base) Z G_fixed (show 6 < 35 by decide)
  have cl := Z.cls (show 6 < 35 by decide)
  refine fn_supOk (P := P) (w := w) (mg := mg) (base := base) (N := ["self", "spots", "__class__"]) (k := 11) (ps := ["self", "spots"]) (st := (C8.fnBody (mS 6 0)).getD 0 (.Pass ⟨0, 0, 0, 0⟩)) (rest := (C8.fnBody (mS 6 0)).drop 1) (sp := spSub (c 6) "serves" ["spots"]) S nsS6 (by rfl) (by rfl) (fun vs H Q E h => ?_) ?_
  · obtain ⟨a, dx, ps, ds, rfl, hl, _⟩ := h
    exact congrArg Nat.succ hl
  · intro A outer s H vs Q E hr h hN
    obtain ⟨a, dx, ps, ds, rfl, hl, ha, hd, hs, q⟩ := h
    obtain ⟨p0, rfl⟩ : ∃ p0, ps = [p0] := by
      match ps, hl with
      | [p0], _ => exact ⟨p0, rfl⟩
    refine ⟨_, (pss_one (ps_fld (pv 0) (pe_ix ix_tup (pe_fld (pv 0) rfl) pe_int (fun _ _ => rfl)) rfl)), fun s1 I => ?_⟩
    refine sup_stmt (X := ncx C8.CX0 P w K mg base ["self", "spots", "__class__"] (nfP 6 (cc 6) (cda 6)) (f 6) A outer s H E) (i := 0) (a := a) (C := c 6) (sup_ctx S T) C F0 (hr.mono (show 10 ≤ 11 by decide)) (pa_cons pe_str (pa_cons (pv 1) pa_nil)) I hN rfl ha (by decide) (by rfl) (by rfl) (by rfl) (by rfl) (by rfl) ?_ fun H' s' I' hq => ⟨rfl, H', I', hq⟩
    intro q0 nq
    have Sq := same_new nq (o := .met (f 0) a)
    refine ⟨p0, rfl, upd_same, a, dx, "serves", [p0], ds, rfl, Sq _ _ ha, hd.same Sq, hs, by show 1 ≤ 5; decide, fun us t fs H1 kp h1 h2 h3 h4 h5 h6 => ?_⟩
    have hul : us.length = 1 := by
      rw [h6.len, List.length_map, ← hd.len]
      rfl
    obtain ⟨u0, rfl⟩ : ∃ u0, us = [u0] := by
      match us, hul with
      | [u0], _ => exact ⟨u0, rfl⟩
    have kp0 : ∀ b o, b ≠ a → H b = some o → H1 b = some o := fun b o n e => kp b o n (Sq _ _ e)
    have few0 : List.length fs < 1000 := by
      omega
    refine ⟨.ref a, rfl, a, c 6, dx, _, .ref t, rfl, h1, cl, Z.noA (show 6 < 35 by decide) (by decide), h4, t, _, 0, u0, rfl, rfl, SqT.of h5, atI_nat (j := 0) rfl, .ref a, rfl, a, c 6, dx, _, rfl, h1, cl, Z.noA (show 6 < 35 by decide) (by decide), few0, ?_⟩
    have kp1 : ∀ b o, b ≠ a → H b = some o → (upd H1 a (.ins (c 6) dx (putF "spots" u0 fs))) b = some o := fun b o n e => (upd_ne n).trans (kp0 b o n e)
    have ht1 : (upd H1 a (.ins (c 6) dx (putF "spots" u0 fs))) t = some (.tup [u0]) := (upd_ne (ne_of_none2 h5 h1)).trans h5
    have lp1 : (putF "spots" u0 fs).lookup ("parts" : Str) = some (.ref t) := (look_ne (by decide) _ _).trans h4
    have dk1 : DK H1 (upd H1 a (.ins (c 6) dx (putF "spots" u0 fs))) := DK.ins h1 fun b o n e => (upd_ne n).trans e
    refine q _ kp1 ⟨[u0], t, ⟨dx, _, upd_same, ?_, fun p hp => ?_⟩, ht1, h6.keep dk1⟩
    · have e0 := putF_len ("spots" : Str) u0 fs
      omega
    · simp only [List.cons_append, List.nil_append, List.zip_cons_cons, List.zip_nil_right, List.zip_nil_left, List.mem_cons, List.not_mem_nil, or_false] at hp
      rcases hp with rfl | rfl | rfl <;> dsimp only <;> repeat (first | exact look_same _ _ _ | exact h3 | exact h4 | refine (look_ne (by decide) _ _).trans ?_)
theorem nsS7 : NScope ["self", "triples", "__class__"] ["self", "triples"] ["__class__"] (C8.fnScope (mS 7 0)) := nscope_by (by decide +kernel)
theorem fn_sub7 (Z : Tz P K mg c f cc cda fE fB) (G_fixed : C8.Cal P w K mg base 9 "fixed" (spF 9) []) : ∃ (kV doc pm : Value) (an : Option Addr) (ct : Value), FnOk P w K mg base C8.CX0 12 (f 7) (PySem.W.fnX "__init__" (nmP 7 ++ ".__init__") (C8.fnArgs (mS 7 0)) (C8.fnBody (mS 7 0)) (C8.fnScope (mS 7 0)) [("__class__", cc 7)] .none kV doc pm an (.ref (cda 7)) ct) ["self", "triples"] (spSub (c 7) "holds" ["triples"]) := by
  have S := Z.sf 7 (by decide) (by decide)
  have T : SupT (nfP 7 (cc 7) (cda 7)) := supT_of (show (((C8.fnArgs (mS 7 0)).posonlyargs ++ (C8.fnArgs (mS 7 0)).args).head?.map (·.arg) = some "self" ∧ (C8.fnScope (mS 7 0)).names.lookup ("super" : Str) = some .globalImplicit ∧ (C8.fnScope (mS 7 0)).names.lookup ("__class__" : Str) = some .free ∧ (C8.fnScope (mS 7 0)).names.lookup ("self" : Str) = some .local) by decide +kernel)
  have C := Z.sc 7 7 (by decide) (by decide) (by decide) (by decide)
  have F0 := fn_pi (w := w) (base := base) Z G_fixed (show 7 < 35 by decide)
  have cl := Z.cls (show 7 < 35 by decide)
  refine fn_supOk (P := P) (w := w) (mg := mg) (base := base) (N := ["self", "triples", "__class__"]) (k := 11) (ps := ["self", "triples"]) (st := (C8.fnBody (mS 7 0)).getD 0 (.Pass ⟨0, 0, 0, 0⟩)) (rest := (C8.fnBody (mS 7 0)).drop 1) (sp := spSub (c 7) "holds" ["triples"]) S nsS7 (by rfl) (by rfl) (fun vs H Q E h => ?_) ?_
  · obtain ⟨a, dx, ps, ds, rfl, hl, _⟩ := h
    exact congrArg Nat.succ hl
  · intro A outer s H vs Q E hr h hN
    obtain ⟨a, dx, ps, ds, rfl, hl, ha, hd, hs, q⟩ := h
    obtain ⟨p0, rfl⟩ : ∃ p0, ps = [p0] := by
      match ps, hl with
      | [p0], _ => exact ⟨p0, rfl⟩
    refine ⟨_, (pss_one (ps_fld (pv 0) (pe_ix ix_tup (pe_fld (pv 0) rfl) pe_int (fun _ _ => rfl)) rfl)), fun s1 I => ?_⟩
    refine sup_stmt (X := ncx C8.CX0 P w K mg base ["self", "triples", "__class__"] (nfP 7 (cc 7) (cda 7)) (f 7) A outer s H E) (i := 0) (a := a) (C := c 7) (sup_ctx S T) C F0 (hr.mono (show 10 ≤ 11 by decide)) (pa_cons pe_str (pa_cons (pv 1) pa_nil)) I hN rfl ha (by decide) (by rfl) (by rfl) (by rfl) (by rfl) (by rfl) ?_ fun H' s' I' hq => ⟨rfl, H', I', hq⟩
    intro q0 nq
    have Sq := same_new nq (o := .met (f 0) a)
    refine ⟨p0, rfl, upd_same, a, dx, "holds", [p0], ds, rfl, Sq _ _ ha, hd.same Sq, hs, by show 1 ≤ 5; decide, fun us t fs H1 kp h1 h2 h3 h4 h5 h6 => ?_⟩
    have hul : us.length = 1 := by
      rw [h6.len, List.length_map, ← hd.len]
      rfl
    obtain ⟨u0, rfl⟩ : ∃ u0, us = [u0] := by
      match us, hul with
      | [u0], _ => exact ⟨u0, rfl⟩
    have kp0 : ∀ b o, b ≠ a → H b = some o → H1 b = some o := fun b o n e => kp b o n (Sq _ _ e)
    have few0 : List.length fs < 1000 := by
      omega
    refine ⟨.ref a, rfl, a, c 7, dx, _, .ref t, rfl, h1, cl, Z.noA (show 7 < 35 by decide) (by decide), h4, t, _, 0, u0, rfl, rfl, SqT.of h5, atI_nat (j := 0) rfl, .ref a, rfl, a, c 7, dx, _, rfl, h1, cl, Z.noA (show 7 < 35 by decide) (by decide), few0, ?_⟩
    have kp1 : ∀ b o, b ≠ a → H b = some o → (upd H1 a (.ins (c 7) dx (putF "triples" u0 fs))) b = some o := fun b o n e => (upd_ne n).trans (kp0 b o n e)
    have ht1 : (upd H1 a (.ins (c 7) dx (putF "triples" u0 fs))) t = some (.tup [u0]) := (upd_ne (ne_of_none2 h5 h1)).trans h5
    have lp1 : (putF "triples" u0 fs).lookup ("parts" : Str) = some (.ref t) := (look_ne (by decide) _ _).trans h4
    have dk1 : DK H1 (upd H1 a (.ins (c 7) dx (putF "triples" u0 fs))) := DK.ins h1 fun b o n e => (upd_ne n).trans e
    refine q _ kp1 ⟨[u0], t, ⟨dx, _, upd_same, ?_, fun p hp => ?_⟩, ht1, h6.keep dk1⟩
    · have e0 := putF_len ("triples" : Str) u0 fs
      omega
    · simp only [List.cons_append, List.nil_append, List.zip_cons_cons, List.zip_nil_right, List.zip_nil_left, List.mem_cons, List.not_mem_nil, or_false] at hp
      rcases hp with rfl | rfl | rfl <;> dsimp only <;> repeat (first | exact look_same _ _ _ | exact h3 | exact h4 | refine (look_ne (by decide) _ _).trans ?_)
theorem nsS8 : NScope ["self", "page", "sight", "states", "__class__"] ["self", "page", "sight", "states"] ["__class__"] (C8.fnScope (mS 8 0)) := nscope_by (by decide +kernel)
theorem fn_sub8 (Z : Tz P K mg c f cc cda fE fB) (G_fixed : C8.Cal P w K mg base 9 "fixed" (spF 9) []) : ∃ (kV doc pm : Value) (an : Option Addr) (ct : Value), FnOk P w K mg base C8.CX0 12 (f 8) (PySem.W.fnX "__init__" (nmP 8 ++ ".__init__") (C8.fnArgs (mS 8 0)) (C8.fnBody (mS 8 0)) (C8.fnScope (mS 8 0)) [("__class__", cc 8)] .none kV doc pm an (.ref (cda 8)) ct) ["self", "page", "sight", "states"] (spSub (c 8) "lacks" ["page", "sight", "states"]) := by
  have S := Z.sf 8 (by decide) (by decide)
  have T : SupT (nfP 8 (cc 8) (cda 8)) := supT_of (show (((C8.fnArgs (mS 8 0)).posonlyargs ++ (C8.fnArgs (mS 8 0)).args).head?.map (·.arg) = some "self" ∧ (C8.fnScope (mS 8 0)).names.lookup ("super" : Str) = some .globalImplicit ∧ (C8.fnScope (mS 8 0)).names.lookup ("__class__" : Str) = some .free ∧ (C8.fnScope (mS 8 0)).names.lookup ("self" : Str) = some .local) by decide +kernel)
  have C := Z.sc 8 8 (by decide) (by decide) (by decide) (by decide)
  have F0 := fn_den (w := w) (base := base) Z G_fixed (show 8 < 35 by decide) (by decide)
  have cl := Z.cls (show 8 < 35 by decide)
  refine fn_supOk (P := P) (w := w) (mg := mg) (base := base) (N := ["self", "page", "sight", "states", "__class__"]) (k := 11) (ps := ["self", "page", "sight", "states"]) (st := (C8.fnBody (mS 8 0)).getD 0 (.Pass ⟨0, 0, 0, 0⟩)) (rest := (C8.fnBody (mS 8 0)).drop 1) (sp := spSub (c 8) "lacks" ["page", "sight", "states"]) S nsS8 (by rfl) (by rfl) (fun vs H Q E h => ?_) ?_
  · obtain ⟨a, dx, ps, ds, rfl, hl, _⟩ := h
    exact congrArg Nat.succ hl
  · intro A outer s H vs Q E hr h hN
    obtain ⟨a, dx, ps, ds, rfl, hl, ha, hd, hs, q⟩ := h
    obtain ⟨p0, p1, p2, rfl⟩ : ∃ p0 p1 p2, ps = [p0, p1, p2] := by
      match ps, hl with
      | [p0, p1, p2], _ => exact ⟨p0, p1, p2, rfl⟩
    refine ⟨_, (pss_cons (ps_fld (pv 0) (pe_ix ix_tup (pe_fld (pv 0) rfl) pe_int (fun _ _ => rfl)) rfl) (pss_cons (ps_fld (pv 0) (pe_ix ix_tup (pe_fld (pv 0) rfl) pe_int (fun _ _ => rfl)) rfl) (pss_one (ps_fld (pv 0) (pe_ix ix_tup (pe_fld (pv 0) rfl) pe_int (fun _ _ => rfl)) rfl)))), fun s1 I => ?_⟩
    refine sup_stmt (X := ncx C8.CX0 P w K mg base ["self", "page", "sight", "states", "__class__"] (nfP 8 (cc 8) (cda 8)) (f 8) A outer s H E) (i := 0) (a := a) (C := c 8) (sup_ctx S T) C F0 (hr.mono (show 11 ≤ 11 by decide)) (pa_cons pe_str (pa_cons (pv 1) (pa_cons (pv 2) (pa_cons (pv 3) pa_nil)))) I hN rfl ha (by decide) (by rfl) (by rfl) (by rfl) (by rfl) (by rfl) ?_ fun H' s' I' hq => ⟨rfl, H', I', hq⟩
    intro q0 nq
    have Sq := same_new nq (o := .met (f 1) a)
    refine ⟨p0, rfl, p1, rfl, p2, rfl, upd_same, a, dx, "lacks", [p0, p1, p2], ds, rfl, Sq _ _ ha, hd.same Sq, hs, by show 3 ≤ 5; decide, fun us t fs H1 kp h1 h2 h3 h4 h5 h6 => ?_⟩
    have hul : us.length = 3 := by
      rw [h6.len, List.length_map, ← hd.len]
      rfl
    obtain ⟨u0, u1, u2, rfl⟩ : ∃ u0 u1 u2, us = [u0, u1, u2] := by
      match us, hul with
      | [u0, u1, u2], _ => exact ⟨u0, u1, u2, rfl⟩
    have kp0 : ∀ b o, b ≠ a → H b = some o → H1 b = some o := fun b o n e => kp b o n (Sq _ _ e)
    have few0 : List.length fs < 1000 := by
      omega
    refine ⟨.ref a, rfl, a, c 8, dx, _, .ref t, rfl, h1, cl, Z.noA (show 8 < 35 by decide) (by decide), h4, t, _, 0, u0, rfl, rfl, SqT.of h5, atI_nat (j := 0) rfl, .ref a, rfl, a, c 8, dx, _, rfl, h1, cl, Z.noA (show 8 < 35 by decide) (by decide), few0, ?_⟩
    have kp1 : ∀ b o, b ≠ a → H b = some o → (upd H1 a (.ins (c 8) dx (putF "page" u0 fs))) b = some o := fun b o n e => (upd_ne n).trans (kp0 b o n e)
    have ht1 : (upd H1 a (.ins (c 8) dx (putF "page" u0 fs))) t = some (.tup [u0, u1, u2]) := (upd_ne (ne_of_none2 h5 h1)).trans h5
    have lp1 : (putF "page" u0 fs).lookup ("parts" : Str) = some (.ref t) := (look_ne (by decide) _ _).trans h4
    have dk1 : DK H1 (upd H1 a (.ins (c 8) dx (putF "page" u0 fs))) := DK.ins h1 fun b o n e => (upd_ne n).trans e
    have few1 : List.length (putF "page" u0 fs) < 1000 := by
      have e0 := putF_len ("page" : Str) u0 fs
      omega
    refine ⟨.ref a, rfl, a, c 8, dx, _, .ref t, rfl, upd_same, cl, Z.noA (show 8 < 35 by decide) (by decide), lp1, t, _, 1, u1, rfl, rfl, SqT.of ht1, atI_nat (j := 1) rfl, .ref a, rfl, a, c 8, dx, _, rfl, upd_same, cl, Z.noA (show 8 < 35 by decide) (by decide), few1, ?_⟩
    have kp2 : ∀ b o, b ≠ a → H b = some o → (upd (upd H1 a (.ins (c 8) dx (putF "page" u0 fs))) a (.ins (c 8) dx (putF "sight" u1 (putF "page" u0 fs)))) b = some o := fun b o n e => (upd_ne n).trans (kp1 b o n e)
    have ht2 : (upd (upd H1 a (.ins (c 8) dx (putF "page" u0 fs))) a (.ins (c 8) dx (putF "sight" u1 (putF "page" u0 fs)))) t = some (.tup [u0, u1, u2]) := (upd_ne (ne_of_none2 ht1 upd_same)).trans ht1
    have lp2 : (putF "sight" u1 (putF "page" u0 fs)).lookup ("parts" : Str) = some (.ref t) := (look_ne (by decide) _ _).trans lp1
    have dk2 : DK (upd H1 a (.ins (c 8) dx (putF "page" u0 fs))) (upd (upd H1 a (.ins (c 8) dx (putF "page" u0 fs))) a (.ins (c 8) dx (putF "sight" u1 (putF "page" u0 fs)))) := DK.ins upd_same fun b o n e => (upd_ne n).trans e
    have few2 : List.length (putF "sight" u1 (putF "page" u0 fs)) < 1000 := by
      have e0 := putF_len ("page" : Str) u0 fs
      have e1 := putF_len ("sight" : Str) u1 (putF "page" u0 fs)
      omega
    refine ⟨.ref a, rfl, a, c 8, dx, _, .ref t, rfl, upd_same, cl, Z.noA (show 8 < 35 by decide) (by decide), lp2, t, _, 2, u2, rfl, rfl, SqT.of ht2, atI_nat (j := 2) rfl, .ref a, rfl, a, c 8, dx, _, rfl, upd_same, cl, Z.noA (show 8 < 35 by decide) (by decide), few2, ?_⟩
    have kp3 : ∀ b o, b ≠ a → H b = some o → (upd (upd (upd H1 a (.ins (c 8) dx (putF "page" u0 fs))) a (.ins (c 8) dx (putF "sight" u1 (putF "page" u0 fs)))) a (.ins (c 8) dx (putF "states" u2 (putF "sight" u1 (putF "page" u0 fs))))) b = some o := fun b o n e => (upd_ne n).trans (kp2 b o n e)
    have ht3 : (upd (upd (upd H1 a (.ins (c 8) dx (putF "page" u0 fs))) a (.ins (c 8) dx (putF "sight" u1 (putF "page" u0 fs)))) a (.ins (c 8) dx (putF "states" u2 (putF "sight" u1 (putF "page" u0 fs))))) t = some (.tup [u0, u1, u2]) := (upd_ne (ne_of_none2 ht2 upd_same)).trans ht2
    have lp3 : (putF "states" u2 (putF "sight" u1 (putF "page" u0 fs))).lookup ("parts" : Str) = some (.ref t) := (look_ne (by decide) _ _).trans lp2
    have dk3 : DK (upd (upd H1 a (.ins (c 8) dx (putF "page" u0 fs))) a (.ins (c 8) dx (putF "sight" u1 (putF "page" u0 fs)))) (upd (upd (upd H1 a (.ins (c 8) dx (putF "page" u0 fs))) a (.ins (c 8) dx (putF "sight" u1 (putF "page" u0 fs)))) a (.ins (c 8) dx (putF "states" u2 (putF "sight" u1 (putF "page" u0 fs))))) := DK.ins upd_same fun b o n e => (upd_ne n).trans e
    refine q _ kp3 ⟨[u0, u1, u2], t, ⟨dx, _, upd_same, ?_, fun p hp => ?_⟩, ht3, h6.keep ((dk1.trans dk2).trans dk3)⟩
    · have e0 := putF_len ("page" : Str) u0 fs
      have e1 := putF_len ("sight" : Str) u1 (putF "page" u0 fs)
      have e2 := putF_len ("states" : Str) u2 (putF "sight" u1 (putF "page" u0 fs))
      omega
    · simp only [List.cons_append, List.nil_append, List.zip_cons_cons, List.zip_nil_right, List.zip_nil_left, List.mem_cons, List.not_mem_nil, or_false] at hp
      rcases hp with rfl | rfl | rfl | rfl | rfl <;> dsimp only <;> repeat (first | exact look_same _ _ _ | exact h3 | exact h4 | refine (look_ne (by decide) _ _).trans ?_)
theorem nsS9 : NScope ["self", "first", "states", "__class__"] ["self", "first", "states"] ["__class__"] (C8.fnScope (mS 9 0)) := nscope_by (by decide +kernel)
theorem fn_sub9 (Z : Tz P K mg c f cc cda fE fB) (G_fixed : C8.Cal P w K mg base 9 "fixed" (spF 9) []) : ∃ (kV doc pm : Value) (an : Option Addr) (ct : Value), FnOk P w K mg base C8.CX0 12 (f 9) (PySem.W.fnX "__init__" (nmP 9 ++ ".__init__") (C8.fnArgs (mS 9 0)) (C8.fnBody (mS 9 0)) (C8.fnScope (mS 9 0)) [("__class__", cc 9)] .none kV doc pm an (.ref (cda 9)) ct) ["self", "first", "states"] (spSub (c 9) "broken" ["first", "states"]) := by
  have S := Z.sf 9 (by decide) (by decide)
  have T : SupT (nfP 9 (cc 9) (cda 9)) := supT_of (show (((C8.fnArgs (mS 9 0)).posonlyargs ++ (C8.fnArgs (mS 9 0)).args).head?.map (·.arg) = some "self" ∧ (C8.fnScope (mS 9 0)).names.lookup ("super" : Str) = some .globalImplicit ∧ (C8.fnScope (mS 9 0)).names.lookup ("__class__" : Str) = some .free ∧ (C8.fnScope (mS 9 0)).names.lookup ("self" : Str) = some .local) by decide +kernel)
  have C := Z.sc 9 9 (by decide) (by decide) (by decide) (by decide)
  have F0 := fn_den (w := w) (base := base) Z G_fixed (show 9 < 35 by decide) (by decide)
  have cl := Z.cls (show 9 < 35 by decide)
  refine fn_supOk (P := P) (w := w) (mg := mg) (base := base) (N := ["self", "first", "states", "__class__"]) (k := 11) (ps := ["self", "first", "states"]) (st := (C8.fnBody (mS 9 0)).getD 0 (.Pass ⟨0, 0, 0, 0⟩)) (rest := (C8.fnBody (mS 9 0)).drop 1) (sp := spSub (c 9) "broken" ["first", "states"]) S nsS9 (by rfl) (by rfl) (fun vs H Q E h => ?_) ?_
  · obtain ⟨a, dx, ps, ds, rfl, hl, _⟩ := h
    exact congrArg Nat.succ hl
  · intro A outer s H vs Q E hr h hN
    obtain ⟨a, dx, ps, ds, rfl, hl, ha, hd, hs, q⟩ := h
    obtain ⟨p0, p1, rfl⟩ : ∃ p0 p1, ps = [p0, p1] := by
      match ps, hl with
      | [p0, p1], _ => exact ⟨p0, p1, rfl⟩
    refine ⟨_, (pss_cons (ps_fld (pv 0) (pe_ix ix_tup (pe_fld (pv 0) rfl) pe_int (fun _ _ => rfl)) rfl) (pss_one (ps_fld (pv 0) (pe_ix ix_tup (pe_fld (pv 0) rfl) pe_int (fun _ _ => rfl)) rfl))), fun s1 I => ?_⟩
    refine sup_stmt (X := ncx C8.CX0 P w K mg base ["self", "first", "states", "__class__"] (nfP 9 (cc 9) (cda 9)) (f 9) A outer s H E) (i := 0) (a := a) (C := c 9) (sup_ctx S T) C F0 (hr.mono (show 11 ≤ 11 by decide)) (pa_cons pe_str (pa_cons (pv 1) (pa_cons (pv 2) pa_nil))) I hN rfl ha (by decide) (by rfl) (by rfl) (by rfl) (by rfl) (by rfl) ?_ fun H' s' I' hq => ⟨rfl, H', I', hq⟩
    intro q0 nq
    have Sq := same_new nq (o := .met (f 1) a)
    refine ⟨p0, rfl, p1, rfl, upd_same, a, dx, "broken", [p0, p1], ds, rfl, Sq _ _ ha, hd.same Sq, hs, by show 2 ≤ 5; decide, fun us t fs H1 kp h1 h2 h3 h4 h5 h6 => ?_⟩
    have hul : us.length = 2 := by
      rw [h6.len, List.length_map, ← hd.len]
      rfl
    obtain ⟨u0, u1, rfl⟩ : ∃ u0 u1, us = [u0, u1] := by
      match us, hul with
      | [u0, u1], _ => exact ⟨u0, u1, rfl⟩
    have kp0 : ∀ b o, b ≠ a → H b = some o → H1 b = some o := fun b o n e => kp b o n (Sq _ _ e)
    have few0 : List.length fs < 1000 := by
      omega
    refine ⟨.ref a, rfl, a, c 9, dx, _, .ref t, rfl, h1, cl, Z.noA (show 9 < 35 by decide) (by decide), h4, t, _, 0, u0, rfl, rfl, SqT.of h5, atI_nat (j := 0) rfl, .ref a, rfl, a, c 9, dx, _, rfl, h1, cl, Z.noA (show 9 < 35 by decide) (by decide), few0, ?_⟩
    have kp1 : ∀ b o, b ≠ a → H b = some o → (upd H1 a (.ins (c 9) dx (putF "first" u0 fs))) b = some o := fun b o n e => (upd_ne n).trans (kp0 b o n e)
    have ht1 : (upd H1 a (.ins (c 9) dx (putF "first" u0 fs))) t = some (.tup [u0, u1]) := (upd_ne (ne_of_none2 h5 h1)).trans h5
    have lp1 : (putF "first" u0 fs).lookup ("parts" : Str) = some (.ref t) := (look_ne (by decide) _ _).trans h4
    have dk1 : DK H1 (upd H1 a (.ins (c 9) dx (putF "first" u0 fs))) := DK.ins h1 fun b o n e => (upd_ne n).trans e
    have few1 : List.length (putF "first" u0 fs) < 1000 := by
      have e0 := putF_len ("first" : Str) u0 fs
      omega
    refine ⟨.ref a, rfl, a, c 9, dx, _, .ref t, rfl, upd_same, cl, Z.noA (show 9 < 35 by decide) (by decide), lp1, t, _, 1, u1, rfl, rfl, SqT.of ht1, atI_nat (j := 1) rfl, .ref a, rfl, a, c 9, dx, _, rfl, upd_same, cl, Z.noA (show 9 < 35 by decide) (by decide), few1, ?_⟩
    have kp2 : ∀ b o, b ≠ a → H b = some o → (upd (upd H1 a (.ins (c 9) dx (putF "first" u0 fs))) a (.ins (c 9) dx (putF "states" u1 (putF "first" u0 fs)))) b = some o := fun b o n e => (upd_ne n).trans (kp1 b o n e)
    have ht2 : (upd (upd H1 a (.ins (c 9) dx (putF "first" u0 fs))) a (.ins (c 9) dx (putF "states" u1 (putF "first" u0 fs)))) t = some (.tup [u0, u1]) := (upd_ne (ne_of_none2 ht1 upd_same)).trans ht1
    have lp2 : (putF "states" u1 (putF "first" u0 fs)).lookup ("parts" : Str) = some (.ref t) := (look_ne (by decide) _ _).trans lp1
    have dk2 : DK (upd H1 a (.ins (c 9) dx (putF "first" u0 fs))) (upd (upd H1 a (.ins (c 9) dx (putF "first" u0 fs))) a (.ins (c 9) dx (putF "states" u1 (putF "first" u0 fs)))) := DK.ins upd_same fun b o n e => (upd_ne n).trans e
    refine q _ kp2 ⟨[u0, u1], t, ⟨dx, _, upd_same, ?_, fun p hp => ?_⟩, ht2, h6.keep (dk1.trans dk2)⟩
    · have e0 := putF_len ("first" : Str) u0 fs
      have e1 := putF_len ("states" : Str) u1 (putF "first" u0 fs)
      omega
    · simp only [List.cons_append, List.nil_append, List.zip_cons_cons, List.zip_nil_right, List.zip_nil_left, List.mem_cons, List.not_mem_nil, or_false] at hp
      rcases hp with rfl | rfl | rfl | rfl <;> dsimp only <;> repeat (first | exact look_same _ _ _ | exact h3 | exact h4 | refine (look_ne (by decide) _ _).trans ?_)
theorem nsS10 : NScope ["self", "page", "sight", "__class__"] ["self", "page", "sight"] ["__class__"] (C8.fnScope (mS 10 0)) := nscope_by (by decide +kernel)
theorem fn_sub10 (Z : Tz P K mg c f cc cda fE fB) (G_fixed : C8.Cal P w K mg base 9 "fixed" (spF 9) []) : ∃ (kV doc pm : Value) (an : Option Addr) (ct : Value), FnOk P w K mg base C8.CX0 12 (f 10) (PySem.W.fnX "__init__" (nmP 10 ++ ".__init__") (C8.fnArgs (mS 10 0)) (C8.fnBody (mS 10 0)) (C8.fnScope (mS 10 0)) [("__class__", cc 10)] .none kV doc pm an (.ref (cda 10)) ct) ["self", "page", "sight"] (spSub (c 10) "uncovered" ["page", "sight"]) := by
  have S := Z.sf 10 (by decide) (by decide)
  have T : SupT (nfP 10 (cc 10) (cda 10)) := supT_of (show (((C8.fnArgs (mS 10 0)).posonlyargs ++ (C8.fnArgs (mS 10 0)).args).head?.map (·.arg) = some "self" ∧ (C8.fnScope (mS 10 0)).names.lookup ("super" : Str) = some .globalImplicit ∧ (C8.fnScope (mS 10 0)).names.lookup ("__class__" : Str) = some .free ∧ (C8.fnScope (mS 10 0)).names.lookup ("self" : Str) = some .local) by decide +kernel)
  have C := Z.sc 10 10 (by decide) (by decide) (by decide) (by decide)
  have F0 := fn_den (w := w) (base := base) Z G_fixed (show 10 < 35 by decide) (by decide)
  have cl := Z.cls (show 10 < 35 by decide)
  refine fn_supOk (P := P) (w := w) (mg := mg) (base := base) (N := ["self", "page", "sight", "__class__"]) (k := 11) (ps := ["self", "page", "sight"]) (st := (C8.fnBody (mS 10 0)).getD 0 (.Pass ⟨0, 0, 0, 0⟩)) (rest := (C8.fnBody (mS 10 0)).drop 1) (sp := spSub (c 10) "uncovered" ["page", "sight"]) S nsS10 (by rfl) (by rfl) (fun vs H Q E h => ?_) ?_
  · obtain ⟨a, dx, ps, ds, rfl, hl, _⟩ := h
    exact congrArg Nat.succ hl
  · intro A outer s H vs Q E hr h hN
    obtain ⟨a, dx, ps, ds, rfl, hl, ha, hd, hs, q⟩ := h
    obtain ⟨p0, p1, rfl⟩ : ∃ p0 p1, ps = [p0, p1] := by
      match ps, hl with
      | [p0, p1], _ => exact ⟨p0, p1, rfl⟩
    refine ⟨_, (pss_cons (ps_fld (pv 0) (pe_ix ix_tup (pe_fld (pv 0) rfl) pe_int (fun _ _ => rfl)) rfl) (pss_one (ps_fld (pv 0) (pe_ix ix_tup (pe_fld (pv 0) rfl) pe_int (fun _ _ => rfl)) rfl))), fun s1 I => ?_⟩
    refine sup_stmt (X := ncx C8.CX0 P w K mg base ["self", "page", "sight", "__class__"] (nfP 10 (cc 10) (cda 10)) (f 10) A outer s H E) (i := 0) (a := a) (C := c 10) (sup_ctx S T) C F0 (hr.mono (show 11 ≤ 11 by decide)) (pa_cons pe_str (pa_cons (pv 1) (pa_cons (pv 2) pa_nil))) I hN rfl ha (by decide) (by rfl) (by rfl) (by rfl) (by rfl) (by rfl) ?_ fun H' s' I' hq => ⟨rfl, H', I', hq⟩
    intro q0 nq
    have Sq := same_new nq (o := .met (f 1) a)
    refine ⟨p0, rfl, p1, rfl, upd_same, a, dx, "uncovered", [p0, p1], ds, rfl, Sq _ _ ha, hd.same Sq, hs, by show 2 ≤ 5; decide, fun us t fs H1 kp h1 h2 h3 h4 h5 h6 => ?_⟩
    have hul : us.length = 2 := by
      rw [h6.len, List.length_map, ← hd.len]
      rfl
    obtain ⟨u0, u1, rfl⟩ : ∃ u0 u1, us = [u0, u1] := by
      match us, hul with
      | [u0, u1], _ => exact ⟨u0, u1, rfl⟩
    have kp0 : ∀ b o, b ≠ a → H b = some o → H1 b = some o := fun b o n e => kp b o n (Sq _ _ e)
    have few0 : List.length fs < 1000 := by
      omega
    refine ⟨.ref a, rfl, a, c 10, dx, _, .ref t, rfl, h1, cl, Z.noA (show 10 < 35 by decide) (by decide), h4, t, _, 0, u0, rfl, rfl, SqT.of h5, atI_nat (j := 0) rfl, .ref a, rfl, a, c 10, dx, _, rfl, h1, cl, Z.noA (show 10 < 35 by decide) (by decide), few0, ?_⟩
    have kp1 : ∀ b o, b ≠ a → H b = some o → (upd H1 a (.ins (c 10) dx (putF "page" u0 fs))) b = some o := fun b o n e => (upd_ne n).trans (kp0 b o n e)
    have ht1 : (upd H1 a (.ins (c 10) dx (putF "page" u0 fs))) t = some (.tup [u0, u1]) := (upd_ne (ne_of_none2 h5 h1)).trans h5
    have lp1 : (putF "page" u0 fs).lookup ("parts" : Str) = some (.ref t) := (look_ne (by decide) _ _).trans h4
    have dk1 : DK H1 (upd H1 a (.ins (c 10) dx (putF "page" u0 fs))) := DK.ins h1 fun b o n e => (upd_ne n).trans e
    have few1 : List.length (putF "page" u0 fs) < 1000 := by
      have e0 := putF_len ("page" : Str) u0 fs
      omega
    refine ⟨.ref a, rfl, a, c 10, dx, _, .ref t, rfl, upd_same, cl, Z.noA (show 10 < 35 by decide) (by decide), lp1, t, _, 1, u1, rfl, rfl, SqT.of ht1, atI_nat (j := 1) rfl, .ref a, rfl, a, c 10, dx, _, rfl, upd_same, cl, Z.noA (show 10 < 35 by decide) (by decide), few1, ?_⟩
    have kp2 : ∀ b o, b ≠ a → H b = some o → (upd (upd H1 a (.ins (c 10) dx (putF "page" u0 fs))) a (.ins (c 10) dx (putF "sight" u1 (putF "page" u0 fs)))) b = some o := fun b o n e => (upd_ne n).trans (kp1 b o n e)
    have ht2 : (upd (upd H1 a (.ins (c 10) dx (putF "page" u0 fs))) a (.ins (c 10) dx (putF "sight" u1 (putF "page" u0 fs)))) t = some (.tup [u0, u1]) := (upd_ne (ne_of_none2 ht1 upd_same)).trans ht1
    have lp2 : (putF "sight" u1 (putF "page" u0 fs)).lookup ("parts" : Str) = some (.ref t) := (look_ne (by decide) _ _).trans lp1
    have dk2 : DK (upd H1 a (.ins (c 10) dx (putF "page" u0 fs))) (upd (upd H1 a (.ins (c 10) dx (putF "page" u0 fs))) a (.ins (c 10) dx (putF "sight" u1 (putF "page" u0 fs)))) := DK.ins upd_same fun b o n e => (upd_ne n).trans e
    refine q _ kp2 ⟨[u0, u1], t, ⟨dx, _, upd_same, ?_, fun p hp => ?_⟩, ht2, h6.keep (dk1.trans dk2)⟩
    · have e0 := putF_len ("page" : Str) u0 fs
      have e1 := putF_len ("sight" : Str) u1 (putF "page" u0 fs)
      omega
    · simp only [List.cons_append, List.nil_append, List.zip_cons_cons, List.zip_nil_right, List.zip_nil_left, List.mem_cons, List.not_mem_nil, or_false] at hp
      rcases hp with rfl | rfl | rfl | rfl <;> dsimp only <;> repeat (first | exact look_same _ _ _ | exact h3 | exact h4 | refine (look_ne (by decide) _ _).trans ?_)
theorem nsS11 : NScope ["self", "number", "heights", "play", "__class__"] ["self", "number", "heights", "play"] ["__class__"] (C8.fnScope (mS 11 0)) := nscope_by (by decide +kernel)
theorem fn_sub11 (Z : Tz P K mg c f cc cda fE fB) (G_fixed : C8.Cal P w K mg base 9 "fixed" (spF 9) []) : ∃ (kV doc pm : Value) (an : Option Addr) (ct : Value), FnOk P w K mg base C8.CX0 12 (f 11) (PySem.W.fnX "__init__" (nmP 11 ++ ".__init__") (C8.fnArgs (mS 11 0)) (C8.fnBody (mS 11 0)) (C8.fnScope (mS 11 0)) [("__class__", cc 11)] .none kV doc pm an (.ref (cda 11)) ct) ["self", "number", "heights", "play"] (spSub (c 11) "delay" ["number", "heights", "play"]) := by
  have S := Z.sf 11 (by decide) (by decide)
  have T : SupT (nfP 11 (cc 11) (cda 11)) := supT_of (show (((C8.fnArgs (mS 11 0)).posonlyargs ++ (C8.fnArgs (mS 11 0)).args).head?.map (·.arg) = some "self" ∧ (C8.fnScope (mS 11 0)).names.lookup ("super" : Str) = some .globalImplicit ∧ (C8.fnScope (mS 11 0)).names.lookup ("__class__" : Str) = some .free ∧ (C8.fnScope (mS 11 0)).names.lookup ("self" : Str) = some .local) by decide +kernel)
  have C := Z.sc 11 11 (by decide) (by decide) (by decide) (by decide)
  have F0 := fn_pi (w := w) (base := base) Z G_fixed (show 11 < 35 by decide)
  have cl := Z.cls (show 11 < 35 by decide)
  refine fn_supOk (P := P) (w := w) (mg := mg) (base := base) (N := ["self", "number", "heights", "play", "__class__"]) (k := 11) (ps := ["self", "number", "heights", "play"]) (st := (C8.fnBody (mS 11 0)).getD 0 (.Pass ⟨0, 0, 0, 0⟩)) (rest := (C8.fnBody (mS 11 0)).drop 1) (sp := spSub (c 11) "delay" ["number", "heights", "play"]) S nsS11 (by rfl) (by rfl) (fun vs H Q E h => ?_) ?_
  · obtain ⟨a, dx, ps, ds, rfl, hl, _⟩ := h
    exact congrArg Nat.succ hl
  · intro A outer s H vs Q E hr h hN
    obtain ⟨a, dx, ps, ds, rfl, hl, ha, hd, hs, q⟩ := h
    obtain ⟨p0, p1, p2, rfl⟩ : ∃ p0 p1 p2, ps = [p0, p1, p2] := by
      match ps, hl with
      | [p0, p1, p2], _ => exact ⟨p0, p1, p2, rfl⟩
    refine ⟨_, (pss_cons (ps_fld (pv 0) (pe_ix ix_tup (pe_fld (pv 0) rfl) pe_int (fun _ _ => rfl)) rfl) (pss_cons (ps_fld (pv 0) (pe_ix ix_tup (pe_fld (pv 0) rfl) pe_int (fun _ _ => rfl)) rfl) (pss_one (ps_fld (pv 0) (pe_ix ix_tup (pe_fld (pv 0) rfl) pe_int (fun _ _ => rfl)) rfl)))), fun s1 I => ?_⟩
    refine sup_stmt (X := ncx C8.CX0 P w K mg base ["self", "number", "heights", "play", "__class__"] (nfP 11 (cc 11) (cda 11)) (f 11) A outer s H E) (i := 0) (a := a) (C := c 11) (sup_ctx S T) C F0 (hr.mono (show 10 ≤ 11 by decide)) (pa_cons pe_str (pa_cons (pv 1) (pa_cons (pv 2) (pa_cons (pv 3) pa_nil)))) I hN rfl ha (by decide) (by rfl) (by rfl) (by rfl) (by rfl) (by rfl) ?_ fun H' s' I' hq => ⟨rfl, H', I', hq⟩
    intro q0 nq
    have Sq := same_new nq (o := .met (f 0) a)
    refine ⟨p0, rfl, p1, rfl, p2, rfl, upd_same, a, dx, "delay", [p0, p1, p2], ds, rfl, Sq _ _ ha, hd.same Sq, hs, by show 3 ≤ 5; decide, fun us t fs H1 kp h1 h2 h3 h4 h5 h6 => ?_⟩
    have hul : us.length = 3 := by
      rw [h6.len, List.length_map, ← hd.len]
      rfl
    obtain ⟨u0, u1, u2, rfl⟩ : ∃ u0 u1 u2, us = [u0, u1, u2] := by
      match us, hul with
      | [u0, u1, u2], _ => exact ⟨u0, u1, u2, rfl⟩
    have kp0 : ∀ b o, b ≠ a → H b = some o → H1 b = some o := fun b o n e => kp b o n (Sq _ _ e)
    have few0 : List.length fs < 1000 := by
      omega
    refine ⟨.ref a, rfl, a, c 11, dx, _, .ref t, rfl, h1, cl, Z.noA (show 11 < 35 by decide) (by decide), h4, t, _, 0, u0, rfl, rfl, SqT.of h5, atI_nat (j := 0) rfl, .ref a, rfl, a, c 11, dx, _, rfl, h1, cl, Z.noA (show 11 < 35 by decide) (by decide), few0, ?_⟩
    have kp1 : ∀ b o, b ≠ a → H b = some o → (upd H1 a (.ins (c 11) dx (putF "number" u0 fs))) b = some o := fun b o n e => (upd_ne n).trans (kp0 b o n e)
    have ht1 : (upd H1 a (.ins (c 11) dx (putF "number" u0 fs))) t = some (.tup [u0, u1, u2]) := (upd_ne (ne_of_none2 h5 h1)).trans h5
    have lp1 : (putF "number" u0 fs).lookup ("parts" : Str) = some (.ref t) := (look_ne (by decide) _ _).trans h4
    have dk1 : DK H1 (upd H1 a (.ins (c 11) dx (putF "number" u0 fs))) := DK.ins h1 fun b o n e => (upd_ne n).trans e
    have few1 : List.length (putF "number" u0 fs) < 1000 := by
      have e0 := putF_len ("number" : Str) u0 fs
      omega
    refine ⟨.ref a, rfl, a, c 11, dx, _, .ref t, rfl, upd_same, cl, Z.noA (show 11 < 35 by decide) (by decide), lp1, t, _, 1, u1, rfl, rfl, SqT.of ht1, atI_nat (j := 1) rfl, .ref a, rfl, a, c 11, dx, _, rfl, upd_same, cl, Z.noA (show 11 < 35 by decide) (by decide), few1, ?_⟩
    have kp2 : ∀ b o, b ≠ a → H b = some o → (upd (upd H1 a (.ins (c 11) dx (putF "number" u0 fs))) a (.ins (c 11) dx (putF "heights" u1 (putF "number" u0 fs)))) b = some o := fun b o n e => (upd_ne n).trans (kp1 b o n e)
    have ht2 : (upd (upd H1 a (.ins (c 11) dx (putF "number" u0 fs))) a (.ins (c 11) dx (putF "heights" u1 (putF "number" u0 fs)))) t = some (.tup [u0, u1, u2]) := (upd_ne (ne_of_none2 ht1 upd_same)).trans ht1
    have lp2 : (putF "heights" u1 (putF "number" u0 fs)).lookup ("parts" : Str) = some (.ref t) := (look_ne (by decide) _ _).trans lp1
    have dk2 : DK (upd H1 a (.ins (c 11) dx (putF "number" u0 fs))) (upd (upd H1 a (.ins (c 11) dx (putF "number" u0 fs))) a (.ins (c 11) dx (putF "heights" u1 (putF "number" u0 fs)))) := DK.ins upd_same fun b o n e => (upd_ne n).trans e
    have few2 : List.length (putF "heights" u1 (putF "number" u0 fs)) < 1000 := by
      have e0 := putF_len ("number" : Str) u0 fs
      have e1 := putF_len ("heights" : Str) u1 (putF "number" u0 fs)
      omega
    refine ⟨.ref a, rfl, a, c 11, dx, _, .ref t, rfl, upd_same, cl, Z.noA (show 11 < 35 by decide) (by decide), lp2, t, _, 2, u2, rfl, rfl, SqT.of ht2, atI_nat (j := 2) rfl, .ref a, rfl, a, c 11, dx, _, rfl, upd_same, cl, Z.noA (show 11 < 35 by decide) (by decide), few2, ?_⟩
    have kp3 : ∀ b o, b ≠ a → H b = some o → (upd (upd (upd H1 a (.ins (c 11) dx (putF "number" u0 fs))) a (.ins (c 11) dx (putF "heights" u1 (putF "number" u0 fs)))) a (.ins (c 11) dx (putF "play" u2 (putF "heights" u1 (putF "number" u0 fs))))) b = some o := fun b o n e => (upd_ne n).trans (kp2 b o n e)
    have ht3 : (upd (upd (upd H1 a (.ins (c 11) dx (putF "number" u0 fs))) a (.ins (c 11) dx (putF "heights" u1 (putF "number" u0 fs)))) a (.ins (c 11) dx (putF "play" u2 (putF "heights" u1 (putF "number" u0 fs))))) t = some (.tup [u0, u1, u2]) := (upd_ne (ne_of_none2 ht2 upd_same)).trans ht2
    have lp3 : (putF "play" u2 (putF "heights" u1 (putF "number" u0 fs))).lookup ("parts" : Str) = some (.ref t) := (look_ne (by decide) _ _).trans lp2
    have dk3 : DK (upd (upd H1 a (.ins (c 11) dx (putF "number" u0 fs))) a (.ins (c 11) dx (putF "heights" u1 (putF "number" u0 fs)))) (upd (upd (upd H1 a (.ins (c 11) dx (putF "number" u0 fs))) a (.ins (c 11) dx (putF "heights" u1 (putF "number" u0 fs)))) a (.ins (c 11) dx (putF "play" u2 (putF "heights" u1 (putF "number" u0 fs))))) := DK.ins upd_same fun b o n e => (upd_ne n).trans e
    refine q _ kp3 ⟨[u0, u1, u2], t, ⟨dx, _, upd_same, ?_, fun p hp => ?_⟩, ht3, h6.keep ((dk1.trans dk2).trans dk3)⟩
    · have e0 := putF_len ("number" : Str) u0 fs
      have e1 := putF_len ("heights" : Str) u1 (putF "number" u0 fs)
      have e2 := putF_len ("play" : Str) u2 (putF "heights" u1 (putF "number" u0 fs))
      omega
    · simp only [List.cons_append, List.nil_append, List.zip_cons_cons, List.zip_nil_right, List.zip_nil_left, List.mem_cons, List.not_mem_nil, or_false] at hp
      rcases hp with rfl | rfl | rfl | rfl | rfl <;> dsimp only <;> repeat (first | exact look_same _ _ _ | exact h3 | exact h4 | refine (look_ne (by decide) _ _).trans ?_)
theorem nsS12 : NScope ["self", "play", "at", "__class__"] ["self", "play", "at"] ["__class__"] (C8.fnScope (mS 12 0)) := nscope_by (by decide +kernel)
theorem fn_sub12 (Z : Tz P K mg c f cc cda fE fB) (G_fixed : C8.Cal P w K mg base 9 "fixed" (spF 9) []) : ∃ (kV doc pm : Value) (an : Option Addr) (ct : Value), FnOk P w K mg base C8.CX0 12 (f 12) (PySem.W.fnX "__init__" (nmP 12 ++ ".__init__") (C8.fnArgs (mS 12 0)) (C8.fnBody (mS 12 0)) (C8.fnScope (mS 12 0)) [("__class__", cc 12)] .none kV doc pm an (.ref (cda 12)) ct) ["self", "play", "at"] (spSub (c 12) "ring" ["play", "at"]) := by
  have S := Z.sf 12 (by decide) (by decide)
  have T : SupT (nfP 12 (cc 12) (cda 12)) := supT_of (show (((C8.fnArgs (mS 12 0)).posonlyargs ++ (C8.fnArgs (mS 12 0)).args).head?.map (·.arg) = some "self" ∧ (C8.fnScope (mS 12 0)).names.lookup ("super" : Str) = some .globalImplicit ∧ (C8.fnScope (mS 12 0)).names.lookup ("__class__" : Str) = some .free ∧ (C8.fnScope (mS 12 0)).names.lookup ("self" : Str) = some .local) by decide +kernel)
  have C := Z.sc 12 12 (by decide) (by decide) (by decide) (by decide)
  have F0 := fn_den (w := w) (base := base) Z G_fixed (show 12 < 35 by decide) (by decide)
  have cl := Z.cls (show 12 < 35 by decide)
  refine fn_supOk (P := P) (w := w) (mg := mg) (base := base) (N := ["self", "play", "at", "__class__"]) (k := 11) (ps := ["self", "play", "at"]) (st := (C8.fnBody (mS 12 0)).getD 0 (.Pass ⟨0, 0, 0, 0⟩)) (rest := (C8.fnBody (mS 12 0)).drop 1) (sp := spSub (c 12) "ring" ["play", "at"]) S nsS12 (by rfl) (by rfl) (fun vs H Q E h => ?_) ?_
  · obtain ⟨a, dx, ps, ds, rfl, hl, _⟩ := h
    exact congrArg Nat.succ hl
  · intro A outer s H vs Q E hr h hN
    obtain ⟨a, dx, ps, ds, rfl, hl, ha, hd, hs, q⟩ := h
    obtain ⟨p0, p1, rfl⟩ : ∃ p0 p1, ps = [p0, p1] := by
      match ps, hl with
      | [p0, p1], _ => exact ⟨p0, p1, rfl⟩
    refine ⟨_, (pss_cons (ps_fld (pv 0) (pe_ix ix_tup (pe_fld (pv 0) rfl) pe_int (fun _ _ => rfl)) rfl) (pss_one (ps_fld (pv 0) (pe_ix ix_tup (pe_fld (pv 0) rfl) pe_int (fun _ _ => rfl)) rfl))), fun s1 I => ?_⟩
    refine sup_stmt (X := ncx C8.CX0 P w K mg base ["self", "play", "at", "__class__"] (nfP 12 (cc 12) (cda 12)) (f 12) A outer s H E) (i := 0) (a := a) (C := c 12) (sup_ctx S T) C F0 (hr.mono (show 11 ≤ 11 by decide)) (pa_cons pe_str (pa_cons (pv 1) (pa_cons (pv 2) pa_nil))) I hN rfl ha (by decide) (by rfl) (by rfl) (by rfl) (by rfl) (by rfl) ?_ fun H' s' I' hq => ⟨rfl, H', I', hq⟩
    intro q0 nq
    have Sq := same_new nq (o := .met (f 1) a)
    refine ⟨p0, rfl, p1, rfl, upd_same, a, dx, "ring", [p0, p1], ds, rfl, Sq _ _ ha, hd.same Sq, hs, by show 2 ≤ 5; decide, fun us t fs H1 kp h1 h2 h3 h4 h5 h6 => ?_⟩
    have hul : us.length = 2 := by
      rw [h6.len, List.length_map, ← hd.len]
      rfl
    obtain ⟨u0, u1, rfl⟩ : ∃ u0 u1, us = [u0, u1] := by
      match us, hul with
      | [u0, u1], _ => exact ⟨u0, u1, rfl⟩
    have kp0 : ∀ b o, b ≠ a → H b = some o → H1 b = some o := fun b o n e => kp b o n (Sq _ _ e)
    have few0 : List.length fs < 1000 := by
      omega
    refine ⟨.ref a, rfl, a, c 12, dx, _, .ref t, rfl, h1, cl, Z.noA (show 12 < 35 by decide) (by decide), h4, t, _, 0, u0, rfl, rfl, SqT.of h5, atI_nat (j := 0) rfl, .ref a, rfl, a, c 12, dx, _, rfl, h1, cl, Z.noA (show 12 < 35 by decide) (by decide), few0, ?_⟩
    have kp1 : ∀ b o, b ≠ a → H b = some o → (upd H1 a (.ins (c 12) dx (putF "play" u0 fs))) b = some o := fun b o n e => (upd_ne n).trans (kp0 b o n e)
    have ht1 : (upd H1 a (.ins (c 12) dx (putF "play" u0 fs))) t = some (.tup [u0, u1]) := (upd_ne (ne_of_none2 h5 h1)).trans h5
    have lp1 : (putF "play" u0 fs).lookup ("parts" : Str) = some (.ref t) := (look_ne (by decide) _ _).trans h4
    have dk1 : DK H1 (upd H1 a (.ins (c 12) dx (putF "play" u0 fs))) := DK.ins h1 fun b o n e => (upd_ne n).trans e
    have few1 : List.length (putF "play" u0 fs) < 1000 := by
      have e0 := putF_len ("play" : Str) u0 fs
      omega
    refine ⟨.ref a, rfl, a, c 12, dx, _, .ref t, rfl, upd_same, cl, Z.noA (show 12 < 35 by decide) (by decide), lp1, t, _, 1, u1, rfl, rfl, SqT.of ht1, atI_nat (j := 1) rfl, .ref a, rfl, a, c 12, dx, _, rfl, upd_same, cl, Z.noA (show 12 < 35 by decide) (by decide), few1, ?_⟩
    have kp2 : ∀ b o, b ≠ a → H b = some o → (upd (upd H1 a (.ins (c 12) dx (putF "play" u0 fs))) a (.ins (c 12) dx (putF "at" u1 (putF "play" u0 fs)))) b = some o := fun b o n e => (upd_ne n).trans (kp1 b o n e)
    have ht2 : (upd (upd H1 a (.ins (c 12) dx (putF "play" u0 fs))) a (.ins (c 12) dx (putF "at" u1 (putF "play" u0 fs)))) t = some (.tup [u0, u1]) := (upd_ne (ne_of_none2 ht1 upd_same)).trans ht1
    have lp2 : (putF "at" u1 (putF "play" u0 fs)).lookup ("parts" : Str) = some (.ref t) := (look_ne (by decide) _ _).trans lp1
    have dk2 : DK (upd H1 a (.ins (c 12) dx (putF "play" u0 fs))) (upd (upd H1 a (.ins (c 12) dx (putF "play" u0 fs))) a (.ins (c 12) dx (putF "at" u1 (putF "play" u0 fs)))) := DK.ins upd_same fun b o n e => (upd_ne n).trans e
    refine q _ kp2 ⟨[u0, u1], t, ⟨dx, _, upd_same, ?_, fun p hp => ?_⟩, ht2, h6.keep (dk1.trans dk2)⟩
    · have e0 := putF_len ("play" : Str) u0 fs
      have e1 := putF_len ("at" : Str) u1 (putF "play" u0 fs)
      omega
    · simp only [List.cons_append, List.nil_append, List.zip_cons_cons, List.zip_nil_right, List.zip_nil_left, List.mem_cons, List.not_mem_nil, or_false] at hp
      rcases hp with rfl | rfl | rfl | rfl <;> dsimp only <;> repeat (first | exact look_same _ _ _ | exact h3 | exact h4 | refine (look_ne (by decide) _ _).trans ?_)
end
end K56

set_option Elab.async false
set_option linter.all false
set_option maxRecDepth 100000
set_option maxHeartbeats 1000000
namespace K56
open PySem PySem.Spec PyProof.Rows L2 Gd NdefX
section
variable {P : Program} {w : World} {K : PySem.W.Frag} {mg : Str → Option Value} {base : Heap} {c f cc cda : Nat → Addr} {fE fB : Addr}
theorem nsS13 : NScope ["self", "pages", "entries", "triples", "__class__"] ["self", "pages", "entries", "triples"] ["__class__"] (C8.fnScope (mS 13 0)) := nscope_by (by decide +kernel)
theorem fn_sub13 (Z : Tz P K mg c f cc cda fE fB) (G_fixed : C8.Cal P w K mg base 9 "fixed" (spF 9) []) : ∃ (kV doc pm : Value) (an : Option Addr) (ct : Value), FnOk P w K mg base C8.CX0 12 (f 13) (PySem.W.fnX "__init__" (nmP 13 ++ ".__init__") (C8.fnArgs (mS 13 0)) (C8.fnBody (mS 13 0)) (C8.fnScope (mS 13 0)) [("__class__", cc 13)] .none kV doc pm an (.ref (cda 13)) ct) ["self", "pages", "entries", "triples"] (spSub (c 13) "kept" ["pages", "entries", "triples"]) := by
  have S := Z.sf 13 (by decide) (by decide)
  have T : SupT (nfP 13 (cc 13) (cda 13)) := supT_of (show (((C8.fnArgs (mS 13 0)).posonlyargs ++ (C8.fnArgs (mS 13 0)).args).head?.map (·.arg) = some "self" ∧ (C8.fnScope (mS 13 0)).names.lookup ("super" : Str) = some .globalImplicit ∧ (C8.fnScope (mS 13 0)).names.lookup ("__class__" : Str) = some .free ∧ (C8.fnScope (mS 13 0)).names.lookup ("self" : Str) = some .local) by decide +kernel)
  have C := Z.sc 13 13 (by decide) (by decide) (by decide) (by decide)
  have F0 := fn_pi (w := w) (base := base) Z G_fixed (show 13 < 35 by decide)
  have cl := Z.cls (show 13 < 35 by decide)
  refine fn_supOk (P := P) (w := w) (mg := mg) (base := base) (N := ["self", "pages", "entries", "triples", "__class__"]) (k := 11) (ps := ["self", "pages", "entries", "triples"]) (st := (C8.fnBody (mS 13 0)).getD 0 (.Pass ⟨0, 0, 0, 0⟩)) (rest := (C8.fnBody (mS 13 0)).drop 1) (sp := spSub (c 13) "kept" ["pages", "entries", "triples"]) S nsS13 (by rfl) (by rfl) (fun vs H Q E h => ?_) ?_
  · obtain ⟨a, dx, ps, ds, rfl, hl, _⟩ := h
    exact congrArg Nat.succ hl
  · intro A outer s H vs Q E hr h hN
    obtain ⟨a, dx, ps, ds, rfl, hl, ha, hd, hs, q⟩ := h
    obtain ⟨p0, p1, p2, rfl⟩ : ∃ p0 p1 p2, ps = [p0, p1, p2] := by
      match ps, hl with
      | [p0, p1, p2], _ => exact ⟨p0, p1, p2, rfl⟩
    refine ⟨_, (pss_cons (ps_fld (pv 0) (pe_ix ix_tup (pe_fld (pv 0) rfl) pe_int (fun _ _ => rfl)) rfl) (pss_cons (ps_fld (pv 0) (pe_ix ix_tup (pe_fld (pv 0) rfl) pe_int (fun _ _ => rfl)) rfl) (pss_one (ps_fld (pv 0) (pe_ix ix_tup (pe_fld (pv 0) rfl) pe_int (fun _ _ => rfl)) rfl)))), fun s1 I => ?_⟩
    refine sup_stmt (X := ncx C8.CX0 P w K mg base ["self", "pages", "entries", "triples", "__class__"] (nfP 13 (cc 13) (cda 13)) (f 13) A outer s H E) (i := 0) (a := a) (C := c 13) (sup_ctx S T) C F0 (hr.mono (show 10 ≤ 11 by decide)) (pa_cons pe_str (pa_cons (pv 1) (pa_cons (pv 2) (pa_cons (pv 3) pa_nil)))) I hN rfl ha (by decide) (by rfl) (by rfl) (by rfl) (by rfl) (by rfl) ?_ fun H' s' I' hq => ⟨rfl, H', I', hq⟩
    intro q0 nq
    have Sq := same_new nq (o := .met (f 0) a)
    refine ⟨p0, rfl, p1, rfl, p2, rfl, upd_same, a, dx, "kept", [p0, p1, p2], ds, rfl, Sq _ _ ha, hd.same Sq, hs, by show 3 ≤ 5; decide, fun us t fs H1 kp h1 h2 h3 h4 h5 h6 => ?_⟩
    have hul : us.length = 3 := by
      rw [h6.len, List.length_map, ← hd.len]
      rfl
    obtain ⟨u0, u1, u2, rfl⟩ : ∃ u0 u1 u2, us = [u0, u1, u2] := by
      match us, hul with
      | [u0, u1, u2], _ => exact ⟨u0, u1, u2, rfl⟩
    have kp0 : ∀ b o, b ≠ a → H b = some o → H1 b = some o := fun b o n e => kp b o n (Sq _ _ e)
    have few0 : List.length fs < 1000 := by
      omega
    refine ⟨.ref a, rfl, a, c 13, dx, _, .ref t, rfl, h1, cl, Z.noA (show 13 < 35 by decide) (by decide), h4, t, _, 0, u0, rfl, rfl, SqT.of h5, atI_nat (j := 0) rfl, .ref a, rfl, a, c 13, dx, _, rfl, h1, cl, Z.noA (show 13 < 35 by decide) (by decide), few0, ?_⟩
    have kp1 : ∀ b o, b ≠ a → H b = some o → (upd H1 a (.ins (c 13) dx (putF "pages" u0 fs))) b = some o := fun b o n e => (upd_ne n).trans (kp0 b o n e)
    have ht1 : (upd H1 a (.ins (c 13) dx (putF "pages" u0 fs))) t = some (.tup [u0, u1, u2]) := (upd_ne (ne_of_none2 h5 h1)).trans h5
    have lp1 : (putF "pages" u0 fs).lookup ("parts" : Str) = some (.ref t) := (look_ne (by decide) _ _).trans h4
    have dk1 : DK H1 (upd H1 a (.ins (c 13) dx (putF "pages" u0 fs))) := DK.ins h1 fun b o n e => (upd_ne n).trans e
    have few1 : List.length (putF "pages" u0 fs) < 1000 := by
      have e0 := putF_len ("pages" : Str) u0 fs
      omega
    refine ⟨.ref a, rfl, a, c 13, dx, _, .ref t, rfl, upd_same, cl, Z.noA (show 13 < 35 by decide) (by decide), lp1, t, _, 1, u1, rfl, rfl, SqT.of ht1, atI_nat (j := 1) rfl, .ref a, rfl, a, c 13, dx, _, rfl, upd_same, cl, Z.noA (show 13 < 35 by decide) (by decide), few1, ?_⟩
    have kp2 : ∀ b o, b ≠ a → H b = some o → (upd (upd H1 a (.ins (c 13) dx (putF "pages" u0 fs))) a (.ins (c 13) dx (putF "entries" u1 (putF "pages" u0 fs)))) b = some o := fun b o n e => (upd_ne n).trans (kp1 b o n e)
    have ht2 : (upd (upd H1 a (.ins (c 13) dx (putF "pages" u0 fs))) a (.ins (c 13) dx (putF "entries" u1 (putF "pages" u0 fs)))) t = some (.tup [u0, u1, u2]) := (upd_ne (ne_of_none2 ht1 upd_same)).trans ht1
    have lp2 : (putF "entries" u1 (putF "pages" u0 fs)).lookup ("parts" : Str) = some (.ref t) := (look_ne (by decide) _ _).trans lp1
    have dk2 : DK (upd H1 a (.ins (c 13) dx (putF "pages" u0 fs))) (upd (upd H1 a (.ins (c 13) dx (putF "pages" u0 fs))) a (.ins (c 13) dx (putF "entries" u1 (putF "pages" u0 fs)))) := DK.ins upd_same fun b o n e => (upd_ne n).trans e
    have few2 : List.length (putF "entries" u1 (putF "pages" u0 fs)) < 1000 := by
      have e0 := putF_len ("pages" : Str) u0 fs
      have e1 := putF_len ("entries" : Str) u1 (putF "pages" u0 fs)
      omega
    refine ⟨.ref a, rfl, a, c 13, dx, _, .ref t, rfl, upd_same, cl, Z.noA (show 13 < 35 by decide) (by decide), lp2, t, _, 2, u2, rfl, rfl, SqT.of ht2, atI_nat (j := 2) rfl, .ref a, rfl, a, c 13, dx, _, rfl, upd_same, cl, Z.noA (show 13 < 35 by decide) (by decide), few2, ?_⟩
    have kp3 : ∀ b o, b ≠ a → H b = some o → (upd (upd (upd H1 a (.ins (c 13) dx (putF "pages" u0 fs))) a (.ins (c 13) dx (putF "entries" u1 (putF "pages" u0 fs)))) a (.ins (c 13) dx (putF "triples" u2 (putF "entries" u1 (putF "pages" u0 fs))))) b = some o := fun b o n e => (upd_ne n).trans (kp2 b o n e)
    have ht3 : (upd (upd (upd H1 a (.ins (c 13) dx (putF "pages" u0 fs))) a (.ins (c 13) dx (putF "entries" u1 (putF "pages" u0 fs)))) a (.ins (c 13) dx (putF "triples" u2 (putF "entries" u1 (putF "pages" u0 fs))))) t = some (.tup [u0, u1, u2]) := (upd_ne (ne_of_none2 ht2 upd_same)).trans ht2
    have lp3 : (putF "triples" u2 (putF "entries" u1 (putF "pages" u0 fs))).lookup ("parts" : Str) = some (.ref t) := (look_ne (by decide) _ _).trans lp2
    have dk3 : DK (upd (upd H1 a (.ins (c 13) dx (putF "pages" u0 fs))) a (.ins (c 13) dx (putF "entries" u1 (putF "pages" u0 fs)))) (upd (upd (upd H1 a (.ins (c 13) dx (putF "pages" u0 fs))) a (.ins (c 13) dx (putF "entries" u1 (putF "pages" u0 fs)))) a (.ins (c 13) dx (putF "triples" u2 (putF "entries" u1 (putF "pages" u0 fs))))) := DK.ins upd_same fun b o n e => (upd_ne n).trans e
    refine q _ kp3 ⟨[u0, u1, u2], t, ⟨dx, _, upd_same, ?_, fun p hp => ?_⟩, ht3, h6.keep ((dk1.trans dk2).trans dk3)⟩
    · have e0 := putF_len ("pages" : Str) u0 fs
      have e1 := putF_len ("entries" : Str) u1 (putF "pages" u0 fs)
      have e2 := putF_len ("triples" : Str) u2 (putF "entries" u1 (putF "pages" u0 fs))
      omega
    · simp only [List.cons_append, List.nil_append, List.zip_cons_cons, List.zip_nil_right, List.zip_nil_left, List.mem_cons, List.not_mem_nil, or_false] at hp
      rcases hp with rfl | rfl | rfl | rfl | rfl <;> dsimp only <;> repeat (first | exact look_same _ _ _ | exact h3 | exact h4 | refine (look_ne (by decide) _ _).trans ?_)
theorem nsS14 : NScope ["self", "pages", "tree", "__class__"] ["self", "pages", "tree"] ["__class__"] (C8.fnScope (mS 14 0)) := nscope_by (by decide +kernel)
theorem fn_sub14 (Z : Tz P K mg c f cc cda fE fB) (G_fixed : C8.Cal P w K mg base 9 "fixed" (spF 9) []) : ∃ (kV doc pm : Value) (an : Option Addr) (ct : Value), FnOk P w K mg base C8.CX0 12 (f 14) (PySem.W.fnX "__init__" (nmP 14 ++ ".__init__") (C8.fnArgs (mS 14 0)) (C8.fnBody (mS 14 0)) (C8.fnScope (mS 14 0)) [("__class__", cc 14)] .none kV doc pm an (.ref (cda 14)) ct) ["self", "pages", "tree"] (spSub (c 14) "refusal" ["pages", "tree"]) := by
  have S := Z.sf 14 (by decide) (by decide)
  have T : SupT (nfP 14 (cc 14) (cda 14)) := supT_of (show (((C8.fnArgs (mS 14 0)).posonlyargs ++ (C8.fnArgs (mS 14 0)).args).head?.map (·.arg) = some "self" ∧ (C8.fnScope (mS 14 0)).names.lookup ("super" : Str) = some .globalImplicit ∧ (C8.fnScope (mS 14 0)).names.lookup ("__class__" : Str) = some .free ∧ (C8.fnScope (mS 14 0)).names.lookup ("self" : Str) = some .local) by decide +kernel)
  have C := Z.sc 14 14 (by decide) (by decide) (by decide) (by decide)
  have F0 := fn_den (w := w) (base := base) Z G_fixed (show 14 < 35 by decide) (by decide)
  have cl := Z.cls (show 14 < 35 by decide)
  refine fn_supOk (P := P) (w := w) (mg := mg) (base := base) (N := ["self", "pages", "tree", "__class__"]) (k := 11) (ps := ["self", "pages", "tree"]) (st := (C8.fnBody (mS 14 0)).getD 0 (.Pass ⟨0, 0, 0, 0⟩)) (rest := (C8.fnBody (mS 14 0)).drop 1) (sp := spSub (c 14) "refusal" ["pages", "tree"]) S nsS14 (by rfl) (by rfl) (fun vs H Q E h => ?_) ?_
  · obtain ⟨a, dx, ps, ds, rfl, hl, _⟩ := h
    exact congrArg Nat.succ hl
  · intro A outer s H vs Q E hr h hN
    obtain ⟨a, dx, ps, ds, rfl, hl, ha, hd, hs, q⟩ := h
    obtain ⟨p0, p1, rfl⟩ : ∃ p0 p1, ps = [p0, p1] := by
      match ps, hl with
      | [p0, p1], _ => exact ⟨p0, p1, rfl⟩
    refine ⟨_, (pss_cons (ps_fld (pv 0) (pe_ix ix_tup (pe_fld (pv 0) rfl) pe_int (fun _ _ => rfl)) rfl) (pss_one (ps_fld (pv 0) (pe_ix ix_tup (pe_fld (pv 0) rfl) pe_int (fun _ _ => rfl)) rfl))), fun s1 I => ?_⟩
    refine sup_stmt (X := ncx C8.CX0 P w K mg base ["self", "pages", "tree", "__class__"] (nfP 14 (cc 14) (cda 14)) (f 14) A outer s H E) (i := 0) (a := a) (C := c 14) (sup_ctx S T) C F0 (hr.mono (show 11 ≤ 11 by decide)) (pa_cons pe_str (pa_cons (pv 1) (pa_cons (pv 2) pa_nil))) I hN rfl ha (by decide) (by rfl) (by rfl) (by rfl) (by rfl) (by rfl) ?_ fun H' s' I' hq => ⟨rfl, H', I', hq⟩
    intro q0 nq
    have Sq := same_new nq (o := .met (f 1) a)
    refine ⟨p0, rfl, p1, rfl, upd_same, a, dx, "refusal", [p0, p1], ds, rfl, Sq _ _ ha, hd.same Sq, hs, by show 2 ≤ 5; decide, fun us t fs H1 kp h1 h2 h3 h4 h5 h6 => ?_⟩
    have hul : us.length = 2 := by
      rw [h6.len, List.length_map, ← hd.len]
      rfl
    obtain ⟨u0, u1, rfl⟩ : ∃ u0 u1, us = [u0, u1] := by
      match us, hul with
      | [u0, u1], _ => exact ⟨u0, u1, rfl⟩
    have kp0 : ∀ b o, b ≠ a → H b = some o → H1 b = some o := fun b o n e => kp b o n (Sq _ _ e)
    have few0 : List.length fs < 1000 := by
      omega
    refine ⟨.ref a, rfl, a, c 14, dx, _, .ref t, rfl, h1, cl, Z.noA (show 14 < 35 by decide) (by decide), h4, t, _, 0, u0, rfl, rfl, SqT.of h5, atI_nat (j := 0) rfl, .ref a, rfl, a, c 14, dx, _, rfl, h1, cl, Z.noA (show 14 < 35 by decide) (by decide), few0, ?_⟩
    have kp1 : ∀ b o, b ≠ a → H b = some o → (upd H1 a (.ins (c 14) dx (putF "pages" u0 fs))) b = some o := fun b o n e => (upd_ne n).trans (kp0 b o n e)
    have ht1 : (upd H1 a (.ins (c 14) dx (putF "pages" u0 fs))) t = some (.tup [u0, u1]) := (upd_ne (ne_of_none2 h5 h1)).trans h5
    have lp1 : (putF "pages" u0 fs).lookup ("parts" : Str) = some (.ref t) := (look_ne (by decide) _ _).trans h4
    have dk1 : DK H1 (upd H1 a (.ins (c 14) dx (putF "pages" u0 fs))) := DK.ins h1 fun b o n e => (upd_ne n).trans e
    have few1 : List.length (putF "pages" u0 fs) < 1000 := by
      have e0 := putF_len ("pages" : Str) u0 fs
      omega
    refine ⟨.ref a, rfl, a, c 14, dx, _, .ref t, rfl, upd_same, cl, Z.noA (show 14 < 35 by decide) (by decide), lp1, t, _, 1, u1, rfl, rfl, SqT.of ht1, atI_nat (j := 1) rfl, .ref a, rfl, a, c 14, dx, _, rfl, upd_same, cl, Z.noA (show 14 < 35 by decide) (by decide), few1, ?_⟩
    have kp2 : ∀ b o, b ≠ a → H b = some o → (upd (upd H1 a (.ins (c 14) dx (putF "pages" u0 fs))) a (.ins (c 14) dx (putF "tree" u1 (putF "pages" u0 fs)))) b = some o := fun b o n e => (upd_ne n).trans (kp1 b o n e)
    have ht2 : (upd (upd H1 a (.ins (c 14) dx (putF "pages" u0 fs))) a (.ins (c 14) dx (putF "tree" u1 (putF "pages" u0 fs)))) t = some (.tup [u0, u1]) := (upd_ne (ne_of_none2 ht1 upd_same)).trans ht1
    have lp2 : (putF "tree" u1 (putF "pages" u0 fs)).lookup ("parts" : Str) = some (.ref t) := (look_ne (by decide) _ _).trans lp1
    have dk2 : DK (upd H1 a (.ins (c 14) dx (putF "pages" u0 fs))) (upd (upd H1 a (.ins (c 14) dx (putF "pages" u0 fs))) a (.ins (c 14) dx (putF "tree" u1 (putF "pages" u0 fs)))) := DK.ins upd_same fun b o n e => (upd_ne n).trans e
    refine q _ kp2 ⟨[u0, u1], t, ⟨dx, _, upd_same, ?_, fun p hp => ?_⟩, ht2, h6.keep (dk1.trans dk2)⟩
    · have e0 := putF_len ("pages" : Str) u0 fs
      have e1 := putF_len ("tree" : Str) u1 (putF "pages" u0 fs)
      omega
    · simp only [List.cons_append, List.nil_append, List.zip_cons_cons, List.zip_nil_right, List.zip_nil_left, List.mem_cons, List.not_mem_nil, or_false] at hp
      rcases hp with rfl | rfl | rfl | rfl <;> dsimp only <;> repeat (first | exact look_same _ _ _ | exact h3 | exact h4 | refine (look_ne (by decide) _ _).trans ?_)
theorem nsS15 : NScope ["self", "number", "table", "delay", "tree", "__class__"] ["self", "number", "table", "delay", "tree"] ["__class__"] (C8.fnScope (mS 15 0)) := nscope_by (by decide +kernel)
theorem fn_sub15 (Z : Tz P K mg c f cc cda fE fB) (G_fixed : C8.Cal P w K mg base 9 "fixed" (spF 9) []) : ∃ (kV doc pm : Value) (an : Option Addr) (ct : Value), FnOk P w K mg base C8.CX0 12 (f 15) (PySem.W.fnX "__init__" (nmP 15 ++ ".__init__") (C8.fnArgs (mS 15 0)) (C8.fnBody (mS 15 0)) (C8.fnScope (mS 15 0)) [("__class__", cc 15)] .none kV doc pm an (.ref (cda 15)) ct) ["self", "number", "table", "delay", "tree"] (spSub (c 15) "patience" ["number", "table", "delay", "tree"]) := by
  have S := Z.sf 15 (by decide) (by decide)
  have T : SupT (nfP 15 (cc 15) (cda 15)) := supT_of (show (((C8.fnArgs (mS 15 0)).posonlyargs ++ (C8.fnArgs (mS 15 0)).args).head?.map (·.arg) = some "self" ∧ (C8.fnScope (mS 15 0)).names.lookup ("super" : Str) = some .globalImplicit ∧ (C8.fnScope (mS 15 0)).names.lookup ("__class__" : Str) = some .free ∧ (C8.fnScope (mS 15 0)).names.lookup ("self" : Str) = some .local) by decide +kernel)
  have C := Z.sc 15 15 (by decide) (by decide) (by decide) (by decide)
  have F0 := fn_pi (w := w) (base := base) Z G_fixed (show 15 < 35 by decide)
  have cl := Z.cls (show 15 < 35 by decide)
  refine fn_supOk (P := P) (w := w) (mg := mg) (base := base) (N := ["self", "number", "table", "delay", "tree", "__class__"]) (k := 11) (ps := ["self", "number", "table", "delay", "tree"]) (st := (C8.fnBody (mS 15 0)).getD 0 (.Pass ⟨0, 0, 0, 0⟩)) (rest := (C8.fnBody (mS 15 0)).drop 1) (sp := spSub (c 15) "patience" ["number", "table", "delay", "tree"]) S nsS15 (by rfl) (by rfl) (fun vs H Q E h => ?_) ?_
  · obtain ⟨a, dx, ps, ds, rfl, hl, _⟩ := h
    exact congrArg Nat.succ hl
  · intro A outer s H vs Q E hr h hN
    obtain ⟨a, dx, ps, ds, rfl, hl, ha, hd, hs, q⟩ := h
    obtain ⟨p0, p1, p2, p3, rfl⟩ : ∃ p0 p1 p2 p3, ps = [p0, p1, p2, p3] := by
      match ps, hl with
      | [p0, p1, p2, p3], _ => exact ⟨p0, p1, p2, p3, rfl⟩
    refine ⟨_, (pss_cons (ps_fld (pv 0) (pe_ix ix_tup (pe_fld (pv 0) rfl) pe_int (fun _ _ => rfl)) rfl) (pss_cons (ps_fld (pv 0) (pe_ix ix_tup (pe_fld (pv 0) rfl) pe_int (fun _ _ => rfl)) rfl) (pss_cons (ps_fld (pv 0) (pe_ix ix_tup (pe_fld (pv 0) rfl) pe_int (fun _ _ => rfl)) rfl) (pss_one (ps_fld (pv 0) (pe_ix ix_tup (pe_fld (pv 0) rfl) pe_int (fun _ _ => rfl)) rfl))))), fun s1 I => ?_⟩
    refine sup_stmt (X := ncx C8.CX0 P w K mg base ["self", "number", "table", "delay", "tree", "__class__"] (nfP 15 (cc 15) (cda 15)) (f 15) A outer s H E) (i := 0) (a := a) (C := c 15) (sup_ctx S T) C F0 (hr.mono (show 10 ≤ 11 by decide)) (pa_cons pe_str (pa_cons (pv 1) (pa_cons (pv 2) (pa_cons (pv 3) (pa_cons (pv 4) pa_nil))))) I hN rfl ha (by decide) (by rfl) (by rfl) (by rfl) (by rfl) (by rfl) ?_ fun H' s' I' hq => ⟨rfl, H', I', hq⟩
    intro q0 nq
    have Sq := same_new nq (o := .met (f 0) a)
    refine ⟨p0, rfl, p1, rfl, p2, rfl, p3, rfl, upd_same, a, dx, "patience", [p0, p1, p2, p3], ds, rfl, Sq _ _ ha, hd.same Sq, hs, by show 4 ≤ 5; decide, fun us t fs H1 kp h1 h2 h3 h4 h5 h6 => ?_⟩
    have hul : us.length = 4 := by
      rw [h6.len, List.length_map, ← hd.len]
      rfl
    obtain ⟨u0, u1, u2, u3, rfl⟩ : ∃ u0 u1 u2 u3, us = [u0, u1, u2, u3] := by
      match us, hul with
      | [u0, u1, u2, u3], _ => exact ⟨u0, u1, u2, u3, rfl⟩
    have kp0 : ∀ b o, b ≠ a → H b = some o → H1 b = some o := fun b o n e => kp b o n (Sq _ _ e)
    have few0 : List.length fs < 1000 := by
      omega
    refine ⟨.ref a, rfl, a, c 15, dx, _, .ref t, rfl, h1, cl, Z.noA (show 15 < 35 by decide) (by decide), h4, t, _, 0, u0, rfl, rfl, SqT.of h5, atI_nat (j := 0) rfl, .ref a, rfl, a, c 15, dx, _, rfl, h1, cl, Z.noA (show 15 < 35 by decide) (by decide), few0, ?_⟩
    have kp1 : ∀ b o, b ≠ a → H b = some o → (upd H1 a (.ins (c 15) dx (putF "number" u0 fs))) b = some o := fun b o n e => (upd_ne n).trans (kp0 b o n e)
    have ht1 : (upd H1 a (.ins (c 15) dx (putF "number" u0 fs))) t = some (.tup [u0, u1, u2, u3]) := (upd_ne (ne_of_none2 h5 h1)).trans h5
    have lp1 : (putF "number" u0 fs).lookup ("parts" : Str) = some (.ref t) := (look_ne (by decide) _ _).trans h4
    have dk1 : DK H1 (upd H1 a (.ins (c 15) dx (putF "number" u0 fs))) := DK.ins h1 fun b o n e => (upd_ne n).trans e
    have few1 : List.length (putF "number" u0 fs) < 1000 := by
      have e0 := putF_len ("number" : Str) u0 fs
      omega
    refine ⟨.ref a, rfl, a, c 15, dx, _, .ref t, rfl, upd_same, cl, Z.noA (show 15 < 35 by decide) (by decide), lp1, t, _, 1, u1, rfl, rfl, SqT.of ht1, atI_nat (j := 1) rfl, .ref a, rfl, a, c 15, dx, _, rfl, upd_same, cl, Z.noA (show 15 < 35 by decide) (by decide), few1, ?_⟩
    have kp2 : ∀ b o, b ≠ a → H b = some o → (upd (upd H1 a (.ins (c 15) dx (putF "number" u0 fs))) a (.ins (c 15) dx (putF "table" u1 (putF "number" u0 fs)))) b = some o := fun b o n e => (upd_ne n).trans (kp1 b o n e)
    have ht2 : (upd (upd H1 a (.ins (c 15) dx (putF "number" u0 fs))) a (.ins (c 15) dx (putF "table" u1 (putF "number" u0 fs)))) t = some (.tup [u0, u1, u2, u3]) := (upd_ne (ne_of_none2 ht1 upd_same)).trans ht1
    have lp2 : (putF "table" u1 (putF "number" u0 fs)).lookup ("parts" : Str) = some (.ref t) := (look_ne (by decide) _ _).trans lp1
    have dk2 : DK (upd H1 a (.ins (c 15) dx (putF "number" u0 fs))) (upd (upd H1 a (.ins (c 15) dx (putF "number" u0 fs))) a (.ins (c 15) dx (putF "table" u1 (putF "number" u0 fs)))) := DK.ins upd_same fun b o n e => (upd_ne n).trans e
    have few2 : List.length (putF "table" u1 (putF "number" u0 fs)) < 1000 := by
      have e0 := putF_len ("number" : Str) u0 fs
      have e1 := putF_len ("table" : Str) u1 (putF "number" u0 fs)
      omega
    refine ⟨.ref a, rfl, a, c 15, dx, _, .ref t, rfl, upd_same, cl, Z.noA (show 15 < 35 by decide) (by decide), lp2, t, _, 2, u2, rfl, rfl, SqT.of ht2, atI_nat (j := 2) rfl, .ref a, rfl, a, c 15, dx, _, rfl, upd_same, cl, Z.noA (show 15 < 35 by decide) (by decide), few2, ?_⟩
    have kp3 : ∀ b o, b ≠ a → H b = some o → (upd (upd (upd H1 a (.ins (c 15) dx (putF "number" u0 fs))) a (.ins (c 15) dx (putF "table" u1 (putF "number" u0 fs)))) a (.ins (c 15) dx (putF "delay" u2 (putF "table" u1 (putF "number" u0 fs))))) b = some o := fun b o n e => (upd_ne n).trans (kp2 b o n e)
    have ht3 : (upd (upd (upd H1 a (.ins (c 15) dx (putF "number" u0 fs))) a (.ins (c 15) dx (putF "table" u1 (putF "number" u0 fs)))) a (.ins (c 15) dx (putF "delay" u2 (putF "table" u1 (putF "number" u0 fs))))) t = some (.tup [u0, u1, u2, u3]) := (upd_ne (ne_of_none2 ht2 upd_same)).trans ht2
    have lp3 : (putF "delay" u2 (putF "table" u1 (putF "number" u0 fs))).lookup ("parts" : Str) = some (.ref t) := (look_ne (by decide) _ _).trans lp2
    have dk3 : DK (upd (upd H1 a (.ins (c 15) dx (putF "number" u0 fs))) a (.ins (c 15) dx (putF "table" u1 (putF "number" u0 fs)))) (upd (upd (upd H1 a (.ins (c 15) dx (putF "number" u0 fs))) a (.ins (c 15) dx (putF "table" u1 (putF "number" u0 fs)))) a (.ins (c 15) dx (putF "delay" u2 (putF "table" u1 (putF "number" u0 fs))))) := DK.ins upd_same fun b o n e => (upd_ne n).trans e
    have few3 : List.length (putF "delay" u2 (putF "table" u1 (putF "number" u0 fs))) < 1000 := by
      have e0 := putF_len ("number" : Str) u0 fs
      have e1 := putF_len ("table" : Str) u1 (putF "number" u0 fs)
      have e2 := putF_len ("delay" : Str) u2 (putF "table" u1 (putF "number" u0 fs))
      omega
    refine ⟨.ref a, rfl, a, c 15, dx, _, .ref t, rfl, upd_same, cl, Z.noA (show 15 < 35 by decide) (by decide), lp3, t, _, 3, u3, rfl, rfl, SqT.of ht3, atI_nat (j := 3) rfl, .ref a, rfl, a, c 15, dx, _, rfl, upd_same, cl, Z.noA (show 15 < 35 by decide) (by decide), few3, ?_⟩
    have kp4 : ∀ b o, b ≠ a → H b = some o → (upd (upd (upd (upd H1 a (.ins (c 15) dx (putF "number" u0 fs))) a (.ins (c 15) dx (putF "table" u1 (putF "number" u0 fs)))) a (.ins (c 15) dx (putF "delay" u2 (putF "table" u1 (putF "number" u0 fs))))) a (.ins (c 15) dx (putF "tree" u3 (putF "delay" u2 (putF "table" u1 (putF "number" u0 fs)))))) b = some o := fun b o n e => (upd_ne n).trans (kp3 b o n e)
    have ht4 : (upd (upd (upd (upd H1 a (.ins (c 15) dx (putF "number" u0 fs))) a (.ins (c 15) dx (putF "table" u1 (putF "number" u0 fs)))) a (.ins (c 15) dx (putF "delay" u2 (putF "table" u1 (putF "number" u0 fs))))) a (.ins (c 15) dx (putF "tree" u3 (putF "delay" u2 (putF "table" u1 (putF "number" u0 fs)))))) t = some (.tup [u0, u1, u2, u3]) := (upd_ne (ne_of_none2 ht3 upd_same)).trans ht3
    have lp4 : (putF "tree" u3 (putF "delay" u2 (putF "table" u1 (putF "number" u0 fs)))).lookup ("parts" : Str) = some (.ref t) := (look_ne (by decide) _ _).trans lp3
    have dk4 : DK (upd (upd (upd H1 a (.ins (c 15) dx (putF "number" u0 fs))) a (.ins (c 15) dx (putF "table" u1 (putF "number" u0 fs)))) a (.ins (c 15) dx (putF "delay" u2 (putF "table" u1 (putF "number" u0 fs))))) (upd (upd (upd (upd H1 a (.ins (c 15) dx (putF "number" u0 fs))) a (.ins (c 15) dx (putF "table" u1 (putF "number" u0 fs)))) a (.ins (c 15) dx (putF "delay" u2 (putF "table" u1 (putF "number" u0 fs))))) a (.ins (c 15) dx (putF "tree" u3 (putF "delay" u2 (putF "table" u1 (putF "number" u0 fs)))))) := DK.ins upd_same fun b o n e => (upd_ne n).trans e
    refine q _ kp4 ⟨[u0, u1, u2, u3], t, ⟨dx, _, upd_same, ?_, fun p hp => ?_⟩, ht4, h6.keep (((dk1.trans dk2).trans dk3).trans dk4)⟩
    · have e0 := putF_len ("number" : Str) u0 fs
      have e1 := putF_len ("table" : Str) u1 (putF "number" u0 fs)
      have e2 := putF_len ("delay" : Str) u2 (putF "table" u1 (putF "number" u0 fs))
      have e3 := putF_len ("tree" : Str) u3 (putF "delay" u2 (putF "table" u1 (putF "number" u0 fs)))
      omega
    · simp only [List.cons_append, List.nil_append, List.zip_cons_cons, List.zip_nil_right, List.zip_nil_left, List.mem_cons, List.not_mem_nil, or_false] at hp
      rcases hp with rfl | rfl | rfl | rfl | rfl | rfl <;> dsimp only <;> repeat (first | exact look_same _ _ _ | exact h3 | exact h4 | refine (look_ne (by decide) _ _).trans ?_)
theorem nsS16 : NScope ["self", "tree", "__class__"] ["self", "tree"] ["__class__"] (C8.fnScope (mS 16 0)) := nscope_by (by decide +kernel)
theorem fn_sub16 (Z : Tz P K mg c f cc cda fE fB) (G_fixed : C8.Cal P w K mg base 9 "fixed" (spF 9) []) : ∃ (kV doc pm : Value) (an : Option Addr) (ct : Value), FnOk P w K mg base C8.CX0 12 (f 16) (PySem.W.fnX "__init__" (nmP 16 ++ ".__init__") (C8.fnArgs (mS 16 0)) (C8.fnBody (mS 16 0)) (C8.fnScope (mS 16 0)) [("__class__", cc 16)] .none kV doc pm an (.ref (cda 16)) ct) ["self", "tree"] (spSub (c 16) "never" ["tree"]) := by
  have S := Z.sf 16 (by decide) (by decide)
  have T : SupT (nfP 16 (cc 16) (cda 16)) := supT_of (show (((C8.fnArgs (mS 16 0)).posonlyargs ++ (C8.fnArgs (mS 16 0)).args).head?.map (·.arg) = some "self" ∧ (C8.fnScope (mS 16 0)).names.lookup ("super" : Str) = some .globalImplicit ∧ (C8.fnScope (mS 16 0)).names.lookup ("__class__" : Str) = some .free ∧ (C8.fnScope (mS 16 0)).names.lookup ("self" : Str) = some .local) by decide +kernel)
  have C := Z.sc 16 16 (by decide) (by decide) (by decide) (by decide)
  have F0 := fn_den (w := w) (base := base) Z G_fixed (show 16 < 35 by decide) (by decide)
  have cl := Z.cls (show 16 < 35 by decide)
  refine fn_supOk (P := P) (w := w) (mg := mg) (base := base) (N := ["self", "tree", "__class__"]) (k := 11) (ps := ["self", "tree"]) (st := (C8.fnBody (mS 16 0)).getD 0 (.Pass ⟨0, 0, 0, 0⟩)) (rest := (C8.fnBody (mS 16 0)).drop 1) (sp := spSub (c 16) "never" ["tree"]) S nsS16 (by rfl) (by rfl) (fun vs H Q E h => ?_) ?_
  · obtain ⟨a, dx, ps, ds, rfl, hl, _⟩ := h
    exact congrArg Nat.succ hl
  · intro A outer s H vs Q E hr h hN
    obtain ⟨a, dx, ps, ds, rfl, hl, ha, hd, hs, q⟩ := h
    obtain ⟨p0, rfl⟩ : ∃ p0, ps = [p0] := by
      match ps, hl with
      | [p0], _ => exact ⟨p0, rfl⟩
    refine ⟨_, (pss_one (ps_fld (pv 0) (pe_ix ix_tup (pe_fld (pv 0) rfl) pe_int (fun _ _ => rfl)) rfl)), fun s1 I => ?_⟩
    refine sup_stmt (X := ncx C8.CX0 P w K mg base ["self", "tree", "__class__"] (nfP 16 (cc 16) (cda 16)) (f 16) A outer s H E) (i := 0) (a := a) (C := c 16) (sup_ctx S T) C F0 (hr.mono (show 11 ≤ 11 by decide)) (pa_cons pe_str (pa_cons (pv 1) pa_nil)) I hN rfl ha (by decide) (by rfl) (by rfl) (by rfl) (by rfl) (by rfl) ?_ fun H' s' I' hq => ⟨rfl, H', I', hq⟩
    intro q0 nq
    have Sq := same_new nq (o := .met (f 1) a)
    refine ⟨p0, rfl, upd_same, a, dx, "never", [p0], ds, rfl, Sq _ _ ha, hd.same Sq, hs, by show 1 ≤ 5; decide, fun us t fs H1 kp h1 h2 h3 h4 h5 h6 => ?_⟩
    have hul : us.length = 1 := by
      rw [h6.len, List.length_map, ← hd.len]
      rfl
    obtain ⟨u0, rfl⟩ : ∃ u0, us = [u0] := by
      match us, hul with
      | [u0], _ => exact ⟨u0, rfl⟩
    have kp0 : ∀ b o, b ≠ a → H b = some o → H1 b = some o := fun b o n e => kp b o n (Sq _ _ e)
    have few0 : List.length fs < 1000 := by
      omega
    refine ⟨.ref a, rfl, a, c 16, dx, _, .ref t, rfl, h1, cl, Z.noA (show 16 < 35 by decide) (by decide), h4, t, _, 0, u0, rfl, rfl, SqT.of h5, atI_nat (j := 0) rfl, .ref a, rfl, a, c 16, dx, _, rfl, h1, cl, Z.noA (show 16 < 35 by decide) (by decide), few0, ?_⟩
    have kp1 : ∀ b o, b ≠ a → H b = some o → (upd H1 a (.ins (c 16) dx (putF "tree" u0 fs))) b = some o := fun b o n e => (upd_ne n).trans (kp0 b o n e)
    have ht1 : (upd H1 a (.ins (c 16) dx (putF "tree" u0 fs))) t = some (.tup [u0]) := (upd_ne (ne_of_none2 h5 h1)).trans h5
    have lp1 : (putF "tree" u0 fs).lookup ("parts" : Str) = some (.ref t) := (look_ne (by decide) _ _).trans h4
    have dk1 : DK H1 (upd H1 a (.ins (c 16) dx (putF "tree" u0 fs))) := DK.ins h1 fun b o n e => (upd_ne n).trans e
    refine q _ kp1 ⟨[u0], t, ⟨dx, _, upd_same, ?_, fun p hp => ?_⟩, ht1, h6.keep dk1⟩
    · have e0 := putF_len ("tree" : Str) u0 fs
      omega
    · simp only [List.cons_append, List.nil_append, List.zip_cons_cons, List.zip_nil_right, List.zip_nil_left, List.mem_cons, List.not_mem_nil, or_false] at hp
      rcases hp with rfl | rfl | rfl <;> dsimp only <;> repeat (first | exact look_same _ _ _ | exact h3 | exact h4 | refine (look_ne (by decide) _ _).trans ?_)
theorem nsS17 : NScope ["self", "points", "never", "steps", "__class__"] ["self", "points", "never", "steps"] ["__class__"] (C8.fnScope (mS 17 0)) := nscope_by (by decide +kernel)
theorem fn_sub17 (Z : Tz P K mg c f cc cda fE fB) (G_fixed : C8.Cal P w K mg base 9 "fixed" (spF 9) []) : ∃ (kV doc pm : Value) (an : Option Addr) (ct : Value), FnOk P w K mg base C8.CX0 12 (f 17) (PySem.W.fnX "__init__" (nmP 17 ++ ".__init__") (C8.fnArgs (mS 17 0)) (C8.fnBody (mS 17 0)) (C8.fnScope (mS 17 0)) [("__class__", cc 17)] .none kV doc pm an (.ref (cda 17)) ct) ["self", "points", "never", "steps"] (spSub (c 17) "delayfront" ["points", "never", "steps"]) := by
  have S := Z.sf 17 (by decide) (by decide)
  have T : SupT (nfP 17 (cc 17) (cda 17)) := supT_of (show (((C8.fnArgs (mS 17 0)).posonlyargs ++ (C8.fnArgs (mS 17 0)).args).head?.map (·.arg) = some "self" ∧ (C8.fnScope (mS 17 0)).names.lookup ("super" : Str) = some .globalImplicit ∧ (C8.fnScope (mS 17 0)).names.lookup ("__class__" : Str) = some .free ∧ (C8.fnScope (mS 17 0)).names.lookup ("self" : Str) = some .local) by decide +kernel)
  have C := Z.sc 17 17 (by decide) (by decide) (by decide) (by decide)
  have F0 := fn_pi (w := w) (base := base) Z G_fixed (show 17 < 35 by decide)
  have cl := Z.cls (show 17 < 35 by decide)
  refine fn_supOk (P := P) (w := w) (mg := mg) (base := base) (N := ["self", "points", "never", "steps", "__class__"]) (k := 11) (ps := ["self", "points", "never", "steps"]) (st := (C8.fnBody (mS 17 0)).getD 0 (.Pass ⟨0, 0, 0, 0⟩)) (rest := (C8.fnBody (mS 17 0)).drop 1) (sp := spSub (c 17) "delayfront" ["points", "never", "steps"]) S nsS17 (by rfl) (by rfl) (fun vs H Q E h => ?_) ?_
  · obtain ⟨a, dx, ps, ds, rfl, hl, _⟩ := h
    exact congrArg Nat.succ hl
  · intro A outer s H vs Q E hr h hN
    obtain ⟨a, dx, ps, ds, rfl, hl, ha, hd, hs, q⟩ := h
    obtain ⟨p0, p1, p2, rfl⟩ : ∃ p0 p1 p2, ps = [p0, p1, p2] := by
      match ps, hl with
      | [p0, p1, p2], _ => exact ⟨p0, p1, p2, rfl⟩
    refine ⟨_, (pss_cons (ps_fld (pv 0) (pe_ix ix_tup (pe_fld (pv 0) rfl) pe_int (fun _ _ => rfl)) rfl) (pss_cons (ps_fld (pv 0) (pe_ix ix_tup (pe_fld (pv 0) rfl) pe_int (fun _ _ => rfl)) rfl) (pss_one (ps_fld (pv 0) (pe_ix ix_tup (pe_fld (pv 0) rfl) pe_int (fun _ _ => rfl)) rfl)))), fun s1 I => ?_⟩
    refine sup_stmt (X := ncx C8.CX0 P w K mg base ["self", "points", "never", "steps", "__class__"] (nfP 17 (cc 17) (cda 17)) (f 17) A outer s H E) (i := 0) (a := a) (C := c 17) (sup_ctx S T) C F0 (hr.mono (show 10 ≤ 11 by decide)) (pa_cons pe_str (pa_cons (pv 1) (pa_cons (pv 2) (pa_cons (pv 3) pa_nil)))) I hN rfl ha (by decide) (by rfl) (by rfl) (by rfl) (by rfl) (by rfl) ?_ fun H' s' I' hq => ⟨rfl, H', I', hq⟩
    intro q0 nq
    have Sq := same_new nq (o := .met (f 0) a)
    refine ⟨p0, rfl, p1, rfl, p2, rfl, upd_same, a, dx, "delayfront", [p0, p1, p2], ds, rfl, Sq _ _ ha, hd.same Sq, hs, by show 3 ≤ 5; decide, fun us t fs H1 kp h1 h2 h3 h4 h5 h6 => ?_⟩
    have hul : us.length = 3 := by
      rw [h6.len, List.length_map, ← hd.len]
      rfl
    obtain ⟨u0, u1, u2, rfl⟩ : ∃ u0 u1 u2, us = [u0, u1, u2] := by
      match us, hul with
      | [u0, u1, u2], _ => exact ⟨u0, u1, u2, rfl⟩
    have kp0 : ∀ b o, b ≠ a → H b = some o → H1 b = some o := fun b o n e => kp b o n (Sq _ _ e)
    have few0 : List.length fs < 1000 := by
      omega
    refine ⟨.ref a, rfl, a, c 17, dx, _, .ref t, rfl, h1, cl, Z.noA (show 17 < 35 by decide) (by decide), h4, t, _, 0, u0, rfl, rfl, SqT.of h5, atI_nat (j := 0) rfl, .ref a, rfl, a, c 17, dx, _, rfl, h1, cl, Z.noA (show 17 < 35 by decide) (by decide), few0, ?_⟩
    have kp1 : ∀ b o, b ≠ a → H b = some o → (upd H1 a (.ins (c 17) dx (putF "points" u0 fs))) b = some o := fun b o n e => (upd_ne n).trans (kp0 b o n e)
    have ht1 : (upd H1 a (.ins (c 17) dx (putF "points" u0 fs))) t = some (.tup [u0, u1, u2]) := (upd_ne (ne_of_none2 h5 h1)).trans h5
    have lp1 : (putF "points" u0 fs).lookup ("parts" : Str) = some (.ref t) := (look_ne (by decide) _ _).trans h4
    have dk1 : DK H1 (upd H1 a (.ins (c 17) dx (putF "points" u0 fs))) := DK.ins h1 fun b o n e => (upd_ne n).trans e
    have few1 : List.length (putF "points" u0 fs) < 1000 := by
      have e0 := putF_len ("points" : Str) u0 fs
      omega
    refine ⟨.ref a, rfl, a, c 17, dx, _, .ref t, rfl, upd_same, cl, Z.noA (show 17 < 35 by decide) (by decide), lp1, t, _, 1, u1, rfl, rfl, SqT.of ht1, atI_nat (j := 1) rfl, .ref a, rfl, a, c 17, dx, _, rfl, upd_same, cl, Z.noA (show 17 < 35 by decide) (by decide), few1, ?_⟩
    have kp2 : ∀ b o, b ≠ a → H b = some o → (upd (upd H1 a (.ins (c 17) dx (putF "points" u0 fs))) a (.ins (c 17) dx (putF "never" u1 (putF "points" u0 fs)))) b = some o := fun b o n e => (upd_ne n).trans (kp1 b o n e)
    have ht2 : (upd (upd H1 a (.ins (c 17) dx (putF "points" u0 fs))) a (.ins (c 17) dx (putF "never" u1 (putF "points" u0 fs)))) t = some (.tup [u0, u1, u2]) := (upd_ne (ne_of_none2 ht1 upd_same)).trans ht1
    have lp2 : (putF "never" u1 (putF "points" u0 fs)).lookup ("parts" : Str) = some (.ref t) := (look_ne (by decide) _ _).trans lp1
    have dk2 : DK (upd H1 a (.ins (c 17) dx (putF "points" u0 fs))) (upd (upd H1 a (.ins (c 17) dx (putF "points" u0 fs))) a (.ins (c 17) dx (putF "never" u1 (putF "points" u0 fs)))) := DK.ins upd_same fun b o n e => (upd_ne n).trans e
    have few2 : List.length (putF "never" u1 (putF "points" u0 fs)) < 1000 := by
      have e0 := putF_len ("points" : Str) u0 fs
      have e1 := putF_len ("never" : Str) u1 (putF "points" u0 fs)
      omega
    refine ⟨.ref a, rfl, a, c 17, dx, _, .ref t, rfl, upd_same, cl, Z.noA (show 17 < 35 by decide) (by decide), lp2, t, _, 2, u2, rfl, rfl, SqT.of ht2, atI_nat (j := 2) rfl, .ref a, rfl, a, c 17, dx, _, rfl, upd_same, cl, Z.noA (show 17 < 35 by decide) (by decide), few2, ?_⟩
    have kp3 : ∀ b o, b ≠ a → H b = some o → (upd (upd (upd H1 a (.ins (c 17) dx (putF "points" u0 fs))) a (.ins (c 17) dx (putF "never" u1 (putF "points" u0 fs)))) a (.ins (c 17) dx (putF "steps" u2 (putF "never" u1 (putF "points" u0 fs))))) b = some o := fun b o n e => (upd_ne n).trans (kp2 b o n e)
    have ht3 : (upd (upd (upd H1 a (.ins (c 17) dx (putF "points" u0 fs))) a (.ins (c 17) dx (putF "never" u1 (putF "points" u0 fs)))) a (.ins (c 17) dx (putF "steps" u2 (putF "never" u1 (putF "points" u0 fs))))) t = some (.tup [u0, u1, u2]) := (upd_ne (ne_of_none2 ht2 upd_same)).trans ht2
    have lp3 : (putF "steps" u2 (putF "never" u1 (putF "points" u0 fs))).lookup ("parts" : Str) = some (.ref t) := (look_ne (by decide) _ _).trans lp2
    have dk3 : DK (upd (upd H1 a (.ins (c 17) dx (putF "points" u0 fs))) a (.ins (c 17) dx (putF "never" u1 (putF "points" u0 fs)))) (upd (upd (upd H1 a (.ins (c 17) dx (putF "points" u0 fs))) a (.ins (c 17) dx (putF "never" u1 (putF "points" u0 fs)))) a (.ins (c 17) dx (putF "steps" u2 (putF "never" u1 (putF "points" u0 fs))))) := DK.ins upd_same fun b o n e => (upd_ne n).trans e
    refine q _ kp3 ⟨[u0, u1, u2], t, ⟨dx, _, upd_same, ?_, fun p hp => ?_⟩, ht3, h6.keep ((dk1.trans dk2).trans dk3)⟩
    · have e0 := putF_len ("points" : Str) u0 fs
      have e1 := putF_len ("never" : Str) u1 (putF "points" u0 fs)
      have e2 := putF_len ("steps" : Str) u2 (putF "never" u1 (putF "points" u0 fs))
      omega
    · simp only [List.cons_append, List.nil_append, List.zip_cons_cons, List.zip_nil_right, List.zip_nil_left, List.mem_cons, List.not_mem_nil, or_false] at hp
      rcases hp with rfl | rfl | rfl | rfl | rfl <;> dsimp only <;> repeat (first | exact look_same _ _ _ | exact h3 | exact h4 | refine (look_ne (by decide) _ _).trans ?_)
theorem nsS18 : NScope ["self", "closed", "__class__"] ["self", "closed"] ["__class__"] (C8.fnScope (mS 18 0)) := nscope_by (by decide +kernel)
theorem fn_sub18 (Z : Tz P K mg c f cc cda fE fB) (G_fixed : C8.Cal P w K mg base 9 "fixed" (spF 9) []) : ∃ (kV doc pm : Value) (an : Option Addr) (ct : Value), FnOk P w K mg base C8.CX0 12 (f 18) (PySem.W.fnX "__init__" (nmP 18 ++ ".__init__") (C8.fnArgs (mS 18 0)) (C8.fnBody (mS 18 0)) (C8.fnScope (mS 18 0)) [("__class__", cc 18)] .none kV doc pm an (.ref (cda 18)) ct) ["self", "closed"] (spSub (c 18) "handed" ["closed"]) := by
  have S := Z.sf 18 (by decide) (by decide)
  have T : SupT (nfP 18 (cc 18) (cda 18)) := supT_of (show (((C8.fnArgs (mS 18 0)).posonlyargs ++ (C8.fnArgs (mS 18 0)).args).head?.map (·.arg) = some "self" ∧ (C8.fnScope (mS 18 0)).names.lookup ("super" : Str) = some .globalImplicit ∧ (C8.fnScope (mS 18 0)).names.lookup ("__class__" : Str) = some .free ∧ (C8.fnScope (mS 18 0)).names.lookup ("self" : Str) = some .local) by decide +kernel)
  have C := Z.sc 18 18 (by decide) (by decide) (by decide) (by decide)
  have F0 := fn_pi (w := w) (base := base) Z G_fixed (show 18 < 35 by decide)
  have cl := Z.cls (show 18 < 35 by decide)
  refine fn_supOk (P := P) (w := w) (mg := mg) (base := base) (N := ["self", "closed", "__class__"]) (k := 11) (ps := ["self", "closed"]) (st := (C8.fnBody (mS 18 0)).getD 0 (.Pass ⟨0, 0, 0, 0⟩)) (rest := (C8.fnBody (mS 18 0)).drop 1) (sp := spSub (c 18) "handed" ["closed"]) S nsS18 (by rfl) (by rfl) (fun vs H Q E h => ?_) ?_
  · obtain ⟨a, dx, ps, ds, rfl, hl, _⟩ := h
    exact congrArg Nat.succ hl
  · intro A outer s H vs Q E hr h hN
    obtain ⟨a, dx, ps, ds, rfl, hl, ha, hd, hs, q⟩ := h
    obtain ⟨p0, rfl⟩ : ∃ p0, ps = [p0] := by
      match ps, hl with
      | [p0], _ => exact ⟨p0, rfl⟩
    refine ⟨_, (pss_one (ps_fld (pv 0) (pe_ix ix_tup (pe_fld (pv 0) rfl) pe_int (fun _ _ => rfl)) rfl)), fun s1 I => ?_⟩
    refine sup_stmt (X := ncx C8.CX0 P w K mg base ["self", "closed", "__class__"] (nfP 18 (cc 18) (cda 18)) (f 18) A outer s H E) (i := 0) (a := a) (C := c 18) (sup_ctx S T) C F0 (hr.mono (show 10 ≤ 11 by decide)) (pa_cons pe_str (pa_cons (pv 1) pa_nil)) I hN rfl ha (by decide) (by rfl) (by rfl) (by rfl) (by rfl) (by rfl) ?_ fun H' s' I' hq => ⟨rfl, H', I', hq⟩
    intro q0 nq
    have Sq := same_new nq (o := .met (f 0) a)
    refine ⟨p0, rfl, upd_same, a, dx, "handed", [p0], ds, rfl, Sq _ _ ha, hd.same Sq, hs, by show 1 ≤ 5; decide, fun us t fs H1 kp h1 h2 h3 h4 h5 h6 => ?_⟩
    have hul : us.length = 1 := by
      rw [h6.len, List.length_map, ← hd.len]
      rfl
    obtain ⟨u0, rfl⟩ : ∃ u0, us = [u0] := by
      match us, hul with
      | [u0], _ => exact ⟨u0, rfl⟩
    have kp0 : ∀ b o, b ≠ a → H b = some o → H1 b = some o := fun b o n e => kp b o n (Sq _ _ e)
    have few0 : List.length fs < 1000 := by
      omega
    refine ⟨.ref a, rfl, a, c 18, dx, _, .ref t, rfl, h1, cl, Z.noA (show 18 < 35 by decide) (by decide), h4, t, _, 0, u0, rfl, rfl, SqT.of h5, atI_nat (j := 0) rfl, .ref a, rfl, a, c 18, dx, _, rfl, h1, cl, Z.noA (show 18 < 35 by decide) (by decide), few0, ?_⟩
    have kp1 : ∀ b o, b ≠ a → H b = some o → (upd H1 a (.ins (c 18) dx (putF "closed" u0 fs))) b = some o := fun b o n e => (upd_ne n).trans (kp0 b o n e)
    have ht1 : (upd H1 a (.ins (c 18) dx (putF "closed" u0 fs))) t = some (.tup [u0]) := (upd_ne (ne_of_none2 h5 h1)).trans h5
    have lp1 : (putF "closed" u0 fs).lookup ("parts" : Str) = some (.ref t) := (look_ne (by decide) _ _).trans h4
    have dk1 : DK H1 (upd H1 a (.ins (c 18) dx (putF "closed" u0 fs))) := DK.ins h1 fun b o n e => (upd_ne n).trans e
    refine q _ kp1 ⟨[u0], t, ⟨dx, _, upd_same, ?_, fun p hp => ?_⟩, ht1, h6.keep dk1⟩
    · have e0 := putF_len ("closed" : Str) u0 fs
      omega
    · simp only [List.cons_append, List.nil_append, List.zip_cons_cons, List.zip_nil_right, List.zip_nil_left, List.mem_cons, List.not_mem_nil, or_false] at hp
      rcases hp with rfl | rfl | rfl <;> dsimp only <;> repeat (first | exact look_same _ _ _ | exact h3 | exact h4 | refine (look_ne (by decide) _ _).trans ?_)
theorem nsS19 : NScope ["self", "first", "states", "places", "__class__"] ["self", "first", "states", "places"] ["__class__"] (C8.fnScope (mS 19 0)) := nscope_by (by decide +kernel)
theorem fn_sub19 (Z : Tz P K mg c f cc cda fE fB) (G_fixed : C8.Cal P w K mg base 9 "fixed" (spF 9) []) : ∃ (kV doc pm : Value) (an : Option Addr) (ct : Value), FnOk P w K mg base C8.CX0 12 (f 19) (PySem.W.fnX "__init__" (nmP 19 ++ ".__init__") (C8.fnArgs (mS 19 0)) (C8.fnBody (mS 19 0)) (C8.fnScope (mS 19 0)) [("__class__", cc 19)] .none kV doc pm an (.ref (cda 19)) ct) ["self", "first", "states", "places"] (spSub (c 19) "dropped" ["first", "states", "places"]) := by
  have S := Z.sf 19 (by decide) (by decide)
  have T : SupT (nfP 19 (cc 19) (cda 19)) := supT_of (show (((C8.fnArgs (mS 19 0)).posonlyargs ++ (C8.fnArgs (mS 19 0)).args).head?.map (·.arg) = some "self" ∧ (C8.fnScope (mS 19 0)).names.lookup ("super" : Str) = some .globalImplicit ∧ (C8.fnScope (mS 19 0)).names.lookup ("__class__" : Str) = some .free ∧ (C8.fnScope (mS 19 0)).names.lookup ("self" : Str) = some .local) by decide +kernel)
  have C := Z.sc 19 19 (by decide) (by decide) (by decide) (by decide)
  have F0 := fn_den (w := w) (base := base) Z G_fixed (show 19 < 35 by decide) (by decide)
  have cl := Z.cls (show 19 < 35 by decide)
  refine fn_supOk (P := P) (w := w) (mg := mg) (base := base) (N := ["self", "first", "states", "places", "__class__"]) (k := 11) (ps := ["self", "first", "states", "places"]) (st := (C8.fnBody (mS 19 0)).getD 0 (.Pass ⟨0, 0, 0, 0⟩)) (rest := (C8.fnBody (mS 19 0)).drop 1) (sp := spSub (c 19) "dropped" ["first", "states", "places"]) S nsS19 (by rfl) (by rfl) (fun vs H Q E h => ?_) ?_
  · obtain ⟨a, dx, ps, ds, rfl, hl, _⟩ := h
    exact congrArg Nat.succ hl
  · intro A outer s H vs Q E hr h hN
    obtain ⟨a, dx, ps, ds, rfl, hl, ha, hd, hs, q⟩ := h
    obtain ⟨p0, p1, p2, rfl⟩ : ∃ p0 p1 p2, ps = [p0, p1, p2] := by
      match ps, hl with
      | [p0, p1, p2], _ => exact ⟨p0, p1, p2, rfl⟩
    refine ⟨_, (pss_cons (ps_fld (pv 0) (pe_ix ix_tup (pe_fld (pv 0) rfl) pe_int (fun _ _ => rfl)) rfl) (pss_cons (ps_fld (pv 0) (pe_ix ix_tup (pe_fld (pv 0) rfl) pe_int (fun _ _ => rfl)) rfl) (pss_one (ps_fld (pv 0) (pe_ix ix_tup (pe_fld (pv 0) rfl) pe_int (fun _ _ => rfl)) rfl)))), fun s1 I => ?_⟩
    refine sup_stmt (X := ncx C8.CX0 P w K mg base ["self", "first", "states", "places", "__class__"] (nfP 19 (cc 19) (cda 19)) (f 19) A outer s H E) (i := 0) (a := a) (C := c 19) (sup_ctx S T) C F0 (hr.mono (show 11 ≤ 11 by decide)) (pa_cons pe_str (pa_cons (pv 1) (pa_cons (pv 2) (pa_cons (pv 3) pa_nil)))) I hN rfl ha (by decide) (by rfl) (by rfl) (by rfl) (by rfl) (by rfl) ?_ fun H' s' I' hq => ⟨rfl, H', I', hq⟩
    intro q0 nq
    have Sq := same_new nq (o := .met (f 1) a)
    refine ⟨p0, rfl, p1, rfl, p2, rfl, upd_same, a, dx, "dropped", [p0, p1, p2], ds, rfl, Sq _ _ ha, hd.same Sq, hs, by show 3 ≤ 5; decide, fun us t fs H1 kp h1 h2 h3 h4 h5 h6 => ?_⟩
    have hul : us.length = 3 := by
      rw [h6.len, List.length_map, ← hd.len]
      rfl
    obtain ⟨u0, u1, u2, rfl⟩ : ∃ u0 u1 u2, us = [u0, u1, u2] := by
      match us, hul with
      | [u0, u1, u2], _ => exact ⟨u0, u1, u2, rfl⟩
    have kp0 : ∀ b o, b ≠ a → H b = some o → H1 b = some o := fun b o n e => kp b o n (Sq _ _ e)
    have few0 : List.length fs < 1000 := by
      omega
    refine ⟨.ref a, rfl, a, c 19, dx, _, .ref t, rfl, h1, cl, Z.noA (show 19 < 35 by decide) (by decide), h4, t, _, 0, u0, rfl, rfl, SqT.of h5, atI_nat (j := 0) rfl, .ref a, rfl, a, c 19, dx, _, rfl, h1, cl, Z.noA (show 19 < 35 by decide) (by decide), few0, ?_⟩
    have kp1 : ∀ b o, b ≠ a → H b = some o → (upd H1 a (.ins (c 19) dx (putF "first" u0 fs))) b = some o := fun b o n e => (upd_ne n).trans (kp0 b o n e)
    have ht1 : (upd H1 a (.ins (c 19) dx (putF "first" u0 fs))) t = some (.tup [u0, u1, u2]) := (upd_ne (ne_of_none2 h5 h1)).trans h5
    have lp1 : (putF "first" u0 fs).lookup ("parts" : Str) = some (.ref t) := (look_ne (by decide) _ _).trans h4
    have dk1 : DK H1 (upd H1 a (.ins (c 19) dx (putF "first" u0 fs))) := DK.ins h1 fun b o n e => (upd_ne n).trans e
    have few1 : List.length (putF "first" u0 fs) < 1000 := by
      have e0 := putF_len ("first" : Str) u0 fs
      omega
    refine ⟨.ref a, rfl, a, c 19, dx, _, .ref t, rfl, upd_same, cl, Z.noA (show 19 < 35 by decide) (by decide), lp1, t, _, 1, u1, rfl, rfl, SqT.of ht1, atI_nat (j := 1) rfl, .ref a, rfl, a, c 19, dx, _, rfl, upd_same, cl, Z.noA (show 19 < 35 by decide) (by decide), few1, ?_⟩
    have kp2 : ∀ b o, b ≠ a → H b = some o → (upd (upd H1 a (.ins (c 19) dx (putF "first" u0 fs))) a (.ins (c 19) dx (putF "states" u1 (putF "first" u0 fs)))) b = some o := fun b o n e => (upd_ne n).trans (kp1 b o n e)
    have ht2 : (upd (upd H1 a (.ins (c 19) dx (putF "first" u0 fs))) a (.ins (c 19) dx (putF "states" u1 (putF "first" u0 fs)))) t = some (.tup [u0, u1, u2]) := (upd_ne (ne_of_none2 ht1 upd_same)).trans ht1
    have lp2 : (putF "states" u1 (putF "first" u0 fs)).lookup ("parts" : Str) = some (.ref t) := (look_ne (by decide) _ _).trans lp1
    have dk2 : DK (upd H1 a (.ins (c 19) dx (putF "first" u0 fs))) (upd (upd H1 a (.ins (c 19) dx (putF "first" u0 fs))) a (.ins (c 19) dx (putF "states" u1 (putF "first" u0 fs)))) := DK.ins upd_same fun b o n e => (upd_ne n).trans e
    have few2 : List.length (putF "states" u1 (putF "first" u0 fs)) < 1000 := by
      have e0 := putF_len ("first" : Str) u0 fs
      have e1 := putF_len ("states" : Str) u1 (putF "first" u0 fs)
      omega
    refine ⟨.ref a, rfl, a, c 19, dx, _, .ref t, rfl, upd_same, cl, Z.noA (show 19 < 35 by decide) (by decide), lp2, t, _, 2, u2, rfl, rfl, SqT.of ht2, atI_nat (j := 2) rfl, .ref a, rfl, a, c 19, dx, _, rfl, upd_same, cl, Z.noA (show 19 < 35 by decide) (by decide), few2, ?_⟩
    have kp3 : ∀ b o, b ≠ a → H b = some o → (upd (upd (upd H1 a (.ins (c 19) dx (putF "first" u0 fs))) a (.ins (c 19) dx (putF "states" u1 (putF "first" u0 fs)))) a (.ins (c 19) dx (putF "places" u2 (putF "states" u1 (putF "first" u0 fs))))) b = some o := fun b o n e => (upd_ne n).trans (kp2 b o n e)
    have ht3 : (upd (upd (upd H1 a (.ins (c 19) dx (putF "first" u0 fs))) a (.ins (c 19) dx (putF "states" u1 (putF "first" u0 fs)))) a (.ins (c 19) dx (putF "places" u2 (putF "states" u1 (putF "first" u0 fs))))) t = some (.tup [u0, u1, u2]) := (upd_ne (ne_of_none2 ht2 upd_same)).trans ht2
    have lp3 : (putF "places" u2 (putF "states" u1 (putF "first" u0 fs))).lookup ("parts" : Str) = some (.ref t) := (look_ne (by decide) _ _).trans lp2
    have dk3 : DK (upd (upd H1 a (.ins (c 19) dx (putF "first" u0 fs))) a (.ins (c 19) dx (putF "states" u1 (putF "first" u0 fs)))) (upd (upd (upd H1 a (.ins (c 19) dx (putF "first" u0 fs))) a (.ins (c 19) dx (putF "states" u1 (putF "first" u0 fs)))) a (.ins (c 19) dx (putF "places" u2 (putF "states" u1 (putF "first" u0 fs))))) := DK.ins upd_same fun b o n e => (upd_ne n).trans e
    refine q _ kp3 ⟨[u0, u1, u2], t, ⟨dx, _, upd_same, ?_, fun p hp => ?_⟩, ht3, h6.keep ((dk1.trans dk2).trans dk3)⟩
    · have e0 := putF_len ("first" : Str) u0 fs
      have e1 := putF_len ("states" : Str) u1 (putF "first" u0 fs)
      have e2 := putF_len ("places" : Str) u2 (putF "states" u1 (putF "first" u0 fs))
      omega
    · simp only [List.cons_append, List.nil_append, List.zip_cons_cons, List.zip_nil_right, List.zip_nil_left, List.mem_cons, List.not_mem_nil, or_false] at hp
      rcases hp with rfl | rfl | rfl | rfl | rfl <;> dsimp only <;> repeat (first | exact look_same _ _ _ | exact h3 | exact h4 | refine (look_ne (by decide) _ _).trans ?_)
theorem nsS20 : NScope ["self", "stands", "__class__"] ["self", "stands"] ["__class__"] (C8.fnScope (mS 20 0)) := nscope_by (by decide +kernel)
theorem fn_sub20 (Z : Tz P K mg c f cc cda fE fB) (G_fixed : C8.Cal P w K mg base 9 "fixed" (spF 9) []) : ∃ (kV doc pm : Value) (an : Option Addr) (ct : Value), FnOk P w K mg base C8.CX0 12 (f 20) (PySem.W.fnX "__init__" (nmP 20 ++ ".__init__") (C8.fnArgs (mS 20 0)) (C8.fnBody (mS 20 0)) (C8.fnScope (mS 20 0)) [("__class__", cc 20)] .none kV doc pm an (.ref (cda 20)) ct) ["self", "stands"] (spSub (c 20) "safe" ["stands"]) := by
  have S := Z.sf 20 (by decide) (by decide)
  have T : SupT (nfP 20 (cc 20) (cda 20)) := supT_of (show (((C8.fnArgs (mS 20 0)).posonlyargs ++ (C8.fnArgs (mS 20 0)).args).head?.map (·.arg) = some "self" ∧ (C8.fnScope (mS 20 0)).names.lookup ("super" : Str) = some .globalImplicit ∧ (C8.fnScope (mS 20 0)).names.lookup ("__class__" : Str) = some .free ∧ (C8.fnScope (mS 20 0)).names.lookup ("self" : Str) = some .local) by decide +kernel)
  have C := Z.sc 20 20 (by decide) (by decide) (by decide) (by decide)
  have F0 := fn_pi (w := w) (base := base) Z G_fixed (show 20 < 35 by decide)
  have cl := Z.cls (show 20 < 35 by decide)
  refine fn_supOk (P := P) (w := w) (mg := mg) (base := base) (N := ["self", "stands", "__class__"]) (k := 11) (ps := ["self", "stands"]) (st := (C8.fnBody (mS 20 0)).getD 0 (.Pass ⟨0, 0, 0, 0⟩)) (rest := (C8.fnBody (mS 20 0)).drop 1) (sp := spSub (c 20) "safe" ["stands"]) S nsS20 (by rfl) (by rfl) (fun vs H Q E h => ?_) ?_
  · obtain ⟨a, dx, ps, ds, rfl, hl, _⟩ := h
    exact congrArg Nat.succ hl
  · intro A outer s H vs Q E hr h hN
    obtain ⟨a, dx, ps, ds, rfl, hl, ha, hd, hs, q⟩ := h
    obtain ⟨p0, rfl⟩ : ∃ p0, ps = [p0] := by
      match ps, hl with
      | [p0], _ => exact ⟨p0, rfl⟩
    refine ⟨_, (pss_one (ps_fld (pv 0) (pe_ix ix_tup (pe_fld (pv 0) rfl) pe_int (fun _ _ => rfl)) rfl)), fun s1 I => ?_⟩
    refine sup_stmt (X := ncx C8.CX0 P w K mg base ["self", "stands", "__class__"] (nfP 20 (cc 20) (cda 20)) (f 20) A outer s H E) (i := 0) (a := a) (C := c 20) (sup_ctx S T) C F0 (hr.mono (show 10 ≤ 11 by decide)) (pa_cons pe_str (pa_cons (pv 1) pa_nil)) I hN rfl ha (by decide) (by rfl) (by rfl) (by rfl) (by rfl) (by rfl) ?_ fun H' s' I' hq => ⟨rfl, H', I', hq⟩
    intro q0 nq
    have Sq := same_new nq (o := .met (f 0) a)
    refine ⟨p0, rfl, upd_same, a, dx, "safe", [p0], ds, rfl, Sq _ _ ha, hd.same Sq, hs, by show 1 ≤ 5; decide, fun us t fs H1 kp h1 h2 h3 h4 h5 h6 => ?_⟩
    have hul : us.length = 1 := by
      rw [h6.len, List.length_map, ← hd.len]
      rfl
    obtain ⟨u0, rfl⟩ : ∃ u0, us = [u0] := by
      match us, hul with
      | [u0], _ => exact ⟨u0, rfl⟩
    have kp0 : ∀ b o, b ≠ a → H b = some o → H1 b = some o := fun b o n e => kp b o n (Sq _ _ e)
    have few0 : List.length fs < 1000 := by
      omega
    refine ⟨.ref a, rfl, a, c 20, dx, _, .ref t, rfl, h1, cl, Z.noA (show 20 < 35 by decide) (by decide), h4, t, _, 0, u0, rfl, rfl, SqT.of h5, atI_nat (j := 0) rfl, .ref a, rfl, a, c 20, dx, _, rfl, h1, cl, Z.noA (show 20 < 35 by decide) (by decide), few0, ?_⟩
    have kp1 : ∀ b o, b ≠ a → H b = some o → (upd H1 a (.ins (c 20) dx (putF "stands" u0 fs))) b = some o := fun b o n e => (upd_ne n).trans (kp0 b o n e)
    have ht1 : (upd H1 a (.ins (c 20) dx (putF "stands" u0 fs))) t = some (.tup [u0]) := (upd_ne (ne_of_none2 h5 h1)).trans h5
    have lp1 : (putF "stands" u0 fs).lookup ("parts" : Str) = some (.ref t) := (look_ne (by decide) _ _).trans h4
    have dk1 : DK H1 (upd H1 a (.ins (c 20) dx (putF "stands" u0 fs))) := DK.ins h1 fun b o n e => (upd_ne n).trans e
    refine q _ kp1 ⟨[u0], t, ⟨dx, _, upd_same, ?_, fun p hp => ?_⟩, ht1, h6.keep dk1⟩
    · have e0 := putF_len ("stands" : Str) u0 fs
      omega
    · simp only [List.cons_append, List.nil_append, List.zip_cons_cons, List.zip_nil_right, List.zip_nil_left, List.mem_cons, List.not_mem_nil, or_false] at hp
      rcases hp with rfl | rfl | rfl <;> dsimp only <;> repeat (first | exact look_same _ _ _ | exact h3 | exact h4 | refine (look_ne (by decide) _ _).trans ?_)
theorem nsS21 : NScope ["self", "states", "deeds", "__class__"] ["self", "states", "deeds"] ["__class__"] (C8.fnScope (mS 21 0)) := nscope_by (by decide +kernel)
theorem fn_sub21 (Z : Tz P K mg c f cc cda fE fB) (G_fixed : C8.Cal P w K mg base 9 "fixed" (spF 9) []) : ∃ (kV doc pm : Value) (an : Option Addr) (ct : Value), FnOk P w K mg base C8.CX0 12 (f 21) (PySem.W.fnX "__init__" (nmP 21 ++ ".__init__") (C8.fnArgs (mS 21 0)) (C8.fnBody (mS 21 0)) (C8.fnScope (mS 21 0)) [("__class__", cc 21)] .none kV doc pm an (.ref (cda 21)) ct) ["self", "states", "deeds"] (spSub (c 21) "unsafe" ["states", "deeds"]) := by
  have S := Z.sf 21 (by decide) (by decide)
  have T : SupT (nfP 21 (cc 21) (cda 21)) := supT_of (show (((C8.fnArgs (mS 21 0)).posonlyargs ++ (C8.fnArgs (mS 21 0)).args).head?.map (·.arg) = some "self" ∧ (C8.fnScope (mS 21 0)).names.lookup ("super" : Str) = some .globalImplicit ∧ (C8.fnScope (mS 21 0)).names.lookup ("__class__" : Str) = some .free ∧ (C8.fnScope (mS 21 0)).names.lookup ("self" : Str) = some .local) by decide +kernel)
  have C := Z.sc 21 21 (by decide) (by decide) (by decide) (by decide)
  have F0 := fn_den (w := w) (base := base) Z G_fixed (show 21 < 35 by decide) (by decide)
  have cl := Z.cls (show 21 < 35 by decide)
  refine fn_supOk (P := P) (w := w) (mg := mg) (base := base) (N := ["self", "states", "deeds", "__class__"]) (k := 11) (ps := ["self", "states", "deeds"]) (st := (C8.fnBody (mS 21 0)).getD 0 (.Pass ⟨0, 0, 0, 0⟩)) (rest := (C8.fnBody (mS 21 0)).drop 1) (sp := spSub (c 21) "unsafe" ["states", "deeds"]) S nsS21 (by rfl) (by rfl) (fun vs H Q E h => ?_) ?_
  · obtain ⟨a, dx, ps, ds, rfl, hl, _⟩ := h
    exact congrArg Nat.succ hl
  · intro A outer s H vs Q E hr h hN
    obtain ⟨a, dx, ps, ds, rfl, hl, ha, hd, hs, q⟩ := h
    obtain ⟨p0, p1, rfl⟩ : ∃ p0 p1, ps = [p0, p1] := by
      match ps, hl with
      | [p0, p1], _ => exact ⟨p0, p1, rfl⟩
    refine ⟨_, (pss_cons (ps_fld (pv 0) (pe_ix ix_tup (pe_fld (pv 0) rfl) pe_int (fun _ _ => rfl)) rfl) (pss_one (ps_fld (pv 0) (pe_ix ix_tup (pe_fld (pv 0) rfl) pe_int (fun _ _ => rfl)) rfl))), fun s1 I => ?_⟩
    refine sup_stmt (X := ncx C8.CX0 P w K mg base ["self", "states", "deeds", "__class__"] (nfP 21 (cc 21) (cda 21)) (f 21) A outer s H E) (i := 0) (a := a) (C := c 21) (sup_ctx S T) C F0 (hr.mono (show 11 ≤ 11 by decide)) (pa_cons pe_str (pa_cons (pv 1) (pa_cons (pv 2) pa_nil))) I hN rfl ha (by decide) (by rfl) (by rfl) (by rfl) (by rfl) (by rfl) ?_ fun H' s' I' hq => ⟨rfl, H', I', hq⟩
    intro q0 nq
    have Sq := same_new nq (o := .met (f 1) a)
    refine ⟨p0, rfl, p1, rfl, upd_same, a, dx, "unsafe", [p0, p1], ds, rfl, Sq _ _ ha, hd.same Sq, hs, by show 2 ≤ 5; decide, fun us t fs H1 kp h1 h2 h3 h4 h5 h6 => ?_⟩
    have hul : us.length = 2 := by
      rw [h6.len, List.length_map, ← hd.len]
      rfl
    obtain ⟨u0, u1, rfl⟩ : ∃ u0 u1, us = [u0, u1] := by
      match us, hul with
      | [u0, u1], _ => exact ⟨u0, u1, rfl⟩
    have kp0 : ∀ b o, b ≠ a → H b = some o → H1 b = some o := fun b o n e => kp b o n (Sq _ _ e)
    have few0 : List.length fs < 1000 := by
      omega
    refine ⟨.ref a, rfl, a, c 21, dx, _, .ref t, rfl, h1, cl, Z.noA (show 21 < 35 by decide) (by decide), h4, t, _, 0, u0, rfl, rfl, SqT.of h5, atI_nat (j := 0) rfl, .ref a, rfl, a, c 21, dx, _, rfl, h1, cl, Z.noA (show 21 < 35 by decide) (by decide), few0, ?_⟩
    have kp1 : ∀ b o, b ≠ a → H b = some o → (upd H1 a (.ins (c 21) dx (putF "states" u0 fs))) b = some o := fun b o n e => (upd_ne n).trans (kp0 b o n e)
    have ht1 : (upd H1 a (.ins (c 21) dx (putF "states" u0 fs))) t = some (.tup [u0, u1]) := (upd_ne (ne_of_none2 h5 h1)).trans h5
    have lp1 : (putF "states" u0 fs).lookup ("parts" : Str) = some (.ref t) := (look_ne (by decide) _ _).trans h4
    have dk1 : DK H1 (upd H1 a (.ins (c 21) dx (putF "states" u0 fs))) := DK.ins h1 fun b o n e => (upd_ne n).trans e
    have few1 : List.length (putF "states" u0 fs) < 1000 := by
      have e0 := putF_len ("states" : Str) u0 fs
      omega
    refine ⟨.ref a, rfl, a, c 21, dx, _, .ref t, rfl, upd_same, cl, Z.noA (show 21 < 35 by decide) (by decide), lp1, t, _, 1, u1, rfl, rfl, SqT.of ht1, atI_nat (j := 1) rfl, .ref a, rfl, a, c 21, dx, _, rfl, upd_same, cl, Z.noA (show 21 < 35 by decide) (by decide), few1, ?_⟩
    have kp2 : ∀ b o, b ≠ a → H b = some o → (upd (upd H1 a (.ins (c 21) dx (putF "states" u0 fs))) a (.ins (c 21) dx (putF "deeds" u1 (putF "states" u0 fs)))) b = some o := fun b o n e => (upd_ne n).trans (kp1 b o n e)
    have ht2 : (upd (upd H1 a (.ins (c 21) dx (putF "states" u0 fs))) a (.ins (c 21) dx (putF "deeds" u1 (putF "states" u0 fs)))) t = some (.tup [u0, u1]) := (upd_ne (ne_of_none2 ht1 upd_same)).trans ht1
    have lp2 : (putF "deeds" u1 (putF "states" u0 fs)).lookup ("parts" : Str) = some (.ref t) := (look_ne (by decide) _ _).trans lp1
    have dk2 : DK (upd H1 a (.ins (c 21) dx (putF "states" u0 fs))) (upd (upd H1 a (.ins (c 21) dx (putF "states" u0 fs))) a (.ins (c 21) dx (putF "deeds" u1 (putF "states" u0 fs)))) := DK.ins upd_same fun b o n e => (upd_ne n).trans e
    refine q _ kp2 ⟨[u0, u1], t, ⟨dx, _, upd_same, ?_, fun p hp => ?_⟩, ht2, h6.keep (dk1.trans dk2)⟩
    · have e0 := putF_len ("states" : Str) u0 fs
      have e1 := putF_len ("deeds" : Str) u1 (putF "states" u0 fs)
      omega
    · simp only [List.cons_append, List.nil_append, List.zip_cons_cons, List.zip_nil_right, List.zip_nil_left, List.mem_cons, List.not_mem_nil, or_false] at hp
      rcases hp with rfl | rfl | rfl | rfl <;> dsimp only <;> repeat (first | exact look_same _ _ _ | exact h3 | exact h4 | refine (look_ne (by decide) _ _).trans ?_)
theorem nsS22 : NScope ["self", "pairs", "__class__"] ["self", "pairs"] ["__class__"] (C8.fnScope (mS 22 0)) := nscope_by (by decide +kernel)
theorem fn_sub22 (Z : Tz P K mg c f cc cda fE fB) (G_fixed : C8.Cal P w K mg base 9 "fixed" (spF 9) []) : ∃ (kV doc pm : Value) (an : Option Addr) (ct : Value), FnOk P w K mg base C8.CX0 12 (f 22) (PySem.W.fnX "__init__" (nmP 22 ++ ".__init__") (C8.fnArgs (mS 22 0)) (C8.fnBody (mS 22 0)) (C8.fnScope (mS 22 0)) [("__class__", cc 22)] .none kV doc pm an (.ref (cda 22)) ct) ["self", "pairs"] (spSub (c 22) "implied" ["pairs"]) := by
  have S := Z.sf 22 (by decide) (by decide)
  have T : SupT (nfP 22 (cc 22) (cda 22)) := supT_of (show (((C8.fnArgs (mS 22 0)).posonlyargs ++ (C8.fnArgs (mS 22 0)).args).head?.map (·.arg) = some "self" ∧ (C8.fnScope (mS 22 0)).names.lookup ("super" : Str) = some .globalImplicit ∧ (C8.fnScope (mS 22 0)).names.lookup ("__class__" : Str) = some .free ∧ (C8.fnScope (mS 22 0)).names.lookup ("self" : Str) = some .local) by decide +kernel)
  have C := Z.sc 22 22 (by decide) (by decide) (by decide) (by decide)
  have F0 := fn_pi (w := w) (base := base) Z G_fixed (show 22 < 35 by decide)
  have cl := Z.cls (show 22 < 35 by decide)
  refine fn_supOk (P := P) (w := w) (mg := mg) (base := base) (N := ["self", "pairs", "__class__"]) (k := 11) (ps := ["self", "pairs"]) (st := (C8.fnBody (mS 22 0)).getD 0 (.Pass ⟨0, 0, 0, 0⟩)) (rest := (C8.fnBody (mS 22 0)).drop 1) (sp := spSub (c 22) "implied" ["pairs"]) S nsS22 (by rfl) (by rfl) (fun vs H Q E h => ?_) ?_
  · obtain ⟨a, dx, ps, ds, rfl, hl, _⟩ := h
    exact congrArg Nat.succ hl
  · intro A outer s H vs Q E hr h hN
    obtain ⟨a, dx, ps, ds, rfl, hl, ha, hd, hs, q⟩ := h
    obtain ⟨p0, rfl⟩ : ∃ p0, ps = [p0] := by
      match ps, hl with
      | [p0], _ => exact ⟨p0, rfl⟩
    refine ⟨_, (pss_one (ps_fld (pv 0) (pe_ix ix_tup (pe_fld (pv 0) rfl) pe_int (fun _ _ => rfl)) rfl)), fun s1 I => ?_⟩
    refine sup_stmt (X := ncx C8.CX0 P w K mg base ["self", "pairs", "__class__"] (nfP 22 (cc 22) (cda 22)) (f 22) A outer s H E) (i := 0) (a := a) (C := c 22) (sup_ctx S T) C F0 (hr.mono (show 10 ≤ 11 by decide)) (pa_cons pe_str (pa_cons (pv 1) pa_nil)) I hN rfl ha (by decide) (by rfl) (by rfl) (by rfl) (by rfl) (by rfl) ?_ fun H' s' I' hq => ⟨rfl, H', I', hq⟩
    intro q0 nq
    have Sq := same_new nq (o := .met (f 0) a)
    refine ⟨p0, rfl, upd_same, a, dx, "implied", [p0], ds, rfl, Sq _ _ ha, hd.same Sq, hs, by show 1 ≤ 5; decide, fun us t fs H1 kp h1 h2 h3 h4 h5 h6 => ?_⟩
    have hul : us.length = 1 := by
      rw [h6.len, List.length_map, ← hd.len]
      rfl
    obtain ⟨u0, rfl⟩ : ∃ u0, us = [u0] := by
      match us, hul with
      | [u0], _ => exact ⟨u0, rfl⟩
    have kp0 : ∀ b o, b ≠ a → H b = some o → H1 b = some o := fun b o n e => kp b o n (Sq _ _ e)
    have few0 : List.length fs < 1000 := by
      omega
    refine ⟨.ref a, rfl, a, c 22, dx, _, .ref t, rfl, h1, cl, Z.noA (show 22 < 35 by decide) (by decide), h4, t, _, 0, u0, rfl, rfl, SqT.of h5, atI_nat (j := 0) rfl, .ref a, rfl, a, c 22, dx, _, rfl, h1, cl, Z.noA (show 22 < 35 by decide) (by decide), few0, ?_⟩
    have kp1 : ∀ b o, b ≠ a → H b = some o → (upd H1 a (.ins (c 22) dx (putF "pairs" u0 fs))) b = some o := fun b o n e => (upd_ne n).trans (kp0 b o n e)
    have ht1 : (upd H1 a (.ins (c 22) dx (putF "pairs" u0 fs))) t = some (.tup [u0]) := (upd_ne (ne_of_none2 h5 h1)).trans h5
    have lp1 : (putF "pairs" u0 fs).lookup ("parts" : Str) = some (.ref t) := (look_ne (by decide) _ _).trans h4
    have dk1 : DK H1 (upd H1 a (.ins (c 22) dx (putF "pairs" u0 fs))) := DK.ins h1 fun b o n e => (upd_ne n).trans e
    refine q _ kp1 ⟨[u0], t, ⟨dx, _, upd_same, ?_, fun p hp => ?_⟩, ht1, h6.keep dk1⟩
    · have e0 := putF_len ("pairs" : Str) u0 fs
      omega
    · simp only [List.cons_append, List.nil_append, List.zip_cons_cons, List.zip_nil_right, List.zip_nil_left, List.mem_cons, List.not_mem_nil, or_false] at hp
      rcases hp with rfl | rfl | rfl <;> dsimp only <;> repeat (first | exact look_same _ _ _ | exact h3 | exact h4 | refine (look_ne (by decide) _ _).trans ?_)
theorem nsS23 : NScope ["self", "reading", "ring", "__class__"] ["self", "reading", "ring"] ["__class__"] (C8.fnScope (mS 23 0)) := nscope_by (by decide +kernel)
theorem fn_sub23 (Z : Tz P K mg c f cc cda fE fB) (G_fixed : C8.Cal P w K mg base 9 "fixed" (spF 9) []) : ∃ (kV doc pm : Value) (an : Option Addr) (ct : Value), FnOk P w K mg base C8.CX0 12 (f 23) (PySem.W.fnX "__init__" (nmP 23 ++ ".__init__") (C8.fnArgs (mS 23 0)) (C8.fnBody (mS 23 0)) (C8.fnScope (mS 23 0)) [("__class__", cc 23)] .none kV doc pm an (.ref (cda 23)) ct) ["self", "reading", "ring"] (spSub (c 23) "apart" ["reading", "ring"]) := by
  have S := Z.sf 23 (by decide) (by decide)
  have T : SupT (nfP 23 (cc 23) (cda 23)) := supT_of (show (((C8.fnArgs (mS 23 0)).posonlyargs ++ (C8.fnArgs (mS 23 0)).args).head?.map (·.arg) = some "self" ∧ (C8.fnScope (mS 23 0)).names.lookup ("super" : Str) = some .globalImplicit ∧ (C8.fnScope (mS 23 0)).names.lookup ("__class__" : Str) = some .free ∧ (C8.fnScope (mS 23 0)).names.lookup ("self" : Str) = some .local) by decide +kernel)
  have C := Z.sc 23 23 (by decide) (by decide) (by decide) (by decide)
  have F0 := fn_den (w := w) (base := base) Z G_fixed (show 23 < 35 by decide) (by decide)
  have cl := Z.cls (show 23 < 35 by decide)
  refine fn_supOk (P := P) (w := w) (mg := mg) (base := base) (N := ["self", "reading", "ring", "__class__"]) (k := 11) (ps := ["self", "reading", "ring"]) (st := (C8.fnBody (mS 23 0)).getD 0 (.Pass ⟨0, 0, 0, 0⟩)) (rest := (C8.fnBody (mS 23 0)).drop 1) (sp := spSub (c 23) "apart" ["reading", "ring"]) S nsS23 (by rfl) (by rfl) (fun vs H Q E h => ?_) ?_
  · obtain ⟨a, dx, ps, ds, rfl, hl, _⟩ := h
    exact congrArg Nat.succ hl
  · intro A outer s H vs Q E hr h hN
    obtain ⟨a, dx, ps, ds, rfl, hl, ha, hd, hs, q⟩ := h
    obtain ⟨p0, p1, rfl⟩ : ∃ p0 p1, ps = [p0, p1] := by
      match ps, hl with
      | [p0, p1], _ => exact ⟨p0, p1, rfl⟩
    refine ⟨_, (pss_cons (ps_fld (pv 0) (pe_ix ix_tup (pe_fld (pv 0) rfl) pe_int (fun _ _ => rfl)) rfl) (pss_one (ps_fld (pv 0) (pe_ix ix_tup (pe_fld (pv 0) rfl) pe_int (fun _ _ => rfl)) rfl))), fun s1 I => ?_⟩
    refine sup_stmt (X := ncx C8.CX0 P w K mg base ["self", "reading", "ring", "__class__"] (nfP 23 (cc 23) (cda 23)) (f 23) A outer s H E) (i := 0) (a := a) (C := c 23) (sup_ctx S T) C F0 (hr.mono (show 11 ≤ 11 by decide)) (pa_cons pe_str (pa_cons (pv 1) (pa_cons (pv 2) pa_nil))) I hN rfl ha (by decide) (by rfl) (by rfl) (by rfl) (by rfl) (by rfl) ?_ fun H' s' I' hq => ⟨rfl, H', I', hq⟩
    intro q0 nq
    have Sq := same_new nq (o := .met (f 1) a)
    refine ⟨p0, rfl, p1, rfl, upd_same, a, dx, "apart", [p0, p1], ds, rfl, Sq _ _ ha, hd.same Sq, hs, by show 2 ≤ 5; decide, fun us t fs H1 kp h1 h2 h3 h4 h5 h6 => ?_⟩
    have hul : us.length = 2 := by
      rw [h6.len, List.length_map, ← hd.len]
      rfl
    obtain ⟨u0, u1, rfl⟩ : ∃ u0 u1, us = [u0, u1] := by
      match us, hul with
      | [u0, u1], _ => exact ⟨u0, u1, rfl⟩
    have kp0 : ∀ b o, b ≠ a → H b = some o → H1 b = some o := fun b o n e => kp b o n (Sq _ _ e)
    have few0 : List.length fs < 1000 := by
      omega
    refine ⟨.ref a, rfl, a, c 23, dx, _, .ref t, rfl, h1, cl, Z.noA (show 23 < 35 by decide) (by decide), h4, t, _, 0, u0, rfl, rfl, SqT.of h5, atI_nat (j := 0) rfl, .ref a, rfl, a, c 23, dx, _, rfl, h1, cl, Z.noA (show 23 < 35 by decide) (by decide), few0, ?_⟩
    have kp1 : ∀ b o, b ≠ a → H b = some o → (upd H1 a (.ins (c 23) dx (putF "reading" u0 fs))) b = some o := fun b o n e => (upd_ne n).trans (kp0 b o n e)
    have ht1 : (upd H1 a (.ins (c 23) dx (putF "reading" u0 fs))) t = some (.tup [u0, u1]) := (upd_ne (ne_of_none2 h5 h1)).trans h5
    have lp1 : (putF "reading" u0 fs).lookup ("parts" : Str) = some (.ref t) := (look_ne (by decide) _ _).trans h4
    have dk1 : DK H1 (upd H1 a (.ins (c 23) dx (putF "reading" u0 fs))) := DK.ins h1 fun b o n e => (upd_ne n).trans e
    have few1 : List.length (putF "reading" u0 fs) < 1000 := by
      have e0 := putF_len ("reading" : Str) u0 fs
      omega
    refine ⟨.ref a, rfl, a, c 23, dx, _, .ref t, rfl, upd_same, cl, Z.noA (show 23 < 35 by decide) (by decide), lp1, t, _, 1, u1, rfl, rfl, SqT.of ht1, atI_nat (j := 1) rfl, .ref a, rfl, a, c 23, dx, _, rfl, upd_same, cl, Z.noA (show 23 < 35 by decide) (by decide), few1, ?_⟩
    have kp2 : ∀ b o, b ≠ a → H b = some o → (upd (upd H1 a (.ins (c 23) dx (putF "reading" u0 fs))) a (.ins (c 23) dx (putF "ring" u1 (putF "reading" u0 fs)))) b = some o := fun b o n e => (upd_ne n).trans (kp1 b o n e)
    have ht2 : (upd (upd H1 a (.ins (c 23) dx (putF "reading" u0 fs))) a (.ins (c 23) dx (putF "ring" u1 (putF "reading" u0 fs)))) t = some (.tup [u0, u1]) := (upd_ne (ne_of_none2 ht1 upd_same)).trans ht1
    have lp2 : (putF "ring" u1 (putF "reading" u0 fs)).lookup ("parts" : Str) = some (.ref t) := (look_ne (by decide) _ _).trans lp1
    have dk2 : DK (upd H1 a (.ins (c 23) dx (putF "reading" u0 fs))) (upd (upd H1 a (.ins (c 23) dx (putF "reading" u0 fs))) a (.ins (c 23) dx (putF "ring" u1 (putF "reading" u0 fs)))) := DK.ins upd_same fun b o n e => (upd_ne n).trans e
    refine q _ kp2 ⟨[u0, u1], t, ⟨dx, _, upd_same, ?_, fun p hp => ?_⟩, ht2, h6.keep (dk1.trans dk2)⟩
    · have e0 := putF_len ("reading" : Str) u0 fs
      have e1 := putF_len ("ring" : Str) u1 (putF "reading" u0 fs)
      omega
    · simp only [List.cons_append, List.nil_append, List.zip_cons_cons, List.zip_nil_right, List.zip_nil_left, List.mem_cons, List.not_mem_nil, or_false] at hp
      rcases hp with rfl | rfl | rfl | rfl <;> dsimp only <;> repeat (first | exact look_same _ _ _ | exact h3 | exact h4 | refine (look_ne (by decide) _ _).trans ?_)
end
end K56

set_option Elab.async false
set_option linter.all false
set_option maxRecDepth 100000
set_option maxHeartbeats 1000000
namespace K56
open PySem PySem.Spec PyProof.Rows L2 Gd NdefX
section
variable {P : Program} {w : World} {K : PySem.W.Frag} {mg : Str → Option Value} {base : Heap} {c f cc cda : Nat → Addr} {fE fB : Addr}
theorem nsS24 : NScope ["self", "number", "kept", "refusal", "__class__"] ["self", "number", "kept", "refusal"] ["__class__"] (C8.fnScope (mS 24 0)) := nscope_by (by decide +kernel)
theorem fn_sub24 (Z : Tz P K mg c f cc cda fE fB) (G_fixed : C8.Cal P w K mg base 9 "fixed" (spF 9) []) : ∃ (kV doc pm : Value) (an : Option Addr) (ct : Value), FnOk P w K mg base C8.CX0 12 (f 24) (PySem.W.fnX "__init__" (nmP 24 ++ ".__init__") (C8.fnArgs (mS 24 0)) (C8.fnBody (mS 24 0)) (C8.fnScope (mS 24 0)) [("__class__", cc 24)] .none kV doc pm an (.ref (cda 24)) ct) ["self", "number", "kept", "refusal"] (spSub (c 24) "least" ["number", "kept", "refusal"]) := by
  have S := Z.sf 24 (by decide) (by decide)
  have T : SupT (nfP 24 (cc 24) (cda 24)) := supT_of (show (((C8.fnArgs (mS 24 0)).posonlyargs ++ (C8.fnArgs (mS 24 0)).args).head?.map (·.arg) = some "self" ∧ (C8.fnScope (mS 24 0)).names.lookup ("super" : Str) = some .globalImplicit ∧ (C8.fnScope (mS 24 0)).names.lookup ("__class__" : Str) = some .free ∧ (C8.fnScope (mS 24 0)).names.lookup ("self" : Str) = some .local) by decide +kernel)
  have C := Z.sc 24 24 (by decide) (by decide) (by decide) (by decide)
  have F0 := fn_pi (w := w) (base := base) Z G_fixed (show 24 < 35 by decide)
  have cl := Z.cls (show 24 < 35 by decide)
  refine fn_supOk (P := P) (w := w) (mg := mg) (base := base) (N := ["self", "number", "kept", "refusal", "__class__"]) (k := 11) (ps := ["self", "number", "kept", "refusal"]) (st := (C8.fnBody (mS 24 0)).getD 0 (.Pass ⟨0, 0, 0, 0⟩)) (rest := (C8.fnBody (mS 24 0)).drop 1) (sp := spSub (c 24) "least" ["number", "kept", "refusal"]) S nsS24 (by rfl) (by rfl) (fun vs H Q E h => ?_) ?_
  · obtain ⟨a, dx, ps, ds, rfl, hl, _⟩ := h
    exact congrArg Nat.succ hl
  · intro A outer s H vs Q E hr h hN
    obtain ⟨a, dx, ps, ds, rfl, hl, ha, hd, hs, q⟩ := h
    obtain ⟨p0, p1, p2, rfl⟩ : ∃ p0 p1 p2, ps = [p0, p1, p2] := by
      match ps, hl with
      | [p0, p1, p2], _ => exact ⟨p0, p1, p2, rfl⟩
    refine ⟨_, (pss_cons (ps_fld (pv 0) (pe_ix ix_tup (pe_fld (pv 0) rfl) pe_int (fun _ _ => rfl)) rfl) (pss_cons (ps_fld (pv 0) (pe_ix ix_tup (pe_fld (pv 0) rfl) pe_int (fun _ _ => rfl)) rfl) (pss_one (ps_fld (pv 0) (pe_ix ix_tup (pe_fld (pv 0) rfl) pe_int (fun _ _ => rfl)) rfl)))), fun s1 I => ?_⟩
    refine sup_stmt (X := ncx C8.CX0 P w K mg base ["self", "number", "kept", "refusal", "__class__"] (nfP 24 (cc 24) (cda 24)) (f 24) A outer s H E) (i := 0) (a := a) (C := c 24) (sup_ctx S T) C F0 (hr.mono (show 10 ≤ 11 by decide)) (pa_cons pe_str (pa_cons (pv 1) (pa_cons (pv 2) (pa_cons (pv 3) pa_nil)))) I hN rfl ha (by decide) (by rfl) (by rfl) (by rfl) (by rfl) (by rfl) ?_ fun H' s' I' hq => ⟨rfl, H', I', hq⟩
    intro q0 nq
    have Sq := same_new nq (o := .met (f 0) a)
    refine ⟨p0, rfl, p1, rfl, p2, rfl, upd_same, a, dx, "least", [p0, p1, p2], ds, rfl, Sq _ _ ha, hd.same Sq, hs, by show 3 ≤ 5; decide, fun us t fs H1 kp h1 h2 h3 h4 h5 h6 => ?_⟩
    have hul : us.length = 3 := by
      rw [h6.len, List.length_map, ← hd.len]
      rfl
    obtain ⟨u0, u1, u2, rfl⟩ : ∃ u0 u1 u2, us = [u0, u1, u2] := by
      match us, hul with
      | [u0, u1, u2], _ => exact ⟨u0, u1, u2, rfl⟩
    have kp0 : ∀ b o, b ≠ a → H b = some o → H1 b = some o := fun b o n e => kp b o n (Sq _ _ e)
    have few0 : List.length fs < 1000 := by
      omega
    refine ⟨.ref a, rfl, a, c 24, dx, _, .ref t, rfl, h1, cl, Z.noA (show 24 < 35 by decide) (by decide), h4, t, _, 0, u0, rfl, rfl, SqT.of h5, atI_nat (j := 0) rfl, .ref a, rfl, a, c 24, dx, _, rfl, h1, cl, Z.noA (show 24 < 35 by decide) (by decide), few0, ?_⟩
    have kp1 : ∀ b o, b ≠ a → H b = some o → (upd H1 a (.ins (c 24) dx (putF "number" u0 fs))) b = some o := fun b o n e => (upd_ne n).trans (kp0 b o n e)
    have ht1 : (upd H1 a (.ins (c 24) dx (putF "number" u0 fs))) t = some (.tup [u0, u1, u2]) := (upd_ne (ne_of_none2 h5 h1)).trans h5
    have lp1 : (putF "number" u0 fs).lookup ("parts" : Str) = some (.ref t) := (look_ne (by decide) _ _).trans h4
    have dk1 : DK H1 (upd H1 a (.ins (c 24) dx (putF "number" u0 fs))) := DK.ins h1 fun b o n e => (upd_ne n).trans e
    have few1 : List.length (putF "number" u0 fs) < 1000 := by
      have e0 := putF_len ("number" : Str) u0 fs
      omega
    refine ⟨.ref a, rfl, a, c 24, dx, _, .ref t, rfl, upd_same, cl, Z.noA (show 24 < 35 by decide) (by decide), lp1, t, _, 1, u1, rfl, rfl, SqT.of ht1, atI_nat (j := 1) rfl, .ref a, rfl, a, c 24, dx, _, rfl, upd_same, cl, Z.noA (show 24 < 35 by decide) (by decide), few1, ?_⟩
    have kp2 : ∀ b o, b ≠ a → H b = some o → (upd (upd H1 a (.ins (c 24) dx (putF "number" u0 fs))) a (.ins (c 24) dx (putF "kept" u1 (putF "number" u0 fs)))) b = some o := fun b o n e => (upd_ne n).trans (kp1 b o n e)
    have ht2 : (upd (upd H1 a (.ins (c 24) dx (putF "number" u0 fs))) a (.ins (c 24) dx (putF "kept" u1 (putF "number" u0 fs)))) t = some (.tup [u0, u1, u2]) := (upd_ne (ne_of_none2 ht1 upd_same)).trans ht1
    have lp2 : (putF "kept" u1 (putF "number" u0 fs)).lookup ("parts" : Str) = some (.ref t) := (look_ne (by decide) _ _).trans lp1
    have dk2 : DK (upd H1 a (.ins (c 24) dx (putF "number" u0 fs))) (upd (upd H1 a (.ins (c 24) dx (putF "number" u0 fs))) a (.ins (c 24) dx (putF "kept" u1 (putF "number" u0 fs)))) := DK.ins upd_same fun b o n e => (upd_ne n).trans e
    have few2 : List.length (putF "kept" u1 (putF "number" u0 fs)) < 1000 := by
      have e0 := putF_len ("number" : Str) u0 fs
      have e1 := putF_len ("kept" : Str) u1 (putF "number" u0 fs)
      omega
    refine ⟨.ref a, rfl, a, c 24, dx, _, .ref t, rfl, upd_same, cl, Z.noA (show 24 < 35 by decide) (by decide), lp2, t, _, 2, u2, rfl, rfl, SqT.of ht2, atI_nat (j := 2) rfl, .ref a, rfl, a, c 24, dx, _, rfl, upd_same, cl, Z.noA (show 24 < 35 by decide) (by decide), few2, ?_⟩
    have kp3 : ∀ b o, b ≠ a → H b = some o → (upd (upd (upd H1 a (.ins (c 24) dx (putF "number" u0 fs))) a (.ins (c 24) dx (putF "kept" u1 (putF "number" u0 fs)))) a (.ins (c 24) dx (putF "refusal" u2 (putF "kept" u1 (putF "number" u0 fs))))) b = some o := fun b o n e => (upd_ne n).trans (kp2 b o n e)
    have ht3 : (upd (upd (upd H1 a (.ins (c 24) dx (putF "number" u0 fs))) a (.ins (c 24) dx (putF "kept" u1 (putF "number" u0 fs)))) a (.ins (c 24) dx (putF "refusal" u2 (putF "kept" u1 (putF "number" u0 fs))))) t = some (.tup [u0, u1, u2]) := (upd_ne (ne_of_none2 ht2 upd_same)).trans ht2
    have lp3 : (putF "refusal" u2 (putF "kept" u1 (putF "number" u0 fs))).lookup ("parts" : Str) = some (.ref t) := (look_ne (by decide) _ _).trans lp2
    have dk3 : DK (upd (upd H1 a (.ins (c 24) dx (putF "number" u0 fs))) a (.ins (c 24) dx (putF "kept" u1 (putF "number" u0 fs)))) (upd (upd (upd H1 a (.ins (c 24) dx (putF "number" u0 fs))) a (.ins (c 24) dx (putF "kept" u1 (putF "number" u0 fs)))) a (.ins (c 24) dx (putF "refusal" u2 (putF "kept" u1 (putF "number" u0 fs))))) := DK.ins upd_same fun b o n e => (upd_ne n).trans e
    refine q _ kp3 ⟨[u0, u1, u2], t, ⟨dx, _, upd_same, ?_, fun p hp => ?_⟩, ht3, h6.keep ((dk1.trans dk2).trans dk3)⟩
    · have e0 := putF_len ("number" : Str) u0 fs
      have e1 := putF_len ("kept" : Str) u1 (putF "number" u0 fs)
      have e2 := putF_len ("refusal" : Str) u2 (putF "kept" u1 (putF "number" u0 fs))
      omega
    · simp only [List.cons_append, List.nil_append, List.zip_cons_cons, List.zip_nil_right, List.zip_nil_left, List.mem_cons, List.not_mem_nil, or_false] at hp
      rcases hp with rfl | rfl | rfl | rfl | rfl <;> dsimp only <;> repeat (first | exact look_same _ _ _ | exact h3 | exact h4 | refine (look_ne (by decide) _ _).trans ?_)
theorem nsS25 : NScope ["self", "first", "states", "pages", "deeds", "places", "__class__"] ["self", "first", "states", "pages", "deeds", "places"] ["__class__"] (C8.fnScope (mS 25 0)) := nscope_by (by decide +kernel)
theorem fn_sub25 (Z : Tz P K mg c f cc cda fE fB) (G_fixed : C8.Cal P w K mg base 9 "fixed" (spF 9) []) : ∃ (kV doc pm : Value) (an : Option Addr) (ct : Value), FnOk P w K mg base C8.CX0 12 (f 25) (PySem.W.fnX "__init__" (nmP 25 ++ ".__init__") (C8.fnArgs (mS 25 0)) (C8.fnBody (mS 25 0)) (C8.fnScope (mS 25 0)) [("__class__", cc 25)] .none kV doc pm an (.ref (cda 25)) ct) ["self", "first", "states", "pages", "deeds", "places"] (spSub (c 25) "losing" ["first", "states", "pages", "deeds", "places"]) := by
  have S := Z.sf 25 (by decide) (by decide)
  have T : SupT (nfP 25 (cc 25) (cda 25)) := supT_of (show (((C8.fnArgs (mS 25 0)).posonlyargs ++ (C8.fnArgs (mS 25 0)).args).head?.map (·.arg) = some "self" ∧ (C8.fnScope (mS 25 0)).names.lookup ("super" : Str) = some .globalImplicit ∧ (C8.fnScope (mS 25 0)).names.lookup ("__class__" : Str) = some .free ∧ (C8.fnScope (mS 25 0)).names.lookup ("self" : Str) = some .local) by decide +kernel)
  have C := Z.sc 25 25 (by decide) (by decide) (by decide) (by decide)
  have F0 := fn_pi (w := w) (base := base) Z G_fixed (show 25 < 35 by decide)
  have cl := Z.cls (show 25 < 35 by decide)
  refine fn_supOk (P := P) (w := w) (mg := mg) (base := base) (N := ["self", "first", "states", "pages", "deeds", "places", "__class__"]) (k := 11) (ps := ["self", "first", "states", "pages", "deeds", "places"]) (st := (C8.fnBody (mS 25 0)).getD 0 (.Pass ⟨0, 0, 0, 0⟩)) (rest := (C8.fnBody (mS 25 0)).drop 1) (sp := spSub (c 25) "losing" ["first", "states", "pages", "deeds", "places"]) S nsS25 (by rfl) (by rfl) (fun vs H Q E h => ?_) ?_
  · obtain ⟨a, dx, ps, ds, rfl, hl, _⟩ := h
    exact congrArg Nat.succ hl
  · intro A outer s H vs Q E hr h hN
    obtain ⟨a, dx, ps, ds, rfl, hl, ha, hd, hs, q⟩ := h
    obtain ⟨p0, p1, p2, p3, p4, rfl⟩ : ∃ p0 p1 p2 p3 p4, ps = [p0, p1, p2, p3, p4] := by
      match ps, hl with
      | [p0, p1, p2, p3, p4], _ => exact ⟨p0, p1, p2, p3, p4, rfl⟩
    refine ⟨_, (pss_cons (ps_fld (pv 0) (pe_ix ix_tup (pe_fld (pv 0) rfl) pe_int (fun _ _ => rfl)) rfl) (pss_cons (ps_fld (pv 0) (pe_ix ix_tup (pe_fld (pv 0) rfl) pe_int (fun _ _ => rfl)) rfl) (pss_cons (ps_fld (pv 0) (pe_ix ix_tup (pe_fld (pv 0) rfl) pe_int (fun _ _ => rfl)) rfl) (pss_cons (ps_fld (pv 0) (pe_ix ix_tup (pe_fld (pv 0) rfl) pe_int (fun _ _ => rfl)) rfl) (pss_one (ps_fld (pv 0) (pe_ix ix_tup (pe_fld (pv 0) rfl) pe_int (fun _ _ => rfl)) rfl)))))), fun s1 I => ?_⟩
    refine sup_stmt (X := ncx C8.CX0 P w K mg base ["self", "first", "states", "pages", "deeds", "places", "__class__"] (nfP 25 (cc 25) (cda 25)) (f 25) A outer s H E) (i := 0) (a := a) (C := c 25) (sup_ctx S T) C F0 (hr.mono (show 10 ≤ 11 by decide)) (pa_cons pe_str (pa_cons (pv 1) (pa_cons (pv 2) (pa_cons (pv 3) (pa_cons (pv 4) (pa_cons (pv 5) pa_nil)))))) I hN rfl ha (by decide) (by rfl) (by rfl) (by rfl) (by rfl) (by rfl) ?_ fun H' s' I' hq => ⟨rfl, H', I', hq⟩
    intro q0 nq
    have Sq := same_new nq (o := .met (f 0) a)
    refine ⟨p0, rfl, p1, rfl, p2, rfl, p3, rfl, p4, rfl, upd_same, a, dx, "losing", [p0, p1, p2, p3, p4], ds, rfl, Sq _ _ ha, hd.same Sq, hs, by show 5 ≤ 5; decide, fun us t fs H1 kp h1 h2 h3 h4 h5 h6 => ?_⟩
    have hul : us.length = 5 := by
      rw [h6.len, List.length_map, ← hd.len]
      rfl
    obtain ⟨u0, u1, u2, u3, u4, rfl⟩ : ∃ u0 u1 u2 u3 u4, us = [u0, u1, u2, u3, u4] := by
      match us, hul with
      | [u0, u1, u2, u3, u4], _ => exact ⟨u0, u1, u2, u3, u4, rfl⟩
    have kp0 : ∀ b o, b ≠ a → H b = some o → H1 b = some o := fun b o n e => kp b o n (Sq _ _ e)
    have few0 : List.length fs < 1000 := by
      omega
    refine ⟨.ref a, rfl, a, c 25, dx, _, .ref t, rfl, h1, cl, Z.noA (show 25 < 35 by decide) (by decide), h4, t, _, 0, u0, rfl, rfl, SqT.of h5, atI_nat (j := 0) rfl, .ref a, rfl, a, c 25, dx, _, rfl, h1, cl, Z.noA (show 25 < 35 by decide) (by decide), few0, ?_⟩
    have kp1 : ∀ b o, b ≠ a → H b = some o → (upd H1 a (.ins (c 25) dx (putF "first" u0 fs))) b = some o := fun b o n e => (upd_ne n).trans (kp0 b o n e)
    have ht1 : (upd H1 a (.ins (c 25) dx (putF "first" u0 fs))) t = some (.tup [u0, u1, u2, u3, u4]) := (upd_ne (ne_of_none2 h5 h1)).trans h5
    have lp1 : (putF "first" u0 fs).lookup ("parts" : Str) = some (.ref t) := (look_ne (by decide) _ _).trans h4
    have dk1 : DK H1 (upd H1 a (.ins (c 25) dx (putF "first" u0 fs))) := DK.ins h1 fun b o n e => (upd_ne n).trans e
    have few1 : List.length (putF "first" u0 fs) < 1000 := by
      have e0 := putF_len ("first" : Str) u0 fs
      omega
    refine ⟨.ref a, rfl, a, c 25, dx, _, .ref t, rfl, upd_same, cl, Z.noA (show 25 < 35 by decide) (by decide), lp1, t, _, 1, u1, rfl, rfl, SqT.of ht1, atI_nat (j := 1) rfl, .ref a, rfl, a, c 25, dx, _, rfl, upd_same, cl, Z.noA (show 25 < 35 by decide) (by decide), few1, ?_⟩
    have kp2 : ∀ b o, b ≠ a → H b = some o → (upd (upd H1 a (.ins (c 25) dx (putF "first" u0 fs))) a (.ins (c 25) dx (putF "states" u1 (putF "first" u0 fs)))) b = some o := fun b o n e => (upd_ne n).trans (kp1 b o n e)
    have ht2 : (upd (upd H1 a (.ins (c 25) dx (putF "first" u0 fs))) a (.ins (c 25) dx (putF "states" u1 (putF "first" u0 fs)))) t = some (.tup [u0, u1, u2, u3, u4]) := (upd_ne (ne_of_none2 ht1 upd_same)).trans ht1
    have lp2 : (putF "states" u1 (putF "first" u0 fs)).lookup ("parts" : Str) = some (.ref t) := (look_ne (by decide) _ _).trans lp1
    have dk2 : DK (upd H1 a (.ins (c 25) dx (putF "first" u0 fs))) (upd (upd H1 a (.ins (c 25) dx (putF "first" u0 fs))) a (.ins (c 25) dx (putF "states" u1 (putF "first" u0 fs)))) := DK.ins upd_same fun b o n e => (upd_ne n).trans e
    have few2 : List.length (putF "states" u1 (putF "first" u0 fs)) < 1000 := by
      have e0 := putF_len ("first" : Str) u0 fs
      have e1 := putF_len ("states" : Str) u1 (putF "first" u0 fs)
      omega
    refine ⟨.ref a, rfl, a, c 25, dx, _, .ref t, rfl, upd_same, cl, Z.noA (show 25 < 35 by decide) (by decide), lp2, t, _, 2, u2, rfl, rfl, SqT.of ht2, atI_nat (j := 2) rfl, .ref a, rfl, a, c 25, dx, _, rfl, upd_same, cl, Z.noA (show 25 < 35 by decide) (by decide), few2, ?_⟩
    have kp3 : ∀ b o, b ≠ a → H b = some o → (upd (upd (upd H1 a (.ins (c 25) dx (putF "first" u0 fs))) a (.ins (c 25) dx (putF "states" u1 (putF "first" u0 fs)))) a (.ins (c 25) dx (putF "pages" u2 (putF "states" u1 (putF "first" u0 fs))))) b = some o := fun b o n e => (upd_ne n).trans (kp2 b o n e)
    have ht3 : (upd (upd (upd H1 a (.ins (c 25) dx (putF "first" u0 fs))) a (.ins (c 25) dx (putF "states" u1 (putF "first" u0 fs)))) a (.ins (c 25) dx (putF "pages" u2 (putF "states" u1 (putF "first" u0 fs))))) t = some (.tup [u0, u1, u2, u3, u4]) := (upd_ne (ne_of_none2 ht2 upd_same)).trans ht2
    have lp3 : (putF "pages" u2 (putF "states" u1 (putF "first" u0 fs))).lookup ("parts" : Str) = some (.ref t) := (look_ne (by decide) _ _).trans lp2
    have dk3 : DK (upd (upd H1 a (.ins (c 25) dx (putF "first" u0 fs))) a (.ins (c 25) dx (putF "states" u1 (putF "first" u0 fs)))) (upd (upd (upd H1 a (.ins (c 25) dx (putF "first" u0 fs))) a (.ins (c 25) dx (putF "states" u1 (putF "first" u0 fs)))) a (.ins (c 25) dx (putF "pages" u2 (putF "states" u1 (putF "first" u0 fs))))) := DK.ins upd_same fun b o n e => (upd_ne n).trans e
    have few3 : List.length (putF "pages" u2 (putF "states" u1 (putF "first" u0 fs))) < 1000 := by
      have e0 := putF_len ("first" : Str) u0 fs
      have e1 := putF_len ("states" : Str) u1 (putF "first" u0 fs)
      have e2 := putF_len ("pages" : Str) u2 (putF "states" u1 (putF "first" u0 fs))
      omega
    refine ⟨.ref a, rfl, a, c 25, dx, _, .ref t, rfl, upd_same, cl, Z.noA (show 25 < 35 by decide) (by decide), lp3, t, _, 3, u3, rfl, rfl, SqT.of ht3, atI_nat (j := 3) rfl, .ref a, rfl, a, c 25, dx, _, rfl, upd_same, cl, Z.noA (show 25 < 35 by decide) (by decide), few3, ?_⟩
    have kp4 : ∀ b o, b ≠ a → H b = some o → (upd (upd (upd (upd H1 a (.ins (c 25) dx (putF "first" u0 fs))) a (.ins (c 25) dx (putF "states" u1 (putF "first" u0 fs)))) a (.ins (c 25) dx (putF "pages" u2 (putF "states" u1 (putF "first" u0 fs))))) a (.ins (c 25) dx (putF "deeds" u3 (putF "pages" u2 (putF "states" u1 (putF "first" u0 fs)))))) b = some o := fun b o n e => (upd_ne n).trans (kp3 b o n e)
    have ht4 : (upd (upd (upd (upd H1 a (.ins (c 25) dx (putF "first" u0 fs))) a (.ins (c 25) dx (putF "states" u1 (putF "first" u0 fs)))) a (.ins (c 25) dx (putF "pages" u2 (putF "states" u1 (putF "first" u0 fs))))) a (.ins (c 25) dx (putF "deeds" u3 (putF "pages" u2 (putF "states" u1 (putF "first" u0 fs)))))) t = some (.tup [u0, u1, u2, u3, u4]) := (upd_ne (ne_of_none2 ht3 upd_same)).trans ht3
    have lp4 : (putF "deeds" u3 (putF "pages" u2 (putF "states" u1 (putF "first" u0 fs)))).lookup ("parts" : Str) = some (.ref t) := (look_ne (by decide) _ _).trans lp3
    have dk4 : DK (upd (upd (upd H1 a (.ins (c 25) dx (putF "first" u0 fs))) a (.ins (c 25) dx (putF "states" u1 (putF "first" u0 fs)))) a (.ins (c 25) dx (putF "pages" u2 (putF "states" u1 (putF "first" u0 fs))))) (upd (upd (upd (upd H1 a (.ins (c 25) dx (putF "first" u0 fs))) a (.ins (c 25) dx (putF "states" u1 (putF "first" u0 fs)))) a (.ins (c 25) dx (putF "pages" u2 (putF "states" u1 (putF "first" u0 fs))))) a (.ins (c 25) dx (putF "deeds" u3 (putF "pages" u2 (putF "states" u1 (putF "first" u0 fs)))))) := DK.ins upd_same fun b o n e => (upd_ne n).trans e
    have few4 : List.length (putF "deeds" u3 (putF "pages" u2 (putF "states" u1 (putF "first" u0 fs)))) < 1000 := by
      have e0 := putF_len ("first" : Str) u0 fs
      have e1 := putF_len ("states" : Str) u1 (putF "first" u0 fs)
      have e2 := putF_len ("pages" : Str) u2 (putF "states" u1 (putF "first" u0 fs))
      have e3 := putF_len ("deeds" : Str) u3 (putF "pages" u2 (putF "states" u1 (putF "first" u0 fs)))
      omega
    refine ⟨.ref a, rfl, a, c 25, dx, _, .ref t, rfl, upd_same, cl, Z.noA (show 25 < 35 by decide) (by decide), lp4, t, _, 4, u4, rfl, rfl, SqT.of ht4, atI_nat (j := 4) rfl, .ref a, rfl, a, c 25, dx, _, rfl, upd_same, cl, Z.noA (show 25 < 35 by decide) (by decide), few4, ?_⟩
    have kp5 : ∀ b o, b ≠ a → H b = some o → (upd (upd (upd (upd (upd H1 a (.ins (c 25) dx (putF "first" u0 fs))) a (.ins (c 25) dx (putF "states" u1 (putF "first" u0 fs)))) a (.ins (c 25) dx (putF "pages" u2 (putF "states" u1 (putF "first" u0 fs))))) a (.ins (c 25) dx (putF "deeds" u3 (putF "pages" u2 (putF "states" u1 (putF "first" u0 fs)))))) a (.ins (c 25) dx (putF "places" u4 (putF "deeds" u3 (putF "pages" u2 (putF "states" u1 (putF "first" u0 fs))))))) b = some o := fun b o n e => (upd_ne n).trans (kp4 b o n e)
    have ht5 : (upd (upd (upd (upd (upd H1 a (.ins (c 25) dx (putF "first" u0 fs))) a (.ins (c 25) dx (putF "states" u1 (putF "first" u0 fs)))) a (.ins (c 25) dx (putF "pages" u2 (putF "states" u1 (putF "first" u0 fs))))) a (.ins (c 25) dx (putF "deeds" u3 (putF "pages" u2 (putF "states" u1 (putF "first" u0 fs)))))) a (.ins (c 25) dx (putF "places" u4 (putF "deeds" u3 (putF "pages" u2 (putF "states" u1 (putF "first" u0 fs))))))) t = some (.tup [u0, u1, u2, u3, u4]) := (upd_ne (ne_of_none2 ht4 upd_same)).trans ht4
    have lp5 : (putF "places" u4 (putF "deeds" u3 (putF "pages" u2 (putF "states" u1 (putF "first" u0 fs))))).lookup ("parts" : Str) = some (.ref t) := (look_ne (by decide) _ _).trans lp4
    have dk5 : DK (upd (upd (upd (upd H1 a (.ins (c 25) dx (putF "first" u0 fs))) a (.ins (c 25) dx (putF "states" u1 (putF "first" u0 fs)))) a (.ins (c 25) dx (putF "pages" u2 (putF "states" u1 (putF "first" u0 fs))))) a (.ins (c 25) dx (putF "deeds" u3 (putF "pages" u2 (putF "states" u1 (putF "first" u0 fs)))))) (upd (upd (upd (upd (upd H1 a (.ins (c 25) dx (putF "first" u0 fs))) a (.ins (c 25) dx (putF "states" u1 (putF "first" u0 fs)))) a (.ins (c 25) dx (putF "pages" u2 (putF "states" u1 (putF "first" u0 fs))))) a (.ins (c 25) dx (putF "deeds" u3 (putF "pages" u2 (putF "states" u1 (putF "first" u0 fs)))))) a (.ins (c 25) dx (putF "places" u4 (putF "deeds" u3 (putF "pages" u2 (putF "states" u1 (putF "first" u0 fs))))))) := DK.ins upd_same fun b o n e => (upd_ne n).trans e
    refine q _ kp5 ⟨[u0, u1, u2, u3, u4], t, ⟨dx, _, upd_same, ?_, fun p hp => ?_⟩, ht5, h6.keep ((((dk1.trans dk2).trans dk3).trans dk4).trans dk5)⟩
    · have e0 := putF_len ("first" : Str) u0 fs
      have e1 := putF_len ("states" : Str) u1 (putF "first" u0 fs)
      have e2 := putF_len ("pages" : Str) u2 (putF "states" u1 (putF "first" u0 fs))
      have e3 := putF_len ("deeds" : Str) u3 (putF "pages" u2 (putF "states" u1 (putF "first" u0 fs)))
      have e4 := putF_len ("places" : Str) u4 (putF "deeds" u3 (putF "pages" u2 (putF "states" u1 (putF "first" u0 fs))))
      omega
    · simp only [List.cons_append, List.nil_append, List.zip_cons_cons, List.zip_nil_right, List.zip_nil_left, List.mem_cons, List.not_mem_nil, or_false] at hp
      rcases hp with rfl | rfl | rfl | rfl | rfl | rfl | rfl <;> dsimp only <;> repeat (first | exact look_same _ _ _ | exact h3 | exact h4 | refine (look_ne (by decide) _ _).trans ?_)
theorem nsS26 : NScope ["self", "number", "table", "tree", "__class__"] ["self", "number", "table", "tree"] ["__class__"] (C8.fnScope (mS 26 0)) := nscope_by (by decide +kernel)
theorem fn_sub26 (Z : Tz P K mg c f cc cda fE fB) (G_fixed : C8.Cal P w K mg base 9 "fixed" (spF 9) []) : ∃ (kV doc pm : Value) (an : Option Addr) (ct : Value), FnOk P w K mg base C8.CX0 12 (f 26) (PySem.W.fnX "__init__" (nmP 26 ++ ".__init__") (C8.fnArgs (mS 26 0)) (C8.fnBody (mS 26 0)) (C8.fnScope (mS 26 0)) [("__class__", cc 26)] .none kV doc pm an (.ref (cda 26)) ct) ["self", "number", "table", "tree"] (spSub (c 26) "suretime" ["number", "table", "tree"]) := by
  have S := Z.sf 26 (by decide) (by decide)
  have T : SupT (nfP 26 (cc 26) (cda 26)) := supT_of (show (((C8.fnArgs (mS 26 0)).posonlyargs ++ (C8.fnArgs (mS 26 0)).args).head?.map (·.arg) = some "self" ∧ (C8.fnScope (mS 26 0)).names.lookup ("super" : Str) = some .globalImplicit ∧ (C8.fnScope (mS 26 0)).names.lookup ("__class__" : Str) = some .free ∧ (C8.fnScope (mS 26 0)).names.lookup ("self" : Str) = some .local) by decide +kernel)
  have C := Z.sc 26 26 (by decide) (by decide) (by decide) (by decide)
  have F0 := fn_pi (w := w) (base := base) Z G_fixed (show 26 < 35 by decide)
  have cl := Z.cls (show 26 < 35 by decide)
  refine fn_supOk (P := P) (w := w) (mg := mg) (base := base) (N := ["self", "number", "table", "tree", "__class__"]) (k := 11) (ps := ["self", "number", "table", "tree"]) (st := (C8.fnBody (mS 26 0)).getD 0 (.Pass ⟨0, 0, 0, 0⟩)) (rest := (C8.fnBody (mS 26 0)).drop 1) (sp := spSub (c 26) "suretime" ["number", "table", "tree"]) S nsS26 (by rfl) (by rfl) (fun vs H Q E h => ?_) ?_
  · obtain ⟨a, dx, ps, ds, rfl, hl, _⟩ := h
    exact congrArg Nat.succ hl
  · intro A outer s H vs Q E hr h hN
    obtain ⟨a, dx, ps, ds, rfl, hl, ha, hd, hs, q⟩ := h
    obtain ⟨p0, p1, p2, rfl⟩ : ∃ p0 p1 p2, ps = [p0, p1, p2] := by
      match ps, hl with
      | [p0, p1, p2], _ => exact ⟨p0, p1, p2, rfl⟩
    refine ⟨_, (pss_cons (ps_fld (pv 0) (pe_ix ix_tup (pe_fld (pv 0) rfl) pe_int (fun _ _ => rfl)) rfl) (pss_cons (ps_fld (pv 0) (pe_ix ix_tup (pe_fld (pv 0) rfl) pe_int (fun _ _ => rfl)) rfl) (pss_one (ps_fld (pv 0) (pe_ix ix_tup (pe_fld (pv 0) rfl) pe_int (fun _ _ => rfl)) rfl)))), fun s1 I => ?_⟩
    refine sup_stmt (X := ncx C8.CX0 P w K mg base ["self", "number", "table", "tree", "__class__"] (nfP 26 (cc 26) (cda 26)) (f 26) A outer s H E) (i := 0) (a := a) (C := c 26) (sup_ctx S T) C F0 (hr.mono (show 10 ≤ 11 by decide)) (pa_cons pe_str (pa_cons (pv 1) (pa_cons (pv 2) (pa_cons (pv 3) pa_nil)))) I hN rfl ha (by decide) (by rfl) (by rfl) (by rfl) (by rfl) (by rfl) ?_ fun H' s' I' hq => ⟨rfl, H', I', hq⟩
    intro q0 nq
    have Sq := same_new nq (o := .met (f 0) a)
    refine ⟨p0, rfl, p1, rfl, p2, rfl, upd_same, a, dx, "suretime", [p0, p1, p2], ds, rfl, Sq _ _ ha, hd.same Sq, hs, by show 3 ≤ 5; decide, fun us t fs H1 kp h1 h2 h3 h4 h5 h6 => ?_⟩
    have hul : us.length = 3 := by
      rw [h6.len, List.length_map, ← hd.len]
      rfl
    obtain ⟨u0, u1, u2, rfl⟩ : ∃ u0 u1 u2, us = [u0, u1, u2] := by
      match us, hul with
      | [u0, u1, u2], _ => exact ⟨u0, u1, u2, rfl⟩
    have kp0 : ∀ b o, b ≠ a → H b = some o → H1 b = some o := fun b o n e => kp b o n (Sq _ _ e)
    have few0 : List.length fs < 1000 := by
      omega
    refine ⟨.ref a, rfl, a, c 26, dx, _, .ref t, rfl, h1, cl, Z.noA (show 26 < 35 by decide) (by decide), h4, t, _, 0, u0, rfl, rfl, SqT.of h5, atI_nat (j := 0) rfl, .ref a, rfl, a, c 26, dx, _, rfl, h1, cl, Z.noA (show 26 < 35 by decide) (by decide), few0, ?_⟩
    have kp1 : ∀ b o, b ≠ a → H b = some o → (upd H1 a (.ins (c 26) dx (putF "number" u0 fs))) b = some o := fun b o n e => (upd_ne n).trans (kp0 b o n e)
    have ht1 : (upd H1 a (.ins (c 26) dx (putF "number" u0 fs))) t = some (.tup [u0, u1, u2]) := (upd_ne (ne_of_none2 h5 h1)).trans h5
    have lp1 : (putF "number" u0 fs).lookup ("parts" : Str) = some (.ref t) := (look_ne (by decide) _ _).trans h4
    have dk1 : DK H1 (upd H1 a (.ins (c 26) dx (putF "number" u0 fs))) := DK.ins h1 fun b o n e => (upd_ne n).trans e
    have few1 : List.length (putF "number" u0 fs) < 1000 := by
      have e0 := putF_len ("number" : Str) u0 fs
      omega
    refine ⟨.ref a, rfl, a, c 26, dx, _, .ref t, rfl, upd_same, cl, Z.noA (show 26 < 35 by decide) (by decide), lp1, t, _, 1, u1, rfl, rfl, SqT.of ht1, atI_nat (j := 1) rfl, .ref a, rfl, a, c 26, dx, _, rfl, upd_same, cl, Z.noA (show 26 < 35 by decide) (by decide), few1, ?_⟩
    have kp2 : ∀ b o, b ≠ a → H b = some o → (upd (upd H1 a (.ins (c 26) dx (putF "number" u0 fs))) a (.ins (c 26) dx (putF "table" u1 (putF "number" u0 fs)))) b = some o := fun b o n e => (upd_ne n).trans (kp1 b o n e)
    have ht2 : (upd (upd H1 a (.ins (c 26) dx (putF "number" u0 fs))) a (.ins (c 26) dx (putF "table" u1 (putF "number" u0 fs)))) t = some (.tup [u0, u1, u2]) := (upd_ne (ne_of_none2 ht1 upd_same)).trans ht1
    have lp2 : (putF "table" u1 (putF "number" u0 fs)).lookup ("parts" : Str) = some (.ref t) := (look_ne (by decide) _ _).trans lp1
    have dk2 : DK (upd H1 a (.ins (c 26) dx (putF "number" u0 fs))) (upd (upd H1 a (.ins (c 26) dx (putF "number" u0 fs))) a (.ins (c 26) dx (putF "table" u1 (putF "number" u0 fs)))) := DK.ins upd_same fun b o n e => (upd_ne n).trans e
    have few2 : List.length (putF "table" u1 (putF "number" u0 fs)) < 1000 := by
      have e0 := putF_len ("number" : Str) u0 fs
      have e1 := putF_len ("table" : Str) u1 (putF "number" u0 fs)
      omega
    refine ⟨.ref a, rfl, a, c 26, dx, _, .ref t, rfl, upd_same, cl, Z.noA (show 26 < 35 by decide) (by decide), lp2, t, _, 2, u2, rfl, rfl, SqT.of ht2, atI_nat (j := 2) rfl, .ref a, rfl, a, c 26, dx, _, rfl, upd_same, cl, Z.noA (show 26 < 35 by decide) (by decide), few2, ?_⟩
    have kp3 : ∀ b o, b ≠ a → H b = some o → (upd (upd (upd H1 a (.ins (c 26) dx (putF "number" u0 fs))) a (.ins (c 26) dx (putF "table" u1 (putF "number" u0 fs)))) a (.ins (c 26) dx (putF "tree" u2 (putF "table" u1 (putF "number" u0 fs))))) b = some o := fun b o n e => (upd_ne n).trans (kp2 b o n e)
    have ht3 : (upd (upd (upd H1 a (.ins (c 26) dx (putF "number" u0 fs))) a (.ins (c 26) dx (putF "table" u1 (putF "number" u0 fs)))) a (.ins (c 26) dx (putF "tree" u2 (putF "table" u1 (putF "number" u0 fs))))) t = some (.tup [u0, u1, u2]) := (upd_ne (ne_of_none2 ht2 upd_same)).trans ht2
    have lp3 : (putF "tree" u2 (putF "table" u1 (putF "number" u0 fs))).lookup ("parts" : Str) = some (.ref t) := (look_ne (by decide) _ _).trans lp2
    have dk3 : DK (upd (upd H1 a (.ins (c 26) dx (putF "number" u0 fs))) a (.ins (c 26) dx (putF "table" u1 (putF "number" u0 fs)))) (upd (upd (upd H1 a (.ins (c 26) dx (putF "number" u0 fs))) a (.ins (c 26) dx (putF "table" u1 (putF "number" u0 fs)))) a (.ins (c 26) dx (putF "tree" u2 (putF "table" u1 (putF "number" u0 fs))))) := DK.ins upd_same fun b o n e => (upd_ne n).trans e
    refine q _ kp3 ⟨[u0, u1, u2], t, ⟨dx, _, upd_same, ?_, fun p hp => ?_⟩, ht3, h6.keep ((dk1.trans dk2).trans dk3)⟩
    · have e0 := putF_len ("number" : Str) u0 fs
      have e1 := putF_len ("table" : Str) u1 (putF "number" u0 fs)
      have e2 := putF_len ("tree" : Str) u2 (putF "table" u1 (putF "number" u0 fs))
      omega
    · simp only [List.cons_append, List.nil_append, List.zip_cons_cons, List.zip_nil_right, List.zip_nil_left, List.mem_cons, List.not_mem_nil, or_false] at hp
      rcases hp with rfl | rfl | rfl | rfl | rfl <;> dsimp only <;> repeat (first | exact look_same _ _ _ | exact h3 | exact h4 | refine (look_ne (by decide) _ _).trans ?_)
theorem nsS27 : NScope ["self", "points", "steps", "kept", "__class__"] ["self", "points", "steps", "kept"] ["__class__"] (C8.fnScope (mS 27 0)) := nscope_by (by decide +kernel)
theorem fn_sub27 (Z : Tz P K mg c f cc cda fE fB) (G_fixed : C8.Cal P w K mg base 9 "fixed" (spF 9) []) : ∃ (kV doc pm : Value) (an : Option Addr) (ct : Value), FnOk P w K mg base C8.CX0 12 (f 27) (PySem.W.fnX "__init__" (nmP 27 ++ ".__init__") (C8.fnArgs (mS 27 0)) (C8.fnBody (mS 27 0)) (C8.fnScope (mS 27 0)) [("__class__", cc 27)] .none kV doc pm an (.ref (cda 27)) ct) ["self", "points", "steps", "kept"] (spSub (c 27) "momentfront" ["points", "steps", "kept"]) := by
  have S := Z.sf 27 (by decide) (by decide)
  have T : SupT (nfP 27 (cc 27) (cda 27)) := supT_of (show (((C8.fnArgs (mS 27 0)).posonlyargs ++ (C8.fnArgs (mS 27 0)).args).head?.map (·.arg) = some "self" ∧ (C8.fnScope (mS 27 0)).names.lookup ("super" : Str) = some .globalImplicit ∧ (C8.fnScope (mS 27 0)).names.lookup ("__class__" : Str) = some .free ∧ (C8.fnScope (mS 27 0)).names.lookup ("self" : Str) = some .local) by decide +kernel)
  have C := Z.sc 27 27 (by decide) (by decide) (by decide) (by decide)
  have F0 := fn_pi (w := w) (base := base) Z G_fixed (show 27 < 35 by decide)
  have cl := Z.cls (show 27 < 35 by decide)
  refine fn_supOk (P := P) (w := w) (mg := mg) (base := base) (N := ["self", "points", "steps", "kept", "__class__"]) (k := 11) (ps := ["self", "points", "steps", "kept"]) (st := (C8.fnBody (mS 27 0)).getD 0 (.Pass ⟨0, 0, 0, 0⟩)) (rest := (C8.fnBody (mS 27 0)).drop 1) (sp := spSub (c 27) "momentfront" ["points", "steps", "kept"]) S nsS27 (by rfl) (by rfl) (fun vs H Q E h => ?_) ?_
  · obtain ⟨a, dx, ps, ds, rfl, hl, _⟩ := h
    exact congrArg Nat.succ hl
  · intro A outer s H vs Q E hr h hN
    obtain ⟨a, dx, ps, ds, rfl, hl, ha, hd, hs, q⟩ := h
    obtain ⟨p0, p1, p2, rfl⟩ : ∃ p0 p1 p2, ps = [p0, p1, p2] := by
      match ps, hl with
      | [p0, p1, p2], _ => exact ⟨p0, p1, p2, rfl⟩
    refine ⟨_, (pss_cons (ps_fld (pv 0) (pe_ix ix_tup (pe_fld (pv 0) rfl) pe_int (fun _ _ => rfl)) rfl) (pss_cons (ps_fld (pv 0) (pe_ix ix_tup (pe_fld (pv 0) rfl) pe_int (fun _ _ => rfl)) rfl) (pss_one (ps_fld (pv 0) (pe_ix ix_tup (pe_fld (pv 0) rfl) pe_int (fun _ _ => rfl)) rfl)))), fun s1 I => ?_⟩
    refine sup_stmt (X := ncx C8.CX0 P w K mg base ["self", "points", "steps", "kept", "__class__"] (nfP 27 (cc 27) (cda 27)) (f 27) A outer s H E) (i := 0) (a := a) (C := c 27) (sup_ctx S T) C F0 (hr.mono (show 10 ≤ 11 by decide)) (pa_cons pe_str (pa_cons (pv 1) (pa_cons (pv 2) (pa_cons (pv 3) pa_nil)))) I hN rfl ha (by decide) (by rfl) (by rfl) (by rfl) (by rfl) (by rfl) ?_ fun H' s' I' hq => ⟨rfl, H', I', hq⟩
    intro q0 nq
    have Sq := same_new nq (o := .met (f 0) a)
    refine ⟨p0, rfl, p1, rfl, p2, rfl, upd_same, a, dx, "momentfront", [p0, p1, p2], ds, rfl, Sq _ _ ha, hd.same Sq, hs, by show 3 ≤ 5; decide, fun us t fs H1 kp h1 h2 h3 h4 h5 h6 => ?_⟩
    have hul : us.length = 3 := by
      rw [h6.len, List.length_map, ← hd.len]
      rfl
    obtain ⟨u0, u1, u2, rfl⟩ : ∃ u0 u1 u2, us = [u0, u1, u2] := by
      match us, hul with
      | [u0, u1, u2], _ => exact ⟨u0, u1, u2, rfl⟩
    have kp0 : ∀ b o, b ≠ a → H b = some o → H1 b = some o := fun b o n e => kp b o n (Sq _ _ e)
    have few0 : List.length fs < 1000 := by
      omega
    refine ⟨.ref a, rfl, a, c 27, dx, _, .ref t, rfl, h1, cl, Z.noA (show 27 < 35 by decide) (by decide), h4, t, _, 0, u0, rfl, rfl, SqT.of h5, atI_nat (j := 0) rfl, .ref a, rfl, a, c 27, dx, _, rfl, h1, cl, Z.noA (show 27 < 35 by decide) (by decide), few0, ?_⟩
    have kp1 : ∀ b o, b ≠ a → H b = some o → (upd H1 a (.ins (c 27) dx (putF "points" u0 fs))) b = some o := fun b o n e => (upd_ne n).trans (kp0 b o n e)
    have ht1 : (upd H1 a (.ins (c 27) dx (putF "points" u0 fs))) t = some (.tup [u0, u1, u2]) := (upd_ne (ne_of_none2 h5 h1)).trans h5
    have lp1 : (putF "points" u0 fs).lookup ("parts" : Str) = some (.ref t) := (look_ne (by decide) _ _).trans h4
    have dk1 : DK H1 (upd H1 a (.ins (c 27) dx (putF "points" u0 fs))) := DK.ins h1 fun b o n e => (upd_ne n).trans e
    have few1 : List.length (putF "points" u0 fs) < 1000 := by
      have e0 := putF_len ("points" : Str) u0 fs
      omega
    refine ⟨.ref a, rfl, a, c 27, dx, _, .ref t, rfl, upd_same, cl, Z.noA (show 27 < 35 by decide) (by decide), lp1, t, _, 1, u1, rfl, rfl, SqT.of ht1, atI_nat (j := 1) rfl, .ref a, rfl, a, c 27, dx, _, rfl, upd_same, cl, Z.noA (show 27 < 35 by decide) (by decide), few1, ?_⟩
    have kp2 : ∀ b o, b ≠ a → H b = some o → (upd (upd H1 a (.ins (c 27) dx (putF "points" u0 fs))) a (.ins (c 27) dx (putF "steps" u1 (putF "points" u0 fs)))) b = some o := fun b o n e => (upd_ne n).trans (kp1 b o n e)
    have ht2 : (upd (upd H1 a (.ins (c 27) dx (putF "points" u0 fs))) a (.ins (c 27) dx (putF "steps" u1 (putF "points" u0 fs)))) t = some (.tup [u0, u1, u2]) := (upd_ne (ne_of_none2 ht1 upd_same)).trans ht1
    have lp2 : (putF "steps" u1 (putF "points" u0 fs)).lookup ("parts" : Str) = some (.ref t) := (look_ne (by decide) _ _).trans lp1
    have dk2 : DK (upd H1 a (.ins (c 27) dx (putF "points" u0 fs))) (upd (upd H1 a (.ins (c 27) dx (putF "points" u0 fs))) a (.ins (c 27) dx (putF "steps" u1 (putF "points" u0 fs)))) := DK.ins upd_same fun b o n e => (upd_ne n).trans e
    have few2 : List.length (putF "steps" u1 (putF "points" u0 fs)) < 1000 := by
      have e0 := putF_len ("points" : Str) u0 fs
      have e1 := putF_len ("steps" : Str) u1 (putF "points" u0 fs)
      omega
    refine ⟨.ref a, rfl, a, c 27, dx, _, .ref t, rfl, upd_same, cl, Z.noA (show 27 < 35 by decide) (by decide), lp2, t, _, 2, u2, rfl, rfl, SqT.of ht2, atI_nat (j := 2) rfl, .ref a, rfl, a, c 27, dx, _, rfl, upd_same, cl, Z.noA (show 27 < 35 by decide) (by decide), few2, ?_⟩
    have kp3 : ∀ b o, b ≠ a → H b = some o → (upd (upd (upd H1 a (.ins (c 27) dx (putF "points" u0 fs))) a (.ins (c 27) dx (putF "steps" u1 (putF "points" u0 fs)))) a (.ins (c 27) dx (putF "kept" u2 (putF "steps" u1 (putF "points" u0 fs))))) b = some o := fun b o n e => (upd_ne n).trans (kp2 b o n e)
    have ht3 : (upd (upd (upd H1 a (.ins (c 27) dx (putF "points" u0 fs))) a (.ins (c 27) dx (putF "steps" u1 (putF "points" u0 fs)))) a (.ins (c 27) dx (putF "kept" u2 (putF "steps" u1 (putF "points" u0 fs))))) t = some (.tup [u0, u1, u2]) := (upd_ne (ne_of_none2 ht2 upd_same)).trans ht2
    have lp3 : (putF "kept" u2 (putF "steps" u1 (putF "points" u0 fs))).lookup ("parts" : Str) = some (.ref t) := (look_ne (by decide) _ _).trans lp2
    have dk3 : DK (upd (upd H1 a (.ins (c 27) dx (putF "points" u0 fs))) a (.ins (c 27) dx (putF "steps" u1 (putF "points" u0 fs)))) (upd (upd (upd H1 a (.ins (c 27) dx (putF "points" u0 fs))) a (.ins (c 27) dx (putF "steps" u1 (putF "points" u0 fs)))) a (.ins (c 27) dx (putF "kept" u2 (putF "steps" u1 (putF "points" u0 fs))))) := DK.ins upd_same fun b o n e => (upd_ne n).trans e
    refine q _ kp3 ⟨[u0, u1, u2], t, ⟨dx, _, upd_same, ?_, fun p hp => ?_⟩, ht3, h6.keep ((dk1.trans dk2).trans dk3)⟩
    · have e0 := putF_len ("points" : Str) u0 fs
      have e1 := putF_len ("steps" : Str) u1 (putF "points" u0 fs)
      have e2 := putF_len ("kept" : Str) u2 (putF "steps" u1 (putF "points" u0 fs))
      omega
    · simp only [List.cons_append, List.nil_append, List.zip_cons_cons, List.zip_nil_right, List.zip_nil_left, List.mem_cons, List.not_mem_nil, or_false] at hp
      rcases hp with rfl | rfl | rfl | rfl | rfl <;> dsimp only <;> repeat (first | exact look_same _ _ _ | exact h3 | exact h4 | refine (look_ne (by decide) _ _).trans ?_)
theorem nsS28 : NScope ["self", "held", "short", "__class__"] ["self", "held", "short"] ["__class__"] (C8.fnScope (mS 28 0)) := nscope_by (by decide +kernel)
theorem fn_sub28 (Z : Tz P K mg c f cc cda fE fB) (G_fixed : C8.Cal P w K mg base 9 "fixed" (spF 9) []) : ∃ (kV doc pm : Value) (an : Option Addr) (ct : Value), FnOk P w K mg base C8.CX0 12 (f 28) (PySem.W.fnX "__init__" (nmP 28 ++ ".__init__") (C8.fnArgs (mS 28 0)) (C8.fnBody (mS 28 0)) (C8.fnScope (mS 28 0)) [("__class__", cc 28)] .none kV doc pm an (.ref (cda 28)) ct) ["self", "held", "short"] (spSub (c 28) "promisefront" ["held", "short"]) := by
  have S := Z.sf 28 (by decide) (by decide)
  have T : SupT (nfP 28 (cc 28) (cda 28)) := supT_of (show (((C8.fnArgs (mS 28 0)).posonlyargs ++ (C8.fnArgs (mS 28 0)).args).head?.map (·.arg) = some "self" ∧ (C8.fnScope (mS 28 0)).names.lookup ("super" : Str) = some .globalImplicit ∧ (C8.fnScope (mS 28 0)).names.lookup ("__class__" : Str) = some .free ∧ (C8.fnScope (mS 28 0)).names.lookup ("self" : Str) = some .local) by decide +kernel)
  have C := Z.sc 28 28 (by decide) (by decide) (by decide) (by decide)
  have F0 := fn_pi (w := w) (base := base) Z G_fixed (show 28 < 35 by decide)
  have cl := Z.cls (show 28 < 35 by decide)
  refine fn_supOk (P := P) (w := w) (mg := mg) (base := base) (N := ["self", "held", "short", "__class__"]) (k := 11) (ps := ["self", "held", "short"]) (st := (C8.fnBody (mS 28 0)).getD 0 (.Pass ⟨0, 0, 0, 0⟩)) (rest := (C8.fnBody (mS 28 0)).drop 1) (sp := spSub (c 28) "promisefront" ["held", "short"]) S nsS28 (by rfl) (by rfl) (fun vs H Q E h => ?_) ?_
  · obtain ⟨a, dx, ps, ds, rfl, hl, _⟩ := h
    exact congrArg Nat.succ hl
  · intro A outer s H vs Q E hr h hN
    obtain ⟨a, dx, ps, ds, rfl, hl, ha, hd, hs, q⟩ := h
    obtain ⟨p0, p1, rfl⟩ : ∃ p0 p1, ps = [p0, p1] := by
      match ps, hl with
      | [p0, p1], _ => exact ⟨p0, p1, rfl⟩
    refine ⟨_, (pss_cons (ps_fld (pv 0) (pe_ix ix_tup (pe_fld (pv 0) rfl) pe_int (fun _ _ => rfl)) rfl) (pss_one (ps_fld (pv 0) (pe_ix ix_tup (pe_fld (pv 0) rfl) pe_int (fun _ _ => rfl)) rfl))), fun s1 I => ?_⟩
    refine sup_stmt (X := ncx C8.CX0 P w K mg base ["self", "held", "short", "__class__"] (nfP 28 (cc 28) (cda 28)) (f 28) A outer s H E) (i := 0) (a := a) (C := c 28) (sup_ctx S T) C F0 (hr.mono (show 10 ≤ 11 by decide)) (pa_cons pe_str (pa_cons (pv 1) (pa_cons (pv 2) pa_nil))) I hN rfl ha (by decide) (by rfl) (by rfl) (by rfl) (by rfl) (by rfl) ?_ fun H' s' I' hq => ⟨rfl, H', I', hq⟩
    intro q0 nq
    have Sq := same_new nq (o := .met (f 0) a)
    refine ⟨p0, rfl, p1, rfl, upd_same, a, dx, "promisefront", [p0, p1], ds, rfl, Sq _ _ ha, hd.same Sq, hs, by show 2 ≤ 5; decide, fun us t fs H1 kp h1 h2 h3 h4 h5 h6 => ?_⟩
    have hul : us.length = 2 := by
      rw [h6.len, List.length_map, ← hd.len]
      rfl
    obtain ⟨u0, u1, rfl⟩ : ∃ u0 u1, us = [u0, u1] := by
      match us, hul with
      | [u0, u1], _ => exact ⟨u0, u1, rfl⟩
    have kp0 : ∀ b o, b ≠ a → H b = some o → H1 b = some o := fun b o n e => kp b o n (Sq _ _ e)
    have few0 : List.length fs < 1000 := by
      omega
    refine ⟨.ref a, rfl, a, c 28, dx, _, .ref t, rfl, h1, cl, Z.noA (show 28 < 35 by decide) (by decide), h4, t, _, 0, u0, rfl, rfl, SqT.of h5, atI_nat (j := 0) rfl, .ref a, rfl, a, c 28, dx, _, rfl, h1, cl, Z.noA (show 28 < 35 by decide) (by decide), few0, ?_⟩
    have kp1 : ∀ b o, b ≠ a → H b = some o → (upd H1 a (.ins (c 28) dx (putF "held" u0 fs))) b = some o := fun b o n e => (upd_ne n).trans (kp0 b o n e)
    have ht1 : (upd H1 a (.ins (c 28) dx (putF "held" u0 fs))) t = some (.tup [u0, u1]) := (upd_ne (ne_of_none2 h5 h1)).trans h5
    have lp1 : (putF "held" u0 fs).lookup ("parts" : Str) = some (.ref t) := (look_ne (by decide) _ _).trans h4
    have dk1 : DK H1 (upd H1 a (.ins (c 28) dx (putF "held" u0 fs))) := DK.ins h1 fun b o n e => (upd_ne n).trans e
    have few1 : List.length (putF "held" u0 fs) < 1000 := by
      have e0 := putF_len ("held" : Str) u0 fs
      omega
    refine ⟨.ref a, rfl, a, c 28, dx, _, .ref t, rfl, upd_same, cl, Z.noA (show 28 < 35 by decide) (by decide), lp1, t, _, 1, u1, rfl, rfl, SqT.of ht1, atI_nat (j := 1) rfl, .ref a, rfl, a, c 28, dx, _, rfl, upd_same, cl, Z.noA (show 28 < 35 by decide) (by decide), few1, ?_⟩
    have kp2 : ∀ b o, b ≠ a → H b = some o → (upd (upd H1 a (.ins (c 28) dx (putF "held" u0 fs))) a (.ins (c 28) dx (putF "short" u1 (putF "held" u0 fs)))) b = some o := fun b o n e => (upd_ne n).trans (kp1 b o n e)
    have ht2 : (upd (upd H1 a (.ins (c 28) dx (putF "held" u0 fs))) a (.ins (c 28) dx (putF "short" u1 (putF "held" u0 fs)))) t = some (.tup [u0, u1]) := (upd_ne (ne_of_none2 ht1 upd_same)).trans ht1
    have lp2 : (putF "short" u1 (putF "held" u0 fs)).lookup ("parts" : Str) = some (.ref t) := (look_ne (by decide) _ _).trans lp1
    have dk2 : DK (upd H1 a (.ins (c 28) dx (putF "held" u0 fs))) (upd (upd H1 a (.ins (c 28) dx (putF "held" u0 fs))) a (.ins (c 28) dx (putF "short" u1 (putF "held" u0 fs)))) := DK.ins upd_same fun b o n e => (upd_ne n).trans e
    refine q _ kp2 ⟨[u0, u1], t, ⟨dx, _, upd_same, ?_, fun p hp => ?_⟩, ht2, h6.keep (dk1.trans dk2)⟩
    · have e0 := putF_len ("held" : Str) u0 fs
      have e1 := putF_len ("short" : Str) u1 (putF "held" u0 fs)
      omega
    · simp only [List.cons_append, List.nil_append, List.zip_cons_cons, List.zip_nil_right, List.zip_nil_left, List.mem_cons, List.not_mem_nil, or_false] at hp
      rcases hp with rfl | rfl | rfl | rfl <;> dsimp only <;> repeat (first | exact look_same _ _ _ | exact h3 | exact h4 | refine (look_ne (by decide) _ _).trans ?_)
theorem nsS29 : NScope ["self", "enough", "short", "__class__"] ["self", "enough", "short"] ["__class__"] (C8.fnScope (mS 29 0)) := nscope_by (by decide +kernel)
theorem fn_sub29 (Z : Tz P K mg c f cc cda fE fB) (G_fixed : C8.Cal P w K mg base 9 "fixed" (spF 9) []) : ∃ (kV doc pm : Value) (an : Option Addr) (ct : Value), FnOk P w K mg base C8.CX0 12 (f 29) (PySem.W.fnX "__init__" (nmP 29 ++ ".__init__") (C8.fnArgs (mS 29 0)) (C8.fnBody (mS 29 0)) (C8.fnScope (mS 29 0)) [("__class__", cc 29)] .none kV doc pm an (.ref (cda 29)) ct) ["self", "enough", "short"] (spSub (c 29) "sightfront" ["enough", "short"]) := by
  have S := Z.sf 29 (by decide) (by decide)
  have T : SupT (nfP 29 (cc 29) (cda 29)) := supT_of (show (((C8.fnArgs (mS 29 0)).posonlyargs ++ (C8.fnArgs (mS 29 0)).args).head?.map (·.arg) = some "self" ∧ (C8.fnScope (mS 29 0)).names.lookup ("super" : Str) = some .globalImplicit ∧ (C8.fnScope (mS 29 0)).names.lookup ("__class__" : Str) = some .free ∧ (C8.fnScope (mS 29 0)).names.lookup ("self" : Str) = some .local) by decide +kernel)
  have C := Z.sc 29 29 (by decide) (by decide) (by decide) (by decide)
  have F0 := fn_pi (w := w) (base := base) Z G_fixed (show 29 < 35 by decide)
  have cl := Z.cls (show 29 < 35 by decide)
  refine fn_supOk (P := P) (w := w) (mg := mg) (base := base) (N := ["self", "enough", "short", "__class__"]) (k := 11) (ps := ["self", "enough", "short"]) (st := (C8.fnBody (mS 29 0)).getD 0 (.Pass ⟨0, 0, 0, 0⟩)) (rest := (C8.fnBody (mS 29 0)).drop 1) (sp := spSub (c 29) "sightfront" ["enough", "short"]) S nsS29 (by rfl) (by rfl) (fun vs H Q E h => ?_) ?_
  · obtain ⟨a, dx, ps, ds, rfl, hl, _⟩ := h
    exact congrArg Nat.succ hl
  · intro A outer s H vs Q E hr h hN
    obtain ⟨a, dx, ps, ds, rfl, hl, ha, hd, hs, q⟩ := h
    obtain ⟨p0, p1, rfl⟩ : ∃ p0 p1, ps = [p0, p1] := by
      match ps, hl with
      | [p0, p1], _ => exact ⟨p0, p1, rfl⟩
    refine ⟨_, (pss_cons (ps_fld (pv 0) (pe_ix ix_tup (pe_fld (pv 0) rfl) pe_int (fun _ _ => rfl)) rfl) (pss_one (ps_fld (pv 0) (pe_ix ix_tup (pe_fld (pv 0) rfl) pe_int (fun _ _ => rfl)) rfl))), fun s1 I => ?_⟩
    refine sup_stmt (X := ncx C8.CX0 P w K mg base ["self", "enough", "short", "__class__"] (nfP 29 (cc 29) (cda 29)) (f 29) A outer s H E) (i := 0) (a := a) (C := c 29) (sup_ctx S T) C F0 (hr.mono (show 10 ≤ 11 by decide)) (pa_cons pe_str (pa_cons (pv 1) (pa_cons (pv 2) pa_nil))) I hN rfl ha (by decide) (by rfl) (by rfl) (by rfl) (by rfl) (by rfl) ?_ fun H' s' I' hq => ⟨rfl, H', I', hq⟩
    intro q0 nq
    have Sq := same_new nq (o := .met (f 0) a)
    refine ⟨p0, rfl, p1, rfl, upd_same, a, dx, "sightfront", [p0, p1], ds, rfl, Sq _ _ ha, hd.same Sq, hs, by show 2 ≤ 5; decide, fun us t fs H1 kp h1 h2 h3 h4 h5 h6 => ?_⟩
    have hul : us.length = 2 := by
      rw [h6.len, List.length_map, ← hd.len]
      rfl
    obtain ⟨u0, u1, rfl⟩ : ∃ u0 u1, us = [u0, u1] := by
      match us, hul with
      | [u0, u1], _ => exact ⟨u0, u1, rfl⟩
    have kp0 : ∀ b o, b ≠ a → H b = some o → H1 b = some o := fun b o n e => kp b o n (Sq _ _ e)
    have few0 : List.length fs < 1000 := by
      omega
    refine ⟨.ref a, rfl, a, c 29, dx, _, .ref t, rfl, h1, cl, Z.noA (show 29 < 35 by decide) (by decide), h4, t, _, 0, u0, rfl, rfl, SqT.of h5, atI_nat (j := 0) rfl, .ref a, rfl, a, c 29, dx, _, rfl, h1, cl, Z.noA (show 29 < 35 by decide) (by decide), few0, ?_⟩
    have kp1 : ∀ b o, b ≠ a → H b = some o → (upd H1 a (.ins (c 29) dx (putF "enough" u0 fs))) b = some o := fun b o n e => (upd_ne n).trans (kp0 b o n e)
    have ht1 : (upd H1 a (.ins (c 29) dx (putF "enough" u0 fs))) t = some (.tup [u0, u1]) := (upd_ne (ne_of_none2 h5 h1)).trans h5
    have lp1 : (putF "enough" u0 fs).lookup ("parts" : Str) = some (.ref t) := (look_ne (by decide) _ _).trans h4
    have dk1 : DK H1 (upd H1 a (.ins (c 29) dx (putF "enough" u0 fs))) := DK.ins h1 fun b o n e => (upd_ne n).trans e
    have few1 : List.length (putF "enough" u0 fs) < 1000 := by
      have e0 := putF_len ("enough" : Str) u0 fs
      omega
    refine ⟨.ref a, rfl, a, c 29, dx, _, .ref t, rfl, upd_same, cl, Z.noA (show 29 < 35 by decide) (by decide), lp1, t, _, 1, u1, rfl, rfl, SqT.of ht1, atI_nat (j := 1) rfl, .ref a, rfl, a, c 29, dx, _, rfl, upd_same, cl, Z.noA (show 29 < 35 by decide) (by decide), few1, ?_⟩
    have kp2 : ∀ b o, b ≠ a → H b = some o → (upd (upd H1 a (.ins (c 29) dx (putF "enough" u0 fs))) a (.ins (c 29) dx (putF "short" u1 (putF "enough" u0 fs)))) b = some o := fun b o n e => (upd_ne n).trans (kp1 b o n e)
    have ht2 : (upd (upd H1 a (.ins (c 29) dx (putF "enough" u0 fs))) a (.ins (c 29) dx (putF "short" u1 (putF "enough" u0 fs)))) t = some (.tup [u0, u1]) := (upd_ne (ne_of_none2 ht1 upd_same)).trans ht1
    have lp2 : (putF "short" u1 (putF "enough" u0 fs)).lookup ("parts" : Str) = some (.ref t) := (look_ne (by decide) _ _).trans lp1
    have dk2 : DK (upd H1 a (.ins (c 29) dx (putF "enough" u0 fs))) (upd (upd H1 a (.ins (c 29) dx (putF "enough" u0 fs))) a (.ins (c 29) dx (putF "short" u1 (putF "enough" u0 fs)))) := DK.ins upd_same fun b o n e => (upd_ne n).trans e
    refine q _ kp2 ⟨[u0, u1], t, ⟨dx, _, upd_same, ?_, fun p hp => ?_⟩, ht2, h6.keep (dk1.trans dk2)⟩
    · have e0 := putF_len ("enough" : Str) u0 fs
      have e1 := putF_len ("short" : Str) u1 (putF "enough" u0 fs)
      omega
    · simp only [List.cons_append, List.nil_append, List.zip_cons_cons, List.zip_nil_right, List.zip_nil_left, List.mem_cons, List.not_mem_nil, or_false] at hp
      rcases hp with rfl | rfl | rfl | rfl <;> dsimp only <;> repeat (first | exact look_same _ _ _ | exact h3 | exact h4 | refine (look_ne (by decide) _ _).trans ?_)
theorem nsS30 : NScope ["self", "cases", "__class__"] ["self", "cases"] ["__class__"] (C8.fnScope (mS 30 0)) := nscope_by (by decide +kernel)
theorem fn_sub30 (Z : Tz P K mg c f cc cda fE fB) (G_fixed : C8.Cal P w K mg base 9 "fixed" (spF 9) []) : ∃ (kV doc pm : Value) (an : Option Addr) (ct : Value), FnOk P w K mg base C8.CX0 12 (f 30) (PySem.W.fnX "__init__" (nmP 30 ++ ".__init__") (C8.fnArgs (mS 30 0)) (C8.fnBody (mS 30 0)) (C8.fnScope (mS 30 0)) [("__class__", cc 30)] .none kV doc pm an (.ref (cda 30)) ct) ["self", "cases"] (spSub (c 30) "stays" ["cases"]) := by
  have S := Z.sf 30 (by decide) (by decide)
  have T : SupT (nfP 30 (cc 30) (cda 30)) := supT_of (show (((C8.fnArgs (mS 30 0)).posonlyargs ++ (C8.fnArgs (mS 30 0)).args).head?.map (·.arg) = some "self" ∧ (C8.fnScope (mS 30 0)).names.lookup ("super" : Str) = some .globalImplicit ∧ (C8.fnScope (mS 30 0)).names.lookup ("__class__" : Str) = some .free ∧ (C8.fnScope (mS 30 0)).names.lookup ("self" : Str) = some .local) by decide +kernel)
  have C := Z.sc 30 30 (by decide) (by decide) (by decide) (by decide)
  have F0 := fn_pi (w := w) (base := base) Z G_fixed (show 30 < 35 by decide)
  have cl := Z.cls (show 30 < 35 by decide)
  refine fn_supOk (P := P) (w := w) (mg := mg) (base := base) (N := ["self", "cases", "__class__"]) (k := 11) (ps := ["self", "cases"]) (st := (C8.fnBody (mS 30 0)).getD 0 (.Pass ⟨0, 0, 0, 0⟩)) (rest := (C8.fnBody (mS 30 0)).drop 1) (sp := spSub (c 30) "stays" ["cases"]) S nsS30 (by rfl) (by rfl) (fun vs H Q E h => ?_) ?_
  · obtain ⟨a, dx, ps, ds, rfl, hl, _⟩ := h
    exact congrArg Nat.succ hl
  · intro A outer s H vs Q E hr h hN
    obtain ⟨a, dx, ps, ds, rfl, hl, ha, hd, hs, q⟩ := h
    obtain ⟨p0, rfl⟩ : ∃ p0, ps = [p0] := by
      match ps, hl with
      | [p0], _ => exact ⟨p0, rfl⟩
    refine ⟨_, (pss_one (ps_fld (pv 0) (pe_ix ix_tup (pe_fld (pv 0) rfl) pe_int (fun _ _ => rfl)) rfl)), fun s1 I => ?_⟩
    refine sup_stmt (X := ncx C8.CX0 P w K mg base ["self", "cases", "__class__"] (nfP 30 (cc 30) (cda 30)) (f 30) A outer s H E) (i := 0) (a := a) (C := c 30) (sup_ctx S T) C F0 (hr.mono (show 10 ≤ 11 by decide)) (pa_cons pe_str (pa_cons (pv 1) pa_nil)) I hN rfl ha (by decide) (by rfl) (by rfl) (by rfl) (by rfl) (by rfl) ?_ fun H' s' I' hq => ⟨rfl, H', I', hq⟩
    intro q0 nq
    have Sq := same_new nq (o := .met (f 0) a)
    refine ⟨p0, rfl, upd_same, a, dx, "stays", [p0], ds, rfl, Sq _ _ ha, hd.same Sq, hs, by show 1 ≤ 5; decide, fun us t fs H1 kp h1 h2 h3 h4 h5 h6 => ?_⟩
    have hul : us.length = 1 := by
      rw [h6.len, List.length_map, ← hd.len]
      rfl
    obtain ⟨u0, rfl⟩ : ∃ u0, us = [u0] := by
      match us, hul with
      | [u0], _ => exact ⟨u0, rfl⟩
    have kp0 : ∀ b o, b ≠ a → H b = some o → H1 b = some o := fun b o n e => kp b o n (Sq _ _ e)
    have few0 : List.length fs < 1000 := by
      omega
    refine ⟨.ref a, rfl, a, c 30, dx, _, .ref t, rfl, h1, cl, Z.noA (show 30 < 35 by decide) (by decide), h4, t, _, 0, u0, rfl, rfl, SqT.of h5, atI_nat (j := 0) rfl, .ref a, rfl, a, c 30, dx, _, rfl, h1, cl, Z.noA (show 30 < 35 by decide) (by decide), few0, ?_⟩
    have kp1 : ∀ b o, b ≠ a → H b = some o → (upd H1 a (.ins (c 30) dx (putF "cases" u0 fs))) b = some o := fun b o n e => (upd_ne n).trans (kp0 b o n e)
    have ht1 : (upd H1 a (.ins (c 30) dx (putF "cases" u0 fs))) t = some (.tup [u0]) := (upd_ne (ne_of_none2 h5 h1)).trans h5
    have lp1 : (putF "cases" u0 fs).lookup ("parts" : Str) = some (.ref t) := (look_ne (by decide) _ _).trans h4
    have dk1 : DK H1 (upd H1 a (.ins (c 30) dx (putF "cases" u0 fs))) := DK.ins h1 fun b o n e => (upd_ne n).trans e
    refine q _ kp1 ⟨[u0], t, ⟨dx, _, upd_same, ?_, fun p hp => ?_⟩, ht1, h6.keep dk1⟩
    · have e0 := putF_len ("cases" : Str) u0 fs
      omega
    · simp only [List.cons_append, List.nil_append, List.zip_cons_cons, List.zip_nil_right, List.zip_nil_left, List.mem_cons, List.not_mem_nil, or_false] at hp
      rcases hp with rfl | rfl | rfl <;> dsimp only <;> repeat (first | exact look_same _ _ _ | exact h3 | exact h4 | refine (look_ne (by decide) _ _).trans ?_)
theorem nsS31 : NScope ["self", "first", "states", "pages", "__class__"] ["self", "first", "states", "pages"] ["__class__"] (C8.fnScope (mS 31 0)) := nscope_by (by decide +kernel)
theorem fn_sub31 (Z : Tz P K mg c f cc cda fE fB) (G_fixed : C8.Cal P w K mg base 9 "fixed" (spF 9) []) : ∃ (kV doc pm : Value) (an : Option Addr) (ct : Value), FnOk P w K mg base C8.CX0 12 (f 31) (PySem.W.fnX "__init__" (nmP 31 ++ ".__init__") (C8.fnArgs (mS 31 0)) (C8.fnBody (mS 31 0)) (C8.fnScope (mS 31 0)) [("__class__", cc 31)] .none kV doc pm an (.ref (cda 31)) ct) ["self", "first", "states", "pages"] (spSub (c 31) "slips" ["first", "states", "pages"]) := by
  have S := Z.sf 31 (by decide) (by decide)
  have T : SupT (nfP 31 (cc 31) (cda 31)) := supT_of (show (((C8.fnArgs (mS 31 0)).posonlyargs ++ (C8.fnArgs (mS 31 0)).args).head?.map (·.arg) = some "self" ∧ (C8.fnScope (mS 31 0)).names.lookup ("super" : Str) = some .globalImplicit ∧ (C8.fnScope (mS 31 0)).names.lookup ("__class__" : Str) = some .free ∧ (C8.fnScope (mS 31 0)).names.lookup ("self" : Str) = some .local) by decide +kernel)
  have C := Z.sc 31 31 (by decide) (by decide) (by decide) (by decide)
  have F0 := fn_den (w := w) (base := base) Z G_fixed (show 31 < 35 by decide) (by decide)
  have cl := Z.cls (show 31 < 35 by decide)
  refine fn_supOk (P := P) (w := w) (mg := mg) (base := base) (N := ["self", "first", "states", "pages", "__class__"]) (k := 11) (ps := ["self", "first", "states", "pages"]) (st := (C8.fnBody (mS 31 0)).getD 0 (.Pass ⟨0, 0, 0, 0⟩)) (rest := (C8.fnBody (mS 31 0)).drop 1) (sp := spSub (c 31) "slips" ["first", "states", "pages"]) S nsS31 (by rfl) (by rfl) (fun vs H Q E h => ?_) ?_
  · obtain ⟨a, dx, ps, ds, rfl, hl, _⟩ := h
    exact congrArg Nat.succ hl
  · intro A outer s H vs Q E hr h hN
    obtain ⟨a, dx, ps, ds, rfl, hl, ha, hd, hs, q⟩ := h
    obtain ⟨p0, p1, p2, rfl⟩ : ∃ p0 p1 p2, ps = [p0, p1, p2] := by
      match ps, hl with
      | [p0, p1, p2], _ => exact ⟨p0, p1, p2, rfl⟩
    refine ⟨_, (pss_cons (ps_fld (pv 0) (pe_ix ix_tup (pe_fld (pv 0) rfl) pe_int (fun _ _ => rfl)) rfl) (pss_cons (ps_fld (pv 0) (pe_ix ix_tup (pe_fld (pv 0) rfl) pe_int (fun _ _ => rfl)) rfl) (pss_one (ps_fld (pv 0) (pe_ix ix_tup (pe_fld (pv 0) rfl) pe_int (fun _ _ => rfl)) rfl)))), fun s1 I => ?_⟩
    refine sup_stmt (X := ncx C8.CX0 P w K mg base ["self", "first", "states", "pages", "__class__"] (nfP 31 (cc 31) (cda 31)) (f 31) A outer s H E) (i := 0) (a := a) (C := c 31) (sup_ctx S T) C F0 (hr.mono (show 11 ≤ 11 by decide)) (pa_cons pe_str (pa_cons (pv 1) (pa_cons (pv 2) (pa_cons (pv 3) pa_nil)))) I hN rfl ha (by decide) (by rfl) (by rfl) (by rfl) (by rfl) (by rfl) ?_ fun H' s' I' hq => ⟨rfl, H', I', hq⟩
    intro q0 nq
    have Sq := same_new nq (o := .met (f 1) a)
    refine ⟨p0, rfl, p1, rfl, p2, rfl, upd_same, a, dx, "slips", [p0, p1, p2], ds, rfl, Sq _ _ ha, hd.same Sq, hs, by show 3 ≤ 5; decide, fun us t fs H1 kp h1 h2 h3 h4 h5 h6 => ?_⟩
    have hul : us.length = 3 := by
      rw [h6.len, List.length_map, ← hd.len]
      rfl
    obtain ⟨u0, u1, u2, rfl⟩ : ∃ u0 u1 u2, us = [u0, u1, u2] := by
      match us, hul with
      | [u0, u1, u2], _ => exact ⟨u0, u1, u2, rfl⟩
    have kp0 : ∀ b o, b ≠ a → H b = some o → H1 b = some o := fun b o n e => kp b o n (Sq _ _ e)
    have few0 : List.length fs < 1000 := by
      omega
    refine ⟨.ref a, rfl, a, c 31, dx, _, .ref t, rfl, h1, cl, Z.noA (show 31 < 35 by decide) (by decide), h4, t, _, 0, u0, rfl, rfl, SqT.of h5, atI_nat (j := 0) rfl, .ref a, rfl, a, c 31, dx, _, rfl, h1, cl, Z.noA (show 31 < 35 by decide) (by decide), few0, ?_⟩
    have kp1 : ∀ b o, b ≠ a → H b = some o → (upd H1 a (.ins (c 31) dx (putF "first" u0 fs))) b = some o := fun b o n e => (upd_ne n).trans (kp0 b o n e)
    have ht1 : (upd H1 a (.ins (c 31) dx (putF "first" u0 fs))) t = some (.tup [u0, u1, u2]) := (upd_ne (ne_of_none2 h5 h1)).trans h5
    have lp1 : (putF "first" u0 fs).lookup ("parts" : Str) = some (.ref t) := (look_ne (by decide) _ _).trans h4
    have dk1 : DK H1 (upd H1 a (.ins (c 31) dx (putF "first" u0 fs))) := DK.ins h1 fun b o n e => (upd_ne n).trans e
    have few1 : List.length (putF "first" u0 fs) < 1000 := by
      have e0 := putF_len ("first" : Str) u0 fs
      omega
    refine ⟨.ref a, rfl, a, c 31, dx, _, .ref t, rfl, upd_same, cl, Z.noA (show 31 < 35 by decide) (by decide), lp1, t, _, 1, u1, rfl, rfl, SqT.of ht1, atI_nat (j := 1) rfl, .ref a, rfl, a, c 31, dx, _, rfl, upd_same, cl, Z.noA (show 31 < 35 by decide) (by decide), few1, ?_⟩
    have kp2 : ∀ b o, b ≠ a → H b = some o → (upd (upd H1 a (.ins (c 31) dx (putF "first" u0 fs))) a (.ins (c 31) dx (putF "states" u1 (putF "first" u0 fs)))) b = some o := fun b o n e => (upd_ne n).trans (kp1 b o n e)
    have ht2 : (upd (upd H1 a (.ins (c 31) dx (putF "first" u0 fs))) a (.ins (c 31) dx (putF "states" u1 (putF "first" u0 fs)))) t = some (.tup [u0, u1, u2]) := (upd_ne (ne_of_none2 ht1 upd_same)).trans ht1
    have lp2 : (putF "states" u1 (putF "first" u0 fs)).lookup ("parts" : Str) = some (.ref t) := (look_ne (by decide) _ _).trans lp1
    have dk2 : DK (upd H1 a (.ins (c 31) dx (putF "first" u0 fs))) (upd (upd H1 a (.ins (c 31) dx (putF "first" u0 fs))) a (.ins (c 31) dx (putF "states" u1 (putF "first" u0 fs)))) := DK.ins upd_same fun b o n e => (upd_ne n).trans e
    have few2 : List.length (putF "states" u1 (putF "first" u0 fs)) < 1000 := by
      have e0 := putF_len ("first" : Str) u0 fs
      have e1 := putF_len ("states" : Str) u1 (putF "first" u0 fs)
      omega
    refine ⟨.ref a, rfl, a, c 31, dx, _, .ref t, rfl, upd_same, cl, Z.noA (show 31 < 35 by decide) (by decide), lp2, t, _, 2, u2, rfl, rfl, SqT.of ht2, atI_nat (j := 2) rfl, .ref a, rfl, a, c 31, dx, _, rfl, upd_same, cl, Z.noA (show 31 < 35 by decide) (by decide), few2, ?_⟩
    have kp3 : ∀ b o, b ≠ a → H b = some o → (upd (upd (upd H1 a (.ins (c 31) dx (putF "first" u0 fs))) a (.ins (c 31) dx (putF "states" u1 (putF "first" u0 fs)))) a (.ins (c 31) dx (putF "pages" u2 (putF "states" u1 (putF "first" u0 fs))))) b = some o := fun b o n e => (upd_ne n).trans (kp2 b o n e)
    have ht3 : (upd (upd (upd H1 a (.ins (c 31) dx (putF "first" u0 fs))) a (.ins (c 31) dx (putF "states" u1 (putF "first" u0 fs)))) a (.ins (c 31) dx (putF "pages" u2 (putF "states" u1 (putF "first" u0 fs))))) t = some (.tup [u0, u1, u2]) := (upd_ne (ne_of_none2 ht2 upd_same)).trans ht2
    have lp3 : (putF "pages" u2 (putF "states" u1 (putF "first" u0 fs))).lookup ("parts" : Str) = some (.ref t) := (look_ne (by decide) _ _).trans lp2
    have dk3 : DK (upd (upd H1 a (.ins (c 31) dx (putF "first" u0 fs))) a (.ins (c 31) dx (putF "states" u1 (putF "first" u0 fs)))) (upd (upd (upd H1 a (.ins (c 31) dx (putF "first" u0 fs))) a (.ins (c 31) dx (putF "states" u1 (putF "first" u0 fs)))) a (.ins (c 31) dx (putF "pages" u2 (putF "states" u1 (putF "first" u0 fs))))) := DK.ins upd_same fun b o n e => (upd_ne n).trans e
    refine q _ kp3 ⟨[u0, u1, u2], t, ⟨dx, _, upd_same, ?_, fun p hp => ?_⟩, ht3, h6.keep ((dk1.trans dk2).trans dk3)⟩
    · have e0 := putF_len ("first" : Str) u0 fs
      have e1 := putF_len ("states" : Str) u1 (putF "first" u0 fs)
      have e2 := putF_len ("pages" : Str) u2 (putF "states" u1 (putF "first" u0 fs))
      omega
    · simp only [List.cons_append, List.nil_append, List.zip_cons_cons, List.zip_nil_right, List.zip_nil_left, List.mem_cons, List.not_mem_nil, or_false] at hp
      rcases hp with rfl | rfl | rfl | rfl | rfl <;> dsimp only <;> repeat (first | exact look_same _ _ _ | exact h3 | exact h4 | refine (look_ne (by decide) _ _).trans ?_)
theorem nsS32 : NScope ["self", "pages", "entries", "cases", "__class__"] ["self", "pages", "entries", "cases"] ["__class__"] (C8.fnScope (mS 32 0)) := nscope_by (by decide +kernel)
theorem fn_sub32 (Z : Tz P K mg c f cc cda fE fB) (G_fixed : C8.Cal P w K mg base 9 "fixed" (spF 9) []) : ∃ (kV doc pm : Value) (an : Option Addr) (ct : Value), FnOk P w K mg base C8.CX0 12 (f 32) (PySem.W.fnX "__init__" (nmP 32 ++ ".__init__") (C8.fnArgs (mS 32 0)) (C8.fnBody (mS 32 0)) (C8.fnScope (mS 32 0)) [("__class__", cc 32)] .none kV doc pm an (.ref (cda 32)) ct) ["self", "pages", "entries", "cases"] (spSub (c 32) "firm" ["pages", "entries", "cases"]) := by
  have S := Z.sf 32 (by decide) (by decide)
  have T : SupT (nfP 32 (cc 32) (cda 32)) := supT_of (show (((C8.fnArgs (mS 32 0)).posonlyargs ++ (C8.fnArgs (mS 32 0)).args).head?.map (·.arg) = some "self" ∧ (C8.fnScope (mS 32 0)).names.lookup ("super" : Str) = some .globalImplicit ∧ (C8.fnScope (mS 32 0)).names.lookup ("__class__" : Str) = some .free ∧ (C8.fnScope (mS 32 0)).names.lookup ("self" : Str) = some .local) by decide +kernel)
  have C := Z.sc 32 32 (by decide) (by decide) (by decide) (by decide)
  have F0 := fn_pi (w := w) (base := base) Z G_fixed (show 32 < 35 by decide)
  have cl := Z.cls (show 32 < 35 by decide)
  refine fn_supOk (P := P) (w := w) (mg := mg) (base := base) (N := ["self", "pages", "entries", "cases", "__class__"]) (k := 11) (ps := ["self", "pages", "entries", "cases"]) (st := (C8.fnBody (mS 32 0)).getD 0 (.Pass ⟨0, 0, 0, 0⟩)) (rest := (C8.fnBody (mS 32 0)).drop 1) (sp := spSub (c 32) "firm" ["pages", "entries", "cases"]) S nsS32 (by rfl) (by rfl) (fun vs H Q E h => ?_) ?_
  · obtain ⟨a, dx, ps, ds, rfl, hl, _⟩ := h
    exact congrArg Nat.succ hl
  · intro A outer s H vs Q E hr h hN
    obtain ⟨a, dx, ps, ds, rfl, hl, ha, hd, hs, q⟩ := h
    obtain ⟨p0, p1, p2, rfl⟩ : ∃ p0 p1 p2, ps = [p0, p1, p2] := by
      match ps, hl with
      | [p0, p1, p2], _ => exact ⟨p0, p1, p2, rfl⟩
    refine ⟨_, (pss_cons (ps_fld (pv 0) (pe_ix ix_tup (pe_fld (pv 0) rfl) pe_int (fun _ _ => rfl)) rfl) (pss_cons (ps_fld (pv 0) (pe_ix ix_tup (pe_fld (pv 0) rfl) pe_int (fun _ _ => rfl)) rfl) (pss_one (ps_fld (pv 0) (pe_ix ix_tup (pe_fld (pv 0) rfl) pe_int (fun _ _ => rfl)) rfl)))), fun s1 I => ?_⟩
    refine sup_stmt (X := ncx C8.CX0 P w K mg base ["self", "pages", "entries", "cases", "__class__"] (nfP 32 (cc 32) (cda 32)) (f 32) A outer s H E) (i := 0) (a := a) (C := c 32) (sup_ctx S T) C F0 (hr.mono (show 10 ≤ 11 by decide)) (pa_cons pe_str (pa_cons (pv 1) (pa_cons (pv 2) (pa_cons (pv 3) pa_nil)))) I hN rfl ha (by decide) (by rfl) (by rfl) (by rfl) (by rfl) (by rfl) ?_ fun H' s' I' hq => ⟨rfl, H', I', hq⟩
    intro q0 nq
    have Sq := same_new nq (o := .met (f 0) a)
    refine ⟨p0, rfl, p1, rfl, p2, rfl, upd_same, a, dx, "firm", [p0, p1, p2], ds, rfl, Sq _ _ ha, hd.same Sq, hs, by show 3 ≤ 5; decide, fun us t fs H1 kp h1 h2 h3 h4 h5 h6 => ?_⟩
    have hul : us.length = 3 := by
      rw [h6.len, List.length_map, ← hd.len]
      rfl
    obtain ⟨u0, u1, u2, rfl⟩ : ∃ u0 u1 u2, us = [u0, u1, u2] := by
      match us, hul with
      | [u0, u1, u2], _ => exact ⟨u0, u1, u2, rfl⟩
    have kp0 : ∀ b o, b ≠ a → H b = some o → H1 b = some o := fun b o n e => kp b o n (Sq _ _ e)
    have few0 : List.length fs < 1000 := by
      omega
    refine ⟨.ref a, rfl, a, c 32, dx, _, .ref t, rfl, h1, cl, Z.noA (show 32 < 35 by decide) (by decide), h4, t, _, 0, u0, rfl, rfl, SqT.of h5, atI_nat (j := 0) rfl, .ref a, rfl, a, c 32, dx, _, rfl, h1, cl, Z.noA (show 32 < 35 by decide) (by decide), few0, ?_⟩
    have kp1 : ∀ b o, b ≠ a → H b = some o → (upd H1 a (.ins (c 32) dx (putF "pages" u0 fs))) b = some o := fun b o n e => (upd_ne n).trans (kp0 b o n e)
    have ht1 : (upd H1 a (.ins (c 32) dx (putF "pages" u0 fs))) t = some (.tup [u0, u1, u2]) := (upd_ne (ne_of_none2 h5 h1)).trans h5
    have lp1 : (putF "pages" u0 fs).lookup ("parts" : Str) = some (.ref t) := (look_ne (by decide) _ _).trans h4
    have dk1 : DK H1 (upd H1 a (.ins (c 32) dx (putF "pages" u0 fs))) := DK.ins h1 fun b o n e => (upd_ne n).trans e
    have few1 : List.length (putF "pages" u0 fs) < 1000 := by
      have e0 := putF_len ("pages" : Str) u0 fs
      omega
    refine ⟨.ref a, rfl, a, c 32, dx, _, .ref t, rfl, upd_same, cl, Z.noA (show 32 < 35 by decide) (by decide), lp1, t, _, 1, u1, rfl, rfl, SqT.of ht1, atI_nat (j := 1) rfl, .ref a, rfl, a, c 32, dx, _, rfl, upd_same, cl, Z.noA (show 32 < 35 by decide) (by decide), few1, ?_⟩
    have kp2 : ∀ b o, b ≠ a → H b = some o → (upd (upd H1 a (.ins (c 32) dx (putF "pages" u0 fs))) a (.ins (c 32) dx (putF "entries" u1 (putF "pages" u0 fs)))) b = some o := fun b o n e => (upd_ne n).trans (kp1 b o n e)
    have ht2 : (upd (upd H1 a (.ins (c 32) dx (putF "pages" u0 fs))) a (.ins (c 32) dx (putF "entries" u1 (putF "pages" u0 fs)))) t = some (.tup [u0, u1, u2]) := (upd_ne (ne_of_none2 ht1 upd_same)).trans ht1
    have lp2 : (putF "entries" u1 (putF "pages" u0 fs)).lookup ("parts" : Str) = some (.ref t) := (look_ne (by decide) _ _).trans lp1
    have dk2 : DK (upd H1 a (.ins (c 32) dx (putF "pages" u0 fs))) (upd (upd H1 a (.ins (c 32) dx (putF "pages" u0 fs))) a (.ins (c 32) dx (putF "entries" u1 (putF "pages" u0 fs)))) := DK.ins upd_same fun b o n e => (upd_ne n).trans e
    have few2 : List.length (putF "entries" u1 (putF "pages" u0 fs)) < 1000 := by
      have e0 := putF_len ("pages" : Str) u0 fs
      have e1 := putF_len ("entries" : Str) u1 (putF "pages" u0 fs)
      omega
    refine ⟨.ref a, rfl, a, c 32, dx, _, .ref t, rfl, upd_same, cl, Z.noA (show 32 < 35 by decide) (by decide), lp2, t, _, 2, u2, rfl, rfl, SqT.of ht2, atI_nat (j := 2) rfl, .ref a, rfl, a, c 32, dx, _, rfl, upd_same, cl, Z.noA (show 32 < 35 by decide) (by decide), few2, ?_⟩
    have kp3 : ∀ b o, b ≠ a → H b = some o → (upd (upd (upd H1 a (.ins (c 32) dx (putF "pages" u0 fs))) a (.ins (c 32) dx (putF "entries" u1 (putF "pages" u0 fs)))) a (.ins (c 32) dx (putF "cases" u2 (putF "entries" u1 (putF "pages" u0 fs))))) b = some o := fun b o n e => (upd_ne n).trans (kp2 b o n e)
    have ht3 : (upd (upd (upd H1 a (.ins (c 32) dx (putF "pages" u0 fs))) a (.ins (c 32) dx (putF "entries" u1 (putF "pages" u0 fs)))) a (.ins (c 32) dx (putF "cases" u2 (putF "entries" u1 (putF "pages" u0 fs))))) t = some (.tup [u0, u1, u2]) := (upd_ne (ne_of_none2 ht2 upd_same)).trans ht2
    have lp3 : (putF "cases" u2 (putF "entries" u1 (putF "pages" u0 fs))).lookup ("parts" : Str) = some (.ref t) := (look_ne (by decide) _ _).trans lp2
    have dk3 : DK (upd (upd H1 a (.ins (c 32) dx (putF "pages" u0 fs))) a (.ins (c 32) dx (putF "entries" u1 (putF "pages" u0 fs)))) (upd (upd (upd H1 a (.ins (c 32) dx (putF "pages" u0 fs))) a (.ins (c 32) dx (putF "entries" u1 (putF "pages" u0 fs)))) a (.ins (c 32) dx (putF "cases" u2 (putF "entries" u1 (putF "pages" u0 fs))))) := DK.ins upd_same fun b o n e => (upd_ne n).trans e
    refine q _ kp3 ⟨[u0, u1, u2], t, ⟨dx, _, upd_same, ?_, fun p hp => ?_⟩, ht3, h6.keep ((dk1.trans dk2).trans dk3)⟩
    · have e0 := putF_len ("pages" : Str) u0 fs
      have e1 := putF_len ("entries" : Str) u1 (putF "pages" u0 fs)
      have e2 := putF_len ("cases" : Str) u2 (putF "entries" u1 (putF "pages" u0 fs))
      omega
    · simp only [List.cons_append, List.nil_append, List.zip_cons_cons, List.zip_nil_right, List.zip_nil_left, List.mem_cons, List.not_mem_nil, or_false] at hp
      rcases hp with rfl | rfl | rfl | rfl | rfl <;> dsimp only <;> repeat (first | exact look_same _ _ _ | exact h3 | exact h4 | refine (look_ne (by decide) _ _).trans ?_)
theorem nsS33 : NScope ["self", "pages", "lines", "__class__"] ["self", "pages", "lines"] ["__class__"] (C8.fnScope (mS 33 0)) := nscope_by (by decide +kernel)
theorem fn_sub33 (Z : Tz P K mg c f cc cda fE fB) (G_fixed : C8.Cal P w K mg base 9 "fixed" (spF 9) []) : ∃ (kV doc pm : Value) (an : Option Addr) (ct : Value), FnOk P w K mg base C8.CX0 12 (f 33) (PySem.W.fnX "__init__" (nmP 33 ++ ".__init__") (C8.fnArgs (mS 33 0)) (C8.fnBody (mS 33 0)) (C8.fnScope (mS 33 0)) [("__class__", cc 33)] .none kV doc pm an (.ref (cda 33)) ct) ["self", "pages", "lines"] (spSub (c 33) "unfirm" ["pages", "lines"]) := by
  have S := Z.sf 33 (by decide) (by decide)
  have T : SupT (nfP 33 (cc 33) (cda 33)) := supT_of (show (((C8.fnArgs (mS 33 0)).posonlyargs ++ (C8.fnArgs (mS 33 0)).args).head?.map (·.arg) = some "self" ∧ (C8.fnScope (mS 33 0)).names.lookup ("super" : Str) = some .globalImplicit ∧ (C8.fnScope (mS 33 0)).names.lookup ("__class__" : Str) = some .free ∧ (C8.fnScope (mS 33 0)).names.lookup ("self" : Str) = some .local) by decide +kernel)
  have C := Z.sc 33 33 (by decide) (by decide) (by decide) (by decide)
  have F0 := fn_den (w := w) (base := base) Z G_fixed (show 33 < 35 by decide) (by decide)
  have cl := Z.cls (show 33 < 35 by decide)
  refine fn_supOk (P := P) (w := w) (mg := mg) (base := base) (N := ["self", "pages", "lines", "__class__"]) (k := 11) (ps := ["self", "pages", "lines"]) (st := (C8.fnBody (mS 33 0)).getD 0 (.Pass ⟨0, 0, 0, 0⟩)) (rest := (C8.fnBody (mS 33 0)).drop 1) (sp := spSub (c 33) "unfirm" ["pages", "lines"]) S nsS33 (by rfl) (by rfl) (fun vs H Q E h => ?_) ?_
  · obtain ⟨a, dx, ps, ds, rfl, hl, _⟩ := h
    exact congrArg Nat.succ hl
  · intro A outer s H vs Q E hr h hN
    obtain ⟨a, dx, ps, ds, rfl, hl, ha, hd, hs, q⟩ := h
    obtain ⟨p0, p1, rfl⟩ : ∃ p0 p1, ps = [p0, p1] := by
      match ps, hl with
      | [p0, p1], _ => exact ⟨p0, p1, rfl⟩
    refine ⟨_, (pss_cons (ps_fld (pv 0) (pe_ix ix_tup (pe_fld (pv 0) rfl) pe_int (fun _ _ => rfl)) rfl) (pss_one (ps_fld (pv 0) (pe_ix ix_tup (pe_fld (pv 0) rfl) pe_int (fun _ _ => rfl)) rfl))), fun s1 I => ?_⟩
    refine sup_stmt (X := ncx C8.CX0 P w K mg base ["self", "pages", "lines", "__class__"] (nfP 33 (cc 33) (cda 33)) (f 33) A outer s H E) (i := 0) (a := a) (C := c 33) (sup_ctx S T) C F0 (hr.mono (show 11 ≤ 11 by decide)) (pa_cons pe_str (pa_cons (pv 1) (pa_cons (pv 2) pa_nil))) I hN rfl ha (by decide) (by rfl) (by rfl) (by rfl) (by rfl) (by rfl) ?_ fun H' s' I' hq => ⟨rfl, H', I', hq⟩
    intro q0 nq
    have Sq := same_new nq (o := .met (f 1) a)
    refine ⟨p0, rfl, p1, rfl, upd_same, a, dx, "unfirm", [p0, p1], ds, rfl, Sq _ _ ha, hd.same Sq, hs, by show 2 ≤ 5; decide, fun us t fs H1 kp h1 h2 h3 h4 h5 h6 => ?_⟩
    have hul : us.length = 2 := by
      rw [h6.len, List.length_map, ← hd.len]
      rfl
    obtain ⟨u0, u1, rfl⟩ : ∃ u0 u1, us = [u0, u1] := by
      match us, hul with
      | [u0, u1], _ => exact ⟨u0, u1, rfl⟩
    have kp0 : ∀ b o, b ≠ a → H b = some o → H1 b = some o := fun b o n e => kp b o n (Sq _ _ e)
    have few0 : List.length fs < 1000 := by
      omega
    refine ⟨.ref a, rfl, a, c 33, dx, _, .ref t, rfl, h1, cl, Z.noA (show 33 < 35 by decide) (by decide), h4, t, _, 0, u0, rfl, rfl, SqT.of h5, atI_nat (j := 0) rfl, .ref a, rfl, a, c 33, dx, _, rfl, h1, cl, Z.noA (show 33 < 35 by decide) (by decide), few0, ?_⟩
    have kp1 : ∀ b o, b ≠ a → H b = some o → (upd H1 a (.ins (c 33) dx (putF "pages" u0 fs))) b = some o := fun b o n e => (upd_ne n).trans (kp0 b o n e)
    have ht1 : (upd H1 a (.ins (c 33) dx (putF "pages" u0 fs))) t = some (.tup [u0, u1]) := (upd_ne (ne_of_none2 h5 h1)).trans h5
    have lp1 : (putF "pages" u0 fs).lookup ("parts" : Str) = some (.ref t) := (look_ne (by decide) _ _).trans h4
    have dk1 : DK H1 (upd H1 a (.ins (c 33) dx (putF "pages" u0 fs))) := DK.ins h1 fun b o n e => (upd_ne n).trans e
    have few1 : List.length (putF "pages" u0 fs) < 1000 := by
      have e0 := putF_len ("pages" : Str) u0 fs
      omega
    refine ⟨.ref a, rfl, a, c 33, dx, _, .ref t, rfl, upd_same, cl, Z.noA (show 33 < 35 by decide) (by decide), lp1, t, _, 1, u1, rfl, rfl, SqT.of ht1, atI_nat (j := 1) rfl, .ref a, rfl, a, c 33, dx, _, rfl, upd_same, cl, Z.noA (show 33 < 35 by decide) (by decide), few1, ?_⟩
    have kp2 : ∀ b o, b ≠ a → H b = some o → (upd (upd H1 a (.ins (c 33) dx (putF "pages" u0 fs))) a (.ins (c 33) dx (putF "lines" u1 (putF "pages" u0 fs)))) b = some o := fun b o n e => (upd_ne n).trans (kp1 b o n e)
    have ht2 : (upd (upd H1 a (.ins (c 33) dx (putF "pages" u0 fs))) a (.ins (c 33) dx (putF "lines" u1 (putF "pages" u0 fs)))) t = some (.tup [u0, u1]) := (upd_ne (ne_of_none2 ht1 upd_same)).trans ht1
    have lp2 : (putF "lines" u1 (putF "pages" u0 fs)).lookup ("parts" : Str) = some (.ref t) := (look_ne (by decide) _ _).trans lp1
    have dk2 : DK (upd H1 a (.ins (c 33) dx (putF "pages" u0 fs))) (upd (upd H1 a (.ins (c 33) dx (putF "pages" u0 fs))) a (.ins (c 33) dx (putF "lines" u1 (putF "pages" u0 fs)))) := DK.ins upd_same fun b o n e => (upd_ne n).trans e
    refine q _ kp2 ⟨[u0, u1], t, ⟨dx, _, upd_same, ?_, fun p hp => ?_⟩, ht2, h6.keep (dk1.trans dk2)⟩
    · have e0 := putF_len ("pages" : Str) u0 fs
      have e1 := putF_len ("lines" : Str) u1 (putF "pages" u0 fs)
      omega
    · simp only [List.cons_append, List.nil_append, List.zip_cons_cons, List.zip_nil_right, List.zip_nil_left, List.mem_cons, List.not_mem_nil, or_false] at hp
      rcases hp with rfl | rfl | rfl | rfl <;> dsimp only <;> repeat (first | exact look_same _ _ _ | exact h3 | exact h4 | refine (look_ne (by decide) _ _).trans ?_)
theorem nsS34 : NScope ["self", "number", "firm", "unfirm", "__class__"] ["self", "number", "firm", "unfirm"] ["__class__"] (C8.fnScope (mS 34 0)) := nscope_by (by decide +kernel)
theorem fn_sub34 (Z : Tz P K mg c f cc cda fE fB) (G_fixed : C8.Cal P w K mg base 9 "fixed" (spF 9) []) : ∃ (kV doc pm : Value) (an : Option Addr) (ct : Value), FnOk P w K mg base C8.CX0 12 (f 34) (PySem.W.fnX "__init__" (nmP 34 ++ ".__init__") (C8.fnArgs (mS 34 0)) (C8.fnBody (mS 34 0)) (C8.fnScope (mS 34 0)) [("__class__", cc 34)] .none kV doc pm an (.ref (cda 34)) ct) ["self", "number", "firm", "unfirm"] (spSub (c 34) "steady" ["number", "firm", "unfirm"]) := by
  have S := Z.sf 34 (by decide) (by decide)
  have T : SupT (nfP 34 (cc 34) (cda 34)) := supT_of (show (((C8.fnArgs (mS 34 0)).posonlyargs ++ (C8.fnArgs (mS 34 0)).args).head?.map (·.arg) = some "self" ∧ (C8.fnScope (mS 34 0)).names.lookup ("super" : Str) = some .globalImplicit ∧ (C8.fnScope (mS 34 0)).names.lookup ("__class__" : Str) = some .free ∧ (C8.fnScope (mS 34 0)).names.lookup ("self" : Str) = some .local) by decide +kernel)
  have C := Z.sc 34 34 (by decide) (by decide) (by decide) (by decide)
  have F0 := fn_pi (w := w) (base := base) Z G_fixed (show 34 < 35 by decide)
  have cl := Z.cls (show 34 < 35 by decide)
  refine fn_supOk (P := P) (w := w) (mg := mg) (base := base) (N := ["self", "number", "firm", "unfirm", "__class__"]) (k := 11) (ps := ["self", "number", "firm", "unfirm"]) (st := (C8.fnBody (mS 34 0)).getD 0 (.Pass ⟨0, 0, 0, 0⟩)) (rest := (C8.fnBody (mS 34 0)).drop 1) (sp := spSub (c 34) "steady" ["number", "firm", "unfirm"]) S nsS34 (by rfl) (by rfl) (fun vs H Q E h => ?_) ?_
  · obtain ⟨a, dx, ps, ds, rfl, hl, _⟩ := h
    exact congrArg Nat.succ hl
  · intro A outer s H vs Q E hr h hN
    obtain ⟨a, dx, ps, ds, rfl, hl, ha, hd, hs, q⟩ := h
    obtain ⟨p0, p1, p2, rfl⟩ : ∃ p0 p1 p2, ps = [p0, p1, p2] := by
      match ps, hl with
      | [p0, p1, p2], _ => exact ⟨p0, p1, p2, rfl⟩
    refine ⟨_, (pss_cons (ps_fld (pv 0) (pe_ix ix_tup (pe_fld (pv 0) rfl) pe_int (fun _ _ => rfl)) rfl) (pss_cons (ps_fld (pv 0) (pe_ix ix_tup (pe_fld (pv 0) rfl) pe_int (fun _ _ => rfl)) rfl) (pss_one (ps_fld (pv 0) (pe_ix ix_tup (pe_fld (pv 0) rfl) pe_int (fun _ _ => rfl)) rfl)))), fun s1 I => ?_⟩
    refine sup_stmt (X := ncx C8.CX0 P w K mg base ["self", "number", "firm", "unfirm", "__class__"] (nfP 34 (cc 34) (cda 34)) (f 34) A outer s H E) (i := 0) (a := a) (C := c 34) (sup_ctx S T) C F0 (hr.mono (show 10 ≤ 11 by decide)) (pa_cons pe_str (pa_cons (pv 1) (pa_cons (pv 2) (pa_cons (pv 3) pa_nil)))) I hN rfl ha (by decide) (by rfl) (by rfl) (by rfl) (by rfl) (by rfl) ?_ fun H' s' I' hq => ⟨rfl, H', I', hq⟩
    intro q0 nq
    have Sq := same_new nq (o := .met (f 0) a)
    refine ⟨p0, rfl, p1, rfl, p2, rfl, upd_same, a, dx, "steady", [p0, p1, p2], ds, rfl, Sq _ _ ha, hd.same Sq, hs, by show 3 ≤ 5; decide, fun us t fs H1 kp h1 h2 h3 h4 h5 h6 => ?_⟩
    have hul : us.length = 3 := by
      rw [h6.len, List.length_map, ← hd.len]
      rfl
    obtain ⟨u0, u1, u2, rfl⟩ : ∃ u0 u1 u2, us = [u0, u1, u2] := by
      match us, hul with
      | [u0, u1, u2], _ => exact ⟨u0, u1, u2, rfl⟩
    have kp0 : ∀ b o, b ≠ a → H b = some o → H1 b = some o := fun b o n e => kp b o n (Sq _ _ e)
    have few0 : List.length fs < 1000 := by
      omega
    refine ⟨.ref a, rfl, a, c 34, dx, _, .ref t, rfl, h1, cl, Z.noA (show 34 < 35 by decide) (by decide), h4, t, _, 0, u0, rfl, rfl, SqT.of h5, atI_nat (j := 0) rfl, .ref a, rfl, a, c 34, dx, _, rfl, h1, cl, Z.noA (show 34 < 35 by decide) (by decide), few0, ?_⟩
    have kp1 : ∀ b o, b ≠ a → H b = some o → (upd H1 a (.ins (c 34) dx (putF "number" u0 fs))) b = some o := fun b o n e => (upd_ne n).trans (kp0 b o n e)
    have ht1 : (upd H1 a (.ins (c 34) dx (putF "number" u0 fs))) t = some (.tup [u0, u1, u2]) := (upd_ne (ne_of_none2 h5 h1)).trans h5
    have lp1 : (putF "number" u0 fs).lookup ("parts" : Str) = some (.ref t) := (look_ne (by decide) _ _).trans h4
    have dk1 : DK H1 (upd H1 a (.ins (c 34) dx (putF "number" u0 fs))) := DK.ins h1 fun b o n e => (upd_ne n).trans e
    have few1 : List.length (putF "number" u0 fs) < 1000 := by
      have e0 := putF_len ("number" : Str) u0 fs
      omega
    refine ⟨.ref a, rfl, a, c 34, dx, _, .ref t, rfl, upd_same, cl, Z.noA (show 34 < 35 by decide) (by decide), lp1, t, _, 1, u1, rfl, rfl, SqT.of ht1, atI_nat (j := 1) rfl, .ref a, rfl, a, c 34, dx, _, rfl, upd_same, cl, Z.noA (show 34 < 35 by decide) (by decide), few1, ?_⟩
    have kp2 : ∀ b o, b ≠ a → H b = some o → (upd (upd H1 a (.ins (c 34) dx (putF "number" u0 fs))) a (.ins (c 34) dx (putF "firm" u1 (putF "number" u0 fs)))) b = some o := fun b o n e => (upd_ne n).trans (kp1 b o n e)
    have ht2 : (upd (upd H1 a (.ins (c 34) dx (putF "number" u0 fs))) a (.ins (c 34) dx (putF "firm" u1 (putF "number" u0 fs)))) t = some (.tup [u0, u1, u2]) := (upd_ne (ne_of_none2 ht1 upd_same)).trans ht1
    have lp2 : (putF "firm" u1 (putF "number" u0 fs)).lookup ("parts" : Str) = some (.ref t) := (look_ne (by decide) _ _).trans lp1
    have dk2 : DK (upd H1 a (.ins (c 34) dx (putF "number" u0 fs))) (upd (upd H1 a (.ins (c 34) dx (putF "number" u0 fs))) a (.ins (c 34) dx (putF "firm" u1 (putF "number" u0 fs)))) := DK.ins upd_same fun b o n e => (upd_ne n).trans e
    have few2 : List.length (putF "firm" u1 (putF "number" u0 fs)) < 1000 := by
      have e0 := putF_len ("number" : Str) u0 fs
      have e1 := putF_len ("firm" : Str) u1 (putF "number" u0 fs)
      omega
    refine ⟨.ref a, rfl, a, c 34, dx, _, .ref t, rfl, upd_same, cl, Z.noA (show 34 < 35 by decide) (by decide), lp2, t, _, 2, u2, rfl, rfl, SqT.of ht2, atI_nat (j := 2) rfl, .ref a, rfl, a, c 34, dx, _, rfl, upd_same, cl, Z.noA (show 34 < 35 by decide) (by decide), few2, ?_⟩
    have kp3 : ∀ b o, b ≠ a → H b = some o → (upd (upd (upd H1 a (.ins (c 34) dx (putF "number" u0 fs))) a (.ins (c 34) dx (putF "firm" u1 (putF "number" u0 fs)))) a (.ins (c 34) dx (putF "unfirm" u2 (putF "firm" u1 (putF "number" u0 fs))))) b = some o := fun b o n e => (upd_ne n).trans (kp2 b o n e)
    have ht3 : (upd (upd (upd H1 a (.ins (c 34) dx (putF "number" u0 fs))) a (.ins (c 34) dx (putF "firm" u1 (putF "number" u0 fs)))) a (.ins (c 34) dx (putF "unfirm" u2 (putF "firm" u1 (putF "number" u0 fs))))) t = some (.tup [u0, u1, u2]) := (upd_ne (ne_of_none2 ht2 upd_same)).trans ht2
    have lp3 : (putF "unfirm" u2 (putF "firm" u1 (putF "number" u0 fs))).lookup ("parts" : Str) = some (.ref t) := (look_ne (by decide) _ _).trans lp2
    have dk3 : DK (upd (upd H1 a (.ins (c 34) dx (putF "number" u0 fs))) a (.ins (c 34) dx (putF "firm" u1 (putF "number" u0 fs)))) (upd (upd (upd H1 a (.ins (c 34) dx (putF "number" u0 fs))) a (.ins (c 34) dx (putF "firm" u1 (putF "number" u0 fs)))) a (.ins (c 34) dx (putF "unfirm" u2 (putF "firm" u1 (putF "number" u0 fs))))) := DK.ins upd_same fun b o n e => (upd_ne n).trans e
    refine q _ kp3 ⟨[u0, u1, u2], t, ⟨dx, _, upd_same, ?_, fun p hp => ?_⟩, ht3, h6.keep ((dk1.trans dk2).trans dk3)⟩
    · have e0 := putF_len ("number" : Str) u0 fs
      have e1 := putF_len ("firm" : Str) u1 (putF "number" u0 fs)
      have e2 := putF_len ("unfirm" : Str) u2 (putF "firm" u1 (putF "number" u0 fs))
      omega
    · simp only [List.cons_append, List.nil_append, List.zip_cons_cons, List.zip_nil_right, List.zip_nil_left, List.mem_cons, List.not_mem_nil, or_false] at hp
      rcases hp with rfl | rfl | rfl | rfl | rfl <;> dsimp only <;> repeat (first | exact look_same _ _ _ | exact h3 | exact h4 | refine (look_ne (by decide) _ _).trans ?_)
end
end K56

set_option Elab.async false
set_option linter.all false
set_option maxRecDepth 100000
set_option maxHeartbeats 1000000
namespace K56
open PySem PySem.Spec PyProof.Rows L2 Gd NdefX
/-- the words of the classes, and their fields -/
def wdP : Nat → Str
  | 2 => "held"
  | 3 => "lost"
  | 4 => "shared"
  | 5 => "parting"
  | 6 => "serves"
  | 7 => "holds"
  | 8 => "lacks"
  | 9 => "broken"
  | 10 => "uncovered"
  | 11 => "delay"
  | 12 => "ring"
  | 13 => "kept"
  | 14 => "refusal"
  | 15 => "patience"
  | 16 => "never"
  | 17 => "delayfront"
  | 18 => "handed"
  | 19 => "dropped"
  | 20 => "safe"
  | 21 => "unsafe"
  | 22 => "implied"
  | 23 => "apart"
  | 24 => "least"
  | 25 => "losing"
  | 26 => "suretime"
  | 27 => "momentfront"
  | 28 => "promisefront"
  | 29 => "sightfront"
  | 30 => "stays"
  | 31 => "slips"
  | 32 => "firm"
  | 33 => "unfirm"
  | 34 => "steady"
  | _ => ""
def nsP : Nat → List Str
  | 2 => ["pages", "entries"]
  | 3 => ["number", "ranked", "kept"]
  | 4 => ["pairs"]
  | 5 => ["row", "way", "sets"]
  | 6 => ["spots"]
  | 7 => ["triples"]
  | 8 => ["page", "sight", "states"]
  | 9 => ["first", "states"]
  | 10 => ["page", "sight"]
  | 11 => ["number", "heights", "play"]
  | 12 => ["play", "at"]
  | 13 => ["pages", "entries", "triples"]
  | 14 => ["pages", "tree"]
  | 15 => ["number", "table", "delay", "tree"]
  | 16 => ["tree"]
  | 17 => ["points", "never", "steps"]
  | 18 => ["closed"]
  | 19 => ["first", "states", "places"]
  | 20 => ["stands"]
  | 21 => ["states", "deeds"]
  | 22 => ["pairs"]
  | 23 => ["reading", "ring"]
  | 24 => ["number", "kept", "refusal"]
  | 25 => ["first", "states", "pages", "deeds", "places"]
  | 26 => ["number", "table", "tree"]
  | 27 => ["points", "steps", "kept"]
  | 28 => ["held", "short"]
  | 29 => ["enough", "short"]
  | 30 => ["cases"]
  | 31 => ["first", "states", "pages"]
  | 32 => ["pages", "entries", "cases"]
  | 33 => ["pages", "lines"]
  | 34 => ["number", "firm", "unfirm"]
  | _ => []
/-! ### making papers -/
structure MkP (P : Program) (w : World) (K : PySem.W.Frag) (mg : Str → Option Value) (base : Heap) (x : Str) (C : Addr) (k : Nat) (sp : Sp) : Prop where
  ex : ∃ g, Mk K C g ∧ FnR P w K mg base C8.CX0 k g sp
  gC : mg x = some (.ref C)
structure MkK (P : Program) (w : World) (K : PySem.W.Frag) (mg : Str → Option Value) (base : Heap) (x : Str) (C : Addr) (k : Nat) (ks : List Str) (gV : List V → List V → List V) (sp : Sp) : Prop where
  ex : ∃ (g : Addr) (fd : FuncData) (ps : List Str) (gg : List Value → List Value → List Value), Mk K C g ∧ FnOk P w K mg base C8.CX0 k g fd ps sp ∧ KBn K fd ps 1 ks gg gV
  gC : mg x = some (.ref C)
section
variable {X : Cx} {k j : Nat} {C : Addr} {x : Str} {sp : Sp} {ks : List Str} {gV : List V → List V → List V} {p pos : Pos} {e : Expr} {es : List Expr} {kws : List Keyword} {t tk : TA}
theorem pe_mkR (M : MkP X.prog X.w X.K X.mg X.base x C k sp) (hr : Room j X.A) (hk : k + 1 ≤ j) (hg : Gl X x) (ha : PA X (e :: es) t) (hdb : (x == ("__debug__" : Str)) = false := by decide)
    (he : starEach (e :: es) X.env = (false, eval e X.env) :: starEach es X.env := by rfl) (hpl : (backTo pos (starEach es X.env)).any (·.1) = false := by rfl) : PE X (.Call (.Name x p) (e :: es) [] pos) (StX.tMakeR C sp C8.E0 t) := by
  obtain ⟨g, M1, F⟩ := M.ex
  exact StX.pe_makeR M1 F (hr.mono hk) hg M.gC C8.pass0 ha hdb he hpl
theorem pe_mkK0 (M : MkK X.prog X.w X.K X.mg X.base x C k ks gV sp) (hr : Room j X.A) (hk : k + 1 ≤ j) (hg : Gl X x) (hkw : PK X kws tk) (hall : (backToKw pos (keywordEach kws X.env)).all (·.1.isSome) = true := by rfl)
    (hks : (backToKw pos (keywordEach kws X.env)).filterMap (·.1) = ks := by rfl) (hdb : (x == ("__debug__" : Str)) = false := by decide) (hpl : ((backTo pos (starEach [] X.env)).any (·.1) || (backToKw pos (keywordEach kws X.env)).any (·.1.isNone)) = false := by rfl) :
    PE X (.Call (.Name x p) [] kws pos) (tMakeN C 0 ks.length sp gV C8.E0 tNil tk) := by
  obtain ⟨g, fd, ps, gg, M1, F, b⟩ := M.ex
  exact pe_makeK0 M1 F (hr.mono hk) hg M.gC b C8.pass0 hkw hall hks hdb hpl
end
theorem same_made {H1 H' : Hp} {x : Addr} {dx : Addr} {C : Addr} (nx : H1 x = none) (ndx : H1 dx = none) (kp : ∀ b o, b ≠ x → (upd (upd H1 dx (.own x)) x (.ins C dx [])) b = some o → H' b = some o) : Same H1 H' := fun b o e => by
  have n1 := ne_of_none e nx
  have n2 := ne_of_none e ndx
  refine kp b o n1 ?_
  rw [upd_ne n1, upd_ne n2]
  exact e
/-- parts told by name, in the order of the places -/
def permV (ix : List Nat) (vs zs : List V) : List V := vs ++ ix.map fun j => zs.getD j .non
def permU (ix : List Nat) (us ws : List Value) : List Value := us ++ ix.map fun j => ws.getD j .none
theorem getD_rel : ∀ {zs : List V} {ws : List Value} (j : Nat), Vals zs ws → RelV (zs.getD j .non) (ws.getD j .none)
  | _, _, _, .nil => rfl
  | _, _, 0, .cons a _ => a
  | _, _, j + 1, .cons _ r => getD_rel j r
theorem perm_rel {ix : List Nat} {vs zs : List V} {us ws : List Value} (h : Vals vs us) (h2 : Vals zs ws) : Vals (permV ix vs zs) (permU ix us ws) := by
  refine h.append ?_
  induction ix with
  | nil => exact .nil
  | cons j ix ih => exact .cons (getD_rel j h2) ih
theorem made_same {H1 : Hp} {x dx C : Addr} (nx : H1 x = none) (ndx : H1 dx = none) : Same H1 (upd (upd H1 dx (.own x)) x (.ins C dx [])) := fun b o e => by
  rw [upd_ne (ne_of_none e nx), upd_ne (ne_of_none e ndx)]
  exact e
/-- what a call of a class with fields leaves -/
theorem mk_sub {R : V → Hp → Prop} {C : Addr} {z : Str} {ns : List Str} {ps : List V} {ds : List PyData} {H1 : Hp} {x dx : Addr} (hd : DqAll H1 ps ds) (hs : ∀ d ∈ ds, Sh 7 d) (hl : ps.length = ns.length) (nx : H1 x = none) (ndx : H1 dx = none)
    (q : ∀ H' : Hp, Pap C ns z (ds.map (fx 7)) H' x → Same H1 H' → R .non H') : spSub C z ns (V.ref x :: ps) (upd (upd H1 dx (.own x)) x (.ins C dx [])) R C8.E0 :=
  ⟨x, dx, ps, ds, rfl, hl, upd_same, hd.same (made_same nx ndx), hs, fun H' kp h => q H' h (same_made nx ndx kp)⟩
section
variable {P : Program} {w : World} {K : PySem.W.Frag} {mg : Str → Option Value} {base : Heap} {c f cc cda : Nat → Addr} {fE fB : Addr}
theorem m_0 (Z : Tz P K mg c f cc cda fE fB) (G : C8.Cal P w K mg base 9 "fixed" (spF 9) []) : MkP P w K mg base "Paper" (c 0) 11 (spIni K (c 0)) :=
  ⟨⟨_, Z.mkr 0 (by decide), fun A outer s H us vs Q E hr => fn_pi (w := w) (base := base) Z G (by decide) A outer s H us vs Q E (hr.mono (by decide))⟩, Z.g 0 (by decide)⟩
theorem m_1 (Z : Tz P K mg c f cc cda fE fB) (G : C8.Cal P w K mg base 9 "fixed" (spF 9) []) : MkP P w K mg base "Denial" (c 1) 11 (spIni K (c 1)) :=
  ⟨⟨_, Z.mkr 1 (by decide), fn_den Z G (by decide) (by decide)⟩, Z.g 1 (by decide)⟩
theorem m_2 (Z : Tz P K mg c f cc cda fE fB) (G : C8.Cal P w K mg base 9 "fixed" (spF 9) []) : MkP P w K mg base "Held" (c 2) 12 (spSub (c 2) "held" ["pages", "entries"]) := by
  obtain ⟨kV, doc, pm, an, ct, F⟩ := fn_sub2 (w := w) (base := base) Z G
  exact ⟨⟨_, Z.mkr 2 (by decide), fnR_of F (.all fun us hl => match us, hl with | [_, _, _], _ => rfl)⟩, Z.g 2 (by decide)⟩
theorem m_2K (Z : Tz P K mg c f cc cda fE fB) (G : C8.Cal P w K mg base 9 "fixed" (spF 9) []) : MkK P w K mg base "Held" (c 2) 12 ["entries", "pages"] (permV [1, 0]) (spSub (c 2) "held" ["pages", "entries"]) := by
  obtain ⟨kV, doc, pm, an, ct, F⟩ := fn_sub2 (w := w) (base := base) Z G
  exact ⟨⟨_, _, _, permU [1, 0], Z.mkr 2 (by decide), F, ⟨fun s us ws X l1 l2 => (match us, ws, l1, l2 with | [_], [_, _], _, _ => .of_eq rfl), fun r1 r2 => perm_rel r1 r2⟩⟩, Z.g 2 (by decide)⟩
theorem m_3 (Z : Tz P K mg c f cc cda fE fB) (G : C8.Cal P w K mg base 9 "fixed" (spF 9) []) : MkP P w K mg base "Lost" (c 3) 12 (spSub (c 3) "lost" ["number", "ranked", "kept"]) := by
  obtain ⟨kV, doc, pm, an, ct, F⟩ := fn_sub3 (w := w) (base := base) Z G
  exact ⟨⟨_, Z.mkr 3 (by decide), fnR_of F (.all fun us hl => match us, hl with | [_, _, _, _], _ => rfl)⟩, Z.g 3 (by decide)⟩
theorem m_3K (Z : Tz P K mg c f cc cda fE fB) (G : C8.Cal P w K mg base 9 "fixed" (spF 9) []) : MkK P w K mg base "Lost" (c 3) 12 ["kept", "number", "ranked"] (permV [1, 2, 0]) (spSub (c 3) "lost" ["number", "ranked", "kept"]) := by
  obtain ⟨kV, doc, pm, an, ct, F⟩ := fn_sub3 (w := w) (base := base) Z G
  exact ⟨⟨_, _, _, permU [1, 2, 0], Z.mkr 3 (by decide), F, ⟨fun s us ws X l1 l2 => (match us, ws, l1, l2 with | [_], [_, _, _], _, _ => .of_eq rfl), fun r1 r2 => perm_rel r1 r2⟩⟩, Z.g 3 (by decide)⟩
theorem m_4 (Z : Tz P K mg c f cc cda fE fB) (G : C8.Cal P w K mg base 9 "fixed" (spF 9) []) : MkP P w K mg base "Shared" (c 4) 12 (spSub (c 4) "shared" ["pairs"]) := by
  obtain ⟨kV, doc, pm, an, ct, F⟩ := fn_sub4 (w := w) (base := base) Z G
  exact ⟨⟨_, Z.mkr 4 (by decide), fnR_of F (.all fun us hl => match us, hl with | [_, _], _ => rfl)⟩, Z.g 4 (by decide)⟩
theorem m_4K (Z : Tz P K mg c f cc cda fE fB) (G : C8.Cal P w K mg base 9 "fixed" (spF 9) []) : MkK P w K mg base "Shared" (c 4) 12 ["pairs"] (permV [0]) (spSub (c 4) "shared" ["pairs"]) := by
  obtain ⟨kV, doc, pm, an, ct, F⟩ := fn_sub4 (w := w) (base := base) Z G
  exact ⟨⟨_, _, _, permU [0], Z.mkr 4 (by decide), F, ⟨fun s us ws X l1 l2 => (match us, ws, l1, l2 with | [_], [_], _, _ => .of_eq rfl), fun r1 r2 => perm_rel r1 r2⟩⟩, Z.g 4 (by decide)⟩
theorem m_5 (Z : Tz P K mg c f cc cda fE fB) (G : C8.Cal P w K mg base 9 "fixed" (spF 9) []) : MkP P w K mg base "Parting" (c 5) 12 (spSub (c 5) "parting" ["row", "way", "sets"]) := by
  obtain ⟨kV, doc, pm, an, ct, F⟩ := fn_sub5 (w := w) (base := base) Z G
  exact ⟨⟨_, Z.mkr 5 (by decide), fnR_of F (.all fun us hl => match us, hl with | [_, _, _, _], _ => rfl)⟩, Z.g 5 (by decide)⟩
theorem m_5K (Z : Tz P K mg c f cc cda fE fB) (G : C8.Cal P w K mg base 9 "fixed" (spF 9) []) : MkK P w K mg base "Parting" (c 5) 12 ["sets", "way", "row"] (permV [2, 1, 0]) (spSub (c 5) "parting" ["row", "way", "sets"]) := by
  obtain ⟨kV, doc, pm, an, ct, F⟩ := fn_sub5 (w := w) (base := base) Z G
  exact ⟨⟨_, _, _, permU [2, 1, 0], Z.mkr 5 (by decide), F, ⟨fun s us ws X l1 l2 => (match us, ws, l1, l2 with | [_], [_, _, _], _, _ => .of_eq rfl), fun r1 r2 => perm_rel r1 r2⟩⟩, Z.g 5 (by decide)⟩
theorem m_6 (Z : Tz P K mg c f cc cda fE fB) (G : C8.Cal P w K mg base 9 "fixed" (spF 9) []) : MkP P w K mg base "Serves" (c 6) 12 (spSub (c 6) "serves" ["spots"]) := by
  obtain ⟨kV, doc, pm, an, ct, F⟩ := fn_sub6 (w := w) (base := base) Z G
  exact ⟨⟨_, Z.mkr 6 (by decide), fnR_of F (.all fun us hl => match us, hl with | [_, _], _ => rfl)⟩, Z.g 6 (by decide)⟩
theorem m_6K (Z : Tz P K mg c f cc cda fE fB) (G : C8.Cal P w K mg base 9 "fixed" (spF 9) []) : MkK P w K mg base "Serves" (c 6) 12 ["spots"] (permV [0]) (spSub (c 6) "serves" ["spots"]) := by
  obtain ⟨kV, doc, pm, an, ct, F⟩ := fn_sub6 (w := w) (base := base) Z G
  exact ⟨⟨_, _, _, permU [0], Z.mkr 6 (by decide), F, ⟨fun s us ws X l1 l2 => (match us, ws, l1, l2 with | [_], [_], _, _ => .of_eq rfl), fun r1 r2 => perm_rel r1 r2⟩⟩, Z.g 6 (by decide)⟩
theorem m_7 (Z : Tz P K mg c f cc cda fE fB) (G : C8.Cal P w K mg base 9 "fixed" (spF 9) []) : MkP P w K mg base "Holds" (c 7) 12 (spSub (c 7) "holds" ["triples"]) := by
  obtain ⟨kV, doc, pm, an, ct, F⟩ := fn_sub7 (w := w) (base := base) Z G
  exact ⟨⟨_, Z.mkr 7 (by decide), fnR_of F (.all fun us hl => match us, hl with | [_, _], _ => rfl)⟩, Z.g 7 (by decide)⟩
theorem m_7K (Z : Tz P K mg c f cc cda fE fB) (G : C8.Cal P w K mg base 9 "fixed" (spF 9) []) : MkK P w K mg base "Holds" (c 7) 12 ["triples"] (permV [0]) (spSub (c 7) "holds" ["triples"]) := by
  obtain ⟨kV, doc, pm, an, ct, F⟩ := fn_sub7 (w := w) (base := base) Z G
  exact ⟨⟨_, _, _, permU [0], Z.mkr 7 (by decide), F, ⟨fun s us ws X l1 l2 => (match us, ws, l1, l2 with | [_], [_], _, _ => .of_eq rfl), fun r1 r2 => perm_rel r1 r2⟩⟩, Z.g 7 (by decide)⟩
theorem m_8 (Z : Tz P K mg c f cc cda fE fB) (G : C8.Cal P w K mg base 9 "fixed" (spF 9) []) : MkP P w K mg base "Lacks" (c 8) 12 (spSub (c 8) "lacks" ["page", "sight", "states"]) := by
  obtain ⟨kV, doc, pm, an, ct, F⟩ := fn_sub8 (w := w) (base := base) Z G
  exact ⟨⟨_, Z.mkr 8 (by decide), fnR_of F (.all fun us hl => match us, hl with | [_, _, _, _], _ => rfl)⟩, Z.g 8 (by decide)⟩
theorem m_8K (Z : Tz P K mg c f cc cda fE fB) (G : C8.Cal P w K mg base 9 "fixed" (spF 9) []) : MkK P w K mg base "Lacks" (c 8) 12 ["states", "sight", "page"] (permV [2, 1, 0]) (spSub (c 8) "lacks" ["page", "sight", "states"]) := by
  obtain ⟨kV, doc, pm, an, ct, F⟩ := fn_sub8 (w := w) (base := base) Z G
  exact ⟨⟨_, _, _, permU [2, 1, 0], Z.mkr 8 (by decide), F, ⟨fun s us ws X l1 l2 => (match us, ws, l1, l2 with | [_], [_, _, _], _, _ => .of_eq rfl), fun r1 r2 => perm_rel r1 r2⟩⟩, Z.g 8 (by decide)⟩
theorem m_9 (Z : Tz P K mg c f cc cda fE fB) (G : C8.Cal P w K mg base 9 "fixed" (spF 9) []) : MkP P w K mg base "Broken" (c 9) 12 (spSub (c 9) "broken" ["first", "states"]) := by
  obtain ⟨kV, doc, pm, an, ct, F⟩ := fn_sub9 (w := w) (base := base) Z G
  exact ⟨⟨_, Z.mkr 9 (by decide), fnR_of F (.all fun us hl => match us, hl with | [_, _, _], _ => rfl)⟩, Z.g 9 (by decide)⟩
theorem m_9K (Z : Tz P K mg c f cc cda fE fB) (G : C8.Cal P w K mg base 9 "fixed" (spF 9) []) : MkK P w K mg base "Broken" (c 9) 12 ["states", "first"] (permV [1, 0]) (spSub (c 9) "broken" ["first", "states"]) := by
  obtain ⟨kV, doc, pm, an, ct, F⟩ := fn_sub9 (w := w) (base := base) Z G
  exact ⟨⟨_, _, _, permU [1, 0], Z.mkr 9 (by decide), F, ⟨fun s us ws X l1 l2 => (match us, ws, l1, l2 with | [_], [_, _], _, _ => .of_eq rfl), fun r1 r2 => perm_rel r1 r2⟩⟩, Z.g 9 (by decide)⟩
theorem m_10 (Z : Tz P K mg c f cc cda fE fB) (G : C8.Cal P w K mg base 9 "fixed" (spF 9) []) : MkP P w K mg base "Uncovered" (c 10) 12 (spSub (c 10) "uncovered" ["page", "sight"]) := by
  obtain ⟨kV, doc, pm, an, ct, F⟩ := fn_sub10 (w := w) (base := base) Z G
  exact ⟨⟨_, Z.mkr 10 (by decide), fnR_of F (.all fun us hl => match us, hl with | [_, _, _], _ => rfl)⟩, Z.g 10 (by decide)⟩
theorem m_10K (Z : Tz P K mg c f cc cda fE fB) (G : C8.Cal P w K mg base 9 "fixed" (spF 9) []) : MkK P w K mg base "Uncovered" (c 10) 12 ["sight", "page"] (permV [1, 0]) (spSub (c 10) "uncovered" ["page", "sight"]) := by
  obtain ⟨kV, doc, pm, an, ct, F⟩ := fn_sub10 (w := w) (base := base) Z G
  exact ⟨⟨_, _, _, permU [1, 0], Z.mkr 10 (by decide), F, ⟨fun s us ws X l1 l2 => (match us, ws, l1, l2 with | [_], [_, _], _, _ => .of_eq rfl), fun r1 r2 => perm_rel r1 r2⟩⟩, Z.g 10 (by decide)⟩
theorem m_11 (Z : Tz P K mg c f cc cda fE fB) (G : C8.Cal P w K mg base 9 "fixed" (spF 9) []) : MkP P w K mg base "Delay" (c 11) 12 (spSub (c 11) "delay" ["number", "heights", "play"]) := by
  obtain ⟨kV, doc, pm, an, ct, F⟩ := fn_sub11 (w := w) (base := base) Z G
  exact ⟨⟨_, Z.mkr 11 (by decide), fnR_of F (.all fun us hl => match us, hl with | [_, _, _, _], _ => rfl)⟩, Z.g 11 (by decide)⟩
theorem m_11K (Z : Tz P K mg c f cc cda fE fB) (G : C8.Cal P w K mg base 9 "fixed" (spF 9) []) : MkK P w K mg base "Delay" (c 11) 12 ["play", "heights", "number"] (permV [2, 1, 0]) (spSub (c 11) "delay" ["number", "heights", "play"]) := by
  obtain ⟨kV, doc, pm, an, ct, F⟩ := fn_sub11 (w := w) (base := base) Z G
  exact ⟨⟨_, _, _, permU [2, 1, 0], Z.mkr 11 (by decide), F, ⟨fun s us ws X l1 l2 => (match us, ws, l1, l2 with | [_], [_, _, _], _, _ => .of_eq rfl), fun r1 r2 => perm_rel r1 r2⟩⟩, Z.g 11 (by decide)⟩
theorem m_12 (Z : Tz P K mg c f cc cda fE fB) (G : C8.Cal P w K mg base 9 "fixed" (spF 9) []) : MkP P w K mg base "Ring" (c 12) 12 (spSub (c 12) "ring" ["play", "at"]) := by
  obtain ⟨kV, doc, pm, an, ct, F⟩ := fn_sub12 (w := w) (base := base) Z G
  exact ⟨⟨_, Z.mkr 12 (by decide), fnR_of F (.all fun us hl => match us, hl with | [_, _, _], _ => rfl)⟩, Z.g 12 (by decide)⟩
theorem m_12K (Z : Tz P K mg c f cc cda fE fB) (G : C8.Cal P w K mg base 9 "fixed" (spF 9) []) : MkK P w K mg base "Ring" (c 12) 12 ["at", "play"] (permV [1, 0]) (spSub (c 12) "ring" ["play", "at"]) := by
  obtain ⟨kV, doc, pm, an, ct, F⟩ := fn_sub12 (w := w) (base := base) Z G
  exact ⟨⟨_, _, _, permU [1, 0], Z.mkr 12 (by decide), F, ⟨fun s us ws X l1 l2 => (match us, ws, l1, l2 with | [_], [_, _], _, _ => .of_eq rfl), fun r1 r2 => perm_rel r1 r2⟩⟩, Z.g 12 (by decide)⟩
theorem m_13 (Z : Tz P K mg c f cc cda fE fB) (G : C8.Cal P w K mg base 9 "fixed" (spF 9) []) : MkP P w K mg base "Kept" (c 13) 12 (spSub (c 13) "kept" ["pages", "entries", "triples"]) := by
  obtain ⟨kV, doc, pm, an, ct, F⟩ := fn_sub13 (w := w) (base := base) Z G
  exact ⟨⟨_, Z.mkr 13 (by decide), fnR_of F (.all fun us hl => match us, hl with | [_, _, _, _], _ => rfl)⟩, Z.g 13 (by decide)⟩
theorem m_13K (Z : Tz P K mg c f cc cda fE fB) (G : C8.Cal P w K mg base 9 "fixed" (spF 9) []) : MkK P w K mg base "Kept" (c 13) 12 ["triples", "entries", "pages"] (permV [2, 1, 0]) (spSub (c 13) "kept" ["pages", "entries", "triples"]) := by
  obtain ⟨kV, doc, pm, an, ct, F⟩ := fn_sub13 (w := w) (base := base) Z G
  exact ⟨⟨_, _, _, permU [2, 1, 0], Z.mkr 13 (by decide), F, ⟨fun s us ws X l1 l2 => (match us, ws, l1, l2 with | [_], [_, _, _], _, _ => .of_eq rfl), fun r1 r2 => perm_rel r1 r2⟩⟩, Z.g 13 (by decide)⟩
theorem m_14 (Z : Tz P K mg c f cc cda fE fB) (G : C8.Cal P w K mg base 9 "fixed" (spF 9) []) : MkP P w K mg base "Refusal" (c 14) 12 (spSub (c 14) "refusal" ["pages", "tree"]) := by
  obtain ⟨kV, doc, pm, an, ct, F⟩ := fn_sub14 (w := w) (base := base) Z G
  exact ⟨⟨_, Z.mkr 14 (by decide), fnR_of F (.all fun us hl => match us, hl with | [_, _, _], _ => rfl)⟩, Z.g 14 (by decide)⟩
theorem m_14K (Z : Tz P K mg c f cc cda fE fB) (G : C8.Cal P w K mg base 9 "fixed" (spF 9) []) : MkK P w K mg base "Refusal" (c 14) 12 ["tree", "pages"] (permV [1, 0]) (spSub (c 14) "refusal" ["pages", "tree"]) := by
  obtain ⟨kV, doc, pm, an, ct, F⟩ := fn_sub14 (w := w) (base := base) Z G
  exact ⟨⟨_, _, _, permU [1, 0], Z.mkr 14 (by decide), F, ⟨fun s us ws X l1 l2 => (match us, ws, l1, l2 with | [_], [_, _], _, _ => .of_eq rfl), fun r1 r2 => perm_rel r1 r2⟩⟩, Z.g 14 (by decide)⟩
theorem m_15 (Z : Tz P K mg c f cc cda fE fB) (G : C8.Cal P w K mg base 9 "fixed" (spF 9) []) : MkP P w K mg base "Patience" (c 15) 12 (spSub (c 15) "patience" ["number", "table", "delay", "tree"]) := by
  obtain ⟨kV, doc, pm, an, ct, F⟩ := fn_sub15 (w := w) (base := base) Z G
  exact ⟨⟨_, Z.mkr 15 (by decide), fnR_of F (.all fun us hl => match us, hl with | [_, _, _, _, _], _ => rfl)⟩, Z.g 15 (by decide)⟩
theorem m_15K (Z : Tz P K mg c f cc cda fE fB) (G : C8.Cal P w K mg base 9 "fixed" (spF 9) []) : MkK P w K mg base "Patience" (c 15) 12 ["tree", "delay", "table", "number"] (permV [3, 2, 1, 0]) (spSub (c 15) "patience" ["number", "table", "delay", "tree"]) := by
  obtain ⟨kV, doc, pm, an, ct, F⟩ := fn_sub15 (w := w) (base := base) Z G
  exact ⟨⟨_, _, _, permU [3, 2, 1, 0], Z.mkr 15 (by decide), F, ⟨fun s us ws X l1 l2 => (match us, ws, l1, l2 with | [_], [_, _, _, _], _, _ => .of_eq rfl), fun r1 r2 => perm_rel r1 r2⟩⟩, Z.g 15 (by decide)⟩
theorem m_16 (Z : Tz P K mg c f cc cda fE fB) (G : C8.Cal P w K mg base 9 "fixed" (spF 9) []) : MkP P w K mg base "Never" (c 16) 12 (spSub (c 16) "never" ["tree"]) := by
  obtain ⟨kV, doc, pm, an, ct, F⟩ := fn_sub16 (w := w) (base := base) Z G
  exact ⟨⟨_, Z.mkr 16 (by decide), fnR_of F (.all fun us hl => match us, hl with | [_, _], _ => rfl)⟩, Z.g 16 (by decide)⟩
theorem m_16K (Z : Tz P K mg c f cc cda fE fB) (G : C8.Cal P w K mg base 9 "fixed" (spF 9) []) : MkK P w K mg base "Never" (c 16) 12 ["tree"] (permV [0]) (spSub (c 16) "never" ["tree"]) := by
  obtain ⟨kV, doc, pm, an, ct, F⟩ := fn_sub16 (w := w) (base := base) Z G
  exact ⟨⟨_, _, _, permU [0], Z.mkr 16 (by decide), F, ⟨fun s us ws X l1 l2 => (match us, ws, l1, l2 with | [_], [_], _, _ => .of_eq rfl), fun r1 r2 => perm_rel r1 r2⟩⟩, Z.g 16 (by decide)⟩
theorem m_17 (Z : Tz P K mg c f cc cda fE fB) (G : C8.Cal P w K mg base 9 "fixed" (spF 9) []) : MkP P w K mg base "DelayFront" (c 17) 12 (spSub (c 17) "delayfront" ["points", "never", "steps"]) := by
  obtain ⟨kV, doc, pm, an, ct, F⟩ := fn_sub17 (w := w) (base := base) Z G
  exact ⟨⟨_, Z.mkr 17 (by decide), fnR_of F (.all fun us hl => match us, hl with | [_, _, _, _], _ => rfl)⟩, Z.g 17 (by decide)⟩
theorem m_17K (Z : Tz P K mg c f cc cda fE fB) (G : C8.Cal P w K mg base 9 "fixed" (spF 9) []) : MkK P w K mg base "DelayFront" (c 17) 12 ["steps", "never", "points"] (permV [2, 1, 0]) (spSub (c 17) "delayfront" ["points", "never", "steps"]) := by
  obtain ⟨kV, doc, pm, an, ct, F⟩ := fn_sub17 (w := w) (base := base) Z G
  exact ⟨⟨_, _, _, permU [2, 1, 0], Z.mkr 17 (by decide), F, ⟨fun s us ws X l1 l2 => (match us, ws, l1, l2 with | [_], [_, _, _], _, _ => .of_eq rfl), fun r1 r2 => perm_rel r1 r2⟩⟩, Z.g 17 (by decide)⟩
theorem m_18 (Z : Tz P K mg c f cc cda fE fB) (G : C8.Cal P w K mg base 9 "fixed" (spF 9) []) : MkP P w K mg base "Handed" (c 18) 12 (spSub (c 18) "handed" ["closed"]) := by
  obtain ⟨kV, doc, pm, an, ct, F⟩ := fn_sub18 (w := w) (base := base) Z G
  exact ⟨⟨_, Z.mkr 18 (by decide), fnR_of F (.all fun us hl => match us, hl with | [_, _], _ => rfl)⟩, Z.g 18 (by decide)⟩
theorem m_18K (Z : Tz P K mg c f cc cda fE fB) (G : C8.Cal P w K mg base 9 "fixed" (spF 9) []) : MkK P w K mg base "Handed" (c 18) 12 ["closed"] (permV [0]) (spSub (c 18) "handed" ["closed"]) := by
  obtain ⟨kV, doc, pm, an, ct, F⟩ := fn_sub18 (w := w) (base := base) Z G
  exact ⟨⟨_, _, _, permU [0], Z.mkr 18 (by decide), F, ⟨fun s us ws X l1 l2 => (match us, ws, l1, l2 with | [_], [_], _, _ => .of_eq rfl), fun r1 r2 => perm_rel r1 r2⟩⟩, Z.g 18 (by decide)⟩
theorem m_19 (Z : Tz P K mg c f cc cda fE fB) (G : C8.Cal P w K mg base 9 "fixed" (spF 9) []) : MkP P w K mg base "Dropped" (c 19) 12 (spSub (c 19) "dropped" ["first", "states", "places"]) := by
  obtain ⟨kV, doc, pm, an, ct, F⟩ := fn_sub19 (w := w) (base := base) Z G
  exact ⟨⟨_, Z.mkr 19 (by decide), fnR_of F (.all fun us hl => match us, hl with | [_, _, _, _], _ => rfl)⟩, Z.g 19 (by decide)⟩
theorem m_19K (Z : Tz P K mg c f cc cda fE fB) (G : C8.Cal P w K mg base 9 "fixed" (spF 9) []) : MkK P w K mg base "Dropped" (c 19) 12 ["places", "states", "first"] (permV [2, 1, 0]) (spSub (c 19) "dropped" ["first", "states", "places"]) := by
  obtain ⟨kV, doc, pm, an, ct, F⟩ := fn_sub19 (w := w) (base := base) Z G
  exact ⟨⟨_, _, _, permU [2, 1, 0], Z.mkr 19 (by decide), F, ⟨fun s us ws X l1 l2 => (match us, ws, l1, l2 with | [_], [_, _, _], _, _ => .of_eq rfl), fun r1 r2 => perm_rel r1 r2⟩⟩, Z.g 19 (by decide)⟩
theorem m_20 (Z : Tz P K mg c f cc cda fE fB) (G : C8.Cal P w K mg base 9 "fixed" (spF 9) []) : MkP P w K mg base "Safe" (c 20) 12 (spSub (c 20) "safe" ["stands"]) := by
  obtain ⟨kV, doc, pm, an, ct, F⟩ := fn_sub20 (w := w) (base := base) Z G
  exact ⟨⟨_, Z.mkr 20 (by decide), fnR_of F (.all fun us hl => match us, hl with | [_, _], _ => rfl)⟩, Z.g 20 (by decide)⟩
theorem m_20K (Z : Tz P K mg c f cc cda fE fB) (G : C8.Cal P w K mg base 9 "fixed" (spF 9) []) : MkK P w K mg base "Safe" (c 20) 12 ["stands"] (permV [0]) (spSub (c 20) "safe" ["stands"]) := by
  obtain ⟨kV, doc, pm, an, ct, F⟩ := fn_sub20 (w := w) (base := base) Z G
  exact ⟨⟨_, _, _, permU [0], Z.mkr 20 (by decide), F, ⟨fun s us ws X l1 l2 => (match us, ws, l1, l2 with | [_], [_], _, _ => .of_eq rfl), fun r1 r2 => perm_rel r1 r2⟩⟩, Z.g 20 (by decide)⟩
theorem m_21 (Z : Tz P K mg c f cc cda fE fB) (G : C8.Cal P w K mg base 9 "fixed" (spF 9) []) : MkP P w K mg base "Unsafe" (c 21) 12 (spSub (c 21) "unsafe" ["states", "deeds"]) := by
  obtain ⟨kV, doc, pm, an, ct, F⟩ := fn_sub21 (w := w) (base := base) Z G
  exact ⟨⟨_, Z.mkr 21 (by decide), fnR_of F (.all fun us hl => match us, hl with | [_, _, _], _ => rfl)⟩, Z.g 21 (by decide)⟩
theorem m_21K (Z : Tz P K mg c f cc cda fE fB) (G : C8.Cal P w K mg base 9 "fixed" (spF 9) []) : MkK P w K mg base "Unsafe" (c 21) 12 ["deeds", "states"] (permV [1, 0]) (spSub (c 21) "unsafe" ["states", "deeds"]) := by
  obtain ⟨kV, doc, pm, an, ct, F⟩ := fn_sub21 (w := w) (base := base) Z G
  exact ⟨⟨_, _, _, permU [1, 0], Z.mkr 21 (by decide), F, ⟨fun s us ws X l1 l2 => (match us, ws, l1, l2 with | [_], [_, _], _, _ => .of_eq rfl), fun r1 r2 => perm_rel r1 r2⟩⟩, Z.g 21 (by decide)⟩
theorem m_22 (Z : Tz P K mg c f cc cda fE fB) (G : C8.Cal P w K mg base 9 "fixed" (spF 9) []) : MkP P w K mg base "Implied" (c 22) 12 (spSub (c 22) "implied" ["pairs"]) := by
  obtain ⟨kV, doc, pm, an, ct, F⟩ := fn_sub22 (w := w) (base := base) Z G
  exact ⟨⟨_, Z.mkr 22 (by decide), fnR_of F (.all fun us hl => match us, hl with | [_, _], _ => rfl)⟩, Z.g 22 (by decide)⟩
theorem m_22K (Z : Tz P K mg c f cc cda fE fB) (G : C8.Cal P w K mg base 9 "fixed" (spF 9) []) : MkK P w K mg base "Implied" (c 22) 12 ["pairs"] (permV [0]) (spSub (c 22) "implied" ["pairs"]) := by
  obtain ⟨kV, doc, pm, an, ct, F⟩ := fn_sub22 (w := w) (base := base) Z G
  exact ⟨⟨_, _, _, permU [0], Z.mkr 22 (by decide), F, ⟨fun s us ws X l1 l2 => (match us, ws, l1, l2 with | [_], [_], _, _ => .of_eq rfl), fun r1 r2 => perm_rel r1 r2⟩⟩, Z.g 22 (by decide)⟩
theorem m_23 (Z : Tz P K mg c f cc cda fE fB) (G : C8.Cal P w K mg base 9 "fixed" (spF 9) []) : MkP P w K mg base "Apart" (c 23) 12 (spSub (c 23) "apart" ["reading", "ring"]) := by
  obtain ⟨kV, doc, pm, an, ct, F⟩ := fn_sub23 (w := w) (base := base) Z G
  exact ⟨⟨_, Z.mkr 23 (by decide), fnR_of F (.all fun us hl => match us, hl with | [_, _, _], _ => rfl)⟩, Z.g 23 (by decide)⟩
theorem m_23K (Z : Tz P K mg c f cc cda fE fB) (G : C8.Cal P w K mg base 9 "fixed" (spF 9) []) : MkK P w K mg base "Apart" (c 23) 12 ["ring", "reading"] (permV [1, 0]) (spSub (c 23) "apart" ["reading", "ring"]) := by
  obtain ⟨kV, doc, pm, an, ct, F⟩ := fn_sub23 (w := w) (base := base) Z G
  exact ⟨⟨_, _, _, permU [1, 0], Z.mkr 23 (by decide), F, ⟨fun s us ws X l1 l2 => (match us, ws, l1, l2 with | [_], [_, _], _, _ => .of_eq rfl), fun r1 r2 => perm_rel r1 r2⟩⟩, Z.g 23 (by decide)⟩
theorem m_24 (Z : Tz P K mg c f cc cda fE fB) (G : C8.Cal P w K mg base 9 "fixed" (spF 9) []) : MkP P w K mg base "Least" (c 24) 12 (spSub (c 24) "least" ["number", "kept", "refusal"]) := by
  obtain ⟨kV, doc, pm, an, ct, F⟩ := fn_sub24 (w := w) (base := base) Z G
  exact ⟨⟨_, Z.mkr 24 (by decide), fnR_of F (.all fun us hl => match us, hl with | [_, _, _, _], _ => rfl)⟩, Z.g 24 (by decide)⟩
theorem m_24K (Z : Tz P K mg c f cc cda fE fB) (G : C8.Cal P w K mg base 9 "fixed" (spF 9) []) : MkK P w K mg base "Least" (c 24) 12 ["refusal", "number", "kept"] (permV [1, 2, 0]) (spSub (c 24) "least" ["number", "kept", "refusal"]) := by
  obtain ⟨kV, doc, pm, an, ct, F⟩ := fn_sub24 (w := w) (base := base) Z G
  exact ⟨⟨_, _, _, permU [1, 2, 0], Z.mkr 24 (by decide), F, ⟨fun s us ws X l1 l2 => (match us, ws, l1, l2 with | [_], [_, _, _], _, _ => .of_eq rfl), fun r1 r2 => perm_rel r1 r2⟩⟩, Z.g 24 (by decide)⟩
theorem m_25 (Z : Tz P K mg c f cc cda fE fB) (G : C8.Cal P w K mg base 9 "fixed" (spF 9) []) : MkP P w K mg base "Losing" (c 25) 12 (spSub (c 25) "losing" ["first", "states", "pages", "deeds", "places"]) := by
  obtain ⟨kV, doc, pm, an, ct, F⟩ := fn_sub25 (w := w) (base := base) Z G
  exact ⟨⟨_, Z.mkr 25 (by decide), fnR_of F (.all fun us hl => match us, hl with | [_, _, _, _, _, _], _ => rfl)⟩, Z.g 25 (by decide)⟩
theorem m_25K (Z : Tz P K mg c f cc cda fE fB) (G : C8.Cal P w K mg base 9 "fixed" (spF 9) []) : MkK P w K mg base "Losing" (c 25) 12 ["places", "deeds", "pages", "states", "first"] (permV [4, 3, 2, 1, 0]) (spSub (c 25) "losing" ["first", "states", "pages", "deeds", "places"]) := by
  obtain ⟨kV, doc, pm, an, ct, F⟩ := fn_sub25 (w := w) (base := base) Z G
  exact ⟨⟨_, _, _, permU [4, 3, 2, 1, 0], Z.mkr 25 (by decide), F, ⟨fun s us ws X l1 l2 => (match us, ws, l1, l2 with | [_], [_, _, _, _, _], _, _ => .of_eq rfl), fun r1 r2 => perm_rel r1 r2⟩⟩, Z.g 25 (by decide)⟩
theorem m_26 (Z : Tz P K mg c f cc cda fE fB) (G : C8.Cal P w K mg base 9 "fixed" (spF 9) []) : MkP P w K mg base "SureTime" (c 26) 12 (spSub (c 26) "suretime" ["number", "table", "tree"]) := by
  obtain ⟨kV, doc, pm, an, ct, F⟩ := fn_sub26 (w := w) (base := base) Z G
  exact ⟨⟨_, Z.mkr 26 (by decide), fnR_of F (.all fun us hl => match us, hl with | [_, _, _, _], _ => rfl)⟩, Z.g 26 (by decide)⟩
theorem m_26K (Z : Tz P K mg c f cc cda fE fB) (G : C8.Cal P w K mg base 9 "fixed" (spF 9) []) : MkK P w K mg base "SureTime" (c 26) 12 ["tree", "table", "number"] (permV [2, 1, 0]) (spSub (c 26) "suretime" ["number", "table", "tree"]) := by
  obtain ⟨kV, doc, pm, an, ct, F⟩ := fn_sub26 (w := w) (base := base) Z G
  exact ⟨⟨_, _, _, permU [2, 1, 0], Z.mkr 26 (by decide), F, ⟨fun s us ws X l1 l2 => (match us, ws, l1, l2 with | [_], [_, _, _], _, _ => .of_eq rfl), fun r1 r2 => perm_rel r1 r2⟩⟩, Z.g 26 (by decide)⟩
theorem m_27 (Z : Tz P K mg c f cc cda fE fB) (G : C8.Cal P w K mg base 9 "fixed" (spF 9) []) : MkP P w K mg base "MomentFront" (c 27) 12 (spSub (c 27) "momentfront" ["points", "steps", "kept"]) := by
  obtain ⟨kV, doc, pm, an, ct, F⟩ := fn_sub27 (w := w) (base := base) Z G
  exact ⟨⟨_, Z.mkr 27 (by decide), fnR_of F (.all fun us hl => match us, hl with | [_, _, _, _], _ => rfl)⟩, Z.g 27 (by decide)⟩
theorem m_27K (Z : Tz P K mg c f cc cda fE fB) (G : C8.Cal P w K mg base 9 "fixed" (spF 9) []) : MkK P w K mg base "MomentFront" (c 27) 12 ["kept", "steps", "points"] (permV [2, 1, 0]) (spSub (c 27) "momentfront" ["points", "steps", "kept"]) := by
  obtain ⟨kV, doc, pm, an, ct, F⟩ := fn_sub27 (w := w) (base := base) Z G
  exact ⟨⟨_, _, _, permU [2, 1, 0], Z.mkr 27 (by decide), F, ⟨fun s us ws X l1 l2 => (match us, ws, l1, l2 with | [_], [_, _, _], _, _ => .of_eq rfl), fun r1 r2 => perm_rel r1 r2⟩⟩, Z.g 27 (by decide)⟩
theorem m_28 (Z : Tz P K mg c f cc cda fE fB) (G : C8.Cal P w K mg base 9 "fixed" (spF 9) []) : MkP P w K mg base "PromiseFront" (c 28) 12 (spSub (c 28) "promisefront" ["held", "short"]) := by
  obtain ⟨kV, doc, pm, an, ct, F⟩ := fn_sub28 (w := w) (base := base) Z G
  exact ⟨⟨_, Z.mkr 28 (by decide), fnR_of F (.all fun us hl => match us, hl with | [_, _, _], _ => rfl)⟩, Z.g 28 (by decide)⟩
theorem m_28K (Z : Tz P K mg c f cc cda fE fB) (G : C8.Cal P w K mg base 9 "fixed" (spF 9) []) : MkK P w K mg base "PromiseFront" (c 28) 12 ["short", "held"] (permV [1, 0]) (spSub (c 28) "promisefront" ["held", "short"]) := by
  obtain ⟨kV, doc, pm, an, ct, F⟩ := fn_sub28 (w := w) (base := base) Z G
  exact ⟨⟨_, _, _, permU [1, 0], Z.mkr 28 (by decide), F, ⟨fun s us ws X l1 l2 => (match us, ws, l1, l2 with | [_], [_, _], _, _ => .of_eq rfl), fun r1 r2 => perm_rel r1 r2⟩⟩, Z.g 28 (by decide)⟩
theorem m_29 (Z : Tz P K mg c f cc cda fE fB) (G : C8.Cal P w K mg base 9 "fixed" (spF 9) []) : MkP P w K mg base "SightFront" (c 29) 12 (spSub (c 29) "sightfront" ["enough", "short"]) := by
  obtain ⟨kV, doc, pm, an, ct, F⟩ := fn_sub29 (w := w) (base := base) Z G
  exact ⟨⟨_, Z.mkr 29 (by decide), fnR_of F (.all fun us hl => match us, hl with | [_, _, _], _ => rfl)⟩, Z.g 29 (by decide)⟩
theorem m_29K (Z : Tz P K mg c f cc cda fE fB) (G : C8.Cal P w K mg base 9 "fixed" (spF 9) []) : MkK P w K mg base "SightFront" (c 29) 12 ["short", "enough"] (permV [1, 0]) (spSub (c 29) "sightfront" ["enough", "short"]) := by
  obtain ⟨kV, doc, pm, an, ct, F⟩ := fn_sub29 (w := w) (base := base) Z G
  exact ⟨⟨_, _, _, permU [1, 0], Z.mkr 29 (by decide), F, ⟨fun s us ws X l1 l2 => (match us, ws, l1, l2 with | [_], [_, _], _, _ => .of_eq rfl), fun r1 r2 => perm_rel r1 r2⟩⟩, Z.g 29 (by decide)⟩
theorem m_30 (Z : Tz P K mg c f cc cda fE fB) (G : C8.Cal P w K mg base 9 "fixed" (spF 9) []) : MkP P w K mg base "Stays" (c 30) 12 (spSub (c 30) "stays" ["cases"]) := by
  obtain ⟨kV, doc, pm, an, ct, F⟩ := fn_sub30 (w := w) (base := base) Z G
  exact ⟨⟨_, Z.mkr 30 (by decide), fnR_of F (.all fun us hl => match us, hl with | [_, _], _ => rfl)⟩, Z.g 30 (by decide)⟩
theorem m_30K (Z : Tz P K mg c f cc cda fE fB) (G : C8.Cal P w K mg base 9 "fixed" (spF 9) []) : MkK P w K mg base "Stays" (c 30) 12 ["cases"] (permV [0]) (spSub (c 30) "stays" ["cases"]) := by
  obtain ⟨kV, doc, pm, an, ct, F⟩ := fn_sub30 (w := w) (base := base) Z G
  exact ⟨⟨_, _, _, permU [0], Z.mkr 30 (by decide), F, ⟨fun s us ws X l1 l2 => (match us, ws, l1, l2 with | [_], [_], _, _ => .of_eq rfl), fun r1 r2 => perm_rel r1 r2⟩⟩, Z.g 30 (by decide)⟩
theorem m_31 (Z : Tz P K mg c f cc cda fE fB) (G : C8.Cal P w K mg base 9 "fixed" (spF 9) []) : MkP P w K mg base "Slips" (c 31) 12 (spSub (c 31) "slips" ["first", "states", "pages"]) := by
  obtain ⟨kV, doc, pm, an, ct, F⟩ := fn_sub31 (w := w) (base := base) Z G
  exact ⟨⟨_, Z.mkr 31 (by decide), fnR_of F (.all fun us hl => match us, hl with | [_, _, _, _], _ => rfl)⟩, Z.g 31 (by decide)⟩
theorem m_31K (Z : Tz P K mg c f cc cda fE fB) (G : C8.Cal P w K mg base 9 "fixed" (spF 9) []) : MkK P w K mg base "Slips" (c 31) 12 ["pages", "states", "first"] (permV [2, 1, 0]) (spSub (c 31) "slips" ["first", "states", "pages"]) := by
  obtain ⟨kV, doc, pm, an, ct, F⟩ := fn_sub31 (w := w) (base := base) Z G
  exact ⟨⟨_, _, _, permU [2, 1, 0], Z.mkr 31 (by decide), F, ⟨fun s us ws X l1 l2 => (match us, ws, l1, l2 with | [_], [_, _, _], _, _ => .of_eq rfl), fun r1 r2 => perm_rel r1 r2⟩⟩, Z.g 31 (by decide)⟩
theorem m_32 (Z : Tz P K mg c f cc cda fE fB) (G : C8.Cal P w K mg base 9 "fixed" (spF 9) []) : MkP P w K mg base "Firm" (c 32) 12 (spSub (c 32) "firm" ["pages", "entries", "cases"]) := by
  obtain ⟨kV, doc, pm, an, ct, F⟩ := fn_sub32 (w := w) (base := base) Z G
  exact ⟨⟨_, Z.mkr 32 (by decide), fnR_of F (.all fun us hl => match us, hl with | [_, _, _, _], _ => rfl)⟩, Z.g 32 (by decide)⟩
theorem m_32K (Z : Tz P K mg c f cc cda fE fB) (G : C8.Cal P w K mg base 9 "fixed" (spF 9) []) : MkK P w K mg base "Firm" (c 32) 12 ["cases", "entries", "pages"] (permV [2, 1, 0]) (spSub (c 32) "firm" ["pages", "entries", "cases"]) := by
  obtain ⟨kV, doc, pm, an, ct, F⟩ := fn_sub32 (w := w) (base := base) Z G
  exact ⟨⟨_, _, _, permU [2, 1, 0], Z.mkr 32 (by decide), F, ⟨fun s us ws X l1 l2 => (match us, ws, l1, l2 with | [_], [_, _, _], _, _ => .of_eq rfl), fun r1 r2 => perm_rel r1 r2⟩⟩, Z.g 32 (by decide)⟩
theorem m_33 (Z : Tz P K mg c f cc cda fE fB) (G : C8.Cal P w K mg base 9 "fixed" (spF 9) []) : MkP P w K mg base "Unfirm" (c 33) 12 (spSub (c 33) "unfirm" ["pages", "lines"]) := by
  obtain ⟨kV, doc, pm, an, ct, F⟩ := fn_sub33 (w := w) (base := base) Z G
  exact ⟨⟨_, Z.mkr 33 (by decide), fnR_of F (.all fun us hl => match us, hl with | [_, _, _], _ => rfl)⟩, Z.g 33 (by decide)⟩
theorem m_33K (Z : Tz P K mg c f cc cda fE fB) (G : C8.Cal P w K mg base 9 "fixed" (spF 9) []) : MkK P w K mg base "Unfirm" (c 33) 12 ["lines", "pages"] (permV [1, 0]) (spSub (c 33) "unfirm" ["pages", "lines"]) := by
  obtain ⟨kV, doc, pm, an, ct, F⟩ := fn_sub33 (w := w) (base := base) Z G
  exact ⟨⟨_, _, _, permU [1, 0], Z.mkr 33 (by decide), F, ⟨fun s us ws X l1 l2 => (match us, ws, l1, l2 with | [_], [_, _], _, _ => .of_eq rfl), fun r1 r2 => perm_rel r1 r2⟩⟩, Z.g 33 (by decide)⟩
theorem m_34 (Z : Tz P K mg c f cc cda fE fB) (G : C8.Cal P w K mg base 9 "fixed" (spF 9) []) : MkP P w K mg base "Steady" (c 34) 12 (spSub (c 34) "steady" ["number", "firm", "unfirm"]) := by
  obtain ⟨kV, doc, pm, an, ct, F⟩ := fn_sub34 (w := w) (base := base) Z G
  exact ⟨⟨_, Z.mkr 34 (by decide), fnR_of F (.all fun us hl => match us, hl with | [_, _, _, _], _ => rfl)⟩, Z.g 34 (by decide)⟩
theorem m_34K (Z : Tz P K mg c f cc cda fE fB) (G : C8.Cal P w K mg base 9 "fixed" (spF 9) []) : MkK P w K mg base "Steady" (c 34) 12 ["unfirm", "firm", "number"] (permV [2, 1, 0]) (spSub (c 34) "steady" ["number", "firm", "unfirm"]) := by
  obtain ⟨kV, doc, pm, an, ct, F⟩ := fn_sub34 (w := w) (base := base) Z G
  exact ⟨⟨_, _, _, permU [2, 1, 0], Z.mkr 34 (by decide), F, ⟨fun s us ws X l1 l2 => (match us, ws, l1, l2 with | [_], [_, _, _], _, _ => .of_eq rfl), fun r1 r2 => perm_rel r1 r2⟩⟩, Z.g 34 (by decide)⟩
end
end K56

set_option Elab.async false
set_option linter.all false
set_option maxRecDepth 100000
set_option maxHeartbeats 2000000
namespace K56
open PySem PySem.Spec PyProof.Rows L2 Gd NdefX
theorem fx_tpm {n m : Nat} {d : PyData} (h : Sh n d) (hm : n ≤ m) : Tp (2 * n) (fx m d) := by
  rw [fx_stab h hm]
  exact fx_sh h
theorem all_tp {n m : Nat} {ds : List PyData} (h : ∀ d ∈ ds, Sh n d) (hm : n ≤ m) : ∀ e ∈ ds.map (fx m), Tp (2 * n) e := fun e he => by
  obtain ⟨d, hd, rfl⟩ := List.mem_map.mp he
  exact fx_tpm (h d hd) hm
/-- what a repr asks -/
def Rp (d : PyData) : Prop := d.showable = true ∧ d.depth ≤ 60 ∧ d.shown.length ≤ sizeLine
theorem Few.rp {B D : Nat} {d : PyData} (h : Few B D d) (hb : B ≤ 16000000) (hd : D ≤ 60) : Rp d := ⟨h.1, Nat.le_trans h.2.1 hd, Nat.le_trans h.2.2 (Nat.le_trans hb (by decide))⟩
theorem rp_tup {n : Nat} {es : List PyData} (h : ∀ e ∈ es, Tp n e) (hl : es.length ≤ 5) (hn : n ≤ 4) : Rp (.tuple es) := by
  have s : Sh 5 (.tuple es) := (show Sh 5 (.tuple es) from .inr (.inl ⟨es, .inr rfl, hl, fun e he => (h e he).sh.le hn⟩))
  exact Few.rp s.few (by decide) (by decide)
section
variable {P : Program} {K : PySem.W.Frag} {mg : Str → Option Value} {c f cc cda : Nat → Addr} {fE fB : Addr} {H : Hp} {Q : VK}
theorem eq_pp (Z : Tz P K mg c f cc cda fE fB) {x y : Addr} {i j : Nat} {ns ms : List Str} {z z' : Str} {es ds : List PyData} (hi : i < 35) (hj : j < 35) (hx : Pap (c i) ns z es H x) (hy : Pap (c j) ms z' ds H y) (l1 : es.length ≤ 5) (l2 : ds.length ≤ 5)
    (t1 : ∀ e ∈ es, Tp 14 e) (t2 : ∀ e ∈ ds, Tp 14 e) (q : Q (.bl (decide (i = j) && (decide (z = z') && PyData.eqv (.tuple es) (.tuple ds)))) H) : rEqO K fE (spEqP c) (.ref x) (.ref y) H Q := by
  obtain ⟨us, t, ⟨dx, fs, h1, h2, h3⟩, h4, h5⟩ := id hx
  obtain ⟨vs, t', ⟨dy, gs, g1, g2, g3⟩, g4, g5⟩ := id hy
  refine ⟨x, c i, dx, fs, y, rfl, rfl, h1, Z.eq i hi, .inr ⟨c j, dy, gs, g1, ?_⟩⟩
  by_cases hij : i = j
  · subst hij
    refine .inl ⟨?_, x, y, i, ns, z, es, rfl, hi, hx, l1, t1, .inr ⟨i, ms, z', ds, hi, hy, l2, t2, q⟩⟩
    unfold PySem.W.notFirst
    simp
  · cases hb : belP j i with
    | false =>
      refine .inl ⟨?_, x, y, i, ns, z, es, rfl, hi, hx, l1, t1, .inr ⟨j, ms, z', ds, hj, hy, l2, t2, q⟩⟩
      unfold PySem.W.notFirst
      rw [Z.sub j i hj hi, hb]
      simp
    | true =>
      refine .inr ⟨fun h => hij (Z.inj i j hi hj h), Z.eq j hj, by rw [Z.sub j i hj hi, hb], y, x, j, ms, z', ds, rfl, hj, hy, l2, t2, .inr ⟨i, ns, z, es, hi, hx, l1, t1, ?_⟩⟩
      rw [decide_eq_false hij, Bool.false_and] at q
      rw [decide_eq_false (Ne.symm hij), Bool.false_and]
      exact q
theorem eq_pt (Z : Tz P K mg c f cc cda fE fB) {x y : Addr} {i : Nat} {ns : List Str} {z : Str} {es : List PyData} {xs : List V} (hi : i < 35) (hx : Pap (c i) ns z es H x) (hy : H y = some (.tup xs)) (l1 : es.length ≤ 5)
    (t1 : ∀ e ∈ es, Tp 14 e) (q : Q (.bl false) H) : rEqO K fE (spEqP c) (.ref x) (.ref y) H Q := by
  obtain ⟨us, t, ⟨dx, fs, h1, h2, h3⟩, h4, h5⟩ := id hx
  exact ⟨x, c i, dx, fs, y, rfl, rfl, h1, Z.eq i hi, .inl ⟨xs, hy, Z.tupS i hi, x, y, i, ns, z, es, rfl, hi, hx, l1, t1, .inl ⟨xs, hy, q⟩⟩⟩
theorem bool_p (Z : Tz P K mg c f cc cda fE fB) {x : Addr} {i : Nat} {ns : List Str} {z : Str} {es : List PyData} (hi : i < 35) (hx : Pap (c i) ns z es H x) (q : Q (.bl (!belP i 1)) H) : rBoolO K fB spB [.ref x] H Q := by
  obtain ⟨us, t, ⟨dx, fs, h1, h2, h3⟩, h4, h5⟩ := id hx
  have b := Z.bl i hi
  refine ⟨x, c i, dx, fs, rfl, h1, ?_⟩
  cases hb : belP i 1 with
  | false =>
    rw [hb] at b q
    exact .inl ⟨b, Z.ln i hi, q⟩
  | true =>
    rw [hb] at b q
    exact .inr ⟨b, Z.fb, x, rfl, false, rfl, q⟩
/-- p.word -/
theorem fld_w (Z : Tz P K mg c f cc cda fE fB) {σ : L2.St} {j x : Nat} {i : Nat} {ns : List Str} {z : Str} {es : List PyData} (hi : i < 35) (hx : Pap (c i) ns z es H x) (hs : σ[j]? = some (some (.ref x))) (q : Q (.str z) H) : tFld K (tVar j) ("word" : Str) σ H Q := by
  obtain ⟨us, t, ⟨dx, fs, h1, h2, h3⟩, h4, h5⟩ := id hx
  exact ⟨.ref x, hs, x, c i, dx, fs, .str z, rfl, h1, Z.cls hi, Z.noA hi (by decide), h3 _ (.head _), q⟩
/-- p.parts -/
theorem fld_p (Z : Tz P K mg c f cc cda fE fB) {σ : L2.St} {j x : Nat} {i : Nat} {ns : List Str} {z : Str} {es : List PyData} (hi : i < 35) (hx : Pap (c i) ns z es H x) (hs : σ[j]? = some (some (.ref x))) (q : ∀ t, Dq H (.ref t) (.tuple es) → Q (.ref t) H) : tFld K (tVar j) ("parts" : Str) σ H Q := by
  obtain ⟨us, t, ⟨dx, fs, h1, h2, h3⟩, h4, h5⟩ := id hx
  exact ⟨.ref x, hs, x, c i, dx, fs, .ref t, rfl, h1, Z.cls hi, Z.noA hi (by decide), h3 _ (.tail _ (.head _)), q t (.tup h4 h5)⟩
end
theorem all_geti {H : Hp} : ∀ {vs : List V} {ds : List PyData} {i : Nat} {d : PyData}, DqAll H vs ds → ds[i]? = some d → ∃ v, vs[i]? = some v ∧ Dq H v d
  | _, _, i, d, .nil, h => by simp at h
  | _, _, 0, d, .cons a b, h => by
    simp at h
    subst h
    exact ⟨_, rfl, a⟩
  | _, _, i + 1, d, .cons a b, h => by
    simp at h
    obtain ⟨v, h1, h2⟩ := all_geti b h
    exact ⟨v, by simp [h1], h2⟩
section
variable {P : Program} {K : PySem.W.Frag} {mg : Str → Option Value} {c f cc cda : Nat → Addr} {fE fB : Addr} {H : Hp} {Q : V → Prop}
/-- p.x, x the name of a part -/
theorem fld_n (Z : Tz P K mg c f cc cda fE fB) {σ : L2.St} {j x : Nat} {i : Nat} {ns : List Str} {z : Str} {es : List PyData} (m : Nat) {nm : Str} {d : PyData} (hi : i < 35) (hx : Pap (c i) ns z es H x) (hs : σ[j]? = some (some (.ref x)))
    (hn : ns[m]? = some nm) (hd : es[m]? = some d) (hf : nm ∈ fldN) (q : ∀ u, Dq H u d → Q u) : ∃ v, σ[j]? = some (some v) ∧ ∃ a C dx fs u, v = .ref a ∧ H a = some (.ins C dx fs) ∧ Cls K C ∧ NoAttr K C nm ∧ fs.lookup nm = some u ∧ Q u := by
  obtain ⟨us, t, ⟨dx, fs, h1, h2, h3⟩, h4, h5⟩ := id hx
  obtain ⟨u, hu, hud⟩ := all_geti h5 hd
  have hm : (nm, u) ∈ ns.zip us := List.mem_of_getElem? (List.getElem?_zip_eq_some.mpr ⟨hn, hu⟩)
  exact ⟨.ref x, hs, x, c i, dx, fs, u, rfl, h1, Z.cls hi, Z.noA hi hf, h3 _ (List.mem_append_right _ hm), q u hud⟩
/-- p.word -/
theorem fld_o (Z : Tz P K mg c f cc cda fE fB) {Q : V → Prop} {σ : L2.St} {j x : Nat} {i : Nat} {ns : List Str} {z : Str} {es : List PyData} (hi : i < 35) (hx : Pap (c i) ns z es H x) (hs : σ[j]? = some (some (.ref x)))
    (q : Q (.str z)) : ∃ v, σ[j]? = some (some v) ∧ ∃ a C dx fs u, v = .ref a ∧ H a = some (.ins C dx fs) ∧ Cls K C ∧ NoAttr K C ("word" : Str) ∧ fs.lookup ("word" : Str) = some u ∧ Q u := by
  obtain ⟨us, t, ⟨dx, fs, h1, h2, h3⟩, h4, h5⟩ := id hx
  exact ⟨.ref x, hs, x, c i, dx, fs, .str z, rfl, h1, Z.cls hi, Z.noA hi (by decide), h3 _ (.head _), q⟩
/-- p.parts -/
theorem fld_q (Z : Tz P K mg c f cc cda fE fB) {Q : V → Prop} {σ : L2.St} {j x : Nat} {i : Nat} {ns : List Str} {z : Str} {es : List PyData} (hi : i < 35) (hx : Pap (c i) ns z es H x) (hs : σ[j]? = some (some (.ref x)))
    (q : ∀ t, Dq H (.ref t) (.tuple es) → Q (.ref t)) : ∃ v, σ[j]? = some (some v) ∧ ∃ a C dx fs u, v = .ref a ∧ H a = some (.ins C dx fs) ∧ Cls K C ∧ NoAttr K C ("parts" : Str) ∧ fs.lookup ("parts" : Str) = some u ∧ Q u := by
  obtain ⟨us, t, ⟨dx, fs, h1, h2, h3⟩, h4, h5⟩ := id hx
  exact ⟨.ref x, hs, x, c i, dx, fs, .ref t, rfl, h1, Z.cls hi, Z.noA hi (by decide), h3 _ (.tail _ (.head _)), q t (.tup h4 h5)⟩
end
theorem mk_ini {K : PySem.W.Frag} {R : V → Hp → Prop} {C : Addr} {z : Str} {rest : List V} {ds : List PyData} {H1 : Hp} {x dx : Addr} (hd : DqAll H1 rest ds) (hs : ∀ d ∈ ds, Sh 7 d) (hl : rest.length ≤ 5) (nx : H1 x = none) (ndx : H1 dx = none)
    (q : ∀ H' : Hp, Pap C [] z (ds.map (fx 7)) H' x → Same H1 H' → R .non H') : spIni K C (V.ref x :: (.str z :: rest)) (upd (upd H1 dx (.own x)) x (.ins C dx [])) R C8.E0 := by
  refine ⟨x, dx, z, rest, ds, rfl, upd_same, hd.same (made_same nx ndx), hs, hl, fun us t fs H' kp h1 h2 h3 h4 h5 h6 => q H' ⟨us, t, ⟨dx, fs, h1, by omega, fun p hp => ?_⟩, h5, h6⟩ (same_made nx ndx kp)⟩
  simp only [List.cons_append, List.nil_append, List.zip_nil_left, List.mem_cons, List.not_mem_nil, or_false] at hp
  rcases hp with rfl | rfl
  · exact h3
  · exact h4
end K56

set_option Elab.async false
set_option linter.all false
set_option maxRecDepth 100000
set_option maxHeartbeats 4000000
namespace K56
open PySem PySem.Spec PyProof.Rows L2 Gd NdefX
/-- a row of the law's: a paper made by place, one made by name, its parts by their names, its word -/
def RowA (c : Nat → Addr) (es : List PyData) (H : Hp) (v : V) (i : Nat) : Prop := ∃ r p n t, v = .ref r ∧ H r = some (.tup [.ref p, .ref n, .ref t, .str (wdP i)]) ∧ Pap (c i) (nsP i) (wdP i) es H p ∧ Pap (c i) (nsP i) (wdP i) es H n ∧ Dq H (.ref t) (.tuple es)
theorem RowA.same {c : Nat → Addr} {es : List PyData} {H H' : Hp} {v : V} {i : Nat} (s : Same H H') (h : RowA c es H v i) : RowA c es H' v i := by
  obtain ⟨r, p, n, t, rfl, h1, h2, h3, h4⟩ := h
  exact ⟨r, p, n, t, rfl, s _ _ h1, h2.same s, h3.same s, h4.same s⟩
abbrev Rows (c : Nat → Addr) (es : List PyData) (H : Hp) (rs : List V) (is : List Nat) : Prop := Paired (RowA c es H) rs is
theorem Rows.same {c : Nat → Addr} {es : List PyData} {H H' : Hp} (s : Same H H') : ∀ {rs : List V} {is : List Nat}, Rows c es H rs is → Rows c es H' rs is
  | _, _, .nil => .nil
  | _, _, .cons a b => .cons (a.same s) (Rows.same s b)
theorem rows_app {c : Nat → Addr} {es : List PyData} {H : Hp} : ∀ {rs rs' : List V} {is is' : List Nat}, Rows c es H rs is → Rows c es H rs' is' → Rows c es H (rs ++ rs') (is ++ is')
  | _, _, _, _, .nil, h => h
  | _, _, _, _, .cons a b, h => .cons a (rows_app b h)
def is1 : List Nat := [20, 22, 6, 7, 18, 4, 16, 30]
def is2 : List Nat := [21, 23, 2, 9, 10, 14, 12, 29, 28, 33]
def is3 : List Nat := [3, 8, 19, 13, 24, 5, 11, 26, 17, 27, 31, 32, 34]
def spOnes (c : Nat → Addr) : Sp := fun vs H Q _ => ∃ (v0 : V) (d0 : PyData), vs = [v0] ∧ Dq H v0 d0 ∧ Sh 3 d0 ∧ ∀ (l : Addr) (rs : List V) (H' : Hp), Same H H' → H' l = some (.lst rs) → Rows c ([d0].map (fx 7)) H' rs is1 → Q (.ref l) H'
def spTwos (c : Nat → Addr) : Sp := fun vs H Q _ => ∃ (v0 v1 : V) (d0 d1 : PyData), vs = [v0, v1] ∧ Dq H v0 d0 ∧ Dq H v1 d1 ∧ Sh 3 d0 ∧ Sh 3 d1 ∧ ∀ (l : Addr) (rs : List V) (H' : Hp), Same H H' → H' l = some (.lst rs) → Rows c ([d0, d1].map (fx 7)) H' rs is2 → Q (.ref l) H'
def spThrees (c : Nat → Addr) : Sp := fun vs H Q _ => ∃ (v0 v1 v2 : V) (d0 d1 d2 : PyData), vs = [v0, v1, v2] ∧ Dq H v0 d0 ∧ Dq H v1 d1 ∧ Dq H v2 d2 ∧ Sh 3 d0 ∧ Sh 3 d1 ∧ Sh 3 d2 ∧
  ∀ (l : Addr) (rs : List V) (H' : Hp), Same H H' → H' l = some (.lst rs) → Rows c ([d0, d1, d2].map (fx 7)) H' rs is3 → Q (.ref l) H'
section
variable {P : Program} {w : World} {K : PySem.W.Frag} {mg : Str → Option Value} {base : Heap} {c f cc cda : Nat → Addr} {fE fB : Addr}
theorem ok_twos (T : Txt K mg) (Z : Tz P K mg c f cc cda fE fB) (G_fixed : C8.Cal P w K mg base 9 "fixed" (spF 9) []) : Gd.Cal P w K mg base 14 "_law_twos" (spTwos c) := by
  obtain ⟨fp, fd, F, b⟩ := T.d_law_twos
  refine cal F b sc_law_twos (fun vs H Q E h => ?_) (fun cdv A outer s H vs Q E hgd hr h => ?_)
  · obtain ⟨v0, v1, d0, d1, rfl, _⟩ := h
    rfl
  · have nd := sc_law_twos.nd
    have M_2 := m_2 (w := w) (base := base) Z G_fixed
    have M_9 := m_9 (w := w) (base := base) Z G_fixed
    have M_10 := m_10 (w := w) (base := base) Z G_fixed
    have M_12 := m_12 (w := w) (base := base) Z G_fixed
    have M_14 := m_14 (w := w) (base := base) Z G_fixed
    have M_21 := m_21 (w := w) (base := base) Z G_fixed
    have M_23 := m_23 (w := w) (base := base) Z G_fixed
    have M_28 := m_28 (w := w) (base := base) Z G_fixed
    have M_29 := m_29 (w := w) (base := base) Z G_fixed
    have M_33 := m_33 (w := w) (base := base) Z G_fixed
    have M_2K := m_2K (w := w) (base := base) Z G_fixed
    have M_9K := m_9K (w := w) (base := base) Z G_fixed
    have M_10K := m_10K (w := w) (base := base) Z G_fixed
    have M_12K := m_12K (w := w) (base := base) Z G_fixed
    have M_14K := m_14K (w := w) (base := base) Z G_fixed
    have M_21K := m_21K (w := w) (base := base) Z G_fixed
    have M_23K := m_23K (w := w) (base := base) Z G_fixed
    have M_28K := m_28K (w := w) (base := base) Z G_fixed
    have M_29K := m_29K (w := w) (base := base) Z G_fixed
    have M_33K := m_33K (w := w) (base := base) Z G_fixed
    obtain ⟨v0, v1, d0, d1, rfl, hd0, hd1, hs0, hs1, q⟩ := h
    have A1 : DqAll H [v0] [d0] := .cons hd0 .nil
    have S1 : ∀ d ∈ [d0], Sh 7 d := by
      intro d hd
      simp only [List.mem_cons, List.not_mem_nil, or_false] at hd
      rcases hd with rfl <;> first | exact hs0.le (by decide)
    have A2 : DqAll H [v0, v1] [d0, d1] := .cons hd0 (.cons hd1 .nil)
    have S2 : ∀ d ∈ [d0, d1], Sh 7 d := by
      intro d hd
      simp only [List.mem_cons, List.not_mem_nil, or_false] at hd
      rcases hd with rfl | rfl <;> first | exact hs0.le (by decide) | exact hs1.le (by decide)
    refine ⟨_, (C8.pss_cut (ps_par3 (i := 2) (j := 3) (l := 4) rfl nd rfl rfl rfl (by decide) (by decide) (by decide) rfl rfl rfl (pa_cons (pe_mkR M_21 hr (by omega) (by rfl) (pa_cons (pv 0) (pa_cons (pv 1) pa_nil))) (pa_cons (pe_mkR M_23 hr (by omega) (by rfl) (pa_cons (pv 0) (pa_cons (pv 1) pa_nil))) (pa_cons (pe_mkR M_2 hr (by omega) (by rfl) (pa_cons (pv 0) (pa_cons (pv 1) pa_nil))) pa_nil))) rfl)
      (C8.pss_cut (ps_set (i := 5) nd rfl (.inl rfl) (pe_lstX (pa_cons (pe_tup (pa_cons (pv 2) (pa_cons (pe_mkK0 M_21K hr (by omega) (by rfl) (pk_cons (pv 1) (pk_cons (pv 0) pk_nil))) (pa_cons (pe_tup (pa_cons (pe_fld (pv 2) rfl) (pa_cons (pe_fld (pv 2) rfl) pa_nil))) (pa_cons pe_str pa_nil))))) pa_nil)))
      (C8.pss_cut (ps_set (i := 5) nd rfl (.inl rfl) (pe_op op_cat (pv 5) (pe_lstX (pa_cons (pe_tup (pa_cons (pv 3) (pa_cons (pe_mkK0 M_23K hr (by omega) (by rfl) (pk_cons (pv 1) (pk_cons (pv 0) pk_nil))) (pa_cons (pe_tup (pa_cons (pe_fld (pv 3) rfl) (pa_cons (pe_fld (pv 3) rfl) pa_nil))) (pa_cons pe_str pa_nil))))) pa_nil))))
      (C8.pss_cut (ps_set (i := 5) nd rfl (.inl rfl) (pe_op op_cat (pv 5) (pe_lstX (pa_cons (pe_tup (pa_cons (pv 4) (pa_cons (pe_mkK0 M_2K hr (by omega) (by rfl) (pk_cons (pv 1) (pk_cons (pv 0) pk_nil))) (pa_cons (pe_tup (pa_cons (pe_fld (pv 4) rfl) (pa_cons (pe_fld (pv 4) rfl) pa_nil))) (pa_cons pe_str pa_nil))))) pa_nil))))
      (C8.pss_cut (ps_par3 (i := 2) (j := 3) (l := 4) rfl nd rfl rfl rfl (by decide) (by decide) (by decide) rfl rfl rfl (pa_cons (pe_mkR M_9 hr (by omega) (by rfl) (pa_cons (pv 0) (pa_cons (pv 1) pa_nil))) (pa_cons (pe_mkR M_10 hr (by omega) (by rfl) (pa_cons (pv 0) (pa_cons (pv 1) pa_nil))) (pa_cons (pe_mkR M_14 hr (by omega) (by rfl) (pa_cons (pv 0) (pa_cons (pv 1) pa_nil))) pa_nil))) rfl)
      (C8.pss_cut (ps_set (i := 5) nd rfl (.inl rfl) (pe_op op_cat (pv 5) (pe_lstX (pa_cons (pe_tup (pa_cons (pv 2) (pa_cons (pe_mkK0 M_9K hr (by omega) (by rfl) (pk_cons (pv 1) (pk_cons (pv 0) pk_nil))) (pa_cons (pe_tup (pa_cons (pe_fld (pv 2) rfl) (pa_cons (pe_fld (pv 2) rfl) pa_nil))) (pa_cons pe_str pa_nil))))) pa_nil))))
      (C8.pss_cut (ps_set (i := 5) nd rfl (.inl rfl) (pe_op op_cat (pv 5) (pe_lstX (pa_cons (pe_tup (pa_cons (pv 3) (pa_cons (pe_mkK0 M_10K hr (by omega) (by rfl) (pk_cons (pv 1) (pk_cons (pv 0) pk_nil))) (pa_cons (pe_tup (pa_cons (pe_fld (pv 3) rfl) (pa_cons (pe_fld (pv 3) rfl) pa_nil))) (pa_cons pe_str pa_nil))))) pa_nil))))
      (C8.pss_cut (ps_set (i := 5) nd rfl (.inl rfl) (pe_op op_cat (pv 5) (pe_lstX (pa_cons (pe_tup (pa_cons (pv 4) (pa_cons (pe_mkK0 M_14K hr (by omega) (by rfl) (pk_cons (pv 1) (pk_cons (pv 0) pk_nil))) (pa_cons (pe_tup (pa_cons (pe_fld (pv 4) rfl) (pa_cons (pe_fld (pv 4) rfl) pa_nil))) (pa_cons pe_str pa_nil))))) pa_nil))))
      (C8.pss_cut (ps_par3 (i := 2) (j := 3) (l := 4) rfl nd rfl rfl rfl (by decide) (by decide) (by decide) rfl rfl rfl (pa_cons (pe_mkR M_12 hr (by omega) (by rfl) (pa_cons (pv 0) (pa_cons (pv 1) pa_nil))) (pa_cons (pe_mkR M_29 hr (by omega) (by rfl) (pa_cons (pv 0) (pa_cons (pv 1) pa_nil))) (pa_cons (pe_mkR M_28 hr (by omega) (by rfl) (pa_cons (pv 0) (pa_cons (pv 1) pa_nil))) pa_nil))) rfl)
      (C8.pss_cut (ps_set (i := 5) nd rfl (.inl rfl) (pe_op op_cat (pv 5) (pe_lstX (pa_cons (pe_tup (pa_cons (pv 2) (pa_cons (pe_mkK0 M_12K hr (by omega) (by rfl) (pk_cons (pv 1) (pk_cons (pv 0) pk_nil))) (pa_cons (pe_tup (pa_cons (pe_fld (pv 2) rfl) (pa_cons (pe_fld (pv 2) rfl) pa_nil))) (pa_cons pe_str pa_nil))))) pa_nil))))
      (C8.pss_cut (ps_set (i := 5) nd rfl (.inl rfl) (pe_op op_cat (pv 5) (pe_lstX (pa_cons (pe_tup (pa_cons (pv 3) (pa_cons (pe_mkK0 M_29K hr (by omega) (by rfl) (pk_cons (pv 1) (pk_cons (pv 0) pk_nil))) (pa_cons (pe_tup (pa_cons (pe_fld (pv 3) rfl) (pa_cons (pe_fld (pv 3) rfl) pa_nil))) (pa_cons pe_str pa_nil))))) pa_nil))))
      (C8.pss_cut (ps_set (i := 5) nd rfl (.inl rfl) (pe_op op_cat (pv 5) (pe_lstX (pa_cons (pe_tup (pa_cons (pv 4) (pa_cons (pe_mkK0 M_28K hr (by omega) (by rfl) (pk_cons (pv 1) (pk_cons (pv 0) pk_nil))) (pa_cons (pe_tup (pa_cons (pe_fld (pv 4) rfl) (pa_cons (pe_fld (pv 4) rfl) pa_nil))) (pa_cons pe_str pa_nil))))) pa_nil))))
      (C8.pss_cut (ps_set (i := 2) nd rfl (.inl rfl) (pe_mkR M_33 hr (by omega) (by rfl) (pa_cons (pv 0) (pa_cons (pv 1) pa_nil))))
      (pss_one (ps_ret (pe_op op_cat (pv 5) (pe_lstX (pa_cons (pe_tup (pa_cons (pv 2) (pa_cons (pe_mkK0 M_33K hr (by omega) (by rfl) (pk_cons (pv 1) (pk_cons (pv 0) pk_nil))) (pa_cons (pe_tup (pa_cons (pe_fld (pv 2) rfl) (pa_cons (pe_fld (pv 2) rfl) pa_nil))) (pa_cons pe_str pa_nil))))) pa_nil)))))))))))))))))), ?_⟩
    refine ⟨fun σ' H' => ∃ x1 x5 x9, σ' = [some v0, some v1, some (.ref x1), some (.ref x5), some (.ref x9), none] ∧ Same H H' ∧ Pap (c 21) (nsP 21) (wdP 21) ([d0, d1].map (fx 7)) H' x1 ∧ Pap (c 23) (nsP 23) (wdP 23) ([d0, d1].map (fx 7)) H' x5 ∧ Pap (c 2) (nsP 2) (wdP 2) ([d0, d1].map (fx 7)) H' x9, ?_, ?_⟩
    · refine ⟨v0, rfl, v1, rfl, fun x1 dx nx ndx nex => ?_⟩
      refine mk_sub (ps := [v0, v1]) (ds := [d0, d1]) A2 S2 rfl nx ndx fun H4 h2 z3 => ⟨rfl, ?_⟩
      clear nx ndx nex
      refine ⟨v0, rfl, v1, rfl, fun x5 dx nx ndx nex => ?_⟩
      refine mk_sub (ps := [v0, v1]) (ds := [d0, d1]) (A2.same z3) S2 rfl nx ndx fun H8 h6 z7 => ⟨rfl, ?_⟩
      clear nx ndx nex
      refine ⟨v0, rfl, v1, rfl, fun x9 dx nx ndx nex => ?_⟩
      refine mk_sub (ps := [v0, v1]) (ds := [d0, d1]) (A2.same (z3.trans z7)) S2 rfl nx ndx fun H12 h10 z11 => ⟨rfl, ?_⟩
      clear nx ndx nex
      exact ⟨.ref x1, .ref x5, .ref x9, rfl, x1, x5, x9, rfl, (z3.trans (z7.trans z11)), (h2.same (z7.trans z11)), (h6.same z11), h10⟩
    rintro σ' H13 ⟨x1, x5, x9, rfl, s14, p15, p16, p17⟩
    have y18 : Same H H13 := s14
    refine ⟨fun σ' H' => ∃ l33 r34, σ' = [some v0, some v1, some (.ref x1), some (.ref x5), some (.ref x9), some (.ref l33)] ∧ Same H13 H' ∧ H' l33 = some (.lst r34) ∧ Rows c ([d0, d1].map (fx 7)) H' r34 [21], ?_, ?_⟩
    · refine ⟨.ref x1, rfl, ?_⟩
      refine ⟨v1, rfl, v0, rfl, rfl, rfl, fun x19 dx nx ndx nex => ?_⟩
      refine mk_sub (ps := [v0, v1]) (ds := [d0, d1]) (A2.same y18) S2 rfl nx ndx fun H22 h20 z21 => ⟨rfl, ?_⟩
      clear nx ndx nex
      refine fld_n Z (i := 21) 0 (by decide) (p15.same z21) (by rfl) (by rfl) (by rfl) (by decide) fun u23 e24 => ?_
      refine fld_n Z (i := 21) 1 (by decide) (p15.same z21) (by rfl) (by rfl) (by rfl) (by decide) fun u25 e26 => ?_
      refine ⟨by show 2 ≤ sizeLine; decide, fun t27 nt => ?_⟩
      have s28 := same_new nt (o := .tup [u23, u25])
      clear nt
      refine ⟨by show 4 ≤ sizeLine; decide, fun t29 nt => ?_⟩
      have s30 := same_new nt (o := .tup [.ref x1, .ref x19, .ref t27, .str "unsafe"])
      clear nt
      refine ⟨by show 1 ≤ sizeLine; decide, fun l31 nl _ => ?_⟩
      have s32 := same_new nl (o := .lst [.ref t29])
      clear nl
      exact ⟨l31, [.ref t29], rfl, (z21.trans (s28.trans (s30.trans s32))), upd_same, (.cons ⟨t29, x1, x19, t27, rfl, (s32 _ _ upd_same), (p15.same (z21.trans (s28.trans (s30.trans s32)))), (h20.same (s28.trans (s30.trans s32))), .tup (s32 _ _ (s30 _ _ upd_same)) (.cons ((e24.same (s28.trans (s30.trans s32)))) (.cons ((e26.same (s28.trans (s30.trans s32)))) .nil))⟩ .nil)⟩
    rintro σ' H36 ⟨l33, r34, rfl, s35, a37, p38⟩
    have y39 : Same H H36 := y18.trans s35
    refine ⟨fun σ' H' => ∃ l56 r57, σ' = [some v0, some v1, some (.ref x1), some (.ref x5), some (.ref x9), some (.ref l56)] ∧ Same H36 H' ∧ H' l56 = some (.lst r57) ∧ Rows c ([d0, d1].map (fx 7)) H' r57 [21, 23], ?_, ?_⟩
    · refine ⟨.ref l33, rfl, ?_⟩
      refine ⟨.ref x5, rfl, ?_⟩
      refine ⟨v1, rfl, v0, rfl, rfl, rfl, fun x40 dx nx ndx nex => ?_⟩
      refine mk_sub (ps := [v0, v1]) (ds := [d0, d1]) (A2.same y39) S2 rfl nx ndx fun H43 h41 z42 => ⟨rfl, ?_⟩
      clear nx ndx nex
      refine fld_n Z (i := 23) 0 (by decide) ((p16.same s35).same z42) (by rfl) (by rfl) (by rfl) (by decide) fun u44 e45 => ?_
      refine fld_n Z (i := 23) 1 (by decide) ((p16.same s35).same z42) (by rfl) (by rfl) (by rfl) (by decide) fun u46 e47 => ?_
      refine ⟨by show 2 ≤ sizeLine; decide, fun t48 nt => ?_⟩
      have s49 := same_new nt (o := .tup [u44, u46])
      clear nt
      refine ⟨by show 4 ≤ sizeLine; decide, fun t50 nt => ?_⟩
      have s51 := same_new nt (o := .tup [.ref x5, .ref x40, .ref t48, .str "apart"])
      clear nt
      refine ⟨by show 1 ≤ sizeLine; decide, fun l52 nl _ => ?_⟩
      have s53 := same_new nl (o := .lst [.ref t50])
      clear nl
      refine ⟨l33, l52, r34, [.ref t50], rfl, rfl, (s53 _ _ (s51 _ _ (s49 _ _ (z42 _ _ a37)))), upd_same, ?_, fun l54 nl => ?_⟩
      · have e := Paired.length p38
        rw [e]
        show 2 ≤ sizeLine
        decide
      have s55 := same_new nl (o := .lst (r34 ++ [.ref t50]))
      exact ⟨l54, r34 ++ [.ref t50], rfl, (z42.trans (s49.trans (s51.trans (s53.trans s55)))), upd_same, (rows_app (Rows.same (z42.trans (s49.trans (s51.trans (s53.trans s55)))) p38) (.cons ⟨t50, x5, x40, t48, rfl, (s55 _ _ (s53 _ _ upd_same)), ((p16.same s35).same (z42.trans (s49.trans (s51.trans (s53.trans s55))))), (h41.same (s49.trans (s51.trans (s53.trans s55)))), .tup (s55 _ _ (s53 _ _ (s51 _ _ upd_same))) (.cons ((e45.same (s49.trans (s51.trans (s53.trans s55))))) (.cons ((e47.same (s49.trans (s51.trans (s53.trans s55))))) .nil))⟩ .nil))⟩
    rintro σ' H59 ⟨l56, r57, rfl, s58, a60, p61⟩
    have y62 : Same H H59 := y39.trans s58
    refine ⟨fun σ' H' => ∃ l79 r80, σ' = [some v0, some v1, some (.ref x1), some (.ref x5), some (.ref x9), some (.ref l79)] ∧ Same H59 H' ∧ H' l79 = some (.lst r80) ∧ Rows c ([d0, d1].map (fx 7)) H' r80 [21, 23, 2], ?_, ?_⟩
    · refine ⟨.ref l56, rfl, ?_⟩
      refine ⟨.ref x9, rfl, ?_⟩
      refine ⟨v1, rfl, v0, rfl, rfl, rfl, fun x63 dx nx ndx nex => ?_⟩
      refine mk_sub (ps := [v0, v1]) (ds := [d0, d1]) (A2.same y62) S2 rfl nx ndx fun H66 h64 z65 => ⟨rfl, ?_⟩
      clear nx ndx nex
      refine fld_n Z (i := 2) 0 (by decide) (((p17.same s35).same s58).same z65) (by rfl) (by rfl) (by rfl) (by decide) fun u67 e68 => ?_
      refine fld_n Z (i := 2) 1 (by decide) (((p17.same s35).same s58).same z65) (by rfl) (by rfl) (by rfl) (by decide) fun u69 e70 => ?_
      refine ⟨by show 2 ≤ sizeLine; decide, fun t71 nt => ?_⟩
      have s72 := same_new nt (o := .tup [u67, u69])
      clear nt
      refine ⟨by show 4 ≤ sizeLine; decide, fun t73 nt => ?_⟩
      have s74 := same_new nt (o := .tup [.ref x9, .ref x63, .ref t71, .str "held"])
      clear nt
      refine ⟨by show 1 ≤ sizeLine; decide, fun l75 nl _ => ?_⟩
      have s76 := same_new nl (o := .lst [.ref t73])
      clear nl
      refine ⟨l56, l75, r57, [.ref t73], rfl, rfl, (s76 _ _ (s74 _ _ (s72 _ _ (z65 _ _ a60)))), upd_same, ?_, fun l77 nl => ?_⟩
      · have e := Paired.length p61
        rw [e]
        show 3 ≤ sizeLine
        decide
      have s78 := same_new nl (o := .lst (r57 ++ [.ref t73]))
      exact ⟨l77, r57 ++ [.ref t73], rfl, (z65.trans (s72.trans (s74.trans (s76.trans s78)))), upd_same, (rows_app (Rows.same (z65.trans (s72.trans (s74.trans (s76.trans s78)))) p61) (.cons ⟨t73, x9, x63, t71, rfl, (s78 _ _ (s76 _ _ upd_same)), (((p17.same s35).same s58).same (z65.trans (s72.trans (s74.trans (s76.trans s78))))), (h64.same (s72.trans (s74.trans (s76.trans s78)))), .tup (s78 _ _ (s76 _ _ (s74 _ _ upd_same))) (.cons ((e68.same (s72.trans (s74.trans (s76.trans s78))))) (.cons ((e70.same (s72.trans (s74.trans (s76.trans s78))))) .nil))⟩ .nil))⟩
    rintro σ' H82 ⟨l79, r80, rfl, s81, a83, p84⟩
    have y85 : Same H H82 := y62.trans s81
    refine ⟨fun σ' H' => ∃ x86 x90 x94, σ' = [some v0, some v1, some (.ref x86), some (.ref x90), some (.ref x94), some (.ref l79)] ∧ Same H82 H' ∧ Pap (c 9) (nsP 9) (wdP 9) ([d0, d1].map (fx 7)) H' x86 ∧ Pap (c 10) (nsP 10) (wdP 10) ([d0, d1].map (fx 7)) H' x90 ∧ Pap (c 14) (nsP 14) (wdP 14) ([d0, d1].map (fx 7)) H' x94, ?_, ?_⟩
    · refine ⟨v0, rfl, v1, rfl, fun x86 dx nx ndx nex => ?_⟩
      refine mk_sub (ps := [v0, v1]) (ds := [d0, d1]) (A2.same y85) S2 rfl nx ndx fun H89 h87 z88 => ⟨rfl, ?_⟩
      clear nx ndx nex
      refine ⟨v0, rfl, v1, rfl, fun x90 dx nx ndx nex => ?_⟩
      refine mk_sub (ps := [v0, v1]) (ds := [d0, d1]) (A2.same (y85.trans z88)) S2 rfl nx ndx fun H93 h91 z92 => ⟨rfl, ?_⟩
      clear nx ndx nex
      refine ⟨v0, rfl, v1, rfl, fun x94 dx nx ndx nex => ?_⟩
      refine mk_sub (ps := [v0, v1]) (ds := [d0, d1]) (A2.same (y85.trans (z88.trans z92))) S2 rfl nx ndx fun H97 h95 z96 => ⟨rfl, ?_⟩
      clear nx ndx nex
      exact ⟨.ref x86, .ref x90, .ref x94, rfl, x86, x90, x94, rfl, (z88.trans (z92.trans z96)), (h87.same (z92.trans z96)), (h91.same z96), h95⟩
    rintro σ' H98 ⟨x86, x90, x94, rfl, s99, p100, p101, p102⟩
    have y103 : Same H H98 := y85.trans s99
    refine ⟨fun σ' H' => ∃ l120 r121, σ' = [some v0, some v1, some (.ref x86), some (.ref x90), some (.ref x94), some (.ref l120)] ∧ Same H98 H' ∧ H' l120 = some (.lst r121) ∧ Rows c ([d0, d1].map (fx 7)) H' r121 [21, 23, 2, 9], ?_, ?_⟩
    · refine ⟨.ref l79, rfl, ?_⟩
      refine ⟨.ref x86, rfl, ?_⟩
      refine ⟨v1, rfl, v0, rfl, rfl, rfl, fun x104 dx nx ndx nex => ?_⟩
      refine mk_sub (ps := [v0, v1]) (ds := [d0, d1]) (A2.same y103) S2 rfl nx ndx fun H107 h105 z106 => ⟨rfl, ?_⟩
      clear nx ndx nex
      refine fld_n Z (i := 9) 0 (by decide) (p100.same z106) (by rfl) (by rfl) (by rfl) (by decide) fun u108 e109 => ?_
      refine fld_n Z (i := 9) 1 (by decide) (p100.same z106) (by rfl) (by rfl) (by rfl) (by decide) fun u110 e111 => ?_
      refine ⟨by show 2 ≤ sizeLine; decide, fun t112 nt => ?_⟩
      have s113 := same_new nt (o := .tup [u108, u110])
      clear nt
      refine ⟨by show 4 ≤ sizeLine; decide, fun t114 nt => ?_⟩
      have s115 := same_new nt (o := .tup [.ref x86, .ref x104, .ref t112, .str "broken"])
      clear nt
      refine ⟨by show 1 ≤ sizeLine; decide, fun l116 nl _ => ?_⟩
      have s117 := same_new nl (o := .lst [.ref t114])
      clear nl
      refine ⟨l79, l116, r80, [.ref t114], rfl, rfl, (s117 _ _ (s115 _ _ (s113 _ _ (z106 _ _ (s99 _ _ a83))))), upd_same, ?_, fun l118 nl => ?_⟩
      · have e := Paired.length (Rows.same s99 p84)
        rw [e]
        show 4 ≤ sizeLine
        decide
      have s119 := same_new nl (o := .lst (r80 ++ [.ref t114]))
      exact ⟨l118, r80 ++ [.ref t114], rfl, (z106.trans (s113.trans (s115.trans (s117.trans s119)))), upd_same, (rows_app (Rows.same (z106.trans (s113.trans (s115.trans (s117.trans s119)))) (Rows.same s99 p84)) (.cons ⟨t114, x86, x104, t112, rfl, (s119 _ _ (s117 _ _ upd_same)), (p100.same (z106.trans (s113.trans (s115.trans (s117.trans s119))))), (h105.same (s113.trans (s115.trans (s117.trans s119)))), .tup (s119 _ _ (s117 _ _ (s115 _ _ upd_same))) (.cons ((e109.same (s113.trans (s115.trans (s117.trans s119))))) (.cons ((e111.same (s113.trans (s115.trans (s117.trans s119))))) .nil))⟩ .nil))⟩
    rintro σ' H123 ⟨l120, r121, rfl, s122, a124, p125⟩
    have y126 : Same H H123 := y103.trans s122
    refine ⟨fun σ' H' => ∃ l143 r144, σ' = [some v0, some v1, some (.ref x86), some (.ref x90), some (.ref x94), some (.ref l143)] ∧ Same H123 H' ∧ H' l143 = some (.lst r144) ∧ Rows c ([d0, d1].map (fx 7)) H' r144 [21, 23, 2, 9, 10], ?_, ?_⟩
    · refine ⟨.ref l120, rfl, ?_⟩
      refine ⟨.ref x90, rfl, ?_⟩
      refine ⟨v1, rfl, v0, rfl, rfl, rfl, fun x127 dx nx ndx nex => ?_⟩
      refine mk_sub (ps := [v0, v1]) (ds := [d0, d1]) (A2.same y126) S2 rfl nx ndx fun H130 h128 z129 => ⟨rfl, ?_⟩
      clear nx ndx nex
      refine fld_n Z (i := 10) 0 (by decide) ((p101.same s122).same z129) (by rfl) (by rfl) (by rfl) (by decide) fun u131 e132 => ?_
      refine fld_n Z (i := 10) 1 (by decide) ((p101.same s122).same z129) (by rfl) (by rfl) (by rfl) (by decide) fun u133 e134 => ?_
      refine ⟨by show 2 ≤ sizeLine; decide, fun t135 nt => ?_⟩
      have s136 := same_new nt (o := .tup [u131, u133])
      clear nt
      refine ⟨by show 4 ≤ sizeLine; decide, fun t137 nt => ?_⟩
      have s138 := same_new nt (o := .tup [.ref x90, .ref x127, .ref t135, .str "uncovered"])
      clear nt
      refine ⟨by show 1 ≤ sizeLine; decide, fun l139 nl _ => ?_⟩
      have s140 := same_new nl (o := .lst [.ref t137])
      clear nl
      refine ⟨l120, l139, r121, [.ref t137], rfl, rfl, (s140 _ _ (s138 _ _ (s136 _ _ (z129 _ _ a124)))), upd_same, ?_, fun l141 nl => ?_⟩
      · have e := Paired.length p125
        rw [e]
        show 5 ≤ sizeLine
        decide
      have s142 := same_new nl (o := .lst (r121 ++ [.ref t137]))
      exact ⟨l141, r121 ++ [.ref t137], rfl, (z129.trans (s136.trans (s138.trans (s140.trans s142)))), upd_same, (rows_app (Rows.same (z129.trans (s136.trans (s138.trans (s140.trans s142)))) p125) (.cons ⟨t137, x90, x127, t135, rfl, (s142 _ _ (s140 _ _ upd_same)), ((p101.same s122).same (z129.trans (s136.trans (s138.trans (s140.trans s142))))), (h128.same (s136.trans (s138.trans (s140.trans s142)))), .tup (s142 _ _ (s140 _ _ (s138 _ _ upd_same))) (.cons ((e132.same (s136.trans (s138.trans (s140.trans s142))))) (.cons ((e134.same (s136.trans (s138.trans (s140.trans s142))))) .nil))⟩ .nil))⟩
    rintro σ' H146 ⟨l143, r144, rfl, s145, a147, p148⟩
    have y149 : Same H H146 := y126.trans s145
    refine ⟨fun σ' H' => ∃ l166 r167, σ' = [some v0, some v1, some (.ref x86), some (.ref x90), some (.ref x94), some (.ref l166)] ∧ Same H146 H' ∧ H' l166 = some (.lst r167) ∧ Rows c ([d0, d1].map (fx 7)) H' r167 [21, 23, 2, 9, 10, 14], ?_, ?_⟩
    · refine ⟨.ref l143, rfl, ?_⟩
      refine ⟨.ref x94, rfl, ?_⟩
      refine ⟨v1, rfl, v0, rfl, rfl, rfl, fun x150 dx nx ndx nex => ?_⟩
      refine mk_sub (ps := [v0, v1]) (ds := [d0, d1]) (A2.same y149) S2 rfl nx ndx fun H153 h151 z152 => ⟨rfl, ?_⟩
      clear nx ndx nex
      refine fld_n Z (i := 14) 0 (by decide) (((p102.same s122).same s145).same z152) (by rfl) (by rfl) (by rfl) (by decide) fun u154 e155 => ?_
      refine fld_n Z (i := 14) 1 (by decide) (((p102.same s122).same s145).same z152) (by rfl) (by rfl) (by rfl) (by decide) fun u156 e157 => ?_
      refine ⟨by show 2 ≤ sizeLine; decide, fun t158 nt => ?_⟩
      have s159 := same_new nt (o := .tup [u154, u156])
      clear nt
      refine ⟨by show 4 ≤ sizeLine; decide, fun t160 nt => ?_⟩
      have s161 := same_new nt (o := .tup [.ref x94, .ref x150, .ref t158, .str "refusal"])
      clear nt
      refine ⟨by show 1 ≤ sizeLine; decide, fun l162 nl _ => ?_⟩
      have s163 := same_new nl (o := .lst [.ref t160])
      clear nl
      refine ⟨l143, l162, r144, [.ref t160], rfl, rfl, (s163 _ _ (s161 _ _ (s159 _ _ (z152 _ _ a147)))), upd_same, ?_, fun l164 nl => ?_⟩
      · have e := Paired.length p148
        rw [e]
        show 6 ≤ sizeLine
        decide
      have s165 := same_new nl (o := .lst (r144 ++ [.ref t160]))
      exact ⟨l164, r144 ++ [.ref t160], rfl, (z152.trans (s159.trans (s161.trans (s163.trans s165)))), upd_same, (rows_app (Rows.same (z152.trans (s159.trans (s161.trans (s163.trans s165)))) p148) (.cons ⟨t160, x94, x150, t158, rfl, (s165 _ _ (s163 _ _ upd_same)), (((p102.same s122).same s145).same (z152.trans (s159.trans (s161.trans (s163.trans s165))))), (h151.same (s159.trans (s161.trans (s163.trans s165)))), .tup (s165 _ _ (s163 _ _ (s161 _ _ upd_same))) (.cons ((e155.same (s159.trans (s161.trans (s163.trans s165))))) (.cons ((e157.same (s159.trans (s161.trans (s163.trans s165))))) .nil))⟩ .nil))⟩
    rintro σ' H169 ⟨l166, r167, rfl, s168, a170, p171⟩
    have y172 : Same H H169 := y149.trans s168
    refine ⟨fun σ' H' => ∃ x173 x177 x181, σ' = [some v0, some v1, some (.ref x173), some (.ref x177), some (.ref x181), some (.ref l166)] ∧ Same H169 H' ∧ Pap (c 12) (nsP 12) (wdP 12) ([d0, d1].map (fx 7)) H' x173 ∧ Pap (c 29) (nsP 29) (wdP 29) ([d0, d1].map (fx 7)) H' x177 ∧ Pap (c 28) (nsP 28) (wdP 28) ([d0, d1].map (fx 7)) H' x181, ?_, ?_⟩
    · refine ⟨v0, rfl, v1, rfl, fun x173 dx nx ndx nex => ?_⟩
      refine mk_sub (ps := [v0, v1]) (ds := [d0, d1]) (A2.same y172) S2 rfl nx ndx fun H176 h174 z175 => ⟨rfl, ?_⟩
      clear nx ndx nex
      refine ⟨v0, rfl, v1, rfl, fun x177 dx nx ndx nex => ?_⟩
      refine mk_sub (ps := [v0, v1]) (ds := [d0, d1]) (A2.same (y172.trans z175)) S2 rfl nx ndx fun H180 h178 z179 => ⟨rfl, ?_⟩
      clear nx ndx nex
      refine ⟨v0, rfl, v1, rfl, fun x181 dx nx ndx nex => ?_⟩
      refine mk_sub (ps := [v0, v1]) (ds := [d0, d1]) (A2.same (y172.trans (z175.trans z179))) S2 rfl nx ndx fun H184 h182 z183 => ⟨rfl, ?_⟩
      clear nx ndx nex
      exact ⟨.ref x173, .ref x177, .ref x181, rfl, x173, x177, x181, rfl, (z175.trans (z179.trans z183)), (h174.same (z179.trans z183)), (h178.same z183), h182⟩
    rintro σ' H185 ⟨x173, x177, x181, rfl, s186, p187, p188, p189⟩
    have y190 : Same H H185 := y172.trans s186
    refine ⟨fun σ' H' => ∃ l207 r208, σ' = [some v0, some v1, some (.ref x173), some (.ref x177), some (.ref x181), some (.ref l207)] ∧ Same H185 H' ∧ H' l207 = some (.lst r208) ∧ Rows c ([d0, d1].map (fx 7)) H' r208 [21, 23, 2, 9, 10, 14, 12], ?_, ?_⟩
    · refine ⟨.ref l166, rfl, ?_⟩
      refine ⟨.ref x173, rfl, ?_⟩
      refine ⟨v1, rfl, v0, rfl, rfl, rfl, fun x191 dx nx ndx nex => ?_⟩
      refine mk_sub (ps := [v0, v1]) (ds := [d0, d1]) (A2.same y190) S2 rfl nx ndx fun H194 h192 z193 => ⟨rfl, ?_⟩
      clear nx ndx nex
      refine fld_n Z (i := 12) 0 (by decide) (p187.same z193) (by rfl) (by rfl) (by rfl) (by decide) fun u195 e196 => ?_
      refine fld_n Z (i := 12) 1 (by decide) (p187.same z193) (by rfl) (by rfl) (by rfl) (by decide) fun u197 e198 => ?_
      refine ⟨by show 2 ≤ sizeLine; decide, fun t199 nt => ?_⟩
      have s200 := same_new nt (o := .tup [u195, u197])
      clear nt
      refine ⟨by show 4 ≤ sizeLine; decide, fun t201 nt => ?_⟩
      have s202 := same_new nt (o := .tup [.ref x173, .ref x191, .ref t199, .str "ring"])
      clear nt
      refine ⟨by show 1 ≤ sizeLine; decide, fun l203 nl _ => ?_⟩
      have s204 := same_new nl (o := .lst [.ref t201])
      clear nl
      refine ⟨l166, l203, r167, [.ref t201], rfl, rfl, (s204 _ _ (s202 _ _ (s200 _ _ (z193 _ _ (s186 _ _ a170))))), upd_same, ?_, fun l205 nl => ?_⟩
      · have e := Paired.length (Rows.same s186 p171)
        rw [e]
        show 7 ≤ sizeLine
        decide
      have s206 := same_new nl (o := .lst (r167 ++ [.ref t201]))
      exact ⟨l205, r167 ++ [.ref t201], rfl, (z193.trans (s200.trans (s202.trans (s204.trans s206)))), upd_same, (rows_app (Rows.same (z193.trans (s200.trans (s202.trans (s204.trans s206)))) (Rows.same s186 p171)) (.cons ⟨t201, x173, x191, t199, rfl, (s206 _ _ (s204 _ _ upd_same)), (p187.same (z193.trans (s200.trans (s202.trans (s204.trans s206))))), (h192.same (s200.trans (s202.trans (s204.trans s206)))), .tup (s206 _ _ (s204 _ _ (s202 _ _ upd_same))) (.cons ((e196.same (s200.trans (s202.trans (s204.trans s206))))) (.cons ((e198.same (s200.trans (s202.trans (s204.trans s206))))) .nil))⟩ .nil))⟩
    rintro σ' H210 ⟨l207, r208, rfl, s209, a211, p212⟩
    have y213 : Same H H210 := y190.trans s209
    refine ⟨fun σ' H' => ∃ l230 r231, σ' = [some v0, some v1, some (.ref x173), some (.ref x177), some (.ref x181), some (.ref l230)] ∧ Same H210 H' ∧ H' l230 = some (.lst r231) ∧ Rows c ([d0, d1].map (fx 7)) H' r231 [21, 23, 2, 9, 10, 14, 12, 29], ?_, ?_⟩
    · refine ⟨.ref l207, rfl, ?_⟩
      refine ⟨.ref x177, rfl, ?_⟩
      refine ⟨v1, rfl, v0, rfl, rfl, rfl, fun x214 dx nx ndx nex => ?_⟩
      refine mk_sub (ps := [v0, v1]) (ds := [d0, d1]) (A2.same y213) S2 rfl nx ndx fun H217 h215 z216 => ⟨rfl, ?_⟩
      clear nx ndx nex
      refine fld_n Z (i := 29) 0 (by decide) ((p188.same s209).same z216) (by rfl) (by rfl) (by rfl) (by decide) fun u218 e219 => ?_
      refine fld_n Z (i := 29) 1 (by decide) ((p188.same s209).same z216) (by rfl) (by rfl) (by rfl) (by decide) fun u220 e221 => ?_
      refine ⟨by show 2 ≤ sizeLine; decide, fun t222 nt => ?_⟩
      have s223 := same_new nt (o := .tup [u218, u220])
      clear nt
      refine ⟨by show 4 ≤ sizeLine; decide, fun t224 nt => ?_⟩
      have s225 := same_new nt (o := .tup [.ref x177, .ref x214, .ref t222, .str "sightfront"])
      clear nt
      refine ⟨by show 1 ≤ sizeLine; decide, fun l226 nl _ => ?_⟩
      have s227 := same_new nl (o := .lst [.ref t224])
      clear nl
      refine ⟨l207, l226, r208, [.ref t224], rfl, rfl, (s227 _ _ (s225 _ _ (s223 _ _ (z216 _ _ a211)))), upd_same, ?_, fun l228 nl => ?_⟩
      · have e := Paired.length p212
        rw [e]
        show 8 ≤ sizeLine
        decide
      have s229 := same_new nl (o := .lst (r208 ++ [.ref t224]))
      exact ⟨l228, r208 ++ [.ref t224], rfl, (z216.trans (s223.trans (s225.trans (s227.trans s229)))), upd_same, (rows_app (Rows.same (z216.trans (s223.trans (s225.trans (s227.trans s229)))) p212) (.cons ⟨t224, x177, x214, t222, rfl, (s229 _ _ (s227 _ _ upd_same)), ((p188.same s209).same (z216.trans (s223.trans (s225.trans (s227.trans s229))))), (h215.same (s223.trans (s225.trans (s227.trans s229)))), .tup (s229 _ _ (s227 _ _ (s225 _ _ upd_same))) (.cons ((e219.same (s223.trans (s225.trans (s227.trans s229))))) (.cons ((e221.same (s223.trans (s225.trans (s227.trans s229))))) .nil))⟩ .nil))⟩
    rintro σ' H233 ⟨l230, r231, rfl, s232, a234, p235⟩
    have y236 : Same H H233 := y213.trans s232
    refine ⟨fun σ' H' => ∃ l253 r254, σ' = [some v0, some v1, some (.ref x173), some (.ref x177), some (.ref x181), some (.ref l253)] ∧ Same H233 H' ∧ H' l253 = some (.lst r254) ∧ Rows c ([d0, d1].map (fx 7)) H' r254 [21, 23, 2, 9, 10, 14, 12, 29, 28], ?_, ?_⟩
    · refine ⟨.ref l230, rfl, ?_⟩
      refine ⟨.ref x181, rfl, ?_⟩
      refine ⟨v1, rfl, v0, rfl, rfl, rfl, fun x237 dx nx ndx nex => ?_⟩
      refine mk_sub (ps := [v0, v1]) (ds := [d0, d1]) (A2.same y236) S2 rfl nx ndx fun H240 h238 z239 => ⟨rfl, ?_⟩
      clear nx ndx nex
      refine fld_n Z (i := 28) 0 (by decide) (((p189.same s209).same s232).same z239) (by rfl) (by rfl) (by rfl) (by decide) fun u241 e242 => ?_
      refine fld_n Z (i := 28) 1 (by decide) (((p189.same s209).same s232).same z239) (by rfl) (by rfl) (by rfl) (by decide) fun u243 e244 => ?_
      refine ⟨by show 2 ≤ sizeLine; decide, fun t245 nt => ?_⟩
      have s246 := same_new nt (o := .tup [u241, u243])
      clear nt
      refine ⟨by show 4 ≤ sizeLine; decide, fun t247 nt => ?_⟩
      have s248 := same_new nt (o := .tup [.ref x181, .ref x237, .ref t245, .str "promisefront"])
      clear nt
      refine ⟨by show 1 ≤ sizeLine; decide, fun l249 nl _ => ?_⟩
      have s250 := same_new nl (o := .lst [.ref t247])
      clear nl
      refine ⟨l230, l249, r231, [.ref t247], rfl, rfl, (s250 _ _ (s248 _ _ (s246 _ _ (z239 _ _ a234)))), upd_same, ?_, fun l251 nl => ?_⟩
      · have e := Paired.length p235
        rw [e]
        show 9 ≤ sizeLine
        decide
      have s252 := same_new nl (o := .lst (r231 ++ [.ref t247]))
      exact ⟨l251, r231 ++ [.ref t247], rfl, (z239.trans (s246.trans (s248.trans (s250.trans s252)))), upd_same, (rows_app (Rows.same (z239.trans (s246.trans (s248.trans (s250.trans s252)))) p235) (.cons ⟨t247, x181, x237, t245, rfl, (s252 _ _ (s250 _ _ upd_same)), (((p189.same s209).same s232).same (z239.trans (s246.trans (s248.trans (s250.trans s252))))), (h238.same (s246.trans (s248.trans (s250.trans s252)))), .tup (s252 _ _ (s250 _ _ (s248 _ _ upd_same))) (.cons ((e242.same (s246.trans (s248.trans (s250.trans s252))))) (.cons ((e244.same (s246.trans (s248.trans (s250.trans s252))))) .nil))⟩ .nil))⟩
    rintro σ' H256 ⟨l253, r254, rfl, s255, a257, p258⟩
    have y259 : Same H H256 := y236.trans s255
    refine ⟨fun σ' H' => ∃ x260, σ' = [some v0, some v1, some (.ref x260), some (.ref x177), some (.ref x181), some (.ref l253)] ∧ Same H256 H' ∧ Pap (c 33) (nsP 33) (wdP 33) ([d0, d1].map (fx 7)) H' x260, ?_, ?_⟩
    · refine ⟨v0, rfl, v1, rfl, fun x260 dx nx ndx nex => ?_⟩
      refine mk_sub (ps := [v0, v1]) (ds := [d0, d1]) (A2.same y259) S2 rfl nx ndx fun H263 h261 z262 => ⟨rfl, ?_⟩
      clear nx ndx nex
      exact ⟨x260, rfl, z262, h261⟩
    rintro σ' H264 ⟨x260, rfl, s265, p266⟩
    have y267 : Same H H264 := y259.trans s265
    refine ⟨.ref l253, rfl, ?_⟩
    refine ⟨.ref x260, rfl, ?_⟩
    refine ⟨v1, rfl, v0, rfl, rfl, rfl, fun x268 dx nx ndx nex => ?_⟩
    refine mk_sub (ps := [v0, v1]) (ds := [d0, d1]) (A2.same y267) S2 rfl nx ndx fun H271 h269 z270 => ⟨rfl, ?_⟩
    clear nx ndx nex
    refine fld_n Z (i := 33) 0 (by decide) (p266.same z270) (by rfl) (by rfl) (by rfl) (by decide) fun u272 e273 => ?_
    refine fld_n Z (i := 33) 1 (by decide) (p266.same z270) (by rfl) (by rfl) (by rfl) (by decide) fun u274 e275 => ?_
    refine ⟨by show 2 ≤ sizeLine; decide, fun t276 nt => ?_⟩
    have s277 := same_new nt (o := .tup [u272, u274])
    clear nt
    refine ⟨by show 4 ≤ sizeLine; decide, fun t278 nt => ?_⟩
    have s279 := same_new nt (o := .tup [.ref x260, .ref x268, .ref t276, .str "unfirm"])
    clear nt
    refine ⟨by show 1 ≤ sizeLine; decide, fun l280 nl _ => ?_⟩
    have s281 := same_new nl (o := .lst [.ref t278])
    clear nl
    refine ⟨l253, l280, r254, [.ref t278], rfl, rfl, (s281 _ _ (s279 _ _ (s277 _ _ (z270 _ _ (s265 _ _ a257))))), upd_same, ?_, fun l282 nl => ?_⟩
    · have e := Paired.length (Rows.same s265 p258)
      rw [e]
      show 10 ≤ sizeLine
      decide
    have s283 := same_new nl (o := .lst (r254 ++ [.ref t278]))
    exact q l282 (r254 ++ [.ref t278]) _ (y267.trans (z270.trans (s277.trans (s279.trans (s281.trans s283))))) upd_same (rows_app (Rows.same (z270.trans (s277.trans (s279.trans (s281.trans s283)))) (Rows.same s265 p258)) (.cons ⟨t278, x260, x268, t276, rfl, (s283 _ _ (s281 _ _ upd_same)), (p266.same (z270.trans (s277.trans (s279.trans (s281.trans s283))))), (h269.same (s277.trans (s279.trans (s281.trans s283)))), .tup (s283 _ _ (s281 _ _ (s279 _ _ upd_same))) (.cons ((e273.same (s277.trans (s279.trans (s281.trans s283))))) (.cons ((e275.same (s277.trans (s279.trans (s281.trans s283))))) .nil))⟩ .nil))
end
end K56

set_option Elab.async false
set_option linter.all false
set_option maxRecDepth 100000
set_option maxHeartbeats 4000000
namespace K56
open PySem PySem.Spec PyProof.Rows L2 Gd NdefX
section
variable {P : Program} {w : World} {K : PySem.W.Frag} {mg : Str → Option Value} {base : Heap} {c f cc cda : Nat → Addr} {fE fB : Addr}
theorem ok_threes (T : Txt K mg) (Z : Tz P K mg c f cc cda fE fB) (G_fixed : C8.Cal P w K mg base 9 "fixed" (spF 9) []) : Gd.Cal P w K mg base 14 "_law_threes" (spThrees c) := by
  obtain ⟨fp, fd, F, b⟩ := T.d_law_threes
  refine cal F b sc_law_threes (fun vs H Q E h => ?_) (fun cdv A outer s H vs Q E hgd hr h => ?_)
  · obtain ⟨v0, v1, v2, d0, d1, d2, rfl, _⟩ := h
    rfl
  · have nd := sc_law_threes.nd
    have M_3 := m_3 (w := w) (base := base) Z G_fixed
    have M_5 := m_5 (w := w) (base := base) Z G_fixed
    have M_8 := m_8 (w := w) (base := base) Z G_fixed
    have M_11 := m_11 (w := w) (base := base) Z G_fixed
    have M_13 := m_13 (w := w) (base := base) Z G_fixed
    have M_17 := m_17 (w := w) (base := base) Z G_fixed
    have M_19 := m_19 (w := w) (base := base) Z G_fixed
    have M_24 := m_24 (w := w) (base := base) Z G_fixed
    have M_26 := m_26 (w := w) (base := base) Z G_fixed
    have M_27 := m_27 (w := w) (base := base) Z G_fixed
    have M_31 := m_31 (w := w) (base := base) Z G_fixed
    have M_32 := m_32 (w := w) (base := base) Z G_fixed
    have M_34 := m_34 (w := w) (base := base) Z G_fixed
    have M_3K := m_3K (w := w) (base := base) Z G_fixed
    have M_5K := m_5K (w := w) (base := base) Z G_fixed
    have M_8K := m_8K (w := w) (base := base) Z G_fixed
    have M_11K := m_11K (w := w) (base := base) Z G_fixed
    have M_13K := m_13K (w := w) (base := base) Z G_fixed
    have M_17K := m_17K (w := w) (base := base) Z G_fixed
    have M_19K := m_19K (w := w) (base := base) Z G_fixed
    have M_24K := m_24K (w := w) (base := base) Z G_fixed
    have M_26K := m_26K (w := w) (base := base) Z G_fixed
    have M_27K := m_27K (w := w) (base := base) Z G_fixed
    have M_31K := m_31K (w := w) (base := base) Z G_fixed
    have M_32K := m_32K (w := w) (base := base) Z G_fixed
    have M_34K := m_34K (w := w) (base := base) Z G_fixed
    obtain ⟨v0, v1, v2, d0, d1, d2, rfl, hd0, hd1, hd2, hs0, hs1, hs2, q⟩ := h
    have A1 : DqAll H [v0] [d0] := .cons hd0 .nil
    have S1 : ∀ d ∈ [d0], Sh 7 d := by
      intro d hd
      simp only [List.mem_cons, List.not_mem_nil, or_false] at hd
      rcases hd with rfl <;> first | exact hs0.le (by decide)
    have A2 : DqAll H [v0, v1] [d0, d1] := .cons hd0 (.cons hd1 .nil)
    have S2 : ∀ d ∈ [d0, d1], Sh 7 d := by
      intro d hd
      simp only [List.mem_cons, List.not_mem_nil, or_false] at hd
      rcases hd with rfl | rfl <;> first | exact hs0.le (by decide) | exact hs1.le (by decide)
    have A3 : DqAll H [v0, v1, v2] [d0, d1, d2] := .cons hd0 (.cons hd1 (.cons hd2 .nil))
    have S3 : ∀ d ∈ [d0, d1, d2], Sh 7 d := by
      intro d hd
      simp only [List.mem_cons, List.not_mem_nil, or_false] at hd
      rcases hd with rfl | rfl | rfl <;> first | exact hs0.le (by decide) | exact hs1.le (by decide) | exact hs2.le (by decide)
    refine ⟨_, (C8.pss_cut (ps_par3 (i := 3) (j := 4) (l := 5) rfl nd rfl rfl rfl (by decide) (by decide) (by decide) rfl rfl rfl (pa_cons (pe_mkR M_3 hr (by omega) (by rfl) (pa_cons (pv 0) (pa_cons (pv 1) (pa_cons (pv 2) pa_nil)))) (pa_cons (pe_mkR M_8 hr (by omega) (by rfl) (pa_cons (pv 0) (pa_cons (pv 1) (pa_cons (pv 2) pa_nil)))) (pa_cons (pe_mkR M_19 hr (by omega) (by rfl) (pa_cons (pv 0) (pa_cons (pv 1) (pa_cons (pv 2) pa_nil)))) pa_nil))) rfl)
      (C8.pss_cut (ps_set (i := 6) nd rfl (.inl rfl) (pe_lstX (pa_cons (pe_tup (pa_cons (pv 3) (pa_cons (pe_mkK0 M_3K hr (by omega) (by rfl) (pk_cons (pv 2) (pk_cons (pv 0) (pk_cons (pv 1) pk_nil)))) (pa_cons (pe_tup (pa_cons (pe_fld (pv 3) rfl) (pa_cons (pe_fld (pv 3) rfl) (pa_cons (pe_fld (pv 3) rfl) pa_nil)))) (pa_cons pe_str pa_nil))))) pa_nil)))
      (C8.pss_cut (ps_set (i := 6) nd rfl (.inl rfl) (pe_op op_cat (pv 6) (pe_lstX (pa_cons (pe_tup (pa_cons (pv 4) (pa_cons (pe_mkK0 M_8K hr (by omega) (by rfl) (pk_cons (pv 2) (pk_cons (pv 1) (pk_cons (pv 0) pk_nil)))) (pa_cons (pe_tup (pa_cons (pe_fld (pv 4) rfl) (pa_cons (pe_fld (pv 4) rfl) (pa_cons (pe_fld (pv 4) rfl) pa_nil)))) (pa_cons pe_str pa_nil))))) pa_nil))))
      (C8.pss_cut (ps_set (i := 6) nd rfl (.inl rfl) (pe_op op_cat (pv 6) (pe_lstX (pa_cons (pe_tup (pa_cons (pv 5) (pa_cons (pe_mkK0 M_19K hr (by omega) (by rfl) (pk_cons (pv 2) (pk_cons (pv 1) (pk_cons (pv 0) pk_nil)))) (pa_cons (pe_tup (pa_cons (pe_fld (pv 5) rfl) (pa_cons (pe_fld (pv 5) rfl) (pa_cons (pe_fld (pv 5) rfl) pa_nil)))) (pa_cons pe_str pa_nil))))) pa_nil))))
      (C8.pss_cut (ps_par3 (i := 3) (j := 4) (l := 5) rfl nd rfl rfl rfl (by decide) (by decide) (by decide) rfl rfl rfl (pa_cons (pe_mkR M_13 hr (by omega) (by rfl) (pa_cons (pv 0) (pa_cons (pv 1) (pa_cons (pv 2) pa_nil)))) (pa_cons (pe_mkR M_24 hr (by omega) (by rfl) (pa_cons (pv 0) (pa_cons (pv 1) (pa_cons (pv 2) pa_nil)))) (pa_cons (pe_mkR M_5 hr (by omega) (by rfl) (pa_cons (pv 0) (pa_cons (pv 1) (pa_cons (pv 2) pa_nil)))) pa_nil))) rfl)
      (C8.pss_cut (ps_set (i := 6) nd rfl (.inl rfl) (pe_op op_cat (pv 6) (pe_lstX (pa_cons (pe_tup (pa_cons (pv 3) (pa_cons (pe_mkK0 M_13K hr (by omega) (by rfl) (pk_cons (pv 2) (pk_cons (pv 1) (pk_cons (pv 0) pk_nil)))) (pa_cons (pe_tup (pa_cons (pe_fld (pv 3) rfl) (pa_cons (pe_fld (pv 3) rfl) (pa_cons (pe_fld (pv 3) rfl) pa_nil)))) (pa_cons pe_str pa_nil))))) pa_nil))))
      (C8.pss_cut (ps_set (i := 6) nd rfl (.inl rfl) (pe_op op_cat (pv 6) (pe_lstX (pa_cons (pe_tup (pa_cons (pv 4) (pa_cons (pe_mkK0 M_24K hr (by omega) (by rfl) (pk_cons (pv 2) (pk_cons (pv 0) (pk_cons (pv 1) pk_nil)))) (pa_cons (pe_tup (pa_cons (pe_fld (pv 4) rfl) (pa_cons (pe_fld (pv 4) rfl) (pa_cons (pe_fld (pv 4) rfl) pa_nil)))) (pa_cons pe_str pa_nil))))) pa_nil))))
      (C8.pss_cut (ps_set (i := 6) nd rfl (.inl rfl) (pe_op op_cat (pv 6) (pe_lstX (pa_cons (pe_tup (pa_cons (pv 5) (pa_cons (pe_mkK0 M_5K hr (by omega) (by rfl) (pk_cons (pv 2) (pk_cons (pv 1) (pk_cons (pv 0) pk_nil)))) (pa_cons (pe_tup (pa_cons (pe_fld (pv 5) rfl) (pa_cons (pe_fld (pv 5) rfl) (pa_cons (pe_fld (pv 5) rfl) pa_nil)))) (pa_cons pe_str pa_nil))))) pa_nil))))
      (C8.pss_cut (ps_par3 (i := 3) (j := 4) (l := 5) rfl nd rfl rfl rfl (by decide) (by decide) (by decide) rfl rfl rfl (pa_cons (pe_mkR M_11 hr (by omega) (by rfl) (pa_cons (pv 0) (pa_cons (pv 1) (pa_cons (pv 2) pa_nil)))) (pa_cons (pe_mkR M_26 hr (by omega) (by rfl) (pa_cons (pv 0) (pa_cons (pv 1) (pa_cons (pv 2) pa_nil)))) (pa_cons (pe_mkR M_17 hr (by omega) (by rfl) (pa_cons (pv 0) (pa_cons (pv 1) (pa_cons (pv 2) pa_nil)))) pa_nil))) rfl)
      (C8.pss_cut (ps_set (i := 6) nd rfl (.inl rfl) (pe_op op_cat (pv 6) (pe_lstX (pa_cons (pe_tup (pa_cons (pv 3) (pa_cons (pe_mkK0 M_11K hr (by omega) (by rfl) (pk_cons (pv 2) (pk_cons (pv 1) (pk_cons (pv 0) pk_nil)))) (pa_cons (pe_tup (pa_cons (pe_fld (pv 3) rfl) (pa_cons (pe_fld (pv 3) rfl) (pa_cons (pe_fld (pv 3) rfl) pa_nil)))) (pa_cons pe_str pa_nil))))) pa_nil))))
      (C8.pss_cut (ps_set (i := 6) nd rfl (.inl rfl) (pe_op op_cat (pv 6) (pe_lstX (pa_cons (pe_tup (pa_cons (pv 4) (pa_cons (pe_mkK0 M_26K hr (by omega) (by rfl) (pk_cons (pv 2) (pk_cons (pv 1) (pk_cons (pv 0) pk_nil)))) (pa_cons (pe_tup (pa_cons (pe_fld (pv 4) rfl) (pa_cons (pe_fld (pv 4) rfl) (pa_cons (pe_fld (pv 4) rfl) pa_nil)))) (pa_cons pe_str pa_nil))))) pa_nil))))
      (C8.pss_cut (ps_set (i := 6) nd rfl (.inl rfl) (pe_op op_cat (pv 6) (pe_lstX (pa_cons (pe_tup (pa_cons (pv 5) (pa_cons (pe_mkK0 M_17K hr (by omega) (by rfl) (pk_cons (pv 2) (pk_cons (pv 1) (pk_cons (pv 0) pk_nil)))) (pa_cons (pe_tup (pa_cons (pe_fld (pv 5) rfl) (pa_cons (pe_fld (pv 5) rfl) (pa_cons (pe_fld (pv 5) rfl) pa_nil)))) (pa_cons pe_str pa_nil))))) pa_nil))))
      (C8.pss_cut (ps_par3 (i := 3) (j := 4) (l := 5) rfl nd rfl rfl rfl (by decide) (by decide) (by decide) rfl rfl rfl (pa_cons (pe_mkR M_27 hr (by omega) (by rfl) (pa_cons (pv 0) (pa_cons (pv 1) (pa_cons (pv 2) pa_nil)))) (pa_cons (pe_mkR M_31 hr (by omega) (by rfl) (pa_cons (pv 0) (pa_cons (pv 1) (pa_cons (pv 2) pa_nil)))) (pa_cons (pe_mkR M_32 hr (by omega) (by rfl) (pa_cons (pv 0) (pa_cons (pv 1) (pa_cons (pv 2) pa_nil)))) pa_nil))) rfl)
      (C8.pss_cut (ps_set (i := 6) nd rfl (.inl rfl) (pe_op op_cat (pv 6) (pe_lstX (pa_cons (pe_tup (pa_cons (pv 3) (pa_cons (pe_mkK0 M_27K hr (by omega) (by rfl) (pk_cons (pv 2) (pk_cons (pv 1) (pk_cons (pv 0) pk_nil)))) (pa_cons (pe_tup (pa_cons (pe_fld (pv 3) rfl) (pa_cons (pe_fld (pv 3) rfl) (pa_cons (pe_fld (pv 3) rfl) pa_nil)))) (pa_cons pe_str pa_nil))))) pa_nil))))
      (C8.pss_cut (ps_set (i := 6) nd rfl (.inl rfl) (pe_op op_cat (pv 6) (pe_lstX (pa_cons (pe_tup (pa_cons (pv 4) (pa_cons (pe_mkK0 M_31K hr (by omega) (by rfl) (pk_cons (pv 2) (pk_cons (pv 1) (pk_cons (pv 0) pk_nil)))) (pa_cons (pe_tup (pa_cons (pe_fld (pv 4) rfl) (pa_cons (pe_fld (pv 4) rfl) (pa_cons (pe_fld (pv 4) rfl) pa_nil)))) (pa_cons pe_str pa_nil))))) pa_nil))))
      (C8.pss_cut (ps_set (i := 6) nd rfl (.inl rfl) (pe_op op_cat (pv 6) (pe_lstX (pa_cons (pe_tup (pa_cons (pv 5) (pa_cons (pe_mkK0 M_32K hr (by omega) (by rfl) (pk_cons (pv 2) (pk_cons (pv 1) (pk_cons (pv 0) pk_nil)))) (pa_cons (pe_tup (pa_cons (pe_fld (pv 5) rfl) (pa_cons (pe_fld (pv 5) rfl) (pa_cons (pe_fld (pv 5) rfl) pa_nil)))) (pa_cons pe_str pa_nil))))) pa_nil))))
      (C8.pss_cut (ps_set (i := 3) nd rfl (.inl rfl) (pe_mkR M_34 hr (by omega) (by rfl) (pa_cons (pv 0) (pa_cons (pv 1) (pa_cons (pv 2) pa_nil)))))
      (pss_one (ps_ret (pe_op op_cat (pv 6) (pe_lstX (pa_cons (pe_tup (pa_cons (pv 3) (pa_cons (pe_mkK0 M_34K hr (by omega) (by rfl) (pk_cons (pv 2) (pk_cons (pv 1) (pk_cons (pv 0) pk_nil)))) (pa_cons (pe_tup (pa_cons (pe_fld (pv 3) rfl) (pa_cons (pe_fld (pv 3) rfl) (pa_cons (pe_fld (pv 3) rfl) pa_nil)))) (pa_cons pe_str pa_nil))))) pa_nil)))))))))))))))))))))), ?_⟩
    refine ⟨fun σ' H' => ∃ x1 x5 x9, σ' = [some v0, some v1, some v2, some (.ref x1), some (.ref x5), some (.ref x9), none] ∧ Same H H' ∧ Pap (c 3) (nsP 3) (wdP 3) ([d0, d1, d2].map (fx 7)) H' x1 ∧ Pap (c 8) (nsP 8) (wdP 8) ([d0, d1, d2].map (fx 7)) H' x5 ∧ Pap (c 19) (nsP 19) (wdP 19) ([d0, d1, d2].map (fx 7)) H' x9, ?_, ?_⟩
    · refine ⟨v0, rfl, v1, rfl, v2, rfl, fun x1 dx nx ndx nex => ?_⟩
      refine mk_sub (ps := [v0, v1, v2]) (ds := [d0, d1, d2]) A3 S3 rfl nx ndx fun H4 h2 z3 => ⟨rfl, ?_⟩
      clear nx ndx nex
      refine ⟨v0, rfl, v1, rfl, v2, rfl, fun x5 dx nx ndx nex => ?_⟩
      refine mk_sub (ps := [v0, v1, v2]) (ds := [d0, d1, d2]) (A3.same z3) S3 rfl nx ndx fun H8 h6 z7 => ⟨rfl, ?_⟩
      clear nx ndx nex
      refine ⟨v0, rfl, v1, rfl, v2, rfl, fun x9 dx nx ndx nex => ?_⟩
      refine mk_sub (ps := [v0, v1, v2]) (ds := [d0, d1, d2]) (A3.same (z3.trans z7)) S3 rfl nx ndx fun H12 h10 z11 => ⟨rfl, ?_⟩
      clear nx ndx nex
      exact ⟨.ref x1, .ref x5, .ref x9, rfl, x1, x5, x9, rfl, (z3.trans (z7.trans z11)), (h2.same (z7.trans z11)), (h6.same z11), h10⟩
    rintro σ' H13 ⟨x1, x5, x9, rfl, s14, p15, p16, p17⟩
    have y18 : Same H H13 := s14
    refine ⟨fun σ' H' => ∃ l35 r36, σ' = [some v0, some v1, some v2, some (.ref x1), some (.ref x5), some (.ref x9), some (.ref l35)] ∧ Same H13 H' ∧ H' l35 = some (.lst r36) ∧ Rows c ([d0, d1, d2].map (fx 7)) H' r36 [3], ?_, ?_⟩
    · refine ⟨.ref x1, rfl, ?_⟩
      refine ⟨v2, rfl, v0, rfl, v1, rfl, rfl, rfl, fun x19 dx nx ndx nex => ?_⟩
      refine mk_sub (ps := [v0, v1, v2]) (ds := [d0, d1, d2]) (A3.same y18) S3 rfl nx ndx fun H22 h20 z21 => ⟨rfl, ?_⟩
      clear nx ndx nex
      refine fld_n Z (i := 3) 0 (by decide) (p15.same z21) (by rfl) (by rfl) (by rfl) (by decide) fun u23 e24 => ?_
      refine fld_n Z (i := 3) 1 (by decide) (p15.same z21) (by rfl) (by rfl) (by rfl) (by decide) fun u25 e26 => ?_
      refine fld_n Z (i := 3) 2 (by decide) (p15.same z21) (by rfl) (by rfl) (by rfl) (by decide) fun u27 e28 => ?_
      refine ⟨by show 3 ≤ sizeLine; decide, fun t29 nt => ?_⟩
      have s30 := same_new nt (o := .tup [u23, u25, u27])
      clear nt
      refine ⟨by show 4 ≤ sizeLine; decide, fun t31 nt => ?_⟩
      have s32 := same_new nt (o := .tup [.ref x1, .ref x19, .ref t29, .str "lost"])
      clear nt
      refine ⟨by show 1 ≤ sizeLine; decide, fun l33 nl _ => ?_⟩
      have s34 := same_new nl (o := .lst [.ref t31])
      clear nl
      exact ⟨l33, [.ref t31], rfl, (z21.trans (s30.trans (s32.trans s34))), upd_same, (.cons ⟨t31, x1, x19, t29, rfl, (s34 _ _ upd_same), (p15.same (z21.trans (s30.trans (s32.trans s34)))), (h20.same (s30.trans (s32.trans s34))), .tup (s34 _ _ (s32 _ _ upd_same)) (.cons ((e24.same (s30.trans (s32.trans s34)))) (.cons ((e26.same (s30.trans (s32.trans s34)))) (.cons ((e28.same (s30.trans (s32.trans s34)))) .nil)))⟩ .nil)⟩
    rintro σ' H38 ⟨l35, r36, rfl, s37, a39, p40⟩
    have y41 : Same H H38 := y18.trans s37
    refine ⟨fun σ' H' => ∃ l60 r61, σ' = [some v0, some v1, some v2, some (.ref x1), some (.ref x5), some (.ref x9), some (.ref l60)] ∧ Same H38 H' ∧ H' l60 = some (.lst r61) ∧ Rows c ([d0, d1, d2].map (fx 7)) H' r61 [3, 8], ?_, ?_⟩
    · refine ⟨.ref l35, rfl, ?_⟩
      refine ⟨.ref x5, rfl, ?_⟩
      refine ⟨v2, rfl, v1, rfl, v0, rfl, rfl, rfl, fun x42 dx nx ndx nex => ?_⟩
      refine mk_sub (ps := [v0, v1, v2]) (ds := [d0, d1, d2]) (A3.same y41) S3 rfl nx ndx fun H45 h43 z44 => ⟨rfl, ?_⟩
      clear nx ndx nex
      refine fld_n Z (i := 8) 0 (by decide) ((p16.same s37).same z44) (by rfl) (by rfl) (by rfl) (by decide) fun u46 e47 => ?_
      refine fld_n Z (i := 8) 1 (by decide) ((p16.same s37).same z44) (by rfl) (by rfl) (by rfl) (by decide) fun u48 e49 => ?_
      refine fld_n Z (i := 8) 2 (by decide) ((p16.same s37).same z44) (by rfl) (by rfl) (by rfl) (by decide) fun u50 e51 => ?_
      refine ⟨by show 3 ≤ sizeLine; decide, fun t52 nt => ?_⟩
      have s53 := same_new nt (o := .tup [u46, u48, u50])
      clear nt
      refine ⟨by show 4 ≤ sizeLine; decide, fun t54 nt => ?_⟩
      have s55 := same_new nt (o := .tup [.ref x5, .ref x42, .ref t52, .str "lacks"])
      clear nt
      refine ⟨by show 1 ≤ sizeLine; decide, fun l56 nl _ => ?_⟩
      have s57 := same_new nl (o := .lst [.ref t54])
      clear nl
      refine ⟨l35, l56, r36, [.ref t54], rfl, rfl, (s57 _ _ (s55 _ _ (s53 _ _ (z44 _ _ a39)))), upd_same, ?_, fun l58 nl => ?_⟩
      · have e := Paired.length p40
        rw [e]
        show 2 ≤ sizeLine
        decide
      have s59 := same_new nl (o := .lst (r36 ++ [.ref t54]))
      exact ⟨l58, r36 ++ [.ref t54], rfl, (z44.trans (s53.trans (s55.trans (s57.trans s59)))), upd_same, (rows_app (Rows.same (z44.trans (s53.trans (s55.trans (s57.trans s59)))) p40) (.cons ⟨t54, x5, x42, t52, rfl, (s59 _ _ (s57 _ _ upd_same)), ((p16.same s37).same (z44.trans (s53.trans (s55.trans (s57.trans s59))))), (h43.same (s53.trans (s55.trans (s57.trans s59)))), .tup (s59 _ _ (s57 _ _ (s55 _ _ upd_same))) (.cons ((e47.same (s53.trans (s55.trans (s57.trans s59))))) (.cons ((e49.same (s53.trans (s55.trans (s57.trans s59))))) (.cons ((e51.same (s53.trans (s55.trans (s57.trans s59))))) .nil)))⟩ .nil))⟩
    rintro σ' H63 ⟨l60, r61, rfl, s62, a64, p65⟩
    have y66 : Same H H63 := y41.trans s62
    refine ⟨fun σ' H' => ∃ l85 r86, σ' = [some v0, some v1, some v2, some (.ref x1), some (.ref x5), some (.ref x9), some (.ref l85)] ∧ Same H63 H' ∧ H' l85 = some (.lst r86) ∧ Rows c ([d0, d1, d2].map (fx 7)) H' r86 [3, 8, 19], ?_, ?_⟩
    · refine ⟨.ref l60, rfl, ?_⟩
      refine ⟨.ref x9, rfl, ?_⟩
      refine ⟨v2, rfl, v1, rfl, v0, rfl, rfl, rfl, fun x67 dx nx ndx nex => ?_⟩
      refine mk_sub (ps := [v0, v1, v2]) (ds := [d0, d1, d2]) (A3.same y66) S3 rfl nx ndx fun H70 h68 z69 => ⟨rfl, ?_⟩
      clear nx ndx nex
      refine fld_n Z (i := 19) 0 (by decide) (((p17.same s37).same s62).same z69) (by rfl) (by rfl) (by rfl) (by decide) fun u71 e72 => ?_
      refine fld_n Z (i := 19) 1 (by decide) (((p17.same s37).same s62).same z69) (by rfl) (by rfl) (by rfl) (by decide) fun u73 e74 => ?_
      refine fld_n Z (i := 19) 2 (by decide) (((p17.same s37).same s62).same z69) (by rfl) (by rfl) (by rfl) (by decide) fun u75 e76 => ?_
      refine ⟨by show 3 ≤ sizeLine; decide, fun t77 nt => ?_⟩
      have s78 := same_new nt (o := .tup [u71, u73, u75])
      clear nt
      refine ⟨by show 4 ≤ sizeLine; decide, fun t79 nt => ?_⟩
      have s80 := same_new nt (o := .tup [.ref x9, .ref x67, .ref t77, .str "dropped"])
      clear nt
      refine ⟨by show 1 ≤ sizeLine; decide, fun l81 nl _ => ?_⟩
      have s82 := same_new nl (o := .lst [.ref t79])
      clear nl
      refine ⟨l60, l81, r61, [.ref t79], rfl, rfl, (s82 _ _ (s80 _ _ (s78 _ _ (z69 _ _ a64)))), upd_same, ?_, fun l83 nl => ?_⟩
      · have e := Paired.length p65
        rw [e]
        show 3 ≤ sizeLine
        decide
      have s84 := same_new nl (o := .lst (r61 ++ [.ref t79]))
      exact ⟨l83, r61 ++ [.ref t79], rfl, (z69.trans (s78.trans (s80.trans (s82.trans s84)))), upd_same, (rows_app (Rows.same (z69.trans (s78.trans (s80.trans (s82.trans s84)))) p65) (.cons ⟨t79, x9, x67, t77, rfl, (s84 _ _ (s82 _ _ upd_same)), (((p17.same s37).same s62).same (z69.trans (s78.trans (s80.trans (s82.trans s84))))), (h68.same (s78.trans (s80.trans (s82.trans s84)))), .tup (s84 _ _ (s82 _ _ (s80 _ _ upd_same))) (.cons ((e72.same (s78.trans (s80.trans (s82.trans s84))))) (.cons ((e74.same (s78.trans (s80.trans (s82.trans s84))))) (.cons ((e76.same (s78.trans (s80.trans (s82.trans s84))))) .nil)))⟩ .nil))⟩
    rintro σ' H88 ⟨l85, r86, rfl, s87, a89, p90⟩
    have y91 : Same H H88 := y66.trans s87
    refine ⟨fun σ' H' => ∃ x92 x96 x100, σ' = [some v0, some v1, some v2, some (.ref x92), some (.ref x96), some (.ref x100), some (.ref l85)] ∧ Same H88 H' ∧ Pap (c 13) (nsP 13) (wdP 13) ([d0, d1, d2].map (fx 7)) H' x92 ∧ Pap (c 24) (nsP 24) (wdP 24) ([d0, d1, d2].map (fx 7)) H' x96 ∧ Pap (c 5) (nsP 5) (wdP 5) ([d0, d1, d2].map (fx 7)) H' x100, ?_, ?_⟩
    · refine ⟨v0, rfl, v1, rfl, v2, rfl, fun x92 dx nx ndx nex => ?_⟩
      refine mk_sub (ps := [v0, v1, v2]) (ds := [d0, d1, d2]) (A3.same y91) S3 rfl nx ndx fun H95 h93 z94 => ⟨rfl, ?_⟩
      clear nx ndx nex
      refine ⟨v0, rfl, v1, rfl, v2, rfl, fun x96 dx nx ndx nex => ?_⟩
      refine mk_sub (ps := [v0, v1, v2]) (ds := [d0, d1, d2]) (A3.same (y91.trans z94)) S3 rfl nx ndx fun H99 h97 z98 => ⟨rfl, ?_⟩
      clear nx ndx nex
      refine ⟨v0, rfl, v1, rfl, v2, rfl, fun x100 dx nx ndx nex => ?_⟩
      refine mk_sub (ps := [v0, v1, v2]) (ds := [d0, d1, d2]) (A3.same (y91.trans (z94.trans z98))) S3 rfl nx ndx fun H103 h101 z102 => ⟨rfl, ?_⟩
      clear nx ndx nex
      exact ⟨.ref x92, .ref x96, .ref x100, rfl, x92, x96, x100, rfl, (z94.trans (z98.trans z102)), (h93.same (z98.trans z102)), (h97.same z102), h101⟩
    rintro σ' H104 ⟨x92, x96, x100, rfl, s105, p106, p107, p108⟩
    have y109 : Same H H104 := y91.trans s105
    refine ⟨fun σ' H' => ∃ l128 r129, σ' = [some v0, some v1, some v2, some (.ref x92), some (.ref x96), some (.ref x100), some (.ref l128)] ∧ Same H104 H' ∧ H' l128 = some (.lst r129) ∧ Rows c ([d0, d1, d2].map (fx 7)) H' r129 [3, 8, 19, 13], ?_, ?_⟩
    · refine ⟨.ref l85, rfl, ?_⟩
      refine ⟨.ref x92, rfl, ?_⟩
      refine ⟨v2, rfl, v1, rfl, v0, rfl, rfl, rfl, fun x110 dx nx ndx nex => ?_⟩
      refine mk_sub (ps := [v0, v1, v2]) (ds := [d0, d1, d2]) (A3.same y109) S3 rfl nx ndx fun H113 h111 z112 => ⟨rfl, ?_⟩
      clear nx ndx nex
      refine fld_n Z (i := 13) 0 (by decide) (p106.same z112) (by rfl) (by rfl) (by rfl) (by decide) fun u114 e115 => ?_
      refine fld_n Z (i := 13) 1 (by decide) (p106.same z112) (by rfl) (by rfl) (by rfl) (by decide) fun u116 e117 => ?_
      refine fld_n Z (i := 13) 2 (by decide) (p106.same z112) (by rfl) (by rfl) (by rfl) (by decide) fun u118 e119 => ?_
      refine ⟨by show 3 ≤ sizeLine; decide, fun t120 nt => ?_⟩
      have s121 := same_new nt (o := .tup [u114, u116, u118])
      clear nt
      refine ⟨by show 4 ≤ sizeLine; decide, fun t122 nt => ?_⟩
      have s123 := same_new nt (o := .tup [.ref x92, .ref x110, .ref t120, .str "kept"])
      clear nt
      refine ⟨by show 1 ≤ sizeLine; decide, fun l124 nl _ => ?_⟩
      have s125 := same_new nl (o := .lst [.ref t122])
      clear nl
      refine ⟨l85, l124, r86, [.ref t122], rfl, rfl, (s125 _ _ (s123 _ _ (s121 _ _ (z112 _ _ (s105 _ _ a89))))), upd_same, ?_, fun l126 nl => ?_⟩
      · have e := Paired.length (Rows.same s105 p90)
        rw [e]
        show 4 ≤ sizeLine
        decide
      have s127 := same_new nl (o := .lst (r86 ++ [.ref t122]))
      exact ⟨l126, r86 ++ [.ref t122], rfl, (z112.trans (s121.trans (s123.trans (s125.trans s127)))), upd_same, (rows_app (Rows.same (z112.trans (s121.trans (s123.trans (s125.trans s127)))) (Rows.same s105 p90)) (.cons ⟨t122, x92, x110, t120, rfl, (s127 _ _ (s125 _ _ upd_same)), (p106.same (z112.trans (s121.trans (s123.trans (s125.trans s127))))), (h111.same (s121.trans (s123.trans (s125.trans s127)))), .tup (s127 _ _ (s125 _ _ (s123 _ _ upd_same))) (.cons ((e115.same (s121.trans (s123.trans (s125.trans s127))))) (.cons ((e117.same (s121.trans (s123.trans (s125.trans s127))))) (.cons ((e119.same (s121.trans (s123.trans (s125.trans s127))))) .nil)))⟩ .nil))⟩
    rintro σ' H131 ⟨l128, r129, rfl, s130, a132, p133⟩
    have y134 : Same H H131 := y109.trans s130
    refine ⟨fun σ' H' => ∃ l153 r154, σ' = [some v0, some v1, some v2, some (.ref x92), some (.ref x96), some (.ref x100), some (.ref l153)] ∧ Same H131 H' ∧ H' l153 = some (.lst r154) ∧ Rows c ([d0, d1, d2].map (fx 7)) H' r154 [3, 8, 19, 13, 24], ?_, ?_⟩
    · refine ⟨.ref l128, rfl, ?_⟩
      refine ⟨.ref x96, rfl, ?_⟩
      refine ⟨v2, rfl, v0, rfl, v1, rfl, rfl, rfl, fun x135 dx nx ndx nex => ?_⟩
      refine mk_sub (ps := [v0, v1, v2]) (ds := [d0, d1, d2]) (A3.same y134) S3 rfl nx ndx fun H138 h136 z137 => ⟨rfl, ?_⟩
      clear nx ndx nex
      refine fld_n Z (i := 24) 0 (by decide) ((p107.same s130).same z137) (by rfl) (by rfl) (by rfl) (by decide) fun u139 e140 => ?_
      refine fld_n Z (i := 24) 1 (by decide) ((p107.same s130).same z137) (by rfl) (by rfl) (by rfl) (by decide) fun u141 e142 => ?_
      refine fld_n Z (i := 24) 2 (by decide) ((p107.same s130).same z137) (by rfl) (by rfl) (by rfl) (by decide) fun u143 e144 => ?_
      refine ⟨by show 3 ≤ sizeLine; decide, fun t145 nt => ?_⟩
      have s146 := same_new nt (o := .tup [u139, u141, u143])
      clear nt
      refine ⟨by show 4 ≤ sizeLine; decide, fun t147 nt => ?_⟩
      have s148 := same_new nt (o := .tup [.ref x96, .ref x135, .ref t145, .str "least"])
      clear nt
      refine ⟨by show 1 ≤ sizeLine; decide, fun l149 nl _ => ?_⟩
      have s150 := same_new nl (o := .lst [.ref t147])
      clear nl
      refine ⟨l128, l149, r129, [.ref t147], rfl, rfl, (s150 _ _ (s148 _ _ (s146 _ _ (z137 _ _ a132)))), upd_same, ?_, fun l151 nl => ?_⟩
      · have e := Paired.length p133
        rw [e]
        show 5 ≤ sizeLine
        decide
      have s152 := same_new nl (o := .lst (r129 ++ [.ref t147]))
      exact ⟨l151, r129 ++ [.ref t147], rfl, (z137.trans (s146.trans (s148.trans (s150.trans s152)))), upd_same, (rows_app (Rows.same (z137.trans (s146.trans (s148.trans (s150.trans s152)))) p133) (.cons ⟨t147, x96, x135, t145, rfl, (s152 _ _ (s150 _ _ upd_same)), ((p107.same s130).same (z137.trans (s146.trans (s148.trans (s150.trans s152))))), (h136.same (s146.trans (s148.trans (s150.trans s152)))), .tup (s152 _ _ (s150 _ _ (s148 _ _ upd_same))) (.cons ((e140.same (s146.trans (s148.trans (s150.trans s152))))) (.cons ((e142.same (s146.trans (s148.trans (s150.trans s152))))) (.cons ((e144.same (s146.trans (s148.trans (s150.trans s152))))) .nil)))⟩ .nil))⟩
    rintro σ' H156 ⟨l153, r154, rfl, s155, a157, p158⟩
    have y159 : Same H H156 := y134.trans s155
    refine ⟨fun σ' H' => ∃ l178 r179, σ' = [some v0, some v1, some v2, some (.ref x92), some (.ref x96), some (.ref x100), some (.ref l178)] ∧ Same H156 H' ∧ H' l178 = some (.lst r179) ∧ Rows c ([d0, d1, d2].map (fx 7)) H' r179 [3, 8, 19, 13, 24, 5], ?_, ?_⟩
    · refine ⟨.ref l153, rfl, ?_⟩
      refine ⟨.ref x100, rfl, ?_⟩
      refine ⟨v2, rfl, v1, rfl, v0, rfl, rfl, rfl, fun x160 dx nx ndx nex => ?_⟩
      refine mk_sub (ps := [v0, v1, v2]) (ds := [d0, d1, d2]) (A3.same y159) S3 rfl nx ndx fun H163 h161 z162 => ⟨rfl, ?_⟩
      clear nx ndx nex
      refine fld_n Z (i := 5) 0 (by decide) (((p108.same s130).same s155).same z162) (by rfl) (by rfl) (by rfl) (by decide) fun u164 e165 => ?_
      refine fld_n Z (i := 5) 1 (by decide) (((p108.same s130).same s155).same z162) (by rfl) (by rfl) (by rfl) (by decide) fun u166 e167 => ?_
      refine fld_n Z (i := 5) 2 (by decide) (((p108.same s130).same s155).same z162) (by rfl) (by rfl) (by rfl) (by decide) fun u168 e169 => ?_
      refine ⟨by show 3 ≤ sizeLine; decide, fun t170 nt => ?_⟩
      have s171 := same_new nt (o := .tup [u164, u166, u168])
      clear nt
      refine ⟨by show 4 ≤ sizeLine; decide, fun t172 nt => ?_⟩
      have s173 := same_new nt (o := .tup [.ref x100, .ref x160, .ref t170, .str "parting"])
      clear nt
      refine ⟨by show 1 ≤ sizeLine; decide, fun l174 nl _ => ?_⟩
      have s175 := same_new nl (o := .lst [.ref t172])
      clear nl
      refine ⟨l153, l174, r154, [.ref t172], rfl, rfl, (s175 _ _ (s173 _ _ (s171 _ _ (z162 _ _ a157)))), upd_same, ?_, fun l176 nl => ?_⟩
      · have e := Paired.length p158
        rw [e]
        show 6 ≤ sizeLine
        decide
      have s177 := same_new nl (o := .lst (r154 ++ [.ref t172]))
      exact ⟨l176, r154 ++ [.ref t172], rfl, (z162.trans (s171.trans (s173.trans (s175.trans s177)))), upd_same, (rows_app (Rows.same (z162.trans (s171.trans (s173.trans (s175.trans s177)))) p158) (.cons ⟨t172, x100, x160, t170, rfl, (s177 _ _ (s175 _ _ upd_same)), (((p108.same s130).same s155).same (z162.trans (s171.trans (s173.trans (s175.trans s177))))), (h161.same (s171.trans (s173.trans (s175.trans s177)))), .tup (s177 _ _ (s175 _ _ (s173 _ _ upd_same))) (.cons ((e165.same (s171.trans (s173.trans (s175.trans s177))))) (.cons ((e167.same (s171.trans (s173.trans (s175.trans s177))))) (.cons ((e169.same (s171.trans (s173.trans (s175.trans s177))))) .nil)))⟩ .nil))⟩
    rintro σ' H181 ⟨l178, r179, rfl, s180, a182, p183⟩
    have y184 : Same H H181 := y159.trans s180
    refine ⟨fun σ' H' => ∃ x185 x189 x193, σ' = [some v0, some v1, some v2, some (.ref x185), some (.ref x189), some (.ref x193), some (.ref l178)] ∧ Same H181 H' ∧ Pap (c 11) (nsP 11) (wdP 11) ([d0, d1, d2].map (fx 7)) H' x185 ∧ Pap (c 26) (nsP 26) (wdP 26) ([d0, d1, d2].map (fx 7)) H' x189 ∧ Pap (c 17) (nsP 17) (wdP 17) ([d0, d1, d2].map (fx 7)) H' x193, ?_, ?_⟩
    · refine ⟨v0, rfl, v1, rfl, v2, rfl, fun x185 dx nx ndx nex => ?_⟩
      refine mk_sub (ps := [v0, v1, v2]) (ds := [d0, d1, d2]) (A3.same y184) S3 rfl nx ndx fun H188 h186 z187 => ⟨rfl, ?_⟩
      clear nx ndx nex
      refine ⟨v0, rfl, v1, rfl, v2, rfl, fun x189 dx nx ndx nex => ?_⟩
      refine mk_sub (ps := [v0, v1, v2]) (ds := [d0, d1, d2]) (A3.same (y184.trans z187)) S3 rfl nx ndx fun H192 h190 z191 => ⟨rfl, ?_⟩
      clear nx ndx nex
      refine ⟨v0, rfl, v1, rfl, v2, rfl, fun x193 dx nx ndx nex => ?_⟩
      refine mk_sub (ps := [v0, v1, v2]) (ds := [d0, d1, d2]) (A3.same (y184.trans (z187.trans z191))) S3 rfl nx ndx fun H196 h194 z195 => ⟨rfl, ?_⟩
      clear nx ndx nex
      exact ⟨.ref x185, .ref x189, .ref x193, rfl, x185, x189, x193, rfl, (z187.trans (z191.trans z195)), (h186.same (z191.trans z195)), (h190.same z195), h194⟩
    rintro σ' H197 ⟨x185, x189, x193, rfl, s198, p199, p200, p201⟩
    have y202 : Same H H197 := y184.trans s198
    refine ⟨fun σ' H' => ∃ l221 r222, σ' = [some v0, some v1, some v2, some (.ref x185), some (.ref x189), some (.ref x193), some (.ref l221)] ∧ Same H197 H' ∧ H' l221 = some (.lst r222) ∧ Rows c ([d0, d1, d2].map (fx 7)) H' r222 [3, 8, 19, 13, 24, 5, 11], ?_, ?_⟩
    · refine ⟨.ref l178, rfl, ?_⟩
      refine ⟨.ref x185, rfl, ?_⟩
      refine ⟨v2, rfl, v1, rfl, v0, rfl, rfl, rfl, fun x203 dx nx ndx nex => ?_⟩
      refine mk_sub (ps := [v0, v1, v2]) (ds := [d0, d1, d2]) (A3.same y202) S3 rfl nx ndx fun H206 h204 z205 => ⟨rfl, ?_⟩
      clear nx ndx nex
      refine fld_n Z (i := 11) 0 (by decide) (p199.same z205) (by rfl) (by rfl) (by rfl) (by decide) fun u207 e208 => ?_
      refine fld_n Z (i := 11) 1 (by decide) (p199.same z205) (by rfl) (by rfl) (by rfl) (by decide) fun u209 e210 => ?_
      refine fld_n Z (i := 11) 2 (by decide) (p199.same z205) (by rfl) (by rfl) (by rfl) (by decide) fun u211 e212 => ?_
      refine ⟨by show 3 ≤ sizeLine; decide, fun t213 nt => ?_⟩
      have s214 := same_new nt (o := .tup [u207, u209, u211])
      clear nt
      refine ⟨by show 4 ≤ sizeLine; decide, fun t215 nt => ?_⟩
      have s216 := same_new nt (o := .tup [.ref x185, .ref x203, .ref t213, .str "delay"])
      clear nt
      refine ⟨by show 1 ≤ sizeLine; decide, fun l217 nl _ => ?_⟩
      have s218 := same_new nl (o := .lst [.ref t215])
      clear nl
      refine ⟨l178, l217, r179, [.ref t215], rfl, rfl, (s218 _ _ (s216 _ _ (s214 _ _ (z205 _ _ (s198 _ _ a182))))), upd_same, ?_, fun l219 nl => ?_⟩
      · have e := Paired.length (Rows.same s198 p183)
        rw [e]
        show 7 ≤ sizeLine
        decide
      have s220 := same_new nl (o := .lst (r179 ++ [.ref t215]))
      exact ⟨l219, r179 ++ [.ref t215], rfl, (z205.trans (s214.trans (s216.trans (s218.trans s220)))), upd_same, (rows_app (Rows.same (z205.trans (s214.trans (s216.trans (s218.trans s220)))) (Rows.same s198 p183)) (.cons ⟨t215, x185, x203, t213, rfl, (s220 _ _ (s218 _ _ upd_same)), (p199.same (z205.trans (s214.trans (s216.trans (s218.trans s220))))), (h204.same (s214.trans (s216.trans (s218.trans s220)))), .tup (s220 _ _ (s218 _ _ (s216 _ _ upd_same))) (.cons ((e208.same (s214.trans (s216.trans (s218.trans s220))))) (.cons ((e210.same (s214.trans (s216.trans (s218.trans s220))))) (.cons ((e212.same (s214.trans (s216.trans (s218.trans s220))))) .nil)))⟩ .nil))⟩
    rintro σ' H224 ⟨l221, r222, rfl, s223, a225, p226⟩
    have y227 : Same H H224 := y202.trans s223
    refine ⟨fun σ' H' => ∃ l246 r247, σ' = [some v0, some v1, some v2, some (.ref x185), some (.ref x189), some (.ref x193), some (.ref l246)] ∧ Same H224 H' ∧ H' l246 = some (.lst r247) ∧ Rows c ([d0, d1, d2].map (fx 7)) H' r247 [3, 8, 19, 13, 24, 5, 11, 26], ?_, ?_⟩
    · refine ⟨.ref l221, rfl, ?_⟩
      refine ⟨.ref x189, rfl, ?_⟩
      refine ⟨v2, rfl, v1, rfl, v0, rfl, rfl, rfl, fun x228 dx nx ndx nex => ?_⟩
      refine mk_sub (ps := [v0, v1, v2]) (ds := [d0, d1, d2]) (A3.same y227) S3 rfl nx ndx fun H231 h229 z230 => ⟨rfl, ?_⟩
      clear nx ndx nex
      refine fld_n Z (i := 26) 0 (by decide) ((p200.same s223).same z230) (by rfl) (by rfl) (by rfl) (by decide) fun u232 e233 => ?_
      refine fld_n Z (i := 26) 1 (by decide) ((p200.same s223).same z230) (by rfl) (by rfl) (by rfl) (by decide) fun u234 e235 => ?_
      refine fld_n Z (i := 26) 2 (by decide) ((p200.same s223).same z230) (by rfl) (by rfl) (by rfl) (by decide) fun u236 e237 => ?_
      refine ⟨by show 3 ≤ sizeLine; decide, fun t238 nt => ?_⟩
      have s239 := same_new nt (o := .tup [u232, u234, u236])
      clear nt
      refine ⟨by show 4 ≤ sizeLine; decide, fun t240 nt => ?_⟩
      have s241 := same_new nt (o := .tup [.ref x189, .ref x228, .ref t238, .str "suretime"])
      clear nt
      refine ⟨by show 1 ≤ sizeLine; decide, fun l242 nl _ => ?_⟩
      have s243 := same_new nl (o := .lst [.ref t240])
      clear nl
      refine ⟨l221, l242, r222, [.ref t240], rfl, rfl, (s243 _ _ (s241 _ _ (s239 _ _ (z230 _ _ a225)))), upd_same, ?_, fun l244 nl => ?_⟩
      · have e := Paired.length p226
        rw [e]
        show 8 ≤ sizeLine
        decide
      have s245 := same_new nl (o := .lst (r222 ++ [.ref t240]))
      exact ⟨l244, r222 ++ [.ref t240], rfl, (z230.trans (s239.trans (s241.trans (s243.trans s245)))), upd_same, (rows_app (Rows.same (z230.trans (s239.trans (s241.trans (s243.trans s245)))) p226) (.cons ⟨t240, x189, x228, t238, rfl, (s245 _ _ (s243 _ _ upd_same)), ((p200.same s223).same (z230.trans (s239.trans (s241.trans (s243.trans s245))))), (h229.same (s239.trans (s241.trans (s243.trans s245)))), .tup (s245 _ _ (s243 _ _ (s241 _ _ upd_same))) (.cons ((e233.same (s239.trans (s241.trans (s243.trans s245))))) (.cons ((e235.same (s239.trans (s241.trans (s243.trans s245))))) (.cons ((e237.same (s239.trans (s241.trans (s243.trans s245))))) .nil)))⟩ .nil))⟩
    rintro σ' H249 ⟨l246, r247, rfl, s248, a250, p251⟩
    have y252 : Same H H249 := y227.trans s248
    refine ⟨fun σ' H' => ∃ l271 r272, σ' = [some v0, some v1, some v2, some (.ref x185), some (.ref x189), some (.ref x193), some (.ref l271)] ∧ Same H249 H' ∧ H' l271 = some (.lst r272) ∧ Rows c ([d0, d1, d2].map (fx 7)) H' r272 [3, 8, 19, 13, 24, 5, 11, 26, 17], ?_, ?_⟩
    · refine ⟨.ref l246, rfl, ?_⟩
      refine ⟨.ref x193, rfl, ?_⟩
      refine ⟨v2, rfl, v1, rfl, v0, rfl, rfl, rfl, fun x253 dx nx ndx nex => ?_⟩
      refine mk_sub (ps := [v0, v1, v2]) (ds := [d0, d1, d2]) (A3.same y252) S3 rfl nx ndx fun H256 h254 z255 => ⟨rfl, ?_⟩
      clear nx ndx nex
      refine fld_n Z (i := 17) 0 (by decide) (((p201.same s223).same s248).same z255) (by rfl) (by rfl) (by rfl) (by decide) fun u257 e258 => ?_
      refine fld_n Z (i := 17) 1 (by decide) (((p201.same s223).same s248).same z255) (by rfl) (by rfl) (by rfl) (by decide) fun u259 e260 => ?_
      refine fld_n Z (i := 17) 2 (by decide) (((p201.same s223).same s248).same z255) (by rfl) (by rfl) (by rfl) (by decide) fun u261 e262 => ?_
      refine ⟨by show 3 ≤ sizeLine; decide, fun t263 nt => ?_⟩
      have s264 := same_new nt (o := .tup [u257, u259, u261])
      clear nt
      refine ⟨by show 4 ≤ sizeLine; decide, fun t265 nt => ?_⟩
      have s266 := same_new nt (o := .tup [.ref x193, .ref x253, .ref t263, .str "delayfront"])
      clear nt
      refine ⟨by show 1 ≤ sizeLine; decide, fun l267 nl _ => ?_⟩
      have s268 := same_new nl (o := .lst [.ref t265])
      clear nl
      refine ⟨l246, l267, r247, [.ref t265], rfl, rfl, (s268 _ _ (s266 _ _ (s264 _ _ (z255 _ _ a250)))), upd_same, ?_, fun l269 nl => ?_⟩
      · have e := Paired.length p251
        rw [e]
        show 9 ≤ sizeLine
        decide
      have s270 := same_new nl (o := .lst (r247 ++ [.ref t265]))
      exact ⟨l269, r247 ++ [.ref t265], rfl, (z255.trans (s264.trans (s266.trans (s268.trans s270)))), upd_same, (rows_app (Rows.same (z255.trans (s264.trans (s266.trans (s268.trans s270)))) p251) (.cons ⟨t265, x193, x253, t263, rfl, (s270 _ _ (s268 _ _ upd_same)), (((p201.same s223).same s248).same (z255.trans (s264.trans (s266.trans (s268.trans s270))))), (h254.same (s264.trans (s266.trans (s268.trans s270)))), .tup (s270 _ _ (s268 _ _ (s266 _ _ upd_same))) (.cons ((e258.same (s264.trans (s266.trans (s268.trans s270))))) (.cons ((e260.same (s264.trans (s266.trans (s268.trans s270))))) (.cons ((e262.same (s264.trans (s266.trans (s268.trans s270))))) .nil)))⟩ .nil))⟩
    rintro σ' H274 ⟨l271, r272, rfl, s273, a275, p276⟩
    have y277 : Same H H274 := y252.trans s273
    refine ⟨fun σ' H' => ∃ x278 x282 x286, σ' = [some v0, some v1, some v2, some (.ref x278), some (.ref x282), some (.ref x286), some (.ref l271)] ∧ Same H274 H' ∧ Pap (c 27) (nsP 27) (wdP 27) ([d0, d1, d2].map (fx 7)) H' x278 ∧ Pap (c 31) (nsP 31) (wdP 31) ([d0, d1, d2].map (fx 7)) H' x282 ∧ Pap (c 32) (nsP 32) (wdP 32) ([d0, d1, d2].map (fx 7)) H' x286, ?_, ?_⟩
    · refine ⟨v0, rfl, v1, rfl, v2, rfl, fun x278 dx nx ndx nex => ?_⟩
      refine mk_sub (ps := [v0, v1, v2]) (ds := [d0, d1, d2]) (A3.same y277) S3 rfl nx ndx fun H281 h279 z280 => ⟨rfl, ?_⟩
      clear nx ndx nex
      refine ⟨v0, rfl, v1, rfl, v2, rfl, fun x282 dx nx ndx nex => ?_⟩
      refine mk_sub (ps := [v0, v1, v2]) (ds := [d0, d1, d2]) (A3.same (y277.trans z280)) S3 rfl nx ndx fun H285 h283 z284 => ⟨rfl, ?_⟩
      clear nx ndx nex
      refine ⟨v0, rfl, v1, rfl, v2, rfl, fun x286 dx nx ndx nex => ?_⟩
      refine mk_sub (ps := [v0, v1, v2]) (ds := [d0, d1, d2]) (A3.same (y277.trans (z280.trans z284))) S3 rfl nx ndx fun H289 h287 z288 => ⟨rfl, ?_⟩
      clear nx ndx nex
      exact ⟨.ref x278, .ref x282, .ref x286, rfl, x278, x282, x286, rfl, (z280.trans (z284.trans z288)), (h279.same (z284.trans z288)), (h283.same z288), h287⟩
    rintro σ' H290 ⟨x278, x282, x286, rfl, s291, p292, p293, p294⟩
    have y295 : Same H H290 := y277.trans s291
    refine ⟨fun σ' H' => ∃ l314 r315, σ' = [some v0, some v1, some v2, some (.ref x278), some (.ref x282), some (.ref x286), some (.ref l314)] ∧ Same H290 H' ∧ H' l314 = some (.lst r315) ∧ Rows c ([d0, d1, d2].map (fx 7)) H' r315 [3, 8, 19, 13, 24, 5, 11, 26, 17, 27], ?_, ?_⟩
    · refine ⟨.ref l271, rfl, ?_⟩
      refine ⟨.ref x278, rfl, ?_⟩
      refine ⟨v2, rfl, v1, rfl, v0, rfl, rfl, rfl, fun x296 dx nx ndx nex => ?_⟩
      refine mk_sub (ps := [v0, v1, v2]) (ds := [d0, d1, d2]) (A3.same y295) S3 rfl nx ndx fun H299 h297 z298 => ⟨rfl, ?_⟩
      clear nx ndx nex
      refine fld_n Z (i := 27) 0 (by decide) (p292.same z298) (by rfl) (by rfl) (by rfl) (by decide) fun u300 e301 => ?_
      refine fld_n Z (i := 27) 1 (by decide) (p292.same z298) (by rfl) (by rfl) (by rfl) (by decide) fun u302 e303 => ?_
      refine fld_n Z (i := 27) 2 (by decide) (p292.same z298) (by rfl) (by rfl) (by rfl) (by decide) fun u304 e305 => ?_
      refine ⟨by show 3 ≤ sizeLine; decide, fun t306 nt => ?_⟩
      have s307 := same_new nt (o := .tup [u300, u302, u304])
      clear nt
      refine ⟨by show 4 ≤ sizeLine; decide, fun t308 nt => ?_⟩
      have s309 := same_new nt (o := .tup [.ref x278, .ref x296, .ref t306, .str "momentfront"])
      clear nt
      refine ⟨by show 1 ≤ sizeLine; decide, fun l310 nl _ => ?_⟩
      have s311 := same_new nl (o := .lst [.ref t308])
      clear nl
      refine ⟨l271, l310, r272, [.ref t308], rfl, rfl, (s311 _ _ (s309 _ _ (s307 _ _ (z298 _ _ (s291 _ _ a275))))), upd_same, ?_, fun l312 nl => ?_⟩
      · have e := Paired.length (Rows.same s291 p276)
        rw [e]
        show 10 ≤ sizeLine
        decide
      have s313 := same_new nl (o := .lst (r272 ++ [.ref t308]))
      exact ⟨l312, r272 ++ [.ref t308], rfl, (z298.trans (s307.trans (s309.trans (s311.trans s313)))), upd_same, (rows_app (Rows.same (z298.trans (s307.trans (s309.trans (s311.trans s313)))) (Rows.same s291 p276)) (.cons ⟨t308, x278, x296, t306, rfl, (s313 _ _ (s311 _ _ upd_same)), (p292.same (z298.trans (s307.trans (s309.trans (s311.trans s313))))), (h297.same (s307.trans (s309.trans (s311.trans s313)))), .tup (s313 _ _ (s311 _ _ (s309 _ _ upd_same))) (.cons ((e301.same (s307.trans (s309.trans (s311.trans s313))))) (.cons ((e303.same (s307.trans (s309.trans (s311.trans s313))))) (.cons ((e305.same (s307.trans (s309.trans (s311.trans s313))))) .nil)))⟩ .nil))⟩
    rintro σ' H317 ⟨l314, r315, rfl, s316, a318, p319⟩
    have y320 : Same H H317 := y295.trans s316
    refine ⟨fun σ' H' => ∃ l339 r340, σ' = [some v0, some v1, some v2, some (.ref x278), some (.ref x282), some (.ref x286), some (.ref l339)] ∧ Same H317 H' ∧ H' l339 = some (.lst r340) ∧ Rows c ([d0, d1, d2].map (fx 7)) H' r340 [3, 8, 19, 13, 24, 5, 11, 26, 17, 27, 31], ?_, ?_⟩
    · refine ⟨.ref l314, rfl, ?_⟩
      refine ⟨.ref x282, rfl, ?_⟩
      refine ⟨v2, rfl, v1, rfl, v0, rfl, rfl, rfl, fun x321 dx nx ndx nex => ?_⟩
      refine mk_sub (ps := [v0, v1, v2]) (ds := [d0, d1, d2]) (A3.same y320) S3 rfl nx ndx fun H324 h322 z323 => ⟨rfl, ?_⟩
      clear nx ndx nex
      refine fld_n Z (i := 31) 0 (by decide) ((p293.same s316).same z323) (by rfl) (by rfl) (by rfl) (by decide) fun u325 e326 => ?_
      refine fld_n Z (i := 31) 1 (by decide) ((p293.same s316).same z323) (by rfl) (by rfl) (by rfl) (by decide) fun u327 e328 => ?_
      refine fld_n Z (i := 31) 2 (by decide) ((p293.same s316).same z323) (by rfl) (by rfl) (by rfl) (by decide) fun u329 e330 => ?_
      refine ⟨by show 3 ≤ sizeLine; decide, fun t331 nt => ?_⟩
      have s332 := same_new nt (o := .tup [u325, u327, u329])
      clear nt
      refine ⟨by show 4 ≤ sizeLine; decide, fun t333 nt => ?_⟩
      have s334 := same_new nt (o := .tup [.ref x282, .ref x321, .ref t331, .str "slips"])
      clear nt
      refine ⟨by show 1 ≤ sizeLine; decide, fun l335 nl _ => ?_⟩
      have s336 := same_new nl (o := .lst [.ref t333])
      clear nl
      refine ⟨l314, l335, r315, [.ref t333], rfl, rfl, (s336 _ _ (s334 _ _ (s332 _ _ (z323 _ _ a318)))), upd_same, ?_, fun l337 nl => ?_⟩
      · have e := Paired.length p319
        rw [e]
        show 11 ≤ sizeLine
        decide
      have s338 := same_new nl (o := .lst (r315 ++ [.ref t333]))
      exact ⟨l337, r315 ++ [.ref t333], rfl, (z323.trans (s332.trans (s334.trans (s336.trans s338)))), upd_same, (rows_app (Rows.same (z323.trans (s332.trans (s334.trans (s336.trans s338)))) p319) (.cons ⟨t333, x282, x321, t331, rfl, (s338 _ _ (s336 _ _ upd_same)), ((p293.same s316).same (z323.trans (s332.trans (s334.trans (s336.trans s338))))), (h322.same (s332.trans (s334.trans (s336.trans s338)))), .tup (s338 _ _ (s336 _ _ (s334 _ _ upd_same))) (.cons ((e326.same (s332.trans (s334.trans (s336.trans s338))))) (.cons ((e328.same (s332.trans (s334.trans (s336.trans s338))))) (.cons ((e330.same (s332.trans (s334.trans (s336.trans s338))))) .nil)))⟩ .nil))⟩
    rintro σ' H342 ⟨l339, r340, rfl, s341, a343, p344⟩
    have y345 : Same H H342 := y320.trans s341
    refine ⟨fun σ' H' => ∃ l364 r365, σ' = [some v0, some v1, some v2, some (.ref x278), some (.ref x282), some (.ref x286), some (.ref l364)] ∧ Same H342 H' ∧ H' l364 = some (.lst r365) ∧ Rows c ([d0, d1, d2].map (fx 7)) H' r365 [3, 8, 19, 13, 24, 5, 11, 26, 17, 27, 31, 32], ?_, ?_⟩
    · refine ⟨.ref l339, rfl, ?_⟩
      refine ⟨.ref x286, rfl, ?_⟩
      refine ⟨v2, rfl, v1, rfl, v0, rfl, rfl, rfl, fun x346 dx nx ndx nex => ?_⟩
      refine mk_sub (ps := [v0, v1, v2]) (ds := [d0, d1, d2]) (A3.same y345) S3 rfl nx ndx fun H349 h347 z348 => ⟨rfl, ?_⟩
      clear nx ndx nex
      refine fld_n Z (i := 32) 0 (by decide) (((p294.same s316).same s341).same z348) (by rfl) (by rfl) (by rfl) (by decide) fun u350 e351 => ?_
      refine fld_n Z (i := 32) 1 (by decide) (((p294.same s316).same s341).same z348) (by rfl) (by rfl) (by rfl) (by decide) fun u352 e353 => ?_
      refine fld_n Z (i := 32) 2 (by decide) (((p294.same s316).same s341).same z348) (by rfl) (by rfl) (by rfl) (by decide) fun u354 e355 => ?_
      refine ⟨by show 3 ≤ sizeLine; decide, fun t356 nt => ?_⟩
      have s357 := same_new nt (o := .tup [u350, u352, u354])
      clear nt
      refine ⟨by show 4 ≤ sizeLine; decide, fun t358 nt => ?_⟩
      have s359 := same_new nt (o := .tup [.ref x286, .ref x346, .ref t356, .str "firm"])
      clear nt
      refine ⟨by show 1 ≤ sizeLine; decide, fun l360 nl _ => ?_⟩
      have s361 := same_new nl (o := .lst [.ref t358])
      clear nl
      refine ⟨l339, l360, r340, [.ref t358], rfl, rfl, (s361 _ _ (s359 _ _ (s357 _ _ (z348 _ _ a343)))), upd_same, ?_, fun l362 nl => ?_⟩
      · have e := Paired.length p344
        rw [e]
        show 12 ≤ sizeLine
        decide
      have s363 := same_new nl (o := .lst (r340 ++ [.ref t358]))
      exact ⟨l362, r340 ++ [.ref t358], rfl, (z348.trans (s357.trans (s359.trans (s361.trans s363)))), upd_same, (rows_app (Rows.same (z348.trans (s357.trans (s359.trans (s361.trans s363)))) p344) (.cons ⟨t358, x286, x346, t356, rfl, (s363 _ _ (s361 _ _ upd_same)), (((p294.same s316).same s341).same (z348.trans (s357.trans (s359.trans (s361.trans s363))))), (h347.same (s357.trans (s359.trans (s361.trans s363)))), .tup (s363 _ _ (s361 _ _ (s359 _ _ upd_same))) (.cons ((e351.same (s357.trans (s359.trans (s361.trans s363))))) (.cons ((e353.same (s357.trans (s359.trans (s361.trans s363))))) (.cons ((e355.same (s357.trans (s359.trans (s361.trans s363))))) .nil)))⟩ .nil))⟩
    rintro σ' H367 ⟨l364, r365, rfl, s366, a368, p369⟩
    have y370 : Same H H367 := y345.trans s366
    refine ⟨fun σ' H' => ∃ x371, σ' = [some v0, some v1, some v2, some (.ref x371), some (.ref x282), some (.ref x286), some (.ref l364)] ∧ Same H367 H' ∧ Pap (c 34) (nsP 34) (wdP 34) ([d0, d1, d2].map (fx 7)) H' x371, ?_, ?_⟩
    · refine ⟨v0, rfl, v1, rfl, v2, rfl, fun x371 dx nx ndx nex => ?_⟩
      refine mk_sub (ps := [v0, v1, v2]) (ds := [d0, d1, d2]) (A3.same y370) S3 rfl nx ndx fun H374 h372 z373 => ⟨rfl, ?_⟩
      clear nx ndx nex
      exact ⟨x371, rfl, z373, h372⟩
    rintro σ' H375 ⟨x371, rfl, s376, p377⟩
    have y378 : Same H H375 := y370.trans s376
    refine ⟨.ref l364, rfl, ?_⟩
    refine ⟨.ref x371, rfl, ?_⟩
    refine ⟨v2, rfl, v1, rfl, v0, rfl, rfl, rfl, fun x379 dx nx ndx nex => ?_⟩
    refine mk_sub (ps := [v0, v1, v2]) (ds := [d0, d1, d2]) (A3.same y378) S3 rfl nx ndx fun H382 h380 z381 => ⟨rfl, ?_⟩
    clear nx ndx nex
    refine fld_n Z (i := 34) 0 (by decide) (p377.same z381) (by rfl) (by rfl) (by rfl) (by decide) fun u383 e384 => ?_
    refine fld_n Z (i := 34) 1 (by decide) (p377.same z381) (by rfl) (by rfl) (by rfl) (by decide) fun u385 e386 => ?_
    refine fld_n Z (i := 34) 2 (by decide) (p377.same z381) (by rfl) (by rfl) (by rfl) (by decide) fun u387 e388 => ?_
    refine ⟨by show 3 ≤ sizeLine; decide, fun t389 nt => ?_⟩
    have s390 := same_new nt (o := .tup [u383, u385, u387])
    clear nt
    refine ⟨by show 4 ≤ sizeLine; decide, fun t391 nt => ?_⟩
    have s392 := same_new nt (o := .tup [.ref x371, .ref x379, .ref t389, .str "steady"])
    clear nt
    refine ⟨by show 1 ≤ sizeLine; decide, fun l393 nl _ => ?_⟩
    have s394 := same_new nl (o := .lst [.ref t391])
    clear nl
    refine ⟨l364, l393, r365, [.ref t391], rfl, rfl, (s394 _ _ (s392 _ _ (s390 _ _ (z381 _ _ (s376 _ _ a368))))), upd_same, ?_, fun l395 nl => ?_⟩
    · have e := Paired.length (Rows.same s376 p369)
      rw [e]
      show 13 ≤ sizeLine
      decide
    have s396 := same_new nl (o := .lst (r365 ++ [.ref t391]))
    exact q l395 (r365 ++ [.ref t391]) _ (y378.trans (z381.trans (s390.trans (s392.trans (s394.trans s396))))) upd_same (rows_app (Rows.same (z381.trans (s390.trans (s392.trans (s394.trans s396)))) (Rows.same s376 p369)) (.cons ⟨t391, x371, x379, t389, rfl, (s396 _ _ (s394 _ _ upd_same)), (p377.same (z381.trans (s390.trans (s392.trans (s394.trans s396))))), (h380.same (s390.trans (s392.trans (s394.trans s396)))), .tup (s396 _ _ (s394 _ _ (s392 _ _ upd_same))) (.cons ((e384.same (s390.trans (s392.trans (s394.trans s396))))) (.cons ((e386.same (s390.trans (s392.trans (s394.trans s396))))) (.cons ((e388.same (s390.trans (s392.trans (s394.trans s396))))) .nil)))⟩ .nil))
end
end K56

set_option Elab.async false
set_option linter.all false
set_option maxRecDepth 100000
set_option maxHeartbeats 4000000
namespace K56
open PySem PySem.Spec PyProof.Rows L2 Gd NdefX
/-- a row ahead of its last form -/
def RowB (c : Nat → Addr) (d : PyData) (H : Hp) (v : V) (i : Nat) : Prop := ∃ r p n u, v = .ref r ∧ H r = some (.tup [.ref p, .ref n, u, .str (wdP i)]) ∧ Pap (c i) (nsP i) (wdP i) ([d].map (fx 7)) H p ∧ Pap (c i) (nsP i) (wdP i) ([d].map (fx 7)) H n ∧ Dq H u (fx 7 d)
theorem RowB.same {c : Nat → Addr} {d : PyData} {H H' : Hp} {v : V} {i : Nat} (s : Same H H') (h : RowB c d H v i) : RowB c d H' v i := by
  obtain ⟨r, p, n, t, rfl, h1, h2, h3, h4⟩ := h
  exact ⟨r, p, n, t, rfl, s _ _ h1, h2.same s, h3.same s, h4.same s⟩
abbrev RowsB (c : Nat → Addr) (d : PyData) (H : Hp) (rs : List V) (is : List Nat) : Prop := Paired (RowB c d H) rs is
theorem RowsB.same {c : Nat → Addr} {d : PyData} {H H' : Hp} (s : Same H H') : ∀ {rs : List V} {is : List Nat}, RowsB c d H rs is → RowsB c d H' rs is
  | _, _, .nil => .nil
  | _, _, .cons a b => .cons (a.same s) (RowsB.same s b)
theorem rowb_app {c : Nat → Addr} {d : PyData} {H : Hp} : ∀ {rs rs' : List V} {is is' : List Nat}, RowsB c d H rs is → RowsB c d H rs' is' → RowsB c d H (rs ++ rs') (is ++ is')
  | _, _, _, _, .nil, h => h
  | _, _, _, _, .cons a b, h => .cons a (rowb_app b h)
theorem rows_one {c : Nat → Addr} {es : List PyData} {H : Hp} {rs : List V} {i : Nat} (h : Rows c es H rs [i]) : ∃ r, rs = [r] ∧ RowA c es H r i := by
  cases h with
  | cons a b => cases b; exact ⟨_, rfl, a⟩
theorem paired_get {α β : Type} {R : α → β → Prop} : ∀ {xs : List α} {ys : List β} {i : Nat} {x : α}, Paired R xs ys → xs[i]? = some x → ∃ y, ys[i]? = some y ∧ R x y
  | _, _, i, x, .nil, h => by simp at h
  | _, _, 0, x, .cons a _, h => by
    simp at h
    subst h
    exact ⟨_, rfl, a⟩
  | _, _, i + 1, x, .cons _ b, h => by
    simp at h
    obtain ⟨y, h1, h2⟩ := paired_get b h
    exact ⟨y, by simp [h1], h2⟩
/-- all but one place -/
def hid (D : Addr) (H : Hp) : Hp := fun b => if b = D then none else H b
theorem hid_ne {D b : Addr} {H : Hp} (h : b ≠ D) : hid D H b = H b := if_neg h
theorem hid_sub {D : Addr} {H : Hp} : Same (hid D H) H := fun b o e => by
  by_cases z : b = D
  · unfold hid at e
    rw [if_pos z] at e
    cases e
  · rw [hid_ne z] at e
    exact e
theorem hid_of {D : Addr} {H H' : Hp} (hD : H D = none) (s : Same H H') : Same H (hid D H') := fun b o e => by
  rw [hid_ne (ne_of_none e hD)]
  exact s _ _ e
theorem hid_up {D : Addr} {o : HO} {H H' : Hp} (s : Same H H') : Same (hid D H) (hid D (upd H' D o)) := fun b u e => by
  by_cases z : b = D
  · unfold hid at e
    rw [if_pos z] at e
    cases e
  · rw [hid_ne z] at e
    rw [hid_ne z, upd_ne z]
    exact s _ _ e
section
variable {P : Program} {K : PySem.W.Frag} {mg : Str → Option Value} {c f cc cda : Nat → Addr} {fE fB : Addr} {H : Hp} {Q : V → Prop}
/-- C(..).x -/
theorem fld_v (Z : Tz P K mg c f cc cda fE fB) {x : Nat} {i : Nat} {ns : List Str} {z : Str} {es : List PyData} (m : Nat) {nm : Str} {d : PyData} (hi : i < 35) (hx : Pap (c i) ns z es H x)
    (hn : ns[m]? = some nm) (hd : es[m]? = some d) (hf : nm ∈ fldN) (q : ∀ u, Dq H u d → Q u) : ∃ a C dx fs u, V.ref x = .ref a ∧ H a = some (.ins C dx fs) ∧ Cls K C ∧ NoAttr K C nm ∧ fs.lookup nm = some u ∧ Q u := by
  obtain ⟨us, t, ⟨dx, fs, h1, h2, h3⟩, h4, h5⟩ := id hx
  obtain ⟨u, hu, hud⟩ := all_geti h5 hd
  have hm : (nm, u) ∈ ns.zip us := List.mem_of_getElem? (List.getElem?_zip_eq_some.mpr ⟨hn, hu⟩)
  exact ⟨x, c i, dx, fs, u, rfl, h1, Z.cls hi, Z.noA hi hf, h3 _ (List.mem_append_right _ hm), q u hud⟩
end
def spMore (c : Nat → Addr) : Sp := fun vs H Q _ => ∃ (v0 v1 v2 v3 v4 : V) (d0 d1 d2 d3 d4 : PyData), vs = [v0, v1, v2, v3, v4] ∧ Dq H v0 d0 ∧ Dq H v1 d1 ∧ Dq H v2 d2 ∧ Dq H v3 d3 ∧ Dq H v4 d4 ∧ Sh 3 d0 ∧ Sh 3 d1 ∧ Sh 3 d2 ∧ Sh 3 d3 ∧ Sh 3 d4 ∧
  ∀ (l : Addr) (r0 r1 : V) (H' : Hp), Same H H' → H' l = some (.lst [r0, r1]) → RowA c ([d0, d1, d2, d3].map (fx 7)) H' r0 15 → RowA c ([d0, d1, d2, d3, d4].map (fx 7)) H' r1 25 → Q (.ref l) H'
section
variable {P : Program} {w : World} {K : PySem.W.Frag} {mg : Str → Option Value} {base : Heap} {c f cc cda : Nat → Addr} {fE fB : Addr}
theorem ok_ones (T : Txt K mg) (Z : Tz P K mg c f cc cda fE fB) (G_fixed : C8.Cal P w K mg base 9 "fixed" (spF 9) []) : Gd.Cal P w K mg base 14 "_law_ones" (spOnes c) := by
  obtain ⟨fp, fd, F, b⟩ := T.d_law_ones
  refine cal F b sc_law_ones (fun vs H Q E h => ?_) (fun cdv A outer s H vs Q E hgd hr h => ?_)
  · obtain ⟨v0, d0, rfl, _⟩ := h
    rfl
  · have nd := sc_law_ones.nd
    have M_4 := m_4 (w := w) (base := base) Z G_fixed
    have M_6 := m_6 (w := w) (base := base) Z G_fixed
    have M_7 := m_7 (w := w) (base := base) Z G_fixed
    have M_16 := m_16 (w := w) (base := base) Z G_fixed
    have M_18 := m_18 (w := w) (base := base) Z G_fixed
    have M_20 := m_20 (w := w) (base := base) Z G_fixed
    have M_22 := m_22 (w := w) (base := base) Z G_fixed
    have M_30 := m_30 (w := w) (base := base) Z G_fixed
    have M_4K := m_4K (w := w) (base := base) Z G_fixed
    have M_6K := m_6K (w := w) (base := base) Z G_fixed
    have M_7K := m_7K (w := w) (base := base) Z G_fixed
    have M_16K := m_16K (w := w) (base := base) Z G_fixed
    have M_18K := m_18K (w := w) (base := base) Z G_fixed
    have M_20K := m_20K (w := w) (base := base) Z G_fixed
    have M_22K := m_22K (w := w) (base := base) Z G_fixed
    have M_30K := m_30K (w := w) (base := base) Z G_fixed
    obtain ⟨v0, d0, rfl, hd0, hs0, q⟩ := h
    have A1 : DqAll H [v0] [d0] := .cons hd0 .nil
    have S1 : ∀ d ∈ [d0], Sh 7 d := by
      intro d hd
      simp only [List.mem_cons, List.not_mem_nil, or_false] at hd
      rcases hd with rfl <;> first | exact hs0.le (by decide)
    refine ⟨_, (C8.pss_cut (ps_set (i := 1) nd rfl (.inl rfl) (pe_lstX (pa_cons (pe_tup (pa_cons (pe_mkR M_20 hr (by omega) (by rfl) (pa_cons (pv 0) pa_nil)) (pa_cons (pe_mkK0 M_20K hr (by omega) (by rfl) (pk_cons (pv 0) pk_nil)) (pa_cons (pe_fld (pe_mkR M_20 hr (by omega) (by rfl) (pa_cons (pv 0) pa_nil)) rfl) (pa_cons pe_str pa_nil))))) (pa_cons (pe_tup (pa_cons (pe_mkR M_22 hr (by omega) (by rfl) (pa_cons (pv 0) pa_nil)) (pa_cons (pe_mkK0 M_22K hr (by omega) (by rfl) (pk_cons (pv 0) pk_nil)) (pa_cons (pe_fld (pe_mkR M_22 hr (by omega) (by rfl) (pa_cons (pv 0) pa_nil)) rfl) (pa_cons pe_str pa_nil))))) pa_nil))))
      (C8.pss_cut (ps_set (i := 1) nd rfl (.inl rfl) (pe_op op_cat (pv 1) (pe_lstX (pa_cons (pe_tup (pa_cons (pe_mkR M_6 hr (by omega) (by rfl) (pa_cons (pv 0) pa_nil)) (pa_cons (pe_mkK0 M_6K hr (by omega) (by rfl) (pk_cons (pv 0) pk_nil)) (pa_cons (pe_fld (pe_mkR M_6 hr (by omega) (by rfl) (pa_cons (pv 0) pa_nil)) rfl) (pa_cons pe_str pa_nil))))) (pa_cons (pe_tup (pa_cons (pe_mkR M_7 hr (by omega) (by rfl) (pa_cons (pv 0) pa_nil)) (pa_cons (pe_mkK0 M_7K hr (by omega) (by rfl) (pk_cons (pv 0) pk_nil)) (pa_cons (pe_fld (pe_mkR M_7 hr (by omega) (by rfl) (pa_cons (pv 0) pa_nil)) rfl) (pa_cons pe_str pa_nil))))) pa_nil)))))
      (C8.pss_cut (ps_set (i := 1) nd rfl (.inl rfl) (pe_op op_cat (pv 1) (pe_lstX (pa_cons (pe_tup (pa_cons (pe_mkR M_18 hr (by omega) (by rfl) (pa_cons (pv 0) pa_nil)) (pa_cons (pe_mkK0 M_18K hr (by omega) (by rfl) (pk_cons (pv 0) pk_nil)) (pa_cons (pe_fld (pe_mkR M_18 hr (by omega) (by rfl) (pa_cons (pv 0) pa_nil)) rfl) (pa_cons pe_str pa_nil))))) (pa_cons (pe_tup (pa_cons (pe_mkR M_4 hr (by omega) (by rfl) (pa_cons (pv 0) pa_nil)) (pa_cons (pe_mkK0 M_4K hr (by omega) (by rfl) (pk_cons (pv 0) pk_nil)) (pa_cons (pe_fld (pe_mkR M_4 hr (by omega) (by rfl) (pa_cons (pv 0) pa_nil)) rfl) (pa_cons pe_str pa_nil))))) pa_nil)))))
      (C8.pss_cut (ps_set (i := 1) nd rfl (.inl rfl) (pe_op op_cat (pv 1) (pe_lstX (pa_cons (pe_tup (pa_cons (pe_mkR M_16 hr (by omega) (by rfl) (pa_cons (pv 0) pa_nil)) (pa_cons (pe_mkK0 M_16K hr (by omega) (by rfl) (pk_cons (pv 0) pk_nil)) (pa_cons (pe_fld (pe_mkR M_16 hr (by omega) (by rfl) (pa_cons (pv 0) pa_nil)) rfl) (pa_cons pe_str pa_nil))))) (pa_cons (pe_tup (pa_cons (pe_mkR M_30 hr (by omega) (by rfl) (pa_cons (pv 0) pa_nil)) (pa_cons (pe_mkK0 M_30K hr (by omega) (by rfl) (pk_cons (pv 0) pk_nil)) (pa_cons (pe_fld (pe_mkR M_30 hr (by omega) (by rfl) (pa_cons (pv 0) pa_nil)) rfl) (pa_cons pe_str pa_nil))))) pa_nil)))))
      (pss_one (ps_ret (pe_lc (own := [("_law_place", 2), ("_law_named", 3), ("_law_told", 4), ("_law_word", 5)]) (g := gTup K 4 (gCons (gName 2) (gCons (gName 3) (gCons (gName 4) (gCons (gName 5) gNil))))) rfl nd (pi_list (pv 1)) (blkOk_by (own := [("_law_place", 2), ("_law_named", 3), ("_law_told", 4), ("_law_word", 5)]) (N := ["_law_a", "_law_rows", "_law_place", "_law_named", "_law_told", "_law_word"]) (sc := (C8.fnScope s_law_ones)) (by decide +kernel)) (fun _ _ _ _ _ => (pg_tup rfl (pgs_cons (pg_name (i := 2) nd rfl (Or.inl rfl)) (pgs_cons (pg_name (i := 3) nd rfl (Or.inl rfl)) (pgs_cons (pg_name (i := 4) nd rfl (Or.inl rfl)) (pgs_cons (pg_name (i := 5) nd rfl (Or.inl rfl)) pgs_nil)))))) (fun _ _ _ _ _ => pts_nil) (fun _ _ _ _ _ => (pe_tup (pa_cons (pv 2) (pa_cons (pv 3) (pa_cons (pe_tup (pa_cons (pv 4) pa_nil)) (pa_cons (pv 5) pa_nil))))))))))))), ?_⟩
    refine ⟨fun σ' H' => ∃ l35 r36, σ' = [some v0, some (.ref l35), none, none, none, none] ∧ Same H H' ∧ H' l35 = some (.lst r36) ∧ RowsB c d0 H' r36 [20, 22], ?_, ?_⟩
    · refine ⟨v0, rfl, fun x1 dx nx ndx nex => ?_⟩
      refine mk_sub (ps := [v0]) (ds := [d0]) A1 S1 rfl nx ndx fun H4 h2 z3 => ⟨rfl, ?_⟩
      clear nx ndx nex
      refine ⟨v0, rfl, rfl, rfl, fun x5 dx nx ndx nex => ?_⟩
      refine mk_sub (ps := [v0]) (ds := [d0]) (A1.same z3) S1 rfl nx ndx fun H8 h6 z7 => ⟨rfl, ?_⟩
      clear nx ndx nex
      refine ⟨v0, rfl, fun x9 dx nx ndx nex => ?_⟩
      refine mk_sub (ps := [v0]) (ds := [d0]) (A1.same (z3.trans z7)) S1 rfl nx ndx fun H12 h10 z11 => ⟨rfl, ?_⟩
      clear nx ndx nex
      refine fld_v Z (i := 20) 0 (by decide) h10 (by rfl) (by rfl) (by decide) fun u13 e14 => ?_
      refine ⟨by show 4 ≤ sizeLine; decide, fun t15 nt => ?_⟩
      have s16 := same_new nt (o := .tup [.ref x1, .ref x5, u13, .str "safe"])
      clear nt
      refine ⟨v0, rfl, fun x17 dx nx ndx nex => ?_⟩
      refine mk_sub (ps := [v0]) (ds := [d0]) (A1.same (z3.trans (z7.trans (z11.trans s16)))) S1 rfl nx ndx fun H20 h18 z19 => ⟨rfl, ?_⟩
      clear nx ndx nex
      refine ⟨v0, rfl, rfl, rfl, fun x21 dx nx ndx nex => ?_⟩
      refine mk_sub (ps := [v0]) (ds := [d0]) (A1.same (z3.trans (z7.trans (z11.trans (s16.trans z19))))) S1 rfl nx ndx fun H24 h22 z23 => ⟨rfl, ?_⟩
      clear nx ndx nex
      refine ⟨v0, rfl, fun x25 dx nx ndx nex => ?_⟩
      refine mk_sub (ps := [v0]) (ds := [d0]) (A1.same (z3.trans (z7.trans (z11.trans (s16.trans (z19.trans z23)))))) S1 rfl nx ndx fun H28 h26 z27 => ⟨rfl, ?_⟩
      clear nx ndx nex
      refine fld_v Z (i := 22) 0 (by decide) h26 (by rfl) (by rfl) (by decide) fun u29 e30 => ?_
      refine ⟨by show 4 ≤ sizeLine; decide, fun t31 nt => ?_⟩
      have s32 := same_new nt (o := .tup [.ref x17, .ref x21, u29, .str "implied"])
      clear nt
      refine ⟨by show 2 ≤ sizeLine; decide, fun l33 nl _ => ?_⟩
      have s34 := same_new nl (o := .lst [.ref t15, .ref t31])
      clear nl
      exact ⟨l33, [.ref t15, .ref t31], rfl, (z3.trans (z7.trans (z11.trans (s16.trans (z19.trans (z23.trans (z27.trans (s32.trans s34)))))))), upd_same, (.cons ⟨t15, x1, x5, u13, rfl, (s34 _ _ (s32 _ _ (z27 _ _ (z23 _ _ (z19 _ _ upd_same))))), (h2.same (z7.trans (z11.trans (s16.trans (z19.trans (z23.trans (z27.trans (s32.trans s34)))))))), (h6.same (z11.trans (s16.trans (z19.trans (z23.trans (z27.trans (s32.trans s34))))))), (e14.same (s16.trans (z19.trans (z23.trans (z27.trans (s32.trans s34))))))⟩ (.cons ⟨t31, x17, x21, u29, rfl, (s34 _ _ upd_same), (h18.same (z23.trans (z27.trans (s32.trans s34)))), (h22.same (z27.trans (s32.trans s34))), (e30.same (s32.trans s34))⟩ .nil))⟩
    rintro σ' H38 ⟨l35, r36, rfl, s37, a39, p40⟩
    have y41 : Same H H38 := s37
    refine ⟨fun σ' H' => ∃ l78 r79, σ' = [some v0, some (.ref l78), none, none, none, none] ∧ Same H38 H' ∧ H' l78 = some (.lst r79) ∧ RowsB c d0 H' r79 [20, 22, 6, 7], ?_, ?_⟩
    · refine ⟨.ref l35, rfl, ?_⟩
      refine ⟨v0, rfl, fun x42 dx nx ndx nex => ?_⟩
      refine mk_sub (ps := [v0]) (ds := [d0]) (A1.same y41) S1 rfl nx ndx fun H45 h43 z44 => ⟨rfl, ?_⟩
      clear nx ndx nex
      refine ⟨v0, rfl, rfl, rfl, fun x46 dx nx ndx nex => ?_⟩
      refine mk_sub (ps := [v0]) (ds := [d0]) (A1.same (y41.trans z44)) S1 rfl nx ndx fun H49 h47 z48 => ⟨rfl, ?_⟩
      clear nx ndx nex
      refine ⟨v0, rfl, fun x50 dx nx ndx nex => ?_⟩
      refine mk_sub (ps := [v0]) (ds := [d0]) (A1.same (y41.trans (z44.trans z48))) S1 rfl nx ndx fun H53 h51 z52 => ⟨rfl, ?_⟩
      clear nx ndx nex
      refine fld_v Z (i := 6) 0 (by decide) h51 (by rfl) (by rfl) (by decide) fun u54 e55 => ?_
      refine ⟨by show 4 ≤ sizeLine; decide, fun t56 nt => ?_⟩
      have s57 := same_new nt (o := .tup [.ref x42, .ref x46, u54, .str "serves"])
      clear nt
      refine ⟨v0, rfl, fun x58 dx nx ndx nex => ?_⟩
      refine mk_sub (ps := [v0]) (ds := [d0]) (A1.same (y41.trans (z44.trans (z48.trans (z52.trans s57))))) S1 rfl nx ndx fun H61 h59 z60 => ⟨rfl, ?_⟩
      clear nx ndx nex
      refine ⟨v0, rfl, rfl, rfl, fun x62 dx nx ndx nex => ?_⟩
      refine mk_sub (ps := [v0]) (ds := [d0]) (A1.same (y41.trans (z44.trans (z48.trans (z52.trans (s57.trans z60)))))) S1 rfl nx ndx fun H65 h63 z64 => ⟨rfl, ?_⟩
      clear nx ndx nex
      refine ⟨v0, rfl, fun x66 dx nx ndx nex => ?_⟩
      refine mk_sub (ps := [v0]) (ds := [d0]) (A1.same (y41.trans (z44.trans (z48.trans (z52.trans (s57.trans (z60.trans z64))))))) S1 rfl nx ndx fun H69 h67 z68 => ⟨rfl, ?_⟩
      clear nx ndx nex
      refine fld_v Z (i := 7) 0 (by decide) h67 (by rfl) (by rfl) (by decide) fun u70 e71 => ?_
      refine ⟨by show 4 ≤ sizeLine; decide, fun t72 nt => ?_⟩
      have s73 := same_new nt (o := .tup [.ref x58, .ref x62, u70, .str "holds"])
      clear nt
      refine ⟨by show 2 ≤ sizeLine; decide, fun l74 nl _ => ?_⟩
      have s75 := same_new nl (o := .lst [.ref t56, .ref t72])
      clear nl
      refine ⟨l35, l74, r36, [.ref t56, .ref t72], rfl, rfl, (s75 _ _ (s73 _ _ (z68 _ _ (z64 _ _ (z60 _ _ (s57 _ _ (z52 _ _ (z48 _ _ (z44 _ _ a39))))))))), upd_same, ?_, fun l76 nl => ?_⟩
      · have e := Paired.length p40
        rw [e]
        show 4 ≤ sizeLine
        decide
      have s77 := same_new nl (o := .lst (r36 ++ [.ref t56, .ref t72]))
      exact ⟨l76, r36 ++ [.ref t56, .ref t72], rfl, (z44.trans (z48.trans (z52.trans (s57.trans (z60.trans (z64.trans (z68.trans (s73.trans (s75.trans s77))))))))), upd_same, (rowb_app (RowsB.same (z44.trans (z48.trans (z52.trans (s57.trans (z60.trans (z64.trans (z68.trans (s73.trans (s75.trans s77))))))))) p40) (.cons ⟨t56, x42, x46, u54, rfl, (s77 _ _ (s75 _ _ (s73 _ _ (z68 _ _ (z64 _ _ (z60 _ _ upd_same)))))), (h43.same (z48.trans (z52.trans (s57.trans (z60.trans (z64.trans (z68.trans (s73.trans (s75.trans s77))))))))), (h47.same (z52.trans (s57.trans (z60.trans (z64.trans (z68.trans (s73.trans (s75.trans s77)))))))), (e55.same (s57.trans (z60.trans (z64.trans (z68.trans (s73.trans (s75.trans s77)))))))⟩ (.cons ⟨t72, x58, x62, u70, rfl, (s77 _ _ (s75 _ _ upd_same)), (h59.same (z64.trans (z68.trans (s73.trans (s75.trans s77))))), (h63.same (z68.trans (s73.trans (s75.trans s77)))), (e71.same (s73.trans (s75.trans s77)))⟩ .nil)))⟩
    rintro σ' H81 ⟨l78, r79, rfl, s80, a82, p83⟩
    have y84 : Same H H81 := y41.trans s80
    refine ⟨fun σ' H' => ∃ l121 r122, σ' = [some v0, some (.ref l121), none, none, none, none] ∧ Same H81 H' ∧ H' l121 = some (.lst r122) ∧ RowsB c d0 H' r122 [20, 22, 6, 7, 18, 4], ?_, ?_⟩
    · refine ⟨.ref l78, rfl, ?_⟩
      refine ⟨v0, rfl, fun x85 dx nx ndx nex => ?_⟩
      refine mk_sub (ps := [v0]) (ds := [d0]) (A1.same y84) S1 rfl nx ndx fun H88 h86 z87 => ⟨rfl, ?_⟩
      clear nx ndx nex
      refine ⟨v0, rfl, rfl, rfl, fun x89 dx nx ndx nex => ?_⟩
      refine mk_sub (ps := [v0]) (ds := [d0]) (A1.same (y84.trans z87)) S1 rfl nx ndx fun H92 h90 z91 => ⟨rfl, ?_⟩
      clear nx ndx nex
      refine ⟨v0, rfl, fun x93 dx nx ndx nex => ?_⟩
      refine mk_sub (ps := [v0]) (ds := [d0]) (A1.same (y84.trans (z87.trans z91))) S1 rfl nx ndx fun H96 h94 z95 => ⟨rfl, ?_⟩
      clear nx ndx nex
      refine fld_v Z (i := 18) 0 (by decide) h94 (by rfl) (by rfl) (by decide) fun u97 e98 => ?_
      refine ⟨by show 4 ≤ sizeLine; decide, fun t99 nt => ?_⟩
      have s100 := same_new nt (o := .tup [.ref x85, .ref x89, u97, .str "handed"])
      clear nt
      refine ⟨v0, rfl, fun x101 dx nx ndx nex => ?_⟩
      refine mk_sub (ps := [v0]) (ds := [d0]) (A1.same (y84.trans (z87.trans (z91.trans (z95.trans s100))))) S1 rfl nx ndx fun H104 h102 z103 => ⟨rfl, ?_⟩
      clear nx ndx nex
      refine ⟨v0, rfl, rfl, rfl, fun x105 dx nx ndx nex => ?_⟩
      refine mk_sub (ps := [v0]) (ds := [d0]) (A1.same (y84.trans (z87.trans (z91.trans (z95.trans (s100.trans z103)))))) S1 rfl nx ndx fun H108 h106 z107 => ⟨rfl, ?_⟩
      clear nx ndx nex
      refine ⟨v0, rfl, fun x109 dx nx ndx nex => ?_⟩
      refine mk_sub (ps := [v0]) (ds := [d0]) (A1.same (y84.trans (z87.trans (z91.trans (z95.trans (s100.trans (z103.trans z107))))))) S1 rfl nx ndx fun H112 h110 z111 => ⟨rfl, ?_⟩
      clear nx ndx nex
      refine fld_v Z (i := 4) 0 (by decide) h110 (by rfl) (by rfl) (by decide) fun u113 e114 => ?_
      refine ⟨by show 4 ≤ sizeLine; decide, fun t115 nt => ?_⟩
      have s116 := same_new nt (o := .tup [.ref x101, .ref x105, u113, .str "shared"])
      clear nt
      refine ⟨by show 2 ≤ sizeLine; decide, fun l117 nl _ => ?_⟩
      have s118 := same_new nl (o := .lst [.ref t99, .ref t115])
      clear nl
      refine ⟨l78, l117, r79, [.ref t99, .ref t115], rfl, rfl, (s118 _ _ (s116 _ _ (z111 _ _ (z107 _ _ (z103 _ _ (s100 _ _ (z95 _ _ (z91 _ _ (z87 _ _ a82))))))))), upd_same, ?_, fun l119 nl => ?_⟩
      · have e := Paired.length p83
        rw [e]
        show 6 ≤ sizeLine
        decide
      have s120 := same_new nl (o := .lst (r79 ++ [.ref t99, .ref t115]))
      exact ⟨l119, r79 ++ [.ref t99, .ref t115], rfl, (z87.trans (z91.trans (z95.trans (s100.trans (z103.trans (z107.trans (z111.trans (s116.trans (s118.trans s120))))))))), upd_same, (rowb_app (RowsB.same (z87.trans (z91.trans (z95.trans (s100.trans (z103.trans (z107.trans (z111.trans (s116.trans (s118.trans s120))))))))) p83) (.cons ⟨t99, x85, x89, u97, rfl, (s120 _ _ (s118 _ _ (s116 _ _ (z111 _ _ (z107 _ _ (z103 _ _ upd_same)))))), (h86.same (z91.trans (z95.trans (s100.trans (z103.trans (z107.trans (z111.trans (s116.trans (s118.trans s120))))))))), (h90.same (z95.trans (s100.trans (z103.trans (z107.trans (z111.trans (s116.trans (s118.trans s120)))))))), (e98.same (s100.trans (z103.trans (z107.trans (z111.trans (s116.trans (s118.trans s120)))))))⟩ (.cons ⟨t115, x101, x105, u113, rfl, (s120 _ _ (s118 _ _ upd_same)), (h102.same (z107.trans (z111.trans (s116.trans (s118.trans s120))))), (h106.same (z111.trans (s116.trans (s118.trans s120)))), (e114.same (s116.trans (s118.trans s120)))⟩ .nil)))⟩
    rintro σ' H124 ⟨l121, r122, rfl, s123, a125, p126⟩
    have y127 : Same H H124 := y84.trans s123
    refine ⟨fun σ' H' => ∃ l164 r165, σ' = [some v0, some (.ref l164), none, none, none, none] ∧ Same H124 H' ∧ H' l164 = some (.lst r165) ∧ RowsB c d0 H' r165 [20, 22, 6, 7, 18, 4, 16, 30], ?_, ?_⟩
    · refine ⟨.ref l121, rfl, ?_⟩
      refine ⟨v0, rfl, fun x128 dx nx ndx nex => ?_⟩
      refine mk_sub (ps := [v0]) (ds := [d0]) (A1.same y127) S1 rfl nx ndx fun H131 h129 z130 => ⟨rfl, ?_⟩
      clear nx ndx nex
      refine ⟨v0, rfl, rfl, rfl, fun x132 dx nx ndx nex => ?_⟩
      refine mk_sub (ps := [v0]) (ds := [d0]) (A1.same (y127.trans z130)) S1 rfl nx ndx fun H135 h133 z134 => ⟨rfl, ?_⟩
      clear nx ndx nex
      refine ⟨v0, rfl, fun x136 dx nx ndx nex => ?_⟩
      refine mk_sub (ps := [v0]) (ds := [d0]) (A1.same (y127.trans (z130.trans z134))) S1 rfl nx ndx fun H139 h137 z138 => ⟨rfl, ?_⟩
      clear nx ndx nex
      refine fld_v Z (i := 16) 0 (by decide) h137 (by rfl) (by rfl) (by decide) fun u140 e141 => ?_
      refine ⟨by show 4 ≤ sizeLine; decide, fun t142 nt => ?_⟩
      have s143 := same_new nt (o := .tup [.ref x128, .ref x132, u140, .str "never"])
      clear nt
      refine ⟨v0, rfl, fun x144 dx nx ndx nex => ?_⟩
      refine mk_sub (ps := [v0]) (ds := [d0]) (A1.same (y127.trans (z130.trans (z134.trans (z138.trans s143))))) S1 rfl nx ndx fun H147 h145 z146 => ⟨rfl, ?_⟩
      clear nx ndx nex
      refine ⟨v0, rfl, rfl, rfl, fun x148 dx nx ndx nex => ?_⟩
      refine mk_sub (ps := [v0]) (ds := [d0]) (A1.same (y127.trans (z130.trans (z134.trans (z138.trans (s143.trans z146)))))) S1 rfl nx ndx fun H151 h149 z150 => ⟨rfl, ?_⟩
      clear nx ndx nex
      refine ⟨v0, rfl, fun x152 dx nx ndx nex => ?_⟩
      refine mk_sub (ps := [v0]) (ds := [d0]) (A1.same (y127.trans (z130.trans (z134.trans (z138.trans (s143.trans (z146.trans z150))))))) S1 rfl nx ndx fun H155 h153 z154 => ⟨rfl, ?_⟩
      clear nx ndx nex
      refine fld_v Z (i := 30) 0 (by decide) h153 (by rfl) (by rfl) (by decide) fun u156 e157 => ?_
      refine ⟨by show 4 ≤ sizeLine; decide, fun t158 nt => ?_⟩
      have s159 := same_new nt (o := .tup [.ref x144, .ref x148, u156, .str "stays"])
      clear nt
      refine ⟨by show 2 ≤ sizeLine; decide, fun l160 nl _ => ?_⟩
      have s161 := same_new nl (o := .lst [.ref t142, .ref t158])
      clear nl
      refine ⟨l121, l160, r122, [.ref t142, .ref t158], rfl, rfl, (s161 _ _ (s159 _ _ (z154 _ _ (z150 _ _ (z146 _ _ (s143 _ _ (z138 _ _ (z134 _ _ (z130 _ _ a125))))))))), upd_same, ?_, fun l162 nl => ?_⟩
      · have e := Paired.length p126
        rw [e]
        show 8 ≤ sizeLine
        decide
      have s163 := same_new nl (o := .lst (r122 ++ [.ref t142, .ref t158]))
      exact ⟨l162, r122 ++ [.ref t142, .ref t158], rfl, (z130.trans (z134.trans (z138.trans (s143.trans (z146.trans (z150.trans (z154.trans (s159.trans (s161.trans s163))))))))), upd_same, (rowb_app (RowsB.same (z130.trans (z134.trans (z138.trans (s143.trans (z146.trans (z150.trans (z154.trans (s159.trans (s161.trans s163))))))))) p126) (.cons ⟨t142, x128, x132, u140, rfl, (s163 _ _ (s161 _ _ (s159 _ _ (z154 _ _ (z150 _ _ (z146 _ _ upd_same)))))), (h129.same (z134.trans (z138.trans (s143.trans (z146.trans (z150.trans (z154.trans (s159.trans (s161.trans s163))))))))), (h133.same (z138.trans (s143.trans (z146.trans (z150.trans (z154.trans (s159.trans (s161.trans s163)))))))), (e141.same (s143.trans (z146.trans (z150.trans (z154.trans (s159.trans (s161.trans s163)))))))⟩ (.cons ⟨t158, x144, x148, u156, rfl, (s163 _ _ (s161 _ _ upd_same)), (h145.same (z150.trans (z154.trans (s159.trans (s161.trans s163))))), (h149.same (z154.trans (s159.trans (s161.trans s163)))), (e157.same (s159.trans (s161.trans s163)))⟩ .nil)))⟩
    rintro σ' H167 ⟨l164, r165, rfl, s166, a168, p169⟩
    have y170 : Same H H167 := y127.trans s166
    have hB : RowsB c d0 H167 r165 is1 := p169
    have hlen : (r165).length = is1.length := Paired.length hB
    refine ⟨.ref l164, rfl, l164, rfl, ⟨_, SqL.of a168⟩, fun D nD => lc_it (walk_list (xs := r165)) (fun i H' => Same H167 H' ∧ ∃ qs, H' D = some (.lst qs) ∧ Rows c ([d0].map (fx 7)) (hid D H') qs (is1.take i))
      ⟨same_new nD, [], upd_same, .nil⟩ (fun i H' _ hP => SqL.of (hP.1 _ _ a168)) (fun i x J1 J2 hi hP hy => ?_) (fun J1 hP => ?_)⟩
    · obtain ⟨g1, qs, g2, g3⟩ := hP
      obtain ⟨rfl, hx⟩ := hy
      obtain ⟨k, hk, r, p, n, u, rfl, b1, b2, b3, b4⟩ := paired_get hB hx
      have lq : qs.length ≤ 100 := by
        rw [Paired.length g3, List.length_take]
        have : is1.length ≤ 100 := by decide
        omega
      refine ⟨r, _, rfl, SqT.of (g1 _ _ b1), rfl, .ref p, _, rfl, .ref n, _, rfl, u, _, rfl, .str (wdP k), [], rfl, rfl, rfl, lc_yes ⟨.ref p, rfl, .ref n, rfl, u, rfl, by show 1 ≤ sizeLine; decide, fun tt nt => ⟨.str (wdP k), rfl, by show 4 ≤ sizeLine; decide, fun tr ntr => ?_⟩⟩⟩
      have s1 := same_new nt (o := .tup [u])
      have s2 := same_new ntr (o := .tup [.ref p, .ref n, .ref tt, .str (wdP k)])
      have s12 := s1.trans s2
      have nt1 : tt ≠ D := fun z => by rw [z, g2] at nt; cases nt
      have nt2 : tr ≠ D := fun z => by rw [z, s1 _ _ g2] at ntr; cases ntr
      refine ⟨qs, s12 _ _ g2, small1000 (by omega), ?_, qs ++ [.ref tr], upd_same, ?_⟩
      · intro b o e2
        rw [upd_ne (ne_of_none e2 nD)]
        exact s12 _ _ (g1 _ _ e2)
      · rw [List.take_add_one, hk]
        have sh : Same (hid D _) (hid D (upd _ D (.lst (qs ++ [.ref tr])))) := hid_up s12
        have s9 : Same H167 (hid D (upd _ D (.lst (qs ++ [.ref tr])))) := (hid_of nD g1).trans sh
        refine rows_app (Rows.same sh g3) (.cons ⟨tr, p, n, tt, rfl, ?_, b2.same s9, b3.same s9, .tup (xs := [u]) ?_ (.cons (b4.same s9) .nil)⟩ .nil)
        · rw [hid_ne nt2, upd_ne nt2]
          exact upd_same
        · rw [hid_ne nt1, upd_ne nt1]
          exact s2 _ _ upd_same
    · obtain ⟨g1, qs, g2, g3⟩ := hP
      rw [hlen, List.take_length] at g3
      exact q D qs _ (y170.trans g1) g2 (Rows.same hid_sub g3)
end
end K56

set_option Elab.async false
set_option linter.all false
set_option maxRecDepth 100000
set_option maxHeartbeats 4000000
namespace K56
open PySem PySem.Spec PyProof.Rows L2 Gd NdefX
section
variable {P : Program} {w : World} {K : PySem.W.Frag} {mg : Str → Option Value} {base : Heap} {c f cc cda : Nat → Addr} {fE fB : Addr}
theorem ok_more (T : Txt K mg) (Z : Tz P K mg c f cc cda fE fB) (G_fixed : C8.Cal P w K mg base 9 "fixed" (spF 9) []) : Gd.Cal P w K mg base 14 "_law_more" (spMore c) := by
  obtain ⟨fp, fd, F, b⟩ := T.d_law_more
  refine cal F b sc_law_more (fun vs H Q E h => ?_) (fun cdv A outer s H vs Q E hgd hr h => ?_)
  · obtain ⟨v0, v1, v2, v3, v4, d0, d1, d2, d3, d4, rfl, _⟩ := h
    rfl
  · have nd := sc_law_more.nd
    have M_15 := m_15 (w := w) (base := base) Z G_fixed
    have M_25 := m_25 (w := w) (base := base) Z G_fixed
    have M_15K := m_15K (w := w) (base := base) Z G_fixed
    have M_25K := m_25K (w := w) (base := base) Z G_fixed
    obtain ⟨v0, v1, v2, v3, v4, d0, d1, d2, d3, d4, rfl, hd0, hd1, hd2, hd3, hd4, hs0, hs1, hs2, hs3, hs4, q⟩ := h
    have A1 : DqAll H [v0] [d0] := .cons hd0 .nil
    have S1 : ∀ d ∈ [d0], Sh 7 d := by
      intro d hd
      simp only [List.mem_cons, List.not_mem_nil, or_false] at hd
      rcases hd with rfl <;> first | exact hs0.le (by decide)
    have A2 : DqAll H [v0, v1] [d0, d1] := .cons hd0 (.cons hd1 .nil)
    have S2 : ∀ d ∈ [d0, d1], Sh 7 d := by
      intro d hd
      simp only [List.mem_cons, List.not_mem_nil, or_false] at hd
      rcases hd with rfl | rfl <;> first | exact hs0.le (by decide) | exact hs1.le (by decide)
    have A3 : DqAll H [v0, v1, v2] [d0, d1, d2] := .cons hd0 (.cons hd1 (.cons hd2 .nil))
    have S3 : ∀ d ∈ [d0, d1, d2], Sh 7 d := by
      intro d hd
      simp only [List.mem_cons, List.not_mem_nil, or_false] at hd
      rcases hd with rfl | rfl | rfl <;> first | exact hs0.le (by decide) | exact hs1.le (by decide) | exact hs2.le (by decide)
    have A4 : DqAll H [v0, v1, v2, v3] [d0, d1, d2, d3] := .cons hd0 (.cons hd1 (.cons hd2 (.cons hd3 .nil)))
    have S4 : ∀ d ∈ [d0, d1, d2, d3], Sh 7 d := by
      intro d hd
      simp only [List.mem_cons, List.not_mem_nil, or_false] at hd
      rcases hd with rfl | rfl | rfl | rfl <;> first | exact hs0.le (by decide) | exact hs1.le (by decide) | exact hs2.le (by decide) | exact hs3.le (by decide)
    have A5 : DqAll H [v0, v1, v2, v3, v4] [d0, d1, d2, d3, d4] := .cons hd0 (.cons hd1 (.cons hd2 (.cons hd3 (.cons hd4 .nil))))
    have S5 : ∀ d ∈ [d0, d1, d2, d3, d4], Sh 7 d := by
      intro d hd
      simp only [List.mem_cons, List.not_mem_nil, or_false] at hd
      rcases hd with rfl | rfl | rfl | rfl | rfl <;> first | exact hs0.le (by decide) | exact hs1.le (by decide) | exact hs2.le (by decide) | exact hs3.le (by decide) | exact hs4.le (by decide)
    refine ⟨_, (C8.pss_cut (ps_par (i := 5) (j := 6) rfl nd rfl rfl (by decide) rfl rfl (pa_cons (pe_mkR M_15 hr (by omega) (by rfl) (pa_cons (pv 0) (pa_cons (pv 1) (pa_cons (pv 2) (pa_cons (pv 3) pa_nil))))) (pa_cons (pe_mkR M_25 hr (by omega) (by rfl) (pa_cons (pv 0) (pa_cons (pv 1) (pa_cons (pv 2) (pa_cons (pv 3) (pa_cons (pv 4) pa_nil)))))) pa_nil)) rfl)
      (C8.pss_cut (ps_set (i := 7) nd rfl (.inl rfl) (pe_lstX (pa_cons (pe_tup (pa_cons (pv 5) (pa_cons (pe_mkK0 M_15K hr (by omega) (by rfl) (pk_cons (pv 3) (pk_cons (pv 2) (pk_cons (pv 1) (pk_cons (pv 0) pk_nil))))) (pa_cons (pe_tup (pa_cons (pe_fld (pv 5) rfl) (pa_cons (pe_fld (pv 5) rfl) (pa_cons (pe_fld (pv 5) rfl) (pa_cons (pe_fld (pv 5) rfl) pa_nil))))) (pa_cons pe_str pa_nil))))) pa_nil)))
      (C8.pss_cut (ps_set (i := 8) nd rfl (.inl rfl) (pe_tup (pa_cons (pe_fld (pv 6) rfl) (pa_cons (pe_fld (pv 6) rfl) (pa_cons (pe_fld (pv 6) rfl) (pa_cons (pe_fld (pv 6) rfl) (pa_cons (pe_fld (pv 6) rfl) pa_nil)))))))
      (pss_one (ps_ret (pe_op op_cat (pv 7) (pe_lstX (pa_cons (pe_tup (pa_cons (pv 6) (pa_cons (pe_mkK0 M_25K hr (by omega) (by rfl) (pk_cons (pv 4) (pk_cons (pv 3) (pk_cons (pv 2) (pk_cons (pv 1) (pk_cons (pv 0) pk_nil)))))) (pa_cons (pv 8) (pa_cons pe_str pa_nil))))) pa_nil)))))))), ?_⟩
    refine ⟨fun σ' H' => ∃ x1 x5, σ' = [some v0, some v1, some v2, some v3, some v4, some (.ref x1), some (.ref x5), none, none] ∧ Same H H' ∧ Pap (c 15) (nsP 15) (wdP 15) ([d0, d1, d2, d3].map (fx 7)) H' x1 ∧ Pap (c 25) (nsP 25) (wdP 25) ([d0, d1, d2, d3, d4].map (fx 7)) H' x5, ?_, ?_⟩
    · refine ⟨v0, rfl, v1, rfl, v2, rfl, v3, rfl, fun x1 dx nx ndx nex => ?_⟩
      refine mk_sub (ps := [v0, v1, v2, v3]) (ds := [d0, d1, d2, d3]) A4 S4 rfl nx ndx fun H4 h2 z3 => ⟨rfl, ?_⟩
      clear nx ndx nex
      refine ⟨v0, rfl, v1, rfl, v2, rfl, v3, rfl, v4, rfl, fun x5 dx nx ndx nex => ?_⟩
      refine mk_sub (ps := [v0, v1, v2, v3, v4]) (ds := [d0, d1, d2, d3, d4]) (A5.same z3) S5 rfl nx ndx fun H8 h6 z7 => ⟨rfl, ?_⟩
      clear nx ndx nex
      exact ⟨.ref x1, .ref x5, rfl, x1, x5, rfl, (z3.trans z7), (h2.same z7), h6⟩
    rintro σ' H9 ⟨x1, x5, rfl, s10, p11, p12⟩
    have y13 : Same H H9 := s10
    refine ⟨fun σ' H' => ∃ l32 r33, σ' = [some v0, some v1, some v2, some v3, some v4, some (.ref x1), some (.ref x5), some (.ref l32), none] ∧ Same H9 H' ∧ H' l32 = some (.lst r33) ∧ Rows c ([d0, d1, d2, d3].map (fx 7)) H' r33 [15], ?_, ?_⟩
    · refine ⟨.ref x1, rfl, ?_⟩
      refine ⟨v3, rfl, v2, rfl, v1, rfl, v0, rfl, rfl, rfl, fun x14 dx nx ndx nex => ?_⟩
      refine mk_sub (ps := [v0, v1, v2, v3]) (ds := [d0, d1, d2, d3]) (A4.same y13) S4 rfl nx ndx fun H17 h15 z16 => ⟨rfl, ?_⟩
      clear nx ndx nex
      refine fld_n Z (i := 15) 0 (by decide) (p11.same z16) (by rfl) (by rfl) (by rfl) (by decide) fun u18 e19 => ?_
      refine fld_n Z (i := 15) 1 (by decide) (p11.same z16) (by rfl) (by rfl) (by rfl) (by decide) fun u20 e21 => ?_
      refine fld_n Z (i := 15) 2 (by decide) (p11.same z16) (by rfl) (by rfl) (by rfl) (by decide) fun u22 e23 => ?_
      refine fld_n Z (i := 15) 3 (by decide) (p11.same z16) (by rfl) (by rfl) (by rfl) (by decide) fun u24 e25 => ?_
      refine ⟨by show 4 ≤ sizeLine; decide, fun t26 nt => ?_⟩
      have s27 := same_new nt (o := .tup [u18, u20, u22, u24])
      clear nt
      refine ⟨by show 4 ≤ sizeLine; decide, fun t28 nt => ?_⟩
      have s29 := same_new nt (o := .tup [.ref x1, .ref x14, .ref t26, .str "patience"])
      clear nt
      refine ⟨by show 1 ≤ sizeLine; decide, fun l30 nl _ => ?_⟩
      have s31 := same_new nl (o := .lst [.ref t28])
      clear nl
      exact ⟨l30, [.ref t28], rfl, (z16.trans (s27.trans (s29.trans s31))), upd_same, (.cons ⟨t28, x1, x14, t26, rfl, (s31 _ _ upd_same), (p11.same (z16.trans (s27.trans (s29.trans s31)))), (h15.same (s27.trans (s29.trans s31))), .tup (s31 _ _ (s29 _ _ upd_same)) (.cons ((e19.same (s27.trans (s29.trans s31)))) (.cons ((e21.same (s27.trans (s29.trans s31)))) (.cons ((e23.same (s27.trans (s29.trans s31)))) (.cons ((e25.same (s27.trans (s29.trans s31)))) .nil))))⟩ .nil)⟩
    rintro σ' H35 ⟨l32, r33, rfl, s34, a36, p37⟩
    have y38 : Same H H35 := y13.trans s34
    refine ⟨fun σ' H' => ∃ t49, σ' = [some v0, some v1, some v2, some v3, some v4, some (.ref x1), some (.ref x5), some (.ref l32), some (.ref t49)] ∧ Same H35 H' ∧ Dq H' (.ref t49) (.tuple ([d0, d1, d2, d3, d4].map (fx 7))), ?_, ?_⟩
    · refine fld_n Z (i := 25) 0 (by decide) (p12.same s34) (by rfl) (by rfl) (by rfl) (by decide) fun u39 e40 => ?_
      refine fld_n Z (i := 25) 1 (by decide) (p12.same s34) (by rfl) (by rfl) (by rfl) (by decide) fun u41 e42 => ?_
      refine fld_n Z (i := 25) 2 (by decide) (p12.same s34) (by rfl) (by rfl) (by rfl) (by decide) fun u43 e44 => ?_
      refine fld_n Z (i := 25) 3 (by decide) (p12.same s34) (by rfl) (by rfl) (by rfl) (by decide) fun u45 e46 => ?_
      refine fld_n Z (i := 25) 4 (by decide) (p12.same s34) (by rfl) (by rfl) (by rfl) (by decide) fun u47 e48 => ?_
      refine ⟨by show 5 ≤ sizeLine; decide, fun t nt => ?_⟩
      exact ⟨t, rfl, same_new nt, .tup upd_same (.cons (e40.same (same_new nt)) (.cons (e42.same (same_new nt)) (.cons (e44.same (same_new nt)) (.cons (e46.same (same_new nt)) (.cons (e48.same (same_new nt)) .nil)))))⟩
    rintro σ' H51 ⟨t49, rfl, s50, p52⟩
    have y53 : Same H H51 := y38.trans s50
    refine ⟨.ref l32, rfl, ?_⟩
    refine ⟨.ref x5, rfl, ?_⟩
    refine ⟨v4, rfl, v3, rfl, v2, rfl, v1, rfl, v0, rfl, rfl, rfl, fun x54 dx nx ndx nex => ?_⟩
    refine mk_sub (ps := [v0, v1, v2, v3, v4]) (ds := [d0, d1, d2, d3, d4]) (A5.same y53) S5 rfl nx ndx fun H57 h55 z56 => ⟨rfl, ?_⟩
    clear nx ndx nex
    refine ⟨.ref t49, rfl, ?_⟩
    refine ⟨by show 4 ≤ sizeLine; decide, fun t58 nt => ?_⟩
    have s59 := same_new nt (o := .tup [.ref x5, .ref x54, .ref t49, .str "losing"])
    clear nt
    refine ⟨by show 1 ≤ sizeLine; decide, fun l60 nl _ => ?_⟩
    have s61 := same_new nl (o := .lst [.ref t58])
    clear nl
    refine ⟨l32, l60, r33, [.ref t58], rfl, rfl, (s61 _ _ (s59 _ _ (z56 _ _ (s50 _ _ a36)))), upd_same, ?_, fun l62 nl => ?_⟩
    · have e := Paired.length (Rows.same s50 p37)
      rw [e]
      show 2 ≤ sizeLine
      decide
    have s63 := same_new nl (o := .lst (r33 ++ [.ref t58]))
    obtain ⟨r0, rfl, hr0⟩ := rows_one (Rows.same s50 p37)
    exact q l62 r0 (.ref t58) _ (y53.trans (z56.trans (s59.trans (s61.trans s63)))) upd_same (hr0.same (z56.trans (s59.trans (s61.trans s63)))) ⟨t58, x5, x54, t49, rfl, (s63 _ _ (s61 _ _ upd_same)), (((p12.same s34).same s50).same (z56.trans (s59.trans (s61.trans s63)))), (h55.same (s59.trans (s61.trans s63))), (p52.same (z56.trans (s59.trans (s61.trans s63))))⟩
end
end K56

set_option Elab.async false
set_option linter.all false
set_option maxRecDepth 100000
set_option maxHeartbeats 4000000
namespace K56
open PySem PySem.Spec PyProof.Rows L2 Gd NdefX
def denL : List V := [.str "unsafe", .str "apart", .str "lost", .str "lacks", .str "broken", .str "dropped", .str "uncovered", .str "refusal", .str "parting", .str "ring", .str "never", .str "slips", .str "unfirm"]
theorem den_of : ∀ i, i < 35 → 2 ≤ i → inV (.str (wdP i)) denL = belP i 1 := by decide +kernel
theorem den_flat : denL.all flatV = true := by decide +kernel
def spRR (c : Nat → Addr) : Sp := fun vs H Q _ => ∃ (l t : Addr) (rs us : List V) (is : List Nat) (es : List PyData), vs = [.ref l, .ref t] ∧ H l = some (.lst rs) ∧ H t = some (.tup us) ∧ DqAll H us es ∧ Rows c es H rs is ∧ is.Nodup ∧ (∀ i ∈ is, 2 ≤ i ∧ i < 35) ∧ is.length ≤ 40 ∧ es.length ≤ 5 ∧ (∀ e ∈ es, Tp 4 e) ∧
  ∀ H' : Hp, Same H H' → Q (.bl true) H'
section
variable {P : Program} {w : World} {K : PySem.W.Frag} {mg : Str → Option Value} {base : Heap} {c f cc cda : Nat → Addr} {fE fB : Addr}
theorem ok_rows_right (T : Txt K mg) (Z : Tz P K mg c f cc cda fE fB) : Gd.Cal P w K mg base 14 "_law_rows_right" (spRR c) := by
  obtain ⟨fp, fd, F, b⟩ := T.d_law_rows_right
  refine cal F b sc_law_rows_right (fun vs H Q E h => ?_) (fun cdv A outer s H vs Q E hgd hr h => ?_)
  · obtain ⟨l, t, _, _, _, _, rfl, _⟩ := h
    rfl
  · have nd := sc_law_rows_right.nd
    have hu := hu_of hr
    have sm := Z.sm
    have FE := fn_eq (w := w) (base := base) T Z
    have FB := fn_bool (w := w) (base := base) Z
    have hr1 := hr.mono (show 1 ≤ 13 by decide)
    have hr3 := hr.mono (show 3 ≤ 13 by decide)
    obtain ⟨l, t, rs, us, is, es, rfl, hl, ht, hus, hR, hnd, his, hil, hel, hT, q⟩ := h
    refine ⟨_, (C8.pss_cut (ps_set (i := 2) nd rfl (.inl rfl) (pe_lstX (pa_cons pe_str (pa_cons pe_str (pa_cons pe_str (pa_cons pe_str (pa_cons pe_str (pa_cons pe_str (pa_cons pe_str (pa_cons pe_str (pa_cons pe_str (pa_cons pe_str (pa_cons pe_str (pa_cons pe_str (pa_cons pe_str pa_nil)))))))))))))))
      (pss_cons (ps_for PassesOwn.never rfl (pi_enum (by rfl) T.z_enumerate (pa_cons (pv 0) pa_nil)) (pg_tup rfl (pgs_cons (pg_name (i := 3) nd rfl (Or.inr rfl)) (pgs_cons (pg_name (i := 4) nd rfl (Or.inl rfl)) pgs_nil))) (pss_cons (ps_asg (pv 4) (pg_tup rfl (pgs_cons (pg_name (i := 5) nd rfl (Or.inr rfl)) (pgs_cons (pg_name (i := 6) nd rfl (Or.inl rfl)) (pgs_cons (pg_name (i := 7) nd rfl (Or.inl rfl)) (pgs_cons (pg_name (i := 8) nd rfl (Or.inl rfl)) pgs_nil))))))
      (pss_cons (ps_if (PW.pt (pw_or (pt_cmpR op_ne (pe_callB (call_reprQ sm hgd hr.units) (by rfl) T.z_repr (by decide +kernel) (pa_cons (pv 7) pa_nil)) (pe_callB (call_reprQ sm hgd hr.units) (by rfl) T.z_repr (by decide +kernel) (pa_cons (pv 1) pa_nil)) (nomark _)) (pw_or (pt_cmpR op_ne (pe_callB (call_reprQ sm hgd hr.units) (by rfl) T.z_repr (by decide +kernel) (pa_cons (pe_fld (pv 5) rfl) pa_nil)) (pe_callB (call_reprQ sm hgd hr.units) (by rfl) T.z_repr (by decide +kernel) (pa_cons (pv 1) pa_nil)) (nomark _)) (pw_or (pt_cmpR op_ne (pe_fld (pv 5) rfl) (pv 8) (nomark _)) (pw_or1 (pt_cmpR op_ne (pe_fld (pv 6) rfl) (pv 8) (nomark _))))))) (pss_one (ps_ret pe_bl)) pss_nil)
      (pss_cons (ps_if (PW.pt (pw_or (pt_not (pt_cmpR (op_eqO FE hr1) (pv 5) (pv 6) (nomark _))) (pw_or (pt_cmpR op_ne (pe_callB (call_reprQ sm hgd hr.units) (by rfl) T.z_repr (by decide +kernel) (pa_cons (pe_fld (pv 6) rfl) pa_nil)) (pe_callB (call_reprQ sm hgd hr.units) (by rfl) T.z_repr (by decide +kernel) (pa_cons (pv 1) pa_nil)) (nomark _)) (pw_or1 (pt_cmpR op_ne (pe_callTy (call_boolO FB hr3) (by rfl) T.z_bool (by decide +kernel) (pa_cons (pv 5) pa_nil)) (pe_cmpR op_notIn_seq (pv 8) (pv 2) rfl) (nomark _)))))) (pss_one (ps_ret pe_bl)) pss_nil)
      (pss_cons (ps_if (PW.pt (pw_or (pt_cmpR op_ne (pe_callB call_isiA (by rfl) T.z_isinstance (by decide +kernel) (pa_cons (pv 5) (pa_cons (C8.pe_gc (v := .ref (c 1)) (by rfl) ⟨_, Z.g 1 (by decide), rfl⟩) pa_nil))) (pe_cmpR op_in_seq (pv 8) (pv 2) rfl) (nomark _)) (pw_or1 (pt_not (pt_val (pe_callB call_isiA (by rfl) T.z_isinstance (by decide +kernel) (pa_cons (pv 5) (pa_cons (C8.pe_gc (v := .ref (c 0)) (by rfl) ⟨_, Z.g 0 (by decide), rfl⟩) pa_nil)))))))) (pss_one (ps_ret pe_bl)) pss_nil)
      (pss_one (ps_if (PW.pt (pw_or (pt_cmpR (op_neD hr.units) (pe_lc (own := [("_law_spot", 9), ("_law_other", 10)]) (g := gTup K 2 (gCons (gName 9) (gCons (gName 10) gNil))) rfl nd (pi_enum (by rfl) T.z_enumerate (pa_cons (pv 0) pa_nil)) (blkOk_by (own := [("_law_spot", 9), ("_law_other", 10)]) (N := ["_law_rows", "_law_due", "_law_denials", "_law_at", "_law_row", "_law_place", "_law_named", "_law_told", "_law_word", "_law_spot", "_law_other"]) (sc := (C8.fnScope s_law_rows_right)) (by decide +kernel)) (fun _ _ _ _ _ => (pg_tup rfl (pgs_cons (pg_name (i := 9) nd rfl (Or.inl rfl)) (pgs_cons (pg_name (i := 10) nd rfl (Or.inl rfl)) pgs_nil)))) (fun _ _ _ _ _ => pts_one (PW.pt (pw_and (pt_cmpR op_ne (pv 9) (pv 3) (nomark _)) (pw_and1 (pt_cmpR (show OpR _ _ (rEqO K fE (spEqP c)) from op_eqO FE hr1) (pe_ix (r := rIxT K) ix_tup (pv 10) pe_int (fun _ _ => rfl)) (pv 5) (nomark _)))))) (fun _ _ _ _ _ => (pv 10))) (pe_lstX pa_nil) (nomark _)) (pw_or1 (pt_cmpR (op_eqO FE hr1) (pv 5) (pv 1) (nomark _))))) (pss_one (ps_ret pe_bl)) pss_nil)))))))
      (pss_one (ps_ret pe_bl)))), ?_⟩
    have rp := rp_tup hT hel (by decide)
    have t14 : ∀ e ∈ es, Tp 14 e := fun e he => (hT e he).le (by decide)
    have ev : PyData.eqv (.tuple es) (.tuple es) = true := Tp.eqv (n := 5) (.inr ⟨_, rfl, hel, hT⟩)
    have hrl : rs.length ≤ 40 := by rw [Paired.length hR]; exact hil
    refine ⟨fun σ' H' => ∃ D, σ' = [some (.ref l), some (.ref t), some (.ref D), none, none, none, none, none, none, none, none] ∧ Same H H' ∧ H' D = some (.lst denL), ?_, ?_⟩
    · exact ⟨by show 13 ≤ sizeLine; decide, fun D nD _ => ⟨D, rfl, same_new nD, upd_same⟩⟩
    rintro σ' H1 ⟨D, rfl, s1, hD⟩
    refine ⟨.ref l, rfl, l, rs, rfl, SqL.of (s1 _ _ hl), for_it (walk_enum (xs := rs)) (fun i σ' H' => ∃ y3 y4 y5 y6 y7 y8, σ' = [some (.ref l), some (.ref t), some (.ref D), y3, y4, y5, y6, y7, y8, none, none] ∧ Same H1 H')
      ⟨_, _, _, _, _, _, rfl, Same.refl _⟩ (fun i σ' H' _ hP => ?_) (fun i x σ' H2 H3 hi hP hY => ?_) (fun σ' H2 hP => ?_)⟩
    · obtain ⟨_, _, _, _, _, _, _, g⟩ := hP
      exact SqL.of (g _ _ (s1 _ _ hl))
    · obtain ⟨y3, y4, y5, y6, y7, y8, rfl, g⟩ := hP
      obtain ⟨A1, x1, x2, rfl, nA, rfl, hx1, hx2⟩ := hY
      obtain rfl : V.int (i : Nat) = x1 := Option.some.inj hx1
      obtain ⟨k, hk, r, p, n, tt, rfl, b1, b2, b3, b4⟩ := paired_get hR hx2
      have sA := same_new nA (o := .tup [.int (i : Nat), .ref r])
      have z := s1.trans (g.trans sA)
      obtain ⟨Hz, eHz⟩ : ∃ Hz, Hz = upd H2 A1 (.tup [.int (i : Nat), .ref r]) := ⟨_, rfl⟩
      have hA : Hz A1 = some (.tup [.int (i : Nat), .ref r]) := by rw [eHz]; exact upd_same
      rw [← eHz] at z ⊢
      have s13 : Same H1 Hz := by rw [eHz]; exact g.trans sA
      clear eHz sA nA g
      have b1 := z _ _ b1
      have b2 := b2.same z
      have b3 := b3.same z
      have b4 := b4.same z
      have hlz := z _ _ hl
      have htz := z _ _ ht
      have husz := hus.same z
      have hDz := s13 _ _ hD
      have hdue : Dq Hz (.ref t) (.tuple es) := .tup htz husz
      have hRz := Rows.same z hR
      obtain ⟨k2, kN⟩ := his k (List.mem_of_getElem? hk)
      refine ⟨A1, _, rfl, SqT.of hA, rfl, .int (i : Nat), [.ref r], rfl, .ref r, [], rfl, rfl, ?_⟩
      refine ⟨.ref r, rfl, r, _, rfl, SqT.of b1, rfl, .ref p, _, rfl, .ref n, _, rfl, .ref tt, _, rfl, .str (wdP k), [], rfl, rfl, ?_⟩
      -- its parts, its word
      refine ⟨.ref tt, rfl, .ref tt, .tuple es, rfl, b4, rp.1, rp.2.1, rp.2.2, .ref t, rfl, .ref t, .tuple es, rfl, hdue, rp.1, rp.2.1, rp.2.2, rfl, _, rfl, ite2 (fun e => by simp at e) (fun _ => ?_)⟩
      refine fld_q Z kN b2 (by rfl) fun tp htp => ?_
      refine ⟨.ref tp, .tuple es, rfl, htp, rp.1, rp.2.1, rp.2.2, .ref t, rfl, .ref t, .tuple es, rfl, hdue, rp.1, rp.2.1, rp.2.2, rfl, _, rfl, ite2 (fun e => by simp at e) (fun _ => ?_)⟩
      refine fld_o Z kN b2 (by rfl) ?_
      refine ⟨.str (wdP k), rfl, rfl, _, rfl, ite2 (fun e => by simp at e) (fun _ => ?_)⟩
      refine fld_o Z kN b3 (by rfl) ?_
      refine ⟨.str (wdP k), rfl, rfl, _, rfl, ite2 (fun e => by simp at e) (fun _ => ?_)⟩
      -- equal, true or false
      refine ⟨.ref p, rfl, .ref n, rfl, eq_pp Z kN kN b2 b3 hel hel t14 t14 ?_⟩
      refine ⟨_, rfl, ite2 (fun e => ?_) (fun _ => ?_)⟩
      · rw [ev] at e
        simp at e
      refine fld_q Z kN b3 (by rfl) fun tq htq => ?_
      refine ⟨.ref tq, .tuple es, rfl, htq, rp.1, rp.2.1, rp.2.2, .ref t, rfl, .ref t, .tuple es, rfl, hdue, rp.1, rp.2.1, rp.2.2, rfl, _, rfl, ite2 (fun e => by simp at e) (fun _ => ?_)⟩
      refine ⟨.ref p, rfl, ?_⟩
      dsimp only [tNil]
      refine bool_p Z kN b2 ?_
      have dn := den_of k kN k2
      refine ⟨.str (wdP k), rfl, .ref D, rfl, D, denL, rfl, .inl (SqL.of hDz), rfl, den_flat, ?_⟩
      rw [if_pos rfl, dn]
      refine ⟨rfl, _, rfl, ite2 (fun e => by simp at e) (fun _ => ?_)⟩
      -- its classes
      obtain ⟨pus, pt, ⟨pdx, pfs, ph1, ph2, ph3⟩, ph4, ph5⟩ := id b2
      have jj := Z.ic k kN
      refine ⟨.ref p, rfl, .inl ⟨.ref p, .ref (c 1), .ref (c k), .ref (c 1), belP k 1, rfl, .own _, .base (.ins ph1 jj.cl jj.ha jj.hn jj.htk jj.hm), Z.kin k 1 kN (by decide), ?_⟩⟩
      refine ⟨.str (wdP k), rfl, .ref D, rfl, D, denL, rfl, .inl (SqL.of hDz), rfl, den_flat, ?_⟩
      rw [if_neg (by decide), dn]
      refine ⟨rfl, _, rfl, ite2 (fun e => by simp at e) (fun _ => ?_)⟩
      have b0 : belP k 0 = true := by simp [belP]
      refine ⟨.ref p, rfl, .inl ⟨.ref p, .ref (c 0), .ref (c k), .ref (c 0), belP k 0, rfl, .own _, .base (.ins ph1 jj.cl jj.ha jj.hn jj.htk jj.hm), Z.kin k 0 kN (by decide), ?_⟩⟩
      rw [b0]
      refine ⟨_, rfl, ite2 (fun e => nomatch e) (fun _ => ?_)⟩
      -- unlike all others
      refine ⟨.ref l, rfl, l, rs, rfl, SqL.of hlz, fun D5 nD5 => lc_it (walk_enum (xs := rs)) (fun j H' => Same Hz H' ∧ H' D5 = some (.lst [])) ⟨same_new nD5, upd_same⟩ (fun j H' _ hP => SqL.of (hP.1 _ _ hlz)) (fun j y H5 H6 hj hP hY => ?_) (fun H5 hP => ?_)⟩
      · obtain ⟨g1, g2⟩ := hP
        obtain ⟨A2, x1, x2, rfl, nA2, rfl, hy1, hy2⟩ := hY
        obtain rfl : V.int (j : Nat) = x1 := Option.some.inj hy1
        obtain ⟨k', hk', r', p', n', tt', rfl, c1, c2, c3, c4⟩ := paired_get hRz hy2
        have sA2 := same_new nA2 (o := .tup [.int (j : Nat), .ref r'])
        have gz := g1.trans sA2
        obtain ⟨k2', kN'⟩ := his k' (List.mem_of_getElem? hk')
        have fin : Same Hz (upd H5 A2 (.tup [.int (j : Nat), .ref r'])) ∧ (upd H5 A2 (.tup [.int (j : Nat), .ref r'])) D5 = some (.lst []) := ⟨gz, sA2 _ _ g2⟩
        refine ⟨A2, _, rfl, SqT.of upd_same, rfl, .int (j : Nat), [.ref r'], rfl, .ref r', [], rfl, rfl, rfl, ?_⟩
        refine ⟨.int (j : Nat), rfl, .int (i : Nat), rfl, rfl, _, rfl, ite2 (fun e => ?_) (fun e => ?_)⟩
        · have hji : j ≠ i := fun z => by
            rw [z] at e
            simp at e
          have hkk : k' ≠ k := fun z => by
            rw [z] at hk'
            have hlt : j < is.length := (List.getElem?_eq_some_iff.mp hk').1
            exact hji ((List.getElem?_inj hlt hnd).mp (hk'.trans hk.symm))
          refine ⟨.ref r', rfl, r', _, 0, .ref p', rfl, rfl, SqT.of (gz _ _ c1), atI_nat (j := 0) rfl, .ref p, rfl, ?_⟩
          refine eq_pp Z kN' kN (c2.same gz) (b2.same gz) hel hel t14 t14 ?_
          refine ⟨_, rfl, ?_⟩
          rw [decide_eq_false hkk, Bool.false_and]
          exact no_if rfl fin
        · exact no_if rfl fin
      · obtain ⟨g1, g2⟩ := hP
        refine ⟨by show 0 ≤ sizeLine; decide, fun p0 n0 _ => ?_⟩
        have s0 := same_new n0 (o := .lst [])
        refine ⟨.list [], .list [], .lst (SqL.of (s0 _ _ g2)) .nil, .lst (SqL.of upd_same) .nil, by decide +kernel, by decide +kernel, _, rfl, ite2 (fun e => ?_) (fun _ => ?_)⟩
        · rw [show PyData.eqv (.list []) (.list []) = true by decide +kernel] at e
          cases e
        have g9 := g1.trans s0
        refine ⟨.ref p, rfl, .ref t, rfl, eq_pt Z kN (b2.same g9) (g9 _ _ htz) hel t14 ?_⟩
        refine ⟨_, rfl, ite2 (fun e => nomatch e) (fun _ => ?_)⟩
        exact ⟨_, _, _, _, _, _, rfl, s13.trans g9⟩
    · exact q _ (s1.trans (by obtain ⟨_, _, _, _, _, _, _, g⟩ := hP; exact g))
end
end K56

set_option Elab.async false
set_option linter.all false
set_option maxRecDepth 100000
set_option maxHeartbeats 4000000
namespace K56
open PySem PySem.Spec PyProof.Rows L2 Gd NdefX
theorem cutV_take (xs : List V) (j : Nat) : cutV xs none (some (j : Int)) = xs.take j := by
  unfold cutV
  rw [HT.sIx_none, show HT.sIx xs.length xs.length (some (j : Int)) = min j xs.length from HT.sIx_nat _ _ j, List.drop_zero, Nat.sub_zero]
  by_cases h : j ≤ xs.length
  · rw [Nat.min_eq_left h]
  · rw [Nat.min_eq_right (by omega), List.take_of_length_le (Nat.le_refl _), List.take_of_length_le (by omega)]
theorem cutV_drop (xs : List V) (j : Nat) (h : j ≤ xs.length) : cutV xs (some (j : Int)) none = xs.drop j := by
  unfold cutV
  rw [HT.sIx_none, show HT.sIx xs.length 0 (some (j : Int)) = min j xs.length from HT.sIx_nat _ _ j, Nat.min_eq_left h]
  exact List.take_of_length_le (by rw [List.length_drop] <;> omega)
theorem tp_cases {m : Nat} {d : PyData} (h : Tp m d) : Lf d ∨ ∃ k es, d = .tuple es ∧ ∀ e ∈ es, Tp k e := by
  cases m with
  | zero => exact .inl h
  | succ m =>
    rcases h with h | ⟨es, e, _, h⟩
    · exact .inl h
    · exact .inr ⟨m, es, e, h⟩
theorem eqv_leafT {x : PyData} {ds : List PyData} (h : Lf x) : PyData.eqv x (.tuple ds) = false := by
  cases x <;> first | exact h.elim | simp only [PyData.eqv]
theorem eqv_Tleaf {x : PyData} {ds : List PyData} (h : Lf x) : PyData.eqv (.tuple ds) x = false := by
  cases x <;> first | exact h.elim | simp only [PyData.eqv]
theorem depth_lf {x : PyData} (h : Lf x) : x.depth = 0 := by
  cases x <;> first | exact h.elim | rfl
theorem eqv_depth {n : Nat} : ∀ {x y : PyData} {m : Nat}, Tp n x → Tp m y → PyData.eqv x y = true → x.depth = y.depth := by
  induction n with
  | zero =>
    intro x y m hx hy e
    rcases tp_cases hy with h | ⟨k, es, rfl, h⟩
    · rw [depth_lf hx, depth_lf h]
    · rw [eqv_leafT hx] at e
      cases e
  | succ n ih =>
    intro x y m hx hy e
    rcases hx with hx | ⟨ds, rfl, _, hx⟩
    · rcases tp_cases hy with h | ⟨k, es, rfl, h⟩
      · rw [depth_lf hx, depth_lf h]
      · rw [eqv_leafT hx] at e
        cases e
    · rcases tp_cases hy with h | ⟨k, es, rfl, h⟩
      · rw [eqv_Tleaf h] at e
        cases e
      · have key : ∀ {ds es : List PyData}, (∀ d ∈ ds, Tp n d) → (∀ d ∈ es, Tp k d) → PyData.eqvAll ds es = true → PyData.depthAll ds = PyData.depthAll es := by
          intro ds
          induction ds with
          | nil =>
            intro es _ _ e
            cases es with
            | nil => rfl
            | cons a r => simp only [PyData.eqvAll] at e; cases e
          | cons d ds iv =>
            intro es h1 h2 e
            cases es with
            | nil => simp only [PyData.eqvAll] at e; cases e
            | cons a r =>
              simp only [PyData.eqvAll, Bool.and_eq_true] at e
              simp only [PyData.depthAll, ih (h1 d List.mem_cons_self) (h2 a List.mem_cons_self) e.1, iv (fun z hz => h1 z (List.mem_cons_of_mem _ hz)) (fun z hz => h2 z (List.mem_cons_of_mem _ hz)) e.2]
        simp only [PyData.eqv] at e
        simp only [PyData.depth, key hx h e]
theorem ne_wrap {n : Nat} {e : PyData} (h : Tp n e) : PyData.eqv e (.tuple [e, .int 0]) = false := by
  cases q : PyData.eqv e (.tuple [e, .int 0]) with
  | false => rfl
  | true =>
    exfalso
    have h2 : Tp (n + 1) (.tuple [e, .int 0]) := .inr ⟨_, rfl, by show 2 ≤ 5; decide, fun z hz => by
      simp only [List.mem_cons, List.not_mem_nil, or_false] at hz
      rcases hz with rfl | rfl
      · exact h
      · exact Tp.leaf (show (0 : Int).natAbs < 10 ^ 30 by decide)⟩
    have z := eqv_depth h h2 q
    simp only [PyData.depth, PyData.depthAll] at z
    omega
/-- two rows of one class, whose parts differ -/
def RowD (c : Nat → Addr) (H : Hp) (v v' : V) : Prop := ∃ i es es', i < 35 ∧ RowA c es H v i ∧ RowA c es' H v' i ∧ PyData.eqv (.tuple es) (.tuple es') = false ∧ es.length ≤ 5 ∧ es'.length ≤ 5 ∧ (∀ e ∈ es, Tp 14 e) ∧ (∀ e ∈ es', Tp 14 e)
abbrev RowsD (c : Nat → Addr) (H : Hp) (rs os : List V) : Prop := Paired (RowD c H) rs os
theorem RowD.same {c : Nat → Addr} {H H' : Hp} {v v' : V} (s : Same H H') (h : RowD c H v v') : RowD c H' v v' := by
  obtain ⟨i, es, es', h1, h2, h3, h4⟩ := h
  exact ⟨i, es, es', h1, h2.same s, h3.same s, h4⟩
theorem RowsD.same {c : Nat → Addr} {H H' : Hp} (s : Same H H') : ∀ {rs os : List V}, RowsD c H rs os → RowsD c H' rs os
  | _, _, .nil => .nil
  | _, _, .cons a b => .cons (a.same s) (RowsD.same s b)
theorem rowd_app {c : Nat → Addr} {H : Hp} : ∀ {rs rs' os os' : List V}, RowsD c H rs os → RowsD c H rs' os' → RowsD c H (rs ++ rs') (os ++ os')
  | _, _, _, _, .nil, h => h
  | _, _, _, _, .cons a b, h => .cons a (rowd_app b h)
theorem rowd_of {c : Nat → Addr} {H : Hp} {es es' : List PyData} (ne : PyData.eqv (.tuple es) (.tuple es') = false) (l1 : es.length ≤ 5) (l2 : es'.length ≤ 5) (t1 : ∀ e ∈ es, Tp 14 e) (t2 : ∀ e ∈ es', Tp 14 e) :
    ∀ {rs os : List V} {is : List Nat}, (∀ i ∈ is, i < 35) → Rows c es H rs is → Rows c es' H os is → RowsD c H rs os
  | _, _, _, _, .nil, .nil => .nil
  | _, _, _, hi, .cons a b, .cons a' b' => .cons ⟨_, es, es', hi _ List.mem_cons_self, a, a', ne, l1, l2, t1, t2⟩ (rowd_of ne l1 l2 t1 t2 (fun i h => hi i (List.mem_cons_of_mem _ h)) b b')
theorem tps {ds : List PyData} (h : ∀ d ∈ ds, Sh 3 d) : ∀ e ∈ ds.map (fx 7), Tp 14 e := fun e he => (all_tp h (show 3 ≤ 7 by decide) e he).le (by decide)
theorem lens {ds : List PyData} (h : ds.length ≤ 5) : (ds.map (fx 7)).length ≤ 5 := by rw [List.length_map]; exact h
/-- what parts and other parts are -/
def Dif (s : Nat) (d0 d1 d2 d3 d4 e0 e1 e2 e3 e4 : PyData) : Prop := PyData.eqv (.tuple ([d0, d1, d2, d3, d4].map (fx 7))) (.tuple ([e0, e1, e2, e3, e4].map (fx 7))) = false ∧
  (s < 4 → PyData.eqv (.tuple ([d0, d1, d2, d3].map (fx 7))) (.tuple ([e0, e1, e2, e3].map (fx 7))) = false) ∧ (s < 3 → PyData.eqv (.tuple ([d0, d1, d2].map (fx 7))) (.tuple ([e0, e1, e2].map (fx 7))) = false) ∧
  (s < 2 → PyData.eqv (.tuple ([d0, d1].map (fx 7))) (.tuple ([e0, e1].map (fx 7))) = false) ∧ (s < 1 → PyData.eqv (.tuple ([d0].map (fx 7))) (.tuple ([e0].map (fx 7))) = false)
theorem ne_fx {d : PyData} (h : Sh 2 d) : PyData.eqv (fx 7 d) (fx 7 (.list [d, .int 0])) = false := by
  show PyData.eqv (fx 7 d) (.tuple [fx 6 d, fx 6 (.int 0)]) = false
  rw [fx_leaf (show Lf (.int 0) from (show (0 : Int).natAbs < 10 ^ 30 by decide)), fx_stab h (show 2 ≤ 6 by decide), ← fx_stab h (show 2 ≤ 7 by decide)]
  exact ne_wrap (fx_tpm h (show 2 ≤ 7 by decide))
def spUR (c : Nat → Addr) : Sp := fun vs H Q _ => ∃ (w a : Addr) (ns : List Int) (N : Nat) (L : Addr) (v0 v1 v2 v3 v4 : V) (d0 d1 d2 d3 d4 : PyData), vs = [.ref w, .ref L] ∧ Wl ns w a N H ∧ N + 1 ≤ 900000 ∧ L ≠ w ∧ H L = some (.lst [v0, v1, v2, v3, v4]) ∧
  DqAll (hid w H) [v0, v1, v2, v3, v4] [d0, d1, d2, d3, d4] ∧ (∀ d ∈ [d0, d1, d2, d3, d4], Sh 2 d) ∧ ∀ H' : Hp, Kp w H H' → Wl ns w a (N + 1) H' → Q (.bl true) H'
theorem hid_kp {w : Addr} {H H' : Hp} (k : Kp w H H') : Same (hid w H) (hid w H') := fun b o e => by
  by_cases z : b = w
  · unfold hid at e
    rw [if_pos z] at e
    cases e
  · rw [hid_ne z] at e ⊢
    exact k b o z e
section
variable {P : Program} {w : World} {K : PySem.W.Frag} {mg : Str → Option Value} {base : Heap} {c f cc cda : Nat → Addr} {fE fB : Addr}
theorem ok_unlike (T : Txt K mg) (Z : Tz P K mg c f cc cda fE fB) (G__law_drip : Gd.Cal P w K mg base 1 "_law_drip" spDip) (G__law_ones : Gd.Cal P w K mg base 14 "_law_ones" (spOnes c)) (G__law_twos : Gd.Cal P w K mg base 14 "_law_twos" (spTwos c))
    (G__law_threes : Gd.Cal P w K mg base 14 "_law_threes" (spThrees c)) (G__law_more : Gd.Cal P w K mg base 14 "_law_more" (spMore c)) : Gd.Cal P w K mg base 15 "_law_unlike_right" (spUR c) := by
  obtain ⟨fp, fd, F, b⟩ := T.d_law_unlike_right
  refine cal F b sc_law_unlike_right (fun vs H Q E h => ?_) (fun cdv A outer s H vs Q E hgd hr h => ?_)
  · obtain ⟨w, a, ns, N, L, _, _, _, _, _, _, _, _, _, _, rfl, _⟩ := h
    rfl
  · have nd := sc_law_unlike_right.nd
    have hu := hu_of hr
    have FE := fn_eq (w := w) (base := base) T Z
    have hr1 := hr.mono (show 1 ≤ 14 by decide)
    obtain ⟨w, a, ns, N, L, v0, v1, v2, v3, v4, d0, d1, d2, d3, d4, rfl, hW, hN, hLw, hL, hA, hS, q⟩ := h
    refine ⟨_, (C8.pss_cut (ps_set (i := 2) nd rfl (.inl rfl) (pc G__law_drip hgd hr (by omega) (by rfl) (pa_cons (pv 0) (pa_cons pe_int pa_nil))))
      (C8.pss_cut (ps_set (i := 3) nd rfl (.inl rfl) (pe_op op_cat (pe_op op_cat (pe_slice sl_list (pv 1) po_none (po_some (pv 2))) (pe_lstX (pa_cons (pe_lstX (pa_cons (pe_ix ix_list (pv 1) (pv 2) (fun _ _ => rfl)) (pa_cons pe_int pa_nil))) pa_nil))) (pe_slice sl_list (pv 1) (po_some (pe_op op_add (pv 2) pe_int)) po_none)))
      (C8.pss_cut (ps_asg (pe_tup (pa_cons (pc G__law_more hgd hr (by omega) (by rfl) (pa_cons (pe_ix ix_list (pv 1) pe_int (fun _ _ => rfl)) (pa_cons (pe_ix ix_list (pv 1) pe_int (fun _ _ => rfl)) (pa_cons (pe_ix ix_list (pv 1) pe_int (fun _ _ => rfl)) (pa_cons (pe_ix ix_list (pv 1) pe_int (fun _ _ => rfl)) (pa_cons (pe_ix ix_list (pv 1) pe_int (fun _ _ => rfl)) pa_nil)))))) (pa_cons (pc G__law_more hgd hr (by omega) (by rfl) (pa_cons (pe_ix ix_list (pv 3) pe_int (fun _ _ => rfl)) (pa_cons (pe_ix ix_list (pv 3) pe_int (fun _ _ => rfl)) (pa_cons (pe_ix ix_list (pv 3) pe_int (fun _ _ => rfl)) (pa_cons (pe_ix ix_list (pv 3) pe_int (fun _ _ => rfl)) (pa_cons (pe_ix ix_list (pv 3) pe_int (fun _ _ => rfl)) pa_nil)))))) pa_nil))) (pg_tup rfl (pgs_cons (pg_name (i := 4) nd rfl (Or.inl rfl)) (pgs_cons (pg_name (i := 5) nd rfl (Or.inr rfl)) pgs_nil))))
      (C8.pss_cut (ps_asg (pe_tup (pa_cons (pe_ifExp (pt_cmpR op_eq (pv 2) pe_int (nomark _)) (pe_slice sl_list (pv 4) (po_some pe_int) po_none) (pv 4)) (pa_cons (pe_ifExp (pt_cmpR op_eq (pv 2) pe_int (nomark _)) (pe_slice sl_list (pv 5) (po_some pe_int) po_none) (pv 5)) pa_nil))) (pg_tup rfl (pgs_cons (pg_name (i := 4) nd rfl (Or.inl rfl)) (pgs_cons (pg_name (i := 5) nd rfl (Or.inr rfl)) pgs_nil))))
      (C8.pss_cut (ps_if (pt_cmpR op_lt (pv 2) pe_int (nomark _)) (pss_one (ps_asg (pe_tup (pa_cons (pe_op op_cat (pv 4) (pc G__law_threes hgd hr (by omega) (by rfl) (pa_cons (pe_ix ix_list (pv 1) pe_int (fun _ _ => rfl)) (pa_cons (pe_ix ix_list (pv 1) pe_int (fun _ _ => rfl)) (pa_cons (pe_ix ix_list (pv 1) pe_int (fun _ _ => rfl)) pa_nil))))) (pa_cons (pe_op op_cat (pv 5) (pc G__law_threes hgd hr (by omega) (by rfl) (pa_cons (pe_ix ix_list (pv 3) pe_int (fun _ _ => rfl)) (pa_cons (pe_ix ix_list (pv 3) pe_int (fun _ _ => rfl)) (pa_cons (pe_ix ix_list (pv 3) pe_int (fun _ _ => rfl)) pa_nil))))) pa_nil))) (pg_tup rfl (pgs_cons (pg_name (i := 4) nd rfl (Or.inl rfl)) (pgs_cons (pg_name (i := 5) nd rfl (Or.inr rfl)) pgs_nil))))) pss_nil)
      (C8.pss_cut (ps_if (pt_cmpR op_lt (pv 2) pe_int (nomark _)) (pss_one (ps_asg (pe_tup (pa_cons (pe_op op_cat (pv 4) (pc G__law_twos hgd hr (by omega) (by rfl) (pa_cons (pe_ix ix_list (pv 1) pe_int (fun _ _ => rfl)) (pa_cons (pe_ix ix_list (pv 1) pe_int (fun _ _ => rfl)) pa_nil)))) (pa_cons (pe_op op_cat (pv 5) (pc G__law_twos hgd hr (by omega) (by rfl) (pa_cons (pe_ix ix_list (pv 3) pe_int (fun _ _ => rfl)) (pa_cons (pe_ix ix_list (pv 3) pe_int (fun _ _ => rfl)) pa_nil)))) pa_nil))) (pg_tup rfl (pgs_cons (pg_name (i := 4) nd rfl (Or.inl rfl)) (pgs_cons (pg_name (i := 5) nd rfl (Or.inr rfl)) pgs_nil))))) pss_nil)
      (C8.pss_cut (ps_if (pt_cmpR op_lt (pv 2) pe_int (nomark _)) (pss_one (ps_asg (pe_tup (pa_cons (pe_op op_cat (pv 4) (pc G__law_ones hgd hr (by omega) (by rfl) (pa_cons (pe_ix ix_list (pv 1) pe_int (fun _ _ => rfl)) pa_nil))) (pa_cons (pe_op op_cat (pv 5) (pc G__law_ones hgd hr (by omega) (by rfl) (pa_cons (pe_ix ix_list (pv 3) pe_int (fun _ _ => rfl)) pa_nil))) pa_nil))) (pg_tup rfl (pgs_cons (pg_name (i := 4) nd rfl (Or.inl rfl)) (pgs_cons (pg_name (i := 5) nd rfl (Or.inr rfl)) pgs_nil))))) pss_nil)
      (pss_one (ps_ret (pe_cmpR (op_eqD hr.units) (pe_lc (own := [("_law_at", 6), ("_law_row", 7)]) (g := gTup K 2 (gCons (gName 6) (gCons (gName 7) gNil))) rfl nd (pi_enum (by rfl) T.z_enumerate (pa_cons (pv 4) pa_nil)) (blkOk_by (own := [("_law_at", 6), ("_law_row", 7)]) (N := ["_law_font_here", "_law_parts", "_law_spot", "_law_more_here", "_law_rows", "_law_others", "_law_at", "_law_row"]) (sc := (C8.fnScope s_law_unlike_right)) (by decide +kernel)) (fun _ _ _ _ _ => (pg_tup rfl (pgs_cons (pg_name (i := 6) nd rfl (Or.inl rfl)) (pgs_cons (pg_name (i := 7) nd rfl (Or.inl rfl)) pgs_nil)))) (fun _ _ _ _ _ => pts_one (PW.pt (pw_or (pt_cmpR (show OpR _ _ (rEqO K fE (spEqP c)) from op_eqO FE hr1) (pe_ix (r := rIxT K) ix_tup (pv 7) pe_int (fun _ _ => rfl)) (pe_ix (r := rIxT K) ix_tup (pe_ix (r := rIxL K) ix_list (pv 5) (pv 6) (fun _ _ => rfl)) pe_int (fun _ _ => rfl)) (nomark _)) (pw_or1 (pt_not (pt_cmpR (show OpR _ _ (rEqO K fE (spEqP c)) from op_eqO FE hr1) (pe_ix (r := rIxT K) ix_tup (pv 7) pe_int (fun _ _ => rfl)) (pe_ix (r := rIxT K) ix_tup (pv 7) pe_int (fun _ _ => rfl)) (nomark _))))))) (fun _ _ _ _ _ => (pv 6))) (pe_lstX pa_nil) (nomark _))))))))))), ?_⟩
    -- the place
    refine ⟨fun σ' H' => ∃ s : Nat, σ' = [some (.ref w), some (.ref L), some (.int s), none, none, none, none, none] ∧ Kp w H H' ∧ Wl ns w a (N + 1) H' ∧ s < 5, ?_, ?_⟩
    · exact ⟨.ref w, rfl, w, a, ns, N, 5, rfl, hW, by omega, by decide, by decide, fun v H' v0 v1 kp hW' => ⟨v.toNat, by rw [Int.toNat_of_nonneg v0]; rfl, kp, hW', by omega⟩⟩
    rintro σ' H1 ⟨s, rfl, kp1, hW1, hs5⟩
    have hL1 := kp1 _ _ hLw hL
    have A1 : DqAll H1 [v0, v1, v2, v3, v4] [d0, d1, d2, d3, d4] := (hA.same (hid_kp kp1)).same hid_sub
    clear hA hL hW hN
    -- other parts
    refine ⟨fun σ' H' => ∃ (M : Addr) (u0 u1 u2 u3 u4 : V) (e0 e1 e2 e3 e4 : PyData), σ' = [some (.ref w), some (.ref L), some (.int s), some (.ref M), none, none, none, none] ∧ Same H1 H' ∧ H' M = some (.lst [u0, u1, u2, u3, u4]) ∧ DqAll H' [u0, u1, u2, u3, u4] [e0, e1, e2, e3, e4] ∧
      (∀ d ∈ [e0, e1, e2, e3, e4], Sh 3 d) ∧ Dif s d0 d1 d2 d3 d4 e0 e1 e2 e3 e4, ?_, ?_⟩
    · obtain ⟨vS, dS, hvS, hdS, gS⟩ : ∃ vS dS, [v0, v1, v2, v3, v4][s]? = some vS ∧ [d0, d1, d2, d3, d4][s]? = some dS ∧ Dq H1 vS dS := by
        obtain ⟨dS, hdS⟩ : ∃ dS, [d0, d1, d2, d3, d4][s]? = some dS := ⟨_, List.getElem?_eq_getElem hs5⟩
        obtain ⟨vS, hvS, g⟩ := all_geti A1 hdS
        exact ⟨vS, dS, hvS, hdS, g⟩
      have hsS : Sh 2 dS := hS dS (List.mem_of_getElem? hdS)
      refine ⟨.ref L, rfl, .int s, rfl, s, rfl, L, _, rfl, SqL.of hL1, fun p1 n1 => ?_⟩
      rw [cutV_take]
      have S1 := same_new n1 (o := .lst ([v0, v1, v2, v3, v4].take s))
      refine ⟨.ref L, rfl, .int s, rfl, L, _, s, vS, rfl, rfl, SqL.of (S1 _ _ hL1), atI_nat hvS, by show 2 ≤ sizeLine; decide, fun p2 n2 _ => ⟨by show 1 ≤ sizeLine; decide, fun p3 n3 _ => ?_⟩⟩
      have S2 := same_new n2 (o := .lst [vS, .int 0])
      have S3 := same_new n3 (o := .lst [.ref p2])
      refine ⟨p1, p3, _, [.ref p2], rfl, rfl, S3 _ _ (S2 _ _ upd_same), upd_same, sm1000 (by rw [List.length_take]; show _ + 1 ≤ 1000; omega), fun p4 n4 => ?_⟩
      have S4 := same_new n4 (o := .lst ([v0, v1, v2, v3, v4].take s ++ [.ref p2]))
      have S14 := S1.trans (S2.trans (S3.trans S4))
      refine ⟨.ref L, rfl, .int s, rfl, s, 1, rfl, rfl, (s : Int) + 1, rfl, L, _, rfl, SqL.of (S14 _ _ hL1), fun p5 n5 => ?_⟩
      rw [show ((s : Int) + 1) = ((s + 1 : Nat) : Int) from rfl, cutV_drop _ _ (by show s + 1 ≤ 5; omega)]
      have S5 := same_new n5 (o := .lst ([v0, v1, v2, v3, v4].drop (s + 1)))
      refine ⟨p4, p5, _, _, rfl, rfl, S5 _ _ upd_same, upd_same, sm1000 (by rw [List.length_append, List.length_take, List.length_drop]; show min s 5 + 1 + (5 - (s + 1)) ≤ 1000; omega), fun M nM => ?_⟩
      have S6 := same_new nM (o := .lst ([v0, v1, v2, v3, v4].take s ++ [.ref p2] ++ [v0, v1, v2, v3, v4].drop (s + 1)))
      have S16 := S14.trans (S5.trans S6)
      have S26 := S3.trans (S4.trans (S5.trans S6))
      have B := A1.same S16
      have hN : Dq (upd (upd (upd (upd (upd (upd H1 p1 (.lst ([v0, v1, v2, v3, v4].take s))) p2 (.lst [vS, .int 0])) p3 (.lst [.ref p2])) p4 (.lst ([v0, v1, v2, v3, v4].take s ++ [.ref p2]))) p5 (.lst ([v0, v1, v2, v3, v4].drop (s + 1)))) M (.lst ([v0, v1, v2, v3, v4].take s ++ [.ref p2] ++ [v0, v1, v2, v3, v4].drop (s + 1)))) (.ref p2) (.list [dS, .int 0]) :=
        .lst (S26 _ _ upd_same) (.cons (gS.same S16) (.cons (.int 0) .nil))
      have hN3 : Sh 3 (.list [dS, .int 0]) := .inr (.inl ⟨_, .inl rfl, by show 2 ≤ 5; decide, fun e he => by
        simp only [List.mem_cons, List.not_mem_nil, or_false] at he
        rcases he with rfl | rfl
        · exact hsS
        · exact Sh.leaf (show (0 : Int).natAbs < 10 ^ 30 by decide)⟩)
      have nf := ne_fx hsS
      have hS3 : ∀ d ∈ [d0, d1, d2, d3, d4], Sh 3 d := fun d hd => (hS d hd).le (by decide)
      cases B with
      | cons b0 B =>
      cases B with
      | cons b1 B =>
      cases B with
      | cons b2 B =>
      cases B with
      | cons b3 B =>
      cases B with
      | cons b4 B =>
      match s, hs5, hvS, hdS with
      | 0, _, hvS, hdS =>
        obtain rfl : v0 = vS := Option.some.inj hvS
        obtain rfl : d0 = dS := Option.some.inj hdS
        refine ⟨M, .ref p2, v1, v2, v3, v4, .list [d0, .int 0], d1, d2, d3, d4, rfl, S16, upd_same, .cons hN (.cons b1 (.cons b2 (.cons b3 (.cons b4 .nil)))), fun d hd => ?_, ?_, fun _ => by simp only [List.map, PyData.eqv, PyData.eqvAll, nf, Bool.false_and, Bool.and_false], fun _ => by simp only [List.map, PyData.eqv, PyData.eqvAll, nf, Bool.false_and, Bool.and_false], fun _ => by simp only [List.map, PyData.eqv, PyData.eqvAll, nf, Bool.false_and, Bool.and_false], fun _ => by simp only [List.map, PyData.eqv, PyData.eqvAll, nf, Bool.false_and, Bool.and_false]⟩
        · simp only [List.mem_cons, List.not_mem_nil, or_false] at hd
          rcases hd with rfl | rfl | rfl | rfl | rfl
          · exact hN3
          · exact hS3 _ (by simp)
          · exact hS3 _ (by simp)
          · exact hS3 _ (by simp)
          · exact hS3 _ (by simp)
        · simp only [List.map, PyData.eqv, PyData.eqvAll, nf, Bool.false_and, Bool.and_false]
      | 1, _, hvS, hdS =>
        obtain rfl : v1 = vS := Option.some.inj hvS
        obtain rfl : d1 = dS := Option.some.inj hdS
        refine ⟨M, v0, .ref p2, v2, v3, v4, d0, .list [d1, .int 0], d2, d3, d4, rfl, S16, upd_same, .cons b0 (.cons hN (.cons b2 (.cons b3 (.cons b4 .nil)))), fun d hd => ?_, ?_, fun _ => by simp only [List.map, PyData.eqv, PyData.eqvAll, nf, Bool.false_and, Bool.and_false], fun _ => by simp only [List.map, PyData.eqv, PyData.eqvAll, nf, Bool.false_and, Bool.and_false], fun _ => by simp only [List.map, PyData.eqv, PyData.eqvAll, nf, Bool.false_and, Bool.and_false], fun h => absurd h (by decide)⟩
        · simp only [List.mem_cons, List.not_mem_nil, or_false] at hd
          rcases hd with rfl | rfl | rfl | rfl | rfl
          · exact hS3 _ (by simp)
          · exact hN3
          · exact hS3 _ (by simp)
          · exact hS3 _ (by simp)
          · exact hS3 _ (by simp)
        · simp only [List.map, PyData.eqv, PyData.eqvAll, nf, Bool.false_and, Bool.and_false]
      | 2, _, hvS, hdS =>
        obtain rfl : v2 = vS := Option.some.inj hvS
        obtain rfl : d2 = dS := Option.some.inj hdS
        refine ⟨M, v0, v1, .ref p2, v3, v4, d0, d1, .list [d2, .int 0], d3, d4, rfl, S16, upd_same, .cons b0 (.cons b1 (.cons hN (.cons b3 (.cons b4 .nil)))), fun d hd => ?_, ?_, fun _ => by simp only [List.map, PyData.eqv, PyData.eqvAll, nf, Bool.false_and, Bool.and_false], fun _ => by simp only [List.map, PyData.eqv, PyData.eqvAll, nf, Bool.false_and, Bool.and_false], fun h => absurd h (by decide), fun h => absurd h (by decide)⟩
        · simp only [List.mem_cons, List.not_mem_nil, or_false] at hd
          rcases hd with rfl | rfl | rfl | rfl | rfl
          · exact hS3 _ (by simp)
          · exact hS3 _ (by simp)
          · exact hN3
          · exact hS3 _ (by simp)
          · exact hS3 _ (by simp)
        · simp only [List.map, PyData.eqv, PyData.eqvAll, nf, Bool.false_and, Bool.and_false]
      | 3, _, hvS, hdS =>
        obtain rfl : v3 = vS := Option.some.inj hvS
        obtain rfl : d3 = dS := Option.some.inj hdS
        refine ⟨M, v0, v1, v2, .ref p2, v4, d0, d1, d2, .list [d3, .int 0], d4, rfl, S16, upd_same, .cons b0 (.cons b1 (.cons b2 (.cons hN (.cons b4 .nil)))), fun d hd => ?_, ?_, fun _ => by simp only [List.map, PyData.eqv, PyData.eqvAll, nf, Bool.false_and, Bool.and_false], fun h => absurd h (by decide), fun h => absurd h (by decide), fun h => absurd h (by decide)⟩
        · simp only [List.mem_cons, List.not_mem_nil, or_false] at hd
          rcases hd with rfl | rfl | rfl | rfl | rfl
          · exact hS3 _ (by simp)
          · exact hS3 _ (by simp)
          · exact hS3 _ (by simp)
          · exact hN3
          · exact hS3 _ (by simp)
        · simp only [List.map, PyData.eqv, PyData.eqvAll, nf, Bool.false_and, Bool.and_false]
      | 4, _, hvS, hdS =>
        obtain rfl : v4 = vS := Option.some.inj hvS
        obtain rfl : d4 = dS := Option.some.inj hdS
        refine ⟨M, v0, v1, v2, v3, .ref p2, d0, d1, d2, d3, .list [d4, .int 0], rfl, S16, upd_same, .cons b0 (.cons b1 (.cons b2 (.cons b3 (.cons hN .nil)))), fun d hd => ?_, ?_, fun h => absurd h (by decide), fun h => absurd h (by decide), fun h => absurd h (by decide), fun h => absurd h (by decide)⟩
        · simp only [List.mem_cons, List.not_mem_nil, or_false] at hd
          rcases hd with rfl | rfl | rfl | rfl | rfl
          · exact hS3 _ (by simp)
          · exact hS3 _ (by simp)
          · exact hS3 _ (by simp)
          · exact hS3 _ (by simp)
          · exact hN3
        · simp only [List.map, PyData.eqv, PyData.eqvAll, nf, Bool.false_and, Bool.and_false]
    rintro σ' H2 ⟨M, u0, u1, u2, u3, u4, e0, e1, e2, e3, e4, rfl, s12, hM, B2, hS', dif⟩
    have hL2 := s12 _ _ hL1
    have A2 := A1.same s12
    obtain ⟨D5, D4, D3, D2, D1⟩ := dif
    have hS3 : ∀ d ∈ [d0, d1, d2, d3, d4], Sh 3 d := fun d hd => (hS d hd).le (by decide)
    cases A2 with
    | cons a0 A2 =>
    cases A2 with
    | cons a1 A2 =>
    cases A2 with
    | cons a2 A2 =>
    cases A2 with
    | cons a3 A2 =>
    cases A2 with
    | cons a4 A2 =>
    cases B2 with
    | cons b0 B2 =>
    cases B2 with
    | cons b1 B2 =>
    cases B2 with
    | cons b2 B2 =>
    cases B2 with
    | cons b3 B2 =>
    cases B2 with
    | cons b4 B2 =>
    have hd0 : Sh 3 d0 := hS3 _ (by simp)
    have he0 : Sh 3 e0 := hS' _ (by simp)
    have hd1 : Sh 3 d1 := hS3 _ (by simp)
    have he1 : Sh 3 e1 := hS' _ (by simp)
    have hd2 : Sh 3 d2 := hS3 _ (by simp)
    have he2 : Sh 3 e2 := hS' _ (by simp)
    have hd3 : Sh 3 d3 := hS3 _ (by simp)
    have he3 : Sh 3 e3 := hS' _ (by simp)
    have hd4 : Sh 3 d4 := hS3 _ (by simp)
    have he4 : Sh 3 e4 := hS' _ (by simp)
    have td1 : ∀ d ∈ [d0], Sh 3 d := by
      intro d hd
      simp only [List.mem_cons, List.not_mem_nil, or_false] at hd
      rcases hd with rfl <;> assumption
    have te1 : ∀ d ∈ [e0], Sh 3 d := by
      intro d hd
      simp only [List.mem_cons, List.not_mem_nil, or_false] at hd
      rcases hd with rfl <;> assumption
    have td2 : ∀ d ∈ [d0, d1], Sh 3 d := by
      intro d hd
      simp only [List.mem_cons, List.not_mem_nil, or_false] at hd
      rcases hd with rfl | rfl <;> assumption
    have te2 : ∀ d ∈ [e0, e1], Sh 3 d := by
      intro d hd
      simp only [List.mem_cons, List.not_mem_nil, or_false] at hd
      rcases hd with rfl | rfl <;> assumption
    have td3 : ∀ d ∈ [d0, d1, d2], Sh 3 d := by
      intro d hd
      simp only [List.mem_cons, List.not_mem_nil, or_false] at hd
      rcases hd with rfl | rfl | rfl <;> assumption
    have te3 : ∀ d ∈ [e0, e1, e2], Sh 3 d := by
      intro d hd
      simp only [List.mem_cons, List.not_mem_nil, or_false] at hd
      rcases hd with rfl | rfl | rfl <;> assumption
    have td4 : ∀ d ∈ [d0, d1, d2, d3], Sh 3 d := by
      intro d hd
      simp only [List.mem_cons, List.not_mem_nil, or_false] at hd
      rcases hd with rfl | rfl | rfl | rfl <;> assumption
    have te4 : ∀ d ∈ [e0, e1, e2, e3], Sh 3 d := by
      intro d hd
      simp only [List.mem_cons, List.not_mem_nil, or_false] at hd
      rcases hd with rfl | rfl | rfl | rfl <;> assumption
    have td5 : ∀ d ∈ [d0, d1, d2, d3, d4], Sh 3 d := by
      intro d hd
      simp only [List.mem_cons, List.not_mem_nil, or_false] at hd
      rcases hd with rfl | rfl | rfl | rfl | rfl <;> assumption
    have te5 : ∀ d ∈ [e0, e1, e2, e3, e4], Sh 3 d := by
      intro d hd
      simp only [List.mem_cons, List.not_mem_nil, or_false] at hd
      rcases hd with rfl | rfl | rfl | rfl | rfl <;> assumption
    -- the rows of the most parts
    refine ⟨fun σ' H' => ∃ (lr lo : Addr) (r0 r1 o0 o1 : V), σ' = [some (.ref w), some (.ref L), some (.int s), some (.ref M), some (.ref lr), some (.ref lo), none, none] ∧ Same H2 H' ∧ H' lr = some (.lst [r0, r1]) ∧ H' lo = some (.lst [o0, o1]) ∧
      RowA c ([d0, d1, d2, d3].map (fx 7)) H' r0 15 ∧ RowA c ([d0, d1, d2, d3, d4].map (fx 7)) H' r1 25 ∧ RowA c ([e0, e1, e2, e3].map (fx 7)) H' o0 15 ∧ RowA c ([e0, e1, e2, e3, e4].map (fx 7)) H' o1 25, ?_, ?_⟩
    · refine ⟨.ref L, rfl, L, _, 0, v0, rfl, rfl, SqL.of hL2, atI_nat (j := 0) rfl, .ref L, rfl, L, _, 1, v1, rfl, rfl, SqL.of hL2, atI_nat (j := 1) rfl, .ref L, rfl, L, _, 2, v2, rfl, rfl, SqL.of hL2, atI_nat (j := 2) rfl, .ref L, rfl, L, _, 3, v3, rfl, rfl, SqL.of hL2, atI_nat (j := 3) rfl, .ref L, rfl, L, _, 4, v4, rfl, rfl, SqL.of hL2, atI_nat (j := 4) rfl, ?_⟩
      refine ⟨v0, v1, v2, v3, v4, d0, d1, d2, d3, d4, rfl, a0, a1, a2, a3, a4, hd0, hd1, hd2, hd3, hd4, fun lr r0 r1 J1 z1 hlr hr0 hr1' => ?_⟩
      refine ⟨.ref M, rfl, M, _, 0, u0, rfl, rfl, SqL.of (z1 _ _ hM), atI_nat (j := 0) rfl, .ref M, rfl, M, _, 1, u1, rfl, rfl, SqL.of (z1 _ _ hM), atI_nat (j := 1) rfl, .ref M, rfl, M, _, 2, u2, rfl, rfl, SqL.of (z1 _ _ hM), atI_nat (j := 2) rfl, .ref M, rfl, M, _, 3, u3, rfl, rfl, SqL.of (z1 _ _ hM), atI_nat (j := 3) rfl, .ref M, rfl, M, _, 4, u4, rfl, rfl, SqL.of (z1 _ _ hM), atI_nat (j := 4) rfl, ?_⟩
      refine ⟨u0, u1, u2, u3, u4, e0, e1, e2, e3, e4, rfl, b0.same z1, b1.same z1, b2.same z1, b3.same z1, b4.same z1, he0, he1, he2, he3, he4, fun lo o0 o1 J2 z2 hlo ho0 ho1 => ?_⟩
      refine ⟨by show 2 ≤ sizeLine; decide, fun tt nt => ?_⟩
      have z3 := same_new nt (o := .tup [.ref lr, .ref lo])
      have z23 := z2.trans z3
      exact ⟨tt, _, rfl, SqT.of upd_same, rfl, .ref lr, [.ref lo], rfl, .ref lo, [], rfl, rfl, lr, lo, r0, r1, o0, o1, rfl, z1.trans z23, z23 _ _ hlr, z3 _ _ hlo, hr0.same z23, hr1'.same z23, ho0.same z3, ho1.same z3⟩
    rintro σ' H3 ⟨lr, lo, r0, r1, o0, o1, rfl, s23, hlr, hlo, hr0, hr1', ho0, ho1⟩
    have w5 : RowsD c H3 [r1] [o1] := .cons ⟨25, _, _, by decide, hr1', ho1, D5, lens (by show 5 ≤ 5; decide), lens (by show 5 ≤ 5; decide), tps td5, tps te5⟩ .nil
    have w4 : s < 4 → RowsD c H3 [r0, r1] [o0, o1] := fun h => .cons ⟨15, _, _, by decide, hr0, ho0, D4 h, lens (by show 4 ≤ 5; decide), lens (by show 4 ≤ 5; decide), tps td4, tps te4⟩ w5
    -- without the first one, if its parts are alike
    refine ⟨fun σ' H' => ∃ (lr lo : Addr) (rs os : List V), σ' = [some (.ref w), some (.ref L), some (.int s), some (.ref M), some (.ref lr), some (.ref lo), none, none] ∧ Same H3 H' ∧ H' lr = some (.lst rs) ∧ H' lo = some (.lst os) ∧ RowsD c H' rs os ∧ rs.length ≤ 2, ?_, ?_⟩
    · by_cases e4 : s = 4
      · refine ⟨.int s, rfl, rfl, _, rfl, ite2 (fun _ => ?_) (fun e => absurd (decide_eq_true (by rw [e4]; rfl)) e)⟩
        refine ⟨.ref lr, rfl, 1, rfl, lr, _, rfl, SqL.of hlr, fun p1 n1 => ?_⟩
        rw [show (some (1 : Int)) = some ((1 : Nat) : Int) from rfl, cutV_drop _ _ (by show 1 ≤ 2; decide)]
        have z1 := same_new n1 (o := .lst ([r0, r1].drop 1))
        refine ⟨.int s, rfl, rfl, _, rfl, ite2 (fun _ => ?_) (fun e => absurd (decide_eq_true (by rw [e4]; rfl)) e)⟩
        refine ⟨.ref lo, rfl, 1, rfl, lo, _, rfl, SqL.of (z1 _ _ hlo), fun p2 n2 => ?_⟩
        rw [show (some (1 : Int)) = some ((1 : Nat) : Int) from rfl, cutV_drop _ _ (by show 1 ≤ 2; decide)]
        have z2 := same_new n2 (o := .lst ([o0, o1].drop 1))
        refine ⟨by show 2 ≤ sizeLine; decide, fun tt nt => ?_⟩
        have z3 := same_new nt (o := .tup [.ref p1, .ref p2])
        have z23 := z2.trans z3
        exact ⟨tt, _, rfl, SqT.of upd_same, rfl, .ref p1, [.ref p2], rfl, .ref p2, [], rfl, rfl, p1, p2, [r1], [o1], rfl, z1.trans z23, z23 _ _ upd_same, z3 _ _ upd_same, RowsD.same (z1.trans z23) w5, by show 1 ≤ 2; decide⟩
      · have ne : ¬ decide (V.int s = V.int 4) = true := fun e => e4 (by have := V.int.inj (of_decide_eq_true e); omega)
        refine ⟨.int s, rfl, rfl, _, rfl, ite2 (fun e => absurd e ne) (fun _ => ?_)⟩
        refine ⟨.ref lr, rfl, .int s, rfl, rfl, _, rfl, ite2 (fun e => absurd e ne) (fun _ => ?_)⟩
        refine ⟨.ref lo, rfl, by show 2 ≤ sizeLine; decide, fun tt nt => ?_⟩
        have z3 := same_new nt (o := .tup [.ref lr, .ref lo])
        exact ⟨tt, _, rfl, SqT.of upd_same, rfl, .ref lr, [.ref lo], rfl, .ref lo, [], rfl, rfl, lr, lo, [r0, r1], [o0, o1], rfl, z3, z3 _ _ hlr, z3 _ _ hlo, RowsD.same z3 (w4 (by omega)), Nat.le_refl _⟩
    rintro σ' H4 ⟨lr4, lo4, rs4, os4, rfl, s34, hlr4, hlo4, w4', l4⟩
    refine ⟨fun σ' H' => ∃ (lr lo : Addr) (rs os : List V), σ' = [some (.ref w), some (.ref L), some (.int s), some (.ref M), some (.ref lr), some (.ref lo), none, none] ∧ Same H4 H' ∧ H' lr = some (.lst rs) ∧ H' lo = some (.lst os) ∧ RowsD c H' rs os ∧ rs.length ≤ 15, ?_, ?_⟩
    · have ss := (s23.trans s34)
      refine ⟨.int s, rfl, s, 3, rfl, rfl, _, rfl, ite2 (fun e => ?_) (fun e => ?_)⟩
      · have hs : s < 3 := by have := of_decide_eq_true e; omega
        refine ⟨.ref lr4, rfl, .ref L, rfl, L, _, 0, v0, rfl, rfl, SqL.of (ss _ _ hL2), atI_nat (j := 0) rfl, .ref L, rfl, L, _, 1, v1, rfl, rfl, SqL.of (ss _ _ hL2), atI_nat (j := 1) rfl, .ref L, rfl, L, _, 2, v2, rfl, rfl, SqL.of (ss _ _ hL2), atI_nat (j := 2) rfl, ?_⟩
        refine ⟨v0, v1, v2, d0, d1, d2, rfl, a0.same ss, a1.same ss, a2.same ss, hd0, hd1, hd2, fun la ra J1 z1 hla hra => ?_⟩
        refine ⟨lr4, la, rs4, ra, rfl, rfl, z1 _ _ hlr4, hla, sm1000 ?_, fun p1 n1 => ?_⟩
        · have e1 := Paired.length hra
          have : is3.length ≤ 30 := by decide
          omega
        have z2 := same_new n1 (o := .lst (rs4 ++ ra))
        have z12 := z1.trans z2
        refine ⟨.ref lo4, rfl, .ref M, rfl, M, _, 0, u0, rfl, rfl, SqL.of (z12 _ _ (ss _ _ hM)), atI_nat (j := 0) rfl, .ref M, rfl, M, _, 1, u1, rfl, rfl, SqL.of (z12 _ _ (ss _ _ hM)), atI_nat (j := 1) rfl, .ref M, rfl, M, _, 2, u2, rfl, rfl, SqL.of (z12 _ _ (ss _ _ hM)), atI_nat (j := 2) rfl, ?_⟩
        refine ⟨u0, u1, u2, e0, e1, e2, rfl, (b0.same ss).same z12, (b1.same ss).same z12, (b2.same ss).same z12, he0, he1, he2, fun lb rb J2 z3 hlb hrb => ?_⟩
        refine ⟨lo4, lb, os4, rb, rfl, rfl, z3 _ _ (z12 _ _ hlo4), hlb, sm1000 ?_, fun p2 n2 => ?_⟩
        · have e1 := Paired.length hrb
          have e2 := Paired.length w4'
          have : is3.length ≤ 30 := by decide
          omega
        have z4 := same_new n2 (o := .lst (os4 ++ rb))
        refine ⟨by show 2 ≤ sizeLine; decide, fun tt nt => ?_⟩
        have z5 := same_new nt (o := .tup [.ref p1, .ref p2])
        have z45 := z4.trans z5
        have z345 := z3.trans z45
        have zz := z12.trans z345
        refine ⟨tt, _, rfl, SqT.of upd_same, rfl, .ref p1, [.ref p2], rfl, .ref p2, [], rfl, rfl, p1, p2, rs4 ++ ra, os4 ++ rb, rfl, zz, z345 _ _ upd_same, z5 _ _ upd_same, ?_, ?_⟩
        · exact rowd_app (RowsD.same zz w4') (rowd_of (D3 hs) (lens (by show 3 ≤ 5; decide)) (lens (by show 3 ≤ 5; decide)) (tps td3) (tps te3) (by decide) (Rows.same (z2.trans z345) hra) (Rows.same z45 hrb))
        · rw [List.length_append, Paired.length hra]
          have : is3.length = 13 := by decide
          omega
      · exact ⟨lr4, lo4, rs4, os4, rfl, Same.refl _, hlr4, hlo4, w4', by omega⟩
    rintro σ' H5 ⟨lr5, lo5, rs5, os5, rfl, s45, hlr5, hlo5, w5', l5⟩
    refine ⟨fun σ' H' => ∃ (lr lo : Addr) (rs os : List V), σ' = [some (.ref w), some (.ref L), some (.int s), some (.ref M), some (.ref lr), some (.ref lo), none, none] ∧ Same H5 H' ∧ H' lr = some (.lst rs) ∧ H' lo = some (.lst os) ∧ RowsD c H' rs os ∧ rs.length ≤ 25, ?_, ?_⟩
    · have ss := ((s23.trans s34).trans s45)
      refine ⟨.int s, rfl, s, 2, rfl, rfl, _, rfl, ite2 (fun e => ?_) (fun e => ?_)⟩
      · have hs : s < 2 := by have := of_decide_eq_true e; omega
        refine ⟨.ref lr5, rfl, .ref L, rfl, L, _, 0, v0, rfl, rfl, SqL.of (ss _ _ hL2), atI_nat (j := 0) rfl, .ref L, rfl, L, _, 1, v1, rfl, rfl, SqL.of (ss _ _ hL2), atI_nat (j := 1) rfl, ?_⟩
        refine ⟨v0, v1, d0, d1, rfl, a0.same ss, a1.same ss, hd0, hd1, fun la ra J1 z1 hla hra => ?_⟩
        refine ⟨lr5, la, rs5, ra, rfl, rfl, z1 _ _ hlr5, hla, sm1000 ?_, fun p1 n1 => ?_⟩
        · have e1 := Paired.length hra
          have : is2.length ≤ 30 := by decide
          omega
        have z2 := same_new n1 (o := .lst (rs5 ++ ra))
        have z12 := z1.trans z2
        refine ⟨.ref lo5, rfl, .ref M, rfl, M, _, 0, u0, rfl, rfl, SqL.of (z12 _ _ (ss _ _ hM)), atI_nat (j := 0) rfl, .ref M, rfl, M, _, 1, u1, rfl, rfl, SqL.of (z12 _ _ (ss _ _ hM)), atI_nat (j := 1) rfl, ?_⟩
        refine ⟨u0, u1, e0, e1, rfl, (b0.same ss).same z12, (b1.same ss).same z12, he0, he1, fun lb rb J2 z3 hlb hrb => ?_⟩
        refine ⟨lo5, lb, os5, rb, rfl, rfl, z3 _ _ (z12 _ _ hlo5), hlb, sm1000 ?_, fun p2 n2 => ?_⟩
        · have e1 := Paired.length hrb
          have e2 := Paired.length w5'
          have : is2.length ≤ 30 := by decide
          omega
        have z4 := same_new n2 (o := .lst (os5 ++ rb))
        refine ⟨by show 2 ≤ sizeLine; decide, fun tt nt => ?_⟩
        have z5 := same_new nt (o := .tup [.ref p1, .ref p2])
        have z45 := z4.trans z5
        have z345 := z3.trans z45
        have zz := z12.trans z345
        refine ⟨tt, _, rfl, SqT.of upd_same, rfl, .ref p1, [.ref p2], rfl, .ref p2, [], rfl, rfl, p1, p2, rs5 ++ ra, os5 ++ rb, rfl, zz, z345 _ _ upd_same, z5 _ _ upd_same, ?_, ?_⟩
        · exact rowd_app (RowsD.same zz w5') (rowd_of (D2 hs) (lens (by show 2 ≤ 5; decide)) (lens (by show 2 ≤ 5; decide)) (tps td2) (tps te2) (by decide) (Rows.same (z2.trans z345) hra) (Rows.same z45 hrb))
        · rw [List.length_append, Paired.length hra]
          have : is2.length = 10 := by decide
          omega
      · exact ⟨lr5, lo5, rs5, os5, rfl, Same.refl _, hlr5, hlo5, w5', by omega⟩
    rintro σ' H6 ⟨lr6, lo6, rs6, os6, rfl, s56, hlr6, hlo6, w6', l6⟩
    refine ⟨fun σ' H' => ∃ (lr lo : Addr) (rs os : List V), σ' = [some (.ref w), some (.ref L), some (.int s), some (.ref M), some (.ref lr), some (.ref lo), none, none] ∧ Same H6 H' ∧ H' lr = some (.lst rs) ∧ H' lo = some (.lst os) ∧ RowsD c H' rs os ∧ rs.length ≤ 33, ?_, ?_⟩
    · have ss := (((s23.trans s34).trans s45).trans s56)
      refine ⟨.int s, rfl, s, 1, rfl, rfl, _, rfl, ite2 (fun e => ?_) (fun e => ?_)⟩
      · have hs : s < 1 := by have := of_decide_eq_true e; omega
        refine ⟨.ref lr6, rfl, .ref L, rfl, L, _, 0, v0, rfl, rfl, SqL.of (ss _ _ hL2), atI_nat (j := 0) rfl, ?_⟩
        refine ⟨v0, d0, rfl, a0.same ss, hd0, fun la ra J1 z1 hla hra => ?_⟩
        refine ⟨lr6, la, rs6, ra, rfl, rfl, z1 _ _ hlr6, hla, sm1000 ?_, fun p1 n1 => ?_⟩
        · have e1 := Paired.length hra
          have : is1.length ≤ 30 := by decide
          omega
        have z2 := same_new n1 (o := .lst (rs6 ++ ra))
        have z12 := z1.trans z2
        refine ⟨.ref lo6, rfl, .ref M, rfl, M, _, 0, u0, rfl, rfl, SqL.of (z12 _ _ (ss _ _ hM)), atI_nat (j := 0) rfl, ?_⟩
        refine ⟨u0, e0, rfl, (b0.same ss).same z12, he0, fun lb rb J2 z3 hlb hrb => ?_⟩
        refine ⟨lo6, lb, os6, rb, rfl, rfl, z3 _ _ (z12 _ _ hlo6), hlb, sm1000 ?_, fun p2 n2 => ?_⟩
        · have e1 := Paired.length hrb
          have e2 := Paired.length w6'
          have : is1.length ≤ 30 := by decide
          omega
        have z4 := same_new n2 (o := .lst (os6 ++ rb))
        refine ⟨by show 2 ≤ sizeLine; decide, fun tt nt => ?_⟩
        have z5 := same_new nt (o := .tup [.ref p1, .ref p2])
        have z45 := z4.trans z5
        have z345 := z3.trans z45
        have zz := z12.trans z345
        refine ⟨tt, _, rfl, SqT.of upd_same, rfl, .ref p1, [.ref p2], rfl, .ref p2, [], rfl, rfl, p1, p2, rs6 ++ ra, os6 ++ rb, rfl, zz, z345 _ _ upd_same, z5 _ _ upd_same, ?_, ?_⟩
        · exact rowd_app (RowsD.same zz w6') (rowd_of (D1 hs) (lens (by show 1 ≤ 5; decide)) (lens (by show 1 ≤ 5; decide)) (tps td1) (tps te1) (by decide) (Rows.same (z2.trans z345) hra) (Rows.same z45 hrb))
        · rw [List.length_append, Paired.length hra]
          have : is1.length = 8 := by decide
          omega
      · exact ⟨lr6, lo6, rs6, os6, rfl, Same.refl _, hlr6, hlo6, w6', by omega⟩
    rintro σ' H7 ⟨lr7, lo7, rs7, os7, rfl, s67, hlr7, hlo7, w7', l7⟩
    have s27 := s23.trans (s34.trans (s45.trans (s56.trans s67)))
    -- none is equal
    refine ⟨.ref lr7, rfl, lr7, rs7, rfl, SqL.of hlr7, fun D9 nD9 => lc_it (walk_enum (xs := rs7)) (fun j H' => Same H7 H' ∧ H' D9 = some (.lst [])) ⟨same_new nD9, upd_same⟩ (fun j H' _ hP => SqL.of (hP.1 _ _ hlr7)) (fun j y J5 J6 hj hP hY => ?_) (fun J5 hP => ?_)⟩
    · obtain ⟨g1, g2⟩ := hP
      obtain ⟨A2, x1, x2, rfl, nA2, rfl, hy1, hy2⟩ := hY
      obtain rfl : V.int (j : Nat) = x1 := Option.some.inj hy1
      obtain ⟨y2, hy3, i, es, es', hi, ⟨r, p, n, tt, rfl, c1, c2, c3, c4⟩, ⟨r', p', n', tt', rfl, c1', c2', c3', c4'⟩, hne, q1, q2, q3, q4⟩ := paired_get w7' hy2
      have sA2 := same_new nA2 (o := .tup [.int (j : Nat), .ref r])
      have gz := g1.trans sA2
      refine ⟨A2, _, rfl, SqT.of upd_same, rfl, .int (j : Nat), [.ref r], rfl, .ref r, [], rfl, rfl, rfl, ?_⟩
      refine ⟨.ref r, rfl, r, _, 0, .ref p, rfl, rfl, SqT.of (gz _ _ c1), atI_nat (j := 0) rfl, .ref lo7, rfl, .int (j : Nat), rfl, lo7, os7, (j : Nat), .ref r', rfl, rfl, SqL.of (gz _ _ hlo7), atI_nat hy3, r', _, 0, .ref p', rfl, rfl, SqT.of (gz _ _ c1'), atI_nat (j := 0) rfl, ?_⟩
      refine eq_pp Z hi hi (c2.same gz) (c2'.same gz) q1 q2 q3 q4 ?_
      rw [hne, Bool.and_false, Bool.and_false]
      refine ⟨_, rfl, ite2 (fun e => nomatch e) (fun _ => ?_)⟩
      refine ⟨.ref r, rfl, r, _, 0, .ref p, rfl, rfl, SqT.of (gz _ _ c1), atI_nat (j := 0) rfl, .ref r, rfl, r, _, 1, .ref n, rfl, rfl, SqT.of (gz _ _ c1), atI_nat (j := 1) rfl, ?_⟩
      refine eq_pp Z hi hi (c2.same gz) (c3.same gz) q1 q1 q3 q3 ?_
      rw [show PyData.eqv (.tuple es) (.tuple es) = true from Tp.eqv (n := 15) (.inr ⟨_, rfl, q1, q3⟩), decide_eq_true rfl, decide_eq_true rfl]
      exact ⟨_, rfl, no_if rfl ⟨gz, sA2 _ _ g2⟩⟩
    · obtain ⟨g1, g2⟩ := hP
      refine ⟨by show 0 ≤ sizeLine; decide, fun p0 n0 _ => ?_⟩
      have s0 := same_new n0 (o := .lst [])
      refine ⟨.list [], .list [], .lst (SqL.of (s0 _ _ g2)) .nil, .lst (SqL.of upd_same) .nil, by decide +kernel, by decide +kernel, ?_⟩
      rw [show PyData.eqv (.list []) (.list []) = true by decide +kernel]
      have zz := s12.trans (s27.trans (g1.trans s0))
      exact q _ (kp1.trans (Kp.same zz)) (hW1.same zz)
end
end K56

set_option Elab.async false
set_option linter.all false
set_option maxRecDepth 100000
set_option maxHeartbeats 4000000
namespace K56
open PySem PySem.Spec PyProof.Rows L2 Gd NdefX
theorem DqAll.takes {H : Hp} : ∀ {vs : List V} {ds : List PyData} (j : Nat), DqAll H vs ds → DqAll H (vs.take j) (ds.take j)
  | _, _, 0, h => by
    rw [List.take_zero, List.take_zero]
    exact .nil
  | _, _, _ + 1, .nil => .nil
  | _, _, j + 1, .cons a b => .cons a (DqAll.takes j b)
theorem eqv2 {a b c d : PyData} : PyData.eqv (.tuple [a, b]) (.tuple [c, d]) = (PyData.eqv a c && PyData.eqv b d) := by
  simp only [PyData.eqv, PyData.eqvAll, Bool.and_true]
theorem eqv3 {a b c d e f : PyData} : PyData.eqv (.tuple [a, b, c]) (.tuple [d, e, f]) = (PyData.eqv a d && (PyData.eqv b e && PyData.eqv c f)) := by
  simp only [PyData.eqv, PyData.eqvAll, Bool.and_true]
theorem eqv4 {a b c d e f g h : PyData} : PyData.eqv (.tuple [a, b, c, d]) (.tuple [e, f, g, h]) = (PyData.eqv a e && (PyData.eqv b f && (PyData.eqv c g && PyData.eqv d h))) := by
  simp only [PyData.eqv, PyData.eqvAll, Bool.and_true]
def spLaw (K : PySem.W.Frag) : Sp := fun vs H Q _ => ∃ (s : Addr) (ns : List Int), vs = [.ref s] ∧ SqL K H s (ns.map V.int) ∧ ns.length ≤ 63 ∧ ∀ H' : Hp, Q (.bl true) H'
section
variable {P : Program} {w : World} {K : PySem.W.Frag} {mg : Str → Option Value} {base : Heap} {c f cc cda : Nat → Addr} {fE fB : Addr}
theorem ok_law {fl : Addr} {fd : FuncData} (F : C8.Def K mg "law" slaw fl fd) (T : Txt K mg) (Z : Tz P K mg c f cc cda fE fB) (G_fixed : C8.Cal P w K mg base 9 "fixed" (spF 9) []) (G__law_font : Gd.Cal P w K mg base 1 "_law_font" (spWell K))
    (G__law_value : Gd.Cal P w K mg base 5 "_law_value" (spVal 2)) (G__law_ones : Gd.Cal P w K mg base 14 "_law_ones" (spOnes c)) (G__law_twos : Gd.Cal P w K mg base 14 "_law_twos" (spTwos c))
    (G__law_threes : Gd.Cal P w K mg base 14 "_law_threes" (spThrees c)) (G__law_more : Gd.Cal P w K mg base 14 "_law_more" (spMore c)) (G__law_rows_right : Gd.Cal P w K mg base 14 "_law_rows_right" (spRR c))
    (G__law_unlike_right : Gd.Cal P w K mg base 15 "_law_unlike_right" (spUR c)) : FnG P w K mg base CX0 16 fl fd ["_law_script"] (spLaw K) := by
  refine fnG_of F.fn sclaw (fun vs H Q E h => ?_) (fun cdv A outer s H vs Q E hgd hr h => ?_)
  · obtain ⟨s, ns, rfl, _⟩ := h
    rfl
  · have nd := sclaw.nd
    have FE := fn_eq (w := w) (base := base) T Z
    have hr1 := hr.mono (show 1 ≤ 15 by decide)
    have M_13 := m_13 (w := w) (base := base) Z G_fixed
    have M_2 := m_2 (w := w) (base := base) Z G_fixed
    have M_8 := m_8 (w := w) (base := base) Z G_fixed
    have M_15 := m_15 (w := w) (base := base) Z G_fixed
    obtain ⟨s, ns, rfl, hs, hl, q⟩ := h
    refine ⟨_, PSs.nox (C8.pss_cut (ps_set (i := 1) nd rfl (.inr rfl) (pc G__law_font hgd hr (by omega) (by rfl) (pa_cons (pv 0) pa_nil)))
      (C8.pss_cut (ps_setLc (i := 2) (own := [("_law_turn", 3)]) (g := gName 3) rfl nd rfl rfl (sw_true rfl rfl rfl (by decide +kernel)) (pi_range1 rfl T.z_range (pa_cons pe_int pa_nil)) (blkOk_by (own := [("_law_turn", 3)]) (N := ["_law_script", "_law_font_here", "_law_pairs", "_law_turn", "_law_a", "_law_b", "_law_c", "_law_d", "_law_e", "_law_pair", "_law_due", "_law_more_here"]) (sc := (C8.fnScope slaw)) (by decide +kernel)) (fun _ _ _ _ _ => pg_name (i := 3) nd rfl (Or.inl rfl)) (fun _ _ _ _ _ => pts_nil) (fun _ _ _ _ _ => (pc G__law_value hgd hr (by omega) (by rfl) (pa_cons (pv 1) (pa_cons pe_int pa_nil)))))
      (C8.pss_cut (ps_asg (pe_lc (own := [("_law_pair", 9)]) (g := gName 9) rfl nd (pi_list (pv 2)) (blkOk_by (own := [("_law_pair", 9)]) (N := ["_law_script", "_law_font_here", "_law_pairs", "_law_turn", "_law_a", "_law_b", "_law_c", "_law_d", "_law_e", "_law_pair", "_law_due", "_law_more_here"]) (sc := (C8.fnScope slaw)) (by decide +kernel)) (fun _ _ _ _ _ => pg_name (i := 9) nd rfl (Or.inl rfl)) (fun _ _ _ _ _ => pts_nil) (fun _ _ _ _ _ => (pe_ix (r := rIxT K) ix_tup (pv 9) pe_int (fun _ _ => rfl)))) (pg_unl rfl (pgs_cons (pg_name (i := 4) nd rfl (Or.inl rfl)) (pgs_cons (pg_name (i := 5) nd rfl (Or.inl rfl)) (pgs_cons (pg_name (i := 6) nd rfl (Or.inl rfl)) (pgs_cons (pg_name (i := 7) nd rfl (Or.inl rfl)) (pgs_cons (pg_name (i := 8) nd rfl (Or.inl rfl)) pgs_nil)))))))
      (C8.pss_cut (ps_set (i := 10) nd rfl (.inl rfl) (pe_callTy call_tuple_of (by rfl) T.z_tuple (by decide +kernel) (pa_cons (pe_lc (own := [("_law_pair", 9)]) (g := gName 9) rfl nd (pi_list (pv 2)) (blkOk_by (own := [("_law_pair", 9)]) (N := ["_law_script", "_law_font_here", "_law_pairs", "_law_turn", "_law_a", "_law_b", "_law_c", "_law_d", "_law_e", "_law_pair", "_law_due", "_law_more_here"]) (sc := (C8.fnScope slaw)) (by decide +kernel)) (fun _ _ _ _ _ => pg_name (i := 9) nd rfl (Or.inl rfl)) (fun _ _ _ _ _ => pts_nil) (fun _ _ _ _ _ => (pe_ix (r := rIxT K) ix_tup (pv 9) pe_int (fun _ _ => rfl)))) pa_nil)))
      (C8.pss_cut (ps_if (PW.pt (pw_or (pt_not (pt_val (pc G__law_rows_right hgd hr (by omega) (by rfl) (pa_cons (pc G__law_ones hgd hr (by omega) (by rfl) (pa_cons (pv 4) pa_nil)) (pa_cons (pe_slice sl_tupA (pv 10) po_none (po_some pe_int)) pa_nil))))) (pw_or1 (pt_not (pt_val (pc G__law_rows_right hgd hr (by omega) (by rfl) (pa_cons (pc G__law_twos hgd hr (by omega) (by rfl) (pa_cons (pv 4) (pa_cons (pv 5) pa_nil))) (pa_cons (pe_slice sl_tupA (pv 10) po_none (po_some pe_int)) pa_nil)))))))) (pss_one (ps_ret pe_bl)) pss_nil)
      (C8.pss_cut (ps_if (pt_not (pt_val (pc G__law_rows_right hgd hr (by omega) (by rfl) (pa_cons (pc G__law_threes hgd hr (by omega) (by rfl) (pa_cons (pv 4) (pa_cons (pv 5) (pa_cons (pv 6) pa_nil)))) (pa_cons (pe_slice sl_tupA (pv 10) po_none (po_some pe_int)) pa_nil))))) (pss_one (ps_ret pe_bl)) pss_nil)
      (C8.pss_cut (ps_set (i := 11) nd rfl (.inl rfl) (pc G__law_more hgd hr (by omega) (by rfl) (pa_cons (pv 4) (pa_cons (pv 5) (pa_cons (pv 6) (pa_cons (pv 7) (pa_cons (pv 8) pa_nil)))))))
      (C8.pss_cut (ps_if (PW.pt (pw_or (pt_not (pt_val (pc G__law_rows_right hgd hr (by omega) (by rfl) (pa_cons (pe_slice sl_list (pv 11) po_none (po_some pe_int)) (pa_cons (pe_slice sl_tupA (pv 10) po_none (po_some pe_int)) pa_nil))))) (pw_or1 (pt_not (pt_val (pc G__law_rows_right hgd hr (by omega) (by rfl) (pa_cons (pe_slice sl_list (pv 11) (po_some pe_int) po_none) (pa_cons (pv 10) pa_nil)))))))) (pss_one (ps_ret pe_bl)) pss_nil)
      (C8.pss_cut (ps_if (pt_not (pt_val (pc G__law_unlike_right hgd hr (by omega) (by rfl) (pa_cons (pv 1) (pa_cons (pe_lstX (pa_cons (pv 4) (pa_cons (pv 5) (pa_cons (pv 6) (pa_cons (pv 7) (pa_cons (pv 8) pa_nil)))))) pa_nil))))) (pss_one (ps_ret pe_bl)) pss_nil)
      (C8.pss_cut (ps_if (PW.pt (pw_or (pt_not (pt_cmpR (op_eqO FE hr1) (pe_mkR M_13 hr (by omega) (by rfl) (pa_cons pe_int (pa_cons (pv 4) (pa_cons (pe_lstX (pa_cons pe_int pa_nil)) pa_nil)))) (pe_mkR M_13 hr (by omega) (by rfl) (pa_cons pe_bl (pa_cons (pv 4) (pa_cons (pe_lstX (pa_cons pe_bl pa_nil)) pa_nil)))) (nomark _))) (pw_or (pt_cmpR (op_eqO FE hr1) (pe_mkR M_13 hr (by omega) (by rfl) (pa_cons pe_int (pa_cons (pv 4) (pa_cons (pe_lstX (pa_cons pe_int pa_nil)) pa_nil)))) (pe_mkR M_13 hr (by omega) (by rfl) (pa_cons pe_int (pa_cons (pv 4) (pa_cons (pe_lstX (pa_cons pe_int pa_nil)) pa_nil)))) (nomark _)) (pw_or1 (pt_cmpR (op_eqO FE hr1) (pe_mkR M_2 hr (by omega) (by rfl) (pa_cons (pv 4) (pa_cons pe_int pa_nil))) (pe_mkR M_2 hr (by omega) (by rfl) (pa_cons (pv 4) (pa_cons pe_int pa_nil))) (nomark _)))))) (pss_one (ps_ret pe_bl)) pss_nil)
      (pss_one (ps_ret (pe_and (pe_not (pe_cmpR (op_eqO FE hr1) (pe_mkR M_8 hr (by omega) (by rfl) (pa_cons (pv 4) (pa_cons pe_str (pa_cons (pv 5) pa_nil)))) (pe_mkR M_8 hr (by omega) (by rfl) (pa_cons (pv 4) (pa_cons pe_str (pa_cons (pv 5) pa_nil)))) (nomark _))) (pe_one (pe_cmpR (op_eqO FE hr1) (pe_mkR M_15 hr (by omega) (by rfl) (pa_cons (pv 4) (pa_cons (pv 5) (pa_cons (pv 6) (pa_cons pe_int pa_nil))))) (pe_mkR M_15 hr (by omega) (by rfl) (pa_cons (pv 4) (pa_cons (pv 5) (pa_cons (pv 6) (pa_cons pe_bl pa_nil))))) (nomark _)))))))))))))))), ?_⟩
    refine ⟨fun σ' H' => ∃ w a, σ' = [some (.ref s), some (.ref w), none, none, none, none, none, none, none, none, none, none] ∧ Wl ns w a 0 H', ?_, ?_⟩
    · exact ⟨.ref s, rfl, s, ns, rfl, hs, hl, fun w a H1 s1 nw hW => ⟨w, a, rfl, hW⟩⟩
    rintro σ' H1 ⟨w, a, rfl, hW1⟩
    have hw1 : H1 w ≠ none := hW1.some
    have v2e : vc 2 ≤ 120 := by decide
    -- the pairs
    refine ⟨fun σ' H' => ∃ (D : Addr) (ws vs us : List V) (ds : List PyData), σ' = [some (.ref s), some (.ref w), some (.ref D), none, none, none, none, none, none, none, none, none] ∧ Wl ns w a 1000 H' ∧ H' D = some (.lst ws) ∧ Prs 2 (nw H1 H') ws vs us ds ∧ ds.length = 5, ?_, ?_⟩
    · refine ⟨5, rfl, by omega, by omega, fun D nD => ?_⟩
      have hDw : D ≠ w := fun z => hw1 (z ▸ nD)
      have hDa : D ≠ a := (hW1.off nD).2
      refine lc_range (lo := 0) (n := 5) (fun k H' => ∃ ws vs us ds, H' D = some (.lst ws) ∧ ws.length = k ∧ Kp w H1 H' ∧ Wl ns w a (k * vc 2) H' ∧ Prs 2 (nw (upd H1 D (.lst [])) H') ws vs us ds)
        ⟨[], [], [], [], upd_same, rfl, Kp.same (same_new nD), by rw [Nat.zero_mul]; exact hW1.same (same_new nD), .nil⟩ (fun k H3 hk hP => ?_) (fun H3 hP => ?_)
      · obtain ⟨ws, vs, us, ds, h1, h2, h3, h4, h5⟩ := hP
        have hk4 : k * vc 2 + vc 2 ≤ 600 := by
          rw [← Nat.succ_mul]
          exact Nat.le_trans (Nat.mul_le_mul (show k.succ ≤ 5 by omega) v2e) (by decide)
        refine ⟨rfl, lc_yes ⟨.ref w, rfl, w, a, ns, _, rfl, h4, by omega, fun t y u dy H4 kp4 hW4 ht4 hd4 hu4 sh4 => ⟨ws, kp4 _ _ hDw h1, small1000 (by omega), ws ++ [.ref t], vs ++ [y], us ++ [u], ds ++ [dy], upd_same, by rw [List.length_append, h2] <;> rfl, ?_, ?_, ?_⟩⟩⟩
        · exact (h3.trans kp4).grow nD |> fun z => z
        · have := (hW4.grow hDw hDa (o := .lst (ws ++ [.ref t])))
          rw [← Nat.succ_mul] at this
          exact this
        · have nDn : ∀ b, (upd H1 D (.lst [])) b = none → b ≠ D ∧ H1 b = none := fun b hb => by
            have n1 : b ≠ D := fun z => by
              rw [z, upd_same] at hb
              cases hb
            rw [upd_ne n1] at hb
            exact ⟨n1, hb⟩
          have sN : Same (nw H3 H4) (nw (upd H1 D (.lst [])) (upd H4 D (.lst (ws ++ [.ref t])))) := nw_same fun b o g e => by
            have n1 : b ≠ D := fun z => by
              rw [z, h1] at g
              cases g
            have n2 : H1 b = none := (h3.dom h4).none g
            exact ⟨by rw [upd_ne n1]; exact n2, by rw [upd_ne n1]; exact e⟩
          refine Prs.snoc (sN _ _ ht4) (hd4.same sN) (hu4.same sN) sh4 (h5.same (nw_same fun b o g e => ⟨g, ?_⟩))
          obtain ⟨n1, n2⟩ := nDn b g
          rw [upd_ne n1]
          exact kp4 b o (fun z => by rw [z] at n2; exact hw1 n2) e
      · obtain ⟨ws, vs, us, ds, h1, h2, h3, h4, h5⟩ := hP
        refine ⟨D, ws, vs, us, ds, rfl, h4.mono (by omega), h1, h5.same (nw_same fun b o g e => ?_), by rw [← h5.len.1]; exact h2⟩
        have n1 : b ≠ D := fun z => by
          rw [z, upd_same] at g
          cases g
        rw [upd_ne n1] at g
        exact ⟨g, e⟩
    rintro σ' H3 ⟨D, ws, vs, us, ds, rfl, hW3, hD3, pr3, l3⟩
    obtain ⟨lw, lv, lu⟩ := pr3.len
    obtain ⟨v0, v1, v2, v3, v4, rfl⟩ : ∃ v0 v1 v2 v3 v4, vs = [v0, v1, v2, v3, v4] := by
      match vs, lv.trans l3 with
      | [v0, v1, v2, v3, v4], _ => exact ⟨v0, v1, v2, v3, v4, rfl⟩
    obtain ⟨d0, d1, d2, d3, d4, rfl⟩ : ∃ d0 d1 d2 d3 d4, ds = [d0, d1, d2, d3, d4] := by
      match ds, l3 with
      | [d0, d1, d2, d3, d4], _ => exact ⟨d0, d1, d2, d3, d4, rfl⟩
    -- the values
    refine ⟨fun σ' H' => σ' = [some (.ref s), some (.ref w), some (.ref D), none, some v0, some v1, some v2, some v3, some v4, none, none, none] ∧ Same H3 H', ?_, ?_⟩
    · refine ⟨.ref D, rfl, D, rfl, ⟨_, SqL.of hD3⟩, fun D6 nD6 => lc_it (walk_list (xs := ws)) (fun i H' => Same H3 H' ∧ H' D6 = some (.lst ([v0, v1, v2, v3, v4].take i))) ⟨same_new nD6, upd_same⟩ (fun i H' _ hP => SqL.of (hP.1 _ _ hD3)) (fun i x H5 H5b hi hP hy => ?_) (fun H5 hP => ?_)⟩
      · obtain ⟨g1, g2⟩ := hP
        obtain ⟨rfl, hx⟩ := hy
        obtain ⟨t, v, u, rfl, hv, hu', ht⟩ := pr3.get hx
        refine ⟨rfl, lc_yes ⟨.ref t, rfl, t, [v, u], 0, v, rfl, rfl, SqT.of (g1 _ _ (nw_sub _ _ ht)), atI_nat (j := 0) rfl, _, g2, small1000 (by rw [List.length_take]; omega), ?_, ?_⟩⟩
        · intro b o e2
          rw [upd_ne (ne_of_none e2 nD6)]
          exact g1 _ _ e2
        · rw [upd_same, List.take_add_one, hv]
          rfl
      · obtain ⟨g1, g2⟩ := hP
        rw [lw, l3] at g2
        exact ⟨D6, _, rfl, SqL.of g2, rfl, v0, [v1, v2, v3, v4], rfl, v1, [v2, v3, v4], rfl, v2, [v3, v4], rfl, v3, [v4], rfl, v4, [], rfl, rfl, rfl, g1⟩
    rintro σ' H4 ⟨rfl, s34⟩
    -- what is due
    refine ⟨fun σ' H' => ∃ td : Addr, σ' = [some (.ref s), some (.ref w), some (.ref D), none, some v0, some v1, some v2, some v3, some v4, none, some (.ref td), none] ∧ Same H4 H' ∧ H' td = some (.tup us), ?_, ?_⟩
    · have hD4 := s34 _ _ hD3
      refine ⟨.ref D, rfl, D, rfl, ⟨_, SqL.of hD4⟩, fun D5 nD5 => lc_it (walk_list (xs := ws)) (fun i H' => Same H4 H' ∧ H' D5 = some (.lst (us.take i))) ⟨same_new nD5, upd_same⟩ (fun i H' _ hP => SqL.of (hP.1 _ _ hD4)) (fun i x H5 H5b hi hP hy => ?_) (fun H5 hP => ?_)⟩
      · obtain ⟨g1, g2⟩ := hP
        obtain ⟨rfl, hx⟩ := hy
        obtain ⟨t, v, u, rfl, hv, hu', ht⟩ := pr3.get hx
        refine ⟨rfl, lc_yes ⟨.ref t, rfl, t, [v, u], 1, u, rfl, rfl, SqT.of (g1 _ _ (s34 _ _ (nw_sub _ _ ht))), atI_nat (j := 1) rfl, us.take i, g2, small1000 (by rw [List.length_take]; omega), ?_, ?_⟩⟩
        · intro b o e2
          rw [upd_ne (ne_of_none e2 nD5)]
          exact g1 _ _ e2
        · rw [upd_same, List.take_add_one, hu']
          rfl
      · obtain ⟨g1, g2⟩ := hP
        rw [lw, ← lu, List.take_length] at g2
        exact ⟨D5, us, rfl, .inl ⟨SqL.of g2, fun t5 nt5 => ⟨t5, rfl, g1.trans (same_new nt5), upd_same⟩⟩⟩
    rintro σ' H5 ⟨td, rfl, s45, htd⟩
    have s35 := s34.trans s45
    obtain ⟨u0, u1, u2, u3, u4, rfl⟩ : ∃ u0 u1 u2 u3 u4, us = [u0, u1, u2, u3, u4] := by
      match us, lu.trans l3 with
      | [u0, u1, u2, u3, u4], _ => exact ⟨u0, u1, u2, u3, u4, rfl⟩
    have hS := pr3.sh
    have sw : Same (nw H1 H3) (hid w H5) := fun b o e => by
      obtain ⟨g1, g2⟩ := nw_some e
      have n : b ≠ w := fun z => hw1 (z ▸ g1)
      rw [hid_ne n]
      exact s35 _ _ g2
    have A5 : DqAll (hid w H5) [v0, v1, v2, v3, v4] [d0, d1, d2, d3, d4] := pr3.vals.same sw
    have E5 : DqAll H5 [u0, u1, u2, u3, u4] ([d0, d1, d2, d3, d4].map (fx 7)) := (pr3.dues.same sw).same hid_sub
    have hW5 := hW3.same s35
    clear pr3 sw s35 s34 s45 hD3 hW3
    have X5 := A5.same hid_sub
    cases X5 with
    | cons a0 X5 =>
    cases X5 with
    | cons a1 X5 =>
    cases X5 with
    | cons a2 X5 =>
    cases X5 with
    | cons a3 X5 =>
    cases X5 with
    | cons a4 X5 =>
    have h20 : Sh 2 d0 := hS _ (by simp)
    have hd0 : Sh 3 d0 := h20.le (by decide)
    have h21 : Sh 2 d1 := hS _ (by simp)
    have hd1 : Sh 3 d1 := h21.le (by decide)
    have h22 : Sh 2 d2 := hS _ (by simp)
    have hd2 : Sh 3 d2 := h22.le (by decide)
    have h23 : Sh 2 d3 := hS _ (by simp)
    have hd3 : Sh 3 d3 := h23.le (by decide)
    have h24 : Sh 2 d4 := hS _ (by simp)
    have hd4 : Sh 3 d4 := h24.le (by decide)
    have t1 : ∀ e ∈ [d0].map (fx 7), Tp 4 e := all_tp (n := 2) (by
      intro d hd
      simp only [List.mem_cons, List.not_mem_nil, or_false] at hd
      rcases hd with rfl <;> assumption) (by decide)
    have t2 : ∀ e ∈ [d0, d1].map (fx 7), Tp 4 e := all_tp (n := 2) (by
      intro d hd
      simp only [List.mem_cons, List.not_mem_nil, or_false] at hd
      rcases hd with rfl | rfl <;> assumption) (by decide)
    have t3 : ∀ e ∈ [d0, d1, d2].map (fx 7), Tp 4 e := all_tp (n := 2) (by
      intro d hd
      simp only [List.mem_cons, List.not_mem_nil, or_false] at hd
      rcases hd with rfl | rfl | rfl <;> assumption) (by decide)
    have t4 : ∀ e ∈ [d0, d1, d2, d3].map (fx 7), Tp 4 e := all_tp (n := 2) (by
      intro d hd
      simp only [List.mem_cons, List.not_mem_nil, or_false] at hd
      rcases hd with rfl | rfl | rfl | rfl <;> assumption) (by decide)
    have t5 : ∀ e ∈ [d0, d1, d2, d3, d4].map (fx 7), Tp 4 e := all_tp (n := 2) (by
      intro d hd
      simp only [List.mem_cons, List.not_mem_nil, or_false] at hd
      rcases hd with rfl | rfl | rfl | rfl | rfl <;> assumption) (by decide)
    -- ones and twos
    refine ⟨fun σ' H' => σ' = [some (.ref s), some (.ref w), some (.ref D), none, some v0, some v1, some v2, some v3, some v4, none, some (.ref td), none] ∧ Same H5 H', ?_, ?_⟩
    · refine ⟨v0, rfl, v0, d0, rfl, a0, hd0, fun l1 rs1 J1 z1 hl1 hr1 => ?_⟩
      refine ⟨.ref td, rfl, 1, rfl, td, _, rfl, SqT.of (z1 _ _ htd), fun hw => absurd hw.2 (show ¬ HT.sIx 5 5 (some 1) = 5 by decide), fun _ p1 np1 => ?_⟩
      rw [show (some (1 : Int)) = some ((1 : Nat) : Int) from rfl, cutV_take]
      have y1 := same_new np1 (o := .tup ([u0, u1, u2, u3, u4].take 1))
      refine ⟨l1, p1, rs1, [u0], is1, [d0].map (fx 7), rfl, y1 _ _ hl1, upd_same, (DqAll.takes 1 E5).same (z1.trans y1), Rows.same y1 hr1, by decide, by decide, by decide, by show 1 ≤ 5; decide, t1, fun Q1 x1 => ⟨_, rfl, ite2 (fun e => nomatch e) (fun _ => ?_)⟩⟩
      have c1 := z1.trans (y1.trans x1)
      refine ⟨v0, rfl, v1, rfl, v0, v1, d0, d1, rfl, (a0.same c1), (a1.same c1), hd0, hd1, fun l2 rs2 J2 z2 hl2 hr2 => ?_⟩
      refine ⟨.ref td, rfl, 2, rfl, td, _, rfl, SqT.of ((c1.trans z2) _ _ htd), fun hw => absurd hw.2 (show ¬ HT.sIx 5 5 (some 2) = 5 by decide), fun _ p2 np2 => ?_⟩
      rw [show (some (2 : Int)) = some ((2 : Nat) : Int) from rfl, cutV_take]
      have y2 := same_new np2 (o := .tup ([u0, u1, u2, u3, u4].take 2))
      refine ⟨l2, p2, rs2, [u0, u1], is2, [d0, d1].map (fx 7), rfl, y2 _ _ hl2, upd_same, (DqAll.takes 2 E5).same ((c1.trans z2).trans y2), Rows.same y2 hr2, by decide, by decide, by decide, by show 2 ≤ 5; decide, t2, fun Q2 x2 => ⟨_, rfl, ite2 (fun e => nomatch e) (fun _ => ?_)⟩⟩
      have c2 := (c1.trans z2).trans (y2.trans x2)
      exact ⟨rfl, c2⟩
    rintro σ' H6 ⟨rfl, s56⟩
    refine ⟨fun σ' H' => σ' = [some (.ref s), some (.ref w), some (.ref D), none, some v0, some v1, some v2, some v3, some v4, none, some (.ref td), none] ∧ Same H6 H', ?_, ?_⟩
    · refine ⟨v0, rfl, v1, rfl, v2, rfl, v0, v1, v2, d0, d1, d2, rfl, (a0.same s56), (a1.same s56), (a2.same s56), hd0, hd1, hd2, fun l3 rs3 J3 z3 hl3 hr3 => ?_⟩
      refine ⟨.ref td, rfl, 3, rfl, td, _, rfl, SqT.of ((s56.trans z3) _ _ htd), fun hw => absurd hw.2 (show ¬ HT.sIx 5 5 (some 3) = 5 by decide), fun _ p3 np3 => ?_⟩
      rw [show (some (3 : Int)) = some ((3 : Nat) : Int) from rfl, cutV_take]
      have y3 := same_new np3 (o := .tup ([u0, u1, u2, u3, u4].take 3))
      refine ⟨l3, p3, rs3, [u0, u1, u2], is3, [d0, d1, d2].map (fx 7), rfl, y3 _ _ hl3, upd_same, (DqAll.takes 3 E5).same ((s56.trans z3).trans y3), Rows.same y3 hr3, by decide, by decide, by decide, by show 3 ≤ 5; decide, t3, fun Q3 x3 => ⟨_, rfl, ite2 (fun e => nomatch e) (fun _ => ?_)⟩⟩
      have c3 := (s56.trans z3).trans (y3.trans x3)
      exact ⟨rfl, z3.trans (y3.trans x3)⟩
    rintro σ' H7 ⟨rfl, s67⟩
    have s57 := s56.trans s67
    -- the most parts
    refine ⟨fun σ' H' => ∃ (lm : Addr) (r0 r1 : V), σ' = [some (.ref s), some (.ref w), some (.ref D), none, some v0, some v1, some v2, some v3, some v4, none, some (.ref td), some (.ref lm)] ∧ Same H7 H' ∧ H' lm = some (.lst [r0, r1]) ∧ RowA c ([d0, d1, d2, d3].map (fx 7)) H' r0 15 ∧ RowA c ([d0, d1, d2, d3, d4].map (fx 7)) H' r1 25, ?_, ?_⟩
    · exact ⟨v0, rfl, v1, rfl, v2, rfl, v3, rfl, v4, rfl, v0, v1, v2, v3, v4, d0, d1, d2, d3, d4, rfl, a0.same s57, a1.same s57, a2.same s57, a3.same s57, a4.same s57, hd0, hd1, hd2, hd3, hd4, fun l r0 r1 J z hl h0 h1 => ⟨l, r0, r1, rfl, z, hl, h0, h1⟩⟩
    rintro σ' H8 ⟨lm, r0, r1, rfl, s78, hlm, hr0, hr1'⟩
    have s58 := s57.trans s78
    refine ⟨fun σ' H' => σ' = [some (.ref s), some (.ref w), some (.ref D), none, some v0, some v1, some v2, some v3, some v4, none, some (.ref td), some (.ref lm)] ∧ Same H8 H', ?_, ?_⟩
    · refine ⟨.ref lm, rfl, 1, rfl, lm, _, rfl, SqL.of hlm, fun p1 n1 => ?_⟩
      rw [show (some (1 : Int)) = some ((1 : Nat) : Int) from rfl, cutV_take]
      have y1 := same_new n1 (o := .lst ([r0, r1].take 1))
      refine ⟨.ref td, rfl, 4, rfl, td, _, rfl, SqT.of (y1 _ _ (s58 _ _ htd)), fun hw => absurd hw.2 (show ¬ HT.sIx 5 5 (some 4) = 5 by decide), fun _ p2 n2 => ?_⟩
      rw [show (some (4 : Int)) = some ((4 : Nat) : Int) from rfl, cutV_take]
      have y2 := same_new n2 (o := .tup ([u0, u1, u2, u3, u4].take 4))
      have y12 := y1.trans y2
      refine ⟨p1, p2, [r0], [u0, u1, u2, u3], [15], [d0, d1, d2, d3].map (fx 7), rfl, y2 _ _ upd_same, upd_same, (DqAll.takes 4 E5).same (s58.trans y12), .cons (hr0.same y12) .nil, by decide, by decide, by decide, by show 4 ≤ 5; decide, t4, fun Q1 x1 => ⟨_, rfl, ite2 (fun e => nomatch e) (fun _ => ?_)⟩⟩
      have c1 := y12.trans x1
      refine ⟨.ref lm, rfl, 1, rfl, lm, _, rfl, SqL.of (c1 _ _ hlm), fun p3 n3 => ?_⟩
      rw [show (some (1 : Int)) = some ((1 : Nat) : Int) from rfl, cutV_drop _ _ (by show 1 ≤ 2; decide)]
      have y3 := same_new n3 (o := .lst ([r0, r1].drop 1))
      have c3 := c1.trans y3
      refine ⟨.ref td, rfl, p3, td, [r1], [u0, u1, u2, u3, u4], [25], [d0, d1, d2, d3, d4].map (fx 7), rfl, upd_same, c3 _ _ (s58 _ _ htd), E5.same (s58.trans c3), .cons (hr1'.same c3) .nil, by decide, by decide, by decide, by show 5 ≤ 5; decide, t5, fun Q3 x3 => ⟨_, rfl, ite2 (fun e => nomatch e) (fun _ => ?_)⟩⟩
      exact ⟨rfl, c3.trans x3⟩
    rintro σ' H9 ⟨rfl, s89⟩
    have s59 := s58.trans s89
    -- parts that are changed
    refine ⟨fun σ' H' => σ' = [some (.ref s), some (.ref w), some (.ref D), none, some v0, some v1, some v2, some v3, some v4, none, some (.ref td), some (.ref lm)] ∧ Kp w H9 H', ?_, ?_⟩
    · refine ⟨.ref w, rfl, v0, rfl, v1, rfl, v2, rfl, v3, rfl, v4, rfl, by show 5 ≤ sizeLine; decide, fun L nL _ => ?_⟩
      have hW9 := hW5.same s59
      have y1 := same_new nL (o := .lst [v0, v1, v2, v3, v4])
      have kh : Kp w H5 (upd H9 L (.lst [v0, v1, v2, v3, v4])) := Kp.same (s59.trans y1)
      refine ⟨w, a, ns, 1000, L, v0, v1, v2, v3, v4, d0, d1, d2, d3, d4, rfl, hW9.same y1, by omega, (hW9.off nL).1, upd_same, A5.same (hid_kp kh), hS, fun Hz kz _ => ⟨_, rfl, ite2 (fun e => nomatch e) (fun _ => ?_)⟩⟩
      exact ⟨rfl, (Kp.same y1).trans kz⟩
    rintro σ' HA ⟨rfl, k9A⟩
    have XA := (A5.same (hid_kp ((Kp.same s59).trans k9A))).same hid_sub
    clear a0 a1 a2 a3 a4 E5 hr0 hr1'
    cases XA with
    | cons a0 XA =>
    cases XA with
    | cons a1 XA =>
    cases XA with
    | cons a2 XA =>
    have i0 : Lf (.int 0) := show (0 : Int).natAbs < 10 ^ 30 by decide
    have i1 : Lf (.int 1) := show (1 : Int).natAbs < 10 ^ 30 by decide
    have i2 : Lf (.int 2) := show (2 : Int).natAbs < 10 ^ 30 by decide
    have LS : ∀ s : String, (s.length ≤ 10 ∧ ∀ c ∈ s.toList, c.toNat < 128) → Lf (.str (Str.ofString s)) := fun s h => by
      refine ⟨fun c hc => ?_, ?_⟩
      · rw [tl_str] at hc
        obtain ⟨x, hx, rfl⟩ := List.mem_map.mp hc
        exact h.2 x hx
      · rw [PyProof.Rows.ofString_length, String.length_toList]
        exact h.1
    have lx : Lf (.str "x") := LS "x" (by decide)
    have ly : Lf (.str "y") := LS "y" (by decide)
    have tf : ∀ {d : PyData}, Sh 2 d → PyData.eqv (fx 7 d) (fx 7 d) = true := fun h => (fx_tpm h (show 2 ≤ 7 by decide)).eqv
    have tw : ∀ {ds : List PyData}, (∀ d ∈ ds, Sh 3 d) → ∀ e ∈ ds.map (fx 7), Tp 14 e := fun h => tps h
    refine ⟨fun σ' H' => σ' = [some (.ref s), some (.ref w), some (.ref D), none, some v0, some v1, some v2, some v3, some v4, none, some (.ref td), some (.ref lm)] ∧ Same HA H', ?_, ?_⟩
    · refine ⟨v0, rfl, by show 1 ≤ sizeLine; decide, fun q1 nq1 _ => fun x1 dx nx ndx nex => ?_⟩
      have g1 := same_new nq1 (o := .lst [.int 0])
      have S1 : ∀ d ∈ ([.int 1, d0, .list [.int 0]] : List PyData), Sh 7 d := fun d hd => by
        simp only [List.mem_cons, List.not_mem_nil, or_false] at hd
        rcases hd with rfl | rfl | rfl
        · exact Sh.leaf i1
        · exact h20.le (by decide)
        · exact .inr (.inl ⟨_, .inl rfl, by show 1 ≤ 5; decide, fun e he => by obtain rfl := List.mem_singleton.mp he; exact Sh.leaf i0⟩)
      refine mk_sub (ps := [.int 1, v0, .ref q1]) (ds := [.int 1, d0, .list [.int 0]]) (.cons (.int _) (.cons (a0.same g1) (.cons (.lst upd_same (.cons (.int _) .nil)) .nil))) S1 rfl nx ndx fun K1 h1 j1 => ⟨rfl, ?_⟩
      clear nx ndx nex
      refine ⟨v0, rfl, by show 1 ≤ sizeLine; decide, fun q2 nq2 _ => fun x2 dx nx ndx nex => ?_⟩
      have g2 := same_new nq2 (o := .lst [.bl false])
      have S2 : ∀ d ∈ ([.bool true, d0, .list [.bool false]] : List PyData), Sh 7 d := fun d hd => by
        simp only [List.mem_cons, List.not_mem_nil, or_false] at hd
        rcases hd with rfl | rfl | rfl
        · exact Sh.leaf (show Lf (.bool true) from trivial)
        · exact h20.le (by decide)
        · exact .inr (.inl ⟨_, .inl rfl, by show 1 ≤ 5; decide, fun e he => by obtain rfl := List.mem_singleton.mp he; exact Sh.leaf trivial⟩)
      refine mk_sub (ps := [.bl true, v0, .ref q2]) (ds := [.bool true, d0, .list [.bool false]]) (.cons (.bl _) (.cons (a0.same ((g1.trans j1).trans g2)) (.cons (.lst upd_same (.cons (.bl _) .nil)) .nil))) S2 rfl nx ndx fun K2 h2 j2 => ⟨rfl, ?_⟩
      clear nx ndx nex
      have ST1 := (g2.trans j2)
      refine eq_pp Z (i := 13) (j := 13) (by decide) (by decide) (h1.same ST1) h2 (lens (by show 3 ≤ 5; decide)) (lens (by show 3 ≤ 5; decide)) (all_tp S1 (show 7 ≤ 7 by decide)) (all_tp S2 (show 7 ≤ 7 by decide)) ?_
      rw [show PyData.eqv (.tuple ([.int 1, d0, .list [.int 0]].map (fx 7))) (.tuple ([.bool true, d0, .list [.bool false]].map (fx 7))) = true by
        show PyData.eqv (.tuple [.int 1, fx 7 d0, .tuple [.int 0]]) (.tuple [.bool true, fx 7 d0, .tuple [.bool false]]) = true
        rw [eqv3, tf h20]
        decide +kernel]
      refine ⟨_, rfl, ite2 (fun e => by simp at e) (fun _ => ?_)⟩
      refine ⟨v0, rfl, by show 1 ≤ sizeLine; decide, fun q3 nq3 _ => fun x3 dx nx ndx nex => ?_⟩
      have g3 := same_new nq3 (o := .lst [.int 0])
      have S3 : ∀ d ∈ ([.int 1, d0, .list [.int 0]] : List PyData), Sh 7 d := fun d hd => by
        simp only [List.mem_cons, List.not_mem_nil, or_false] at hd
        rcases hd with rfl | rfl | rfl
        · exact Sh.leaf i1
        · exact h20.le (by decide)
        · exact .inr (.inl ⟨_, .inl rfl, by show 1 ≤ 5; decide, fun e he => by obtain rfl := List.mem_singleton.mp he; exact Sh.leaf i0⟩)
      refine mk_sub (ps := [.int 1, v0, .ref q3]) (ds := [.int 1, d0, .list [.int 0]]) (.cons (.int _) (.cons (a0.same ((((g1.trans j1).trans g2).trans j2).trans g3)) (.cons (.lst upd_same (.cons (.int _) .nil)) .nil))) S3 rfl nx ndx fun K3 h3 j3 => ⟨rfl, ?_⟩
      clear nx ndx nex
      refine ⟨v0, rfl, by show 1 ≤ sizeLine; decide, fun q4 nq4 _ => fun x4 dx nx ndx nex => ?_⟩
      have g4 := same_new nq4 (o := .lst [.int 1])
      have S4 : ∀ d ∈ ([.int 1, d0, .list [.int 1]] : List PyData), Sh 7 d := fun d hd => by
        simp only [List.mem_cons, List.not_mem_nil, or_false] at hd
        rcases hd with rfl | rfl | rfl
        · exact Sh.leaf i1
        · exact h20.le (by decide)
        · exact .inr (.inl ⟨_, .inl rfl, by show 1 ≤ 5; decide, fun e he => by obtain rfl := List.mem_singleton.mp he; exact Sh.leaf i1⟩)
      refine mk_sub (ps := [.int 1, v0, .ref q4]) (ds := [.int 1, d0, .list [.int 1]]) (.cons (.int _) (.cons (a0.same ((((((g1.trans j1).trans g2).trans j2).trans g3).trans j3).trans g4)) (.cons (.lst upd_same (.cons (.int _) .nil)) .nil))) S4 rfl nx ndx fun K4 h4 j4 => ⟨rfl, ?_⟩
      clear nx ndx nex
      have ST3 := (g4.trans j4)
      refine eq_pp Z (i := 13) (j := 13) (by decide) (by decide) (h3.same ST3) h4 (lens (by show 3 ≤ 5; decide)) (lens (by show 3 ≤ 5; decide)) (all_tp S3 (show 7 ≤ 7 by decide)) (all_tp S4 (show 7 ≤ 7 by decide)) ?_
      rw [show PyData.eqv (.tuple ([.int 1, d0, .list [.int 0]].map (fx 7))) (.tuple ([.int 1, d0, .list [.int 1]].map (fx 7))) = false by
        show PyData.eqv (.tuple [.int 1, fx 7 d0, .tuple [.int 0]]) (.tuple [.int 1, fx 7 d0, .tuple [.int 1]]) = false
        rw [eqv3, tf h20]
        decide +kernel]
      refine ⟨_, rfl, ite2 (fun e => by simp at e) (fun _ => ?_)⟩
      refine ⟨v0, rfl, fun x5 dx nx ndx nex => ?_⟩
      have S5 : ∀ d ∈ ([d0, .int 1] : List PyData), Sh 7 d := fun d hd => by
        simp only [List.mem_cons, List.not_mem_nil, or_false] at hd
        rcases hd with rfl | rfl
        · exact h20.le (by decide)
        · exact Sh.leaf i1
      refine mk_sub (ps := [v0, .int 1]) (ds := [d0, .int 1]) (.cons (a0.same (((((((g1.trans j1).trans g2).trans j2).trans g3).trans j3).trans g4).trans j4)) (.cons (.int _) .nil)) S5 rfl nx ndx fun K5 h5 j5 => ⟨rfl, ?_⟩
      clear nx ndx nex
      refine ⟨v0, rfl, fun x6 dx nx ndx nex => ?_⟩
      have S6 : ∀ d ∈ ([d0, .int 2] : List PyData), Sh 7 d := fun d hd => by
        simp only [List.mem_cons, List.not_mem_nil, or_false] at hd
        rcases hd with rfl | rfl
        · exact h20.le (by decide)
        · exact Sh.leaf i2
      refine mk_sub (ps := [v0, .int 2]) (ds := [d0, .int 2]) (.cons (a0.same ((((((((g1.trans j1).trans g2).trans j2).trans g3).trans j3).trans g4).trans j4).trans j5)) (.cons (.int _) .nil)) S6 rfl nx ndx fun K6 h6 j6 => ⟨rfl, ?_⟩
      clear nx ndx nex
      have ST5 := j6
      refine eq_pp Z (i := 2) (j := 2) (by decide) (by decide) (h5.same ST5) h6 (lens (by show 2 ≤ 5; decide)) (lens (by show 2 ≤ 5; decide)) (all_tp S5 (show 7 ≤ 7 by decide)) (all_tp S6 (show 7 ≤ 7 by decide)) ?_
      rw [show PyData.eqv (.tuple ([d0, .int 1].map (fx 7))) (.tuple ([d0, .int 2].map (fx 7))) = false by
        show PyData.eqv (.tuple [fx 7 d0, .int 1]) (.tuple [fx 7 d0, .int 2]) = false
        rw [eqv2, tf h20]
        decide +kernel]
      refine ⟨_, rfl, ite2 (fun e => by simp at e) (fun _ => ?_)⟩
      exact ⟨rfl, (((((((((g1.trans j1).trans g2).trans j2).trans g3).trans j3).trans g4).trans j4).trans j5).trans j6)⟩
    rintro σ' HB ⟨rfl, sAB⟩
    refine ⟨v0, rfl, v1, rfl, fun x7 dx nx ndx nex => ?_⟩
    have S7 : ∀ d ∈ ([d0, .str "x", d1] : List PyData), Sh 7 d := fun d hd => by
      simp only [List.mem_cons, List.not_mem_nil, or_false] at hd
      rcases hd with rfl | rfl | rfl
      · exact h20.le (by decide)
      · exact Sh.leaf (show Lf (.str "x") from lx)
      · exact h21.le (by decide)
    refine mk_sub (ps := [v0, .str "x", v1]) (ds := [d0, .str "x", d1]) (.cons (a0.same sAB) (.cons (.str _) (.cons (a1.same sAB) .nil))) S7 rfl nx ndx fun K7 h7 j7 => ⟨rfl, ?_⟩
    clear nx ndx nex
    refine ⟨v0, rfl, v1, rfl, fun x8 dx nx ndx nex => ?_⟩
    have S8 : ∀ d ∈ ([d0, .str "y", d1] : List PyData), Sh 7 d := fun d hd => by
      simp only [List.mem_cons, List.not_mem_nil, or_false] at hd
      rcases hd with rfl | rfl | rfl
      · exact h20.le (by decide)
      · exact Sh.leaf (show Lf (.str "y") from ly)
      · exact h21.le (by decide)
    refine mk_sub (ps := [v0, .str "y", v1]) (ds := [d0, .str "y", d1]) (.cons (a0.same (sAB.trans j7)) (.cons (.str _) (.cons (a1.same (sAB.trans j7)) .nil))) S8 rfl nx ndx fun K8 h8 j8 => ⟨rfl, ?_⟩
    clear nx ndx nex
    have ST7 := j8
    refine eq_pp Z (i := 8) (j := 8) (by decide) (by decide) (h7.same ST7) h8 (lens (by show 3 ≤ 5; decide)) (lens (by show 3 ≤ 5; decide)) (all_tp S7 (show 7 ≤ 7 by decide)) (all_tp S8 (show 7 ≤ 7 by decide)) ?_
    rw [show PyData.eqv (.tuple ([d0, .str "x", d1].map (fx 7))) (.tuple ([d0, .str "y", d1].map (fx 7))) = false by
      show PyData.eqv (.tuple [fx 7 d0, .str "x", fx 7 d1]) (.tuple [fx 7 d0, .str "y", fx 7 d1]) = false
      rw [eqv3, tf h20, tf h21]
      decide +kernel]
    refine ⟨_, rfl, _, rfl, ite2 (fun _ => ?_) (fun e => by simp at e)⟩
    refine ⟨v0, rfl, v1, rfl, v2, rfl, fun x9 dx nx ndx nex => ?_⟩
    have S9 : ∀ d ∈ ([d0, d1, d2, .int 0] : List PyData), Sh 7 d := fun d hd => by
      simp only [List.mem_cons, List.not_mem_nil, or_false] at hd
      rcases hd with rfl | rfl | rfl | rfl
      · exact h20.le (by decide)
      · exact h21.le (by decide)
      · exact h22.le (by decide)
      · exact Sh.leaf i0
    refine mk_sub (ps := [v0, v1, v2, .int 0]) (ds := [d0, d1, d2, .int 0]) (.cons (a0.same ((sAB.trans j7).trans j8)) (.cons (a1.same ((sAB.trans j7).trans j8)) (.cons (a2.same ((sAB.trans j7).trans j8)) (.cons (.int _) .nil)))) S9 rfl nx ndx fun K9 h9 j9 => ⟨rfl, ?_⟩
    clear nx ndx nex
    refine ⟨v0, rfl, v1, rfl, v2, rfl, fun x10 dx nx ndx nex => ?_⟩
    have S10 : ∀ d ∈ ([d0, d1, d2, .bool false] : List PyData), Sh 7 d := fun d hd => by
      simp only [List.mem_cons, List.not_mem_nil, or_false] at hd
      rcases hd with rfl | rfl | rfl | rfl
      · exact h20.le (by decide)
      · exact h21.le (by decide)
      · exact h22.le (by decide)
      · exact Sh.leaf (show Lf (.bool false) from trivial)
    refine mk_sub (ps := [v0, v1, v2, .bl false]) (ds := [d0, d1, d2, .bool false]) (.cons (a0.same (((sAB.trans j7).trans j8).trans j9)) (.cons (a1.same (((sAB.trans j7).trans j8).trans j9)) (.cons (a2.same (((sAB.trans j7).trans j8).trans j9)) (.cons (.bl _) .nil)))) S10 rfl nx ndx fun K10 h10 j10 => ⟨rfl, ?_⟩
    clear nx ndx nex
    have ST9 := j10
    refine eq_pp Z (i := 15) (j := 15) (by decide) (by decide) (h9.same ST9) h10 (lens (by show 4 ≤ 5; decide)) (lens (by show 4 ≤ 5; decide)) (all_tp S9 (show 7 ≤ 7 by decide)) (all_tp S10 (show 7 ≤ 7 by decide)) ?_
    rw [show PyData.eqv (.tuple ([d0, d1, d2, .int 0].map (fx 7))) (.tuple ([d0, d1, d2, .bool false].map (fx 7))) = true by
      show PyData.eqv (.tuple [fx 7 d0, fx 7 d1, fx 7 d2, .int 0]) (.tuple [fx 7 d0, fx 7 d1, fx 7 d2, .bool false]) = true
      rw [eqv4, tf h20, tf h21, tf h22]
      decide +kernel]
    exact q _
end
end K56

set_option Elab.async false
set_option linter.all false
set_option maxRecDepth 100000
set_option maxHeartbeats 2000000
namespace K56
open PySem PySem.Spec PyProof.Rows L2 Gd
theorem and2 {a b : Bool} (h : (a && b) = true) : a = true ∧ b = true := Bool.and_eq_true_iff.mp h
theorem tz_of {P : Program} {K : PySem.W.Frag} {h : Heap} {mg : Str → Option Value} {file : Str} (X : K.In h) (G : h.Ns mainGlobals mg) (t : tzB file K = true) (hf : P.main.file = file) (ht : (P.main.scope.names.lookup ("super" : Str)).isSome = false) (hz : mg "super" = none)
    (o0 : obsX K ("Paper", some "__init__") = FnDX.val ⟨("Paper", some "__init__"), "__init__", "Paper.__init__", C8.fnArgs (mS 0 0), C8.fnBody (mS 0 0), C8.fnScope (mS 0 0), []⟩)
    (oe : obsX K ("Paper", some "__eq__") = FnDX.val ⟨("Paper", some "__eq__"), "__eq__", "Paper.__eq__", C8.fnArgs (mS 0 1), C8.fnBody (mS 0 1), C8.fnScope (mS 0 1), []⟩)
    (ob : obsX K ("Denial", some "__bool__") = FnDX.val ⟨("Denial", some "__bool__"), "__bool__", "Denial.__bool__", C8.fnArgs (mS 1 1), C8.fnBody (mS 1 1), C8.fnScope (mS 1 1), []⟩)
    (os : ∀ i, 0 < i → i < 35 → obsX K (nmP i, some "__init__") = (fnP i).val) : Tz P K mg (cK K) (fK K) (ccK K) (cdK K) (fEK K) (fBK K) := by
  obtain ⟨t1, t⟩ := and2 t
  obtain ⟨t2, t⟩ := and2 t
  obtain ⟨t3, t⟩ := and2 t
  obtain ⟨t4, t⟩ := and2 t
  obtain ⟨t5, t⟩ := and2 t
  obtain ⟨t6, t⟩ := and2 t
  obtain ⟨t7, t⟩ := and2 t
  obtain ⟨t8, t9⟩ := and2 t
  have one : ∀ i, i < 35 → oneB K file i = true := fun i hi => rg t1 i hi
  have two : ∀ i j, i < 35 → j < 35 → twoB K i j = true := fun i j hi hj => rg (rg t2 i hi) j hj
  have a1 := fun i (hi : i < 35) => and2 (one i hi)
  have a2 := fun i (hi : i < 35) => and2 (a1 i hi).2
  have a3 := fun i (hi : i < 35) => and2 (a2 i hi).2
  have a4 := fun i (hi : i < 35) => and2 (a3 i hi).2
  have a5 := fun i (hi : i < 35) => and2 (a4 i hi).2
  have a6 := fun i (hi : i < 35) => and2 (a5 i hi).2
  have a7 := fun i (hi : i < 35) => and2 (a6 i hi).2
  have a8 := fun i (hi : i < 35) => and2 (a7 i hi).2
  have a9 := fun i (hi : i < 35) => and2 (a8 i hi).2
  have b1 := fun i j (hi : i < 35) (hj : j < 35) => and2 (two i j hi hj)
  have b2 := fun i j (hi : i < 35) (hj : j < 35) => and2 (b1 i j hi hj).2
  have b3 := fun i j (hi : i < 35) (hj : j < 35) => and2 (b2 i j hi hj).2
  have ic : ∀ i, i < 35 → C8.InsC K (cK K i) := fun i hi => icB_ok (a2 i hi).1
  refine { g := fun i hi => He.glo_ok X G (a1 i hi).1, ic := ic, nm := fun i hi => nmB_ok (a3 i hi).1, eq := fun i hi => ⟨ic i hi, He.eqO_ok (a4 i hi).1, t4⟩, mkr := fun i hi => mkB_ok (a5 i hi).1, «no» := fun i hi x hx => He.eqO_ok (List.all_eq_true.mp (a6 i hi).1 x hx), kin := fun i j hi hj => ?_, tupP := of_decide_eq_true t3, tupS := fun i hi => of_decide_eq_true (a7 i hi).1, sub := fun i j hi hj => of_decide_eq_true (b2 i j hi hj).1, inj := fun i j hi hj e => ?_, bl := fun i hi => He.eqO_ok (a8 i hi).1, ln := fun i hi => He.eqO_ok (a9 i hi).1, fb := t5, sm := t6, pi := funX_of o0 t7, pe := funX_of oe t8, pb := funX_of ob t9, sf := fun i h0 hi => ?_, sc := fun i j hi h0 hj hb => ?_ }
  · have z := (b1 i j hi (by omega)).1
    rw [decide_eq_false (show ¬ 1 < j by omega), Bool.false_or] at z
    exact of_decide_eq_true z
  · have z := (b3 i j hi hj).1
    rw [decide_eq_true e, Bool.not_true, Bool.false_or] at z
    exact of_decide_eq_true z
  · have z := (a9 i hi).2
    rw [decide_eq_false (show ¬ i = 0 by omega), Bool.false_or] at z
    exact supF_of (st := mS i 0) (os i h0 hi) z hf ht hz
  · have z := (b3 i j hi hj).2
    rw [hb, decide_eq_true h0, Bool.and_self, Bool.not_true, Bool.false_or] at z
    exact scB_ok z
end K56

set_option Elab.async false
set_option linter.all false
set_option maxRecDepth 100000
set_option maxHeartbeats 4000000
namespace K56
open PySem PySem.Spec PyProof.Rows L2 Gd
theorem all_mk {P : Program} {w : World} {K : PySem.W.Frag} {h : Heap} {mg : Str → Option Value} {fa : Addr} (X : K.In h) (G : h.Ns mainGlobals mg) (hfa : mg "law" = some (.ref fa)) (c : SaysX Bx fnx K) (hf : P.main.file = fileK) (ht : (P.main.scope.names.lookup ("super" : Str)).isSome = false) :
    ∃ fd : FuncData, (∀ (s : Shared) (u : Value), BindsTo s fd ⟨[u], []⟩ [("_law_script", u)]) ∧ ∀ base : Heap, K.In base → base.Ns mainGlobals mg → FnG P w K mg base CX0 16 fa fd ["_law_script"] (spLaw K) := by
  obtain ⟨cf, cx⟩ := Bool.and_eq_true_iff.mp c.1
  have e := hfa.symm.trans (He.glo_ok X G (fa_at cf 33 (f := .glo "law") rfl))
  cases e
  obtain ⟨fd0, F0, df0⟩ := defX_of (x := "fixed") (st := sfixed) X G (c.fn 0 (d := gdX "fixed" sfixed) rfl) (fa_at cf 0 (f := .glo "fixed") rfl) (fa_at cf 1 (f := .keep "fixed") rfl) (fa_at cf 2 (f := .code ("fixed", none) "fixed") rfl)
  have b0 := F0.fn.binds df0 (ps := ["value"]) fun _ _ _ _ _ _ us hl => match us, hl with | [_], _ => rfl
  obtain ⟨fd1, F1, df1⟩ := defX_of (x := "_law_font") (st := s_law_font) X G (c.fn 1 (d := gdX "_law_font" s_law_font) rfl) (fa_at cf 3 (f := .glo "_law_font") rfl) (fa_at cf 4 (f := .keep "_law_font") rfl) (fa_at cf 5 (f := .code ("_law_font", none) "_law_font") rfl)
  have b1 := F1.fn.binds df1 (ps := ["_law_script"]) fun _ _ _ _ _ _ us hl => match us, hl with | [_], _ => rfl
  obtain ⟨fd2, F2, df2⟩ := defX_of (x := "_law_drip") (st := s_law_drip) X G (c.fn 2 (d := gdX "_law_drip" s_law_drip) rfl) (fa_at cf 6 (f := .glo "_law_drip") rfl) (fa_at cf 7 (f := .keep "_law_drip") rfl) (fa_at cf 8 (f := .code ("_law_drip", none) "_law_drip") rfl)
  have b2 := F2.fn.binds df2 (ps := ["_law_font_here", "_law_many"]) fun _ _ _ _ _ _ us hl => match us, hl with | [_, _], _ => rfl
  obtain ⟨fd3, F3, df3⟩ := defX_of (x := "_law_fill") (st := s_law_fill) X G (c.fn 3 (d := gdX "_law_fill" s_law_fill) rfl) (fa_at cf 9 (f := .glo "_law_fill") rfl) (fa_at cf 10 (f := .keep "_law_fill") rfl) (fa_at cf 11 (f := .code ("_law_fill", none) "_law_fill") rfl)
  have b3 := F3.fn.binds df3 (ps := ["_law_font_here", "_law_some"]) fun _ _ _ _ _ _ us hl => match us, hl with | [_, _], _ => rfl
  obtain ⟨fd4, F4, df4⟩ := defX_of (x := "_law_value") (st := s_law_value) X G (c.fn 4 (d := gdX "_law_value" s_law_value) rfl) (fa_at cf 12 (f := .glo "_law_value") rfl) (fa_at cf 13 (f := .keep "_law_value") rfl) (fa_at cf 14 (f := .code ("_law_value", none) "_law_value") rfl)
  have b4 := F4.fn.binds df4 (ps := ["_law_font_here", "_law_depth"]) fun _ _ _ _ _ _ us hl => match us, hl with | [_, _], _ => rfl
  obtain ⟨fd5, F5, df5⟩ := defX_of (x := "_law_ones") (st := s_law_ones) X G (c.fn 5 (d := gdX "_law_ones" s_law_ones) rfl) (fa_at cf 15 (f := .glo "_law_ones") rfl) (fa_at cf 16 (f := .keep "_law_ones") rfl) (fa_at cf 17 (f := .code ("_law_ones", none) "_law_ones") rfl)
  have b5 := F5.fn.binds df5 (ps := ["_law_a"]) fun _ _ _ _ _ _ us hl => match us, hl with | [_], _ => rfl
  obtain ⟨fd6, F6, df6⟩ := defX_of (x := "_law_twos") (st := s_law_twos) X G (c.fn 6 (d := gdX "_law_twos" s_law_twos) rfl) (fa_at cf 18 (f := .glo "_law_twos") rfl) (fa_at cf 19 (f := .keep "_law_twos") rfl) (fa_at cf 20 (f := .code ("_law_twos", none) "_law_twos") rfl)
  have b6 := F6.fn.binds df6 (ps := ["_law_a", "_law_b"]) fun _ _ _ _ _ _ us hl => match us, hl with | [_, _], _ => rfl
  obtain ⟨fd7, F7, df7⟩ := defX_of (x := "_law_threes") (st := s_law_threes) X G (c.fn 7 (d := gdX "_law_threes" s_law_threes) rfl) (fa_at cf 21 (f := .glo "_law_threes") rfl) (fa_at cf 22 (f := .keep "_law_threes") rfl) (fa_at cf 23 (f := .code ("_law_threes", none) "_law_threes") rfl)
  have b7 := F7.fn.binds df7 (ps := ["_law_a", "_law_b", "_law_c"]) fun _ _ _ _ _ _ us hl => match us, hl with | [_, _, _], _ => rfl
  obtain ⟨fd8, F8, df8⟩ := defX_of (x := "_law_more") (st := s_law_more) X G (c.fn 8 (d := gdX "_law_more" s_law_more) rfl) (fa_at cf 24 (f := .glo "_law_more") rfl) (fa_at cf 25 (f := .keep "_law_more") rfl) (fa_at cf 26 (f := .code ("_law_more", none) "_law_more") rfl)
  have b8 := F8.fn.binds df8 (ps := ["_law_a", "_law_b", "_law_c", "_law_d", "_law_e"]) fun _ _ _ _ _ _ us hl => match us, hl with | [_, _, _, _, _], _ => rfl
  obtain ⟨fd9, F9, df9⟩ := defX_of (x := "_law_rows_right") (st := s_law_rows_right) X G (c.fn 9 (d := gdX "_law_rows_right" s_law_rows_right) rfl) (fa_at cf 27 (f := .glo "_law_rows_right") rfl) (fa_at cf 28 (f := .keep "_law_rows_right") rfl) (fa_at cf 29 (f := .code ("_law_rows_right", none) "_law_rows_right") rfl)
  have b9 := F9.fn.binds df9 (ps := ["_law_rows", "_law_due"]) fun _ _ _ _ _ _ us hl => match us, hl with | [_, _], _ => rfl
  obtain ⟨fd10, F10, df10⟩ := defX_of (x := "_law_unlike_right") (st := s_law_unlike_right) X G (c.fn 10 (d := gdX "_law_unlike_right" s_law_unlike_right) rfl) (fa_at cf 30 (f := .glo "_law_unlike_right") rfl) (fa_at cf 31 (f := .keep "_law_unlike_right") rfl) (fa_at cf 32 (f := .code ("_law_unlike_right", none) "_law_unlike_right") rfl)
  have b10 := F10.fn.binds df10 (ps := ["_law_font_here", "_law_parts"]) fun _ _ _ _ _ _ us hl => match us, hl with | [_, _], _ => rfl
  obtain ⟨fd11, F11, df11⟩ := defX_of (x := "law") (st := slaw) X G (c.fn 11 (d := gdX "law" slaw) rfl) (fa_at cf 33 (f := .glo "law") rfl) (fa_at cf 34 (f := .keep "law") rfl) (fa_at cf 35 (f := .code ("law", none) "law") rfl)
  have b11 := F11.fn.binds df11 (ps := ["_law_script"]) fun _ _ _ _ _ _ us hl => match us, hl with | [_], _ => rfl
  have T : Txt K mg :=
    { d_fixed := ⟨_, _, F0, b0⟩,
      d_law_font := ⟨_, _, F1, b1⟩,
      d_law_drip := ⟨_, _, F2, b2⟩,
      d_law_fill := ⟨_, _, F3, b3⟩,
      d_law_value := ⟨_, _, F4, b4⟩,
      d_law_ones := ⟨_, _, F5, b5⟩,
      d_law_twos := ⟨_, _, F6, b6⟩,
      d_law_threes := ⟨_, _, F7, b7⟩,
      d_law_more := ⟨_, _, F8, b8⟩,
      d_law_rows_right := ⟨_, _, F9, b9⟩,
      d_law_unlike_right := ⟨_, _, F10, b10⟩,
      d_law := ⟨_, _, F11, b11⟩,
      z_isinstance := He.free_ok X G (fa_at cf 36 (f := .free "isinstance") rfl),
      z_dict := He.free_ok X G (fa_at cf 37 (f := .free "dict") rfl),
      z_list := He.free_ok X G (fa_at cf 38 (f := .free "list") rfl),
      z_tuple := He.free_ok X G (fa_at cf 39 (f := .free "tuple") rfl),
      z_sorted := He.free_ok X G (fa_at cf 40 (f := .free "sorted") rfl),
      z_int := He.free_ok X G (fa_at cf 41 (f := .free "int") rfl),
      z_len := He.free_ok X G (fa_at cf 42 (f := .free "len") rfl),
      z_abs := He.free_ok X G (fa_at cf 43 (f := .free "abs") rfl),
      z_range := He.free_ok X G (fa_at cf 44 (f := .free "range") rfl),
      z_repr := He.free_ok X G (fa_at cf 45 (f := .free "repr") rfl),
      z_bool := He.free_ok X G (fa_at cf 46 (f := .free "bool") rfl),
      z_super := He.free_ok X G (fa_at cf 47 (f := .free "super") rfl),
      z_enumerate := He.free_ok X G (fa_at cf 48 (f := .free "enumerate") rfl) }
  have Z : Tz P K mg (cK K) (fK K) (ccK K) (cdK K) (fEK K) (fBK K) := by
    refine tz_of X G cx hf ht T.z_super (c.fn 12 (d := cdX "Paper" "__init__" "Paper.__init__" (mS 0 0) []) rfl) (c.fn 13 (d := cdX "Paper" "__eq__" "Paper.__eq__" (mS 0 1) []) rfl) (c.fn 14 (d := cdX "Denial" "__bool__" "Denial.__bool__" (mS 1 1) []) rfl) ?_
    exact fun i h0 h => match i, h0, h with
        | 0, h0, _ => absurd h0 (by omega)
        | 1, _, _ => c.fn 15 (d := fnP 1) rfl
        | 2, _, _ => c.fn 16 (d := fnP 2) rfl
        | 3, _, _ => c.fn 17 (d := fnP 3) rfl
        | 4, _, _ => c.fn 18 (d := fnP 4) rfl
        | 5, _, _ => c.fn 19 (d := fnP 5) rfl
        | 6, _, _ => c.fn 20 (d := fnP 6) rfl
        | 7, _, _ => c.fn 21 (d := fnP 7) rfl
        | 8, _, _ => c.fn 22 (d := fnP 8) rfl
        | 9, _, _ => c.fn 23 (d := fnP 9) rfl
        | 10, _, _ => c.fn 24 (d := fnP 10) rfl
        | 11, _, _ => c.fn 25 (d := fnP 11) rfl
        | 12, _, _ => c.fn 26 (d := fnP 12) rfl
        | 13, _, _ => c.fn 27 (d := fnP 13) rfl
        | 14, _, _ => c.fn 28 (d := fnP 14) rfl
        | 15, _, _ => c.fn 29 (d := fnP 15) rfl
        | 16, _, _ => c.fn 30 (d := fnP 16) rfl
        | 17, _, _ => c.fn 31 (d := fnP 17) rfl
        | 18, _, _ => c.fn 32 (d := fnP 18) rfl
        | 19, _, _ => c.fn 33 (d := fnP 19) rfl
        | 20, _, _ => c.fn 34 (d := fnP 20) rfl
        | 21, _, _ => c.fn 35 (d := fnP 21) rfl
        | 22, _, _ => c.fn 36 (d := fnP 22) rfl
        | 23, _, _ => c.fn 37 (d := fnP 23) rfl
        | 24, _, _ => c.fn 38 (d := fnP 24) rfl
        | 25, _, _ => c.fn 39 (d := fnP 25) rfl
        | 26, _, _ => c.fn 40 (d := fnP 26) rfl
        | 27, _, _ => c.fn 41 (d := fnP 27) rfl
        | 28, _, _ => c.fn 42 (d := fnP 28) rfl
        | 29, _, _ => c.fn 43 (d := fnP 29) rfl
        | 30, _, _ => c.fn 44 (d := fnP 30) rfl
        | 31, _, _ => c.fn 45 (d := fnP 31) rfl
        | 32, _, _ => c.fn 46 (d := fnP 32) rfl
        | 33, _, _ => c.fn 47 (d := fnP 33) rfl
        | 34, _, _ => c.fn 48 (d := fnP 34) rfl
        | k + 35, _, h => absurd h (by omega)
  refine ⟨fd11, fun s u => ?_, fun base _ _ => ?_⟩
  · obtain ⟨oc, od, dV, kV, doc, pm, an, cdv, ct, osl, rfl, lk, hcd⟩ := F11.fn.ex
    obtain rfl : dV = .none := df11
    exact .of_eq rfl
  · have Gl := ok_dip (P := P) (w := w) (base := base) T
    have Gt := ok_pick T Gl
    have Gf : C8.Cal P w K mg base 9 "fixed" (spF 9) [] := oks_fixed T 9
    have V2 : Gd.Cal P w K mg base 5 "_law_value" (spVal 2) := oks_value T Gl Gt 3 (by decide)
    have G1 := ok_ones T Z Gf
    have G2 := ok_twos T Z Gf
    have G3 := ok_threes T Z Gf
    have G4 := ok_more T Z Gf
    exact ok_law F11 T Z Gf (ok_well T) V2 G1 G2 G3 G4 (ok_rows_right T Z) (ok_unlike T Z Gl G1 G2 G3 G4)
end K56


open PySem PySem.W PySem.Calls PyProof.Rows
theorem PySem.Challenge.cw_dimkeeper_k56_papers_of_every_class_holds : PySem.Challenge.rw_dimkeeper_k56_papers_of_every_class.Holds := by
  w_on; o_law
  refine HandSHeadRun.head_any (r := OpenLaw.row PySem.Challenge.rw_dimkeeper_k56_papers_of_every_class) (q := view (OpenLaw.row PySem.Challenge.rw_dimkeeper_k56_papers_of_every_class).prog [68]) (H := Gd.hkX 4 K56.Bx K56.fnx) (ob := K56.ob) (M := 20000) (loose := K56.nm1) (d := HandSHeadRun.topDef (OpenLaw.row PySem.Challenge.rw_dimkeeper_k56_papers_of_every_class).prog 68) (kwd := []) (fun s => Gd.obX_eq s)
    (by kernel_rfl) (fun s => by kernel_rfl) K56.run (by kernel_rfl) (by kernel_rfl) (by kernel_rfl) (by rfl) (by first | assumption | decide +kernel) (by decide +kernel) ⟨rfl, rfl, rfl, rfl, rfl, by decide +kernel⟩ ?hw ?hc
  case hw => w_witness2
  case hc =>
    refine Gd.walk_endE (l := PySem.Challenge.rw_dimkeeper_k56_papers_of_every_class) (n := 63) (k := 16) (x := "_law_script") rfl (by decide) (by kernel_rfl) ⟨rfl, by decide, by decide⟩ ?F
    intro w mg fa h Y G hmg0
    obtain ⟨K, KX, c⟩ := Y
    have hmg : mg ("law" : PySem.Str) = some (.ref fa) := by
      have e : (HandSHeadRun.topDef (OpenLaw.row PySem.Challenge.rw_dimkeeper_k56_papers_of_every_class).prog 68).name = ("law" : PySem.Str) := by kernel_rfl
      rw [← e]
      exact hmg0
    obtain ⟨fd, hb, hF⟩ := K56.all_mk (P := (PySem.Challenge.rw_dimkeeper_k56_papers_of_every_class).prog) (w := w) KX G hmg c (by kernel_rfl) (by kernel_rfl)
    exact ⟨K, fd, K56.spLaw K, KX, hb, fun H a ns hl hS => ⟨a, ns, rfl, hS, hl, fun _ => rfl⟩, hF⟩

