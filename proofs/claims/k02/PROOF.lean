import PyProof.Rows.All
import HandS.ForMost
import HandS.Codes
import HandS.Wide
import HandS.IsInst
import HandS.Walk
import HandS.TupAny
import HandS.Style
import PyProof.ReprRoads
import KE.GoesMore
import HandS.Head0
import HandS.Head1
import HandS.Head2
import HandS.HeadEnd
import HandS.HeadHook1
import HandS.Nested
import HandS.MethStar
import HandS.More
import HandS.Star
import KE.KSuper
import HandS.MakeKw
import HandS.ClsMeth
import KE.KTypeName
import HandS.SlotsOwn
import PyProof.RowDictHeap
import PyProof.ReprLen
import PyProof.FitsInt
import PySem.Challenge.RW_dimkeeper_k02_papers_keep_what_they_tell
import HandS.Conv
import HandS.HeadHook2
set_option Elab.async false
set_option linter.all false
set_option maxRecDepth 100000
set_option maxHeartbeats 1000000
/-! my own small layer over the hand layer: repr of data, defs that are called where no repr runs, the law's end for them -/
namespace Gd
open PySem PySem.Spec PyProof.Rows L2
/-- repr of a datum without dicts, of any depth -/
def rReprD (K : PySem.W.Frag) : List V → Hp → VK → Prop := fun xs H Q =>
  ∃ (a : Addr) (d : PyData), xs = [.ref a] ∧ Dp K H (.ref a) d ∧ d.showable = true ∧ d.hasDict = false ∧ d.depth ≤ 60 ∧ d.shown.length ≤ sizeLine ∧ Q (.str d.shown) H
theorem call_reprD {X : Cx} (hg : X.A.guards = some []) (hu : X.A.units + 64 < cLine) : CallR X (.builtin "repr") (rReprD X.K) := by
  intro pins s σ H xs us Q I r h
  obtain ⟨a, d, rfl, hd, hs, hn, hdep, hsz, q⟩ := h
  obtain ⟨u, rfl, ru⟩ := vals1 r
  obtain rfl : u = Value.ref a := ru
  obtain ⟨as, rd⟩ := Dp.reads I d _ _ hd rfl
  refine repr_of_reads' rd hs (PyData.noDict_hsm hn) hg (by omega) (fun _ _ e => e) (fun h' v tk hk => ?_) hsz
  exact ⟨.str d.shown, H, I.kept hk, ⟨v, rfl⟩, q⟩

/-! ### lists of ints as data -/
theorem dp_ints {K : PySem.W.Frag} {H : Hp} : ∀ ns : List Int, DpAll K H (ns.map V.int) (ns.map PyData.int)
  | [] => .nil
  | n :: r => .cons (.int n) (dp_ints r)
theorem can_ints : ∀ ns : List Int, PyData.canLayAll0 (ns.map PyData.int) = true
  | [] => rfl
  | n :: r => by
    show (PyData.canLay0 (.int n) && PyData.canLayAll0 (r.map PyData.int)) = true
    rw [can_ints r] <;> rfl
theorem dep_ints : ∀ ns : List Int, PyData.depthAll (ns.map PyData.int) = 0
  | [] => rfl
  | n :: r => by
    show max (PyData.depth (.int n)) (PyData.depthAll (r.map PyData.int)) = 0
    rw [dep_ints r] <;> rfl
theorem shaped_ints (ns : List Int) : SeqAt.shaped (.list (ns.map PyData.int)) = true := by
  unfold SeqAt.shaped
  rw [Bool.and_eq_true]
  refine ⟨can_ints ns, decide_eq_true ?_⟩
  show PyData.depthAll (ns.map PyData.int) + 1 ≤ 64
  rw [dep_ints] <;> decide
theorem eqv_ints_nil (ns : List Int) : PyData.eqv (.list (ns.map PyData.int)) (.list []) = ns.isEmpty := by cases ns <;> rfl

/-! ### lists of texts as data -/
theorem dp_strs {K : PySem.W.Frag} {H : Hp} : ∀ zs : List Str, DpAll K H (zs.map V.str) (zs.map PyData.str)
  | [] => .nil
  | z :: r => .cons (.str z) (dp_strs r)
/-- a text of small code points -/
def Asc (z : Str) : Prop := ∀ c ∈ z.cps.toList, c < 128
theorem asc_ok {z : Str} (h : Asc z) : PySem.PyData.strOk z = true := by
  unfold PySem.PyData.strOk
  rw [← Array.all_toList, List.all_eq_true]
  intro c hc
  have := h c hc
  exact decide_eq_true (by omega)
theorem can_strs : ∀ zs : List Str, (∀ z ∈ zs, Asc z) → PyData.canLayAll0 (zs.map PyData.str) = true
  | [], _ => rfl
  | z :: r, h => by
    have h1 : PyData.canLay0 (.str z) = true := by
      simp only [PyData.canLay0]
      exact asc_ok (h z List.mem_cons_self)
    have h2 := can_strs r fun y hy => h y (List.mem_cons_of_mem _ hy)
    rw [List.map_cons]
    simp only [PyData.canLayAll0, h1, h2, Bool.and_self]
theorem dep_strs : ∀ zs : List Str, PyData.depthAll (zs.map PyData.str) = 0
  | [] => rfl
  | z :: r => by
    show max (PyData.depth (.str z)) (PyData.depthAll (r.map PyData.str)) = 0
    rw [dep_strs r] <;> rfl
theorem shaped_strs {zs : List Str} (h : ∀ z ∈ zs, Asc z) : SeqAt.shaped (.list (zs.map PyData.str)) = true := by
  unfold SeqAt.shaped
  rw [Bool.and_eq_true]
  refine ⟨can_strs zs h, decide_eq_true ?_⟩
  show PyData.depthAll (zs.map PyData.str) + 1 ≤ 64
  rw [dep_strs] <;> decide
theorem eqv_strs_nil (zs : List Str) : PyData.eqv (.list (zs.map PyData.str)) (.list []) = zs.isEmpty := by cases zs <;> rfl
theorem asc_cat {x y : Str} (hx : Asc x) (hy : Asc y) : Asc (x ++ y) := fun c hc => by
  rw [show (x ++ y).cps.toList = x.cps.toList ++ y.cps.toList from TL.tl_append x y] at hc
  exact (List.mem_append.mp hc).elim (hx c) (hy c)
theorem asc_cut {x : Str} (hx : Asc x) (lo hi : Option Int) : Asc (cutS x lo hi) := fun c hc => by
  unfold cutS at hc
  exact hx c (List.mem_of_mem_drop (List.mem_of_mem_take hc))
theorem asc_one {c : Nat} (h : c < 128) : Asc ⟨#[c]⟩ := fun d hd => by
  rw [List.mem_singleton.mp hd]
  exact h
theorem joinL_mem (S : List Nat) : ∀ (ps : List (List Nat)) (x : Nat), x ∈ TL.joinL S ps → x ∈ S ∨ ∃ p ∈ ps, x ∈ p
  | [], x, h => nomatch h
  | [p], x, h => .inr ⟨p, List.mem_cons_self, h⟩
  | p :: q :: r, x, h => by
    have h' : x ∈ p ++ (S ++ TL.joinL S (q :: r)) := h
    rcases List.mem_append.mp h' with h | h
    · exact .inr ⟨p, List.mem_cons_self, h⟩
    · rcases List.mem_append.mp h with h | h
      · exact .inl h
      · rcases joinL_mem S (q :: r) x h with h | ⟨y, hy, hx⟩
        · exact .inl h
        · exact .inr ⟨y, List.mem_cons_of_mem _ hy, hx⟩
theorem asc_join {a : Str} {zs : List Str} (ha : Asc a) (h : ∀ z ∈ zs, Asc z) : Asc (Txt.join a zs) := fun c hc => by
  have e := TL.tl_join a zs
  rw [← TL.join_eq] at e
  rw [show (Txt.join a zs).cps.toList = _ from e] at hc
  rcases joinL_mem _ _ _ hc with h1 | ⟨p, hp, hx⟩
  · exact ha c h1
  · obtain ⟨z, hz, rfl⟩ := List.mem_map.mp hp
    exact h z hz c hx
theorem lt_one (c d : Nat) : decide (([c] : List Nat) < [d]) = decide (c < d) := by
  refine decide_eq_decide.mpr ?_
  simp [List.cons_lt_cons_iff]

/-- a def's promise, kept wherever no repr of a container runs around the call -/
structure FnG (P : Program) (w : World) (K : PySem.W.Frag) (mg : Str → Option Value) (base : Heap) (CX : CXT) (k : Nat) (f : Addr) (fd : FuncData) (ps : List Str) (sp : Sp) : Prop where
  len : ∀ vs H Q E, sp vs H Q E → vs.length = ps.length
  run : ∀ (A : Around) (outer : List Env) (s : Shared) (H : Hp) (args : Args) (us : List Value) (vs : List V) (Q : VK) (E : XK), A.guards = some [] → Room k A →
    Env0 P w K mg base A outer s H → BindsTo s fd args (ps.zip us) → Vals vs us → sp vs H Q E →
    codeAny (model P w) A (.call (.ref f) args) (CR CX outer P w H s Q E) s
section
variable {P : Program} {w : World} {K : PySem.W.Frag} {mg : Str → Option Value} {base : Heap} {CX : CXT} {k : Nat} {f : Addr} {fd : FuncData} {ps : List Str} {sp : Sp}
theorem FnG.of (F : FnOk P w K mg base CX k f fd ps sp) : FnG P w K mg base CX k f fd ps sp :=
  ⟨F.len, fun A outer s H args us vs Q E _ => F.run A outer s H args us vs Q E⟩
theorem FnG.mono {j : Nat} (F : FnG P w K mg base CX j f fd ps sp) (h : j ≤ k) : FnG P w K mg base CX k f fd ps sp :=
  ⟨F.len, fun A outer s H args us vs Q E g hr => F.run A outer s H args us vs Q E g (hr.mono h)⟩
theorem guards_deeper (A : Around) (env : Env) : (A.deeper env).guards = A.guards := rfl
theorem fnG_of {x qual : Str} {st : Stmt} {N : List Str} (F : C8.Fun K x qual st f fd) (S : FnScope N ps (C8.fnScope st)) (len : ∀ vs H Q E, sp vs H Q E → vs.length = ps.length)
    (hbody : ∀ (cdv : Value) (A : Around) (outer : List Env) (s : Shared) (H : Hp) (vs : List V) (Q : VK) (E : XK),
      (A.deeper (envOfC qual (C8.fnScope st) s.heap.objs.size f cdv)).guards = some [] → Room k (A.deeper (envOfC qual (C8.fnScope st) s.heap.objs.size f cdv)) → sp vs H Q E →
      ∃ t, PSs (cxOf CX P w K mg base N qual (C8.fnScope st) f cdv A outer s H E) (C8.fnBody st) t ∧ t { nx := fun _ H' => Q .non H', rt := Q } (start N vs) H) :
    FnG P w K mg base CX (k + 1) f fd ps sp := by
  obtain ⟨oc, od, dV, kV, doc, pm, an, cdv, ct, osl, rfl, lk, hcd⟩ := F.ex
  refine ⟨len, fun A outer s H args us vs Q E hgd hr e0 hb r hsp => ?_⟩
  have keepB : ∀ b o, base.get? b = some o → s.heap.get? b = some o := fun b o e => (e0.bs b o e).1
  have KX := e0.mod.kin.keeps keepB
  have kinds : ∀ y ∈ ps.zip us, (C8.fnScope st).names.lookup y.1 = some .local ∨
      ((C8.fnScope st).names.lookup y.1 = some .cell ∧ ((cellsFrom (s.heap.objs.size + 1) (C8.fnScope st).names []).lookup y.1).isSome = true) := by
    intro y hy
    cases S.par y.1 (List.of_mem_zip hy).1 with
    | inl q => exact .inl q
    | inr q => exact .inr ⟨q, PySem.W.cellsFrom_some _ _ _ (.inl q)⟩
  refine codeAny_call_function hr.depth (KX _ _ lk) rfl S.co S.gen rfl (PySem.W.codeRec_of KX hcd) (hb _ _ _ _ ?_)
  refine wpAny_newFunctionEnv_cells S.kind kinds fun env he s1 x => ?_
  subst he
  refine ⟨(e0.mod.nolimit.keeps keepB).keeps x.toInCall.keep, codeAny_func ?_⟩
  obtain ⟨t, ht, hq⟩ := hbody cdv A outer s H vs Q E hgd (hr.deeper _) hsp
  refine wpAny_mono (ht.run [] s1 (start N vs) H _ (inv_start S hr.hd e0 (len _ _ _ _ hsp) r x) hq) (fun fl s' hs => ?_) fun e s' hs => hs
  cases fl with
  | ret u =>
    obtain ⟨v, σ', H', J, rv, q⟩ := hs
    exact ⟨v, H', J.os, J.bare, J.base, J.hok, rv, q⟩
  | next =>
    obtain ⟨σ', H', J, q⟩ := hs
    exact ⟨V.non, H', J.os, J.bare, J.base, J.hok, rfl, q⟩
  | brk =>
    obtain ⟨_, _, _, q⟩ := hs
    exact q.elim
  | cont =>
    obtain ⟨_, _, _, q⟩ := hs
    exact q.elim
/-- a def that may be called by its name, from where no repr runs -/
structure Cal (P : Program) (w : World) (K : PySem.W.Frag) (mg : Str → Option Value) (base : Heap) (k : Nat) (x : Str) (sp : Sp) : Prop where
  ex : ∃ (f : Addr) (fd : FuncData) (ps : List Str), FnG P w K mg base CX0 k f fd ps sp ∧ mg x = some (.ref f) ∧ PySem.W.keepIn K (.ref f) = true ∧ Binds K fd ps []
/-- the promise of such a def by its body -/
theorem cal {x : Str} {st : Stmt} {N : List Str} (F : C8.Def K mg x st f fd) (b : Binds K fd ps []) (S : FnScope N ps (C8.fnScope st)) (len : ∀ vs H Q E, sp vs H Q E → vs.length = ps.length)
    (hbody : ∀ (cdv : Value) (A : Around) (outer : List Env) (s : Shared) (H : Hp) (vs : List V) (Q : VK) (E : XK),
      (A.deeper (envOfC x (C8.fnScope st) s.heap.objs.size f cdv)).guards = some [] → Room k (A.deeper (envOfC x (C8.fnScope st) s.heap.objs.size f cdv)) → sp vs H Q E →
      ∃ t, PSs (cxOf CX0 P w K mg base N x (C8.fnScope st) f cdv A outer s H E).nox (C8.fnBody st) t ∧ t { nx := fun _ H' => Q .non H', rt := Q } (start N vs) H) :
    Cal P w K mg base (k + 1) x sp := by
  refine ⟨f, fd, ps, fnG_of F.fn S len fun cdv A outer s H vs Q E g hr h => ?_, F.mgf, F.kp, b⟩
  obtain ⟨t, p, q⟩ := hbody cdv A outer s H vs Q E g hr h
  exact ⟨t, p.nox, q⟩
end
section
variable {X : Cx} {k j : Nat} {x : Str} {sp : Sp} {p pos : Pos} {e : Expr} {es : List Expr} {t : TA}
theorem runG {CX : CXT} {f : Addr} {fd : FuncData} {ps : List Str} {E : XK} {pins : List (Addr × Obj)} {σ : L2.St} {H : Hp} {s : Shared} {Q : VK} {us : List Value} {vs : List V}
    (F : FnG X.prog X.w X.K X.mg X.base CX k f fd ps sp) (hg : X.A.guards = some []) (hr : Room k X.A) (hb : Binds X.K fd ps []) (hx : Passes CX X E)
    (I : Inv X pins σ H s) (r : Vals vs us) (h : sp vs H Q E) : wpAny (model X.prog X.w) X.A (call (.ref f) us) (EP X pins σ Q) X.xe s := by
  have hl : (us ++ []).length = ps.length := by
    rw [List.append_nil, ← r.length]
    exact F.len _ _ _ _ h
  have bt := hb s us I.kIn hl
  rw [List.append_nil] at bt
  refine wpAny_call (codeAny_mono (F.run X.A X.stack s H ⟨us, []⟩ us vs Q E hg hr I.env0 bt r h) fun res s' hq => ?_)
  match res, hq with
  | .error e, hq => exact hx pins σ H s e s' I hq
  | .ok (.ret u), hq => exact I.after hq
/-- f(e, ..) -/
theorem pc (c : Cal X.prog X.w X.K X.mg X.base k x sp) (hgd : X.A.guards = some []) (hr : Room j X.A) (hk : k ≤ j) (hg : Gl X x) (ha : PA X (e :: es) t)
    (hdb : (x == ("__debug__" : Str)) = false := by decide) (he : starEach (e :: es) X.env = (false, eval e X.env) :: starEach es X.env := by rfl) (hpl : (backTo pos (starEach es X.env)).any (·.1) = false := by rfl) :
    PE X (.Call (.Name x p) (e :: es) [] pos) (tCall sp [] E0 t) := by
  obtain ⟨f, fd, ps, F, hm, kp, b⟩ := c.ex
  refine ⟨fun pins s σ H Q I h => wpAny_Call_Name_kw (ld_glob I hg hm ?_ hdb)⟩
  refine PySem.W.callWith_K (h₀ := X.base) I.ok.mod.kin kp (thn (ha.run pos pins s σ H _ I h) fun us s1 hh => ?_) he hpl
  obtain ⟨vs, H1, I1, r, q⟩ := hh
  rw [List.append_nil] at q
  exact ⟨I1.kIn, runG F hgd (hr.mono hk) b pass0 I1 r q⟩
/-- f() -/
theorem pc0 (c : Cal X.prog X.w X.K X.mg X.base k x sp) (hgd : X.A.guards = some []) (hr : Room j X.A) (hk : k ≤ j) (hg : Gl X x)
    (hdb : (x == ("__debug__" : Str)) = false := by decide) : PE X (.Call (.Name x p) [] [] pos) (tCall sp [] E0 tNil) := by
  obtain ⟨f, fd, ps, F, hm, kp, b⟩ := c.ex
  refine ⟨fun pins s σ H Q I h => wpAny_Call_Name_kw (ld_glob I hg hm ?_ hdb)⟩
  exact PySem.W.callWith_K0 I.kIn kp (runG (us := []) (vs := []) F hgd (hr.mono hk) b pass0 I .nil h)
end

/-- a comprehension without an if -/
theorem lc_yes {te : TE} {σ : L2.St} {H : Hp} {R : VK} {N : Hp → Prop} (h : te σ H R) : tYes σ H (fun b H3 => if b = true then te σ H3 R else N H3) := by
  show (if true = true then te σ H R else N H)
  rw [if_pos rfl]
  exact h
theorem sm1000 {n : Nat} (h : n ≤ 1000) : n ≤ sizeLine := Nat.le_of_lt (small1000 h)
theorem same_new {H : Hp} {p : Addr} {o : HO} (h : H p = none) : Same H (upd H p o) := fun b x e => by
  rw [upd_ne (ne_of_none e h)]
  exact e
/-- what stood at no tracked place is written -/
theorem same_grow {H H' : Hp} {D : Addr} {o : HO} (h : H D = none) (s : Same H H') : Same H (upd H' D o) := fun b x e => by
  rw [upd_ne (ne_of_none e h)]
  exact s b x e
theorem take_next {α β : Type} {f : α → β} {l : List α} {i : Nat} {c : α} (h : l[i]? = some c) : (l.take i).map f ++ [f c] = (l.take (i + 1)).map f := by
  rw [List.take_add_one, h, List.map_append]
  rfl
theorem size_cps (z : Str) : z.cps.size = z.length := rfl
theorem len_cps (z : Str) : z.cps.toList.length = z.length := by simp [Str.length]

/-! ### enumerate(a text) -/
def Ets (x : Str) : It :=
  ⟨fun i _ => i < x.cps.size, fun i H v H' => ∃ T c, v = .ref T ∧ H T = none ∧ H' = upd H T (.tup [.int (i : Nat), .str ⟨#[c]⟩]) ∧ x.cps[i]? = some c, fun i _ => i = x.cps.size⟩
theorem turn_enumS {P : Program} {w : World} {K : PySem.W.Frag} {elts : List Expr} {kk : Nat} {tpos : Pos} (e it : Addr) (x : Str) (t : Tok) :
    Turn P w K (.Tuple elts kk tpos) (Ets x) [e, it] e
      (fun i h => (∃ old, IsEnum h e it ((i : Nat) : Int) old) ∧ h.IsStrIter it (strIterType x) x t i ∧ e ≠ it) where
  mem := List.mem_cons_self
  obj := fun i h st b hb => by
    obtain ⟨⟨old, he⟩, ⟨o, ho, _, hd⟩, _⟩ := st
    rcases List.mem_cons.mp hb with rfl | hb
    · exact ⟨_, he, fun v q => nomatch q⟩
    · obtain rfl := List.mem_singleton.mp hb
      exact ⟨o, ho, fun v q => by rw [hd] at q; cases q⟩
  keep := fun i h h' st k => by
    obtain ⟨⟨old, he⟩, ⟨o, ho, r⟩, hne⟩ := st
    exact ⟨⟨old, k e (by simp) _ he⟩, ⟨o, k it (by simp) _ ho, r⟩, hne⟩
  item := by
    intro X hP hw hK hc i pins s σ H E I hf st hg
    subst hP hw hK
    obtain ⟨⟨old, he⟩, hit, hne⟩ := st
    have hel : e < s.heap.objs.size := Heap.lt_size he
    have hil : it < s.heap.objs.size := by
      obtain ⟨_, q, _⟩ := hit
      exact Heap.lt_size q
    have D := Draws.text (prog := X.prog) (w := X.w) (A := X.A.in1) (I.ok.hd hc) it x t
    refine wpAny_pyNext_enum_itemD D he hit hg hne (by simpa using hne) fun xv h' tk hx ho hit' hT hsz hk => ?_
    obtain ⟨c, u, hcx, rfl⟩ := hx
    refine ⟨_, rfl, wpAny_letOwnedTupleGo_enum (s := { s with heap := h', toks := tk + 1 }) ho fun h'' he' sb => ?_⟩
    have tup : h''.get? s.heap.objs.size = some { cls := .type "tuple", data := .seq #[.int i tk, .str ⟨#[c]⟩ u] } :=
      (sb.2 _ (Nat.ne_of_gt hel)).trans hT
    have ok : ObjOk X.prog X.w (upd H s.heap.objs.size (.tup [.int (i : Nat), .str ⟨#[c]⟩])) h'' s.heap.objs.size (.tup [.int (i : Nat), .str ⟨#[c]⟩]) := by
      refine ⟨by show 2 ≤ sizeLine; decide, [.int i tk, .str ⟨#[c]⟩ u], .cons ⟨tk, rfl⟩ (.cons ⟨u, rfl⟩ .nil), ⟨_, tup, rfl, _, rfl⟩⟩
    have I1 : Inv X pins σ (upd H s.heap.objs.size (.tup [.int (i : Nat), .str ⟨#[c]⟩])) { s with heap := h'', toks := tk + 1 } := by
      refine I.turnedNew (ch := [e, it]) (fun b ob hb q => ?_) hf (Nat.le_refl _) ok
      have n1 : b ≠ e := fun z => hb (by simp [z])
      have n2 : b ≠ it := fun z => hb (by simp [z])
      exact (sb.2 b n1).trans (hk b ob n1 n2 q)
    have nx : ((i + 1 : Nat) : Int) = (i : Int) + 1 := by omega
    refine ⟨.ref s.heap.objs.size, _, I1, rfl, ⟨_, c, rfl, I.hok.fresh (Nat.le_refl _), rfl, hcx⟩, ⟨⟨_, by rw [nx]; exact he'⟩, ?_, hne⟩, fun b hb => ?_⟩
    · obtain ⟨o, q, r⟩ := hit'
      exact ⟨o, (sb.2 it (Ne.symm hne)).trans q, r⟩
    · have lt : b < s.heap.objs.size := by
        rcases List.mem_cons.mp hb with rfl | hb
        · exact hel
        · obtain rfl := List.mem_singleton.mp hb
          exact hil
      rw [upd_ne (Nat.ne_of_lt lt)]
      exact (hf b hb).1
  done := by
    intro X hP hw hK hc i pins s σ H E I hf st hg
    subst hP hw hK
    obtain ⟨⟨old, he⟩, hit, hne⟩ := st
    obtain ⟨f0, f1, f2, f3, f4, f5⟩ := hf it (by simp)
    have hi : i = x.cps.size := hg
    have D := Draws.text (prog := X.prog) (w := X.w) (A := X.A.in1) (I.ok.hd hc) it x t
    rw [hi] at hit
    exact wpAny_pyNext_enum_endD D he hit fun h' eb => ⟨rfl, I.turned (t' := s.toks) (fun b o hb q => eb b o hb q) f0 f1 f3 f4 f5⟩
  self := fun A i s Q E st h => by
    obtain ⟨⟨_, he⟩, _⟩ := st
    exact wpAny_pyIter_enum he h
def iEnumS (ta : TA) : TI := fun σ H R => ta σ H fun vs H1 => ∃ x, vs = [.str x] ∧ R (Ets x) H1
theorem pi_enumS {X : Cx} {e : Expr} {ta : TA} {p pos tpos : Pos} {elts : List Expr} {kk : Nat} (hg : Gl X "enumerate") (hm : X.mg "enumerate" = none) (ha : PA X [e] ta)
    (hs : starEach [e] X.env = [(false, eval e X.env)] := by rfl) : PI X (.Tuple elts kk tpos) (.Call (.Name "enumerate" p) [e] [] pos) (iEnumS ta) := by
  refine ⟨fun pins s σ H R I h => Call_ (ld_blt I hg hm boot_enumerate (PyProof.Rows.callWith_type1 (thn (ha.run pos pins s σ H _ I h) fun us s1 hh => ?_) hs rfl))⟩
  obtain ⟨vs, H1, I1, r1, x, rfl, q⟩ := hh
  obtain ⟨u, rfl, t, rfl⟩ := vals1 r1
  refine call_enumerate_str fun h' he hit hsz hk => wpAny_pyIter_enum he ?_
  have I2 : Inv X pins σ H1 { s1 with heap := h' } := I1.kept (t' := s1.toks) hk
  refine ⟨s1.heap.objs.size + 1, [s1.heap.objs.size + 1, s1.heap.objs.size], _, _, H1, rfl, I2, turn_enumS _ _ x t, ⟨⟨.none, he⟩, hit, Nat.succ_ne_self _⟩, fun b hb => ?_, q⟩
  have le : s1.heap.objs.size ≤ b := by
    rcases List.mem_cons.mp hb with rfl | hb
    · exact Nat.le_succ _
    · obtain rfl := List.mem_singleton.mp hb
      exact Nat.le_refl _
  exact I1.fpOk le (I1.hok.fresh le)
theorem walk_enumS {x : Str} : Walk (Ets x) x.cps.size (fun _ => True) (YPair (fun i => some (.int (i : Nat))) (fun i => x.cps[i]?.map fun c => .str ⟨#[c]⟩)) := by
  refine ⟨fun _ _ hi _ => hi, fun _ _ => rfl, fun i H v H' _ _ y => ?_⟩
  obtain ⟨T, c, h1, h2, h3, h4⟩ := y
  exact ⟨T, .int (i : Nat), .str ⟨#[c]⟩, h1, h2, h3, rfl, by show x.cps[i]?.map (fun c => V.str ⟨#[c]⟩) = _; rw [h4]; rfl⟩

/-! ### the law's end -/
theorem law_end {P : Program} {w : World} {K : PySem.W.Frag} {mg mb : Str → Option Value} {k : Nat} {fa a : Addr} {fd : FuncData} {x : Str} {sp : Sp} {s₁ : Shared} {vs : List Value} {ns : List Int}
    (KX : K.In s₁.heap) (hns : s₁.heap.Ns mainGlobals mg) (hb : s₁.heap.Ns builtinsNs mb) (hbb : ∀ x : Str, x ≠ "__name__" → mb x = bootBuiltins x) (hlim : s₁.heap.NoLimit) (hgn : s₁.gens = #[])
    (ha : s₁.heap.get? a = some { cls := .type "list", data := .seq vs.toArray }) (hi : IntsAre vs ns) (hl : ns.length ≤ sizeLine) (hr : Room k callerA)
    (F : ∀ base : Heap, K.In base → base.Ns mainGlobals mg → FnG P w K mg base CX0 k fa fd [x] sp) (hbind : ∀ (s : Shared) (u : Value), BindsTo s fd ⟨[u], []⟩ [(x, u)])
    (hsp : ∀ H : Hp, SqL K H a (ns.map V.int) → sp [.ref a] H (fun v _ => v = .bl true) E0) :
    codeAny (model P w) callerA (.call (.ref fa) ⟨[.ref a], []⟩) (fun r s' => r = .ok (.ret (.bool true)) ∧ OldK s₁.heap s'.heap ∧ s'.os = s₁.os ∧ AllBare s'.gens) s₁ := by
  have rv := vals_ints hi
  let O : Obj := { cls := .type "list", data := .seq vs.toArray }
  have key : ∀ H : Hp, SqL K H a (ns.map V.int) → HOk P w H s₁.heap → (∀ b, H b = none ∨ (b = a ∧ K.lookup b = none ∧ H b = some (.frz O (.lst (ns.map V.int))))) →
      codeAny (model P w) callerA (.call (.ref fa) ⟨[.ref a], []⟩) (fun r s' => r = .ok (.ret (.bool true)) ∧ OldK s₁.heap s'.heap ∧ s'.os = s₁.os ∧ AllBare s'.gens) s₁ := by
    intro H hS hok hO
    have free : ∀ {b : Addr} {o : Obj} {es : Array DictEntry} {ep : Nat}, s₁.heap.get? b = some o → o.data = .dict es ep → H b = none := by
      intro b o es ep e d
      rcases hO b with q | ⟨rfl, _, _⟩
      · exact q
      · rw [ha] at e
        cases e
        cases d
    have nsH : ∀ {b : Addr} {m : Str → Option Value}, s₁.heap.Ns b m → (hidT s₁.heap H).Ns b m := by
      rintro b m ⟨o, es, ep, e, d, r⟩
      exact ⟨o, es, ep, hidT_get e (free e d), d, r⟩
    have inH : K.In (hidT s₁.heap H) := by
      intro b o e
      refine hidT_get (KX b o e) ?_
      rcases hO b with q | ⟨_, z, _⟩
      · exact q
      · rw [z] at e
        cases e
    have lim : (hidT s₁.heap H).NoLimit := by
      obtain ⟨mc, h1, h2⟩ := hlim
      exact ⟨mc, nsH h1, h2⟩
    have md : Mod K mg (hidT s₁.heap H) := ⟨inH, nsH hns, ⟨mb, nsH hb, hbb⟩, lim⟩
    have e0 : Env0 P w K mg (hidT s₁.heap H) callerA [] s₁ H := by
      refine ⟨rfl, md, fun b o e => of_hidT e, Nat.le_of_eq (hidT_size _ _), trivial, fun b z => ?_, hok, .of_eq hgn⟩
      exact absurd (show b ∈ ([] : List Addr) from z) List.not_mem_nil
    refine codeAny_mono ((F _ inH (nsH hns)).run callerA [] s₁ H ⟨[.ref a], []⟩ [.ref a] [.ref a] _ _ rfl hr e0 (hbind s₁ (.ref a)) (.cons rfl .nil) (hsp H hS)) fun r s' h => ?_
    match r, h with
    | .error e, h => exact False.elim h
    | .ok (.ret u), h =>
      obtain ⟨v, H', os, bare, un, hok', r', q⟩ := h
      obtain rfl : v = .bl true := q
      obtain rfl : u = Value.bool true := r'
      refine ⟨rfl, OldK.of_keep fun b o e => ?_, os, bare⟩
      rcases hO b with q | ⟨_, _, q⟩
      · exact un.keep b o e q (fun z => absurd (show b ∈ ([] : List Addr) from z) List.not_mem_nil) List.not_mem_nil
      · have e1 := (hok b _ q).1
        have e2 := (hok' b _ (un.frzs b O _ q)).1
        rw [e] at e1
        cases e1
        exact e2
  cases hk : K.lookup a with
  | some o =>
    have e := KX a o hk
    rw [ha] at e
    cases e
    refine key (fun _ => none) (.inr ⟨_, vs.toArray, _, hk, rfl, rfl, rfl, ?_, ?_⟩) (fun b u z => nomatch z) fun _ => .inl rfl
    · rw [List.size_toArray, hi.length]
      exact hl
    · simpa using rv
  | none =>
    have at_a : ∀ b, (if b = a then some (HO.frz O (.lst (ns.map V.int))) else none) ≠ none → b = a := by
      intro b z
      by_cases e : b = a
      · exact e
      · rw [if_neg e] at z
        exact absurd rfl z
    refine key (fun b => if b = a then some (.frz O (.lst (ns.map V.int))) else none) (.inl (.inr ⟨O, if_pos rfl⟩)) (fun b u z => ?_) fun b => ?_
    · have z' : (if b = a then some (HO.frz O (.lst (ns.map V.int))) else none) = some u := z
      have e : b = a := at_a b (by rw [z']; exact fun z => nomatch z)
      subst e
      rw [if_pos rfl] at z'
      cases z'
      exact ⟨ha, by rw [List.length_map]; exact hl, vs, _, rv, ha⟩
    · by_cases e : b = a
      · subst e
        exact .inr ⟨rfl, hk, if_pos rfl⟩
      · exact .inl (if_neg e)
theorem walk_end {l : PySem.W.OpenLaw} {n k : Nat} {q : Program} {loose : List Str} {XP : (Str → Option Value) → Heap → Prop} {YP : World → Heap → Prop} {d : DefRec} {K : Params → PySem.W.Frag} {sp : World → Sp} {x : Str}
    (hn : l.most = some n) (hn2 : n ≤ sizeLine) (hdf : d.params.defaults = []) (hr : Room k callerA)
    (hY : ∀ (w : World) (h : Heap), YP w h → (K w.params).In h)
    (F : ∀ (w : World) (mg : Str → Option Value) (fa : Addr) (h : Heap), (K w.params).In h → h.Ns mainGlobals mg → mg d.name = some (.ref fa) →
      ∃ fd : FuncData, (∀ (s : Shared) (u : Value), BindsTo s fd ⟨[u], []⟩ [(x, u)]) ∧
        ∀ base : Heap, (K w.params).In base → base.Ns mainGlobals mg → FnG l.prog w (K w.params) mg base CX0 k fa fd [x] (sp w))
    (hsp : ∀ (w : World) (H : Hp) (a : Addr) (ns : List Int), ns.length ≤ n → SqL (K w.params) H a (ns.map V.int) → sp w [.ref a] H (fun v _ => v = .bl true) E0) :
    PySem.W.WalkO q loose XP YP l.row.toRowW d [] (fun f vs => PySem.call f vs) := by
  refine Att.attach_call hn hdf fun w s₀ s₁ mg mb fa o pm cd doc a vs ns G Y ho hd hcd hmg hobj hints hlen hg => ?_
  obtain ⟨fd, hb, hF⟩ := F w mg fa _ (hY w _ Y) G.T.g hmg
  exact law_end (hY w _ Y) G.T.g G.T.b G.T.builtins G.T.nolimit hg hobj hints (Nat.le_trans hlen hn2) hr hF hb fun H hS => hsp w H a ns hlen hS
end Gd

set_option Elab.async false
set_option linter.all false
set_option maxRecDepth 100000
set_option maxHeartbeats 2000000
/-! the head by one run of the kernel; what it leaves is told by a look of one's own -/
namespace Gd
open PySem PySem.Spec PyProof.Rows L2
/-- what a look tells: a truth about the part of the heap that the names reach in n steps, and the text of defs -/
def obG (n : Nat) (B : PySem.W.Frag → Bool) (fn : List He.FnD) (g : Addr → Option Obj) : Bool × List He.FnV := (B (He.frG g (He.asG g n)), fn.map fun d => He.fnObs (He.frG g (He.asG g n)) d.at_)
def SaysG (B : PySem.W.Frag → Bool) (fn : List He.FnD) (K : PySem.W.Frag) : Prop := B K = true ∧ fn.map (fun d => He.fnObs K d.at_) = fn.map He.FnD.val
def hkG (n : Nat) (B : PySem.W.Frag → Bool) (fn : List He.FnD) : PySem.W.Hook where
  α := Bool × List He.FnV
  obs := fun s => obG n B fn s.heap.get?
  val := fun _ => (true, fn.map He.FnD.val)
  says := fun _ h => ∃ K : PySem.W.Frag, K.In h ∧ SaysG B fn K
  of := fun _ s e => ⟨He.frG s.heap.get? (He.asG s.heap.get? n), He.frG_in, congrArg (fun z => z.1) e, congrArg (fun z => z.2) e⟩
  keeps := fun _ _ _ ⟨K, hK, c⟩ k => ⟨K, PySem.W.Frag.In.keeps hK k, c⟩
theorem obG_eq {n : Nat} {B : PySem.W.Frag → Bool} {fn : List He.FnD} (s : PySem.W.SharedT) : obG n B fn (HandSHeadRun.getT s) = (hkG n B fn).obs s.abs := by
  have e : HandSHeadRun.getT s = s.abs.heap.get? := funext (HandSHeadRun.getT_eq s)
  rw [e]
  rfl
theorem SaysG.fn {B : PySem.W.Frag → Bool} {fn : List He.FnD} {K : PySem.W.Frag} (c : SaysG B fn K) (i : Nat) {d : He.FnD} (h : fn[i]? = some d) : He.fnObs K d.at_ = d.val := by
  have e : (fn.map fun d => He.fnObs K d.at_)[i]? = (fn.map He.FnD.val)[i]? := by rw [c.2]
  rw [List.getElem?_map, List.getElem?_map, h] at e
  exact Option.some.inj e
/-- a def of the module as the look tells it -/
def gd (x : Str) (st : Stmt) : He.FnD := ⟨(x, none), x, x, C8.fnArgs st, C8.fnBody st, C8.fnScope st⟩
/-- .. of a class -/
def cd (x m q : Str) (st : Stmt) : He.FnD := ⟨(x, some m), m, q, C8.fnArgs st, C8.fnBody st, C8.fnScope st⟩
theorem fun_of {K : PySem.W.Frag} {p : Str × Option Str} {x q : Str} {st : Stmt} (o : He.fnObs K p = He.FnD.val ⟨p, x, q, C8.fnArgs st, C8.fnBody st, C8.fnScope st⟩) (cd : (He.Fa.code p q).ok K = true) :
    ∃ fd, C8.Fun K x q st (He.fAd K p) fd ∧ fd.defaults = .none := by
  obtain ⟨oc, od, osl, kV, doc, pm, an, cdv, ct, l, c⟩ := He.fn_ok (d := ⟨p, x, q, C8.fnArgs st, C8.fnBody st, C8.fnScope st⟩) o cd
  exact ⟨_, ⟨oc, od, .none, kV, doc, pm, an, cdv, ct, osl, rfl, l, c⟩, rfl⟩
theorem def_of {K : PySem.W.Frag} {h : Heap} {mg : Str → Option Value} {x : Str} {st : Stmt} (X : K.In h) (G : h.Ns mainGlobals mg) (o : He.fnObs K (x, none) = (gd x st).val) (g : (He.Fa.glo x).ok K = true) (k : (He.Fa.keep x).ok K = true)
    (cd : (He.Fa.code (x, none) x).ok K = true) : ∃ fd, C8.Def K mg x st (He.ga K x) fd ∧ fd.defaults = .none := by
  obtain ⟨fd, F, e⟩ := fun_of (p := (x, none)) o cd
  exact ⟨fd, ⟨F, He.glo_ok X G g, k⟩, e⟩
theorem fa_at {fas : List He.Fa} {K : PySem.W.Frag} (c : (fas.all fun f => f.ok K) = true) (i : Nat) {f : He.Fa} (h : fas[i]? = some f) : f.ok K = true := List.all_eq_true.mp c f (List.mem_of_getElem? h)
theorem walk_endE {l : PySem.W.OpenLaw} {n k : Nat} {q : Program} {loose : List Str} {XP : (Str → Option Value) → Heap → Prop} {YP : World → Heap → Prop} {d : DefRec} {x : Str} (hn : l.most = some n) (hn2 : n ≤ sizeLine) (hdf : d.params.defaults = []) (hr : Room k callerA)
    (F : ∀ (w : World) (mg : Str → Option Value) (fa : Addr) (h : Heap), YP w h → h.Ns mainGlobals mg → mg d.name = some (.ref fa) → ∃ (K : PySem.W.Frag) (fd : FuncData) (sp : Sp), K.In h ∧ (∀ (s : Shared) (u : Value), BindsTo s fd ⟨[u], []⟩ [(x, u)]) ∧
      (∀ (H : Hp) (a : Addr) (ns : List Int), ns.length ≤ n → SqL K H a (ns.map V.int) → sp [.ref a] H (fun v _ => v = .bl true) E0) ∧ ∀ base : Heap, K.In base → base.Ns mainGlobals mg → FnG l.prog w K mg base CX0 k fa fd [x] sp) :
    PySem.W.WalkO q loose XP YP l.row.toRowW d [] (fun f vs => PySem.call f vs) := by
  refine Att.attach_call hn hdf fun w s₀ s₁ mg mb fa o pm cd doc a vs ns G Y ho hd hcd hmg hobj hints hlen hg => ?_
  obtain ⟨K, fd, sp, KX, hb, hsp, hF⟩ := F w mg fa _ Y G.T.g hmg
  exact law_end KX G.T.g G.T.b G.T.builtins G.T.nolimit hg hobj hints (Nat.le_trans hlen hn2) hr hF hb fun H hS => hsp H a ns hlen hS
end Gd

set_option Elab.async false
set_option linter.all false
set_option maxRecDepth 100000
set_option maxHeartbeats 1000000
/-! super().m(..) at the head of a method -/
namespace Gd
open PySem PySem.Spec PyProof.Rows L2 NdefX
/-- what the context of a method's body must say, that super() may stand in it: the method at f, its code at cda, its cell of __class__ at cc, the class at D -/
structure Sup (X : Cx) (f cc cda D : Addr) : Prop where
  fn : ∃ (o : Obj) (fd : FuncData) (ar : Arg), X.K.lookup f = some o ∧ o.data = .func fd ∧ (fd.params.posonlyargs ++ fd.params.args).head? = some ar ∧ ar.arg = "self"
  hfu : X.env.func = some f
  hco : X.env.code = .ref cda
  code : ∃ (o : Obj) (vs : Array Value) (file : Str) (tf : Tok), X.K.lookup cda = some o ∧ o.data = .fields vs ∧ vs[2]? = some (.str file tf) ∧ ((X.prog.main.file : Str) == file) = true
  cel : ∃ o : Obj, X.K.lookup cc = some o ∧ o.data = .cell (some (.ref D))
  hcc : X.env.cells.lookup ("__class__" : Str) = some cc
  ks : X.env.kindOf "super" = some .globalImplicit
  kc : X.env.kindOf "__class__" = some .free
  ka : X.env.kindOf "self" = some .local
  top : (X.prog.main.scope.names.lookup ("super" : Str)).isSome = false
  clD : ∃ (o : Obj) (cd : ClassData), X.K.lookup D = some o ∧ o.data = .cls cd
  z : X.mg "super" = none
section
variable {X : Cx} {pins : List (Addr × Obj)} {σ : L2.St} {H : Hp} {s : Shared} {f cc cda D a C dx i : Addr} {fs : List (Str × V)} {body : List Stmt} {p0 p1 : Pos} {m : Str} {whole : Sem Value}
theorem sup_base (S : Sup X f cc cda D) (I : Inv X pins σ H s) (hN : X.N[i]? = some "self") (hs : σ[i]? = some (some (.ref a))) (ha : H a = some (.ins C dx fs)) (hsub : PySem.W.mroIn X.K C (.ref D) = some true) (hm : (m == ("__class__" : Str)) = false)
    {Q : Value → Shared → Prop} {E : Value → Shared → Prop} (hQ : ∀ so s', s'.heap.get? so = some (PySem.W.ks_superObj D a C) → Inv X pins σ H s' → Q (.ref so) s') :
    PySem.wpAt (model X.prog X.w) X.A (.func body X.env) (attributeBase (.Call (.Name "super" p0) [] [] p1) m X.env whole) Q E s := by
  obtain ⟨of, fd, ar, hf, hfd, har, hself⟩ := S.fn
  obtain ⟨oc, vs, file, tf, hc, hcd, hvs, hfile⟩ := S.code
  obtain ⟨ol, hl, hld⟩ := S.cel
  obtain ⟨oD, cdD, hD, hDd⟩ := S.clD
  have KX := I.kIn
  refine PySem.ks_wpAt_super_base (env := X.env) S.ks S.kc hm S.hfu (KX _ _ hf) hfd har S.hco (KX _ _ hc) hcd hvs hfile S.top ?_
  obtain ⟨mb, h1, h2⟩ := I.mod.blt
  refine PySem.W.ks_loadName_global I.ok.kind S.ks (Calls.loadGlobal_builtin (by rw [I.ok.glob]; exact I.mod.glob.keeps I.bk) S.z (by rw [I.ok.blt]; exact h1.keeps I.bk) ((h2 "super" (by decide)).trans (show bootBuiltins "super" = some (.type "super") by kernel_rfl)) ⟨rfl, ?_⟩)
  refine wpAny_loadName_free I.ok.kind S.kc S.hcc ⟨_, KX _ _ hl, hld⟩ ?_
  obtain ⟨mm, hn, hlk⟩ := I.loc
  obtain ⟨u, r, l⟩ := hlk i "self" _ hN hs (.inl S.ka)
  obtain rfl : u = Value.ref a := r
  rw [hself]
  have hk : mm "self" = some (.ref a) := by
    rcases l with ⟨_, e⟩ | ⟨hk, _⟩
    · exact e
    · have e := S.ka
      rcases hk with hk | hk
      · exact absurd (hk.symm.trans e) (by decide)
      · exact absurd (hk.symm.trans e) (by decide)
  refine wpAny_loadName_local I.ok.kind S.ka hn hk ?_
  obtain ⟨mA, O, _⟩ := ins_get I.hok ha
  obtain ⟨od, J, _⟩ := O.look
  obtain ⟨hp, g, d, t, os⟩ := s
  refine PySem.ks_wpAny_isType_cls (KX _ _ hD) hDd ⟨rfl, ?_⟩
  refine PySem.ks_wpAny_call_super (KX _ _ hD) hDd J.at_ J.cls (fun c e => ?_) (PySem.W.looks_mroIn KX hsub) (fun h' e k => hQ _ _ e (I.kept (t' := t) k))
  have z := J.no
  unfold PySem.W.notCls at z
  rw [e] at z
  cases z
/-- what the class at C must say, that super().m, from the class at D, is the def at g -/
structure SupC (K : PySem.W.Frag) (C D : Addr) (m : Str) (g : Addr) : Prop where
  op : PySem.W.nsIn K cStatics "thirdparty.any" = some none
  hm : PySem.W.ks_superIn K C D m = some (some (.ref g))
  ht : PySem.W.typeIn K (.ref g) = some (.type "function")
  sub : PySem.W.mroIn K C (.ref D) = some true
  fi : PySem.W.fnIn K g = true
theorem sup_meth {g so : Addr} {pl : Sem Bool} {Q : Value × List Value → Shared → Prop} {E : Value → Shared → Prop} (c : SupC X.K C D m g) (I : Inv X pins σ H s) (hso : s.heap.get? so = some (PySem.W.ks_superObj D a C)) (ha : H a = some (.ins C dx fs)) (hm : (m == ("__class__" : Str)) = false)
    (hQ : ∀ q s', H q = none → Inv X pins σ (upd H q (.met g a)) s' → Q (.ref q, []) s') : wpAny (model X.prog X.w) X.A (getMethod (.ref so) m pl) Q E s := by
  have KX := I.kIn
  have hne := I.hok.fresh (Nat.le_refl s.heap.objs.size)
  obtain ⟨mA, O, _⟩ := ins_get I.hok ha
  obtain ⟨od, J, _⟩ := O.look
  have hs := c.hm
  unfold PySem.W.ks_superIn at hs
  cases hc : PySem.W.clsIn X.K C with
  | none => rw [hc] at hs; cases hs
  | some cd =>
    rw [hc] at hs
    obtain ⟨of, hof, hofc⟩ : ∃ of, s.heap.get? g = some of ∧ of.cls = .type "function" := by
      have ht' : (X.K.lookup g).map (·.cls) = some (.type "function") := c.ht
      cases z : X.K.lookup g with
      | none => rw [z] at ht'; cases ht'
      | some of => rw [z] at ht'; exact ⟨of, KX _ _ z, Option.some.inj ht'⟩
    obtain ⟨hp, gg, d, t, os⟩ := s
    refine PySem.ks_wpAny_getMethod_super hso (PySem.W.looks_opaque KX c.op) (l₀ := cd.mro) (fun A Q E s k q => wpAny_bind ((PySem.W.looks_clsIn KX hc) A _ E s k (wpAny_pure q))) rfl KX hs hof hofc (PySem.W.ks_ne KX J hc) hm ?_
    refine hQ _ _ hne (I.laid (t' := t + 1) (a := hp.objs.size) (o := .met g a) (fun b u z => Heap.get?_push_of_some _ z) (Nat.le_refl _) ?_)
    exact Heap.get?_push_size _ rfl
/-- super().m(e, ..) as a statement at the head of a body -/
def tSup (g a : Addr) (sp : Sp) (t : TA) : L2.St → Hp → (Hp → Prop) → Prop := fun σ H Q => ∀ q, H q = none → t σ (upd H q (.met g a)) fun vs H2 => H2 q = some (.met g a) ∧ sp (.ref a :: vs) H2 (fun _ H3 => Q H3) C8.E0
theorem sup_stmt {g : Addr} {k : Nat} {sp : Sp} {t : TA} {e : Expr} {es : List Expr} {ap pos ep : Pos} (S : Sup X f cc cda D) (c : SupC X.K C D m g) (F : FnR X.prog X.w X.K X.mg X.base C8.CX0 k g sp) (hr : Room k X.A) (ht : PA X (e :: es) t)
    (I : Inv X pins σ H s) (hN : X.N[i]? = some "self") (hs : σ[i]? = some (some (.ref a))) (ha : H a = some (.ins C dx fs)) (hm : (m == ("__class__" : Str)) = false) (hi : interactive X.env = false)
    (hsw : swapsWith (.Call (.Attribute (.Call (.Name "super" p0) [] [] p1) m ap) (e :: es) [] pos) none ep.line X.env = pure false) {pl : Sem Bool}
    (he : eval (.Call (.Attribute (.Call (.Name "super" p0) [] [] p1) m ap) (e :: es) [] pos) X.env = (do
      let ov ← attributeBase (.Call (.Name "super" p0) [] [] p1) m X.env (eval (.Call (.Name "super" p0) [] [] p1) X.env)
      standAt ap.atName
      let (f, first) ← holding [ov] (getMethod ov m pl)
      callWith pos f first (backTo pos (starEach (e :: es) X.env)) []))
    (hst : starEach (e :: es) X.env = (false, eval e X.env) :: starEach es X.env) (hpl : (backTo pos (starEach (e :: es) X.env)).any (·.1) = false)
    {Qn : Hp → Prop} (h : tSup g a sp t σ H Qn) {Q : Flow → Shared → Prop} (hQ : ∀ H' s', Inv X pins σ H' s' → Qn H' → Q .next s') :
    PySem.wpAt (model X.prog X.w) X.A (.func body X.env) (exec (.Expr (.Call (.Attribute (.Call (.Name "super" p0) [] [] p1) m ap) (e :: es) [] pos) ep) X.env) Q X.xe s := by
  refine PySem.ks_wpAt_Expr_any (PySem.ks_wpAt_MethodCall (pl := pl) (sup_base S I hN hs ha c.sub hm fun so s1 hso I1 => sup_meth c I1 hso ha hm fun q s2 hq I2 => ?_) he) hi hsw
  refine callwith_met (g := g) (a := a) (by rw [hpl]; rfl) c.fi ?_
  rw [hst]
  show wpAny _ _ (evalArgs (.ref q) true ((false, eval e X.env) :: backTo pos (starEach es X.env)) []) _ _ _
  refine Calls.evalArgs_plain ?_
  have z := ht.run pos pins s2 σ _ _ I2 (h q hq)
  rw [hst] at z
  refine thn z fun us s3 ⟨vs, H3, I3, r, hmt, q3⟩ => ⟨met_P I3 hmt, ?_⟩
  refine wpAny_call (PySem.W.method_call (met_P I3 hmt).1 (codeAny_mono (F X.A X.stack s3 H3 (.ref a :: us) (.ref a :: vs) _ C8.E0 hr I3.env0 (.cons rfl r) q3) fun res s' hq => ?_))
  match res, hq with
  | .error er, hq => exact False.elim hq
  | .ok (.ret u), hq =>
    obtain ⟨v, H4, I4, rv, q4⟩ := I3.after hq
    exact hQ H4 s' I4 q4
theorem sup_attr {g so : Addr} {Q : Value → Shared → Prop} {E : Value → Shared → Prop} (c : SupC X.K C D m g) (I : Inv X pins σ H s) (hso : s.heap.get? so = some (PySem.W.ks_superObj D a C)) (ha : H a = some (.ins C dx fs)) (hm : (m == ("__class__" : Str)) = false)
    (hQ : ∀ q s', H q = none → Inv X pins σ (upd H q (.met g a)) s' → Q (.ref q) s') : wpAny (model X.prog X.w) X.A (getAttr (.ref so) m true) Q E s := by
  have KX := I.kIn
  have hne := I.hok.fresh (Nat.le_refl s.heap.objs.size)
  obtain ⟨mA, O, _⟩ := ins_get I.hok ha
  obtain ⟨od, J, _⟩ := O.look
  have hs := c.hm
  unfold PySem.W.ks_superIn at hs
  cases hc : PySem.W.clsIn X.K C with
  | none => rw [hc] at hs; cases hs
  | some cd =>
    rw [hc] at hs
    obtain ⟨of, hof, hofc⟩ : ∃ of, s.heap.get? g = some of ∧ of.cls = .type "function" := by
      have ht' : (X.K.lookup g).map (·.cls) = some (.type "function") := c.ht
      cases z : X.K.lookup g with
      | none => rw [z] at ht'; cases ht'
      | some of => rw [z] at ht'; exact ⟨of, KX _ _ z, Option.some.inj ht'⟩
    obtain ⟨hp, gg, d, t, os⟩ := s
    have hlk := F.ks_slot_super_ga.lookup
    have hT : ∀ t', (⟨hp, gg, d, t', os⟩ : Shared).TypeIs (.ref so) "super" := fun _ => ⟨_, hso, rfl⟩
    unfold getAttr getAttrBy
    refine wpAny_bind (wpAny_mkText (wpAny_holding (wpAny_bind (wpAny_typeOf (hT _) (wpAny_bind (wpAny_of_eq hlk ?_))))))
    show wpAny _ _ (getAttrByItsOwn (.ref so) (.str m t) (.type "super") (.builtin "super.__getattribute__") true true) _ _ _
    unfold getAttrByItsOwn hookBefore callGetattribute boundAndCalled
    refine wpAny_bind (wpAny_of_eq (show (if onTheHeap (.type "super") then typeLookup (.type "super") "__getattr__" else pure none) = pure none from rfl) ?_)
    refine wpAny_bind (wpAny_attempt (wpAny_holding ?_))
    show wpAny _ _ (bindSpecial (.builtin "super.__getattribute__") (.ref so) >>= _) _ _ _
    refine wpAny_bind (wpAny_of_eq (F.ks_slot_super_ga.bind _) ?_)
    refine wpAny_mono (Q := fun v s' => v = .ref hp.objs.size ∧ s' = ⟨hp.push { cls := .type "method", data := .fields #[.ref g, .ref a] }, gg, d, t + 1, os⟩) (E := fun _ _ => False)
      (wpAny_call_entry F.ks_slot_super_ga (hT _) F.ks_entry_super_ga (PySem.ks_wpAny_super_ga hso (PySem.W.looks_opaque KX c.op) (l₀ := cd.mro) (fun A Q E s k q => wpAny_bind ((PySem.W.looks_clsIn KX hc) A _ E s k (wpAny_pure q))) rfl KX hs hof hofc (PySem.W.ks_ne KX J hc) hm ⟨_, rfl, rfl, rfl⟩) (F.ks_gaArgs_super _ _)) (fun v s' hv => ?_) fun _ _ z => z.elim
    obtain ⟨rfl, rfl⟩ := hv
    have fin := hQ _ ⟨hp.push { cls := .type "method", data := .fields #[.ref g, .ref a] }, gg, d, t + 1, os⟩ hne (I.laid (t' := t + 1) (a := hp.objs.size) (o := .met g a) (fun b u z => Heap.get?_push_of_some _ z) (Nat.le_refl _) (Heap.get?_push_size _ rfl))
    exact wpAny_pure fin
/-- super().m(e1, *e2) as a statement at the head of a body -/
def tSup2 (K : PySem.W.Frag) (g a : Addr) (sp : Sp) (t1 t2 : TE) : L2.St → Hp → (Hp → Prop) → Prop := fun σ H Q => ∀ q, H q = none → t1 σ (upd H q (.met g a)) fun y1 H1 => t2 σ H1 fun y2 H2 => ∃ b vs, y2 = .ref b ∧ (SqT K H2 b vs ∨ SqL K H2 b vs) ∧
  H2 q = some (.met g a) ∧ sp (.ref a :: y1 :: vs) H2 (fun _ H3 => Q H3) C8.E0
theorem sup_stmt2 {g : Addr} {k : Nat} {sp : Sp} {t1 t2 : TE} {e1 e2 : Expr} {ap pos ep pp : Pos} (S : Sup X f cc cda D) (c : SupC X.K C D m g) (F : FnR X.prog X.w X.K X.mg X.base C8.CX0 k g sp) (hr : Room k X.A) (h1 : PE X e1 t1) (h2 : PE X e2 t2)
    (I : Inv X pins σ H s) (hN : X.N[i]? = some "self") (hs : σ[i]? = some (some (.ref a))) (ha : H a = some (.ins C dx fs)) (hm : (m == ("__class__" : Str)) = false) (hi : interactive X.env = false)
    (hsw : swapsWith (.Call (.Attribute (.Call (.Name "super" p0) [] [] p1) m ap) [e1, .Starred e2 pp] [] pos) none ep.line X.env = pure false)
    (hst : starEach [e1, .Starred e2 pp] X.env = [(false, eval e1 X.env), (true, eval e2 X.env)])
    {Qn : Hp → Prop} (h : tSup2 X.K g a sp t1 t2 σ H Qn) {Q : Flow → Shared → Prop} (hQ : ∀ H' s', Inv X pins σ H' s' → Qn H' → Q .next s') :
    PySem.wpAt (model X.prog X.w) X.A (.func body X.env) (exec (.Expr (.Call (.Attribute (.Call (.Name "super" p0) [] [] p1) m ap) [e1, .Starred e2 pp] [] pos) ep) X.env) Q X.xe s := by
  have hke : backToKw pos (keywordEach [] X.env) = [] := rfl
  have hform : methodCallForm ([e1, Expr.Starred e2 pp].length + ([] : List Keyword).length) (backTo pos [(false, eval e1 X.env), (true, eval e2 X.env)]) [] = false := rfl
  have hpos : methodCallPos false (.Call (.Name "super" p0) [] [] p1) X.env ap pos = pure pos := rfl
  have hcal : ∀ ov, calleeOf false (.Call (.Name "super" p0) [] [] p1) X.env ov m = (getAttr ov m true >>= fun v => pure (v, [])) := fun _ => rfl
  refine PySem.ks_wpAt_Expr_any ?_ hi hsw
  rw [arm_eval_Call, hst, hke]
  refine PySem.wpAt_bind (PySem.ks_wpAt_mono (sup_base (Q := fun ov s₁ => wpAny (model X.prog X.w) X.A (getAttr ov m true) (fun f s₂ => wpAny (model X.prog X.w) X.A (callWith pos f [] (backTo pos [(false, eval e1 X.env), (true, eval e2 X.env)]) []) (fun _ => Q .next) X.xe s₂) X.xe s₁) S I hN hs ha c.sub hm fun so s1 hso I1 => sup_attr c I1 hso ha hm fun q s2 hq I2 => ?_) (fun ov s₁ h₁ => PySem.wpAt_of_wpAny ?_) fun _ _ x => x)
  · refine PySem.W.ks_call (P := PySem.W.MethP X.K q g (.ref a)) rfl (PySem.W.keeps_M c.fi) (Calls.evalArgs_plain (Calls.spliced_cons (thn (h1.run pins s2 σ _ _ I2 (h q hq)) fun v1 s3 ⟨y1, H2, I3, ry1, q2⟩ =>
      PySem.W.ks_spliced (thn (h2.run pins s3 σ H2 _ I3 q2) fun v2 s4 ⟨y2, H3, I4, ry2, t, vs, ey, ht, hmt, hsp⟩ => ?_))))
    subst ey
    obtain rfl : v2 = Value.ref t := ry2
    refine StX.star_any I4 ht fun us s5 I5 rv => Calls.spliced_nil ?_
    show PySem.W.MethP X.K q g (.ref a) s5.heap ∧ wpAny (model X.prog X.w) X.A (call (.ref q) (v1 :: (us ++ [])) []) _ X.xe s5
    rw [List.append_nil]
    refine ⟨met_P I5 hmt, wpAny_call (PySem.W.method_call (met_P I5 hmt).1 (codeAny_mono (F X.A X.stack s5 H3 (.ref a :: v1 :: us) (.ref a :: y1 :: vs) _ C8.E0 hr I5.env0 (.cons rfl (.cons ry1 rv)) hsp) fun res s' hq => ?_))⟩
    match res, hq with
    | .error er, hq => exact False.elim hq
    | .ok (.ret u), hq =>
      obtain ⟨v, H4, I6, rv4, q4⟩ := I5.after hq
      exact hQ H4 s' I6 q4
  · refine wpAny_bind (wpAny_standAt ?_)
    unfold methodCall
    rw [hform, hpos, hcal]
    refine wpAny_bind (wpAny_holding (wpAny_bind (wpAny_mono h₁ (fun f s₂ h₂ => wpAny_pure ?_) fun _ _ x => x)))
    exact wpAny_bind (wpAny_pure h₂)
end
/-- what the text's top must say of a method that begins with super() -/
structure SupF (P : Program) (K : PySem.W.Frag) (mg : Str → Option Value) (f cc cda D : Addr) (F : NF) : Prop where
  lk : ∃ (oc : Value) (od : Option Addr) (kV doc pm : Value) (an : Option Addr) (ct : Value) (osl : Array (Option Value)),
    K.lookup f = some ⟨oc, od, .func (PySem.W.fnX F.name F.qual F.params F.body F.scope F.cl .none kV doc pm an (.ref cda) ct), osl⟩
  hcl : F.cl = [(("__class__" : Str), cc)]
  hc : F.c = cda
  hcd : PySem.W.codeIn K (.ref cda) F.qual = true
  code : ∃ (o : Obj) (vs : Array Value) (file : Str) (tf : Tok), K.lookup cda = some o ∧ o.data = .fields vs ∧ vs[2]? = some (.str file tf) ∧ ((P.main.file : Str) == file) = true
  cel : ∃ o : Obj, K.lookup cc = some o ∧ o.data = .cell (some (.ref D))
  clD : ∃ (o : Obj) (cd : ClassData), K.lookup D = some o ∧ o.data = .cls cd
  top : (P.main.scope.names.lookup ("super" : Str)).isSome = false
  z : mg "super" = none
/-- .. and its text -/
structure SupT (F : NF) : Prop where
  ar : ∃ ar : Arg, (F.params.posonlyargs ++ F.params.args).head? = some ar ∧ ar.arg = "self"
  ks : F.scope.names.lookup ("super" : Str) = some .globalImplicit
  kc : F.scope.names.lookup ("__class__" : Str) = some .free
  ka : F.scope.names.lookup ("self" : Str) = some .local
section
variable {P : Program} {w : World} {K : PySem.W.Frag} {mg : Str → Option Value} {base : Heap} {f cc cda D g : Addr} {F : NF} {N ps : List Str} {k : Nat} {sp spI : Sp} {rest : List Stmt} {e : Expr} {es : List Expr} {p0 p1 ap pos ep : Pos} {m : Str}
theorem sup_ctx (S : SupF P K mg f cc cda D F) (T : SupT F) {A : Around} {outer : List Env} {s : Shared} {H : Hp} {E : XK} : Sup (ncx C8.CX0 P w K mg base N F f A outer s H E) f cc cda D := by
  obtain ⟨oc, od, kV, doc, pm, an, ct, osl, lk⟩ := S.lk
  obtain ⟨ar, h1, h2⟩ := T.ar
  refine ⟨⟨_, _, ar, lk, rfl, h1, h2⟩, rfl, ?_, S.code, S.cel, ?_, T.ks, T.kc, T.ka, S.top, S.clD, S.z⟩
  · show Value.ref F.c = .ref cda
    rw [S.hc]
  · show F.cl.lookup _ = _
    rw [S.hcl]
    rfl
/-- a method whose first statement is one with super(): that statement by st, the rest as ever -/
theorem fn_sup {st : Stmt} (S : SupF P K mg f cc cda D F) (NS : NScope N ps ["__class__"] F.scope) (hp : ps[0]? = some ("self" : Str)) (hbody : F.body = st :: rest)
    (hbind : ∀ us : List Value, us.length = ps.length → ∀ (kV doc pm : Value) (an : Option Addr) (cdv ct : Value), bindArgs (PySem.W.fnX F.name F.qual F.params F.body F.scope F.cl .none kV doc pm an cdv ct) ⟨us, []⟩ = pure (ps.zip us))
    (len : ∀ vs H Q E, sp vs H Q E → vs.length = ps.length)
    (hrun : ∀ (A : Around) (outer : List Env) (s : Shared) (H : Hp) (vs : List V) (Q : VK) (E : XK), Room k (A.deeper (envF F f s.heap.objs.size)) → sp vs H Q E → N[0]? = some ("self" : Str) →
      ∃ u : TS, PSs (ncx C8.CX0 P w K mg base N F f A outer s H E) rest u ∧ ∀ s1 : Shared, Inv (ncx C8.CX0 P w K mg base N F f A outer s H E) [] (startF N vs [none]) H s1 →
        PySem.wpAt (model P w) (ncx C8.CX0 P w K mg base N F f A outer s H E).A (.func F.body (envF F f s.heap.objs.size)) (exec st (envF F f s.heap.objs.size))
          (fun fl s' => fl = .next ∧ ∃ H1, Inv (ncx C8.CX0 P w K mg base N F f A outer s H E) [] (startF N vs [none]) H1 s' ∧ u { nx := fun _ H' => Q .non H', rt := Q } (startF N vs [none]) H1) (ncx C8.CX0 P w K mg base N F f A outer s H E).xe s1) :
    FnR P w K mg base C8.CX0 (k + 1) f sp := by
  intro A outer s H us vs Q E hr e0 r hsp
  have hl := len _ _ _ _ hsp
  obtain ⟨oc, od, kV, doc, pm, an, ct, osl, lk⟩ := S.lk
  have lim : s.heap.NoLimit := e0.mod.nolimit.keeps fun b o e => (e0.bs b o e).1
  have KX : K.In s.heap := e0.mod.kin.keeps fun b o e => (e0.bs b o e).1
  refine codeAny_call_function hr.depth (KX _ _ lk) rfl NS.co NS.gen rfl (PySem.W.codeRec_of KX S.hcd) ?_
  rw [hbind us (by rw [← r.length]; exact hl)]
  refine wpAny_pure (wpAny_newFunctionEnv NS.nocell (fun ⟨n, _⟩ hy => NS.par n (List.of_mem_zip hy).1) (fun h₁ hns hsb => ⟨lim.fresh _ hsb, ?_⟩) NS.kind)
  have ecd : Value.ref cda = .ref F.c := by rw [S.hc]
  show codeAny _ _ (.func F.body (PySem.W.envX F.qual F.scope s.heap.objs.size f (.ref cda) F.cl)) _ _
  rw [ecd]
  have kp : ∀ b o, s.heap.get? b = some o → h₁.get? b = some o := fun b o e => hsb.extBut b o (Nat.ne_of_lt (Heap.lt_size e)) (Heap.get?_push_of_some _ e)
  obtain ⟨ol, hcel, hcd2⟩ := S.cel
  have CA : CellsAt F.cl ["__class__"] [none] s.heap H := by
    rw [S.hcl]
    refine ⟨rfl, fun y c hy => ?_, fun x y c hx hy => ?_, fun i y hi => ?_⟩
    · have e1 : y = ("__class__" : Str) ∧ cc = c := by
        by_cases z : y = ("__class__" : Str)
        · subst z
          simp [List.lookup] at hy
          exact ⟨rfl, hy⟩
        · have z2 : (y == ("__class__" : Str)) = false := beq_eq_false_iff_ne.mpr z
          simp [List.lookup, z2] at hy
      obtain ⟨_, rfl⟩ := e1
      obtain ⟨b1, b2⟩ := e0.bs _ _ (e0.mod.kin _ _ hcel)
      exact ⟨b2, _, _, b1, hcd2⟩
    · have key : ∀ z : Str, (z = ("__class__" : Str)) ∨ List.lookup z [(("__class__" : Str), cc)] = none := fun z => by
        by_cases q : z = ("__class__" : Str)
        · exact .inl q
        · have z2 : (z == ("__class__" : Str)) = false := beq_eq_false_iff_ne.mpr q
          exact .inr (by simp [List.lookup, z2])
      rcases key x with e1 | e1
      · rcases key y with e2 | e2
        · rw [e1, e2]
        · rw [e2] at hy
          cases hy
      · rw [e1] at hx
        cases hx
    · cases i with
      | zero =>
        have e1 : ("__class__" : Str) = y := Option.some.inj hi
        subst e1
        exact ⟨cc, by simp [List.lookup], fun v z => by cases z⟩
      | succ i => simp at hi
  have I : Inv (ncx C8.CX0 P w K mg base N F f A outer s H E) [] (startF N vs [none]) H { s with heap := h₁, toks := s.toks + (ps.zip us).length } := inv_startN NS hr.hd e0 hl r CA hns kp
  have hN : N[0]? = some ("self" : Str) := by
    have q : (N.take (ps.length + [("__class__" : Str)].length))[0]? = (ps ++ [("__class__" : Str)])[0]? := by rw [NS.pre]
    have lp : 0 < ps.length := by
      cases ps with
      | nil => cases hp
      | cons _ _ => exact Nat.succ_pos _
    rw [List.getElem?_take_of_lt (by omega), List.getElem?_append_left lp] at q
    rw [q]
    exact hp
  refine PySem.ks_codeAny_funcAt ?_
  obtain ⟨u, pr, hq⟩ := hrun A outer s H vs Q E (hr.deeper _) hsp hN
  have hst := hq _ I
  rw [hbody] at hst ⊢
  refine PySem.ks_wpAt_execs_cons (PySem.ks_wpAt_mono hst (fun fl0 s1 z => ?_) fun _ _ x => x)
  obtain ⟨rfl, H1, I1, hu⟩ := z
  refine PySem.ks_wpAt_mono (PySem.wpAt_of_wpAny (pr.run [] s1 _ H1 _ I1 hu)) (fun fl s' hs => ?_) fun _ _ x => x
  cases fl with
  | ret u' =>
    obtain ⟨v, σ', H', J, rv, q⟩ := hs
    exact ⟨v, H', J.os, J.bare, J.base, J.hok, rv, q⟩
  | next =>
    obtain ⟨σ', H', J, q⟩ := hs
    exact ⟨V.non, H', J.os, J.bare, J.base, J.hok, rfl, q⟩
  | brk =>
    obtain ⟨_, _, _, q⟩ := hs
    exact q.elim
  | cont =>
    obtain ⟨_, _, _, q⟩ := hs
    exact q.elim
end
end Gd

set_option Elab.async false
set_option linter.all false
set_option maxRecDepth 100000
set_option maxHeartbeats 1000000
/-! methods that begin with super(), called by keywords too; such with a star parameter; C(k = v, ..) -/
namespace Gd
open PySem PySem.Spec PyProof.Rows L2 NdefX
section
variable {P : Program} {w : World} {K : PySem.W.Frag} {mg : Str → Option Value} {base : Heap} {f cc cda D g : Addr} {F : NF} {N ps : List Str} {k : Nat} {sp spI : Sp} {rest : List Stmt} {e : Expr} {es : List Expr} {p0 p1 ap pos ep : Pos} {m : Str}
/-- the cell of __class__, as the frame has it -/
theorem sup_cells {A : Around} {outer : List Env} {s : Shared} {H : Hp} (S : SupF P K mg f cc cda D F) (e0 : Env0 P w K mg base A outer s H) : CellsAt F.cl ["__class__"] [none] s.heap H := by
  obtain ⟨ol, hcel, hcd2⟩ := S.cel
  rw [S.hcl]
  refine ⟨rfl, fun y c hy => ?_, fun x y c hx hy => ?_, fun i y hi => ?_⟩
  · have e1 : y = ("__class__" : Str) ∧ cc = c := by
      by_cases z : y = ("__class__" : Str)
      · subst z
        simp [List.lookup] at hy
        exact ⟨rfl, hy⟩
      · have z2 : (y == ("__class__" : Str)) = false := beq_eq_false_iff_ne.mpr z
        simp [List.lookup, z2] at hy
    obtain ⟨_, rfl⟩ := e1
    obtain ⟨b1, b2⟩ := e0.bs _ _ (e0.mod.kin _ _ hcel)
    exact ⟨b2, _, _, b1, hcd2⟩
  · have key : ∀ z : Str, (z = ("__class__" : Str)) ∨ List.lookup z [(("__class__" : Str), cc)] = none := fun z => by
      by_cases q : z = ("__class__" : Str)
      · exact .inl q
      · have z2 : (z == ("__class__" : Str)) = false := beq_eq_false_iff_ne.mpr q
        exact .inr (by simp [List.lookup, z2])
    rcases key x with e1 | e1
    · rcases key y with e2 | e2
      · rw [e1, e2]
      · rw [e2] at hy
        cases hy
    · rw [e1] at hx
      cases hx
  · cases i with
    | zero =>
      have e1 : ("__class__" : Str) = y := Option.some.inj hi
      subst e1
      exact ⟨cc, by simp [List.lookup], fun v z => by cases z⟩
    | succ i => simp at hi
/-- what a run of such a body leaves -/
def SupRun (P : Program) (w : World) (K : PySem.W.Frag) (mg : Str → Option Value) (base : Heap) (F : NF) (f : Addr) (N : List Str) (k : Nat) (st : Stmt) (rest : List Stmt) (sp : Sp) : Prop :=
  ∀ (A : Around) (outer : List Env) (s : Shared) (H : Hp) (vs : List V) (Q : VK) (E : XK), Room k (A.deeper (envF F f s.heap.objs.size)) → sp vs H Q E → N[0]? = some ("self" : Str) →
    ∃ u : TS, PSs (ncx C8.CX0 P w K mg base N F f A outer s H E) rest u ∧ ∀ s1 : Shared, Inv (ncx C8.CX0 P w K mg base N F f A outer s H E) [] (startF N vs [none]) H s1 →
      PySem.wpAt (model P w) (ncx C8.CX0 P w K mg base N F f A outer s H E).A (.func F.body (envF F f s.heap.objs.size)) (exec st (envF F f s.heap.objs.size))
        (fun fl s' => fl = .next ∧ ∃ H1, Inv (ncx C8.CX0 P w K mg base N F f A outer s H E) [] (startF N vs [none]) H1 s' ∧ u { nx := fun _ H' => Q .non H', rt := Q } (startF N vs [none]) H1) (ncx C8.CX0 P w K mg base N F f A outer s H E).xe s1
/-- the body, from its environment on -/
theorem sup_body {st : Stmt} {kV doc pm ct : Value} {an : Option Addr} (S : SupF P K mg f cc cda D F) (NS : NScope N ps ["__class__"] F.scope) (hp : ps[0]? = some ("self" : Str)) (hbody : F.body = st :: rest) (hrun : SupRun P w K mg base F f N k st rest sp)
    {A : Around} {outer : List Env} {s : Shared} {H : Hp} {us : List Value} {vs : List V} {Q : VK} {E : XK} {R : Result → Shared → Prop} (hr : Room (k + 1) A) (e0 : Env0 P w K mg base A outer s H) (r : Vals vs us) (hl : vs.length = ps.length) (hsp : sp vs H Q E)
    (hR : ∀ x s', CR C8.CX0 outer P w H s Q E x s' → R x s') :
    wpAny (model P w) A.in1 (newFunctionEnv (PySem.W.fnX F.name F.qual F.params F.body F.scope F.cl .none kV doc pm an (.ref cda) ct).scope (PySem.W.fnX F.name F.qual F.params F.body F.scope F.cl .none kV doc pm an (.ref cda) ct).globals
      (PySem.W.fnX F.name F.qual F.params F.body F.scope F.cl .none kV doc pm an (.ref cda) ct).closure (ps.zip us) ((PySem.W.fnX F.name F.qual F.params F.body F.scope F.cl .none kV doc pm an (.ref cda) ct).qualname ++ ".<locals>.") (some f)
      (PySem.W.fnX F.name F.qual F.params F.body F.scope F.cl .none kV doc pm an (.ref cda) ct).code none (PySem.W.fnX F.name F.qual F.params F.body F.scope F.cl .none kV doc pm an (.ref cda) ct).builtins)
      (fun env s₂ => s₂.heap.NoLimit ∧ codeAny (model P w) A (.func F.body env) R s₂) (fun e s' => R (.error e) s') s := by
  have lim : s.heap.NoLimit := e0.mod.nolimit.keeps fun b o e => (e0.bs b o e).1
  refine wpAny_newFunctionEnv NS.nocell (fun ⟨n, _⟩ hy => NS.par n (List.of_mem_zip hy).1) (fun h₁ hns hsb => ⟨lim.fresh _ hsb, ?_⟩) NS.kind
  have ecd : Value.ref cda = .ref F.c := by rw [S.hc]
  show codeAny _ _ (.func F.body (PySem.W.envX F.qual F.scope s.heap.objs.size f (.ref cda) F.cl)) _ _
  rw [ecd]
  have kp : ∀ b o, s.heap.get? b = some o → h₁.get? b = some o := fun b o e => hsb.extBut b o (Nat.ne_of_lt (Heap.lt_size e)) (Heap.get?_push_of_some _ e)
  have CA := sup_cells S e0
  have I : Inv (ncx C8.CX0 P w K mg base N F f A outer s H E) [] (startF N vs [none]) H { s with heap := h₁, toks := s.toks + (ps.zip us).length } := inv_startN NS hr.hd e0 hl r CA hns kp
  have hN : N[0]? = some ("self" : Str) := by
    have q : (N.take (ps.length + [("__class__" : Str)].length))[0]? = (ps ++ [("__class__" : Str)])[0]? := by rw [NS.pre]
    have lp : 0 < ps.length := by
      cases ps with
      | nil => cases hp
      | cons _ _ => exact Nat.succ_pos _
    rw [List.getElem?_take_of_lt (by omega), List.getElem?_append_left lp] at q
    rw [q]
    exact hp
  refine PySem.ks_codeAny_funcAt ?_
  obtain ⟨u, pr, hq⟩ := hrun A outer s H vs Q E (hr.deeper _) hsp hN
  have hst := hq _ I
  rw [hbody] at hst ⊢
  refine PySem.ks_wpAt_execs_cons (PySem.ks_wpAt_mono hst (fun fl0 s1 z => ?_) fun e _ x => wpAny_mono x (fun _ s2 z => hR (.error e) s2 z) fun e2 s2 z => hR (.error e2) s2 z)
  obtain ⟨rfl, H1, I1, hu⟩ := z
  refine PySem.ks_wpAt_mono (PySem.wpAt_of_wpAny (pr.run [] s1 _ H1 _ I1 hu)) (fun fl s' hs => ?_) fun e _ x => wpAny_mono x (fun _ s2 z => hR (.error e) s2 z) fun e2 s2 z => hR (.error e2) s2 z
  cases fl with
  | ret u' =>
    obtain ⟨v, σ', H', J, rv, q⟩ := hs
    exact hR _ _ ⟨v, H', J.os, J.bare, J.base, J.hok, rv, q⟩
  | next =>
    obtain ⟨σ', H', J, q⟩ := hs
    exact hR _ _ ⟨V.non, H', J.os, J.bare, J.base, J.hok, rfl, q⟩
  | brk =>
    obtain ⟨_, _, _, q⟩ := hs
    exact q.elim
  | cont =>
    obtain ⟨_, _, _, q⟩ := hs
    exact q.elim
/-- a method that begins with super(): its promise, however its arguments are given -/
theorem fn_supOk {st : Stmt} (S : SupF P K mg f cc cda D F) (NS : NScope N ps ["__class__"] F.scope) (hp : ps[0]? = some ("self" : Str)) (hbody : F.body = st :: rest) (len : ∀ vs H Q E, sp vs H Q E → vs.length = ps.length)
    (hrun : SupRun P w K mg base F f N k st rest sp) :
    ∃ (kV doc pm : Value) (an : Option Addr) (ct : Value), FnOk P w K mg base C8.CX0 (k + 1) f (PySem.W.fnX F.name F.qual F.params F.body F.scope F.cl .none kV doc pm an (.ref cda) ct) ps sp := by
  obtain ⟨oc, od, kV, doc, pm, an, ct, osl, lk⟩ := S.lk
  refine ⟨kV, doc, pm, an, ct, len, fun A outer s H args us vs Q E hr e0 hb r hsp => ?_⟩
  have KX : K.In s.heap := e0.mod.kin.keeps fun b o e => (e0.bs b o e).1
  refine codeAny_call_function hr.depth (KX _ _ lk) rfl NS.co NS.gen rfl (PySem.W.codeRec_of KX S.hcd) (hb _ _ _ _ ?_)
  exact sup_body S NS hp hbody hrun hr e0 r (len _ _ _ _ hsp) hsp fun _ _ z => z
/-- .. with a star parameter -/
theorem fn_supS {st : Stmt} {pv : Str} (S : SupF P K mg f cc cda D F) (NS : NScope N (ps ++ [pv]) ["__class__"] F.scope) (hp : (ps ++ [pv])[0]? = some ("self" : Str)) (hbody : F.body = st :: rest)
    (hb : ∀ us more : List Value, us.length = ps.length → ∀ (kV doc pm : Value) (an : Option Addr) (cdv ct : Value), bindArgs (PySem.W.fnX F.name F.qual F.params F.body F.scope F.cl .none kV doc pm an cdv ct) ⟨us ++ more, []⟩ = (newTuple more >>= fun t => pure (ps.zip us ++ [(pv, t)])))
    (hrun : SupRun P w K mg base F f N k st rest sp) :
    FnR P w K mg base C8.CX0 (k + 1) f (fun vs H Q E => ∃ ws more, vs = ws ++ more ∧ ws.length = ps.length ∧ more.length ≤ sizeLine ∧ ∀ p, H p = Option.none → sp (ws ++ [V.ref p]) (upd H p (.tup more)) Q E) := by
  intro A outer s H us vs Q E hr e0 r hsp
  obtain ⟨ws, more, ev, hl, hz, hq⟩ := hsp
  subst ev
  obtain ⟨u1, u2, eu, r1, r2⟩ := StX.vals_split r
  subst eu
  have hn : H s.heap.objs.size = Option.none := e0.hok.fresh (Nat.le_refl _)
  have hl1 : u1.length = ps.length := by rw [← r1.length]; exact hl
  have hl2 : u2.length ≤ sizeLine := by rw [← r2.length]; exact hz
  obtain ⟨oc, od, kV, doc, pm, an, ct, osl, lk⟩ := S.lk
  have KX : K.In s.heap := e0.mod.kin.keeps fun b o e => (e0.bs b o e).1
  refine codeAny_call_function hr.depth (KX _ _ lk) rfl NS.co NS.gen rfl (PySem.W.codeRec_of KX S.hcd) ?_
  rw [hb u1 u2 hl1]
  refine wpAny_bind (wpAny_newTuple (wpAny_pure ?_) hl2)
  have new : ObjOk P w (upd H s.heap.objs.size (.tup more)) (s.heap.push ({ cls := .type "tuple", data := .seq u2.toArray } : Obj)) s.heap.objs.size (.tup more) := ⟨hz, u2, r2, ⟨_, Heap.get?_push_size _ rfl, rfl, _, rfl⟩⟩
  have un : Un (frs outer) [] H (upd H s.heap.objs.size (.tup more)) s.heap (s.heap.push ({ cls := .type "tuple", data := .seq u2.toArray } : Obj)) := StX.un_laid (s := s) hn
  have ez : ps.zip u1 ++ [(pv, Value.ref s.heap.objs.size)] = (ps ++ [pv]).zip (u1 ++ [Value.ref s.heap.objs.size]) := by rw [List.zip_append hl1.symm]; rfl
  rw [ez]
  refine sup_body (us := u1 ++ [Value.ref s.heap.objs.size]) (vs := ws ++ [V.ref s.heap.objs.size]) (Q := Q) (E := E) S NS hp hbody hrun hr (StX.env0_laid e0 new) (r1.append (.cons rfl .nil)) (by rw [List.length_append, List.length_append, hl] <;> rfl) (hq _ hn) fun x s' z => ?_
  match x, z with
  | .error e, z => exact z
  | .ok (.ret u), z =>
    obtain ⟨v, H', ho, bare, un2, hok, rv, q⟩ := z
    exact ⟨v, H', ho, bare, un.trans un2, hok, rv, q⟩
end
section
variable {X : Cx} {CX : CXT} {k : Nat} {f C : Addr} {fd : FuncData} {ps ks : List Str} {sp : Sp} {E : XK} {x : Str} {p pos : Pos} {kws : List Keyword} {tk : TA} {g : List Value → List Value → List Value} {gV : List V → List V → List V}
/-- C(k = v, ..), keywords alone -/
theorem pe_makeK0 (M : Mk X.K C f) (F : FnOk X.prog X.w X.K X.mg X.base CX k f fd ps sp) (hr : Room (k + 1) X.A) (hg : Gl X x) (hm : X.mg x = some (.ref C)) (hb : KBn X.K fd ps 1 ks g gV) (hx : Passes CX X E)
    (hkw : PK X kws tk) (hall : (backToKw pos (keywordEach kws X.env)).all (·.1.isSome) = true := by rfl) (hks : (backToKw pos (keywordEach kws X.env)).filterMap (·.1) = ks := by rfl)
    (hdb : (x == ("__debug__" : Str)) = false := by decide) (hpl : ((backTo pos (starEach [] X.env)).any (·.1) || (backToKw pos (keywordEach kws X.env)).any (·.1.isNone)) = false := by rfl) :
    PE X (.Call (.Name x p) [] kws pos) (tMakeN C 0 ks.length sp gV E tNil tk) := by
  refine ⟨fun pins s σ H Q I h => wpAny_Call_Name_kw (ld_glob I hg hm ?_ hdb)⟩
  refine PySem.W.callWith_KW0 (h₀ := X.base) I.ok.mod.kin M.kp hall (thn (hkw.run pos pins s σ H _ I h) fun ws s2 ⟨zs, H2, I2, rz, _, l2, q2⟩ => ⟨I2.kIn, ?_⟩) hpl
  rw [hks]
  exact run_makeN (us := []) (vs := []) M F hr hb hx I2 .nil rz rfl l2 q2
end
end Gd

set_option Elab.async false
set_option linter.all false
set_option maxRecDepth 100000
set_option maxHeartbeats 1000000
/-! instances: their class and its name; == and truth by own defs -/
namespace Gd
open PySem PySem.Spec PyProof.Rows L2
theorem isCls_of {K : PySem.W.Frag} {C : Addr} (c : Cls K C) : (PySem.W.clsIn K C).isSome = true := by
  have h := c.hd
  unfold PySem.W.hasDictIn at h
  cases e : PySem.W.clsIn K C with
  | none => rw [e] at h; exact absurd h (by simp)
  | some cd => rfl
section
variable {X : Cx} {pins : List (Addr × Obj)} {σ : L2.St} {H : Hp} {s : Shared} {a C dx : Addr} {fs : List (Str × V)} {A : Around} {E : Value → Shared → Prop}
theorem getcls_ok {b : Bool} {Q : Value → Shared → Prop} (I : Inv X pins σ H s) (e : H a = some (.ins C dx fs)) (c : C8.InsC X.K C) (h : ∀ s', Inv X pins σ H s' → Q (.ref C) s') :
    wpAny (model X.prog X.w) A (getAttr (.ref a) "__class__" b) Q E s := by
  obtain ⟨mA, O, _⟩ := ins_get I.hok e
  obtain ⟨od, J, _⟩ := O.look
  refine PySem.W.get_bind I.kIn J (PySem.W.plainGet_of c.cl.pg).1 (PySem.W.findObj_data (isCls_of c.cl) c.ha c.hn c.htk) (PySem.W.plainGet_of c.cl.pg).2 ?_
  exact wpAny_call (PySem.W.class_get (s := { s with toks := s.toks + 1 }) I.kIn J c.hm (PySem.W.handed_on rfl (h _ (I.tok _))))
/-- C.__name__ is the text z -/
structure NameC (K : PySem.W.Frag) (C : Addr) (z : Str) : Prop where
  rd : PySem.W.readsIn K C (.type "type") = true
  at_ : PySem.W.findCls K (.ref C) (.type "type") "__name__" = some (.get (.builtin "getset_descriptor.__get__") (.builtin "type.__name__") (.ref C) (.type "type"))
  ty : PySem.W.typeIn K (.ref C) = some (.type "type")
  ob : ∃ (o : Obj) (t : Tok), K.lookup C = some o ∧ o.slots[2]? = some (some (.str z t))
theorem name_get {K : PySem.W.Frag} {P : Program} {w : World} {R : Result → Shared → Prop} {z : Str} {tp : Value} (X : K.In s.heap) (n : NameC K C z) (h : ∀ t, R (.ok (.ret (.str z t))) s) :
    codeAny (model P w) A (.call (.builtin "getset_descriptor.__get__") ⟨[.builtin "type.__name__", .ref C, tp], []⟩) R s := by
  obtain ⟨o, t, ho, hsl⟩ := n.ob
  have ho2 := X _ _ ho
  obtain ⟨hh, g, dr, tk, os⟩ := s
  have L0 : PySem.W.Looks (model P w) hh (typeOf (.ref C)) (.type "type") := PySem.W.looks_typeIn X n.ty
  have L1 : PySem.W.Looks (model P w) hh (isSubtype (.type "type") (.type "type")) true := PySem.W.Looks.of_pure (by rw [isSubtype_type]; kernel_rfl)
  refine codeAny_call_builtin PySem.W.KF.slot_gs.plain PySem.W.KF.entry_gs (PySem.W.KF.slot_gs.check _ _ _ _ _ _ _ _ PySem.W.ktyn_type (PySem.W.KF.args_gs _ _ _) ?_)
  unfold Builtin.«getset_descriptor.__get__» Builtin.Getset_descriptor.descrGet
  rw [PySem.W.dga_obj]
  refine wpAny_bind (wpAny_pure ?_)
  unfold Builtin.Getset_descriptor.descrGetter Builtin.Getset_descriptor.descrCheckInstance Builtin.Getset_descriptor.descrNameAndClass isInstance
  simp only [PySem.W.ktyn_owner]
  repeat lk
  refine ⟨Code.quiet_builtin _ (by decide +kernel), codeAny_builtin PySem.W.ktyn_entry ?_⟩
  unfold Builtin.«type.__name__»
  dsimp only
  unfold Builtin.keptObject slotAt
  refine wpAny_bind (wpAny_bind (wpAny_loadPart ho2 (wpAny_pure ?_)))
  rw [hsl]
  exact wpAny_pure (h _)
/-- == where the right one's class lies below the left one's -/
theorem cmp_R {K : PySem.W.Frag} {x y C' f : Addr} {ox oy : Obj} {odx ody : Option Obj} {P : Program} {w : World} {Q : Value → Shared → Prop} (hu : A.units < cLine) (KX : K.In s.heap) (Ix : PySem.W.InstAt s.heap x ox C odx) (Iy : PySem.W.InstAt s.heap y oy C' ody) (hn : C ≠ C')
    (hsub : PySem.W.subIn K (.ref C') (.ref C) = some true) (hs : PySem.W.findIn K (.ref C') "__eq__" = some (some (.ref f))) (hf : PySem.W.isFn K (.ref f) = true)
    (h : wpAny (model P w) A (call (.ref f) [.ref y, .ref x]) (PySem.W.CmpBack Q) E s) : wpAny (model P w) A (richCompare .Eq (.ref x) (.ref y)) Q E s := by
  have one : wpAny (model P w) A (tryCompare (.ref y) (cmpInfo .Eq).2.2 (.ref x)) (fun r s' => ∃ v, r = some v ∧ Q v s') E s := by
    unfold tryCompare
    refine wpAny_bind (PySem.W.ifBound_K KX Iy hs hf (wpAny_mono h (fun v s' hv => ?_) fun _ _ e => e))
    cases v <;> first | exact hv.elim | exact wpAny_pure ⟨_, rfl, hv⟩
  unfold richCompare
  simp only [oneThing_ref]
  refine wpAny_holding (wpAny_bind (wpAny_cRoomFor hu ?_))
  refine wpAny_bind (Ix.type.here (wpAny_bind (Iy.type.here ?_)))
  split
  · refine wpAny_bind ((PySem.W.looks_subIn KX hsub).here ?_)
    simp only [if_true]
    refine wpAny_bind (wpAny_mono one (fun r s' z => ?_) fun _ _ e => e)
    obtain ⟨v, rfl, hq⟩ := z
    first
      | exact wpAny_bind (wpAny_rule (wpAny_pure hq))
      | exact wpAny_rule (wpAny_pure hq)
      | exact wpAny_pure hq
  · rename_i q
    exact absurd (show (Value.ref C != Value.ref C') = true by simpa using hn) q
theorem bool_own {P : Program} {w : World} {Q : Value → Shared → Prop} {x : Addr} (h : wpAny (model P w) A.in1.in1 (truthy (.ref x)) (fun b s₁ => Q (.bool b) s₁) E s) : wpAny (model P w) A (call (.type "bool") [.ref x]) Q E s := by
  refine callType_codes (T := "bool") (Bi := Builtin.«object.__init__») (Q₁ := fun r s₁ => ∃ b, r = Value.bool b ∧ Q r s₁) PySem.F.called_bool (PySem.F.typeCall_bool_1 _) PySem.F.entry_object_init ?_ ?_
  · refine codeAny_of_tree ?_
    show wpAny _ A.in1.in1 (do checkBuiltinCall "bool.__new__" ⟨[.type "bool", .ref x], []⟩; again (.builtin "bool.__new__" ⟨[.type "bool", .ref x], []⟩)) _ _ s
    refine wpAny_bind (wpAny_of_eq (PySem.F.newCall_bool_1 _) (wpAny_pure ⟨plainId_quiet (by decide +kernel) _, codeAny_builtin PySem.F.entry_bool_new ?_⟩))
    rw [Around.under_plainId (by decide +kernel) _]
    unfold Builtin.«bool.__new__»
    refine wpAny_bind (wpAny_of_eq (a := true) (by kernel_rfl) ?_)
    refine PySem.W.KFB.if_not rfl ?_
    refine wpAny_bind (wpAny_of_eq (a := true) PySem.F.conv_sub_bool ?_)
    refine PySem.W.KFB.if_not rfl ?_
    refine wpAny_bind (wpAny_of_eq (a := [Value.ref x]) (by rfl) ?_)
    refine wpAny_bind (wpAny_mono h (fun r s₁ hr => ?_) fun _ _ y => y)
    exact wpAny_pure ⟨r, rfl, hr⟩
  · rintro obj s₁ ⟨b, rfl, hq⟩
    exact ⟨PySem.typeIs_bool _ _, PySem.F.args_object_init_2 _ _, object_init_meets PySem.F.called_bool.init.lookup PySem.F.called_bool.made (by decide) P w A.in1 _ s₁ ⟨PySem.typeIs_bool _ _, rfl, hq⟩⟩
end
end Gd

set_option Elab.async false
set_option linter.all false
set_option maxRecDepth 100000
set_option maxHeartbeats 1000000
namespace Gd
open PySem PySem.Spec PyProof.Rows L2
/-- e.__class__ of an instance -/
def tCls (K : PySem.W.Frag) (ta : TE) : TE := fun σ H Q => ta σ H fun x H1 => ∃ a C dx fs, x = .ref a ∧ H1 a = some (.ins C dx fs) ∧ C8.InsC K C ∧ Q (.ref C) H1
/-- e.__name__ of a class -/
def tNam (K : PySem.W.Frag) (ta : TE) : TE := fun σ H Q => ta σ H fun x H1 => ∃ C z, x = .ref C ∧ NameC K C z ∧ Q (.str z) H1
section
variable {X : Cx} {e : Expr} {ta : TE} {pos : Pos}
theorem pe_cls (he : PE X e ta) (hb : attributeBase e "__class__" X.env (eval e X.env) = eval e X.env := by rfl) : PE X (.Attribute e "__class__" pos) (tCls X.K ta) := by
  refine ⟨fun pins s σ H Q I h => ?_⟩
  refine attr_of hb (thn (he.run pins s σ H _ I h) fun u s1 ⟨x, H1, I1, rx, a, C, dx, fs, ex, ea, c, q⟩ => ?_)
  subst ex
  obtain rfl : u = Value.ref a := rx
  exact getcls_ok I1 ea c fun s2 I2 => ⟨.ref C, H1, I2, rfl, q⟩
theorem pe_nam (he : PE X e ta) (hb : attributeBase e "__name__" X.env (eval e X.env) = eval e X.env := by rfl) : PE X (.Attribute e "__name__" pos) (tNam X.K ta) := by
  refine ⟨fun pins s σ H Q I h => ?_⟩
  refine attr_of hb (thn (he.run pins s σ H _ I h) fun u s1 ⟨x, H1, I1, rx, C, z, ex, n, q⟩ => ?_)
  subst ex
  obtain rfl : u = Value.ref C := rx
  refine PySem.W.cls_bind I1.kIn n.rd n.at_ (wpAny_call (name_get (s := { s1 with toks := s1.toks + 1 }) I1.kIn n fun t => PySem.W.handed_on rfl ?_))
  exact ⟨.str z, H1, I1.tok _, ⟨t, rfl⟩, q⟩
end
/-- what the text must say of a class whose instances are compared by the def at g -/
structure EqC (K : PySem.W.Frag) (C g : Addr) : Prop where
  ic : C8.InsC K C
  eq : PySem.W.findIn K (.ref C) "__eq__" = some (some (.ref g))
  fn : PySem.W.isFn K (.ref g) = true
/-- x == y, x such an instance, y a tuple or such an instance -/
def rEqO (K : PySem.W.Frag) (g : Addr) (sp : Sp) : R2 := fun x y H Q => ∃ a C dx fs b, x = .ref a ∧ y = .ref b ∧ H a = some (.ins C dx fs) ∧ EqC K C g ∧
  ((∃ xs, H b = some (.tup xs) ∧ PySem.W.subIn K (.type "tuple") (.ref C) = some false ∧ sp [x, y] H Q C8.E0) ∨
    ∃ C' dy gs, H b = some (.ins C' dy gs) ∧ ((PySem.W.notFirst K C (.ref C') = true ∧ sp [x, y] H Q C8.E0) ∨ (C ≠ C' ∧ EqC K C' g ∧ PySem.W.subIn K (.ref C') (.ref C) = some true ∧ sp [y, x] H Q C8.E0)))
section
variable {X : Cx} {n : Nat} {g : Addr} {sp : Sp}
theorem op_eqO (F : FnR X.prog X.w X.K X.mg X.base C8.CX0 n g sp) (hr : Room n X.A) : OpR X (compareOp .Eq) (rEqO X.K g sp) := by
  intro pins s σ H x y v u Q I rx ry h
  obtain ⟨a, C, dx, fs, b, rfl, rfl, ha, c, h⟩ := h
  cases (show v = Value.ref a from rx)
  cases (show u = Value.ref b from ry)
  obtain ⟨mA, O, _⟩ := ins_get I.hok ha
  obtain ⟨od, J, _⟩ := O.look
  obtain ⟨m, hF⟩ := I.fr
  show wpAny (model X.prog X.w) X.A (richCompare .Eq (.ref a) (.ref b)) (EP X pins σ Q) X.xe s
  have go : ∀ {p q : Addr}, sp [.ref p, .ref q] H Q C8.E0 → wpAny (model X.prog X.w) X.A (call (.ref g) [.ref p, .ref q]) (PySem.W.CmpBack (EP X pins σ Q)) X.xe s := fun {p q} hsp => by
    refine wpAny_mono (wpAny_call (run_fnR (us := [.ref p, .ref q]) (vs := [.ref p, .ref q]) F hr C8.pass0 I (.cons rfl (.cons rfl .nil)) hsp)) (fun w s' z => ?_) fun _ _ x => x
    obtain ⟨z', H', I', rz, qz⟩ := z
    exact SlX.cmpback rz ⟨z', H', I', rz, qz⟩
  rcases h with ⟨xs, hb, hn, q⟩ | ⟨C', dy, gs, hb, ⟨hn, q⟩ | ⟨hne, c', hsub, q⟩⟩
  · obtain ⟨_, its, _, o, h1, h2, _⟩ := (show ObjOk X.prog X.w H s.heap b (.tup xs) from I.hok b _ hb)
    have L : PySem.W.Looks (model X.prog X.w) s.heap (typeOf (.ref b)) (.type "tuple") := h2 ▸ (PySem.W.Looks.ld h1).andThen .now
    exact PySem.W.cmp_K (op := .Eq) hr.units0 hF I.ok.mod.kin J L (by unfold PySem.W.notFirst; rw [hn]; simp) c.eq c.fn (go q)
  · obtain ⟨mB, O', _⟩ := ins_get I.hok hb
    obtain ⟨od', J', _⟩ := O'.look
    exact PySem.W.cmp_K (op := .Eq) hr.units0 hF I.ok.mod.kin J J'.type hn c.eq c.fn (go q)
  · obtain ⟨mB, O', _⟩ := ins_get I.hok hb
    obtain ⟨od', J', _⟩ := O'.look
    exact cmp_R hr.units0 I.kIn J J' hne hsub c'.eq c'.fn (go q)
/-- bool(x), x an instance: by its own def at g, or True -/
def rBoolO (K : PySem.W.Frag) (g : Addr) (sp : Sp) : List V → Hp → VK → Prop := fun xs H Q => ∃ a C dx fs, xs = [.ref a] ∧ H a = some (.ins C dx fs) ∧
  ((PySem.W.findIn K (.ref C) "__bool__" = some none ∧ PySem.W.findIn K (.ref C) "__len__" = some none ∧ Q (.bl true) H) ∨
    (PySem.W.findIn K (.ref C) "__bool__" = some (some (.ref g)) ∧ PySem.W.isFn K (.ref g) = true ∧ sp [.ref a] H (fun z H' => ∃ b, z = .bl b ∧ Q (.bl b) H') C8.E0))
theorem call_boolO (F : FnR X.prog X.w X.K X.mg X.base C8.CX0 n g sp) (hr : Room (n + 2) X.A) : CallR X (.type "bool") (rBoolO X.K g sp) := by
  intro pins s σ H xs us Q I r h
  obtain ⟨a, C, dx, fs, rfl, ha, h⟩ := h
  obtain ⟨u, rfl, ru⟩ := r.one
  cases (show u = Value.ref a from ru)
  obtain ⟨mA, O, _⟩ := ins_get I.hok ha
  obtain ⟨od, J, _⟩ := O.look
  obtain ⟨m, hF⟩ := I.fr
  refine bool_own ?_
  rcases h with ⟨h1, h2, q⟩ | ⟨h1, h2, q⟩
  · exact PySem.W.truthy_K0 hF I.ok.mod.kin J h1 h2 ⟨.bl true, H, I, rfl, q⟩
  · have hr2 : Room n X.A.in1.in1 := (show Room (n + 1) X.A.in1 from Room.in1 hr).in1
    refine PySem.W.truthy_K hF I.ok.mod.kin J h1 h2 (wpAny_mono (wpAny_call (SlX.run_at (us := [.ref a]) (ws := [.ref a]) F hr2 I.env0.in1.in1 C8.pass0 I (.cons rfl .nil) q)) (fun w s' z => ?_) fun _ _ x => x)
    obtain ⟨z', H', I', rz, b, eb, qz⟩ := z
    subst eb
    cases rz
    exact ⟨.bl b, H', I', rfl, qz⟩
end
end Gd

set_option Elab.async false
set_option linter.all false
set_option maxRecDepth 100000
set_option maxHeartbeats 1000000
/-! data of lists, tuples and dicts: what fixes them, how long their texts are -/
namespace Gd
open PySem PySem.Spec PyProof.Rows L2
/-! ### data alone -/
def kl : PyData → PyData → Bool
  | .int i, .int j => decide (i < j)
  | .str x, .str y => decide (x.cps.toList < y.cps.toList)
  | _, _ => false
def insK (p : PyData × PyData) : List (PyData × PyData) → List (PyData × PyData)
  | [] => [p]
  | q :: r => if kl q.1 p.1 = true then q :: insK p r else p :: q :: r
def srt (l : List (PyData × PyData)) : List (PyData × PyData) := l.foldl (fun acc p => insK p acc) []
def fx : Nat → PyData → PyData
  | n + 1, .list ds => .tuple (ds.map (fx n))
  | n + 1, .tuple ds => .tuple (ds.map (fx n))
  | n + 1, .dict kvs => .tuple ((srt kvs).map fun p => .tuple [p.1, fx n p.2])
  | _, d => d
def lfI (i : Int) : Prop := i.natAbs < 10 ^ 30
def lfS (x : Str) : Prop := Asc x ∧ x.length ≤ 10
def Lf : PyData → Prop
  | .none => True
  | .bool _ => True
  | .int i => lfI i
  | .str x => lfS x
  | _ => False
/-- keys of one kind, each once -/
def KO (ks : List PyData) : Prop := ks.Nodup ∧ ((∃ is : List Int, ks = is.map .int ∧ ∀ i ∈ is, lfI i) ∨ ∃ ss : List Str, ks = ss.map .str ∧ ∀ s ∈ ss, lfS s)
def Sh : Nat → PyData → Prop
  | 0, d => Lf d
  | n + 1, d => Lf d ∨ (∃ ds, (d = .list ds ∨ d = .tuple ds) ∧ ds.length ≤ 3 ∧ ∀ e ∈ ds, Sh n e) ∨ ∃ kvs, d = .dict kvs ∧ kvs.length ≤ 3 ∧ KO (kvs.map (·.1)) ∧ ∀ p ∈ kvs, Sh n p.2
def Tp : Nat → PyData → Prop
  | 0, d => Lf d
  | n + 1, d => Lf d ∨ ∃ ds, d = .tuple ds ∧ ds.length ≤ 3 ∧ ∀ e ∈ ds, Tp n e
theorem Sh.leaf {n : Nat} {d : PyData} (h : Lf d) : Sh n d := by
  cases n with
  | zero => exact h
  | succ n => exact .inl h
theorem Tp.leaf {n : Nat} {d : PyData} (h : Lf d) : Tp n d := by
  cases n with
  | zero => exact h
  | succ n => exact .inl h
theorem Sh.mono {n : Nat} : ∀ {d : PyData}, Sh n d → Sh (n + 1) d := by
  induction n with
  | zero => exact fun h => .inl h
  | succ n ih =>
    intro d h
    rcases h with h | ⟨ds, e, l, h⟩ | ⟨kvs, e, l, k, h⟩
    · exact .inl h
    · exact .inr (.inl ⟨ds, e, l, fun x hx => ih (h x hx)⟩)
    · exact .inr (.inr ⟨kvs, e, l, k, fun x hx => ih (h x hx)⟩)
theorem Sh.le {n m : Nat} {d : PyData} (h : Sh n d) (l : n ≤ m) : Sh m d := by
  induction l with
  | refl => exact h
  | step _ ih => exact ih.mono
theorem Tp.mono {n : Nat} : ∀ {d : PyData}, Tp n d → Tp (n + 1) d := by
  induction n with
  | zero => exact fun h => .inl h
  | succ n ih =>
    intro d h
    rcases h with h | ⟨ds, e, l, h⟩
    · exact .inl h
    · exact .inr ⟨ds, e, l, fun x hx => ih (h x hx)⟩
theorem Tp.le {n m : Nat} {d : PyData} (h : Tp n d) (l : n ≤ m) : Tp m d := by
  induction l with
  | refl => exact h
  | step _ ih => exact ih.mono
theorem Tp.sh {n : Nat} : ∀ {d : PyData}, Tp n d → Sh n d := by
  induction n with
  | zero => exact fun h => h
  | succ n ih =>
    intro d h
    rcases h with h | ⟨ds, e, l, h⟩
    · exact .inl h
    · exact .inr (.inl ⟨ds, .inr e, l, fun x hx => ih (h x hx)⟩)
theorem fx_leaf {n : Nat} {d : PyData} (h : Lf d) : fx n d = d := by
  cases n with
  | zero => unfold fx; rfl
  | succ n => cases d <;> first | exact h.elim | rfl
theorem fx_tp {m : Nat} : ∀ {n : Nat} {d : PyData}, Tp n d → fx m d = d := by
  induction m with
  | zero => intro n d h; unfold fx; rfl
  | succ m ih =>
    intro n d h
    cases n with
    | zero => exact fx_leaf h
    | succ n =>
      rcases h with h | ⟨ds, rfl, l, h⟩
      · exact fx_leaf h
      · show PyData.tuple (ds.map (fx m)) = _
        have e : ds.map (fx m) = ds := by
          conv => rhs; rw [← List.map_id ds]
          exact List.map_congr_left fun x hx => ih (h x hx)
        rw [e]
theorem insK_perm (p : PyData × PyData) : ∀ l, (insK p l).Perm (p :: l)
  | [] => .refl _
  | q :: r => by
    unfold insK
    split
    · exact ((insK_perm p r).cons q).trans (.swap p q r)
    · exact .refl _
theorem srt_perm' : ∀ (l acc : List (PyData × PyData)), (l.foldl (fun acc p => insK p acc) acc).Perm (l ++ acc)
  | [], acc => .refl _
  | p :: l, acc => by
    refine (srt_perm' l (insK p acc)).trans ?_
    refine ((insK_perm p acc).append_left l).trans ?_
    exact List.perm_middle
theorem srt_perm (l : List (PyData × PyData)) : (srt l).Perm l := by
  have h := srt_perm' l []
  rw [List.append_nil] at h
  exact h
theorem fx_sh {n : Nat} : ∀ {d : PyData}, Sh n d → Tp (2 * n) (fx n d) := by
  induction n with
  | zero =>
    intro d h
    rw [fx_leaf h]
    exact h
  | succ n ih =>
    intro d h
    rcases h with h | ⟨ds, e, l, h⟩ | ⟨kvs, rfl, l, k, h⟩
    · rw [fx_leaf h]
      exact Tp.leaf h
    · have e2 : fx (n + 1) d = .tuple (ds.map (fx n)) := by rcases e with rfl | rfl <;> rfl
      rw [e2, Nat.mul_succ]
      refine (show Tp (2 * n + 1) _ from .inr ⟨_, rfl, by rw [List.length_map]; exact l, fun x hx => ?_⟩).mono
      obtain ⟨y, hy, rfl⟩ := List.mem_map.mp hx
      exact ih (h y hy)
    · show Tp (2 * n + 1 + 1) (.tuple ((srt kvs).map fun p => .tuple [p.1, fx n p.2]))
      refine .inr ⟨_, rfl, by rw [List.length_map, (srt_perm kvs).length_eq]; exact l, fun x hx => ?_⟩
      obtain ⟨p, hp, rfl⟩ := List.mem_map.mp hx
      have hp2 := (srt_perm kvs).mem_iff.mp hp
      refine .inr ⟨_, rfl, by show 2 ≤ 3; decide, fun y hy => ?_⟩
      rcases List.mem_cons.mp hy with rfl | hy
      · have hk : p.1 ∈ kvs.map (·.1) := List.mem_map_of_mem hp2
        rcases k.2 with ⟨is, e, b⟩ | ⟨ss, e, b⟩
        · rw [e] at hk
          obtain ⟨i, hi, e2⟩ := List.mem_map.mp hk
          rw [← e2]
          exact Tp.leaf (b i hi)
        · rw [e] at hk
          obtain ⟨i, hi, e2⟩ := List.mem_map.mp hk
          rw [← e2]
          exact Tp.leaf (b i hi)
      · obtain rfl := List.mem_singleton.mp hy
        exact ih (h p hp2)
/-! ### sorted lists are told by what is in them -/
def SrtP (l : List (PyData × PyData)) : Prop := l.Pairwise fun a b => kl a.1 b.1 = true
theorem sorted_uniq : ∀ (l1 l2 : List (PyData × PyData)), l1.Perm l2 → SrtP l1 → SrtP l2 → (∀ a ∈ l1, ∀ b ∈ l1, kl a.1 b.1 = true → kl b.1 a.1 = true → False) → l1 = l2
  | [], l2, p, _, _, _ => (List.nil_perm.mp p).symm
  | a :: l1, [], p, _, _, _ => absurd (List.perm_nil.mp p) (by intro z; cases z)
  | a :: l1, b :: l2, p, h1, h2, as => by
    obtain ⟨ha, h1'⟩ := List.pairwise_cons.mp h1
    obtain ⟨hb, h2'⟩ := List.pairwise_cons.mp h2
    have e : a = b := by
      have m1 : a ∈ b :: l2 := p.mem_iff.mp List.mem_cons_self
      have m2 : b ∈ a :: l1 := p.mem_iff.mpr List.mem_cons_self
      rcases List.mem_cons.mp m1 with e | m1
      · exact e
      · rcases List.mem_cons.mp m2 with e | m2'
        · exact e.symm
        · exact (as a List.mem_cons_self b m2 (ha b m2') (hb a m1)).elim
    subst e
    rw [sorted_uniq l1 l2 (List.Perm.cons_inv p) h1' h2' fun x hx y hy => as x (List.mem_cons_of_mem _ hx) y (List.mem_cons_of_mem _ hy)]
theorem perm_map_inv {α β : Type} {f : α → β} : ∀ {l : List β} {m : List α}, l.Perm (m.map f) → ∃ j : List α, l = j.map f ∧ j.Perm m
  | [], m, p => by
    have e := List.nil_perm.mp p
    rw [List.map_eq_nil_iff] at e
    exact ⟨[], rfl, e ▸ .refl _⟩
  | a :: l, m, p => by
    have ha : a ∈ m.map f := p.mem_iff.mp List.mem_cons_self
    obtain ⟨x, hx, rfl⟩ := List.mem_map.mp ha
    obtain ⟨s, t, rfl⟩ := List.append_of_mem hx
    rw [List.map_append, List.map_cons] at p
    have p2 : l.Perm ((s ++ t).map f) := by
      rw [List.map_append]
      exact (p.trans List.perm_middle).cons_inv
    obtain ⟨j, e, q⟩ := perm_map_inv p2
    exact ⟨x :: j, by rw [e]; rfl, (q.cons x).trans List.perm_middle.symm⟩
/-! ### keys of one kind are in an order -/
theorem str_ext {x y : Str} (h : x.cps.toList = y.cps.toList) : x = y := by
  cases x
  cases y
  simp only [Str.mk.injEq] at h ⊢
  exact Array.toList_inj.mp h
theorem nat_lex_tri : ∀ x y : List Nat, x < y ∨ x = y ∨ y < x
  | [], [] => .inr (.inl rfl)
  | [], b :: y => .inl (List.nil_lt_cons b y)
  | a :: x, [] => .inr (.inr (List.nil_lt_cons a x))
  | a :: x, b :: y => by
    rcases Nat.lt_trichotomy a b with h | h | h
    · exact .inl (List.cons_lt_cons_iff.mpr (.inl h))
    · subst h
      rcases nat_lex_tri x y with h | h | h
      · exact .inl (List.cons_lt_cons_iff.mpr (.inr ⟨rfl, h⟩))
      · exact .inr (.inl (by rw [h]))
      · exact .inr (.inr (List.cons_lt_cons_iff.mpr (.inr ⟨rfl, h⟩)))
    · exact .inr (.inr (List.cons_lt_cons_iff.mpr (.inl h)))
/-- two keys of one kind -/
def Kin : PyData → PyData → Prop
  | .int _, .int _ => True
  | .str _, .str _ => True
  | _, _ => False
theorem KO.kin {ks : List PyData} (h : KO ks) {a b : PyData} (ha : a ∈ ks) (hb : b ∈ ks) : Kin a b := by
  rcases h.2 with ⟨is, rfl, _⟩ | ⟨is, rfl, _⟩
  · obtain ⟨i, _, rfl⟩ := List.mem_map.mp ha
    obtain ⟨j, _, rfl⟩ := List.mem_map.mp hb
    exact True.intro
  · obtain ⟨i, _, rfl⟩ := List.mem_map.mp ha
    obtain ⟨j, _, rfl⟩ := List.mem_map.mp hb
    exact True.intro
theorem kl_tri {a b : PyData} (h : Kin a b) : kl a b = true ∨ a = b ∨ kl b a = true := by
  cases a <;> cases b <;> first | exact h.elim | skip
  · rename_i i j
    rcases Int.lt_trichotomy i j with e | e | e
    · exact .inl (decide_eq_true e)
    · exact .inr (.inl (by rw [e]))
    · exact .inr (.inr (decide_eq_true e))
  · rename_i x y
    rcases nat_lex_tri x.cps.toList y.cps.toList with e | e | e
    · exact .inl (decide_eq_true e)
    · exact .inr (.inl (by rw [str_ext e]))
    · exact .inr (.inr (decide_eq_true e))
theorem kl_asym {a b : PyData} (h : kl a b = true) (h2 : kl b a = true) : False := by
  cases a <;> cases b <;> first | cases h | skip
  · have e1 := of_decide_eq_true h
    have e2 := of_decide_eq_true h2
    omega
  · exact List.lt_asymm (of_decide_eq_true h) (of_decide_eq_true h2)
theorem kl_irr {a : PyData} (h : kl a a = true) : False := kl_asym h h
theorem kl_trans {a b c : PyData} (h : kl a b = true) (h2 : kl b c = true) : kl a c = true := by
  cases a <;> cases b <;> first | cases h | skip
  all_goals cases c <;> first | cases h2 | skip
  · have e1 := of_decide_eq_true h
    have e2 := of_decide_eq_true h2
    exact decide_eq_true (by omega)
  · exact decide_eq_true (List.lt_trans (of_decide_eq_true h) (of_decide_eq_true h2))
theorem insK_srt {p : PyData × PyData} : ∀ {l : List (PyData × PyData)}, SrtP l → (∀ q ∈ l, Kin q.1 p.1 ∧ q.1 ≠ p.1) → SrtP (insK p l)
  | [], _, _ => List.pairwise_singleton _ _
  | q :: r, h, hk => by
    obtain ⟨h1, h2⟩ := List.pairwise_cons.mp h
    unfold insK
    by_cases c : kl q.1 p.1 = true
    · rw [if_pos c]
      refine List.pairwise_cons.mpr ⟨fun x hx => ?_, insK_srt h2 fun y hy => hk y (List.mem_cons_of_mem _ hy)⟩
      rcases List.mem_cons.mp ((insK_perm p r).mem_iff.mp hx) with rfl | hx
      · exact c
      · exact h1 x hx
    · rw [if_neg c]
      obtain ⟨k1, k2⟩ := hk q List.mem_cons_self
      have c2 : kl p.1 q.1 = true := by
        rcases kl_tri k1 with e | e | e
        · exact absurd e c
        · exact absurd e k2
        · exact e
      refine List.pairwise_cons.mpr ⟨fun x hx => ?_, h⟩
      rcases List.mem_cons.mp hx with rfl | hx
      · exact c2
      · exact kl_trans c2 (h1 x hx)
theorem srt_srt' : ∀ (l acc : List (PyData × PyData)), SrtP acc → KO ((l ++ acc).map (·.1)) → SrtP (l.foldl (fun acc p => insK p acc) acc)
  | [], acc, h, _ => h
  | p :: l, acc, h, k => by
    have kp : KO ((l ++ insK p acc).map (·.1)) := by
      have e : ((l ++ insK p acc).map (·.1)).Perm (((p :: l) ++ acc).map (·.1)) := (((insK_perm p acc).append_left l).trans List.perm_middle).map _
      refine ⟨e.nodup_iff.mpr k.1, ?_⟩
      have all : ∀ x, x ∈ (l ++ insK p acc).map (·.1) ↔ x ∈ ((p :: l) ++ acc).map (·.1) := fun x => e.mem_iff
      rcases k.2 with ⟨is, e2, b⟩ | ⟨is, e2, b⟩
      · left
        rw [e2] at e
        obtain ⟨js, e3, e4⟩ : ∃ js : List Int, (l ++ insK p acc).map (·.1) = js.map .int ∧ js.Perm is := by
          exact perm_map_inv (f := PyData.int) e
        exact ⟨js, e3, fun i hi => b i (e4.mem_iff.mp hi)⟩
      · right
        rw [e2] at e
        obtain ⟨js, e3, e4⟩ : ∃ js : List Str, (l ++ insK p acc).map (·.1) = js.map .str ∧ js.Perm is := by
          exact perm_map_inv (f := PyData.str) e
        exact ⟨js, e3, fun i hi => b i (e4.mem_iff.mp hi)⟩
    refine srt_srt' l (insK p acc) (insK_srt h fun q hq => ?_) kp
    have m1 : p.1 ∈ ((p :: l) ++ acc).map (·.1) := List.mem_map_of_mem List.mem_cons_self
    have m2 : q.1 ∈ ((p :: l) ++ acc).map (·.1) := List.mem_map_of_mem (List.mem_append_right _ hq)
    refine ⟨k.kin m2 m1, fun e => ?_⟩
    have nd := k.1
    rw [List.cons_append, List.map_cons, List.nodup_cons] at nd
    exact nd.1 (e ▸ List.mem_map_of_mem (List.mem_append_right _ hq))
theorem srt_srt {l : List (PyData × PyData)} (k : KO (l.map (·.1))) : SrtP (srt l) := srt_srt' l [] .nil (by rw [List.append_nil]; exact k)
theorem srt_of {l l2 : List (PyData × PyData)} (p : l2.Perm l) (k : KO (l.map (·.1))) (s : SrtP l2) : srt l = l2 :=
  sorted_uniq _ _ ((srt_perm l).trans p.symm) (srt_srt k) s fun _ _ _ _ h1 h2 => kl_asym h1 h2
end Gd

set_option Elab.async false
set_option linter.all false
set_option maxRecDepth 100000
set_option maxHeartbeats 1000000
namespace Gd
open PySem PySem.Spec PyProof.Rows L2
/-! ### how long, how deep -/
def sb : Nat → Nat
  | 0 => 110
  | n + 1 => 3 * (sb n + 120) + 10
def Few (B D : Nat) (d : PyData) : Prop := d.showable = true ∧ d.depth ≤ D ∧ d.shown.length ≤ B
theorem Few.mono {B D B' D' : Nat} {d : PyData} (h : Few B D d) (hb : B ≤ B') (hd : D ≤ D') : Few B' D' d := ⟨h.1, Nat.le_trans h.2.1 hd, Nat.le_trans h.2.2 hb⟩
theorem lf_few {d : PyData} (h : Lf d) : Few 110 0 d := by
  cases d with
  | none => exact ⟨rfl, Nat.le_refl _, by decide⟩
  | bool b => exact ⟨rfl, Nat.le_refl _, by cases b <;> decide⟩
  | int i =>
    have h2 : i.natAbs < 10 ^ 30 := h
    refine ⟨?_, Nat.le_refl _, ?_⟩
    · simp only [PyData.showable]
      have l : i.natAbs.log2 < 120 := PySem.Flt.log2_lt_of (by decide) (Nat.lt_trans h2 (by decide))
      exact decide_eq_true (by omega)
    · have e := int_text_length_le10 (k := 30) (by decide) h2
      simp only [PyData.shown]
      show (Str.ofString (toString i)).length ≤ 110
      rw [PyProof.Rows.ofString_length]
      rw [String.length_toList]
      omega
  | str x =>
    obtain ⟨h1, h2⟩ := (show lfS x from h)
    refine ⟨rfl, Nat.le_refl _, ?_⟩
    simp only [PyData.shown]
    have e := PySem.StrLaws.reprText_len x fun c hc => Nat.lt_trans (h1 c hc) (by decide)
    omega
  | list ds => exact h.elim
  | tuple ds => exact h.elim
  | dict ds => exact h.elim
theorem few_all {B D : Nat} : ∀ {ds : List PyData}, (∀ e ∈ ds, Few B D e) → PyData.showableAll ds = true ∧ PyData.depthAll ds ≤ D ∧ ((PyData.shownAll ds).map (·.length)).sum ≤ ds.length * B ∧ (PyData.shownAll ds).length = ds.length
  | [], _ => ⟨rfl, Nat.zero_le _, Nat.zero_le _, rfl⟩
  | d :: ds, h => by
    obtain ⟨h1, h2, h3⟩ := h d List.mem_cons_self
    obtain ⟨i1, i2, i3, i4⟩ := few_all fun e he => h e (List.mem_cons_of_mem _ he)
    refine ⟨by simp only [PyData.showableAll, h1, i1, Bool.and_self], ?_, ?_, ?_⟩
    · simp only [PyData.depthAll]
      omega
    · simp only [PyData.shownAll, List.map_cons, List.sum_cons, List.length_cons]
      rw [Nat.succ_mul]
      omega
    · simp only [PyData.shownAll, List.length_cons, i4]
theorem few_kv {B D : Nat} : ∀ {ds : List (PyData × PyData)}, (∀ e ∈ ds, Few B D e.1 ∧ Few B D e.2) → PyData.showableKv ds = true ∧ PyData.depthKv ds ≤ D ∧ ((PyData.shownKv ds).map (·.length)).sum ≤ ds.length * (2 * B + 2) ∧ (PyData.shownKv ds).length = ds.length
  | [], _ => ⟨rfl, Nat.zero_le _, Nat.zero_le _, rfl⟩
  | (k, d) :: ds, h => by
    obtain ⟨⟨h1, h2, h3⟩, g1, g2, g3⟩ := h (k, d) List.mem_cons_self
    obtain ⟨i1, i2, i3, i4⟩ := few_kv fun e he => h e (List.mem_cons_of_mem _ he)
    dsimp only at h1 h2 h3 g1 g2 g3
    have e2 : (k.shown ++ ": " ++ d.shown).length = k.shown.length + 2 + d.shown.length := by
      rw [PySem.strLen_append, PySem.strLen_append]; rfl
    refine ⟨by simp only [PyData.showableKv, h1, g1, i1, Bool.and_self], ?_, ?_, ?_⟩
    · simp only [PyData.depthKv]
      omega
    · simp only [PyData.shownKv, List.map_cons, List.sum_cons, List.length_cons]
      rw [Nat.succ_mul]
      omega
    · simp only [PyData.shownKv, List.length_cons, i4]
theorem few_list {B D : Nat} {ds : List PyData} (h : ∀ e ∈ ds, Few B D e) : Few (ds.length * (B + 2) + 3) (D + 1) (.list ds) := by
  obtain ⟨i1, i2, i3, i4⟩ := few_all h
  refine ⟨by simp only [PyData.showable]; exact i1, by simp only [PyData.depth]; omega, ?_⟩
  have e := listText_len_le (PyData.shownAll ds)
  simp only [PyData.shown]
  rw [Nat.mul_add]
  omega
theorem few_tup {B D : Nat} {ds : List PyData} (h : ∀ e ∈ ds, Few B D e) : Few (ds.length * (B + 2) + 3) (D + 1) (.tuple ds) := by
  obtain ⟨i1, i2, i3, i4⟩ := few_all h
  refine ⟨by simp only [PyData.showable]; exact i1, by simp only [PyData.depth]; omega, ?_⟩
  have e := tupleText_len_le (PyData.shownAll ds)
  simp only [PyData.shown]
  rw [Nat.mul_add]
  omega
theorem few_dict {B B' D : Nat} {ds : List (PyData × PyData)} (h1 : ∀ e ∈ ds, Few B D e.1 ∧ Few B D e.2) : Few (ds.length * (2 * B + 4) + 3) (D + 1) (.dict ds) := by
  obtain ⟨i1, i2, i3, i4⟩ := few_kv h1
  refine ⟨by simp only [PyData.showable]; exact i1, by simp only [PyData.depth]; omega, ?_⟩
  have e := dictText_len_le (PyData.shownKv ds)
  simp only [PyData.shown]
  have e3 : ds.length * (2 * B + 4) = ds.length * (2 * B + 2) + ds.length * 2 := by rw [← Nat.mul_add]
  omega
/-- the key's bound apart -/
theorem few_dict2 {B D : Nat} {ds : List (PyData × PyData)} (h1 : ∀ e ∈ ds, Few 110 0 e.1 ∧ Few B D e.2) (hl : ds.length ≤ 3) : Few (3 * (B + 120) + 10) (D + 1) (.dict ds) := by
  have key : ∀ {ds : List (PyData × PyData)}, (∀ e ∈ ds, Few 110 0 e.1 ∧ Few B D e.2) → PyData.showableKv ds = true ∧ PyData.depthKv ds ≤ D ∧ ((PyData.shownKv ds).map (·.length)).sum ≤ ds.length * (B + 112) ∧ (PyData.shownKv ds).length = ds.length := by
    intro ds
    induction ds with
    | nil => exact fun _ => ⟨rfl, Nat.zero_le _, Nat.zero_le _, rfl⟩
    | cons p ds ih =>
      intro h
      obtain ⟨k, d⟩ := p
      obtain ⟨⟨h1, h2, h3⟩, g1, g2, g3⟩ := h (k, d) List.mem_cons_self
      obtain ⟨i1, i2, i3, i4⟩ := ih fun e he => h e (List.mem_cons_of_mem _ he)
      dsimp only at h1 h2 h3 g1 g2 g3
      have e2 : (k.shown ++ ": " ++ d.shown).length = k.shown.length + 2 + d.shown.length := by
        rw [PySem.strLen_append, PySem.strLen_append]; rfl
      refine ⟨by simp only [PyData.showableKv, h1, g1, i1, Bool.and_self], ?_, ?_, ?_⟩
      · simp only [PyData.depthKv]
        omega
      · simp only [PyData.shownKv, List.map_cons, List.sum_cons, List.length_cons]
        rw [Nat.succ_mul]
        omega
      · simp only [PyData.shownKv, List.length_cons, i4]
  obtain ⟨i1, i2, i3, i4⟩ := key h1
  refine ⟨by simp only [PyData.showable]; exact i1, by simp only [PyData.depth]; omega, ?_⟩
  have e := dictText_len_le (PyData.shownKv ds)
  simp only [PyData.shown]
  have e3 : ds.length * (B + 112) ≤ 3 * (B + 112) := Nat.mul_le_mul_right _ hl
  omega
theorem KO.leaf {ks : List PyData} (h : KO ks) {k : PyData} (hk : k ∈ ks) : Lf k := by
  rcases h.2 with ⟨is, rfl, b⟩ | ⟨is, rfl, b⟩
  · obtain ⟨i, hi, rfl⟩ := List.mem_map.mp hk
    exact b i hi
  · obtain ⟨i, hi, rfl⟩ := List.mem_map.mp hk
    exact b i hi
theorem Sh.few {n : Nat} : ∀ {d : PyData}, Sh n d → Few (sb n) n d := by
  induction n with
  | zero => exact fun h => lf_few h
  | succ n ih =>
    intro d h
    have hsb : sb (n + 1) = 3 * (sb n + 120) + 10 := rfl
    rcases h with h | ⟨ds, e, l, h⟩ | ⟨kvs, rfl, l, k, h⟩
    · exact (lf_few h).mono (by omega) (Nat.zero_le _)
    · have l2 : ds.length * (sb n + 2) ≤ 3 * (sb n + 2) := Nat.mul_le_mul_right _ l
      rcases e with rfl | rfl
      · exact (few_list fun e he => ih (h e he)).mono (by omega) (Nat.le_refl _)
      · exact (few_tup fun e he => ih (h e he)).mono (by omega) (Nat.le_refl _)
    · refine (few_dict2 (B := sb n) (D := n) (fun p hp => ⟨lf_few (k.leaf (List.mem_map_of_mem hp)), ih (h p hp)⟩) l).mono (by omega) (Nat.le_refl _)
/-! ### == -/
theorem lf_can {d : PyData} (h : Lf d) : d.canLay0 = true := by
  cases d with
  | str x =>
    obtain ⟨h1, h2⟩ := (show lfS x from h)
    simp only [PyData.canLay0]
    exact asc_ok h1
  | list ds => exact h.elim
  | tuple ds => exact h.elim
  | dict ds => exact h.elim
  | _ => rfl
theorem can_all : ∀ {ds : List PyData}, (∀ e ∈ ds, e.canLay0 = true) → PyData.canLayAll0 ds = true
  | [], _ => rfl
  | d :: ds, h => by
    simp only [PyData.canLayAll0, h d List.mem_cons_self, can_all fun e he => h e (List.mem_cons_of_mem _ he), Bool.and_self]
theorem Tp.can {n : Nat} : ∀ {d : PyData}, Tp n d → d.canLay0 = true := by
  induction n with
  | zero => exact fun h => lf_can h
  | succ n ih =>
    intro d h
    rcases h with h | ⟨ds, rfl, l, h⟩
    · exact lf_can h
    · simp only [PyData.canLay0]
      exact can_all fun e he => ih (h e he)
theorem Tp.shaped {n : Nat} {d : PyData} (h : Tp n d) (hn : n ≤ 20) : SeqAt.shaped d = true := by
  unfold SeqAt.shaped
  rw [Bool.and_eq_true]
  exact ⟨h.can, decide_eq_true (by have := h.sh.few.2.1; omega)⟩
theorem eqvAll_len : ∀ {xs ys : List PyData}, xs.length ≠ ys.length → PyData.eqvAll xs ys = false
  | [], [], h => absurd rfl h
  | [], _ :: _, _ => by simp only [PyData.eqvAll]
  | _ :: _, [], _ => by simp only [PyData.eqvAll]
  | x :: xs, y :: ys, h => by
    simp only [PyData.eqvAll, eqvAll_len (xs := xs) (ys := ys) fun e => h (by rw [List.length_cons, List.length_cons, e]), Bool.and_false]
theorem eqv_tup_len {xs ys : List PyData} (h : xs.length ≠ ys.length) : PyData.eqv (.tuple xs) (.tuple ys) = false := by
  simp only [PyData.eqv]
  exact eqvAll_len h
theorem Tp.eqv {n : Nat} {d : PyData} (h : Tp n d) : PyData.eqv d d = true := SeqAt.eqv_refl _ h.can
end Gd

set_option Elab.async false
set_option linter.all false
set_option maxRecDepth 100000
set_option maxHeartbeats 1000000
namespace Gd
open PySem PySem.Spec PyProof.Rows L2
/-! ### data as it stands in the heap -/
def kd : Key → PyData
  | .inl i => .int i
  | .inr x => .str x
mutual
inductive Dq (H : Hp) : V → PyData → Prop
  | non : Dq H .non .none
  | bl (b : Bool) : Dq H (.bl b) (.bool b)
  | int (i : Int) : Dq H (.int i) (.int i)
  | str (x : Str) : Dq H (.str x) (.str x)
  | lst {a : Addr} {xs : List V} {ds : List PyData} : H a = some (.lst xs) → DqAll H xs ds → Dq H (.ref a) (.list ds)
  | tup {a : Addr} {xs : List V} {ds : List PyData} : H a = some (.tup xs) → DqAll H xs ds → Dq H (.ref a) (.tuple ds)
  | dk {a : Addr} {kvs : List (Key × V)} {ds : List (PyData × PyData)} : H a = some (.dK kvs) → DqKv H kvs ds → Dq H (.ref a) (.dict ds)
inductive DqAll (H : Hp) : List V → List PyData → Prop
  | nil : DqAll H [] []
  | cons {v : V} {vs : List V} {d : PyData} {ds : List PyData} : Dq H v d → DqAll H vs ds → DqAll H (v :: vs) (d :: ds)
inductive DqKv (H : Hp) : List (Key × V) → List (PyData × PyData) → Prop
  | nil : DqKv H [] []
  | cons {k : Key} {v : V} {vs : List (Key × V)} {d : PyData} {ds : List (PyData × PyData)} : Dq H v d → DqKv H vs ds → DqKv H ((k, v) :: vs) ((kd k, d) :: ds)
end
mutual
theorem Dq.same {H H' : Hp} (s : Same H H') : ∀ {v : V} {d : PyData}, Dq H v d → Dq H' v d
  | _, _, .non => .non
  | _, _, .bl b => .bl b
  | _, _, .int i => .int i
  | _, _, .str x => .str x
  | _, _, .lst h a => .lst (s _ _ h) (DqAll.same s a)
  | _, _, .tup h a => .tup (s _ _ h) (DqAll.same s a)
  | _, _, .dk h a => .dk (s _ _ h) (DqKv.same s a)
theorem DqAll.same {H H' : Hp} (s : Same H H') : ∀ {vs : List V} {ds : List PyData}, DqAll H vs ds → DqAll H' vs ds
  | _, _, .nil => .nil
  | _, _, .cons a b => .cons (Dq.same s a) (DqAll.same s b)
theorem DqKv.same {H H' : Hp} (s : Same H H') : ∀ {vs : List (Key × V)} {ds : List (PyData × PyData)}, DqKv H vs ds → DqKv H' vs ds
  | _, _, .nil => .nil
  | _, _, .cons a b => .cons (Dq.same s a) (DqKv.same s b)
end
theorem key_reads {P : Program} {w : World} {h : Heap} (k : Key) (key : Value) (hk : (mixKind P w).is k key = true) : Reads h key (kd k) [] := by
  rcases keyIs_shape hk with ⟨i, t, rfl, rfl⟩ | ⟨x, t, rfl, rfl⟩
  · exact .int i t
  · exact .str x t
theorem DqAll.len {H : Hp} : ∀ {vs : List V} {ds : List PyData}, DqAll H vs ds → vs.length = ds.length
  | _, _, .nil => rfl
  | _, _, .cons _ b => congrArg Nat.succ b.len
theorem DqAll.get {H : Hp} : ∀ {vs : List V} {ds : List PyData} {i : Nat} {v : V}, DqAll H vs ds → vs[i]? = some v → ∃ d, ds[i]? = some d ∧ Dq H v d
  | _, _, i, v, .nil, h => by simp at h
  | _, _, 0, v, .cons a b, h => by
    simp at h
    subst h
    exact ⟨_, rfl, a⟩
  | _, _, i + 1, v, .cons a b, h => by
    simp at h
    obtain ⟨d, h1, h2⟩ := b.get h
    exact ⟨d, by simp [h1], h2⟩
theorem DqAll.snoc {H : Hp} {v : V} {d : PyData} : ∀ {vs : List V} {ds : List PyData}, DqAll H vs ds → Dq H v d → DqAll H (vs ++ [v]) (ds ++ [d])
  | _, _, .nil, h => .cons h .nil
  | _, _, .cons a b, h => .cons a (b.snoc h)
theorem DqAll.append {H : Hp} {ws : List V} {es : List PyData} (h : DqAll H ws es) : ∀ {vs : List V} {ds : List PyData}, DqAll H vs ds → DqAll H (vs ++ ws) (ds ++ es)
  | _, _, .nil => h
  | _, _, .cons a b => .cons a (DqAll.append h b)
theorem DqAll.mem {H : Hp} : ∀ {vs : List V} {ds : List PyData} {v : V}, DqAll H vs ds → v ∈ vs → ∃ d ∈ ds, Dq H v d
  | _, _, _, .nil, h => absurd h List.not_mem_nil
  | _, _, v, .cons a b, h => by
    rcases List.mem_cons.mp h with rfl | h
    · exact ⟨_, List.mem_cons_self, a⟩
    · obtain ⟨d, h1, h2⟩ := b.mem h
      exact ⟨d, List.mem_cons_of_mem _ h1, h2⟩
theorem DqAll.inv {H : Hp} : ∀ {vs : List V} {d : PyData} {ds : List PyData}, DqAll H vs (d :: ds) → ∃ v us, vs = v :: us ∧ Dq H v d ∧ DqAll H us ds
  | _, _, _, .cons a b => ⟨_, _, rfl, a, b⟩
/-- data of tuples alone stays as long as tuples do -/
def Tups (H H' : Hp) : Prop := ∀ a xs, H a = some (.tup xs) → H' a = some (.tup xs)
theorem Tups.of {H H' : Hp} (s : Same H H') : Tups H H' := fun a xs h => s _ _ h
theorem Tups.trans {H H1 H2 : Hp} (a : Tups H H1) (b : Tups H1 H2) : Tups H H2 := fun x xs h => b _ _ (a _ _ h)
theorem Tups.upd {H H1 : Hp} (a : Tups H H1) {p : Addr} {o : HO} (h : ∀ xs, H1 p ≠ some (.tup xs)) : Tups H (upd H1 p o) := fun x xs e => by
  have e1 := a _ _ e
  have n : x ≠ p := fun z => h xs (by rw [← z]; exact e1)
  rw [upd_ne n]
  exact e1
theorem Dq.tups {H H' : Hp} (t : Tups H H') {n : Nat} : ∀ {v : V} {d : PyData}, Dq H v d → Tp n d → Dq H' v d := by
  induction n with
  | zero =>
    intro v d h l
    cases h with
    | non => exact .non
    | bl b => exact .bl b
    | int i => exact .int i
    | str x => exact .str x
    | lst a b => exact l.elim
    | tup a b => exact l.elim
    | dk a b => exact l.elim
  | succ n ih =>
    intro v d h l
    cases h with
    | non => exact .non
    | bl b => exact .bl b
    | int i => exact .int i
    | str x => exact .str x
    | lst a b =>
      rcases l with l | ⟨ds, e, _⟩
      · exact l.elim
      · cases e
    | tup a b =>
      rcases l with l | ⟨ds, e, _, l⟩
      · exact l.elim
      · cases e
        refine .tup (t _ _ a) ?_
        have key : ∀ {vs : List V} {ds : List PyData}, DqAll H vs ds → (∀ e ∈ ds, Tp n e) → DqAll H' vs ds := by
          intro vs
          induction vs with
          | nil => intro ds q _; cases q; exact .nil
          | cons v vs iv =>
            intro ds q l
            cases q with
            | cons a b => exact .cons (ih a (l _ List.mem_cons_self)) (iv b fun e he => l e (List.mem_cons_of_mem _ he))
        exact key b l
    | dk a b =>
      rcases l with l | ⟨ds, e, _⟩
      · exact l.elim
      · cases e
theorem DqAll.tups {H H' : Hp} (t : Tups H H') {n : Nat} : ∀ {vs : List V} {ds : List PyData}, DqAll H vs ds → (∀ e ∈ ds, Tp n e) → DqAll H' vs ds
  | _, _, .nil, _ => .nil
  | _, _, .cons a b, l => .cons (Dq.tups t a (l _ List.mem_cons_self)) (DqAll.tups t b fun e he => l e (List.mem_cons_of_mem _ he))
theorem Dq.dp {K : PySem.W.Frag} {H : Hp} {n : Nat} : ∀ {v : V} {d : PyData}, Dq H v d → Tp n d → Dp K H v d := by
  induction n with
  | zero =>
    intro v d h l
    cases h with
    | non => exact .non
    | bl b => exact .bl b
    | int i => exact .int i
    | str x => exact .str x
    | lst a b => exact l.elim
    | tup a b => exact l.elim
    | dk a b => exact l.elim
  | succ n ih =>
    intro v d h l
    cases h with
    | non => exact .non
    | bl b => exact .bl b
    | int i => exact .int i
    | str x => exact .str x
    | lst a b =>
      rcases l with l | ⟨ds, e, _⟩
      · exact l.elim
      · cases e
    | tup a b =>
      rcases l with l | ⟨ds, e, _, l⟩
      · exact l.elim
      · cases e
        refine .tup (SqT.of a) ?_
        have key : ∀ {vs : List V} {ds : List PyData}, DqAll H vs ds → (∀ e ∈ ds, Tp n e) → DpAll K H vs ds := by
          intro vs
          induction vs with
          | nil => intro ds q _; cases q; exact .nil
          | cons v vs iv =>
            intro ds q l
            cases q with
            | cons a b => exact .cons (ih a (l _ List.mem_cons_self)) (iv b fun e he => l e (List.mem_cons_of_mem _ he))
        exact key b l
    | dk a b =>
      rcases l with l | ⟨ds, e, _⟩
      · exact l.elim
      · cases e
section
variable {X : Cx} {pins : List (Addr × Obj)} {σ : L2.St} {H : Hp} {s : Shared}
theorem noSys (sm : (X.K.lookup sysModules).isSome = true) (I : Inv X pins σ H s) {a : Addr} {u : HO} (h : H a = some u) : a ≠ sysModules := fun z => by
  obtain ⟨o, ho⟩ := Option.isSome_iff_exists.mp sm
  have := (I.bs _ _ (I.ok.mod.kin _ _ ho)).2
  rw [← z, h] at this
  cases this
mutual
theorem Dq.reads (sm : (X.K.lookup sysModules).isSome = true) (I : Inv X pins σ H s) : ∀ {v : V} {d : PyData} {u : Value}, Dq H v d → RelV v u → ∃ as, Reads s.heap u d as ∧ sysModules ∉ as
  | _, _, _, .non, r => by
    cases r
    exact ⟨_, .none, List.not_mem_nil⟩
  | _, _, _, .bl b, r => by
    cases r
    exact ⟨_, .bool b, List.not_mem_nil⟩
  | _, _, _, .int i, r => by
    obtain ⟨t, rfl⟩ := r
    exact ⟨_, .int i t, List.not_mem_nil⟩
  | _, _, _, .str x, r => by
    obtain ⟨t, rfl⟩ := r
    exact ⟨_, .str x t, List.not_mem_nil⟩
  | _, _, _, .lst h a, r => by
    have n := noSys sm I h
    cases r
    obtain ⟨its, rv, ⟨o, m, ho, hc, _, hd⟩, _⟩ := I.list (SqL.of h)
    obtain ⟨as, hr, hn⟩ := DqAll.reads sm I a rv
    exact ⟨_, .list ho hc hd hr, fun z => (List.mem_cons.mp z).elim (fun e => n e.symm) hn⟩
  | _, _, _, .tup h a, r => by
    cases r
    obtain ⟨its, rv, ⟨o, ho, hc, m, hd⟩, _⟩ := I.tuple (SqT.of h)
    obtain ⟨as, hr, hn⟩ := DqAll.reads sm I a rv
    exact ⟨_, .tuple ho hc hd hr, hn⟩
  | _, _, _, .dk h a, r => by
    cases r
    obtain ⟨_, hsm, vs, kv, hd⟩ := dk_of I.hok h
    obtain ⟨as, hr, hn⟩ := DqKv.reads sm I a kv
    refine ⟨_, PyProof.V.reads_dictOf key_reads hd hr, fun z => ?_⟩
    rcases List.mem_cons.mp z with z | z
    · rw [← z] at hsm
      exact absurd hsm (by decide)
    · exact hn z
theorem DqAll.reads (sm : (X.K.lookup sysModules).isSome = true) (I : Inv X pins σ H s) : ∀ {vs : List V} {ds : List PyData} {us : List Value}, DqAll H vs ds → Vals vs us → ∃ as, ReadsAll s.heap us ds as ∧ sysModules ∉ as
  | _, _, _, .nil, r => by
    cases r
    exact ⟨_, .nil, List.not_mem_nil⟩
  | _, _, _, .cons a b, r => by
    cases r with
    | cons r1 r2 =>
      obtain ⟨as, q1, n1⟩ := Dq.reads sm I a r1
      obtain ⟨bs, q2, n2⟩ := DqAll.reads sm I b r2
      exact ⟨_, .cons q1 q2, fun z => (List.mem_append.mp z).elim n1 n2⟩
theorem DqKv.reads (sm : (X.K.lookup sysModules).isSome = true) (I : Inv X pins σ H s) : ∀ {vs : List (Key × V)} {ds : List (PyData × PyData)} {us : List (Key × Value)}, DqKv H vs ds → KV vs us → ∃ as, PyProof.V.PairsRead s.heap kd us ds as ∧ sysModules ∉ as
  | _, _, _, .nil, r => by
    cases r
    exact ⟨_, .nil, List.not_mem_nil⟩
  | _, _, _, .cons a b, r => by
    cases r with
    | cons r1 r2 =>
      rename_i kv2 _
      obtain ⟨k2, v2⟩ := kv2
      obtain ⟨e1, e2⟩ := r1
      cases e1
      obtain ⟨as, q1, n1⟩ := Dq.reads sm I a e2
      obtain ⟨bs, q2, n2⟩ := DqKv.reads sm I b r2
      exact ⟨_, .cons q1 q2, fun z => (List.mem_append.mp z).elim n1 n2⟩
end
end
def rReprQ : List V → Hp → VK → Prop := fun xs H Q => ∃ (v : V) (d : PyData), xs = [v] ∧ Dq H v d ∧ d.showable = true ∧ d.depth ≤ 60 ∧ d.shown.length ≤ sizeLine ∧ Q (.str d.shown) H
theorem repr_ref {X : Cx} (sm : (X.K.lookup sysModules).isSome = true) (hg : X.A.guards = some []) (hu : X.A.units + 64 < cLine) {pins : List (Addr × Obj)} {s : Shared} {σ : L2.St} {H : Hp} {Q : VK} {a : Addr} {d : PyData} (I : Inv X pins σ H s) (hd : Dq H (.ref a) d) (hs : d.showable = true)
    (hdep : d.depth ≤ 60) (hsz : d.shown.length ≤ sizeLine) (q : Q (.str d.shown) H) : wpAny (model X.prog X.w) X.A (call (.builtin "repr") [.ref a]) (EP X pins σ Q) X.xe s := by
  obtain ⟨as, rd, hn⟩ := hd.reads sm I (u := .ref a) rfl
  exact repr_of_reads' rd hs (fun _ => hn) hg (by omega) (fun _ _ e => e) (fun h' v tk hk => ⟨.str d.shown, H, I.kept hk, ⟨v, rfl⟩, q⟩) hsz
theorem call_reprQ {X : Cx} (sm : (X.K.lookup sysModules).isSome = true) (hg : X.A.guards = some []) (hu : X.A.units + 64 < cLine) : CallR X (.builtin "repr") rReprQ := by
  intro pins s σ H xs us Q I r h
  obtain ⟨v, d, rfl, hd, hs, hdep, hsz, q⟩ := h
  obtain ⟨u, rfl, ru⟩ := vals1 r
  cases hd with
  | non =>
    obtain rfl : u = Value.none := ru
    simp only [PyData.shown] at q
    exact PySem.P.repr_of_none ⟨.str _, H, I.tok _, ⟨_, rfl⟩, q⟩
  | bl b =>
    obtain rfl : u = Value.bool b := ru
    simp only [PyData.shown] at q
    refine PySem.P.repr_of_bool ⟨.str _, H, I.tok _, ⟨_, rfl⟩, ?_⟩
    cases b <;> exact q
  | int i =>
    obtain ⟨t, rfl⟩ := ru
    simp only [PyData.shown] at q
    exact PySem.P.repr_of_int (of_decide_eq_true (by simpa only [PyData.showable] using hs)) ⟨.str _, H, I.tok _, ⟨_, rfl⟩, q⟩
  | str x =>
    obtain ⟨t, rfl⟩ := ru
    simp only [PyData.shown] at q hsz
    exact PySem.P.repr_of_str ⟨.str _, H, I.tok _, ⟨_, rfl⟩, q⟩ hsz
  | lst h a =>
    obtain rfl := (show u = Value.ref _ from ru)
    exact repr_ref sm hg hu I (.lst h a) hs hdep hsz q
  | tup h a =>
    obtain rfl := (show u = Value.ref _ from ru)
    exact repr_ref sm hg hu I (.tup h a) hs hdep hsz q
  | dk h a =>
    obtain rfl := (show u = Value.ref _ from ru)
    exact repr_ref sm hg hu I (.dk h a) hs hdep hsz q
/-! ### lists that are not the table of modules -/
def tLstX (t : TA) : TE := fun σ H Q => t σ H fun xs H1 => xs.length ≤ sizeLine ∧ ∀ p, H1 p = none → p ≠ sysModules → Q (.ref p) (upd H1 p (.lst xs))
theorem pe_lstX {X : Cx} {es : List Expr} {t : TA} {pos : Pos} (h : PA X es t) : PE X (.List es pos) (tLstX t) := by
  refine ⟨fun pins s σ H Q I hq => wpAny_List_spliced (thn (h.run pos pins s σ H _ I hq) fun us s1 ⟨xs, H1, J, r, z, q⟩ => ⟨by rw [← r.length]; exact z, ?_⟩)⟩
  have hp := q _ (J.hok.fresh (Nat.le_refl _)) (Nat.ne_of_gt J.big)
  exact ⟨.ref s1.heap.objs.size, _, J.laid (t' := s1.toks) (o := .lst xs) (fun b u e => Heap.get?_push_of_some _ e) (Nat.le_refl _) ⟨z, us, 0, r, Heap.get?_push_size _ rfl⟩, rfl, hp⟩
/-! ### the keys of a dict, in order -/
theorem kd_inj {a b : Key} (h : kd a = kd b) : a = b := by
  cases a <;> cases b <;> simp only [kd] at h
  · injection h with h; rw [h]
  · exact PyData.noConfusion h
  · exact PyData.noConfusion h
  · injection h with h; rw [h]
theorem DqKv.keys {H : Hp} : ∀ {vs : List (Key × V)} {ds : List (PyData × PyData)}, DqKv H vs ds → ds.map (·.1) = vs.map fun p => kd p.1
  | _, _, .nil => rfl
  | _, _, .cons _ b => by rw [List.map_cons, List.map_cons, b.keys]
theorem DqKv.len {H : Hp} {vs : List (Key × V)} {ds : List (PyData × PyData)} (h : DqKv H vs ds) : vs.length = ds.length := by
  have e := congrArg List.length h.keys
  rw [List.length_map, List.length_map] at e
  exact e.symm
theorem DqKv.look {H : Hp} : ∀ {vs : List (Key × V)} {ds : List (PyData × PyData)} {k : Key}, DqKv H vs ds → k ∈ vs.map (·.1) → ∃ v d, valV vs k = some v ∧ (kd k, d) ∈ ds ∧ Dq H v d
  | _, _, k, .nil, h => absurd h List.not_mem_nil
  | _, _, k, .cons (k := k2) (v := v) (d := d) (vs := vs) a b, h => by
    by_cases e : k2 = k
    · subst e
      exact ⟨v, d, valV_pos rfl, List.mem_cons_self, a⟩
    · rw [List.map_cons] at h
      rcases List.mem_cons.mp h with h | h
      · exact absurd h.symm e
      · obtain ⟨v2, d2, h1, h2, h3⟩ := b.look h
        exact ⟨v2, d2, (valV_neg (p := (k2, v)) e).trans h1, List.mem_cons_of_mem _ h2, h3⟩
/-- what stands at these keys -/
inductive Lk (H : Hp) (vs : List (Key × V)) (ds : List (PyData × PyData)) : List Key → List (PyData × PyData) → Prop
  | nil : Lk H vs ds [] []
  | cons {k : Key} {v : V} {d : PyData} {ks : List Key} {l : List (PyData × PyData)} : valV vs k = some v → Dq H v d → (kd k, d) ∈ ds → Lk H vs ds ks l → Lk H vs ds (k :: ks) ((kd k, d) :: l)
theorem DqKv.lks {H : Hp} {vs : List (Key × V)} {ds : List (PyData × PyData)} (h : DqKv H vs ds) : ∀ {ks : List Key}, (∀ k ∈ ks, k ∈ vs.map (·.1)) → ∃ l, Lk H vs ds ks l
  | [], _ => ⟨[], .nil⟩
  | k :: ks, hk => by
    obtain ⟨l, hl⟩ := h.lks fun x hx => hk x (List.mem_cons_of_mem _ hx)
    obtain ⟨v, d, h1, h2, h3⟩ := h.look (hk k List.mem_cons_self)
    exact ⟨_, .cons h1 h3 h2 hl⟩
theorem Lk.keys {H : Hp} {vs : List (Key × V)} {ds : List (PyData × PyData)} : ∀ {ks : List Key} {l : List (PyData × PyData)}, Lk H vs ds ks l → l.map (·.1) = ks.map kd
  | _, _, .nil => rfl
  | _, _, .cons _ _ _ b => by rw [List.map_cons, List.map_cons, b.keys]
theorem Lk.sub {H : Hp} {vs : List (Key × V)} {ds : List (PyData × PyData)} : ∀ {ks : List Key} {l : List (PyData × PyData)}, Lk H vs ds ks l → ∀ p ∈ l, p ∈ ds
  | _, _, .nil, _, h => absurd h List.not_mem_nil
  | _, _, .cons _ _ m b, p, h => (List.mem_cons.mp h).elim (fun e => e ▸ m) fun h => b.sub p h
theorem Lk.get {H : Hp} {vs : List (Key × V)} {ds : List (PyData × PyData)} : ∀ {ks : List Key} {l : List (PyData × PyData)} {i : Nat} {k : Key}, Lk H vs ds ks l → ks[i]? = some k → ∃ v d, valV vs k = some v ∧ l[i]? = some (kd k, d) ∧ Dq H v d
  | _, _, i, k, .nil, h => by simp at h
  | _, _, 0, k, .cons a b c e, h => by
    simp at h
    subst h
    exact ⟨_, _, a, rfl, b⟩
  | _, _, i + 1, k, .cons a b c e, h => by
    simp at h
    obtain ⟨v, d, h1, h2, h3⟩ := e.get h
    exact ⟨v, d, h1, by simp [h2], h3⟩
theorem pair_ext {α β : Type} : ∀ {ds : List (α × β)} {p q : α × β}, (ds.map (·.1)).Nodup → p ∈ ds → q ∈ ds → p.1 = q.1 → p = q
  | [], _, _, _, h, _, _ => absurd h List.not_mem_nil
  | d :: ds, p, q, nd, hp, hq, e => by
    rw [List.map_cons, List.nodup_cons] at nd
    rcases List.mem_cons.mp hp with e1 | hp1 <;> rcases List.mem_cons.mp hq with e2 | hq1
    · rw [e1, e2]
    · exact absurd (show d.1 ∈ ds.map (·.1) by rw [← e1, e]; exact List.mem_map_of_mem hq1) nd.1
    · exact absurd (show d.1 ∈ ds.map (·.1) by rw [← e2, ← e]; exact List.mem_map_of_mem hp1) nd.1
    · exact pair_ext nd.2 hp1 hq1 e
theorem list_ext_keys {α β : Type} {ds : List (α × β)} (nd : (ds.map (·.1)).Nodup) : ∀ {l m : List (α × β)}, l.map (·.1) = m.map (·.1) → (∀ p ∈ l, p ∈ ds) → (∀ p ∈ m, p ∈ ds) → l = m
  | [], [], _, _, _ => rfl
  | [], b :: m, e, _, _ => by simp at e
  | a :: l, [], e, _, _ => by simp at e
  | a :: l, b :: m, e, h1, h2 => by
    rw [List.map_cons, List.map_cons] at e
    injection e with e1 e2
    rw [pair_ext nd (h1 a List.mem_cons_self) (h2 b List.mem_cons_self) e1, list_ext_keys nd e2 (fun p hp => h1 p (List.mem_cons_of_mem _ hp)) fun p hp => h2 p (List.mem_cons_of_mem _ hp)]
/-- the pairs at sorted keys are the sorted pairs -/
theorem Lk.srt {H : Hp} {vs : List (Key × V)} {ds l : List (PyData × PyData)} {ks : List Key} (h : DqKv H vs ds) (k : KO (ds.map (·.1))) (p : ks.Perm (vs.map (·.1))) (s : ks.Pairwise fun a b => kl (kd a) (kd b) = true) (hl : Lk H vs ds ks l) : srt ds = l := by
  have e1 : (l.map (·.1)).Perm (ds.map (·.1)) := by
    rw [hl.keys, h.keys]
    have := p.map kd
    rw [List.map_map] at this
    exact this
  obtain ⟨j, e2, p2⟩ := perm_map_inv (f := fun p : PyData × PyData => p.1) e1
  have e3 : l = j := list_ext_keys k.1 e2 hl.sub fun p hp => p2.mem_iff.mp hp
  refine srt_of (e3 ▸ p2) k ?_
  have e4 : (l.map (·.1)).Pairwise fun a b => kl a b = true := by
    rw [hl.keys, List.pairwise_map]
    exact s
  rw [List.pairwise_map] at e4
  exact e4
theorem risingS_lt : ∀ {l : List Str} {p : Str}, risingS p l = true → (p :: l).Nodup → (p :: l).Pairwise fun a b => a.cps.toList < b.cps.toList
  | [], p, _, _ => List.pairwise_singleton _ _
  | x :: r, p, h, nd => by
    have h' : (!ltCps x.cps.toList p.cps.toList && risingS x r) = true := h
    rw [Bool.and_eq_true, ltCps_eq, Bool.not_eq_true', decide_eq_false_iff_not] at h'
    rw [List.nodup_cons] at nd
    have ih := risingS_lt h'.2 nd.2
    have px : p.cps.toList < x.cps.toList := by
      rcases nat_lex_tri p.cps.toList x.cps.toList with e | e | e
      · exact e
      · exact absurd (str_ext e ▸ List.mem_cons_self) nd.1
      · exact absurd e h'.1
    refine List.pairwise_cons.mpr ⟨fun y hy => ?_, ih⟩
    rcases List.mem_cons.mp hy with rfl | hy
    · exact px
    · exact List.lt_trans px ((List.pairwise_cons.mp ih).1 y hy)
theorem sortedS_lt {l : List Str} (h : sortedS l = true) (nd : l.Nodup) : l.Pairwise fun a b => a.cps.toList < b.cps.toList := by
  cases l with
  | nil => exact .nil
  | cons p l => exact risingS_lt h nd
/-- sorted(d), d a dict of such keys -/
def rSortK : List V → Hp → VK → Prop := fun xs H Q => ∃ (a : Addr) (kvs : List (Key × V)), xs = [.ref a] ∧ H a = some (.dK kvs) ∧ KO (kvs.map fun p => kd p.1) ∧ kvs.length < 64 ∧
  ∀ (ks : List Key) (p : Addr), ks.Perm (kvs.map (·.1)) → (ks.Pairwise fun a b => kl (kd a) (kd b) = true) → H p = none → Q (.ref p) (upd H p (.lst (ks.map kV)))
theorem map_int_inv : ∀ {ks : List Key} {is : List Int}, ks.map kd = is.map PyData.int → ks = is.map Sum.inl
  | [], [], _ => rfl
  | [], _ :: _, h => by simp at h
  | _ :: _, [], h => by simp at h
  | .inl k :: ks, i :: is, h => by
    rw [List.map_cons, List.map_cons] at h
    injection h with h1 h2
    injection h1 with h1
    rw [List.map_cons, map_int_inv h2, h1]
  | .inr k :: ks, i :: is, h => by
    rw [List.map_cons, List.map_cons] at h
    injection h with h1 h2
    exact PyData.noConfusion h1
theorem map_str_inv : ∀ {ks : List Key} {is : List Str}, ks.map kd = is.map PyData.str → ks = is.map Sum.inr
  | [], [], _ => rfl
  | [], _ :: _, h => by simp at h
  | _ :: _, [], h => by simp at h
  | .inr k :: ks, i :: is, h => by
    rw [List.map_cons, List.map_cons] at h
    injection h with h1 h2
    injection h1 with h1
    rw [List.map_cons, map_str_inv h2, h1]
  | .inl k :: ks, i :: is, h => by
    rw [List.map_cons, List.map_cons] at h
    injection h with h1 h2
    exact PyData.noConfusion h1
theorem call_sortK {X : Cx} (hc : X.calm = true) : CallR X (.builtin "sorted") rSortK := by
  intro pins s σ H xs us Q I r h
  obtain ⟨a, kvs, rfl, ha, k, hl, q⟩ := h
  have e0 : (kvs.map fun p => kd p.1) = (kvs.map (·.1)).map kd := by rw [List.map_map]; rfl
  have nd : (kvs.map (·.1)).Nodup := by
    have := k.1
    rw [e0] at this
    exact List.Pairwise.of_map kd (fun a b h z => h (congrArg kd z)) this
  rcases k.2 with ⟨is, e, b⟩ | ⟨ss, e, b⟩
  · rw [e0] at e
    have e2 := map_int_inv e
    refine call_sortedDI hc pins s σ H _ us Q I r ⟨a, kvs, is, rfl, .inl ha, e2, ?_, fun ys p hp hs hn => ?_⟩
    · have := congrArg List.length e2
      rw [List.length_map, List.length_map] at this
      omega
    · have z := q (ys.map Sum.inl) p (by rw [e2]; exact hp.map _) ?_ hn
      · rw [List.map_map] at z
        exact z
      · rw [List.pairwise_map]
        have nd2 : ys.Nodup := by
          rw [e2] at nd
          exact hp.nodup_iff.mpr (List.Pairwise.of_map Sum.inl (fun a b h z => h (congrArg Sum.inl z)) nd)
        refine (hs.and nd2).imp fun {a b} h => decide_eq_true (by obtain ⟨h1, h2⟩ := h; omega)
  · rw [e0] at e
    have e2 := map_str_inv e
    refine call_sortedD hc pins s σ H _ us Q I r ⟨a, kvs, ss, rfl, .inl ha, e2, ?_, fun ys p hp hs hn => ?_⟩
    · have := congrArg List.length e2
      rw [List.length_map, List.length_map] at this
      omega
    · have z := q (ys.map Sum.inr) p (by rw [e2]; exact hp.map _) ?_ hn
      · rw [List.map_map] at z
        exact z
      · rw [List.pairwise_map]
        have nd2 : ys.Nodup := by
          rw [e2] at nd
          exact hp.nodup_iff.mpr (List.Pairwise.of_map Sum.inr (fun a b h z => h (congrArg Sum.inr z)) nd)
        exact (sortedS_lt hs nd2).imp fun {a b} h => decide_eq_true h
end Gd

set_option Elab.async false
set_option linter.all false
set_option maxRecDepth 100000
set_option maxHeartbeats 1000000
namespace Gd
open PySem PySem.Spec PyProof.Rows L2
/-! ### where a pair is put in; data do not hold themselves -/
def pos (p : PyData × PyData) : List (PyData × PyData) → Nat
  | [] => 0
  | q :: r => if kl q.1 p.1 = true then pos p r + 1 else 0
theorem insK_pos (p : PyData × PyData) : ∀ l, insK p l = l.take (pos p l) ++ p :: l.drop (pos p l)
  | [] => rfl
  | q :: r => by
    unfold insK pos
    split
    · rw [List.take_succ_cons, List.drop_succ_cons, insK_pos p r, List.cons_append]
    · rfl
theorem pos_le (p : PyData × PyData) : ∀ l, pos p l ≤ l.length
  | [] => Nat.le_refl _
  | q :: r => by
    unfold pos
    split
    · exact Nat.succ_le_succ (pos_le p r)
    · exact Nat.zero_le _
theorem pos_lt {p : PyData × PyData} : ∀ {l : List (PyData × PyData)} {j : Nat} {q : PyData × PyData}, l[j]? = some q → (j < pos p l → kl q.1 p.1 = true) ∧ (j = pos p l → kl q.1 p.1 = false)
  | [], j, q, h => by simp at h
  | a :: r, 0, q, h => by
    simp at h
    subst h
    unfold pos
    split
    · rename_i c
      exact ⟨fun _ => c, fun z => absurd z (by omega)⟩
    · rename_i c
      exact ⟨fun z => absurd z (by omega), fun _ => by simpa using c⟩
  | a :: r, j + 1, q, h => by
    simp at h
    have ih := pos_lt (p := p) h
    unfold pos
    split
    · exact ⟨fun z => ih.1 (by omega), fun z => ih.2 (by omega)⟩
    · exact ⟨fun z => absurd z (by omega), fun z => absurd z (by omega)⟩
theorem srt_step {l : List (PyData × PyData)} {i : Nat} {p : PyData × PyData} (h : l[i]? = some p) : srt (l.take (i + 1)) = insK p (srt (l.take i)) := by
  unfold srt
  rw [List.take_add_one, h, List.foldl_append]
  rfl
mutual
theorem Dq.det {H : Hp} : ∀ {v : V} {d d' : PyData}, Dq H v d → Dq H v d' → d = d'
  | _, _, _, .non, h => by cases h; rfl
  | _, _, _, .bl b, h => by cases h; rfl
  | _, _, _, .int i, h => by cases h; rfl
  | _, _, _, .str x, h => by cases h; rfl
  | _, _, _, .lst e a, h => by
    cases h with
    | lst e2 a2 =>
      rw [e] at e2
      cases e2
      rw [DqAll.det a a2]
    | tup e2 a2 => rw [e] at e2; cases e2
    | dk e2 a2 => rw [e] at e2; cases e2
  | _, _, _, .tup e a, h => by
    cases h with
    | lst e2 a2 => rw [e] at e2; cases e2
    | tup e2 a2 =>
      rw [e] at e2
      cases e2
      rw [DqAll.det a a2]
    | dk e2 a2 => rw [e] at e2; cases e2
  | _, _, _, .dk e a, h => by
    cases h with
    | lst e2 a2 => rw [e] at e2; cases e2
    | tup e2 a2 => rw [e] at e2; cases e2
    | dk e2 a2 =>
      rw [e] at e2
      cases e2
      rw [DqKv.det a a2]
theorem DqAll.det {H : Hp} : ∀ {vs : List V} {ds ds' : List PyData}, DqAll H vs ds → DqAll H vs ds' → ds = ds'
  | _, _, _, .nil, h => by cases h; rfl
  | _, _, _, .cons a b, h => by
    cases h with
    | cons a2 b2 => rw [Dq.det a a2, DqAll.det b b2]
theorem DqKv.det {H : Hp} : ∀ {vs : List (Key × V)} {ds ds' : List (PyData × PyData)}, DqKv H vs ds → DqKv H vs ds' → ds = ds'
  | _, _, _, .nil, h => by cases h; rfl
  | _, _, _, .cons a b, h => by
    cases h with
    | cons a2 b2 => rw [Dq.det a a2, DqKv.det b b2]
end
mutual
theorem Dq.off {H : Hp} {a : Addr} {o : HO} : ∀ {v : V} {d : PyData}, Dq H v d → (∀ d', Dq H (.ref a) d' → sizeOf d < sizeOf d') → Dq (upd H a o) v d
  | _, _, .non, _ => .non
  | _, _, .bl b, _ => .bl b
  | _, _, .int i, _ => .int i
  | _, _, .str x, _ => .str x
  | _, _, .lst (a := b) (ds := ds) e q, h => by
    have nb : b ≠ a := fun z => by
      subst z
      exact absurd (h _ (.lst e q)) (Nat.lt_irrefl _)
    refine .lst ((upd_ne nb).trans e) (DqAll.off q fun d' hd => ?_)
    have := h d' hd
    have e2 := PyData.list.sizeOf_spec ds
    omega
  | _, _, .tup (a := b) (ds := ds) e q, h => by
    have nb : b ≠ a := fun z => by
      subst z
      exact absurd (h _ (.tup e q)) (Nat.lt_irrefl _)
    refine .tup ((upd_ne nb).trans e) (DqAll.off q fun d' hd => ?_)
    have := h d' hd
    have e2 := PyData.tuple.sizeOf_spec ds
    omega
  | _, _, .dk (a := b) (ds := ds) e q, h => by
    have nb : b ≠ a := fun z => by
      subst z
      exact absurd (h _ (.dk e q)) (Nat.lt_irrefl _)
    refine .dk ((upd_ne nb).trans e) (DqKv.off q fun d' hd => ?_)
    have := h d' hd
    have e2 := PyData.dict.sizeOf_spec ds
    omega
theorem DqAll.off {H : Hp} {a : Addr} {o : HO} : ∀ {vs : List V} {ds : List PyData}, DqAll H vs ds → (∀ d', Dq H (.ref a) d' → sizeOf ds < sizeOf d') → DqAll (upd H a o) vs ds
  | _, _, .nil, _ => .nil
  | _, _, .cons (d := d) (ds := ds) q r, h => by
    have e2 : sizeOf (d :: ds) = 1 + sizeOf d + sizeOf ds := rfl
    exact .cons (Dq.off q fun d' hd => by have := h d' hd; omega) (DqAll.off r fun d' hd => by have := h d' hd; omega)
theorem DqKv.off {H : Hp} {a : Addr} {o : HO} : ∀ {vs : List (Key × V)} {ds : List (PyData × PyData)}, DqKv H vs ds → (∀ d', Dq H (.ref a) d' → sizeOf ds < sizeOf d') → DqKv (upd H a o) vs ds
  | _, _, .nil, _ => .nil
  | _, _, .cons (k := k) (d := d) (ds := ds) q r, h => by
    have e2 : sizeOf ((kd k, d) :: ds) = 1 + (1 + sizeOf (kd k) + sizeOf d) + sizeOf ds := rfl
    exact .cons (Dq.off q fun d' hd => by have := h d' hd; omega) (DqKv.off r fun d' hd => by have := h d' hd; omega)
end
/-- the values of a dict stay where the dict itself is locked -/
theorem DqKv.lock {H : Hp} {a : Addr} {o : HO} {vs : List (Key × V)} {ds : List (PyData × PyData)} (h : DqKv H vs ds) (e : H a = some (.dK vs)) : DqKv (upd H a o) vs ds := by
  refine h.off fun d' hd => ?_
  rw [hd.det (.dk e h)]
  have e2 := PyData.dict.sizeOf_spec ds
  omega
theorem DqKv.at {H : Hp} : ∀ {vs : List (Key × V)} {ds : List (PyData × PyData)} {i : Nat} {k : Key} {v : V}, DqKv H vs ds → vs[i]? = some (k, v) → ∃ d, ds[i]? = some (kd k, d) ∧ Dq H v d
  | _, _, i, k, v, .nil, h => by simp at h
  | _, _, 0, k, v, .cons a b, h => by
    simp at h
    obtain ⟨rfl, rfl⟩ := h
    exact ⟨_, rfl, a⟩
  | _, _, i + 1, k, v, .cons a b, h => by
    simp at h
    obtain ⟨d, h1, h2⟩ := b.at h
    exact ⟨d, by simp [h1], h2⟩
theorem valV_at {κ : Type} [DecidableEq κ] : ∀ {vs : List (κ × V)} {i : Nat} {k : κ} {v : V}, (vs.map (·.1)).Nodup → vs[i]? = some (k, v) → valV vs k = some v
  | [], i, k, v, _, h => by simp at h
  | p :: vs, 0, k, v, _, h => by
    simp at h
    subst h
    exact valV_pos rfl
  | p :: vs, i + 1, k, v, nd, h => by
    simp at h
    rw [List.map_cons, List.nodup_cons] at nd
    have n : ¬ p.1 = k := fun z => nd.1 (z ▸ List.mem_map_of_mem (List.mem_of_getElem? h))
    exact (valV_neg n).trans (valV_at nd.2 h)
theorem keys_nd {vs : List (Key × V)} (h : KO (vs.map fun p => kd p.1)) : (vs.map (·.1)).Nodup := by
  have := h.1
  rw [show (vs.map fun p => kd p.1) = (vs.map (·.1)).map kd by rw [List.map_map]; rfl] at this
  exact List.Pairwise.of_map kd (fun a b h z => h (congrArg kd z)) this
end Gd

set_option Elab.async false
set_option linter.all false
set_option maxRecDepth 100000
set_option maxHeartbeats 1000000
namespace Gd
open PySem PySem.Spec PyProof.Rows L2
/-! ### what is new in a heap -/
def nw (G H : Hp) : Hp := fun b => match G b with
  | none => H b
  | some _ => none
theorem nw_at {G H : Hp} {b : Addr} (g : G b = none) : nw G H b = H b := by
  unfold nw
  rw [g]
theorem nw_some {G H : Hp} {b : Addr} {o : HO} (h : nw G H b = some o) : G b = none ∧ H b = some o := by
  unfold nw at h
  cases g : G b with
  | none => rw [g] at h; exact ⟨rfl, h⟩
  | some u => rw [g] at h; cases h
theorem nw_same {G G' H H' : Hp} (h : ∀ b o, G b = none → H b = some o → G' b = none ∧ H' b = some o) : Same (nw G H) (nw G' H') := fun b o e => by
  obtain ⟨g, e2⟩ := nw_some e
  obtain ⟨g2, e3⟩ := h b o g e2
  rw [nw_at g2]
  exact e3
theorem nw_sub {G H : Hp} : Same (nw G H) H := fun b o e => (nw_some e).2
def Dom (H H' : Hp) : Prop := ∀ b, H b ≠ none → H' b ≠ none
theorem Dom.none {H H' : Hp} (d : Dom H H') {b : Addr} (h : H' b = none) : H b = none := by
  cases e : H b with
  | none => rfl
  | some o => exact absurd h (d b (by rw [e]; simp))
theorem Dom.trans {H H1 H2 : Hp} (a : Dom H H1) (b : Dom H1 H2) : Dom H H2 := fun x h => b x (a x h)
theorem Dom.same {H H' : Hp} (s : Same H H') : Dom H H' := fun b h => by
  cases e : H b with
  | none => exact absurd e h
  | some o => rw [s b o e]; simp
theorem Dom.upd (H : Hp) (p : Addr) (o : HO) : Dom H (upd H p o) := fun b h => by
  by_cases e : b = p
  · rw [e, upd_same]; simp
  · rw [upd_ne e]; exact h
theorem KO.sub {ks ks' : List PyData} (h : KO ks) (s : ks'.Sublist ks) : KO ks' := by
  refine ⟨s.nodup h.1, ?_⟩
  rcases h.2 with ⟨is, rfl, b⟩ | ⟨is, rfl, b⟩
  · left
    obtain ⟨js, hj, e⟩ := List.sublist_map_iff.mp s
    exact ⟨js, e, fun i hi => b i (hj.mem hi)⟩
  · right
    obtain ⟨js, hj, e⟩ := List.sublist_map_iff.mp s
    exact ⟨js, e, fun i hi => b i (hj.mem hi)⟩
theorem putK_new {κ : Type} [DecidableEq κ] {kvs : List (κ × V)} {k : κ} {v : V} (h : k ∉ kvs.map (·.1)) : putK kvs k v = kvs ++ [(k, v)] := by
  unfold putK
  rw [if_neg]
  intro z
  rw [List.any_eq_true] at z
  obtain ⟨p, hp, e⟩ := z
  exact h (of_decide_eq_true e ▸ List.mem_map_of_mem hp)
theorem DqKv.snoc {H : Hp} {k : Key} {v : V} {d : PyData} : ∀ {vs : List (Key × V)} {ds : List (PyData × PyData)}, DqKv H vs ds → Dq H v d → DqKv H (vs ++ [(k, v)]) (ds ++ [(kd k, d)])
  | _, _, .nil, h => .cons h .nil
  | _, _, .cons a b, h => .cons a (b.snoc h)
theorem Dq.lf {H : Hp} {v : V} {d : PyData} (h : Dq (fun _ => none) v d) : Dq H v d := h.same fun b o e => by cases e
end Gd

set_option Elab.async false
set_option linter.all false
set_option maxRecDepth 100000
set_option maxHeartbeats 1000000
namespace Gd
open PySem PySem.Spec PyProof.Rows L2
/-- data stand as long as lists, tuples, dicts do -/
structure DK (H H' : Hp) : Prop where
  l : ∀ b xs, H b = some (.lst xs) → H' b = some (.lst xs)
  t : ∀ b xs, H b = some (.tup xs) → H' b = some (.tup xs)
  d : ∀ b kvs, H b = some (.dK kvs) → H' b = some (.dK kvs)
theorem DK.of {H H' : Hp} (s : Same H H') : DK H H' := ⟨fun _ _ h => s _ _ h, fun _ _ h => s _ _ h, fun _ _ h => s _ _ h⟩
theorem DK.trans {H H1 H2 : Hp} (a : DK H H1) (b : DK H1 H2) : DK H H2 := ⟨fun _ _ h => b.l _ _ (a.l _ _ h), fun _ _ h => b.t _ _ (a.t _ _ h), fun _ _ h => b.d _ _ (a.d _ _ h)⟩
/-- an instance is written -/
theorem DK.ins {H H' : Hp} {a C dx : Addr} {fs : List (Str × V)} (h : H a = some (.ins C dx fs)) (k : ∀ b o, b ≠ a → H b = some o → H' b = some o) : DK H H' := by
  refine ⟨fun b xs e => k b _ (fun z => ?_) e, fun b xs e => k b _ (fun z => ?_) e, fun b xs e => k b _ (fun z => ?_) e⟩ <;> (rw [z, h] at e; cases e)
mutual
theorem Dq.keep {H H' : Hp} (s : DK H H') : ∀ {v : V} {d : PyData}, Dq H v d → Dq H' v d
  | _, _, .non => .non
  | _, _, .bl b => .bl b
  | _, _, .int i => .int i
  | _, _, .str x => .str x
  | _, _, .lst h a => .lst (s.l _ _ h) (DqAll.keep s a)
  | _, _, .tup h a => .tup (s.t _ _ h) (DqAll.keep s a)
  | _, _, .dk h a => .dk (s.d _ _ h) (DqKv.keep s a)
theorem DqAll.keep {H H' : Hp} (s : DK H H') : ∀ {vs : List V} {ds : List PyData}, DqAll H vs ds → DqAll H' vs ds
  | _, _, .nil => .nil
  | _, _, .cons a b => .cons (Dq.keep s a) (DqAll.keep s b)
theorem DqKv.keep {H H' : Hp} (s : DK H H') : ∀ {vs : List (Key × V)} {ds : List (PyData × PyData)}, DqKv H vs ds → DqKv H' vs ds
  | _, _, .nil => .nil
  | _, _, .cons a b => .cons (Dq.keep s a) (DqKv.keep s b)
end
theorem putF_len (f : Str) (v : V) : ∀ fs : List (Str × V), (putF f v fs).length ≤ fs.length + 1
  | [] => Nat.le_refl _
  | (g, x) :: r => by
    unfold putF
    split
    · show r.length + 1 ≤ r.length + 1 + 1
      omega
    · have := putF_len f v r
      show (putF f v r).length + 1 ≤ r.length + 1 + 1
      omega
theorem look_same (f : Str) (v : V) (fs : List (Str × V)) : (putF f v fs).lookup f = some v := by
  rw [lookup_putF, if_pos rfl]
theorem look_ne {f g : Str} (h : g ≠ f) (v : V) (fs : List (Str × V)) : (putF f v fs).lookup g = fs.lookup g := by
  rw [lookup_putF, if_neg h]
end Gd

set_option Elab.async false
set_option linter.all false
set_option maxRecDepth 100000
set_option maxHeartbeats 1000000
namespace K02
open PySem PySem.Spec PyProof.Rows L2 Gd
/-! ### the text -/
def topS (i : Nat) : Stmt := PySem.Challenge.pw_dimkeeper_k02_papers_keep_what_they_tell.main.body.getD i (.Pass ⟨0, 0, 0, 0⟩)
abbrev sfixed : Stmt := topS 1
theorem scfixed : FnScope ["value", "key", "part"] ["value"] (C8.fnScope sfixed) := C8.fnScope_by (by decide +kernel)
abbrev s_law_tray : Stmt := topS 13
theorem sc_law_tray : FnScope ["_law_script", "_law_cell"] ["_law_script"] (C8.fnScope s_law_tray) := C8.fnScope_by (by decide +kernel)
abbrev s_law_lift : Stmt := topS 14
theorem sc_law_lift : FnScope ["_law_tray_here", "_law_many", "_law_rest", "_law_turn", "_law_cell", "_law_mixed"] ["_law_tray_here", "_law_many"] (C8.fnScope s_law_lift) := C8.fnScope_by (by decide +kernel)
abbrev s_law_take : Stmt := topS 15
theorem sc_law_take : FnScope ["_law_tray_here", "_law_some"] ["_law_tray_here", "_law_some"] (C8.fnScope s_law_take) := C8.fnScope_by (by decide +kernel)
abbrev s_law_value : Stmt := topS 16
theorem sc_law_value : FnScope ["_law_tray_here", "_law_depth", "_law_way", "_law_parts", "_law_turn", "_law_keys", "_law_made", "_law_key"] ["_law_tray_here", "_law_depth"] (C8.fnScope s_law_value) := C8.fnScope_by (by decide +kernel)
abbrev s_law_fixed : Stmt := topS 17
theorem sc_law_fixed : FnScope ["_law_value_here", "_law_pairs", "_law_key", "_law_at", "_law_part"] ["_law_value_here"] (C8.fnScope s_law_fixed) := C8.fnScope_by (by decide +kernel)
abbrev s_law_spoil : Stmt := topS 18
theorem sc_law_spoil : FnScope ["_law_value_here", "_law_key"] ["_law_value_here"] (C8.fnScope s_law_spoil) := C8.fnScope_by (by decide +kernel)
abbrev s_law_paper : Stmt := topS 19
theorem sc_law_paper : FnScope ["_law_kind", "_law_word", "_law_parts"] ["_law_kind", "_law_word", "_law_parts"] (C8.fnScope s_law_paper) := C8.fnScope_by (by decide +kernel)
abbrev s_law_turned : Stmt := topS 20
theorem sc_law_turned : FnScope ["_law_value_here", "_law_made", "_law_key"] ["_law_value_here"] (C8.fnScope s_law_turned) := C8.fnScope_by (by decide +kernel)
abbrev s_law_papers_right : Stmt := topS 21
theorem sc_law_papers_right : FnScope ["_law_tray_here", "_law_word", "_law_kind", "_law_parts", "_law_turn", "_law_due", "_law_part", "_law_paper_here", "_law_twin"] ["_law_tray_here"] (C8.fnScope s_law_papers_right) := C8.fnScope_by (by decide +kernel)
abbrev s_law_fixed_right : Stmt := topS 22
theorem sc_law_fixed_right : FnScope ["_law_tray_here", "_law_value_here", "_law_ahead", "_law_due", "_law_told"] ["_law_tray_here"] (C8.fnScope s_law_fixed_right) := C8.fnScope_by (by decide +kernel)
abbrev s_law_kinds_right : Stmt := topS 23
theorem sc_law_kinds_right : FnScope ["_law_tray_here", "_law_one", "_law_two", "_law_three", "_law_kept", "_law_named", "_law_lost", "_law_held", "_law_broken", "_law_holding", "_law_told", "_law_due", "_law_value_here"] ["_law_tray_here"] (C8.fnScope s_law_kinds_right) := C8.fnScope_by (by decide +kernel)
abbrev slaw : Stmt := topS 24
theorem sclaw : FnScope ["_law_script", "_law_tray_here", "_law_turn", "_law_deep"] ["_law_script"] (C8.fnScope slaw) := C8.fnScope_by (by decide +kernel)
/-! ### what the top has written -/
def Df (K : PySem.W.Frag) (mg : Str → Option Value) (x : Str) (st : Stmt) (ps : List Str) : Prop := ∃ (f : Addr) (fd : FuncData), C8.Def K mg x st f fd ∧ Binds K fd ps []
structure Txt (K : PySem.W.Frag) (mg : Str → Option Value) : Prop where
  d_fixed : Df K mg "fixed" sfixed ["value"]
  d_law_tray : Df K mg "_law_tray" s_law_tray ["_law_script"]
  d_law_lift : Df K mg "_law_lift" s_law_lift ["_law_tray_here", "_law_many"]
  d_law_take : Df K mg "_law_take" s_law_take ["_law_tray_here", "_law_some"]
  d_law_value : Df K mg "_law_value" s_law_value ["_law_tray_here", "_law_depth"]
  d_law_fixed : Df K mg "_law_fixed" s_law_fixed ["_law_value_here"]
  d_law_spoil : Df K mg "_law_spoil" s_law_spoil ["_law_value_here"]
  d_law_paper : Df K mg "_law_paper" s_law_paper ["_law_kind", "_law_word", "_law_parts"]
  d_law_turned : Df K mg "_law_turned" s_law_turned ["_law_value_here"]
  d_law_papers_right : Df K mg "_law_papers_right" s_law_papers_right ["_law_tray_here"]
  d_law_fixed_right : Df K mg "_law_fixed_right" s_law_fixed_right ["_law_tray_here"]
  d_law_kinds_right : Df K mg "_law_kinds_right" s_law_kinds_right ["_law_tray_here"]
  d_law : Df K mg "law" slaw ["_law_script"]
  z_isinstance : mg "isinstance" = none
  z_dict : mg "dict" = none
  z_list : mg "list" = none
  z_tuple : mg "tuple" = none
  z_sorted : mg "sorted" = none
  z_int : mg "int" = none
  z_len : mg "len" = none
  z_abs : mg "abs" = none
  z_range : mg "range" = none
  z_repr : mg "repr" = none
  z_bool : mg "bool" = none
  z_super : mg "super" = none
end K02

set_option Elab.async false
set_option linter.all false
set_option maxRecDepth 100000
set_option maxHeartbeats 1000000
namespace K02
open PySem PySem.Spec PyProof.Rows L2 Gd
/-! ### rules for values of any kind -/
section
variable {X : Cx} {tg : Expr}
def rIsiA (K : PySem.W.Frag) : List V → Hp → VK → Prop := fun xs H Q => rIsi K xs H Q ∨ rIsiT K xs H Q
theorem call_isiA : CallR X (.builtin "isinstance") (rIsiA X.K) := fun pins s σ H xs us Q I r h => h.elim (fun h => call_isi pins s σ H xs us Q I r h) fun h => call_isiT pins s σ H xs us Q I r h
/-- list(x) of a list, a tuple, a dict -/
def rListA (K : PySem.W.Frag) : List V → Hp → VK → Prop := fun xs H Q => (∃ p ys, xs = [.ref p] ∧ (SqL K H p ys ∨ SqT K H p ys) ∧ ∀ l, H l = none → Q (.ref l) (upd H l (.lst ys))) ∨
  ∃ (a : Addr) (kvs : List (Key × V)), xs = [.ref a] ∧ Rd H a (.dK kvs) ∧ ∀ p, H p = none → Q (.ref p) (upd H p (.lst (kvs.map fun kv => kV kv.1)))
theorem call_listA (hc : X.calm = true) : CallR X (.type "list") (rListA X.K) := fun pins s σ H xs us Q I r h => h.elim (fun h => call_list_of pins s σ H xs us Q I r h) fun h => call_listD hc pins s σ H xs us Q I r h
def rLtA : R2 := fun x y H Q => (∃ i j, x = .int i ∧ y = .int j ∧ Q (.bl (decide (i < j))) H) ∨ ∃ i j, x = .str i ∧ y = .str j ∧ Q (.bl (decide (i.cps.toList < j.cps.toList))) H
theorem op_ltA : OpR X (compareOp .Lt) rLtA := fun pins s σ H x y v u Q I rx ry h => h.elim (fun h => op_lt pins s σ H x y v u Q I rx ry h) fun h => op_lt_str pins s σ H x y v u Q I rx ry h
/-- a list or a tuple, walked -/
def iSeqA (K : PySem.W.Frag) (tl : TE) : TI := fun σ H R => tl σ H fun x H1 => ∃ a, x = .ref a ∧ (((∃ xs, SqL K H1 a xs) ∧ R (Itl K a) H1) ∨ ((∃ xs, SqT K H1 a xs) ∧ R (Itt K a) H1))
theorem pi_seqA {l : Expr} {tl : TE} (hl : PE X l tl) : PI X tg l (iSeqA X.K tl) := by
  refine ⟨fun pins s σ H R I h => ?_⟩
  refine thn (hl.run pins s σ H _ I h) fun v s1 ⟨x, H1, I1, r1, q1⟩ => ?_
  obtain ⟨a, e, q1⟩ := q1
  subst e
  cases r1
  rcases q1 with ⟨⟨xs, hq⟩, q⟩ | ⟨⟨xs, hq⟩, q⟩
  · obtain ⟨its, rv, p, hz⟩ := I1.list hq
    refine wpAny_pyIter_list p.isList ?_
    refine ⟨s1.heap.objs.size, [s1.heap.objs.size], _, _, H1, rfl, I1.kept (t' := s1.toks) fun b o e => Heap.get?_push_of_some _ e, turn_list a _, ⟨_, Heap.get?_push_size _ rfl, rfl, rfl⟩, fun b hb => ?_, q⟩
    have e : b = s1.heap.objs.size := by simpa using hb
    subst e
    exact I1.fpOk (Nat.le_refl _) (I1.hok.fresh (Nat.le_refl _))
  · obtain ⟨its, rv, p, hz⟩ := I1.tuple hq
    refine wpAny_pyIter_tuple (show s1.heap.IsTuple a its.toArray from p) ?_
    refine ⟨s1.heap.objs.size, [s1.heap.objs.size], _, _, H1, rfl, I1.kept (t' := s1.toks) fun b o e => Heap.get?_push_of_some _ e, turn_tuple a _, ⟨_, Heap.get?_push_size _ rfl, rfl, rfl⟩, fun b hb => ?_, q⟩
    have e : b = s1.heap.objs.size := by simpa using hb
    subst e
    exact I1.fpOk (Nat.le_refl _) (I1.hok.fresh (Nat.le_refl _))
end
/-! ### the type of a datum -/
def tyD : PyData → String
  | .none => "NoneType"
  | .bool _ => "bool"
  | .int _ => "int"
  | .str _ => "str"
  | .list _ => "list"
  | .tuple _ => "tuple"
  | .dict _ => "dict"
theorem tyX {K : PySem.W.Frag} {H : Hp} {v : V} {d : PyData} (h : Dq H v d) : TyX K H v (.type (tyD d)) := by
  cases h with
  | non => exact .base .non
  | bl b => exact .base (.bl b)
  | int i => exact .base (.int i)
  | str x => exact .base (.str x)
  | lst a b => exact .base (.lst a)
  | tup a b => exact .base (.tup a)
  | dk a b => exact .base (.dK a)
def tyL : List String := ["NoneType", "bool", "int", "str", "list", "tuple", "dict"]
theorem ty_in (d : PyData) : tyD d ∈ tyL := by
  cases d <;> simp [tyD, tyL]
theorem kb_dict : ∀ n ∈ tyL, kitB n "dict" = some (n == "dict") := by decide +kernel
theorem kb_list : ∀ n ∈ tyL, kitB n "list" = some (n == "list") := by decide +kernel
theorem kb_tuple : ∀ n ∈ tyL, kitB n "tuple" = some (n == "tuple") := by decide +kernel
theorem kit_dict {K : PySem.W.Frag} (d : PyData) : PySem.W.kitOne K (.type (tyD d)) (.type "dict") = some (tyD d == "dict") := kit_ty (kb_dict _ (ty_in d))
theorem kit_list {K : PySem.W.Frag} (d : PyData) : PySem.W.kitOne K (.type (tyD d)) (.type "list") = some (tyD d == "list") := kit_ty (kb_list _ (ty_in d))
theorem kit_tuple {K : PySem.W.Frag} (d : PyData) : PySem.W.kitOne K (.type (tyD d)) (.type "tuple") = some (tyD d == "tuple") := kit_ty (kb_tuple _ (ty_in d))
theorem kit_any {K : PySem.W.Frag} (d : PyData) : PySem.W.kitAny K (.type (tyD d)) [.type "list", .type "tuple"] = some (tyD d == "list" || tyD d == "tuple") := by
  unfold PySem.W.kitAny
  rw [kit_list d]
  cases h : tyD d == "list" with
  | true => rfl
  | false =>
    unfold PySem.W.kitAny
    dsimp only
    rw [kit_tuple d]
    cases h2 : tyD d == "tuple" <;> rfl
section
variable {P : Program} {w : World} {K : PySem.W.Frag} {mg : Str → Option Value} {base : Heap}
/-- what fixes a datum of depth n, of the program and of the law alike -/
def spFix (n : Nat) : Sp := fun vs H Q _ => ∃ (v : V) (d : PyData), vs = [v] ∧ Dq H v d ∧ Sh n d ∧ ∀ (u : V) (H' : Hp), Same H H' → Dq H' u (fx n d) → Q u H'
theorem sh_list {n : Nat} {ds : List PyData} (h : Sh (n + 1) (.list ds)) : ds.length ≤ 3 ∧ ∀ e ∈ ds, Sh n e := by
  rcases h with h | ⟨es, e, l, h⟩ | ⟨kvs, e, _⟩
  · exact h.elim
  · rcases e with e | e <;> cases e
    exact ⟨l, h⟩
  · cases e
theorem sh_tup {n : Nat} {ds : List PyData} (h : Sh (n + 1) (.tuple ds)) : ds.length ≤ 3 ∧ ∀ e ∈ ds, Sh n e := by
  rcases h with h | ⟨es, e, l, h⟩ | ⟨kvs, e, _⟩
  · exact h.elim
  · rcases e with e | e <;> cases e
    exact ⟨l, h⟩
  · cases e
theorem sh_dict {n : Nat} {kvs : List (PyData × PyData)} (h : Sh (n + 1) (.dict kvs)) : kvs.length ≤ 3 ∧ KO (kvs.map (·.1)) ∧ ∀ p ∈ kvs, Sh n p.2 := by
  rcases h with h | ⟨es, e, l, h⟩ | ⟨kvs, e, l, k, h⟩
  · exact h.elim
  · rcases e with e | e <;> cases e
  · cases e
    exact ⟨l, k, h⟩
theorem sh0_lf {d : PyData} (h : Sh 0 d) : tyD d ≠ "dict" ∧ tyD d ≠ "list" ∧ tyD d ≠ "tuple" := by
  cases d <;> first | exact (show False from h).elim | exact ⟨by simp [tyD], by simp [tyD], by simp [tyD]⟩
theorem fx_other {n : Nat} {d : PyData} (h1 : tyD d ≠ "dict") (h2 : tyD d ≠ "list") (h3 : tyD d ≠ "tuple") : fx n d = d := by
  cases n with
  | zero => unfold fx; rfl
  | succ n => cases d <;> first | exact absurd rfl h1 | exact absurd rfl h2 | exact absurd rfl h3 | rfl
/-- the items so far, fixed -/
theorem all_snoc {H : Hp} {n i : Nat} {e : PyData} {ds : List PyData} {ws : List V} {u : V} (h : DqAll H ws ((ds.take i).map (fx n))) (he : ds[i]? = some e) (hu : Dq H u (fx n e)) : DqAll H (ws ++ [u]) ((ds.take (i + 1)).map (fx n)) := by
  rw [← take_next (f := fx n) he]
  exact h.snoc hu
end
end K02

set_option Elab.async false
set_option linter.all false
set_option maxRecDepth 100000
set_option maxHeartbeats 2000000
namespace K02
open PySem PySem.Spec PyProof.Rows L2 Gd
def spF : Nat → Sp
  | 0 => fun _ _ _ _ => False
  | n + 1 => spFix n
section
variable {P : Program} {w : World} {K : PySem.W.Frag} {mg : Str → Option Value} {base : Heap}
theorem fnF {f : Addr} {fd : FuncData} {ps : List Str} {k : Nat} : FnOk P w K mg base C8.CX0 k f fd ps (spF 0) := ⟨fun _ _ _ _ h => h.elim, fun _ _ _ _ _ _ _ _ _ _ _ _ _ h => h.elim⟩
/-- the list that a comprehension makes of fixed items -/
theorem fix_items {K' : PySem.W.Frag} {n : Nat} {ds : List PyData} {xs : List V} {H : Hp} {a : Addr} (hxs : DqAll H xs ds) (hl : ds.length ≤ 3) : xs.length ≤ 3 := by
  rw [hxs.len]
  exact hl
theorem dq_key {H : Hp} (k : Key) : Dq H (kV k) (kd k) := by
  cases k with
  | inl i => exact .int i
  | inr x => exact .str x
theorem tp_pair {m : Nat} {k e : PyData} (hk : Lf k) (he : Sh m e) : Tp (2 * m + 1) (.tuple [k, fx m e]) := by
  refine .inr ⟨_, rfl, by show 2 ≤ 3; decide, fun y hy => ?_⟩
  rcases List.mem_cons.mp hy with rfl | hy
  · exact Tp.leaf hk
  · obtain rfl := List.mem_singleton.mp hy
    exact fx_sh he
theorem ok_fixed (T : Txt K mg) (n : Nat) (G_fixed : C8.Cal P w K mg base n "fixed" (spF n) []) : C8.Cal P w K mg base (n + 1) "fixed" (spFix n) [] := by
  obtain ⟨f, fd, F, b⟩ := T.d_fixed
  refine C8.cal0 F b .nil scfixed (fun vs H Q E h => ?_) (fun cdv A outer s H vs Q E hr h => ?_)
  · obtain ⟨v, d, rfl, _⟩ := h
    rfl
  · have nd := scfixed.nd
    have hu := hu_of hr
    obtain ⟨v, d, rfl, hd, hs, q⟩ := h
    refine ⟨_, (pss_cons (ps_if (pt_val (pe_callB call_isiA (by rfl) T.z_isinstance (by decide +kernel) (pa_cons (pv 0) (pa_cons (pe_bltn (v := .ty "dict") (u := .type "dict") (by rfl) T.z_dict (by decide +kernel) rfl) pa_nil)))) (pss_one (ps_ret (pe_callTy call_tuple_of (by rfl) T.z_tuple (by decide +kernel) (pa_cons (pe_lc (own := [("key", 1)]) (g := gName 1) rfl nd (pi_list (pe_callB (call_sortK rfl) (by rfl) T.z_sorted (by decide +kernel) (pa_cons (pv 0) pa_nil))) (blkOk_by (own := [("key", 1)]) (N := ["value", "key", "part"]) (sc := (C8.fnScope sfixed)) (by decide +kernel)) (fun _ _ _ _ _ => pg_name (i := 1) nd rfl (Or.inl rfl)) (fun _ _ _ _ _ => pts_nil) (fun _ _ _ _ _ => (pe_tup (pa_cons (pv 1) (pa_cons (C8.pe_c G_fixed hr (by omega) (by rfl) (pa_cons (pe_dget hu (pv 0) (pv 1) (fun _ _ => rfl)) pa_nil)) pa_nil))))) pa_nil)))) pss_nil)
      (pss_cons (ps_if (pt_val (pe_callB call_isiA (by rfl) T.z_isinstance (by decide +kernel) (pa_cons (pv 0) (pa_cons (pe_tup (pa_cons (pe_bltn (v := .ty "list") (u := .type "list") (by rfl) T.z_list (by decide +kernel) rfl) (pa_cons (pe_bltn (v := .ty "tuple") (u := .type "tuple") (by rfl) T.z_tuple (by decide +kernel) rfl) pa_nil))) pa_nil)))) (pss_one (ps_ret (pe_callTy call_tuple_of (by rfl) T.z_tuple (by decide +kernel) (pa_cons (pe_lc (own := [("part", 2)]) (g := gName 2) rfl nd (pi_seqA (pv 0)) (blkOk_by (own := [("part", 2)]) (N := ["value", "key", "part"]) (sc := (C8.fnScope sfixed)) (by decide +kernel)) (fun _ _ _ _ _ => pg_name (i := 2) nd rfl (Or.inl rfl)) (fun _ _ _ _ _ => pts_nil) (fun _ _ _ _ _ => (C8.pe_c G_fixed hr (by omega) (by rfl) (pa_cons (pv 2) pa_nil)))) pa_nil)))) pss_nil)
      (pss_one (ps_ret (pv 0))))), ?_⟩
    refine ⟨v, rfl, .inl ⟨v, .ty "dict", .type (tyD d), .type "dict", tyD d == "dict", rfl, .ty _, tyX hd, kit_dict d, _, rfl, ite2 (fun e => ?_) (fun e => ?_)⟩⟩
    · cases hd with
      | @dk a kvs ds ha hkv =>
        cases n with
        | zero => exact (show False from hs).elim
        | succ m =>
          obtain ⟨l3, ko, sh⟩ := sh_dict hs
          have ko2 : KO (kvs.map fun p => kd p.1) := by rw [← hkv.keys]; exact ko
          have l3' : kvs.length ≤ 3 := by rw [hkv.len]; exact l3
          refine ⟨.ref a, rfl, a, kvs, rfl, ha, ko2, by omega, fun ks p hp hps np => ?_⟩
          obtain ⟨l, hl⟩ := hkv.lks (ks := ks) fun k hk => hp.mem_iff.mp hk
          have hsrt := hl.srt hkv ko hp hps
          have hkl : ks.length ≤ 3 := by rw [hp.length_eq, List.length_map]; exact l3'
          have hll : l.length = ks.length := by
            have := congrArg List.length hl.keys
            rw [List.length_map, List.length_map] at this
            exact this
          have s1 : Same H (upd H p (.lst (ks.map kV))) := same_new np
          refine ⟨p, rfl, ⟨_, SqL.of upd_same⟩, fun D nD => ?_⟩
          have nDp : D ≠ p := (ne_of_none upd_same nD).symm
          refine lc_list (xs := ks.map kV) (fun i H' => Same (upd H p (.lst (ks.map kV))) H' ∧ ∃ ws, H' D = some (.lst ws) ∧ DqAll H' ws ((l.take i).map fun q => .tuple [q.1, fx m q.2]))
            ⟨same_new nD, [], upd_same, .nil⟩ (fun i H' _ hP => SqL.of (hP.1 _ _ upd_same)) (fun i x H1 hx hP => ?_) (fun H1 hP => ?_)
          · obtain ⟨h1, ws, h2, h3⟩ := hP
            rw [List.getElem?_map] at hx
            obtain ⟨k, hk, rfl⟩ := Option.map_eq_some_iff.mp hx
            obtain ⟨u, e, g1, g2, g3⟩ := hl.get hk
            have hi : i < ks.length := by
              rcases Nat.lt_or_ge i ks.length with z | z
              · exact z
              · rw [List.getElem?_eq_none z] at hk
                cases hk
            have sh2 : Sh m e := sh _ (hl.sub _ (List.mem_of_getElem? g2))
            refine ⟨rfl, lc_yes ⟨kV k, rfl, .ref a, rfl, kV k, rfl, a, u, rfl, ?_, u, e, rfl, g3.same (s1.trans h1), sh2, fun y H2 s2 hy => ⟨by show 2 ≤ sizeLine; decide, fun t nt => ?_⟩⟩⟩
            · rw [← g1]
              exact DGet.k (h1 _ _ (s1 _ _ ha))
            · refine ⟨ws, ?_, ?_, ?_, ?_⟩
              · exact same_new nt _ _ (s2 _ _ h2)
              · have := h3.len
                rw [List.length_map, List.length_take] at this
                exact small1000 (by omega)
              · intro b o e2
                rw [upd_ne (ne_of_none e2 nD)]
                exact same_new nt _ _ (s2 _ _ (h1 _ _ e2))
              · refine ⟨ws ++ [.ref t], upd_same, ?_⟩
                have sD : Tups H1 (upd (upd H2 t (.tup [kV k, y])) D (.lst (ws ++ [.ref t]))) := (Tups.of (s2.trans (same_new nt))).upd fun zs ez => by
                  have z1 := same_new nt (o := .tup [kV k, y]) _ _ (s2 _ _ h2)
                  rw [z1] at ez
                  cases ez
                have hT : ∀ z ∈ (l.take i).map (fun q => PyData.tuple [q.1, fx m q.2]), Tp (2 * m + 1) z := fun z hz => by
                  obtain ⟨q2, hq2, rfl⟩ := List.mem_map.mp hz
                  have m2 := hl.sub _ (List.mem_of_mem_take hq2)
                  exact tp_pair (ko.leaf (List.mem_map_of_mem m2)) (sh _ m2)
                rw [← take_next (f := fun q : PyData × PyData => PyData.tuple [q.1, fx m q.2]) g2]
                refine (h3.tups sD hT).snoc (.tup (xs := [kV k, y]) ?_ (.cons (dq_key k) (.cons ?_ .nil)))
                · rw [upd_ne (ne_of_none (s2 _ _ h2) nt).symm]
                  exact upd_same
                · refine hy.tups ((Tups.of (same_new nt)).upd fun zs ez => ?_) (fx_sh sh2)
                  have z1 := same_new nt (o := .tup [kV k, y]) _ _ (s2 _ _ h2)
                  rw [z1] at ez
                  cases ez
          · obtain ⟨h1, ws, h2, h3⟩ := hP
            have e1 : (ks.map kV).length = l.length := by rw [List.length_map, hll]
            rw [e1, List.take_length] at h3
            refine ⟨D, ws, rfl, .inl ⟨SqL.of h2, fun t nt => q _ _ (s1.trans (h1.trans (same_new nt))) (.tup upd_same ?_)⟩⟩
            rw [hsrt]
            exact h3.same (same_new nt)
      | _ => exact absurd e (by simp [tyD])
    · have e0 : tyD d ≠ "dict" := fun z => e (by rw [z]; rfl)
      refine ⟨v, rfl, by show 2 ≤ sizeLine; decide, fun p np => ?_⟩
      refine .inr ⟨v, p, [.ty "list", .ty "tuple"], .type (tyD d), [.type "list", .type "tuple"], _, rfl, upd_same, .cons (.ty _) (.cons (.ty _) .nil), tyX (hd.same (same_new np)), kit_any d, _, rfl, ite2 (fun e1 => ?_) (fun e1 => ?_)⟩
      · cases hd with
        | @lst a xs es ha hxs =>
          cases n with
          | zero => exact (show False from hs).elim
          | succ m =>
          obtain ⟨l3, sh⟩ := sh_list hs
          have ha0 := ha
          have l3x : xs.length ≤ 3 := by rw [hxs.len]; exact l3
          have hq2 : ∀ (u : V) (H' : Hp), Same H H' → Dq H' u (.tuple (es.map (fx m))) → Q u H' := q
          refine ⟨.ref a, rfl, a, rfl, .inl ⟨⟨_, SqL.of (same_new np _ _ ha)⟩, fun D nD => lc_it (walk_list (xs := xs)) (fun i H' => Same (upd H p (.tup [.ty "list", .ty "tuple"])) H' ∧ ∃ ws, H' D = some (.lst ws) ∧ DqAll H' ws ((es.take i).map (fx m)))
            ⟨same_new nD, [], upd_same, .nil⟩ (fun i H' _ hP => SqL.of (hP.1 _ _ (same_new np _ _ ha0))) (fun i x H1 H2 hi hP hy => ?_) (fun H1 hP => ?_)⟩⟩
          · obtain ⟨h1, ws, h2, h3⟩ := hP
            obtain ⟨rfl, hx⟩ := hy
            obtain ⟨e, he, g3⟩ := hxs.get hx
            have sh2 : Sh m e := sh _ (List.mem_of_getElem? he)
            refine ⟨rfl, lc_yes ⟨x, rfl, x, e, rfl, g3.same ((same_new np).trans h1), sh2, fun y H3 s2 hy => ⟨ws, s2 _ _ h2, ?_, ?_, ws ++ [y], upd_same, ?_⟩⟩⟩
            · have := h3.len
              rw [List.length_map, List.length_take] at this
              exact small1000 (by omega)
            · intro b o e2
              rw [upd_ne (ne_of_none e2 nD)]
              exact s2 _ _ (h1 _ _ e2)
            · have sD : Tups H3 (upd H3 D (.lst (ws ++ [y]))) := (Tups.of (fun _ _ z => z)).upd fun zs ez => by
                have z1 := s2 _ _ h2
                rw [z1] at ez
                cases ez
              have hT : ∀ z ∈ (es.take i).map (fx m), Tp (2 * m) z := fun z hz => by
                obtain ⟨q2, hq2, rfl⟩ := List.mem_map.mp hz
                exact fx_sh (sh _ (List.mem_of_mem_take hq2))
              exact all_snoc ((h3.same s2).tups sD hT) he (hy.tups sD (fx_sh sh2))
          · obtain ⟨h1, ws, h2, h3⟩ := hP
            rw [hxs.len, List.take_length] at h3
            exact ⟨D, ws, rfl, .inl ⟨SqL.of h2, fun t nt => hq2 _ _ ((same_new np).trans (h1.trans (same_new nt))) (.tup upd_same (h3.same (same_new nt)))⟩⟩
        | @tup a xs es ha hxs =>
          cases n with
          | zero => exact (show False from hs).elim
          | succ m =>
          obtain ⟨l3, sh⟩ := sh_tup hs
          have ha0 := ha
          have l3x : xs.length ≤ 3 := by rw [hxs.len]; exact l3
          have hq2 : ∀ (u : V) (H' : Hp), Same H H' → Dq H' u (.tuple (es.map (fx m))) → Q u H' := q
          refine ⟨.ref a, rfl, a, rfl, .inr ⟨⟨_, SqT.of (same_new np _ _ ha)⟩, fun D nD => lc_it (walk_tup (xs := xs)) (fun i H' => Same (upd H p (.tup [.ty "list", .ty "tuple"])) H' ∧ ∃ ws, H' D = some (.lst ws) ∧ DqAll H' ws ((es.take i).map (fx m)))
            ⟨same_new nD, [], upd_same, .nil⟩ (fun i H' _ hP => SqT.of (hP.1 _ _ (same_new np _ _ ha0))) (fun i x H1 H2 hi hP hy => ?_) (fun H1 hP => ?_)⟩⟩
          · obtain ⟨h1, ws, h2, h3⟩ := hP
            obtain ⟨rfl, hx⟩ := hy
            obtain ⟨e, he, g3⟩ := hxs.get hx
            have sh2 : Sh m e := sh _ (List.mem_of_getElem? he)
            refine ⟨rfl, lc_yes ⟨x, rfl, x, e, rfl, g3.same ((same_new np).trans h1), sh2, fun y H3 s2 hy => ⟨ws, s2 _ _ h2, ?_, ?_, ws ++ [y], upd_same, ?_⟩⟩⟩
            · have := h3.len
              rw [List.length_map, List.length_take] at this
              exact small1000 (by omega)
            · intro b o e2
              rw [upd_ne (ne_of_none e2 nD)]
              exact s2 _ _ (h1 _ _ e2)
            · have sD : Tups H3 (upd H3 D (.lst (ws ++ [y]))) := (Tups.of (fun _ _ z => z)).upd fun zs ez => by
                have z1 := s2 _ _ h2
                rw [z1] at ez
                cases ez
              have hT : ∀ z ∈ (es.take i).map (fx m), Tp (2 * m) z := fun z hz => by
                obtain ⟨q2, hq2, rfl⟩ := List.mem_map.mp hz
                exact fx_sh (sh _ (List.mem_of_mem_take hq2))
              exact all_snoc ((h3.same s2).tups sD hT) he (hy.tups sD (fx_sh sh2))
          · obtain ⟨h1, ws, h2, h3⟩ := hP
            rw [hxs.len, List.take_length] at h3
            exact ⟨D, ws, rfl, .inl ⟨SqL.of h2, fun t nt => hq2 _ _ ((same_new np).trans (h1.trans (same_new nt))) (.tup upd_same (h3.same (same_new nt)))⟩⟩
        | _ => exact absurd e1 (by simp [tyD])
      · have e2 : tyD d ≠ "list" := fun z => e1 (by rw [z]; rfl)
        have e3 : tyD d ≠ "tuple" := fun z => e1 (by rw [z]; rfl)
        refine ⟨v, rfl, q v _ (same_new np) ?_⟩
        rw [fx_other e0 e2 e3]
        exact hd.same (same_new np)
theorem oks_fixed (T : Txt K mg) : ∀ n, C8.Cal P w K mg base n "fixed" (spF n) []
  | 0 => by
    obtain ⟨f, fd, F, b⟩ := T.d_fixed
    exact ⟨f, fd, _, _, fnF, F.mgf, F.kp, b, .nil⟩
  | n + 1 => ok_fixed T n (oks_fixed T n)
end
end K02

set_option Elab.async false
set_option linter.all false
set_option maxRecDepth 100000
set_option maxHeartbeats 2000000
namespace K02
open PySem PySem.Spec PyProof.Rows L2 Gd
section
variable {P : Program} {w : World} {K : PySem.W.Frag} {mg : Str → Option Value} {base : Heap}
theorem cutV_take (xs : List V) (j : Nat) : cutV xs none (some (j : Int)) = xs.take j := by
  unfold cutV
  rw [HT.sIx_none, show HT.sIx xs.length xs.length (some (j : Int)) = min j xs.length from HT.sIx_nat _ _ j, List.drop_zero, Nat.sub_zero]
  by_cases h : j ≤ xs.length
  · rw [Nat.min_eq_left h]
  · rw [Nat.min_eq_right (by omega), List.take_of_length_le (Nat.le_refl _), List.take_of_length_le (by omega)]
theorem cutV_drop (xs : List V) (j : Nat) (h : j ≤ xs.length) : cutV xs (some (j : Int)) none = xs.drop j := by
  unfold cutV
  rw [HT.sIx_none, show HT.sIx xs.length 0 (some (j : Int)) = min j xs.length from HT.sIx_nat _ _ j, Nat.min_eq_left h]
  exact List.take_of_length_le (by rw [List.length_drop] <;> omega)
theorem DqAll.takes {H : Hp} : ∀ {vs : List V} {ds : List PyData} (j : Nat), DqAll H vs ds → DqAll H (vs.take j) (ds.take j)
  | _, _, 0, h => by
    rw [List.take_zero, List.take_zero]
    exact .nil
  | _, _, _ + 1, .nil => .nil
  | _, _, j + 1, .cons a b => .cons a (DqAll.takes j b)
theorem DqAll.drops {H : Hp} : ∀ {vs : List V} {ds : List PyData} (j : Nat), DqAll H vs ds → DqAll H (vs.drop j) (ds.drop j)
  | _, _, 0, h => h
  | _, _, _ + 1, .nil => .nil
  | _, _, j + 1, .cons a b => DqAll.drops j b
theorem ltA_k {k' k : Key} {H : Hp} {Q : VK} (kin : Kin (kd k') (kd k)) (q : Q (.bl (kl (kd k') (kd k))) H) : rLtA (kV k') (kV k) H Q := by
  cases k' <;> cases k <;> first | exact kin.elim | skip
  · exact .inl ⟨_, _, rfl, rfl, q⟩
  · exact .inr ⟨_, _, rfl, rfl, q⟩
theorem ok_law_fixed (T : Txt K mg) (n : Nat) (G__law_fixed : Gd.Cal P w K mg base n "_law_fixed" (spF n)) : Gd.Cal P w K mg base (n + 1) "_law_fixed" (spFix n) := by
  obtain ⟨f, fd, F, b⟩ := T.d_law_fixed
  refine cal F b sc_law_fixed (fun vs H Q E h => ?_) (fun cdv A outer s H vs Q E hgd hr h => ?_)
  · obtain ⟨v, d, rfl, _⟩ := h
    rfl
  · have nd := sc_law_fixed.nd
    have hu := hu_of hr
    obtain ⟨v, d, rfl, hd, hs, q⟩ := h
    refine ⟨_, (pss_cons (ps_if (pt_val (pe_callB call_isiA (by rfl) T.z_isinstance (by decide +kernel) (pa_cons (pv 0) (pa_cons (pe_bltn (v := .ty "dict") (u := .type "dict") (by rfl) T.z_dict (by decide +kernel) rfl) pa_nil)))) (pss_cons (ps_set (i := 1) nd rfl (.inl rfl) (pe_lstX pa_nil))
      (pss_cons (ps_lock (ps_for PassesOwn.never rfl (pi_keys (pv 0)) (pg_name (i := 2) nd rfl (Or.inl rfl)) (pss_cons (ps_set (i := 3) nd rfl (.inl rfl) pe_int)
      (C8.pss_cut (ps_while PassesOwn.never (PW.pt (pw_and (pt_cmpR op_lt (pv 3) (pe_callB call_len (by rfl) T.z_len PySem.boot_len (pa_cons (pv 1) pa_nil)) (nomark _)) (pw_and1 (pt_cmpR op_ltA (pe_ix ix_tup (pe_ix ix_list (pv 1) (pv 3) (fun _ _ => rfl)) pe_int (fun _ _ => rfl)) (pv 2) (nomark _))))) (pss_one (ps_set (i := 3) nd rfl (.inl rfl) (pe_op op_add (pv 3) pe_int))))
      (pss_one (ps_set (i := 1) nd rfl (.inl rfl) (pe_op op_cat (pe_op op_cat (pe_slice sl_list (pv 1) po_none (po_some (pv 3))) (pe_lstX (pa_cons (pe_tup (pa_cons (pv 2) (pa_cons (pc G__law_fixed hgd hr (by omega) (by rfl) (pa_cons (pe_dget hu (pv 0) (pv 2) (fun _ _ => rfl)) pa_nil)) pa_nil))) pa_nil))) (pe_slice sl_list (pv 1) (po_some (pv 3)) po_none))))))))
      (pss_one (ps_ret (pe_callTy call_tuple_of (by rfl) T.z_tuple (by decide +kernel) (pa_cons (pv 1) pa_nil)))))) pss_nil)
      (pss_cons (ps_if (PW.pt (pw_or (pt_val (pe_callB call_isiA (by rfl) T.z_isinstance (by decide +kernel) (pa_cons (pv 0) (pa_cons (pe_bltn (v := .ty "list") (u := .type "list") (by rfl) T.z_list (by decide +kernel) rfl) pa_nil)))) (pw_or1 (pt_val (pe_callB call_isiA (by rfl) T.z_isinstance (by decide +kernel) (pa_cons (pv 0) (pa_cons (pe_bltn (v := .ty "tuple") (u := .type "tuple") (by rfl) T.z_tuple (by decide +kernel) rfl) pa_nil))))))) (pss_one (ps_ret (pe_callTy call_tuple_of (by rfl) T.z_tuple (by decide +kernel) (pa_cons (pe_lc (own := [("_law_part", 4)]) (g := gName 4) rfl nd (pi_seqA (pv 0)) (blkOk_by (own := [("_law_part", 4)]) (N := ["_law_value_here", "_law_pairs", "_law_key", "_law_at", "_law_part"]) (sc := (C8.fnScope s_law_fixed)) (by decide +kernel)) (fun _ _ _ _ _ => pg_name (i := 4) nd rfl (Or.inl rfl)) (fun _ _ _ _ _ => pts_nil) (fun _ _ _ _ _ => (pc G__law_fixed hgd hr (by omega) (by rfl) (pa_cons (pv 4) pa_nil)))) pa_nil)))) pss_nil)
      (pss_one (ps_ret (pv 0))))), ?_⟩
    refine ⟨v, rfl, .inl ⟨v, .ty "dict", .type (tyD d), .type "dict", tyD d == "dict", rfl, .ty _, tyX hd, kit_dict d, _, rfl, ite2 (fun e => ?_) (fun e => ?_)⟩⟩
    · cases hd with
      | @dk a kvs ds ha hkv =>
        cases n with
        | zero => exact (show False from hs).elim
        | succ m =>
          obtain ⟨l3, ko, sh⟩ := sh_dict hs
          have ko2 : KO (kvs.map fun p => kd p.1) := by rw [← hkv.keys]; exact ko
          have l3' : kvs.length ≤ 3 := by rw [hkv.len]; exact l3
          refine ⟨Nat.zero_le _, fun p np _ => ?_⟩
          have npa : a ≠ p := ne_of_none ha np
          have ha1 : upd H p (.lst []) a = some (.dK kvs) := (upd_ne npa).trans ha
          refine ⟨a, .dK kvs, ha1, trivial, fun od => ?_⟩
          have hkvl : DqKv (upd (upd H p (.lst [])) a (.frz od (.dK kvs))) kvs ds := (hkv.same (same_new np)).lock ha1
          obtain ⟨Hl, hHl⟩ : ∃ Hl, Hl = upd (upd H p (.lst [])) a (.frz od (.dK kvs)) := ⟨_, rfl⟩
          rw [← hHl]
          rw [← hHl] at hkvl
          have hla : Hl a = some (.frz od (.dK kvs)) := by rw [hHl]; exact upd_same
          have hlp : Hl p = some (.lst []) := by rw [hHl, upd_ne npa.symm]; exact upd_same
          refine ⟨.ref a, rfl, a, od, rfl, .inl ⟨kvs, hla, for_it (walk_keys (kvs := kvs)) (fun i σ' H' => ∃ (y2 y3 : Option V) (L : Addr) (xs : List V), σ' = [some (.ref a), some (.ref L), y2, y3, none] ∧ H' L = some (.lst xs) ∧ Same Hl H' ∧
            DqAll H' xs ((srt (ds.take i)).map fun q => .tuple [q.1, fx m q.2])) ⟨none, none, p, [], rfl, hlp, Same.refl _, .nil⟩ (fun i σ' H' _ hP => ?_) (fun i x σ' H1 H2 hi hP hY => ?_) (fun σ' H1 hP => ?_)⟩⟩
          · obtain ⟨_, _, _, _, _, _, h1, _⟩ := hP
            exact h1 _ _ hla
          · obtain ⟨y2, y3, L, xs, rfl, hL, h1, h3⟩ := hP
            obtain ⟨rfl, k, u, hk, rfl⟩ := hY
            obtain ⟨e, he, hue⟩ := hkvl.at hk
            have she : Sh m e := sh _ (List.mem_of_getElem? he)
            have hlen : xs.length = (srt (ds.take i)).length := by rw [h3.len, List.length_map]
            have hl3 : (srt (ds.take i)).length ≤ 3 := by
              rw [(srt_perm _).length_eq, List.length_take]
              omega
            obtain ⟨l, hll⟩ : ∃ l, l = srt (ds.take i) := ⟨_, rfl⟩
            rw [← hll] at h3 hlen hl3
            have hpos := pos_le (kd k, e) l
            have hlk : ∀ q ∈ l, q ∈ ds := fun q hq => by
              rw [hll] at hq
              exact List.mem_of_mem_take ((srt_perm _).mem_iff.mp hq)
            refine ⟨fun σ' H' => σ' = [some (.ref a), some (.ref L), some (kV k), some (.int (pos (kd k, e) l : Nat)), none] ∧ H' = H2, ?_, ?_⟩
            refine ⟨fun r σ' H' => ∃ j : Nat, σ' = [some (.ref a), some (.ref L), some (kV k), some (.int j), none] ∧ H' = H2 ∧ j ≤ pos (kd k, e) l ∧ r = pos (kd k, e) l - j, ⟨_, 0, rfl, rfl, Nat.zero_le _, rfl⟩, fun r σ' H' hW => ?_⟩
            obtain ⟨j, rfl, rfl, hj, rfl⟩ := hW
            refine ⟨.int j, rfl, .ref L, rfl, .ref L, xs.length, rfl, .inl ⟨xs, SqL.of hL, rfl⟩, j, xs.length, rfl, rfl, _, rfl, ite2 (fun t => ?_) (fun t => ?_)⟩
            · have tj : j < xs.length := by
                have := of_decide_eq_true t
                omega
              obtain ⟨z, hz⟩ : ∃ z, xs[j]? = some z := ⟨_, List.getElem?_eq_getElem tj⟩
              obtain ⟨dz, g1, g2⟩ := h3.get hz
              rw [List.getElem?_map] at g1
              obtain ⟨qq, g3, rfl⟩ := Option.map_eq_some_iff.mp g1
              have hin := hlk _ (List.mem_of_getElem? g3)
              obtain ⟨k', hk'⟩ : ∃ k', qq.1 = kd k' := by
                have : qq.1 ∈ ds.map (·.1) := List.mem_map_of_mem hin
                rw [hkv.keys] at this
                obtain ⟨z, _, e⟩ := List.mem_map.mp this
                exact ⟨_, e.symm⟩
              have kin : Kin (kd k') (kd k) := by
                rw [← hk']
                exact ko.kin (List.mem_map_of_mem hin) (List.mem_map_of_mem (List.mem_of_getElem? he))
              have pl := pos_lt (p := (kd k, e)) g3
              rw [hk'] at pl
              cases g2 with
              | @tup tt us _ ht hus =>
                obtain ⟨c0, us1, rfl, hc0, hus1⟩ := hus.inv
                rw [hk'] at hc0
                have hc : c0 = kV k' := by
                  cases k' <;> cases hc0 <;> rfl
                subst hc
                refine ⟨.ref L, rfl, .int j, rfl, L, xs, j, .ref tt, rfl, rfl, SqL.of hL, atI_nat hz, tt, _, 0, kV k', rfl, rfl, SqT.of ht, atI_nat (j := 0) rfl, kV k, rfl, ltA_k kin ⟨_, rfl, ite2 (fun t2 => ?_) (fun t2 => ?_)⟩⟩
                · have jl : j < pos (kd k, e) l := by
                    rcases Nat.lt_or_ge j (pos (kd k, e) l) with z | z
                    · exact z
                    · have := pl.2 (by omega)
                      rw [t2] at this
                      cases this
                  refine ⟨fun σ' G' => ∃ j' : Nat, σ' = [some (.ref a), some (.ref L), some (kV k), some (.int j'), none] ∧ G' = H' ∧ j' ≤ pos (kd k, e) l ∧ j' = j + 1, fun σ' G' hN => ?_, ?_⟩
                  · obtain ⟨j', rfl, rfl, h5, rfl⟩ := hN
                    exact ⟨_, by omega, j + 1, rfl, rfl, h5, rfl⟩
                  · exact ⟨.int j, rfl, j, 1, rfl, rfl, j + 1, rfl, rfl, by omega, rfl⟩
                · have jl : j = pos (kd k, e) l := by
                    rcases Nat.lt_or_ge j (pos (kd k, e) l) with z | z
                    · exact absurd (pl.1 z) t2
                    · omega
                  exact ⟨by rw [jl], rfl⟩
            · have tj : ¬ j < xs.length := fun z => t (decide_eq_true (by omega))
              refine iteF ?_
              have jl : j = pos (kd k, e) l := by omega
              exact ⟨by rw [jl], rfl⟩
            · rintro σ' H' ⟨rfl, rfl⟩
              obtain ⟨j, hj⟩ : ∃ j, j = pos (kd k, e) l := ⟨_, rfl⟩
              rw [← hj] at hpos ⊢
              have hjx : j ≤ xs.length := by omega
              have hfa : H' a = some (.frz od (.dK kvs)) := h1 _ _ hla
              refine ⟨.ref L, rfl, .int j, rfl, j, rfl, L, xs, rfl, SqL.of hL, fun p1 n1 => ?_⟩
              rw [cutV_take]
              have S1 := same_new n1 (o := .lst (xs.take j))
              refine ⟨kV k, rfl, .ref a, rfl, kV k, rfl, a, u, rfl, .inl ⟨kvs, k, .inr ⟨od, S1 _ _ hfa⟩, rfl, (valV_at (keys_nd ko2) hk).symm⟩, u, e, rfl, hue.same (h1.trans S1), she, fun y H3 s2 hy => ⟨by show 2 ≤ sizeLine; decide, fun t nt => ⟨by show 1 ≤ sizeLine; decide, fun p2 n2 _ => ?_⟩⟩⟩
              have S3 := same_new nt (o := .tup [kV k, y])
              have S4 := same_new n2 (o := .lst [.ref t])
              have hl1 : (xs.take j).length ≤ 1000 := by rw [List.length_take]; omega
              refine ⟨p1, p2, xs.take j, [.ref t], rfl, rfl, S4 _ _ (S3 _ _ (s2 _ _ upd_same)), upd_same, sm1000 (by show _ + 1 ≤ 1000; rw [List.length_take]; omega), fun p3 n3 => ?_⟩
              have S5 := same_new n3 (o := .lst (xs.take j ++ [.ref t]))
              have SS : Same H' (upd (upd (upd H3 t (.tup [kV k, y])) p2 (.lst [.ref t])) p3 (.lst (xs.take j ++ [.ref t]))) := S1.trans (s2.trans (S3.trans (S4.trans S5)))
              refine ⟨.ref L, rfl, .int j, rfl, j, rfl, L, xs, rfl, SqL.of (SS _ _ hL), fun p4 n4 => ?_⟩
              rw [cutV_drop _ _ hjx]
              have S6 := same_new n4 (o := .lst (xs.drop j))
              refine ⟨p3, p4, _, _, rfl, rfl, S6 _ _ upd_same, upd_same, sm1000 (by rw [List.length_append, List.length_take, List.length_drop]; show _ + 1 + _ ≤ 1000; omega), fun p5 n5 => ?_⟩
              have S7 := same_new n5 (o := .lst ((xs.take j ++ [.ref t]) ++ xs.drop j))
              have SA := SS.trans (S6.trans S7)
              refine ⟨_, _, p5, _, rfl, upd_same, h1.trans SA, ?_⟩
              rw [srt_step he, ← hll, insK_pos, ← hj, List.map_append, List.map_cons, List.map_take, List.map_drop]
              have ht : Dq (upd (upd (upd (upd (upd H3 t (.tup [kV k, y])) p2 (.lst [.ref t])) p3 (.lst (xs.take j ++ [.ref t]))) p4 (.lst (xs.drop j))) p5 (.lst ((xs.take j ++ [.ref t]) ++ xs.drop j))) (.ref t) (.tuple [kd k, fx m e]) := by
                have z := S4.trans (S5.trans (S6.trans S7))
                exact .tup (z _ _ upd_same) (.cons (dq_key k) (.cons (hy.same (S3.trans z)) .nil))
              have z := DqAll.append (.cons ht (DqAll.drops j (h3.same SA))) (DqAll.takes j (h3.same SA))
              rw [show xs.take j ++ V.ref t :: xs.drop j = (xs.take j ++ [V.ref t]) ++ xs.drop j by simp] at z
              exact z
          · obtain ⟨y2, y3, L, xs, rfl, hL, h1, h3⟩ := hP
            have hfa : H1 a = some (.frz od (.dK kvs)) := h1 _ _ hla
            refine ⟨hfa, ?_⟩
            have e1 : ds.take kvs.length = ds := by rw [hkv.len, List.take_length]
            rw [e1] at h3
            have hLa : L ≠ a := fun z => by
              rw [z, hfa] at hL
              cases hL
            refine ⟨.ref L, rfl, L, xs, rfl, .inl ⟨SqL.of ((upd_ne hLa).trans hL), fun t nt => q _ _ ?_ (.tup upd_same ?_)⟩⟩
            · intro b o e2
              rw [upd_ne (fun z => by
                have : upd H1 a (.dK kvs) b ≠ none := by
                  by_cases hb : b = a
                  · rw [hb, upd_same]; simp
                  · rw [upd_ne hb, h1 b o (by rw [hHl, upd_ne hb]; exact same_new np _ _ e2)]; simp
                exact this (by rw [z]; exact nt))]
              by_cases hb : b = a
              · subst hb
                rw [upd_same]
                rw [ha] at e2
                exact e2
              · rw [upd_ne hb]
                exact h1 b o (by rw [hHl, upd_ne hb]; exact same_new np _ _ e2)
            · have tu : Tups H1 (upd (upd H1 a (.dK kvs)) t (.tup xs)) := ((Tups.of (Same.refl H1)).upd (o := .dK kvs) fun zs ez => by rw [hfa] at ez; cases ez).trans (Tups.of (same_new nt))
              refine h3.tups tu (n := 2 * m + 1) fun z hz => ?_
              obtain ⟨q2, hq2, rfl⟩ := List.mem_map.mp hz
              have m2 := (srt_perm ds).mem_iff.mp hq2
              exact tp_pair (ko.leaf (List.mem_map_of_mem m2)) (sh _ m2)
      | _ => exact absurd e (by simp [tyD])
    · have e0 : tyD d ≠ "dict" := fun z => e (by rw [z]; rfl)
      refine ⟨v, rfl, .inl ⟨v, .ty "list", .type (tyD d), .type "list", _, rfl, .ty _, tyX hd, kit_list d, _, rfl, ite2 (fun e1 => ?_) (fun e1 => ?_)⟩⟩
      · cases hd with
        | @lst a xs es ha hxs =>
          cases n with
          | zero => exact (show False from hs).elim
          | succ m =>
          obtain ⟨l3, sh⟩ := sh_list hs
          have l3x : xs.length ≤ 3 := by rw [hxs.len]; exact l3
          have hq2 : ∀ (u : V) (H' : Hp), Same H H' → Dq H' u (.tuple (es.map (fx m))) → Q u H' := q
          refine ⟨.ref a, rfl, a, rfl, .inl ⟨⟨_, SqL.of ha⟩, fun D nD => lc_it (walk_list (xs := xs)) (fun i H' => Same H H' ∧ ∃ ws, H' D = some (.lst ws) ∧ DqAll H' ws ((es.take i).map (fx m)))
            ⟨same_new nD, [], upd_same, .nil⟩ (fun i H' _ hP => SqL.of (hP.1 _ _ ha)) (fun i x H1 H2 hi hP hy => ?_) (fun H1 hP => ?_)⟩⟩
          · obtain ⟨h1, ws, h2, h3⟩ := hP
            obtain ⟨rfl, hx⟩ := hy
            obtain ⟨e, he, g3⟩ := hxs.get hx
            have sh2 : Sh m e := sh _ (List.mem_of_getElem? he)
            refine ⟨rfl, lc_yes ⟨x, rfl, x, e, rfl, g3.same h1, sh2, fun y H3 s2 hy => ⟨ws, s2 _ _ h2, ?_, ?_, ws ++ [y], upd_same, ?_⟩⟩⟩
            · have := h3.len
              rw [List.length_map, List.length_take] at this
              exact small1000 (by omega)
            · intro b o e2
              rw [upd_ne (ne_of_none e2 nD)]
              exact s2 _ _ (h1 _ _ e2)
            · have sD : Tups H3 (upd H3 D (.lst (ws ++ [y]))) := (Tups.of (fun _ _ z => z)).upd fun zs ez => by
                have z1 := s2 _ _ h2
                rw [z1] at ez
                cases ez
              have hT : ∀ z ∈ (es.take i).map (fx m), Tp (2 * m) z := fun z hz => by
                obtain ⟨q2, hq2, rfl⟩ := List.mem_map.mp hz
                exact fx_sh (sh _ (List.mem_of_mem_take hq2))
              exact all_snoc ((h3.same s2).tups sD hT) he (hy.tups sD (fx_sh sh2))
          · obtain ⟨h1, ws, h2, h3⟩ := hP
            rw [hxs.len, List.take_length] at h3
            exact ⟨D, ws, rfl, .inl ⟨SqL.of h2, fun t nt => hq2 _ _ (h1.trans (same_new nt)) (.tup upd_same (h3.same (same_new nt)))⟩⟩
        | _ => exact absurd e1 (by simp [tyD])
      · refine ⟨v, rfl, .inl ⟨v, .ty "tuple", .type (tyD d), .type "tuple", _, rfl, .ty _, tyX hd, kit_tuple d, _, rfl, ite2 (fun e2 => ?_) (fun e2 => ?_)⟩⟩
        · cases hd with
          | @tup a xs es ha hxs =>
            cases n with
            | zero => exact (show False from hs).elim
            | succ m =>
            obtain ⟨l3, sh⟩ := sh_tup hs
            have l3x : xs.length ≤ 3 := by rw [hxs.len]; exact l3
            have hq2 : ∀ (u : V) (H' : Hp), Same H H' → Dq H' u (.tuple (es.map (fx m))) → Q u H' := q
            refine ⟨.ref a, rfl, a, rfl, .inr ⟨⟨_, SqT.of ha⟩, fun D nD => lc_it (walk_tup (xs := xs)) (fun i H' => Same H H' ∧ ∃ ws, H' D = some (.lst ws) ∧ DqAll H' ws ((es.take i).map (fx m)))
              ⟨same_new nD, [], upd_same, .nil⟩ (fun i H' _ hP => SqT.of (hP.1 _ _ ha)) (fun i x H1 H2 hi hP hy => ?_) (fun H1 hP => ?_)⟩⟩
            · obtain ⟨h1, ws, h2, h3⟩ := hP
              obtain ⟨rfl, hx⟩ := hy
              obtain ⟨e, he, g3⟩ := hxs.get hx
              have sh2 : Sh m e := sh _ (List.mem_of_getElem? he)
              refine ⟨rfl, lc_yes ⟨x, rfl, x, e, rfl, g3.same h1, sh2, fun y H3 s2 hy => ⟨ws, s2 _ _ h2, ?_, ?_, ws ++ [y], upd_same, ?_⟩⟩⟩
              · have := h3.len
                rw [List.length_map, List.length_take] at this
                exact small1000 (by omega)
              · intro b o e2
                rw [upd_ne (ne_of_none e2 nD)]
                exact s2 _ _ (h1 _ _ e2)
              · have sD : Tups H3 (upd H3 D (.lst (ws ++ [y]))) := (Tups.of (fun _ _ z => z)).upd fun zs ez => by
                  have z1 := s2 _ _ h2
                  rw [z1] at ez
                  cases ez
                have hT : ∀ z ∈ (es.take i).map (fx m), Tp (2 * m) z := fun z hz => by
                  obtain ⟨q2, hq2, rfl⟩ := List.mem_map.mp hz
                  exact fx_sh (sh _ (List.mem_of_mem_take hq2))
                exact all_snoc ((h3.same s2).tups sD hT) he (hy.tups sD (fx_sh sh2))
            · obtain ⟨h1, ws, h2, h3⟩ := hP
              rw [hxs.len, List.take_length] at h3
              exact ⟨D, ws, rfl, .inl ⟨SqL.of h2, fun t nt => hq2 _ _ (h1.trans (same_new nt)) (.tup upd_same (h3.same (same_new nt)))⟩⟩
          | _ => exact absurd e2 (by simp [tyD])
        · have e3 : tyD d ≠ "list" := fun z => e1 (by rw [z]; rfl)
          have e4 : tyD d ≠ "tuple" := fun z => e2 (by rw [z]; rfl)
          refine ⟨v, rfl, q v _ (Same.refl _) ?_⟩
          rw [fx_other e0 e3 e4]
          exact hd
theorem oks_law_fixed (T : Txt K mg) : ∀ n, Gd.Cal P w K mg base n "_law_fixed" (spF n)
  | 0 => by
    obtain ⟨f, fd, F, b⟩ := T.d_law_fixed
    exact ⟨f, fd, _, FnG.of fnF, F.mgf, F.kp, b⟩
  | n + 1 => ok_law_fixed T n (oks_law_fixed T n)
end
end K02

set_option Elab.async false
set_option linter.all false
set_option maxRecDepth 100000
set_option maxHeartbeats 1000000
namespace K02
open PySem PySem.Spec PyProof.Rows L2 Gd
/-- the law's well: the script's ints at a, how many were drawn, what is left of a great one -/
def Wl (ns : List Int) (w a : Addr) (N : Nat) (H : Hp) : Prop :=
  a ≠ w ∧ H a = some (.lst (ns.map V.int)) ∧ ns.length ≤ 63 ∧ ∃ t r : Nat, t ≤ N ∧ H w = some (.lst [.ref a, .int t, .int r])
/-- all that was tracked is as it was, but for w -/
def Kp (w : Addr) (H H' : Hp) : Prop := ∀ b o, b ≠ w → H b = some o → H' b = some o
def spDip : Sp := fun vs H Q _ => ∃ (w a : Addr) (ns : List Int) (N : Nat) (many : Int), vs = [.ref w, .int many] ∧ Wl ns w a N H ∧ N ≤ 1000000 ∧ 0 < many ∧ many < 2 ^ 250 ∧
  ∀ (v : Int) (H' : Hp), 0 ≤ v → v < many → Kp w H H' → Wl ns w a (N + 1) H' → Q (.int v) H'
section
variable {P : Program} {w : World} {K : PySem.W.Frag} {mg : Str → Option Value} {base : Heap}
theorem ok_dip (T : Txt K mg) : Cal P w K mg base 1 "_law_lift" spDip := by
  obtain ⟨f, fd, F, b⟩ := T.d_law_lift
  refine cal F b sc_law_lift (fun vs H Q E h => ?_) (fun cdv A outer s H vs Q E hgd hr h => ?_)
  · obtain ⟨w, a, ns, N, many, rfl, _⟩ := h
    rfl
  · have nd := sc_law_lift.nd
    obtain ⟨w, a, ns, N, many, rfl, ⟨haw, ha, hl, t, r, ht, hw⟩, hN, hm0, hm, q⟩ := h
    refine ⟨_, (pss_cons (ps_if (pt_cmpR op_gt (pe_ix ix_list (pv 0) pe_int (fun _ _ => rfl)) pe_int (nomark _)) (pss_cons (ps_set (i := 2) nd rfl (.inl rfl) (pe_ix ix_list (pv 0) pe_int (fun _ _ => rfl)))
      (pss_cons (ps_asg (pe_op op_fdivW (pe_callTy call_int1 (by rfl) T.z_int (by decide +kernel) (pa_cons (pv 2) pa_nil)) (pv 1)) (pg_sub (pv 0) pe_int set_list))
      (pss_one (ps_ret (pe_op op_mod (pe_callTy call_int1 (by rfl) T.z_int (by decide +kernel) (pa_cons (pv 2) pa_nil)) (pv 1)))))) pss_nil)
      (pss_cons (ps_set (i := 3) nd rfl (.inl rfl) (pe_ix ix_list (pv 0) pe_int (fun _ _ => rfl)))
      (pss_cons (ps_asg (pe_op op_add (pv 3) pe_int) (pg_sub (pv 0) pe_int set_list))
      (pss_cons (ps_set (i := 4) nd rfl (.inl rfl) (pe_op op_add (pe_op op_mulW pe_int (pv 3)) pe_int))
      (C8.pss_cut (ps_if (pt_cmpR (op_neD hr.units) (pe_ix ix_list (pv 0) pe_int (fun _ _ => rfl)) (pe_lstX pa_nil) (nomark _)) (pss_one (ps_set (i := 4) nd rfl (.inl rfl) (pe_ix ix_list (pe_ix ix_list (pv 0) pe_int (fun _ _ => rfl)) (pe_op op_mod (pe_callTy call_int1 (by rfl) T.z_int (by decide +kernel) (pa_cons (pv 3) pa_nil)) (pe_callB call_len (by rfl) T.z_len PySem.boot_len (pa_cons (pe_ix ix_list (pv 0) pe_int (fun _ _ => rfl)) pa_nil))) (fun _ _ => rfl)))) pss_nil)
      (C8.pss_cut (ps_if (PW.pt (pw_and (pt_cmpR op_lt (pv 3) (pe_callB call_len (by rfl) T.z_len PySem.boot_len (pa_cons (pe_ix ix_list (pv 0) pe_int (fun _ _ => rfl)) pa_nil)) (nomark _)) (pw_and1 (pt_cmpR op_ge (pe_callB call_abs (by rfl) T.z_abs (by decide +kernel) (pa_cons (pv 4) pa_nil)) (pe_op op_pow pe_int pe_int) (nomark _))))) (pss_cons (ps_set (i := 2) nd rfl (.inl rfl) (pe_op op_sub (pe_callB call_abs (by rfl) T.z_abs (by decide +kernel) (pa_cons (pv 4) pa_nil)) (pe_op op_pow pe_int pe_int)))
      (pss_cons (ps_asg (pe_op op_fdivW (pe_callTy call_int1 (by rfl) T.z_int (by decide +kernel) (pa_cons (pv 2) pa_nil)) (pv 1)) (pg_sub (pv 0) pe_int set_list))
      (pss_one (ps_ret (pe_op op_mod (pe_callTy call_int1 (by rfl) T.z_int (by decide +kernel) (pa_cons (pv 2) pa_nil)) (pv 1)))))) pss_nil)
      (pss_cons (ps_set (i := 5) nd rfl (.inl rfl) (pe_op op_mod (pe_callTy call_int1 (by rfl) T.z_int (by decide +kernel) (pa_cons (pe_op op_pow (pe_op op_add (pe_op op_add (pe_op op_mod (pe_callTy call_int1 (by rfl) T.z_int (by decide +kernel) (pa_cons (pv 4) pa_nil)) pe_int) (pe_op op_mulW pe_int (pv 3))) pe_int) pe_int) pa_nil)) pe_int))
      (pss_cons (ps_set (i := 5) nd rfl (.inl rfl) (pe_op op_mod (pe_callTy call_int1 (by rfl) T.z_int (by decide +kernel) (pa_cons (pe_op op_pow (pe_op op_add (pe_op op_add (pe_op op_mulW (pv 5) (pe_op op_add (pe_op op_mulW pe_int (pv 3)) pe_int)) (pe_op op_mulW (pe_op op_mulW pe_int (pv 3)) (pv 3))) pe_int) pe_int) pa_nil)) pe_int))
      (pss_one (ps_ret (pe_op op_mod (pe_callTy call_int1 (by rfl) T.z_int (by decide +kernel) (pa_cons (pe_op op_fdivW (pv 5) pe_int) pa_nil)) (pv 1)))))))))))), ?_⟩
    have hb : many.natAbs < 2 ^ 250 := by omega
    have hd : CDivW (0 : Int) many := wide_div hm0 hb (by decide) (by decide)
    refine ⟨.ref w, rfl, w, _, 2, .int r, rfl, rfl, SqL.of hw, rfl, r, 0, rfl, rfl, _, rfl, ite2 (fun e => ?_) (fun e => ?_)⟩
    · refine ⟨.ref w, rfl, w, _, 2, .int r, rfl, rfl, SqL.of hw, rfl, ?_⟩
      refine ⟨.int r, rfl, .inl ⟨r, rfl, .int many, rfl, r, many, rfl, rfl, hd, .ref w, rfl, w, _, 2, 2, rfl, rfl, hw, rfl, ?_⟩⟩
      refine ⟨.int r, rfl, .inl ⟨r, rfl, .int many, rfl, r, many, rfl, rfl, hm0, ?_⟩⟩
      refine q _ _ (Int.emod_nonneg _ (by omega)) (Int.emod_lt_of_pos _ hm0) (fun b o e1 e2 => ?_) ⟨haw, ?_, hl, t, (r / many).toNat, by omega, ?_⟩
      · rw [upd_ne e1]
        exact e2
      · rw [upd_ne haw]
        exact ha
      · rw [upd_same, Int.toNat_of_nonneg (Int.ediv_nonneg (by omega) (by omega))]
        rfl
    · refine ⟨.ref w, rfl, w, _, 1, .int t, rfl, rfl, SqL.of hw, rfl, ?_⟩
      refine ⟨.int t, rfl, t, 1, rfl, rfl, .ref w, rfl, w, _, 1, 1, rfl, rfl, hw, rfl, ?_⟩
      refine ⟨.int t, rfl, 28279, t, rfl, rfl, wide_mul (a := 20) (b := 30) (by decide) (by omega) (by decide) (by decide) (by decide), _, _, rfl, rfl, ?_⟩
      -- the list with the next turn; an empty list beside it
      have hw1 : ∀ o, upd H w o w = some o := fun o => upd_same
      have ha1 : ∀ o, upd H w o a = some (.lst (ns.map V.int)) := fun o => (upd_ne haw).trans ha
      refine ⟨fun σ' H' => ∃ c : Int, σ' = [some (.ref w), some (.int many), none, some (.int t), some (.int c), none] ∧ Kp w H H' ∧ H' a = some (.lst (ns.map V.int)) ∧
        H' w = some (.lst [.ref a, .int (t + 1 : Nat), .int r]), ?_, ?_⟩
      · refine ⟨.ref w, rfl, w, _, 0, .ref a, rfl, rfl, SqL.of (hw1 _), rfl, Nat.zero_le _, fun p np _ => ?_⟩
        have npw : p ≠ w := fun z => by
          rw [z, upd_same] at np
          cases np
        have npa : p ≠ a := fun z => by
          rw [z, ha1] at np
          cases np
        have kp : Kp w H (upd (upd H w (.lst ([.ref a, .int t, .int r].set 1 (.int (t + 1))))) p (.lst [])) := fun b o e1 e2 => by
          have nb : b ≠ p := fun z => by
            rw [← z, upd_ne e1, e2] at np
            cases np
          rw [upd_ne nb, upd_ne e1]
          exact e2
        have ha2 := (upd_ne npa.symm (H := upd H w (.lst ([.ref a, .int t, .int r].set 1 (.int (t + 1))))) (o := .lst [])).trans (ha1 _)
        have hw2 := (upd_ne npw.symm (H := upd H w (.lst ([.ref a, .int t, .int r].set 1 (.int (t + 1))))) (o := .lst [])).trans (hw1 _)
        refine ⟨.list (ns.map PyData.int), .list [], .lst (SqL.of ha2) (dp_ints ns), .lst (SqL.of upd_same) .nil, shaped_ints ns, rfl, _, rfl, ?_⟩
        rw [eqv_ints_nil]
        refine ite2 (fun e => ?_) (fun e => ?_)
        · have hne : 0 < ns.length := by
            cases ns with
            | nil => cases e
            | cons x l => exact Nat.succ_pos _
          have hi : t % ns.length < ns.length := Nat.mod_lt _ hne
          refine ⟨.ref w, rfl, w, _, 0, .ref a, rfl, rfl, SqL.of hw2, rfl, ?_⟩
          refine ⟨.int t, rfl, .inl ⟨t, rfl, ?_⟩⟩
          refine ⟨.ref w, rfl, w, _, 0, .ref a, rfl, rfl, SqL.of hw2, rfl, .ref a, ns.length, rfl, .inl ⟨_, SqL.of ha2, by rw [List.length_map]⟩, ?_⟩
          refine ⟨t, ns.length, rfl, rfl, by omega, ?_⟩
          refine ⟨a, _, ((t % ns.length : Nat) : Int), .int ns[t % ns.length], rfl, rfl, SqL.of ha2, atI_nat ?_, ?_⟩
          · rw [List.getElem?_map, List.getElem?_eq_getElem hi]
            rfl
          · exact ⟨_, rfl, kp, ha2, hw2⟩
        · exact ⟨_, rfl, kp, ha2, hw2⟩
      · rintro σ1 H1 ⟨c, rfl, kp, ha1, hw1⟩
        have fin : ∀ v : Int, 0 ≤ v → v < many → ∀ r' : Nat, ∀ H', H' a = some (.lst (ns.map V.int)) → H' w = some (.lst [.ref a, .int (t + 1 : Nat), .int r']) → Kp w H H' → Q (.int v) H' :=
          fun v h1 h2 r' H' h3 h4 h5 => q v H' h1 h2 h5 ⟨haw, h3, hl, t + 1, r', by omega, h4⟩
        have pw : CPow 10 18 := ⟨by decide, by decide, by decide⟩
        refine ⟨fun σ' H' => ∃ c : Int, σ' = [some (.ref w), some (.int many), none, some (.int t), some (.int c), none] ∧ Kp w H H' ∧ H' a = some (.lst (ns.map V.int)) ∧
          H' w = some (.lst [.ref a, .int (t + 1 : Nat), .int r]), ?_, ?_⟩
        · refine ⟨.int t, rfl, .ref w, rfl, w, _, 0, .ref a, rfl, rfl, SqL.of hw1, rfl, .ref a, ns.length, rfl, .inl ⟨_, SqL.of ha1, by rw [List.length_map]⟩, ?_⟩
          refine ⟨t, ns.length, rfl, rfl, _, rfl, ite2 (fun e1 => ?_) (fun e1 => iteF ⟨c, rfl, kp, ha1, hw1⟩)⟩
          refine ⟨.int c, rfl, c, rfl, 10, 18, rfl, rfl, pw, _, _, rfl, rfl, _, rfl, ite2 (fun e2 => ?_) (fun e2 => ⟨c, rfl, kp, ha1, hw1⟩)⟩
          have e3 : (10 : Int) ^ (18 : Int).toNat ≤ (if c < 0 then -c else c) := of_decide_eq_true e2
          refine ⟨.int c, rfl, c, rfl, 10, 18, rfl, rfl, pw, _, _, rfl, rfl, ?_⟩
          refine ⟨.int _, rfl, .inl ⟨_, rfl, .int many, rfl, _, many, rfl, rfl, hd, .ref w, rfl, w, _, 2, 2, rfl, rfl, hw1, rfl, ?_⟩⟩
          refine ⟨.int _, rfl, .inl ⟨_, rfl, .int many, rfl, _, many, rfl, rfl, hm0, ?_⟩⟩
          generalize hR : (if c < 0 then -c else c) - 10 ^ (18 : Int).toNat = R
          have hR0 : 0 ≤ R := by omega
          refine fin _ (Int.emod_nonneg _ (by omega)) (Int.emod_lt_of_pos _ hm0) (R / many).toNat _ ?_ ?_ (fun b o z1 z2 => ?_)
          · rw [upd_ne haw]
            exact ha1
          · rw [upd_same, Int.toNat_of_nonneg (Int.ediv_nonneg hR0 (by omega)), ← hR]
            rfl
          · rw [upd_ne z1]
            exact kp b o z1 z2
        · rintro σ2 H2 ⟨c, rfl, kp, ha2, hw2⟩
          have c1 : 0 ≤ c % 2147483543 := Int.emod_nonneg _ (by decide)
          have c2 : c % 2147483543 < 2147483543 := Int.emod_lt_of_pos _ (by decide)
          refine ⟨.int c, rfl, .inl ⟨c, rfl, c, 2147483543, rfl, rfl, (show (0 : Int) < 2147483543 by decide), .int t, rfl, 61027, t, rfl, rfl, wide_mul (a := 20) (b := 30) (by decide) (by omega) (by decide) (by decide) (by decide), _, _, rfl, rfl, _, _, rfl, rfl, _, _, rfl, rfl,
            ⟨by decide, by decide, by omega⟩, .inl ⟨_, rfl, _, _, rfl, rfl, (show (0 : Int) < 2147483647 by decide), ?_⟩⟩⟩
          obtain ⟨m1, hm1⟩ : ∃ m1 : Int, m1 = (c % 2147483543 + 61027 * (t : Int) + 641) ^ (5 : Int).toNat % 2147483647 := ⟨_, rfl⟩
          have m10 : 0 ≤ m1 := hm1.symm ▸ Int.emod_nonneg _ (by decide)
          have m11 : m1 < 2147483647 := hm1.symm ▸ Int.emod_lt_of_pos _ (by decide)
          have t0 : (0 : Int) ≤ t := by omega
          have t1 : (t : Int) ≤ 1000000 := by omega
          have p1 : 0 ≤ m1 * (2 * (t : Int) + 1301) := Int.mul_nonneg m10 (by omega)
          have p2 : m1 * (2 * (t : Int) + 1301) ≤ 2147483647 * 2010000 := Int.mul_le_mul (by omega) (by omega) (by omega) (by omega)
          have p3 : 0 ≤ 28279 * (t : Int) * t := Int.mul_nonneg (by omega) t0
          have p4 : 28279 * (t : Int) * t ≤ 28279 * 1000000 * 1000000 := Int.mul_le_mul (by omega) t1 t0 (by omega)
          refine ⟨.int m1, by rw [hm1]; rfl, .int t, rfl, 2, t, rfl, rfl, wide_mul (a := 20) (b := 30) (by decide) (by omega) (by decide) (by decide) (by decide), _, _, rfl, rfl, m1, _, rfl, rfl,
            wide_mul (a := 40) (b := 40) (by omega) (by omega) (by decide) (by decide) (by decide), .int t, rfl, 28279, t, rfl, rfl, wide_mul (a := 20) (b := 30) (by decide) (by omega) (by decide) (by decide) (by decide),
            .int t, rfl, _, t, rfl, rfl, wide_mul (a := 60) (b := 30) (by omega) (by omega) (by decide) (by decide) (by decide), _, _, rfl, rfl, _, _, rfl, rfl, _, _, rfl, rfl,
            ⟨by decide, by decide, by omega⟩, .inl ⟨_, rfl, _, _, rfl, rfl, (show (0 : Int) < 2147483563 by decide), ?_⟩⟩
          refine ⟨.int _, rfl, _, 64, rfl, rfl, wide_div (b := 10) (by decide) (by decide) (by decide) (by decide), .inl ⟨_, rfl, .int many, rfl, _, many, rfl, rfl, hm0, ?_⟩⟩
          exact fin _ (Int.emod_nonneg _ (by omega)) (Int.emod_lt_of_pos _ hm0) r _ ha2 hw2 kp
end
end K02

set_option Elab.async false
set_option linter.all false
set_option maxRecDepth 100000
set_option maxHeartbeats 1000000
namespace K02
open PySem PySem.Spec PyProof.Rows L2 Gd
theorem Wl.mono {ns : List Int} {w a : Addr} {N M : Nat} {H : Hp} (h : Wl ns w a N H) (hN : N ≤ M) : Wl ns w a M H := by
  obtain ⟨h1, h2, h3, t, r, h4, h5⟩ := h
  exact ⟨h1, h2, h3, t, r, by omega, h5⟩
theorem Wl.same {ns : List Int} {w a : Addr} {N : Nat} {H H' : Hp} (h : Wl ns w a N H) (s : Same H H') : Wl ns w a N H' := by
  obtain ⟨h1, h2, h3, t, r, h4, h5⟩ := h
  exact ⟨h1, s _ _ h2, h3, t, r, h4, s _ _ h5⟩
theorem Wl.at_w {ns : List Int} {w a : Addr} {N : Nat} {H : Hp} (h : Wl ns w a N H) : ∃ o, H w = some o := by
  obtain ⟨h1, h2, h3, t, r, h4, h5⟩ := h
  exact ⟨_, h5⟩
theorem Kp.same {w : Addr} {H H' : Hp} (s : Same H H') : Kp w H H' := fun b o _ e => s b o e
theorem Kp.refl (w : Addr) (H : Hp) : Kp w H H := fun _ _ _ e => e
theorem Kp.trans {w : Addr} {H H1 H2 : Hp} (x : Kp w H H1) (y : Kp w H1 H2) : Kp w H H2 := fun b o n e => y b o n (x b o n e)
theorem Kp.new {w : Addr} {H H' : Hp} {p : Addr} {o : HO} (x : Kp w H H') (h : H' p = none) : Kp w H (upd H' p o) := x.trans (Kp.same (same_new h))
/-- a list at D, new since H, is written -/
theorem Kp.grow {w : Addr} {H H' : Hp} {D : Addr} {o : HO} (h : H D = none) (s : Kp w H H') : Kp w H (upd H' D o) := fun b x n e => by
  rw [upd_ne (ne_of_none e h)]
  exact s b x n e
theorem Wl.grow {ns : List Int} {w a : Addr} {N : Nat} {H : Hp} {D : Addr} {o : HO} (h : Wl ns w a N H) (hw : D ≠ w) (ha : D ≠ a) : Wl ns w a N (upd H D o) := by
  obtain ⟨h1, h2, h3, t, r, h4, h5⟩ := h
  exact ⟨h1, by rw [upd_ne ha.symm]; exact h2, h3, t, r, h4, by rw [upd_ne hw.symm]; exact h5⟩
/-- a place where nothing is tracked is neither the well nor its list -/
theorem Wl.off {ns : List Int} {w a : Addr} {N : Nat} {H : Hp} {p : Addr} (h : Wl ns w a N H) (n : H p = none) : p ≠ w ∧ p ≠ a := by
  obtain ⟨h1, h2, h3, t, r, h4, h5⟩ := h
  exact ⟨(ne_of_none h5 n).symm, (ne_of_none h2 n).symm⟩
def spWell (K : PySem.W.Frag) : Sp := fun vs H Q _ => ∃ (s : Addr) (ns : List Int), vs = [.ref s] ∧ SqL K H s (ns.map V.int) ∧ ns.length ≤ 63 ∧
  ∀ (w a : Addr) (H' : Hp), Same H H' → H w = none → Wl ns w a 0 H' → Q (.ref w) H'
/-- an item of a list, or a sign of a text -/
def spPick : Sp := fun vs H Q _ => ∃ (w a : Addr) (ns : List Int) (N : Nat), Wl ns w a N H ∧ N ≤ 1000000 ∧
  ((∃ (l : Addr) (xs : List V), vs = [.ref w, .ref l] ∧ l ≠ w ∧ H l = some (.lst xs) ∧ 0 < xs.length ∧ xs.length ≤ 1000 ∧
      ∀ (v : V) (H' : Hp), v ∈ xs → Kp w H H' → Wl ns w a (N + 1) H' → Q v H') ∨
   ∃ z : Str, vs = [.ref w, .str z] ∧ 0 < z.length ∧ z.length ≤ 1000 ∧ ∀ (c : Nat) (H' : Hp), c ∈ z.cps.toList → Kp w H H' → Wl ns w a (N + 1) H' → Q (.str ⟨#[c]⟩) H')
theorem cut63 {xs : List V} (h : xs.length ≤ 63) : cutV xs none (some 63) = xs := by
  unfold cutV
  rw [HT.sIx_none, show HT.sIx xs.length xs.length (some 63) = min 63 xs.length from HT.sIx_nat _ _ 63, List.drop_zero, Nat.sub_zero]
  exact List.take_of_length_le (by omega)
theorem tl_str (s : String) : (Str.ofString s).cps.toList = s.toList.map Char.toNat := PyProof.Rows.signs_ofString s
theorem cat_cps (x y : Str) : (x ++ y).cps.toList = x.cps.toList ++ y.cps.toList := TL.tl_append x y
theorem cat_len (x y : Str) : (x ++ y).length = x.length + y.length := by rw [← len_cps, cat_cps, List.length_append, len_cps, len_cps]
theorem one_len (c : Nat) : (⟨#[c]⟩ : Str).length = 1 := rfl
section
variable {P : Program} {w : World} {K : PySem.W.Frag} {mg : Str → Option Value} {base : Heap}
theorem ok_well (T : Txt K mg) : Cal P w K mg base 1 "_law_tray" (spWell K) := by
  obtain ⟨f, fd, F, b⟩ := T.d_law_tray
  refine cal F b sc_law_tray (fun vs H Q E h => ?_) (fun cdv A outer s H vs Q E hgd hr h => ?_)
  · obtain ⟨s, ns, rfl, _⟩ := h
    rfl
  · have nd := sc_law_tray.nd
    obtain ⟨s, ns, rfl, hS, hl, q⟩ := h
    refine ⟨_, (pss_one (ps_ret (pe_lstX (pa_cons (pe_lc (own := [("_law_cell", 1)]) (g := gName 1) rfl nd (pi_list (pe_slice sl_list (pv 0) po_none (po_some pe_int))) (blkOk_by (own := [("_law_cell", 1)]) (N := ["_law_script", "_law_cell"]) (sc := (C8.fnScope s_law_tray)) (by decide +kernel)) (fun _ _ _ _ _ => pg_name (i := 1) nd rfl (Or.inl rfl)) (fun _ _ _ _ _ => pts_nil) (fun _ _ _ _ _ => (pe_callTy call_int1 (by rfl) T.z_int (by decide +kernel) (pa_cons (pv 1) pa_nil)))) (pa_cons pe_int (pa_cons pe_int pa_nil)))))), ?_⟩
    refine ⟨.ref s, rfl, 63, rfl, s, _, rfl, hS, fun p np => ?_⟩
    have l63 : (ns.map V.int).length ≤ 63 := by
      rw [List.length_map]
      exact hl
    rw [cut63 l63]
    have hp : (upd H p (.lst (ns.map V.int))) p = some (.lst (ns.map V.int)) := upd_same
    refine ⟨p, rfl, ⟨_, SqL.of hp⟩, fun D nD => lc_list (xs := ns.map V.int) (fun i H' => H' p = some (.lst (ns.map V.int)) ∧ H' D = some (.lst ((ns.take i).map V.int)) ∧ Same H H')
      ⟨?_, upd_same, (same_new np).trans (same_new nD)⟩ (fun i H' _ hP => SqL.of hP.1) (fun i x H1 hx hP => ?_) (fun H1 hP => ?_)⟩
    · rw [upd_ne (ne_of_none hp nD)]
      exact hp
    · obtain ⟨h1, h2, h3⟩ := hP
      rw [List.getElem?_map] at hx
      obtain ⟨n, hn, rfl⟩ := Option.map_eq_some_iff.mp hx
      refine ⟨rfl, lc_yes ⟨.int n, rfl, .inl ⟨n, rfl, _, h2, ?_, ?_, ?_, ?_⟩⟩⟩
      · rw [List.length_map, List.length_take]
        exact small1000 (by omega)
      · rw [upd_ne (ne_of_none hp nD)]
        exact h1
      · rw [upd_same]
        exact congrArg (fun l => some (HO.lst l)) (take_next (f := V.int) hn)
      · intro b o e
        have nb : b ≠ D := fun z => by
          have := (same_new np (o := .lst (ns.map V.int))) b o e
          rw [z, nD] at this
          cases this
        rw [upd_ne nb]
        exact h3 _ _ e
    · obtain ⟨h1, h2, h3⟩ := hP
      rw [List.length_map, List.take_length] at h2
      refine ⟨by show 3 ≤ sizeLine; decide, fun w0 nw _ => ?_⟩
      have s2 : Same H (upd H1 w0 (.lst [.ref D, .int 0, .int 0])) := h3.trans (same_new nw)
      refine q w0 D _ s2 (h3.free nw) ⟨(ne_of_none h2 nw), ?_, hl, 0, 0, Nat.le_refl _, upd_same⟩
      rw [upd_ne (ne_of_none h2 nw)]
      exact h2
theorem ok_pick (T : Txt K mg) (G__law_lift : Cal P w K mg base 1 "_law_lift" spDip) : Cal P w K mg base 2 "_law_take" spPick := by
  obtain ⟨f, fd, F, b⟩ := T.d_law_take
  refine cal F b sc_law_take (fun vs H Q E h => ?_) (fun cdv A outer s H vs Q E hgd hr h => ?_)
  · obtain ⟨w, a, ns, N, _, _, ⟨l, xs, rfl, _⟩ | ⟨z, rfl, _⟩⟩ := h <;> rfl
  · have nd := sc_law_take.nd
    obtain ⟨w, a, ns, N, hW, hN, ⟨l, xs, rfl, hlw, hl, h0, h1, q⟩ | ⟨z, rfl, h0, h1, q⟩⟩ := h
    · refine ⟨_, (pss_one (ps_ret (pe_ix ix_seq (pv 1) (pc G__law_lift hgd hr (by omega) (by rfl) (pa_cons (pv 0) (pa_cons (pe_callB call_len (by rfl) T.z_len PySem.boot_len (pa_cons (pv 1) pa_nil)) pa_nil))) (fun _ _ => rfl)))), ?_⟩
      refine ⟨.ref l, rfl, .ref w, rfl, .ref l, rfl, .ref l, xs.length, rfl, .inl ⟨xs, SqL.of hl, rfl⟩, w, a, ns, N, xs.length, rfl, hW, hN, by omega, by omega, fun v H' v0 v1 kp hW' => ?_⟩
      have hv : v.toNat < xs.length := by omega
      have e : v = ((v.toNat : Nat) : Int) := by omega
      refine .inl ⟨l, xs, v, xs[v.toNat], rfl, rfl, SqL.of (kp l _ hlw hl), at_of e (List.getElem?_eq_getElem hv), q _ _ (List.getElem_mem _) kp hW'⟩
    · refine ⟨_, (pss_one (ps_ret (pe_ix ix_seq (pv 1) (pc G__law_lift hgd hr (by omega) (by rfl) (pa_cons (pv 0) (pa_cons (pe_callB call_len (by rfl) T.z_len PySem.boot_len (pa_cons (pv 1) pa_nil)) pa_nil))) (fun _ _ => rfl)))), ?_⟩
      refine ⟨.str z, rfl, .ref w, rfl, .str z, rfl, .str z, z.length, rfl, ⟨sm1000 h1, rfl⟩, w, a, ns, N, z.length, rfl, hW, hN, by omega, by omega, fun v H' v0 v1 kp hW' => ?_⟩
      obtain ⟨j, rfl⟩ : ∃ j : Nat, v = j := ⟨v.toNat, by omega⟩
      have hv : j < z.cps.toList.length := by
        rw [len_cps]
        omega
      exact .inr (.inr ⟨z, j, z.cps.toList[j], rfl, rfl, sm1000 h1, atI_nat (List.getElem?_eq_getElem hv), q _ _ (List.getElem_mem _) kp hW'⟩)
end
end K02

set_option Elab.async false
set_option linter.all false
set_option maxRecDepth 100000
set_option maxHeartbeats 2000000
namespace K02
open PySem PySem.Spec PyProof.Rows L2 Gd
def vc : Nat → Nat
  | 0 => 3
  | n + 1 => 3 * vc n + 3
def spVal (n : Nat) : Sp := fun vs H Q _ => ∃ (w a : Addr) (ns : List Int) (N : Nat), vs = [.ref w, .int n] ∧ Wl ns w a N H ∧ N + vc n ≤ 900000 ∧
  ∀ (v : V) (d : PyData) (H' : Hp), Kp w H H' → Wl ns w a (N + vc n) H' → Dq (nw H H') v d → Sh n d → Q v H'
def spV : Nat → Sp
  | 0 => fun _ _ _ _ => False
  | n + 1 => spVal n
theorem Kp.dom {ns : List Int} {w a : Addr} {N : Nat} {H H' : Hp} (k : Kp w H H') (h : Wl ns w a N H') : Dom H H' := fun b hb => by
  by_cases e : b = w
  · obtain ⟨o, z⟩ := h.at_w
    rw [e, z]
    simp
  · cases z : H b with
    | none => exact absurd z hb
    | some o => rw [k b o e z]; simp
theorem Wl.some {ns : List Int} {w a : Addr} {N : Nat} {H : Hp} (h : Wl ns w a N H) : H w ≠ none := by
  obtain ⟨o, z⟩ := h.at_w
  rw [z]
  simp
/-- what was new stays so -/
theorem nw_kp {w : Addr} {G H H' : Hp} (gw : G w ≠ none) (k : Kp w H H') : Same (nw G H) (nw G H') := nw_same fun b o g e => ⟨g, k b o (fun z => gw (z ▸ g)) e⟩
/-- the keys that the law draws -/
def kLs : List (List Key) := [[.inr "b", .inr "a", .inr "c"], [.inr "z9", .inr "z10", .inr "a"], [.inl 10, .inl 9, .inl (-1)], [.inl 2, .inl 100, .inl 11]]
theorem kLs_ok : ∀ ks ∈ kLs, ks.length = 3 ∧ ks.Nodup ∧ KO (ks.map kd) := by
  have S : ∀ s : String, (s.length ≤ 10 ∧ ∀ c ∈ s.toList, c.toNat < 128) → lfS (Str.ofString s) := fun s h => by
    refine ⟨fun c hc => ?_, ?_⟩
    · rw [tl_str] at hc
      obtain ⟨x, hx, rfl⟩ := List.mem_map.mp hc
      exact h.2 x hx
    · rw [PyProof.Rows.ofString_length, String.length_toList]
      exact h.1
  intro ks hk
  simp only [kLs, List.mem_cons, List.not_mem_nil, or_false] at hk
  rcases hk with rfl | rfl | rfl | rfl
  · refine ⟨rfl, by decide, ?_, .inr ⟨["b", "a", "c"], rfl, fun s hs => ?_⟩⟩
    · exact List.Pairwise.map kd (fun a b h z => h (kd_inj z)) (show ([.inr "b", .inr "a", .inr "c"] : List Key).Pairwise (· ≠ ·) by decide)
    · simp only [List.mem_cons, List.not_mem_nil, or_false] at hs
      rcases hs with rfl | rfl | rfl <;> exact S _ (by decide)
  · refine ⟨rfl, by decide, ?_, .inr ⟨["z9", "z10", "a"], rfl, fun s hs => ?_⟩⟩
    · exact List.Pairwise.map kd (fun a b h z => h (kd_inj z)) (show ([.inr "z9", .inr "z10", .inr "a"] : List Key).Pairwise (· ≠ ·) by decide)
    · simp only [List.mem_cons, List.not_mem_nil, or_false] at hs
      rcases hs with rfl | rfl | rfl <;> exact S _ (by decide)
  · refine ⟨rfl, by decide, ?_, .inl ⟨[10, 9, -1], rfl, fun s hs => ?_⟩⟩
    · exact List.Pairwise.map kd (fun a b h z => h (kd_inj z)) (show ([.inl 10, .inl 9, .inl (-1)] : List Key).Pairwise (· ≠ ·) by decide)
    · simp only [List.mem_cons, List.not_mem_nil, or_false] at hs
      rcases hs with rfl | rfl | rfl <;> (show Int.natAbs _ < 10 ^ 30; decide)
  · refine ⟨rfl, by decide, ?_, .inl ⟨[2, 100, 11], rfl, fun s hs => ?_⟩⟩
    · exact List.Pairwise.map kd (fun a b h z => h (kd_inj z)) (show ([.inl 2, .inl 100, .inl 11] : List Key).Pairwise (· ≠ ·) by decide)
    · simp only [List.mem_cons, List.not_mem_nil, or_false] at hs
      rcases hs with rfl | rfl | rfl <;> (show Int.natAbs _ < 10 ^ 30; decide)
theorem leaf_of {v : V} {x : Int} (hx : 0 ≤ x) (hx2 : x < 10 ^ 30) (h : v ∈ [V.non, .bl true, .bl false, .str "a", .str "", .str "b.c", .int 0, .int 1, .int (-7), .int x]) : ∃ d, Dq (fun _ => none) v d ∧ Lf d := by
  have S : ∀ s : String, (s.length ≤ 10 ∧ ∀ c ∈ s.toList, c.toNat < 128) → Lf (.str (Str.ofString s)) := fun s h => by
    refine ⟨fun c hc => ?_, ?_⟩
    · rw [tl_str] at hc
      obtain ⟨x, hx, rfl⟩ := List.mem_map.mp hc
      exact h.2 x hx
    · rw [PyProof.Rows.ofString_length, String.length_toList]
      exact h.1
  have I : ∀ i : Int, i.natAbs < 10 ^ 30 → Lf (.int i) := fun i h => h
  simp only [List.mem_cons, List.not_mem_nil, or_false] at h
  rcases h with rfl | rfl | rfl | rfl | rfl | rfl | rfl | rfl | rfl | rfl
  · exact ⟨_, .non, True.intro⟩
  · exact ⟨_, .bl _, True.intro⟩
  · exact ⟨_, .bl _, True.intro⟩
  · exact ⟨_, .str _, S "a" (by decide)⟩
  · exact ⟨_, .str _, S "" (by decide)⟩
  · exact ⟨_, .str _, S "b.c" (by decide)⟩
  · exact ⟨_, .int _, I _ (by decide)⟩
  · exact ⟨_, .int _, I _ (by decide)⟩
  · exact ⟨_, .int _, I _ (by decide)⟩
  · exact ⟨_, .int _, I _ (by omega)⟩
theorem arg_pred {w : Addr} (m : Nat) : [V.ref w, V.int (((m + 1 : Nat) : Int) - 1)] = [V.ref w, V.int (m : Nat)] := by
  rw [show ((m + 1 : Nat) : Int) - 1 = (m : Nat) by omega]
section
variable {P : Program} {w : World} {K : PySem.W.Frag} {mg : Str → Option Value} {base : Heap}
theorem ok_value (T : Txt K mg) (n : Nat) (G__law_lift : Gd.Cal P w K mg base 1 "_law_lift" spDip) (G__law_take : Gd.Cal P w K mg base 2 "_law_take" spPick) (G__law_value : Gd.Cal P w K mg base (n + 2) "_law_value" (spV n)) : Gd.Cal P w K mg base (n + 3) "_law_value" (spVal n) := by
  obtain ⟨f, fd, F, b⟩ := T.d_law_value
  refine cal F b sc_law_value (fun vs H Q E h => ?_) (fun cdv A outer s H vs Q E hgd hr h => ?_)
  · obtain ⟨w, a, ns, N, rfl, _⟩ := h
    rfl
  · have nd := sc_law_value.nd
    have hu := hu_of hr
    obtain ⟨w, a, ns, N, rfl, hW, hN, q⟩ := h
    refine ⟨_, (C8.pss_cut (ps_set (i := 2) nd rfl (.inl rfl) (pc G__law_lift hgd hr (by omega) (by rfl) (pa_cons (pv 0) (pa_cons (pe_ifExp (pt_cmpR op_gt (pv 1) pe_int (nomark _)) pe_int pe_int) pa_nil))))
      (pss_cons (ps_if (pt_cmpR op_eq (pv 2) pe_int (nomark _)) (pss_one (ps_ret (pc G__law_take hgd hr (by omega) (by rfl) (pa_cons (pv 0) (pa_cons (pe_lstX (pa_cons pe_non (pa_cons pe_bl (pa_cons pe_bl (pa_cons pe_str (pa_cons pe_str (pa_cons pe_str (pa_cons pe_int (pa_cons pe_int (pa_cons (pe_un un_neg pe_int) (pa_cons (pc G__law_lift hgd hr (by omega) (by rfl) (pa_cons (pv 0) (pa_cons (pe_op op_pow pe_int pe_int) pa_nil))) pa_nil))))))))))) pa_nil))))) pss_nil)
      (pss_cons (ps_if (pt_cmpR op_lt (pv 2) pe_int (nomark _)) (pss_cons (ps_setLc (i := 3) (own := [("_law_turn", 4)]) (g := gName 4) rfl nd rfl rfl (sw_true rfl rfl rfl (by decide +kernel)) (pi_range1 rfl T.z_range (pa_cons (pc G__law_lift hgd hr (by omega) (by rfl) (pa_cons (pv 0) (pa_cons pe_int pa_nil))) pa_nil)) (blkOk_by (own := [("_law_turn", 4)]) (N := ["_law_tray_here", "_law_depth", "_law_way", "_law_parts", "_law_turn", "_law_keys", "_law_made", "_law_key"]) (sc := (C8.fnScope s_law_value)) (by decide +kernel)) (fun _ _ _ _ _ => pg_name (i := 4) nd rfl (Or.inl rfl)) (fun _ _ _ _ _ => pts_nil) (fun _ _ _ _ _ => (pc G__law_value hgd hr (by omega) (by rfl) (pa_cons (pv 0) (pa_cons (pe_op op_sub (pv 1) pe_int) pa_nil)))))
      (pss_one (ps_ret (pe_ifExp (pt_cmpR op_eq (pv 2) pe_int (nomark _)) (pv 3) (pe_callTy call_tuple_of (by rfl) T.z_tuple (by decide +kernel) (pa_cons (pv 3) pa_nil)))))) pss_nil)
      (pss_cons (ps_set (i := 5) nd rfl (.inl rfl) (pc G__law_take hgd hr (by omega) (by rfl) (pa_cons (pv 0) (pa_cons (pe_lstX (pa_cons (pe_lstX (pa_cons pe_str (pa_cons pe_str (pa_cons pe_str pa_nil)))) (pa_cons (pe_lstX (pa_cons pe_str (pa_cons pe_str (pa_cons pe_str pa_nil)))) (pa_cons (pe_lstX (pa_cons pe_int (pa_cons pe_int (pa_cons (pe_un un_neg pe_int) pa_nil)))) (pa_cons (pe_lstX (pa_cons pe_int (pa_cons pe_int (pa_cons pe_int pa_nil)))) pa_nil))))) pa_nil))))
      (pss_cons (ps_set (i := 6) nd rfl (.inl rfl) pe_dnewK)
      (pss_cons (ps_for PassesOwn.never rfl (pi_list (pe_slice sl_list (pv 5) (po_some (pc G__law_lift hgd hr (by omega) (by rfl) (pa_cons (pv 0) (pa_cons pe_int pa_nil)))) po_none)) (pg_name (i := 7) nd rfl (Or.inl rfl)) (pss_one (ps_dput hu (pv 6) (pv 7) (pc G__law_value hgd hr (by omega) (by rfl) (pa_cons (pv 0) (pa_cons (pe_op op_sub (pv 1) pe_int) pa_nil))) rfl)))
      (pss_one (ps_ret (pv 6))))))))), ?_⟩
    have hvc : 3 ≤ vc n := by
      cases n with
      | zero => exact Nat.le_refl _
      | succ n => unfold vc; omega
    refine ⟨fun σ' H' => ∃ way : Int, σ' = [some (.ref w), some (.int n), some (.int way), none, none, none, none, none] ∧ Kp w H H' ∧ Wl ns w a (N + 1) H' ∧ 0 ≤ way ∧ way < 4 ∧ (n = 0 → way = 0), ?_, ?_⟩
    · refine ⟨.ref w, rfl, .int n, rfl, n, 0, rfl, rfl, _, rfl, ite2 (fun t => ?_) (fun t => ?_)⟩
      · refine ⟨w, a, ns, N, 4, rfl, hW, by omega, by decide, by decide, fun v H' v0 v1 kp hW' => ⟨v, rfl, kp, hW', v0, by omega, fun z => ?_⟩⟩
        have := of_decide_eq_true t
        omega
      · refine ⟨w, a, ns, N, 1, rfl, hW, by omega, by decide, by decide, fun v H' v0 v1 kp hW' => ⟨v, rfl, kp, hW', v0, by omega, fun z => by omega⟩⟩
    · rintro σ1 H1 ⟨way, rfl, kp1, hW1, w0, w4, wn⟩
      have dm1 : Dom H H1 := kp1.dom hW1
      have hw : H w ≠ none := hW.some
      refine ⟨.int way, rfl, rfl, _, rfl, ite2 (fun e1 => ?_) (fun e1 => ?_)⟩
      · -- a leaf
        refine ⟨.ref w, rfl, 7, rfl, .ref w, rfl, 10, 30, rfl, rfl, ⟨by decide, by decide, by decide⟩, w, a, ns, _, _, rfl, hW1, by omega, by decide, by decide, fun x H2 x0 x1 kp2 hW2 => ?_⟩
        refine ⟨by show 10 ≤ sizeLine; decide, fun l nl _ => ⟨w, a, ns, _, hW2.same (same_new nl), by omega, .inl ⟨l, _, rfl, (hW2.off nl).1, upd_same, by show 0 < 10; decide, by show 10 ≤ 1000; decide, fun v H3 hv kp3 hW3 => ?_⟩⟩⟩
        obtain ⟨d, hd, hl⟩ := leaf_of x0 x1 hv
        exact q v d H3 (kp1.trans (kp2.trans ((Kp.same (same_new nl)).trans kp3))) (hW3.mono (by omega)) hd.lf (Sh.leaf hl)
      · cases n with
        | zero => exact absurd (wn rfl) (fun z => e1 (by rw [z]; rfl))
        | succ m =>
        have evc : vc (m + 1) = 3 * vc m + 3 := rfl
        refine ⟨.int way, rfl, way, 3, rfl, rfl, _, rfl, ite2 (fun e2 => ?_) (fun e2 => ?_)⟩
        · refine ⟨.ref w, rfl, w, a, ns, _, 4, rfl, hW1, by omega, by decide, by decide, fun v H2 v0 v1 kp2 hW2 => ⟨v, rfl, by omega, by omega, fun D nD => ?_⟩⟩
          have hD : H D = none := dm1.none ((kp2.dom hW2).none nD)
          have gw : (upd H D (.lst [])) w ≠ none := Dom.upd _ _ _ _ hw
          refine lc_range (lo := 0) (n := v.toNat) (fun k H' => ∃ ws ds, H' D = some (.lst ws) ∧ ws.length = k ∧ Kp w H2 H' ∧ Wl ns w a (N + 2 + k * vc m) H' ∧ DqAll (nw (upd H D (.lst [])) H') ws ds ∧ ∀ d ∈ ds, Sh m d)
            ⟨[], [], upd_same, rfl, Kp.same (same_new nD), by rw [Nat.zero_mul]; exact hW2.same (same_new nD), .nil, fun d hd => absurd hd List.not_mem_nil⟩ (fun k H3 hk hP => ?_) (fun H3 hP => ?_)
          · obtain ⟨ws, ds, h1, h2, h3, h4, h5, h6⟩ := hP
            have hDw : D ≠ w := fun z => by
              rw [z] at hD
              exact hw hD
            have hDa : D ≠ a := fun z => (hW2.off nD).2 z
            have hk4 : k * vc m + vc m ≤ 3 * vc m := by
              rw [← Nat.succ_mul]
              exact Nat.mul_le_mul_right _ (by omega)
            refine ⟨rfl, lc_yes ⟨.ref w, rfl, .int ((m + 1 : Nat) : Int), rfl, ((m + 1 : Nat) : Int), 1, rfl, rfl, w, a, ns, _, arg_pred m, h4, by omega, fun y dy H4 kp4 hW4 hd4 sh4 => ⟨ws, kp4 _ _ hDw h1, small1000 (by omega), ws ++ [y], ds ++ [dy], upd_same, by rw [List.length_append, h2] <;> rfl, ?_, ?_, ?_, ?_⟩⟩⟩
            · exact (h3.trans kp4).grow nD |> fun z => z
            · have := (hW4.grow hDw hDa (o := .lst (ws ++ [y])))
              rw [Nat.add_assoc, ← Nat.succ_mul] at this
              exact this
            · have nDn : ∀ b, (upd H D (.lst [])) b = none → b ≠ D ∧ H b = none := fun b hb => by
                have n1 : b ≠ D := fun z => by
                  rw [z, upd_same] at hb
                  cases hb
                rw [upd_ne n1] at hb
                exact ⟨n1, hb⟩
              refine (h5.same (nw_same fun b o g e => ⟨g, ?_⟩)).snoc (hd4.same (nw_same fun b o g e => ?_))
              · obtain ⟨n1, n2⟩ := nDn b g
                rw [upd_ne n1]
                exact kp4 b o (fun z => by rw [z] at n2; exact hw n2) e
              · have n1 : b ≠ D := fun z => by
                  rw [z, h1] at g
                  cases g
                have n2 : H b = none := dm1.none ((kp2.dom hW2).none ((h3.dom h4).none g))
                exact ⟨by rw [upd_ne n1]; exact n2, by rw [upd_ne n1]; exact e⟩
            · intro d hd
              rcases List.mem_append.mp hd with hd | hd
              · exact h6 d hd
              · obtain rfl := List.mem_singleton.mp hd
                exact sh4
          · obtain ⟨ws, ds, h1, h2, h3, h4, h5, h6⟩ := hP
            have h5' : DqAll (nw H H3) ws ds := h5.same (nw_same fun b o g e => by
              have n1 : b ≠ D := fun z => by
                rw [z, upd_same] at g
                cases g
              rw [upd_ne n1] at g
              exact ⟨g, e⟩)
            have hl3 : ds.length ≤ 3 := by rw [← h5.len]; omega
            have hk4 : v.toNat * vc m ≤ 3 * vc m := Nat.mul_le_mul_right _ (by omega)
            refine ⟨.int way, rfl, rfl, _, rfl, ite2 (fun t => ⟨.ref D, rfl, ?_⟩) (fun t => ⟨.ref D, rfl, D, ws, rfl, .inl ⟨SqL.of h1, fun t nt => ?_⟩⟩)⟩
            · exact q (.ref D) (.list ds) H3 (kp1.trans (kp2.trans h3)) (h4.mono (by omega)) (.lst ((nw_at hD).trans h1) h5') (.inr (.inl ⟨ds, .inl rfl, hl3, h6⟩))
            · have ht : H t = none := dm1.none ((kp2.dom hW2).none ((h3.dom h4).none nt))
              exact q (.ref t) (.tuple ds) _ (kp1.trans (kp2.trans (h3.trans (Kp.same (same_new nt))))) ((h4.same (same_new nt)).mono (by omega)) (.tup ((nw_at ht).trans upd_same) (h5'.same (nw_same fun b o g e => ⟨g, same_new nt _ _ e⟩))) (.inr (.inl ⟨ds, .inr rfl, hl3, h6⟩))
        · refine ⟨.ref w, rfl, by show 3 ≤ sizeLine; decide, fun p1 n1 _ => ⟨by show 3 ≤ sizeLine; decide, fun p2 n2 _ => ⟨1, rfl, by show 3 ≤ sizeLine; decide, fun p3 n3 _ => ⟨by show 3 ≤ sizeLine; decide, fun p4 n4 _ => ⟨by show 4 ≤ sizeLine; decide, fun l nl _ => ?_⟩⟩⟩⟩⟩
          have S1 := same_new n1 (o := .lst [.str "b", .str "a", .str "c"])
          have S2 := same_new n2 (o := .lst [.str "z9", .str "z10", .str "a"])
          have S3 := same_new n3 (o := .lst [.int 10, .int 9, .int (-1)])
          have S4 := same_new n4 (o := .lst [.int 2, .int 100, .int 11])
          have S5 := same_new nl (o := .lst [.ref p1, .ref p2, .ref p3, .ref p4])
          have SA := S1.trans (S2.trans (S3.trans (S4.trans S5)))
          refine ⟨w, a, ns, _, hW1.same SA, by omega, .inl ⟨l, _, rfl, (((((hW1.same S1).same S2).same S3).same S4).off nl).1, upd_same, by show 0 < 4; decide, by show 4 ≤ 1000; decide, fun v H2 hv kp2 hW2 => ?_⟩⟩
          obtain ⟨ks, kl, hks, rfl, hkl, klw⟩ : ∃ ks kl, ks ∈ kLs ∧ v = .ref kl ∧ H2 kl = some (.lst (ks.map kV)) ∧ kl ≠ w := by
            simp only [List.mem_cons, List.not_mem_nil, or_false] at hv
            rcases hv with rfl | rfl | rfl | rfl
            · have nw1 := (hW1.off n1).1
              exact ⟨_, p1, .head _, rfl, kp2 _ _ nw1 (S5 _ _ (S4 _ _ (S3 _ _ (S2 _ _ upd_same)))), nw1⟩
            · have nw1 := ((hW1.same S1).off n2).1
              exact ⟨_, p2, .tail _ (.head _), rfl, kp2 _ _ nw1 (S5 _ _ (S4 _ _ (S3 _ _ upd_same))), nw1⟩
            · have nw1 := (((hW1.same S1).same S2).off n3).1
              exact ⟨_, p3, .tail _ (.tail _ (.head _)), rfl, kp2 _ _ nw1 (S5 _ _ (S4 _ _ upd_same)), nw1⟩
            · have nw1 := ((((hW1.same S1).same S2).same S3).off n4).1
              exact ⟨_, p4, .tail _ (.tail _ (.tail _ (.head _))), rfl, kp2 _ _ nw1 (S5 _ _ upd_same), nw1⟩
          obtain ⟨k3, knd, kok⟩ := kLs_ok ks hks
          have dm2 : Dom H H2 := dm1.trans ((Dom.same SA).trans (kp2.dom hW2))
          have kpA : Kp w H H2 := kp1.trans ((Kp.same SA).trans kp2)
          intro D nD
          have hD : H D = none := dm2.none nD
          have hDw : D ≠ w := fun z => by
            rw [z] at hD
            exact hw hD
          have SD := same_new nD (o := .dK [])
          refine ⟨.ref kl, rfl, .ref w, rfl, w, a, ns, _, 3, rfl, hW2.same SD, by omega, by decide, by decide, fun j H4 j0 j3 kp4 hW4 => ?_⟩
          obtain ⟨jn, rfl⟩ : ∃ jn : Nat, j = jn := ⟨j.toNat, by omega⟩
          have hkl4 : H4 kl = some (.lst (ks.map kV)) := kp4 _ _ klw (SD _ _ hkl)
          refine ⟨jn, rfl, kl, ks.map kV, rfl, SqL.of hkl4, fun sl nsl => ?_⟩
          rw [cutV_drop _ _ (by rw [List.length_map, k3]; omega), ← List.map_drop]
          have Ss := same_new nsl (o := .lst ((ks.drop jn).map kV))
          have hsw : sl ≠ w := (hW4.off nsl).1
          have hD4 : H4 D = some (.dK []) := kp4 _ _ hDw upd_same
          have hsD : sl ≠ D := fun z => by
            rw [z, hD4] at nsl
            cases nsl
          have hDa : D ≠ a := (hW2.off nD).2
          have hl3 : (ks.drop jn).length ≤ 3 := by rw [List.length_drop]; omega
          refine ⟨sl, rfl, ⟨_, SqL.of upd_same⟩, for_it (walk_list (xs := (ks.drop jn).map kV)) (fun i σ' H' => ∃ (y7 : Option V) (kvs : List (Key × V)) (ds : List (PyData × PyData)), σ' = [some (.ref w), some (.int ((m + 1 : Nat) : Int)), some (.int way), none, none, some (.ref kl), some (.ref D), y7] ∧
            H' D = some (.dK kvs) ∧ H' sl = some (.lst ((ks.drop jn).map kV)) ∧ kvs.map (·.1) = (ks.drop jn).take i ∧ Kp w H H' ∧ Wl ns w a (N + 3 + i * vc m) H' ∧ DqKv (nw (upd H D (.dK [])) H') kvs ds ∧ ∀ p ∈ ds, Sh m p.2)
            ⟨none, [], [], rfl, Ss _ _ hD4, upd_same, rfl, (((kpA.new nD).trans kp4).trans (Kp.same Ss)), by rw [Nat.zero_mul]; exact (hW4.same Ss).mono (by omega), .nil, fun p hp => absurd hp List.not_mem_nil⟩
            (fun i σ' H' _ hP => ?_) (fun i x σ' H5 H6 hi hP hY => ?_) (fun σ' H5 hP => ?_)⟩
          · obtain ⟨_, _, _, _, _, h2, _⟩ := hP
            exact SqL.of h2
          · obtain ⟨y7, kvs, ds, rfl, h1, h2, h3, h4, h5, h6, h7⟩ := hP
            obtain ⟨rfl, hx⟩ := hY
            rw [List.getElem?_map] at hx
            obtain ⟨k, hk, rfl⟩ := Option.map_eq_some_iff.mp hx
            rw [List.length_map] at hi
            have hk4 : i * vc m + vc m ≤ 3 * vc m := by
              rw [← Nat.succ_mul]
              exact Nat.mul_le_mul_right _ (by omega)
            refine ⟨.ref w, rfl, .int ((m + 1 : Nat) : Int), rfl, ((m + 1 : Nat) : Int), 1, rfl, rfl, w, a, ns, _, arg_pred m, h5, by omega, fun y dy H7 kp7 hW7 hd7 sh7 => ⟨.ref D, rfl, kV k, rfl, D, _, rfl, DPut.k (kp7 _ _ hDw h1) ?_, ?_⟩⟩
            · have := congrArg List.length h3
              rw [List.length_map, List.length_take] at this
              exact small1000 (by omega)
            · have hkn : k ∉ kvs.map (·.1) := by
                rw [h3]
                intro z
                have nd2 : (ks.drop jn).Nodup := (List.drop_sublist _ _).nodup knd
                obtain ⟨i2, hi2⟩ := List.getElem?_of_mem z
                rw [List.getElem?_take] at hi2
                split at hi2
                · rename_i hlt
                  have := (List.getElem?_inj (by omega) nd2).mp (hi2.trans hk.symm)
                  omega
                · cases hi2
              rw [putK_new hkn]
              have nDn : ∀ b, (upd H D (.dK [])) b = none → b ≠ D ∧ H b = none := fun b hb => by
                have n1 : b ≠ D := fun z => by
                  rw [z, upd_same] at hb
                  cases hb
                rw [upd_ne n1] at hb
                exact ⟨n1, hb⟩
              refine ⟨_, kvs ++ [(k, y)], ds ++ [(kd k, dy)], rfl, upd_same, ?_, ?_, ?_, ?_, ?_, ?_⟩
              · rw [upd_ne hsD]
                exact kp7 _ _ hsw h2
              · rw [List.map_append, h3, List.take_add_one, hk]
                rfl
              · exact (h4.trans kp7).grow hD
              · have := hW7.grow hDw hDa (o := .dK (kvs ++ [(k, y)]))
                rw [Nat.add_assoc, ← Nat.succ_mul] at this
                exact this
              · refine (h6.same (nw_same fun b o g e => ⟨g, ?_⟩)).snoc (hd7.same (nw_same fun b o g e => ?_))
                · obtain ⟨z1, z2⟩ := nDn b g
                  rw [upd_ne z1]
                  exact kp7 b o (fun z => by rw [z] at z2; exact hw z2) e
                · have z1 : b ≠ D := fun z => by
                    rw [z, h1] at g
                    cases g
                  have z2 : H b = none := (h4.dom h5).none g
                  exact ⟨by rw [upd_ne z1]; exact z2, by rw [upd_ne z1]; exact e⟩
              · intro p hp
                rcases List.mem_append.mp hp with hp | hp
                · exact h7 p hp
                · obtain rfl := List.mem_singleton.mp hp
                  exact sh7
          · obtain ⟨y7, kvs, ds, rfl, h1, h2, h3, h4, h5, h6, h7⟩ := hP
            rw [List.length_map] at h3 h5
            rw [List.take_length] at h3
            have hk4 : (ks.drop jn).length * vc m ≤ 3 * vc m := Nat.mul_le_mul_right _ hl3
            have h6' : DqKv (nw H H5) kvs ds := h6.same (nw_same fun b o g e => by
              have z1 : b ≠ D := fun z => by
                rw [z, upd_same] at g
                cases g
              rw [upd_ne z1] at g
              exact ⟨g, e⟩)
            have hkeys : ds.map (·.1) = (ks.drop jn).map kd := by
              rw [h6.keys, ← h3, List.map_map]
              rfl
            refine ⟨.ref D, rfl, q (.ref D) (.dict ds) H5 h4 (h5.mono (by omega)) (.dk ((nw_at hD).trans h1) h6') (.inr (.inr ⟨ds, rfl, ?_, ?_, h7⟩))⟩
            · have := congrArg List.length hkeys
              rw [List.length_map, List.length_map] at this
              omega
            · rw [hkeys]
              exact kok.sub ((List.drop_sublist _ _).map kd)
theorem oks_value (T : Txt K mg) (G__law_lift : Gd.Cal P w K mg base 1 "_law_lift" spDip) (G__law_take : Gd.Cal P w K mg base 2 "_law_take" spPick) : ∀ n, Gd.Cal P w K mg base (n + 2) "_law_value" (spV n)
  | 0 => by
    obtain ⟨f, fd, F, b⟩ := T.d_law_value
    exact ⟨f, fd, _, ⟨fun _ _ _ _ h => h.elim, fun _ _ _ _ _ _ _ _ _ _ _ _ _ _ h => h.elim⟩, F.mgf, F.kp, b⟩
  | n + 1 => ok_value T n G__law_lift G__law_take (oks_value T G__law_lift G__law_take n)
end
end K02

set_option Elab.async false
set_option linter.all false
set_option maxRecDepth 100000
set_option maxHeartbeats 2000000
namespace K02
open PySem PySem.Spec PyProof.Rows L2 Gd
/-- what stood in G, and what is new -/
def jn (G H H' : Hp) : Hp := fun b => match H b with
  | none => H' b
  | some _ => G b
theorem jn_new {G H H' : Hp} {b : Addr} {o : HO} (h : H b = none) (h2 : H' b = some o) : jn G H H' b = some o := by
  unfold jn
  rw [h]
  exact h2
theorem jn_old {G H H' : Hp} (s : Same G H) : Same G (jn G H H') := fun b o e => by
  unfold jn
  rw [s b o e]
  exact e
def spTurn : Sp := fun vs H Q _ => ∃ (v : V) (d : PyData) (n : Nat) (G : Hp), vs = [v] ∧ Same G H ∧ Dq G v d ∧ Sh n d ∧ ∀ (u : V) (e : PyData) (H' : Hp), Same H H' → Dq (jn G H H') u e → Sh n e → (∀ m, fx (m + 1) e = fx (m + 1) d) → Q u H'
theorem KO.perm {ks ks' : List PyData} (h : KO ks) (p : ks'.Perm ks) : KO ks' := by
  refine ⟨p.nodup_iff.mpr h.1, ?_⟩
  rcases h.2 with ⟨is, e, b⟩ | ⟨is, e, b⟩
  · left
    rw [e] at p
    obtain ⟨js, e3, e4⟩ := perm_map_inv (f := PyData.int) p
    exact ⟨js, e3, fun i hi => b i (e4.mem_iff.mp hi)⟩
  · right
    rw [e] at p
    obtain ⟨js, e3, e4⟩ := perm_map_inv (f := PyData.str) p
    exact ⟨js, e3, fun i hi => b i (e4.mem_iff.mp hi)⟩
theorem srt_rev {ds : List (PyData × PyData)} (k : KO (ds.map (·.1))) : srt ds.reverse = srt ds :=
  srt_of ((srt_perm ds).trans (List.reverse_perm ds).symm) (KO.perm k ((List.reverse_perm ds).map _)) (srt_srt k)
theorem DqKv.rev {H : Hp} : ∀ {vs : List (Key × V)} {ds : List (PyData × PyData)}, DqKv H vs ds → DqKv H vs.reverse ds.reverse
  | _, _, .nil => .nil
  | _, _, .cons a b => by
    rw [List.reverse_cons, List.reverse_cons]
    exact (DqKv.rev b).snoc a
/-- what is spoilt at the top of v -/
def SpoR (v : V) (H H' : Hp) : Prop := (∀ b o, v ≠ .ref b → H b = some o → H' b = some o) ∧ ∀ a, v = .ref a → (∀ xs, H a = some (.tup xs) → H' a = some (.tup xs)) ∧ (∀ xs, H a = some (.lst xs) → ∃ ys, H' a = some (.lst ys) ∧ ys.length ≤ xs.length + 1) ∧
  ∀ kvs, H a = some (.dK kvs) → ∃ kws, H' a = some (.dK kws) ∧ kws.length ≤ kvs.length + 1
/-- a list, a tuple, a dict of few items, or none of these -/
inductive Top (B : Nat) (H : Hp) : V → String → Prop
  | non : Top B H .non "NoneType"
  | bl (b : Bool) : Top B H (.bl b) "bool"
  | int (i : Int) : Top B H (.int i) "int"
  | str (x : Str) : Top B H (.str x) "str"
  | lst {a : Addr} {xs : List V} (e : H a = some (.lst xs)) (l : xs.length ≤ B) : Top B H (.ref a) "list"
  | tup {a : Addr} {xs : List V} (e : H a = some (.tup xs)) : Top B H (.ref a) "tuple"
  | dk {a : Addr} {kvs : List (Key × V)} (e : H a = some (.dK kvs)) (l : kvs.length ≤ B) : Top B H (.ref a) "dict"
theorem Top.ty {K : PySem.W.Frag} {B : Nat} {H : Hp} {v : V} {t : String} (h : Top B H v t) : TyX K H v (.type t) := by
  cases h with
  | non => exact .base .non
  | bl b => exact .base (.bl b)
  | int i => exact .base (.int i)
  | str x => exact .base (.str x)
  | lst a n => exact .base (.lst a)
  | tup a => exact .base (.tup a)
  | dk a b => exact .base (.dK a)
theorem Top.mem {B : Nat} {H : Hp} {v : V} {t : String} (h : Top B H v t) : t ∈ tyL := by
  cases h <;> simp [tyL]
theorem Top.of {H : Hp} {v : V} {d : PyData} {n : Nat} (h : Dq H v d) (s : Sh n d) : Top 3 H v (tyD d) := by
  cases h with
  | non => exact .non
  | bl b => exact .bl b
  | int i => exact .int i
  | str x => exact .str x
  | lst a b =>
    cases n with
    | zero => exact (show False from s).elim
    | succ n => exact .lst a (by rw [b.len]; exact (sh_list s).1)
  | tup a b => exact .tup a
  | dk a b =>
    cases n with
    | zero => exact (show False from s).elim
    | succ n => exact .dk a (by rw [b.len]; exact (sh_dict s).1)
theorem Top.spo {B : Nat} {H H' : Hp} {u v : V} {t : String} (h : Top B H v t) (s : SpoR u H H') : Top (B + 1) H' v t := by
  cases h with
  | non => exact .non
  | bl b => exact .bl b
  | int i => exact .int i
  | str x => exact .str x
  | @lst a xs e l =>
    by_cases z : u = .ref a
    · obtain ⟨ys, e2, l2⟩ := (s.2 a z).2.1 xs e
      exact .lst e2 (by omega)
    · exact .lst (s.1 a _ z e) (by omega)
  | @tup a xs e =>
    by_cases z : u = .ref a
    · exact .tup ((s.2 a z).1 xs e)
    · exact .tup (s.1 a _ z e)
  | @dk a kvs e l =>
    by_cases z : u = .ref a
    · obtain ⟨ys, e2, l2⟩ := (s.2 a z).2.2 kvs e
      exact .dk e2 (by omega)
    · exact .dk (s.1 a _ z e) (by omega)
theorem SpoR.refl (v : V) (H : Hp) : SpoR v H H := ⟨fun _ _ _ h => h, fun a _ => ⟨fun xs h => h, fun xs h => ⟨xs, h, Nat.le_succ _⟩, fun xs h => ⟨xs, h, Nat.le_succ _⟩⟩⟩
def spSpoil : Sp := fun vs H Q _ => ∃ (v : V) (t : String) (B : Nat), vs = [v] ∧ Top B H v t ∧ B ≤ 100 ∧ ∀ H' : Hp, SpoR v H H' → Q .non H'
section
variable {P : Program} {w : World} {K : PySem.W.Frag} {mg : Str → Option Value} {base : Heap}
theorem ok_spoil (T : Txt K mg) : Gd.Cal P w K mg base 1 "_law_spoil" spSpoil := by
  obtain ⟨f, fd, F, b⟩ := T.d_law_spoil
  refine cal F b sc_law_spoil (fun vs H Q E h => ?_) (fun cdv A outer s H vs Q E hgd hr h => ?_)
  · obtain ⟨v, t, B, rfl, _⟩ := h
    rfl
  · have nd := sc_law_spoil.nd
    have hu := hu_of hr
    obtain ⟨v, ty, B, rfl, ht, hB, q⟩ := h
    refine ⟨_, (pss_one (ps_if (pt_val (pe_callB call_isiA (by rfl) T.z_isinstance (by decide +kernel) (pa_cons (pv 0) (pa_cons (pe_bltn (v := .ty "list") (u := .type "list") (by rfl) T.z_list (by decide +kernel) rfl) pa_nil)))) (pss_one (ps_expr (pe_bm PySem.F.plainAttrs_list PySem.F.slot_list_append PySem.F.type_list_append mt_append (pv 0) (pa_cons pe_str pa_nil)))) (pss_one (ps_if (pt_val (pe_callB call_isiA (by rfl) T.z_isinstance (by decide +kernel) (pa_cons (pv 0) (pa_cons (pe_bltn (v := .ty "dict") (u := .type "dict") (by rfl) T.z_dict (by decide +kernel) rfl) pa_nil)))) (pss_one (ps_for PassesOwn.never rfl (pi_list (pe_slice sl_list (pe_callTy (call_listA rfl) (by rfl) T.z_list (by decide +kernel) (pa_cons (pv 0) pa_nil)) po_none (po_some pe_int))) (pg_name (i := 1) nd rfl (Or.inl rfl)) (pss_one (ps_dput hu (pv 0) (pv 1) pe_str rfl)))) pss_nil)))), ?_⟩
    refine ⟨v, rfl, .inl ⟨v, .ty "list", .type ty, .type "list", ty == "list", rfl, .ty _, ht.ty, kit_ty (kb_list _ ht.mem), _, rfl, ite2 (fun e => ?_) (fun e => ?_)⟩⟩
    · cases ht with
      | @lst a xs ea l =>
        refine ⟨.ref a, rfl, .inl ⟨rfl, _, .inl (.inl ea)⟩, a, xs, _, rfl, rfl, ea, small1000 (by omega), q _ ⟨fun b o n e2 => ?_, fun b e2 => ?_⟩⟩
        · rw [upd_ne (fun z => n (by rw [z]))]
          exact e2
        · cases e2
          refine ⟨fun ys h => ?_, fun ys h => ?_, fun ys h => ?_⟩
          · rw [ea] at h
            cases h
          · rw [ea] at h
            cases h
            exact ⟨_, upd_same, by rw [List.length_append]; exact Nat.le_refl _⟩
          · rw [ea] at h
            cases h
      | _ => exact absurd e (by simp)
    · refine ⟨v, rfl, .inl ⟨v, .ty "dict", .type ty, .type "dict", ty == "dict", rfl, .ty _, ht.ty, kit_ty (kb_dict _ ht.mem), _, rfl, ite2 (fun e2 => ?_) (fun e2 => q _ (SpoR.refl _ _))⟩⟩
      cases ht with
      | @dk a kvs ea l =>
        refine ⟨.ref a, rfl, .inr ⟨a, kvs, rfl, .inl ea, fun l1 n1 => ⟨1, rfl, l1, _, rfl, SqL.of upd_same, fun l2 n2 => ?_⟩⟩⟩
        rw [show (some (1 : Int)) = some ((1 : Nat) : Int) from rfl, cutV_take]
        have S1 := same_new n1 (o := .lst (kvs.map fun kv => kV kv.1))
        have S2 := same_new n2 (o := .lst ((kvs.map fun kv => kV kv.1).take 1))
        have hal : a ≠ l2 := ne_of_none (S1 _ _ ea) n2
        have hlen : ((kvs.map fun kv => kV kv.1).take 1).length ≤ 1 := by rw [List.length_take]; omega
        refine ⟨l2, rfl, ⟨_, SqL.of upd_same⟩, for_it (walk_list (xs := (kvs.map fun kv => kV kv.1).take 1)) (fun i σ' H' => ∃ (y : Option V) (kws : List (Key × V)), σ' = [some (.ref a), y] ∧ H' a = some (.dK kws) ∧ kws.length ≤ kvs.length + i ∧ H' l2 = some (.lst ((kvs.map fun kv => kV kv.1).take 1)) ∧ ∀ b o, b ≠ a → H b = some o → H' b = some o)
          ⟨none, kvs, rfl, S2 _ _ (S1 _ _ ea), Nat.le_refl _, upd_same, fun b o _ e3 => S2 _ _ (S1 _ _ e3)⟩ (fun i σ' H' _ hP => ?_) (fun i x σ' H5 H6 hi hP hY => ?_) (fun σ' H5 hP => ?_)⟩
        · obtain ⟨_, _, _, _, _, h4, _⟩ := hP
          exact SqL.of h4
        · obtain ⟨y, kws, rfl, h1, h2, h3, h4⟩ := hP
          obtain ⟨rfl, hx⟩ := hY
          rw [List.getElem?_take, if_pos (by omega)] at hx
          rw [List.getElem?_map] at hx
          obtain ⟨kv, hk, rfl⟩ := Option.map_eq_some_iff.mp hx
          refine ⟨.ref a, rfl, kV kv.1, rfl, a, _, rfl, DPut.k h1 (small1000 (by omega)), _, _, rfl, upd_same, ?_, ?_, fun b o n e3 => ?_⟩
          · unfold putK
            split
            · rw [List.length_map]
              omega
            · rw [List.length_append]
              show kws.length + 1 ≤ _
              omega
          · rw [upd_ne hal.symm]
            exact h3
          · rw [upd_ne n]
            exact h4 b o n e3
        · obtain ⟨y, kws, rfl, h1, h2, h3, h4⟩ := hP
          refine q _ ⟨fun b o n e3 => h4 b o (fun z => n (by rw [z])) e3, fun b e3 => ?_⟩
          cases e3
          refine ⟨fun ys h => ?_, fun ys h => ?_, fun ys h => ?_⟩
          · rw [ea] at h
            cases h
          · rw [ea] at h
            cases h
          · rw [ea] at h
            cases h
            exact ⟨_, h1, by omega⟩
      | _ => exact absurd e2 (by simp)
theorem ok_turned (T : Txt K mg) : Gd.Cal P w K mg base 1 "_law_turned" spTurn := by
  obtain ⟨f, fd, F, b⟩ := T.d_law_turned
  refine cal F b sc_law_turned (fun vs H Q E h => ?_) (fun cdv A outer s H vs Q E hgd hr h => ?_)
  · obtain ⟨v, d, n, G, rfl, _⟩ := h
    rfl
  · have nd := sc_law_turned.nd
    have hu := hu_of hr
    obtain ⟨v, d, n, G, rfl, sG, hd, hs, q⟩ := h
    have hdH := hd.same sG
    refine ⟨_, (pss_cons (ps_if (pt_val (pe_callB call_isiA (by rfl) T.z_isinstance (by decide +kernel) (pa_cons (pv 0) (pa_cons (pe_bltn (v := .ty "list") (u := .type "list") (by rfl) T.z_list (by decide +kernel) rfl) pa_nil)))) (pss_one (ps_ret (pe_callTy call_tuple_of (by rfl) T.z_tuple (by decide +kernel) (pa_cons (pv 0) pa_nil)))) pss_nil)
      (pss_cons (ps_if (pt_val (pe_callB call_isiA (by rfl) T.z_isinstance (by decide +kernel) (pa_cons (pv 0) (pa_cons (pe_bltn (v := .ty "tuple") (u := .type "tuple") (by rfl) T.z_tuple (by decide +kernel) rfl) pa_nil)))) (pss_one (ps_ret (pe_callTy (call_listA rfl) (by rfl) T.z_list (by decide +kernel) (pa_cons (pv 0) pa_nil)))) pss_nil)
      (pss_cons (ps_if (pt_val (pe_callB call_isiA (by rfl) T.z_isinstance (by decide +kernel) (pa_cons (pv 0) (pa_cons (pe_bltn (v := .ty "dict") (u := .type "dict") (by rfl) T.z_dict (by decide +kernel) rfl) pa_nil)))) (pss_cons (ps_set (i := 1) nd rfl (.inl rfl) pe_dnewK)
      (pss_cons (ps_for PassesOwn.never rfl (pi_list (pe_revL (pe_callTy (call_listA rfl) (by rfl) T.z_list (by decide +kernel) (pa_cons (pv 0) pa_nil)))) (pg_name (i := 2) nd rfl (Or.inl rfl)) (pss_one (ps_dput hu (pv 1) (pv 2) (pe_dget hu (pv 0) (pv 2) (fun _ _ => rfl)) rfl)))
      (pss_one (ps_ret (pv 1))))) pss_nil)
      (pss_one (ps_ret (pv 0)))))), ?_⟩
    refine ⟨v, rfl, .inl ⟨v, .ty "list", .type (tyD d), .type "list", _, rfl, .ty _, tyX hdH, kit_list d, _, rfl, ite2 (fun e => ?_) (fun e => ?_)⟩⟩
    · cases hd with
      | @lst a xs es ha hxs =>
        cases n with
        | zero => exact (show False from hs).elim
        | succ m =>
        obtain ⟨l3, sh⟩ := sh_list hs
        exact ⟨.ref a, rfl, a, xs, rfl, .inl ⟨SqL.of (sG _ _ ha), fun t nt => q (.ref t) (.tuple es) _ (same_new nt) (.tup (jn_new nt upd_same) (hxs.same (jn_old sG))) (.inr (.inl ⟨es, .inr rfl, l3, sh⟩)) fun m => rfl⟩⟩
      | _ => exact absurd e (by simp [tyD])
    · refine ⟨v, rfl, .inl ⟨v, .ty "tuple", .type (tyD d), .type "tuple", _, rfl, .ty _, tyX hdH, kit_tuple d, _, rfl, ite2 (fun e2 => ?_) (fun e2 => ?_)⟩⟩
      · cases hd with
        | @tup a xs es ha hxs =>
          cases n with
          | zero => exact (show False from hs).elim
          | succ m =>
          obtain ⟨l3, sh⟩ := sh_tup hs
          exact ⟨.ref a, rfl, .inl ⟨a, xs, rfl, .inr (SqT.of (sG _ _ ha)), fun t nt => q (.ref t) (.list es) _ (same_new nt) (.lst (jn_new nt upd_same) (hxs.same (jn_old sG))) (.inr (.inl ⟨es, .inl rfl, l3, sh⟩)) fun m => rfl⟩⟩
        | _ => exact absurd e2 (by simp [tyD])
      · refine ⟨v, rfl, .inl ⟨v, .ty "dict", .type (tyD d), .type "dict", _, rfl, .ty _, tyX hdH, kit_dict d, _, rfl, ite2 (fun e3 => ?_) (fun e3 => ⟨v, rfl, q v d _ (Same.refl _) (hd.same (jn_old sG)) hs fun m => rfl⟩)⟩⟩
        cases hd with
        | @dk a kvs ds haG hkv =>
          have ha := sG _ _ haG
          cases n with
          | zero => exact (show False from hs).elim
          | succ m =>
          obtain ⟨l3, ko, sh⟩ := sh_dict hs
          have ko2 : KO (kvs.map fun p => kd p.1) := by rw [← hkv.keys]; exact ko
          intro D nD
          have SD := same_new nD (o := .dK [])
          refine ⟨.ref a, rfl, .inr ⟨a, kvs, rfl, .inl (SD _ _ ha), fun l1 n1 => ⟨l1, _, rfl, SqL.of upd_same, fun l2 n2 => ?_⟩⟩⟩
          have S1 := same_new n1 (o := .lst (kvs.map fun kv => kV kv.1))
          have S2 := same_new n2 (o := .lst (kvs.map fun kv => kV kv.1).reverse)
          have hDl : D ≠ l2 := ne_of_none (S1 _ _ upd_same) n2
          rw [← List.map_reverse] at *
          refine ⟨l2, rfl, ⟨_, SqL.of upd_same⟩, for_it (walk_list (xs := kvs.reverse.map fun kv => kV kv.1)) (fun i σ' H' => ∃ (y : Option V), σ' = [some (.ref a), some (.ref D), y] ∧ H' D = some (.dK (kvs.reverse.take i)) ∧ H' l2 = some (.lst (kvs.reverse.map fun kv => kV kv.1)) ∧ Same H H')
            ⟨none, rfl, S2 _ _ (S1 _ _ upd_same), upd_same, SD.trans (S1.trans S2)⟩ (fun i σ' H' _ hP => ?_) (fun i x σ' H5 H6 hi hP hY => ?_) (fun σ' H5 hP => ?_)⟩
          · obtain ⟨_, _, _, h4, _⟩ := hP
            exact SqL.of h4
          · obtain ⟨y, rfl, h1, h2, h3⟩ := hP
            obtain ⟨rfl, hx⟩ := hY
            rw [List.getElem?_map] at hx
            obtain ⟨kv, hk, rfl⟩ := Option.map_eq_some_iff.mp hx
            obtain ⟨k, u⟩ := kv
            have ndr : (kvs.reverse.map (·.1)).Nodup := by
              rw [List.map_reverse]
              exact (List.reverse_perm _).nodup_iff.mpr (keys_nd ko2)
            have hm : (k, u) ∈ kvs := List.mem_reverse.mp (List.mem_of_getElem? hk)
            obtain ⟨i2, hi2⟩ := List.getElem?_of_mem hm
            refine ⟨.ref a, rfl, kV k, rfl, a, u, rfl, ?_, .ref D, rfl, kV k, rfl, D, _, rfl, DPut.k h1 ?_, _, rfl, ?_, ?_, ?_⟩
            · rw [← valV_at (keys_nd ko2) hi2]
              exact DGet.k (h3 _ _ ha)
            · have := hkv.len
              exact small1000 (by rw [List.length_take, List.length_reverse]; omega)
            · have hkn : k ∉ (kvs.reverse.take i).map (·.1) := by
                rw [List.map_take]
                intro z
                obtain ⟨i3, hi3⟩ := List.getElem?_of_mem z
                rw [List.getElem?_take] at hi3
                split at hi3
                · rename_i hlt
                  have hk2 : (kvs.reverse.map (·.1))[i]? = some k := by rw [List.getElem?_map, hk]; rfl
                  have hlt2 : i < (kvs.reverse.map (·.1)).length := by
                    rcases Nat.lt_or_ge i (kvs.reverse.map (·.1)).length with z | z
                    · exact z
                    · rw [List.getElem?_eq_none z] at hk2
                      cases hk2
                  have := (List.getElem?_inj (by omega) ndr).mp (hi3.trans hk2.symm)
                  omega
                · cases hi3
              rw [putK_new hkn, upd_same, List.take_add_one, hk]
              rfl
            · rw [upd_ne hDl.symm]
              exact h2
            · intro b o e4
              rw [upd_ne (ne_of_none e4 nD)]
              exact h3 b o e4
          · obtain ⟨y, rfl, h1, h2, h3⟩ := hP
            rw [List.length_map, List.take_length] at h1
            refine ⟨.ref D, rfl, q (.ref D) (.dict ds.reverse) _ h3 (.dk (jn_new nD h1) (DqKv.rev (hkv.same (jn_old sG)))) (.inr (.inr ⟨ds.reverse, rfl, by rw [List.length_reverse]; exact l3, ?_, fun p hp => sh p (List.mem_reverse.mp hp)⟩)) fun m => ?_⟩
            · rw [List.map_reverse]
              exact KO.perm ko (List.reverse_perm _)
            · show PyData.tuple ((srt ds.reverse).map _) = PyData.tuple ((srt ds).map _)
              rw [srt_rev ko]
        | _ => exact absurd e3 (by simp [tyD])
end
end K02

set_option Elab.async false
set_option linter.all false
set_option maxRecDepth 100000
set_option maxHeartbeats 1000000
namespace K02
open PySem PySem.Spec PyProof.Rows L2 Gd NdefX
/-! ### the classes of papers: Paper, Denial, Holds, Broken, Held, Lost, Kept -/
def nmP : Nat → Str
  | 0 => "Paper"
  | 1 => "Denial"
  | 2 => "Holds"
  | 3 => "Broken"
  | 4 => "Held"
  | 5 => "Lost"
  | 6 => "Kept"
  | _ => ""
def posP : Nat → Nat
  | 0 => 2
  | 1 => 3
  | 2 => 5
  | 3 => 6
  | 4 => 8
  | 5 => 9
  | 6 => 11
  | _ => 0
def upP : Nat → Nat
  | 3 => 1
  | 5 => 1
  | _ => 0
/-- a class is another one or lies below it -/
def belP (i j : Nat) : Bool := decide (i = j) || decide (j = 0) || (decide (j = 1) && (decide (i = 3) || decide (i = 5)))
def fldN : List Str := ["word", "parts", "triples", "first", "states", "pages", "entries", "number", "ranked", "kept"]
abbrev mS (i j : Nat) : Stmt := (C8.clsBody (topS (posP i))).getD j (.Pass ⟨0, 0, 0, 0⟩)
abbrev nfP (i : Nat) (cc cda : Addr) : NF := ⟨"__init__", nmP i ++ ".__init__", C8.fnArgs (mS i 0), C8.fnBody (mS i 0), C8.fnScope (mS i 0), [("__class__", cc)], cda⟩
/-- what the top has written of them -/
structure Tz (P : Program) (K : PySem.W.Frag) (mg : Str → Option Value) (c f cc cda : Nat → Addr) (fE fB : Addr) : Prop where
  g : ∀ i, i < 7 → mg (nmP i) = some (.ref (c i))
  ic : ∀ i, i < 7 → C8.InsC K (c i)
  nm : ∀ i, i < 7 → NameC K (c i) (nmP i)
  eq : ∀ i, i < 7 → EqC K (c i) fE
  mkr : ∀ i, i < 7 → Mk K (c i) (f i)
  no : ∀ i, i < 7 → ∀ x ∈ fldN, PySem.W.findIn K (.ref (c i)) x = some none
  kin : ∀ i j, i < 7 → j < 2 → PySem.W.kitOne K (.ref (c i)) (.ref (c j)) = some (belP i j)
  tupP : PySem.W.kitOne K (.type "tuple") (.ref (c 0)) = some false
  tupS : ∀ i, i < 7 → PySem.W.subIn K (.type "tuple") (.ref (c i)) = some false
  sub : ∀ i j, i < 7 → j < 7 → PySem.W.subIn K (.ref (c i)) (.ref (c j)) = some (belP i j)
  inj : ∀ i j, i < 7 → j < 7 → c i = c j → i = j
  bl : ∀ i, i < 7 → PySem.W.findIn K (.ref (c i)) "__bool__" = some (if belP i 1 = true then some (.ref fB) else none)
  ln : ∀ i, i < 7 → PySem.W.findIn K (.ref (c i)) "__len__" = some none
  fb : PySem.W.isFn K (.ref fB) = true
  sm : (K.lookup sysModules).isSome = true
  pi : ∃ fd, C8.Fun K "__init__" "Paper.__init__" (mS 0 0) (f 0) fd ∧ fd.defaults = .none
  pe : ∃ fd, C8.Fun K "__eq__" "Paper.__eq__" (mS 0 1) fE fd ∧ fd.defaults = .none
  pb : ∃ fd, C8.Fun K "__bool__" "Denial.__bool__" (mS 1 1) fB fd ∧ fd.defaults = .none
  sf : ∀ i, 0 < i → i < 7 → SupF P K mg (f i) (cc i) (cda i) (c i) (nfP i (cc i) (cda i))
  sc : ∀ i j, i < 7 → 0 < j → j < 7 → belP i j = true → SupC K (c i) (c j) "__init__" (f (upP j))
/-- an instance with these fields -/
def InsF (C : Addr) (fl : List (Str × V)) (H : Hp) (a : Addr) : Prop := ∃ dx fs, H a = some (.ins C dx fs) ∧ fs.length ≤ 10 ∧ ∀ p ∈ fl, fs.lookup p.1 = some p.2
/-- a paper of the class C: its word, its parts, the parts' names -/
def Pap (C : Addr) (ns : List Str) (z : Str) (es : List PyData) (H : Hp) (a : Addr) : Prop := ∃ us t, InsF C (([(("word" : Str), V.str z), (("parts" : Str), V.ref t)] : List (Str × V)) ++ ns.zip us) H a ∧ H t = some (.tup us) ∧ DqAll H us es
theorem Pap.keep {C : Addr} {ns : List Str} {z : Str} {es : List PyData} {H H' : Hp} {a : Addr} (h : Pap C ns z es H a) (k : DK H H') (ha : ∀ C dx fs, H a = some (.ins C dx fs) → H' a = some (.ins C dx fs)) : Pap C ns z es H' a := by
  obtain ⟨us, t, ⟨dx, fs, h1, h2, h3⟩, h4, h5⟩ := h
  exact ⟨us, t, ⟨dx, fs, ha _ _ _ h1, h2, h3⟩, k.t _ _ h4, h5.keep k⟩
theorem Pap.same {C : Addr} {ns : List Str} {z : Str} {es : List PyData} {H H' : Hp} {a : Addr} (h : Pap C ns z es H a) (s : Same H H') : Pap C ns z es H' a := h.keep (DK.of s) fun _ _ _ e => s _ _ e
/-- what an __init__ of so many places leaves of an instance of the class C -/
def spIni (K : PySem.W.Frag) (C : Addr) : Sp := fun vs H Q _ => ∃ (a dx : Addr) (z : Str) (rest : List V) (ds : List PyData), vs = .ref a :: .str z :: rest ∧ H a = some (.ins C dx []) ∧ DqAll H rest ds ∧ (∀ d ∈ ds, Sh 7 d) ∧ rest.length ≤ 3 ∧
  ∀ (us : List V) (t : Addr) (fs : List (Str × V)) (H' : Hp), (∀ b o, b ≠ a → H b = some o → H' b = some o) → H' a = some (.ins C dx fs) → fs.length ≤ 2 → fs.lookup ("word" : Str) = some (.str z) → fs.lookup ("parts" : Str) = some (.ref t) → H' t = some (.tup us) → DqAll H' us (ds.map (fx 7)) → Q .non H'
theorem scPI : FnScope ["self", "word", "parts"] ["self", "word", "parts"] (C8.fnScope (mS 0 0)) := C8.fnScope_by (by decide +kernel)
theorem scPE : FnScope ["self", "other"] ["self", "other"] (C8.fnScope (mS 0 1)) := C8.fnScope_by (by decide +kernel)
theorem scPB : FnScope ["self"] ["self"] (C8.fnScope (mS 1 1)) := C8.fnScope_by (by decide +kernel)
section
variable {P : Program} {w : World} {K : PySem.W.Frag} {mg : Str → Option Value} {base : Heap} {c f cc cda : Nat → Addr} {fE fB : Addr}
theorem Tz.cls (Z : Tz P K mg c f cc cda fE fB) {i : Nat} (h : i < 7) : Cls K (c i) := (Z.ic i h).cl
theorem Tz.noA (Z : Tz P K mg c f cc cda fE fB) {i : Nat} (h : i < 7) {x : Str} (hx : x ∈ fldN) : NoAttr K (c i) x := Z.no i h x hx
theorem fn_pi (Z : Tz P K mg c f cc cda fE fB) (G_fixed : C8.Cal P w K mg base 9 "fixed" (spF 9) []) {i : Nat} (hi : i < 7) : FnR P w K mg base C8.CX0 10 (f 0) (spIni K (c i)) := by
  obtain ⟨fd, F, df⟩ := Z.pi
  obtain ⟨oc, od, dV, kV, doc, pm, an, cdv, ct, osl, rfl, lk, hcd⟩ := F.ex
  obtain rfl : dV = .none := df
  have R := StX.fn_star (P := P) (w := w) (mg := mg) (base := base) (k := 9) (ps := ["self", "word"]) (pv := "parts") (sp := fun vs H Q _ => ∃ (a dx p : Addr) (z : Str) (rest : List V) (ds : List PyData), vs = [.ref a, .str z, .ref p] ∧ H a = some (.ins (c i) dx []) ∧ H p = some (.tup rest) ∧ DqAll H rest ds ∧
    (∀ d ∈ ds, Sh 7 d) ∧ ds.length ≤ 3 ∧ ∀ (us : List V) (t : Addr) (fs : List (Str × V)) (H' : Hp), (∀ b o, b ≠ a → H b = some o → H' b = some o) → H' a = some (.ins (c i) dx fs) → fs.length ≤ 2 → fs.lookup ("word" : Str) = some (.str z) → fs.lookup ("parts" : Str) = some (.ref t) → H' t = some (.tup us) → DqAll H' us (ds.map (fx 7)) → Q .non H')
    lk hcd scPI StX.cxUp_none ?_ fun A outer s H vs Q E hr h => ?_
  · refine fun A outer s H us vs Q E hr e0 r h => R A outer s H us vs Q E hr e0 r ?_
    obtain ⟨a, dx, z, rest, ds, rfl, ha, hd, hs, hl, q⟩ := h
    refine ⟨[.ref a, .str z], rest, rfl, rfl, sm1000 (by omega), fun p np => ⟨a, dx, p, z, rest, ds, rfl, same_new np _ _ ha, upd_same, hd.same (same_new np), hs, by rw [← hd.len]; exact hl, fun us t fs H' k h1 h2 h3 h4 h5 h6 => ?_⟩⟩
    exact q us t fs H' (fun b o n e => k b o n (same_new np _ _ e)) h1 h2 h3 h4 h5 h6
  · exact StX.bind_star2 (B := fun us => bindArgs (PySem.W.fnOf "__init__" "Paper.__init__" (C8.fnArgs (mS 0 0)) (C8.fnBody (mS 0 0)) (C8.fnScope (mS 0 0)) .none kV doc pm an cdv ct) ⟨us, []⟩) (p1 := "self") (p2 := "word") (pv := "parts") (fun a b => rfl) (fun a b r rs => rfl)
  · obtain ⟨a, dx, p, z, rest, ds, rfl, ha, hp, hd, hs, hl, q⟩ := h
    have cl := Z.cls hi
    refine ⟨_, pss_cons (ps_fld (pv 0) (pv 1) rfl) (pss_one (ps_fld (pv 0) (C8.pe_c G_fixed hr (by omega) (by rfl) (pa_cons (pv 2) pa_nil)) rfl)), ?_⟩
    refine ⟨.str z, rfl, .ref a, rfl, a, c i, dx, [], rfl, ha, cl, Z.noA hi (by decide), by decide, ?_⟩
    have k1 : ∀ b o, b ≠ a → H b = some o → (upd H a (.ins (c i) dx (putF "word" (.str z) []))) b = some o := fun b o n e => by
      rw [upd_ne n]
      exact e
    have D1 := DK.ins ha k1
    refine ⟨.ref p, rfl, .ref p, .tuple ds, rfl, .tup (D1.t _ _ hp) (hd.keep D1), .inr (.inl ⟨ds, .inr rfl, hl, hs⟩), fun u H2 s2 hu => ?_⟩
    refine ⟨.ref a, rfl, a, c i, dx, _, rfl, s2 _ _ upd_same, cl, Z.noA hi (by decide), Nat.lt_of_le_of_lt (putF_len _ _ _) (by decide), ?_⟩
    cases hu with
    | @tup t us _ ht hus =>
    have k2 : ∀ b o, b ≠ a → H2 b = some o → (upd H2 a (.ins (c i) dx (putF "parts" (.ref t) (putF "word" (.str z) [])))) b = some o := fun b o n e => by
      rw [upd_ne n]
      exact e
    have D2 := DK.ins (s2 _ _ upd_same) k2
    exact q us t _ _ (fun b o n e => k2 b o n (s2 _ _ (k1 b o n e))) upd_same (Nat.le_trans (putF_len _ _ _) (Nat.succ_le_succ (putF_len _ _ _))) ((look_ne (by decide) _ _).trans (look_same _ _ _)) (look_same _ _ _) (D2.t _ _ ht) (hus.keep D2)
theorem supT_of {nf : NF} (h : ((nf.params.posonlyargs ++ nf.params.args).head?.map (·.arg) = some "self" ∧ nf.scope.names.lookup ("super" : Str) = some .globalImplicit ∧ nf.scope.names.lookup ("__class__" : Str) = some .free ∧ nf.scope.names.lookup ("self" : Str) = some .local)) : SupT nf := by
  obtain ⟨h1, h2, h3, h4⟩ := h
  obtain ⟨ar, h5, h6⟩ := Option.map_eq_some_iff.mp h1
  exact ⟨⟨ar, h5, h6⟩, h2, h3, h4⟩
theorem nsPD : NScope ["self", "word", "parts", "__class__"] ["self", "word", "parts"] ["__class__"] (C8.fnScope (mS 1 0)) := nscope_by (by decide +kernel)
theorem fn_den (Z : Tz P K mg c f cc cda fE fB) (G_fixed : C8.Cal P w K mg base 9 "fixed" (spF 9) []) {i : Nat} (hi : i < 7) (hb : belP i 1 = true) : FnR P w K mg base C8.CX0 11 (f 1) (spIni K (c i)) := by
  have S := Z.sf 1 (by decide) (by decide)
  have T : SupT (nfP 1 (cc 1) (cda 1)) := supT_of (show (((C8.fnArgs (mS 1 0)).posonlyargs ++ (C8.fnArgs (mS 1 0)).args).head?.map (·.arg) = some "self" ∧ (C8.fnScope (mS 1 0)).names.lookup ("super" : Str) = some .globalImplicit ∧ (C8.fnScope (mS 1 0)).names.lookup ("__class__" : Str) = some .free ∧ (C8.fnScope (mS 1 0)).names.lookup ("self" : Str) = some .local) by decide +kernel)
  have C := Z.sc i 1 hi (by decide) (by decide) hb
  have F0 := fn_pi (w := w) (base := base) Z G_fixed hi
  have R := fn_supS (P := P) (w := w) (mg := mg) (base := base) (N := ["self", "word", "parts", "__class__"]) (k := 10) (ps := ["self", "word"]) (pv := "parts") (st := (C8.fnBody (mS 1 0)).getD 0 (.Pass ⟨0, 0, 0, 0⟩)) (rest := [])
    (sp := fun vs H Q _ => ∃ (a dx p : Addr) (z : Str) (rest : List V) (ds : List PyData), vs = [.ref a, .str z, .ref p] ∧ H a = some (.ins (c i) dx []) ∧ H p = some (.tup rest) ∧ DqAll H rest ds ∧
    (∀ d ∈ ds, Sh 7 d) ∧ rest.length ≤ 3 ∧ ∀ (us : List V) (t : Addr) (fs : List (Str × V)) (H' : Hp), (∀ b o, b ≠ a → H b = some o → H' b = some o) → H' a = some (.ins (c i) dx fs) → fs.length ≤ 2 → fs.lookup ("word" : Str) = some (.str z) → fs.lookup ("parts" : Str) = some (.ref t) → H' t = some (.tup us) → DqAll H' us (ds.map (fx 7)) → Q .non H')
    S nsPD (by rfl) (by rfl) ?_ ?_
  · refine fun A outer s H us vs Q E hr e0 r h => R A outer s H us vs Q E hr e0 r ?_
    obtain ⟨a, dx, z, rest, ds, rfl, ha, hd, hs, hl, q⟩ := h
    refine ⟨[.ref a, .str z], rest, rfl, rfl, sm1000 (by omega), fun p np => ⟨a, dx, p, z, rest, ds, rfl, same_new np _ _ ha, upd_same, hd.same (same_new np), hs, hl, fun us t fs H' k h1 h2 h3 h4 h5 h6 => ?_⟩⟩
    exact q us t fs H' (fun b o n e => k b o n (same_new np _ _ e)) h1 h2 h3 h4 h5 h6
  · intro us more hl kV doc pm an cdv ct
    match us, hl with
    | [a, b], _ => cases more <;> rfl
  · intro A outer s H vs Q E hr h hN
    obtain ⟨a, dx, p, z, rest, ds, rfl, ha, hp, hd, hs, hl, q⟩ := h
    refine ⟨_, pss_nil, fun s1 I => ?_⟩
    refine sup_stmt2 (X := ncx C8.CX0 P w K mg base ["self", "word", "parts", "__class__"] (nfP 1 (cc 1) (cda 1)) (f 1) A outer s H E) (i := 0) (a := a) (C := c i) (sup_ctx S T) C F0 hr (pv 1) (pv 2) I hN rfl ha (by decide) (by rfl) (by rfl) (by rfl) (Qn := fun H' => Q .non H') ?_ fun H' s' I' hq => ⟨rfl, H', I', hq⟩
    intro q0 nq
    have Sq := same_new nq (o := .met (f 0) a)
    refine ⟨.str z, rfl, .ref p, rfl, p, rest, rfl, .inl (SqT.of (Sq _ _ hp)), upd_same, a, dx, z, rest, ds, rfl, Sq _ _ ha, hd.same Sq, hs, hl, fun us t fs H' k h1 h2 h3 h4 h5 h6 => ?_⟩
    exact q us t fs H' (fun b o n e => k b o n (Sq _ _ e)) h1 h2 h3 h4 h5 h6
end
end K02

set_option Elab.async false
set_option linter.all false
set_option maxRecDepth 100000
set_option maxHeartbeats 1000000
namespace K02
open PySem PySem.Spec PyProof.Rows L2 Gd NdefX
section
variable {P : Program} {w : World} {K : PySem.W.Frag} {mg : Str → Option Value} {base : Heap} {c f cc cda : Nat → Addr} {fE fB : Addr}
theorem fnR_of {CX : CXT} {k : Nat} {g : Addr} {fd : FuncData} {ps : List Str} {sp : Sp} (F : FnOk P w K mg base CX k g fd ps sp) (b : Binds K fd ps []) : FnR P w K mg base CX k g sp := by
  intro A outer s H us vs Q E hr e0 r h
  have KX : K.In s.heap := e0.mod.kin.keeps fun b o e => (e0.bs b o e).1
  have hl : (us ++ []).length = ps.length := by
    rw [List.append_nil, ← r.length]
    exact F.len _ _ _ _ h
  have bt := b s us KX hl
  rw [List.append_nil] at bt
  exact F.run A outer s H ⟨us, []⟩ us vs Q E hr e0 bt r h
def spB : Sp := fun vs H Q _ => ∃ a, vs = [.ref a] ∧ Q (.bl false) H
theorem fn_bool (Z : Tz P K mg c f cc cda fE fB) : FnR P w K mg base C8.CX0 1 fB spB := by
  obtain ⟨fd, F, df⟩ := Z.pb
  refine fnR_of (ps := ["self"]) (C8.fn0 F scPB (fun vs H Q E h => ?_) (fun cdv A outer s H vs Q E hr h => ?_)) (F.binds df fun _ _ _ _ _ _ us hl => match us, hl with | [_], _ => rfl)
  · obtain ⟨a, rfl, _⟩ := h
    rfl
  · obtain ⟨a, rfl, q⟩ := h
    exact ⟨_, pss_one (ps_ret pe_bl), q⟩
/-- papers compared -/
def spEqP (c : Nat → Addr) : Sp := fun vs H Q _ => ∃ (a b : Addr) (i : Nat) (ns : List Str) (z : Str) (es : List PyData), vs = [.ref a, .ref b] ∧ i < 7 ∧ Pap (c i) ns z es H a ∧ es.length ≤ 3 ∧ (∀ e ∈ es, Tp 14 e) ∧
  ((∃ xs, H b = some (.tup xs) ∧ Q (.bl false) H) ∨ ∃ (j : Nat) (ms : List Str) (y : Str) (ds : List PyData), j < 7 ∧ Pap (c j) ms y ds H b ∧ ds.length ≤ 3 ∧ (∀ e ∈ ds, Tp 14 e) ∧
    Q (.bl (decide (i = j) && (decide (z = y) && PyData.eqv (.tuple es) (.tuple ds)))) H)
theorem nmP_inj : ∀ i, i < 7 → ∀ j, j < 7 → nmP i = nmP j → i = j := by decide +kernel
theorem fn_eq (T : Txt K mg) (Z : Tz P K mg c f cc cda fE fB) : FnR P w K mg base C8.CX0 1 fE (spEqP c) := by
  obtain ⟨fd, F, df⟩ := Z.pe
  refine fnR_of (ps := ["self", "other"]) (C8.fn0 F scPE (fun vs H Q E h => ?_) (fun cdv A outer s H vs Q E hr h => ?_)) (F.binds df fun _ _ _ _ _ _ us hl => match us, hl with | [_, _], _ => rfl)
  · obtain ⟨a, b, _, _, _, _, rfl, _⟩ := h
    rfl
  · obtain ⟨a, b, i, ns, z, es, rfl, hi, hp, hl, hT, h⟩ := h
    refine ⟨_, PSs.nox (pss_cons (ps_if (PW.pt (pw_or (pt_not (pt_val (pe_callB call_isiA (by rfl) T.z_isinstance (by decide +kernel) (pa_cons (pv 1) (pa_cons (C8.pe_gc (v := .ref (c 0)) (by rfl) ⟨_, Z.g 0 (by decide), rfl⟩) pa_nil))))) (pw_or1 (pt_cmpR op_ne (pe_nam (pe_cls (pv 0))) (pe_nam (pe_cls (pv 1))) (nomark _))))) (pss_one (ps_ret pe_bl)) pss_nil)
      (pss_one (ps_ret (pe_and (pe_cmpR op_eq (pe_fld (pv 0) rfl) (pe_fld (pv 1) rfl) (nomark _)) (pe_one (pe_cmpR (op_eqD hr.units) (pe_fld (pv 0) rfl) (pe_fld (pv 1) rfl) (nomark _))))))), ?_⟩
    rcases h with ⟨xs, hb, q⟩ | ⟨j, ms, y, ds, hj, hp2, hl2, hT2, q⟩
    · refine ⟨.ref b, rfl, .inl ⟨.ref b, .ref (c 0), .type "tuple", .ref (c 0), false, rfl, .own _, .base (.tup hb), Z.tupP, _, rfl, iteT q⟩⟩
    · obtain ⟨us, t, ⟨dx, fs, h1, h2, h3⟩, h4, h5⟩ := hp
      obtain ⟨vs, t', ⟨dy, gs, g1, g2, g3⟩, g4, g5⟩ := hp2
      have ii := Z.ic i hi
      have jj := Z.ic j hj
      have bj : belP j 0 = true := by simp [belP]
      have kj := Z.kin j 0 hj (by decide)
      rw [bj] at kj
      refine ⟨.ref b, rfl, .inl ⟨.ref b, .ref (c 0), .ref (c j), .ref (c 0), true, rfl, .own _, .base (.ins g1 jj.cl jj.ha jj.hn jj.htk jj.hm), kj, _, rfl, iteF ?_⟩⟩
      refine ⟨.ref a, rfl, a, c i, dx, fs, rfl, h1, ii, c i, nmP i, rfl, Z.nm i hi, .ref b, rfl, b, c j, dy, gs, rfl, g1, jj, c j, nmP j, rfl, Z.nm j hj, rfl, _, rfl, ?_⟩
      have T1 : Tp 15 (.tuple es) := .inr ⟨es, rfl, hl, hT⟩
      have T2 : Tp 15 (.tuple ds) := .inr ⟨ds, rfl, hl2, hT2⟩
      by_cases hij : i = j
      · subst hij
        refine ite2 (fun e => ?_) (fun _ => ?_)
        · simp at e
        · rw [decide_eq_true rfl, Bool.true_and] at q
          refine ⟨.ref a, rfl, a, c i, dx, fs, .str z, rfl, h1, ii.cl, Z.noA hi (by decide), h3 _ (.head _), .ref b, rfl, b, c i, dy, gs, .str y, rfl, g1, ii.cl, Z.noA hi (by decide), g3 _ (.head _), rfl, _, rfl, ?_⟩
          refine ite2 (fun e => ?_) (fun e => ?_)
          · have hzy : z = y := V.str.inj (of_decide_eq_true e)
            rw [decide_eq_true hzy, Bool.true_and] at q
            refine ⟨.ref a, rfl, a, c i, dx, fs, .ref t, rfl, h1, ii.cl, Z.noA hi (by decide), h3 _ (.tail _ (.head _)), .ref b, rfl, b, c i, dy, gs, .ref t', rfl, g1, ii.cl, Z.noA hi (by decide), g3 _ (.tail _ (.head _)), ?_⟩
            exact ⟨.tuple es, .tuple ds, Dq.dp (.tup h4 h5) T1, Dq.dp (.tup g4 g5) T2, T1.shaped (by decide), T2.shaped (by decide), q⟩
          · have hzy : ¬ z = y := fun h => e (decide_eq_true (by rw [h]))
            rw [decide_eq_false hzy, Bool.false_and] at q
            exact q
      · rw [decide_eq_false hij, Bool.false_and] at q
        refine ite2 (fun e => q) (fun e => ?_)
        exfalso
        refine e ?_
        have hn : ¬ nmP i = nmP j := fun h => hij (nmP_inj i hi j hj h)
        simp [hn]
end
end K02

set_option Elab.async false
set_option linter.all false
set_option maxRecDepth 100000
set_option maxHeartbeats 1000000
namespace K02
open PySem PySem.Spec PyProof.Rows L2 Gd NdefX
/-- what the __init__ of a class with fields leaves -/
def spSub (C : Addr) (z : Str) (ns : List Str) : Sp := fun vs H Q _ => ∃ (a dx : Addr) (ps : List V) (ds : List PyData), vs = .ref a :: ps ∧ ps.length = ns.length ∧ H a = some (.ins C dx []) ∧ DqAll H ps ds ∧ (∀ d ∈ ds, Sh 7 d) ∧
  ∀ H' : Hp, (∀ b o, b ≠ a → H b = some o → H' b = some o) → Pap C ns z (ds.map (fx 7)) H' a → Q .non H'
section
variable {P : Program} {w : World} {K : PySem.W.Frag} {mg : Str → Option Value} {base : Heap} {c f cc cda : Nat → Addr} {fE fB : Addr}
theorem ne_of_none2 {H : Hp} {t a : Addr} {us : List V} {C dx : Addr} {fs : List (Str × V)} (h : H t = some (.tup us)) (h2 : H a = some (.ins C dx fs)) : t ≠ a := fun z => by
  rw [z, h2] at h
  cases h
theorem nsS2 : NScope ["self", "triples", "__class__"] ["self", "triples"] ["__class__"] (C8.fnScope (mS 2 0)) := nscope_by (by decide +kernel)
theorem fn_sub2 (Z : Tz P K mg c f cc cda fE fB) (G_fixed : C8.Cal P w K mg base 9 "fixed" (spF 9) []) : ∃ (kV doc pm : Value) (an : Option Addr) (ct : Value), FnOk P w K mg base C8.CX0 12 (f 2) (PySem.W.fnX "__init__" (nmP 2 ++ ".__init__") (C8.fnArgs (mS 2 0)) (C8.fnBody (mS 2 0)) (C8.fnScope (mS 2 0)) [("__class__", cc 2)] .none kV doc pm an (.ref (cda 2)) ct) ["self", "triples"] (spSub (c 2) "holds" ["triples"]) := by
  have S := Z.sf 2 (by decide) (by decide)
  have T : SupT (nfP 2 (cc 2) (cda 2)) := supT_of (show (((C8.fnArgs (mS 2 0)).posonlyargs ++ (C8.fnArgs (mS 2 0)).args).head?.map (·.arg) = some "self" ∧ (C8.fnScope (mS 2 0)).names.lookup ("super" : Str) = some .globalImplicit ∧ (C8.fnScope (mS 2 0)).names.lookup ("__class__" : Str) = some .free ∧ (C8.fnScope (mS 2 0)).names.lookup ("self" : Str) = some .local) by decide +kernel)
  have C := Z.sc 2 2 (by decide) (by decide) (by decide) (by decide)
  have F0 := fn_pi (w := w) (base := base) Z G_fixed (show 2 < 7 by decide)
  have cl := Z.cls (show 2 < 7 by decide)
  refine fn_supOk (P := P) (w := w) (mg := mg) (base := base) (N := ["self", "triples", "__class__"]) (k := 11) (ps := ["self", "triples"]) (st := (C8.fnBody (mS 2 0)).getD 0 (.Pass ⟨0, 0, 0, 0⟩)) (rest := (C8.fnBody (mS 2 0)).drop 1) (sp := spSub (c 2) "holds" ["triples"]) S nsS2 (by rfl) (by rfl) (fun vs H Q E h => ?_) ?_
  · obtain ⟨a, dx, ps, ds, rfl, hl, _⟩ := h
    exact congrArg Nat.succ hl
  · intro A outer s H vs Q E hr h hN
    obtain ⟨a, dx, ps, ds, rfl, hl, ha, hd, hs, q⟩ := h
    obtain ⟨p0, rfl⟩ : ∃ p0, ps = [p0] := by
      match ps, hl with
      | [p0], _ => exact ⟨p0, rfl⟩
    refine ⟨_, (pss_one (ps_fld (pv 0) (pe_ix ix_tup (pe_fld (pv 0) rfl) pe_int (fun _ _ => rfl)) rfl)), fun s1 I => ?_⟩
    refine sup_stmt (X := ncx C8.CX0 P w K mg base ["self", "triples", "__class__"] (nfP 2 (cc 2) (cda 2)) (f 2) A outer s H E) (i := 0) (a := a) (C := c 2) (sup_ctx S T) C F0 (hr.mono (show 10 ≤ 11 by decide)) (pa_cons pe_str (pa_cons (pv 1) pa_nil)) I hN rfl ha (by decide) (by rfl) (by rfl) (by rfl) (by rfl) (by rfl) ?_ fun H' s' I' hq => ⟨rfl, H', I', hq⟩
    intro q0 nq
    have Sq := same_new nq (o := .met (f 0) a)
    refine ⟨p0, rfl, upd_same, a, dx, "holds", [p0], ds, rfl, Sq _ _ ha, hd.same Sq, hs, by show 1 ≤ 3; decide, fun us t fs H1 kp h1 h2 h3 h4 h5 h6 => ?_⟩
    have hul : us.length = 1 := by
      rw [h6.len, List.length_map, ← hd.len]
      rfl
    obtain ⟨u0, rfl⟩ : ∃ u0, us = [u0] := by
      match us, hul with
      | [u0], _ => exact ⟨u0, rfl⟩
    have kp0 : ∀ b o, b ≠ a → H b = some o → H1 b = some o := fun b o n e => kp b o n (Sq _ _ e)
    have few0 : List.length fs < 1000 := by
      omega
    refine ⟨.ref a, rfl, a, c 2, dx, _, .ref t, rfl, h1, cl, Z.noA (show 2 < 7 by decide) (by decide), h4, t, _, 0, u0, rfl, rfl, SqT.of h5, atI_nat (j := 0) rfl, .ref a, rfl, a, c 2, dx, _, rfl, h1, cl, Z.noA (show 2 < 7 by decide) (by decide), few0, ?_⟩
    have kp1 : ∀ b o, b ≠ a → H b = some o → (upd H1 a (.ins (c 2) dx (putF "triples" u0 fs))) b = some o := fun b o n e => (upd_ne n).trans (kp0 b o n e)
    have ht1 : (upd H1 a (.ins (c 2) dx (putF "triples" u0 fs))) t = some (.tup [u0]) := (upd_ne (ne_of_none2 h5 h1)).trans h5
    have lp1 : (putF "triples" u0 fs).lookup ("parts" : Str) = some (.ref t) := (look_ne (by decide) _ _).trans h4
    have dk1 : DK H1 (upd H1 a (.ins (c 2) dx (putF "triples" u0 fs))) := DK.ins h1 fun b o n e => (upd_ne n).trans e
    refine q _ kp1 ⟨[u0], t, ⟨dx, _, upd_same, ?_, fun p hp => ?_⟩, ht1, h6.keep dk1⟩
    · have e0 := putF_len ("triples" : Str) u0 fs
      omega
    · simp only [List.cons_append, List.nil_append, List.zip_cons_cons, List.zip_nil_right, List.zip_nil_left, List.mem_cons, List.not_mem_nil, or_false] at hp
      rcases hp with rfl | rfl | rfl <;> dsimp only <;> repeat (first | exact look_same _ _ _ | exact h3 | exact h4 | refine (look_ne (by decide) _ _).trans ?_)
theorem nsS3 : NScope ["self", "first", "states", "__class__"] ["self", "first", "states"] ["__class__"] (C8.fnScope (mS 3 0)) := nscope_by (by decide +kernel)
theorem fn_sub3 (Z : Tz P K mg c f cc cda fE fB) (G_fixed : C8.Cal P w K mg base 9 "fixed" (spF 9) []) : ∃ (kV doc pm : Value) (an : Option Addr) (ct : Value), FnOk P w K mg base C8.CX0 12 (f 3) (PySem.W.fnX "__init__" (nmP 3 ++ ".__init__") (C8.fnArgs (mS 3 0)) (C8.fnBody (mS 3 0)) (C8.fnScope (mS 3 0)) [("__class__", cc 3)] .none kV doc pm an (.ref (cda 3)) ct) ["self", "first", "states"] (spSub (c 3) "broken" ["first", "states"]) := by
  have S := Z.sf 3 (by decide) (by decide)
  have T : SupT (nfP 3 (cc 3) (cda 3)) := supT_of (show (((C8.fnArgs (mS 3 0)).posonlyargs ++ (C8.fnArgs (mS 3 0)).args).head?.map (·.arg) = some "self" ∧ (C8.fnScope (mS 3 0)).names.lookup ("super" : Str) = some .globalImplicit ∧ (C8.fnScope (mS 3 0)).names.lookup ("__class__" : Str) = some .free ∧ (C8.fnScope (mS 3 0)).names.lookup ("self" : Str) = some .local) by decide +kernel)
  have C := Z.sc 3 3 (by decide) (by decide) (by decide) (by decide)
  have F0 := fn_den (w := w) (base := base) Z G_fixed (show 3 < 7 by decide) (by decide)
  have cl := Z.cls (show 3 < 7 by decide)
  refine fn_supOk (P := P) (w := w) (mg := mg) (base := base) (N := ["self", "first", "states", "__class__"]) (k := 11) (ps := ["self", "first", "states"]) (st := (C8.fnBody (mS 3 0)).getD 0 (.Pass ⟨0, 0, 0, 0⟩)) (rest := (C8.fnBody (mS 3 0)).drop 1) (sp := spSub (c 3) "broken" ["first", "states"]) S nsS3 (by rfl) (by rfl) (fun vs H Q E h => ?_) ?_
  · obtain ⟨a, dx, ps, ds, rfl, hl, _⟩ := h
    exact congrArg Nat.succ hl
  · intro A outer s H vs Q E hr h hN
    obtain ⟨a, dx, ps, ds, rfl, hl, ha, hd, hs, q⟩ := h
    obtain ⟨p0, p1, rfl⟩ : ∃ p0 p1, ps = [p0, p1] := by
      match ps, hl with
      | [p0, p1], _ => exact ⟨p0, p1, rfl⟩
    refine ⟨_, (pss_cons (ps_fld (pv 0) (pe_ix ix_tup (pe_fld (pv 0) rfl) pe_int (fun _ _ => rfl)) rfl) (pss_one (ps_fld (pv 0) (pe_ix ix_tup (pe_fld (pv 0) rfl) pe_int (fun _ _ => rfl)) rfl))), fun s1 I => ?_⟩
    refine sup_stmt (X := ncx C8.CX0 P w K mg base ["self", "first", "states", "__class__"] (nfP 3 (cc 3) (cda 3)) (f 3) A outer s H E) (i := 0) (a := a) (C := c 3) (sup_ctx S T) C F0 (hr.mono (show 11 ≤ 11 by decide)) (pa_cons pe_str (pa_cons (pv 1) (pa_cons (pv 2) pa_nil))) I hN rfl ha (by decide) (by rfl) (by rfl) (by rfl) (by rfl) (by rfl) ?_ fun H' s' I' hq => ⟨rfl, H', I', hq⟩
    intro q0 nq
    have Sq := same_new nq (o := .met (f 1) a)
    refine ⟨p0, rfl, p1, rfl, upd_same, a, dx, "broken", [p0, p1], ds, rfl, Sq _ _ ha, hd.same Sq, hs, by show 2 ≤ 3; decide, fun us t fs H1 kp h1 h2 h3 h4 h5 h6 => ?_⟩
    have hul : us.length = 2 := by
      rw [h6.len, List.length_map, ← hd.len]
      rfl
    obtain ⟨u0, u1, rfl⟩ : ∃ u0 u1, us = [u0, u1] := by
      match us, hul with
      | [u0, u1], _ => exact ⟨u0, u1, rfl⟩
    have kp0 : ∀ b o, b ≠ a → H b = some o → H1 b = some o := fun b o n e => kp b o n (Sq _ _ e)
    have few0 : List.length fs < 1000 := by
      omega
    refine ⟨.ref a, rfl, a, c 3, dx, _, .ref t, rfl, h1, cl, Z.noA (show 3 < 7 by decide) (by decide), h4, t, _, 0, u0, rfl, rfl, SqT.of h5, atI_nat (j := 0) rfl, .ref a, rfl, a, c 3, dx, _, rfl, h1, cl, Z.noA (show 3 < 7 by decide) (by decide), few0, ?_⟩
    have kp1 : ∀ b o, b ≠ a → H b = some o → (upd H1 a (.ins (c 3) dx (putF "first" u0 fs))) b = some o := fun b o n e => (upd_ne n).trans (kp0 b o n e)
    have ht1 : (upd H1 a (.ins (c 3) dx (putF "first" u0 fs))) t = some (.tup [u0, u1]) := (upd_ne (ne_of_none2 h5 h1)).trans h5
    have lp1 : (putF "first" u0 fs).lookup ("parts" : Str) = some (.ref t) := (look_ne (by decide) _ _).trans h4
    have dk1 : DK H1 (upd H1 a (.ins (c 3) dx (putF "first" u0 fs))) := DK.ins h1 fun b o n e => (upd_ne n).trans e
    have few1 : List.length (putF "first" u0 fs) < 1000 := by
      have e0 := putF_len ("first" : Str) u0 fs
      omega
    refine ⟨.ref a, rfl, a, c 3, dx, _, .ref t, rfl, upd_same, cl, Z.noA (show 3 < 7 by decide) (by decide), lp1, t, _, 1, u1, rfl, rfl, SqT.of ht1, atI_nat (j := 1) rfl, .ref a, rfl, a, c 3, dx, _, rfl, upd_same, cl, Z.noA (show 3 < 7 by decide) (by decide), few1, ?_⟩
    have kp2 : ∀ b o, b ≠ a → H b = some o → (upd (upd H1 a (.ins (c 3) dx (putF "first" u0 fs))) a (.ins (c 3) dx (putF "states" u1 (putF "first" u0 fs)))) b = some o := fun b o n e => (upd_ne n).trans (kp1 b o n e)
    have ht2 : (upd (upd H1 a (.ins (c 3) dx (putF "first" u0 fs))) a (.ins (c 3) dx (putF "states" u1 (putF "first" u0 fs)))) t = some (.tup [u0, u1]) := (upd_ne (ne_of_none2 ht1 upd_same)).trans ht1
    have lp2 : (putF "states" u1 (putF "first" u0 fs)).lookup ("parts" : Str) = some (.ref t) := (look_ne (by decide) _ _).trans lp1
    have dk2 : DK (upd H1 a (.ins (c 3) dx (putF "first" u0 fs))) (upd (upd H1 a (.ins (c 3) dx (putF "first" u0 fs))) a (.ins (c 3) dx (putF "states" u1 (putF "first" u0 fs)))) := DK.ins upd_same fun b o n e => (upd_ne n).trans e
    refine q _ kp2 ⟨[u0, u1], t, ⟨dx, _, upd_same, ?_, fun p hp => ?_⟩, ht2, h6.keep (dk1.trans dk2)⟩
    · have e0 := putF_len ("first" : Str) u0 fs
      have e1 := putF_len ("states" : Str) u1 (putF "first" u0 fs)
      omega
    · simp only [List.cons_append, List.nil_append, List.zip_cons_cons, List.zip_nil_right, List.zip_nil_left, List.mem_cons, List.not_mem_nil, or_false] at hp
      rcases hp with rfl | rfl | rfl | rfl <;> dsimp only <;> repeat (first | exact look_same _ _ _ | exact h3 | exact h4 | refine (look_ne (by decide) _ _).trans ?_)
theorem nsS4 : NScope ["self", "pages", "entries", "__class__"] ["self", "pages", "entries"] ["__class__"] (C8.fnScope (mS 4 0)) := nscope_by (by decide +kernel)
theorem fn_sub4 (Z : Tz P K mg c f cc cda fE fB) (G_fixed : C8.Cal P w K mg base 9 "fixed" (spF 9) []) : ∃ (kV doc pm : Value) (an : Option Addr) (ct : Value), FnOk P w K mg base C8.CX0 12 (f 4) (PySem.W.fnX "__init__" (nmP 4 ++ ".__init__") (C8.fnArgs (mS 4 0)) (C8.fnBody (mS 4 0)) (C8.fnScope (mS 4 0)) [("__class__", cc 4)] .none kV doc pm an (.ref (cda 4)) ct) ["self", "pages", "entries"] (spSub (c 4) "held" ["pages", "entries"]) := by
  have S := Z.sf 4 (by decide) (by decide)
  have T : SupT (nfP 4 (cc 4) (cda 4)) := supT_of (show (((C8.fnArgs (mS 4 0)).posonlyargs ++ (C8.fnArgs (mS 4 0)).args).head?.map (·.arg) = some "self" ∧ (C8.fnScope (mS 4 0)).names.lookup ("super" : Str) = some .globalImplicit ∧ (C8.fnScope (mS 4 0)).names.lookup ("__class__" : Str) = some .free ∧ (C8.fnScope (mS 4 0)).names.lookup ("self" : Str) = some .local) by decide +kernel)
  have C := Z.sc 4 4 (by decide) (by decide) (by decide) (by decide)
  have F0 := fn_pi (w := w) (base := base) Z G_fixed (show 4 < 7 by decide)
  have cl := Z.cls (show 4 < 7 by decide)
  refine fn_supOk (P := P) (w := w) (mg := mg) (base := base) (N := ["self", "pages", "entries", "__class__"]) (k := 11) (ps := ["self", "pages", "entries"]) (st := (C8.fnBody (mS 4 0)).getD 0 (.Pass ⟨0, 0, 0, 0⟩)) (rest := (C8.fnBody (mS 4 0)).drop 1) (sp := spSub (c 4) "held" ["pages", "entries"]) S nsS4 (by rfl) (by rfl) (fun vs H Q E h => ?_) ?_
  · obtain ⟨a, dx, ps, ds, rfl, hl, _⟩ := h
    exact congrArg Nat.succ hl
  · intro A outer s H vs Q E hr h hN
    obtain ⟨a, dx, ps, ds, rfl, hl, ha, hd, hs, q⟩ := h
    obtain ⟨p0, p1, rfl⟩ : ∃ p0 p1, ps = [p0, p1] := by
      match ps, hl with
      | [p0, p1], _ => exact ⟨p0, p1, rfl⟩
    refine ⟨_, (pss_cons (ps_fld (pv 0) (pe_ix ix_tup (pe_fld (pv 0) rfl) pe_int (fun _ _ => rfl)) rfl) (pss_one (ps_fld (pv 0) (pe_ix ix_tup (pe_fld (pv 0) rfl) pe_int (fun _ _ => rfl)) rfl))), fun s1 I => ?_⟩
    refine sup_stmt (X := ncx C8.CX0 P w K mg base ["self", "pages", "entries", "__class__"] (nfP 4 (cc 4) (cda 4)) (f 4) A outer s H E) (i := 0) (a := a) (C := c 4) (sup_ctx S T) C F0 (hr.mono (show 10 ≤ 11 by decide)) (pa_cons pe_str (pa_cons (pv 1) (pa_cons (pv 2) pa_nil))) I hN rfl ha (by decide) (by rfl) (by rfl) (by rfl) (by rfl) (by rfl) ?_ fun H' s' I' hq => ⟨rfl, H', I', hq⟩
    intro q0 nq
    have Sq := same_new nq (o := .met (f 0) a)
    refine ⟨p0, rfl, p1, rfl, upd_same, a, dx, "held", [p0, p1], ds, rfl, Sq _ _ ha, hd.same Sq, hs, by show 2 ≤ 3; decide, fun us t fs H1 kp h1 h2 h3 h4 h5 h6 => ?_⟩
    have hul : us.length = 2 := by
      rw [h6.len, List.length_map, ← hd.len]
      rfl
    obtain ⟨u0, u1, rfl⟩ : ∃ u0 u1, us = [u0, u1] := by
      match us, hul with
      | [u0, u1], _ => exact ⟨u0, u1, rfl⟩
    have kp0 : ∀ b o, b ≠ a → H b = some o → H1 b = some o := fun b o n e => kp b o n (Sq _ _ e)
    have few0 : List.length fs < 1000 := by
      omega
    refine ⟨.ref a, rfl, a, c 4, dx, _, .ref t, rfl, h1, cl, Z.noA (show 4 < 7 by decide) (by decide), h4, t, _, 0, u0, rfl, rfl, SqT.of h5, atI_nat (j := 0) rfl, .ref a, rfl, a, c 4, dx, _, rfl, h1, cl, Z.noA (show 4 < 7 by decide) (by decide), few0, ?_⟩
    have kp1 : ∀ b o, b ≠ a → H b = some o → (upd H1 a (.ins (c 4) dx (putF "pages" u0 fs))) b = some o := fun b o n e => (upd_ne n).trans (kp0 b o n e)
    have ht1 : (upd H1 a (.ins (c 4) dx (putF "pages" u0 fs))) t = some (.tup [u0, u1]) := (upd_ne (ne_of_none2 h5 h1)).trans h5
    have lp1 : (putF "pages" u0 fs).lookup ("parts" : Str) = some (.ref t) := (look_ne (by decide) _ _).trans h4
    have dk1 : DK H1 (upd H1 a (.ins (c 4) dx (putF "pages" u0 fs))) := DK.ins h1 fun b o n e => (upd_ne n).trans e
    have few1 : List.length (putF "pages" u0 fs) < 1000 := by
      have e0 := putF_len ("pages" : Str) u0 fs
      omega
    refine ⟨.ref a, rfl, a, c 4, dx, _, .ref t, rfl, upd_same, cl, Z.noA (show 4 < 7 by decide) (by decide), lp1, t, _, 1, u1, rfl, rfl, SqT.of ht1, atI_nat (j := 1) rfl, .ref a, rfl, a, c 4, dx, _, rfl, upd_same, cl, Z.noA (show 4 < 7 by decide) (by decide), few1, ?_⟩
    have kp2 : ∀ b o, b ≠ a → H b = some o → (upd (upd H1 a (.ins (c 4) dx (putF "pages" u0 fs))) a (.ins (c 4) dx (putF "entries" u1 (putF "pages" u0 fs)))) b = some o := fun b o n e => (upd_ne n).trans (kp1 b o n e)
    have ht2 : (upd (upd H1 a (.ins (c 4) dx (putF "pages" u0 fs))) a (.ins (c 4) dx (putF "entries" u1 (putF "pages" u0 fs)))) t = some (.tup [u0, u1]) := (upd_ne (ne_of_none2 ht1 upd_same)).trans ht1
    have lp2 : (putF "entries" u1 (putF "pages" u0 fs)).lookup ("parts" : Str) = some (.ref t) := (look_ne (by decide) _ _).trans lp1
    have dk2 : DK (upd H1 a (.ins (c 4) dx (putF "pages" u0 fs))) (upd (upd H1 a (.ins (c 4) dx (putF "pages" u0 fs))) a (.ins (c 4) dx (putF "entries" u1 (putF "pages" u0 fs)))) := DK.ins upd_same fun b o n e => (upd_ne n).trans e
    refine q _ kp2 ⟨[u0, u1], t, ⟨dx, _, upd_same, ?_, fun p hp => ?_⟩, ht2, h6.keep (dk1.trans dk2)⟩
    · have e0 := putF_len ("pages" : Str) u0 fs
      have e1 := putF_len ("entries" : Str) u1 (putF "pages" u0 fs)
      omega
    · simp only [List.cons_append, List.nil_append, List.zip_cons_cons, List.zip_nil_right, List.zip_nil_left, List.mem_cons, List.not_mem_nil, or_false] at hp
      rcases hp with rfl | rfl | rfl | rfl <;> dsimp only <;> repeat (first | exact look_same _ _ _ | exact h3 | exact h4 | refine (look_ne (by decide) _ _).trans ?_)
theorem nsS5 : NScope ["self", "number", "ranked", "kept", "__class__"] ["self", "number", "ranked", "kept"] ["__class__"] (C8.fnScope (mS 5 0)) := nscope_by (by decide +kernel)
theorem fn_sub5 (Z : Tz P K mg c f cc cda fE fB) (G_fixed : C8.Cal P w K mg base 9 "fixed" (spF 9) []) : ∃ (kV doc pm : Value) (an : Option Addr) (ct : Value), FnOk P w K mg base C8.CX0 12 (f 5) (PySem.W.fnX "__init__" (nmP 5 ++ ".__init__") (C8.fnArgs (mS 5 0)) (C8.fnBody (mS 5 0)) (C8.fnScope (mS 5 0)) [("__class__", cc 5)] .none kV doc pm an (.ref (cda 5)) ct) ["self", "number", "ranked", "kept"] (spSub (c 5) "lost" ["number", "ranked", "kept"]) := by
  have S := Z.sf 5 (by decide) (by decide)
  have T : SupT (nfP 5 (cc 5) (cda 5)) := supT_of (show (((C8.fnArgs (mS 5 0)).posonlyargs ++ (C8.fnArgs (mS 5 0)).args).head?.map (·.arg) = some "self" ∧ (C8.fnScope (mS 5 0)).names.lookup ("super" : Str) = some .globalImplicit ∧ (C8.fnScope (mS 5 0)).names.lookup ("__class__" : Str) = some .free ∧ (C8.fnScope (mS 5 0)).names.lookup ("self" : Str) = some .local) by decide +kernel)
  have C := Z.sc 5 5 (by decide) (by decide) (by decide) (by decide)
  have F0 := fn_den (w := w) (base := base) Z G_fixed (show 5 < 7 by decide) (by decide)
  have cl := Z.cls (show 5 < 7 by decide)
  refine fn_supOk (P := P) (w := w) (mg := mg) (base := base) (N := ["self", "number", "ranked", "kept", "__class__"]) (k := 11) (ps := ["self", "number", "ranked", "kept"]) (st := (C8.fnBody (mS 5 0)).getD 0 (.Pass ⟨0, 0, 0, 0⟩)) (rest := (C8.fnBody (mS 5 0)).drop 1) (sp := spSub (c 5) "lost" ["number", "ranked", "kept"]) S nsS5 (by rfl) (by rfl) (fun vs H Q E h => ?_) ?_
  · obtain ⟨a, dx, ps, ds, rfl, hl, _⟩ := h
    exact congrArg Nat.succ hl
  · intro A outer s H vs Q E hr h hN
    obtain ⟨a, dx, ps, ds, rfl, hl, ha, hd, hs, q⟩ := h
    obtain ⟨p0, p1, p2, rfl⟩ : ∃ p0 p1 p2, ps = [p0, p1, p2] := by
      match ps, hl with
      | [p0, p1, p2], _ => exact ⟨p0, p1, p2, rfl⟩
    refine ⟨_, (pss_cons (ps_fld (pv 0) (pe_ix ix_tup (pe_fld (pv 0) rfl) pe_int (fun _ _ => rfl)) rfl) (pss_cons (ps_fld (pv 0) (pe_ix ix_tup (pe_fld (pv 0) rfl) pe_int (fun _ _ => rfl)) rfl) (pss_one (ps_fld (pv 0) (pe_ix ix_tup (pe_fld (pv 0) rfl) pe_int (fun _ _ => rfl)) rfl)))), fun s1 I => ?_⟩
    refine sup_stmt (X := ncx C8.CX0 P w K mg base ["self", "number", "ranked", "kept", "__class__"] (nfP 5 (cc 5) (cda 5)) (f 5) A outer s H E) (i := 0) (a := a) (C := c 5) (sup_ctx S T) C F0 (hr.mono (show 11 ≤ 11 by decide)) (pa_cons pe_str (pa_cons (pv 1) (pa_cons (pv 2) (pa_cons (pv 3) pa_nil)))) I hN rfl ha (by decide) (by rfl) (by rfl) (by rfl) (by rfl) (by rfl) ?_ fun H' s' I' hq => ⟨rfl, H', I', hq⟩
    intro q0 nq
    have Sq := same_new nq (o := .met (f 1) a)
    refine ⟨p0, rfl, p1, rfl, p2, rfl, upd_same, a, dx, "lost", [p0, p1, p2], ds, rfl, Sq _ _ ha, hd.same Sq, hs, by show 3 ≤ 3; decide, fun us t fs H1 kp h1 h2 h3 h4 h5 h6 => ?_⟩
    have hul : us.length = 3 := by
      rw [h6.len, List.length_map, ← hd.len]
      rfl
    obtain ⟨u0, u1, u2, rfl⟩ : ∃ u0 u1 u2, us = [u0, u1, u2] := by
      match us, hul with
      | [u0, u1, u2], _ => exact ⟨u0, u1, u2, rfl⟩
    have kp0 : ∀ b o, b ≠ a → H b = some o → H1 b = some o := fun b o n e => kp b o n (Sq _ _ e)
    have few0 : List.length fs < 1000 := by
      omega
    refine ⟨.ref a, rfl, a, c 5, dx, _, .ref t, rfl, h1, cl, Z.noA (show 5 < 7 by decide) (by decide), h4, t, _, 0, u0, rfl, rfl, SqT.of h5, atI_nat (j := 0) rfl, .ref a, rfl, a, c 5, dx, _, rfl, h1, cl, Z.noA (show 5 < 7 by decide) (by decide), few0, ?_⟩
    have kp1 : ∀ b o, b ≠ a → H b = some o → (upd H1 a (.ins (c 5) dx (putF "number" u0 fs))) b = some o := fun b o n e => (upd_ne n).trans (kp0 b o n e)
    have ht1 : (upd H1 a (.ins (c 5) dx (putF "number" u0 fs))) t = some (.tup [u0, u1, u2]) := (upd_ne (ne_of_none2 h5 h1)).trans h5
    have lp1 : (putF "number" u0 fs).lookup ("parts" : Str) = some (.ref t) := (look_ne (by decide) _ _).trans h4
    have dk1 : DK H1 (upd H1 a (.ins (c 5) dx (putF "number" u0 fs))) := DK.ins h1 fun b o n e => (upd_ne n).trans e
    have few1 : List.length (putF "number" u0 fs) < 1000 := by
      have e0 := putF_len ("number" : Str) u0 fs
      omega
    refine ⟨.ref a, rfl, a, c 5, dx, _, .ref t, rfl, upd_same, cl, Z.noA (show 5 < 7 by decide) (by decide), lp1, t, _, 1, u1, rfl, rfl, SqT.of ht1, atI_nat (j := 1) rfl, .ref a, rfl, a, c 5, dx, _, rfl, upd_same, cl, Z.noA (show 5 < 7 by decide) (by decide), few1, ?_⟩
    have kp2 : ∀ b o, b ≠ a → H b = some o → (upd (upd H1 a (.ins (c 5) dx (putF "number" u0 fs))) a (.ins (c 5) dx (putF "ranked" u1 (putF "number" u0 fs)))) b = some o := fun b o n e => (upd_ne n).trans (kp1 b o n e)
    have ht2 : (upd (upd H1 a (.ins (c 5) dx (putF "number" u0 fs))) a (.ins (c 5) dx (putF "ranked" u1 (putF "number" u0 fs)))) t = some (.tup [u0, u1, u2]) := (upd_ne (ne_of_none2 ht1 upd_same)).trans ht1
    have lp2 : (putF "ranked" u1 (putF "number" u0 fs)).lookup ("parts" : Str) = some (.ref t) := (look_ne (by decide) _ _).trans lp1
    have dk2 : DK (upd H1 a (.ins (c 5) dx (putF "number" u0 fs))) (upd (upd H1 a (.ins (c 5) dx (putF "number" u0 fs))) a (.ins (c 5) dx (putF "ranked" u1 (putF "number" u0 fs)))) := DK.ins upd_same fun b o n e => (upd_ne n).trans e
    have few2 : List.length (putF "ranked" u1 (putF "number" u0 fs)) < 1000 := by
      have e0 := putF_len ("number" : Str) u0 fs
      have e1 := putF_len ("ranked" : Str) u1 (putF "number" u0 fs)
      omega
    refine ⟨.ref a, rfl, a, c 5, dx, _, .ref t, rfl, upd_same, cl, Z.noA (show 5 < 7 by decide) (by decide), lp2, t, _, 2, u2, rfl, rfl, SqT.of ht2, atI_nat (j := 2) rfl, .ref a, rfl, a, c 5, dx, _, rfl, upd_same, cl, Z.noA (show 5 < 7 by decide) (by decide), few2, ?_⟩
    have kp3 : ∀ b o, b ≠ a → H b = some o → (upd (upd (upd H1 a (.ins (c 5) dx (putF "number" u0 fs))) a (.ins (c 5) dx (putF "ranked" u1 (putF "number" u0 fs)))) a (.ins (c 5) dx (putF "kept" u2 (putF "ranked" u1 (putF "number" u0 fs))))) b = some o := fun b o n e => (upd_ne n).trans (kp2 b o n e)
    have ht3 : (upd (upd (upd H1 a (.ins (c 5) dx (putF "number" u0 fs))) a (.ins (c 5) dx (putF "ranked" u1 (putF "number" u0 fs)))) a (.ins (c 5) dx (putF "kept" u2 (putF "ranked" u1 (putF "number" u0 fs))))) t = some (.tup [u0, u1, u2]) := (upd_ne (ne_of_none2 ht2 upd_same)).trans ht2
    have lp3 : (putF "kept" u2 (putF "ranked" u1 (putF "number" u0 fs))).lookup ("parts" : Str) = some (.ref t) := (look_ne (by decide) _ _).trans lp2
    have dk3 : DK (upd (upd H1 a (.ins (c 5) dx (putF "number" u0 fs))) a (.ins (c 5) dx (putF "ranked" u1 (putF "number" u0 fs)))) (upd (upd (upd H1 a (.ins (c 5) dx (putF "number" u0 fs))) a (.ins (c 5) dx (putF "ranked" u1 (putF "number" u0 fs)))) a (.ins (c 5) dx (putF "kept" u2 (putF "ranked" u1 (putF "number" u0 fs))))) := DK.ins upd_same fun b o n e => (upd_ne n).trans e
    refine q _ kp3 ⟨[u0, u1, u2], t, ⟨dx, _, upd_same, ?_, fun p hp => ?_⟩, ht3, h6.keep ((dk1.trans dk2).trans dk3)⟩
    · have e0 := putF_len ("number" : Str) u0 fs
      have e1 := putF_len ("ranked" : Str) u1 (putF "number" u0 fs)
      have e2 := putF_len ("kept" : Str) u2 (putF "ranked" u1 (putF "number" u0 fs))
      omega
    · simp only [List.cons_append, List.nil_append, List.zip_cons_cons, List.zip_nil_right, List.zip_nil_left, List.mem_cons, List.not_mem_nil, or_false] at hp
      rcases hp with rfl | rfl | rfl | rfl | rfl <;> dsimp only <;> repeat (first | exact look_same _ _ _ | exact h3 | exact h4 | refine (look_ne (by decide) _ _).trans ?_)
theorem nsS6 : NScope ["self", "pages", "entries", "triples", "__class__"] ["self", "pages", "entries", "triples"] ["__class__"] (C8.fnScope (mS 6 0)) := nscope_by (by decide +kernel)
theorem fn_sub6 (Z : Tz P K mg c f cc cda fE fB) (G_fixed : C8.Cal P w K mg base 9 "fixed" (spF 9) []) : ∃ (kV doc pm : Value) (an : Option Addr) (ct : Value), FnOk P w K mg base C8.CX0 12 (f 6) (PySem.W.fnX "__init__" (nmP 6 ++ ".__init__") (C8.fnArgs (mS 6 0)) (C8.fnBody (mS 6 0)) (C8.fnScope (mS 6 0)) [("__class__", cc 6)] .none kV doc pm an (.ref (cda 6)) ct) ["self", "pages", "entries", "triples"] (spSub (c 6) "kept" ["pages", "entries", "triples"]) := by
  have S := Z.sf 6 (by decide) (by decide)
  have T : SupT (nfP 6 (cc 6) (cda 6)) := supT_of (show (((C8.fnArgs (mS 6 0)).posonlyargs ++ (C8.fnArgs (mS 6 0)).args).head?.map (·.arg) = some "self" ∧ (C8.fnScope (mS 6 0)).names.lookup ("super" : Str) = some .globalImplicit ∧ (C8.fnScope (mS 6 0)).names.lookup ("__class__" : Str) = some .free ∧ (C8.fnScope (mS 6 0)).names.lookup ("self" : Str) = some .local) by decide +kernel)
  have C := Z.sc 6 6 (by decide) (by decide) (by decide) (by decide)
  have F0 := fn_pi (w := w) (base := base) Z G_fixed (show 6 < 7 by decide)
  have cl := Z.cls (show 6 < 7 by decide)
  refine fn_supOk (P := P) (w := w) (mg := mg) (base := base) (N := ["self", "pages", "entries", "triples", "__class__"]) (k := 11) (ps := ["self", "pages", "entries", "triples"]) (st := (C8.fnBody (mS 6 0)).getD 0 (.Pass ⟨0, 0, 0, 0⟩)) (rest := (C8.fnBody (mS 6 0)).drop 1) (sp := spSub (c 6) "kept" ["pages", "entries", "triples"]) S nsS6 (by rfl) (by rfl) (fun vs H Q E h => ?_) ?_
  · obtain ⟨a, dx, ps, ds, rfl, hl, _⟩ := h
    exact congrArg Nat.succ hl
  · intro A outer s H vs Q E hr h hN
    obtain ⟨a, dx, ps, ds, rfl, hl, ha, hd, hs, q⟩ := h
    obtain ⟨p0, p1, p2, rfl⟩ : ∃ p0 p1 p2, ps = [p0, p1, p2] := by
      match ps, hl with
      | [p0, p1, p2], _ => exact ⟨p0, p1, p2, rfl⟩
    refine ⟨_, (pss_cons (ps_fld (pv 0) (pe_ix ix_tup (pe_fld (pv 0) rfl) pe_int (fun _ _ => rfl)) rfl) (pss_cons (ps_fld (pv 0) (pe_ix ix_tup (pe_fld (pv 0) rfl) pe_int (fun _ _ => rfl)) rfl) (pss_one (ps_fld (pv 0) (pe_ix ix_tup (pe_fld (pv 0) rfl) pe_int (fun _ _ => rfl)) rfl)))), fun s1 I => ?_⟩
    refine sup_stmt (X := ncx C8.CX0 P w K mg base ["self", "pages", "entries", "triples", "__class__"] (nfP 6 (cc 6) (cda 6)) (f 6) A outer s H E) (i := 0) (a := a) (C := c 6) (sup_ctx S T) C F0 (hr.mono (show 10 ≤ 11 by decide)) (pa_cons pe_str (pa_cons (pv 1) (pa_cons (pv 2) (pa_cons (pv 3) pa_nil)))) I hN rfl ha (by decide) (by rfl) (by rfl) (by rfl) (by rfl) (by rfl) ?_ fun H' s' I' hq => ⟨rfl, H', I', hq⟩
    intro q0 nq
    have Sq := same_new nq (o := .met (f 0) a)
    refine ⟨p0, rfl, p1, rfl, p2, rfl, upd_same, a, dx, "kept", [p0, p1, p2], ds, rfl, Sq _ _ ha, hd.same Sq, hs, by show 3 ≤ 3; decide, fun us t fs H1 kp h1 h2 h3 h4 h5 h6 => ?_⟩
    have hul : us.length = 3 := by
      rw [h6.len, List.length_map, ← hd.len]
      rfl
    obtain ⟨u0, u1, u2, rfl⟩ : ∃ u0 u1 u2, us = [u0, u1, u2] := by
      match us, hul with
      | [u0, u1, u2], _ => exact ⟨u0, u1, u2, rfl⟩
    have kp0 : ∀ b o, b ≠ a → H b = some o → H1 b = some o := fun b o n e => kp b o n (Sq _ _ e)
    have few0 : List.length fs < 1000 := by
      omega
    refine ⟨.ref a, rfl, a, c 6, dx, _, .ref t, rfl, h1, cl, Z.noA (show 6 < 7 by decide) (by decide), h4, t, _, 0, u0, rfl, rfl, SqT.of h5, atI_nat (j := 0) rfl, .ref a, rfl, a, c 6, dx, _, rfl, h1, cl, Z.noA (show 6 < 7 by decide) (by decide), few0, ?_⟩
    have kp1 : ∀ b o, b ≠ a → H b = some o → (upd H1 a (.ins (c 6) dx (putF "pages" u0 fs))) b = some o := fun b o n e => (upd_ne n).trans (kp0 b o n e)
    have ht1 : (upd H1 a (.ins (c 6) dx (putF "pages" u0 fs))) t = some (.tup [u0, u1, u2]) := (upd_ne (ne_of_none2 h5 h1)).trans h5
    have lp1 : (putF "pages" u0 fs).lookup ("parts" : Str) = some (.ref t) := (look_ne (by decide) _ _).trans h4
    have dk1 : DK H1 (upd H1 a (.ins (c 6) dx (putF "pages" u0 fs))) := DK.ins h1 fun b o n e => (upd_ne n).trans e
    have few1 : List.length (putF "pages" u0 fs) < 1000 := by
      have e0 := putF_len ("pages" : Str) u0 fs
      omega
    refine ⟨.ref a, rfl, a, c 6, dx, _, .ref t, rfl, upd_same, cl, Z.noA (show 6 < 7 by decide) (by decide), lp1, t, _, 1, u1, rfl, rfl, SqT.of ht1, atI_nat (j := 1) rfl, .ref a, rfl, a, c 6, dx, _, rfl, upd_same, cl, Z.noA (show 6 < 7 by decide) (by decide), few1, ?_⟩
    have kp2 : ∀ b o, b ≠ a → H b = some o → (upd (upd H1 a (.ins (c 6) dx (putF "pages" u0 fs))) a (.ins (c 6) dx (putF "entries" u1 (putF "pages" u0 fs)))) b = some o := fun b o n e => (upd_ne n).trans (kp1 b o n e)
    have ht2 : (upd (upd H1 a (.ins (c 6) dx (putF "pages" u0 fs))) a (.ins (c 6) dx (putF "entries" u1 (putF "pages" u0 fs)))) t = some (.tup [u0, u1, u2]) := (upd_ne (ne_of_none2 ht1 upd_same)).trans ht1
    have lp2 : (putF "entries" u1 (putF "pages" u0 fs)).lookup ("parts" : Str) = some (.ref t) := (look_ne (by decide) _ _).trans lp1
    have dk2 : DK (upd H1 a (.ins (c 6) dx (putF "pages" u0 fs))) (upd (upd H1 a (.ins (c 6) dx (putF "pages" u0 fs))) a (.ins (c 6) dx (putF "entries" u1 (putF "pages" u0 fs)))) := DK.ins upd_same fun b o n e => (upd_ne n).trans e
    have few2 : List.length (putF "entries" u1 (putF "pages" u0 fs)) < 1000 := by
      have e0 := putF_len ("pages" : Str) u0 fs
      have e1 := putF_len ("entries" : Str) u1 (putF "pages" u0 fs)
      omega
    refine ⟨.ref a, rfl, a, c 6, dx, _, .ref t, rfl, upd_same, cl, Z.noA (show 6 < 7 by decide) (by decide), lp2, t, _, 2, u2, rfl, rfl, SqT.of ht2, atI_nat (j := 2) rfl, .ref a, rfl, a, c 6, dx, _, rfl, upd_same, cl, Z.noA (show 6 < 7 by decide) (by decide), few2, ?_⟩
    have kp3 : ∀ b o, b ≠ a → H b = some o → (upd (upd (upd H1 a (.ins (c 6) dx (putF "pages" u0 fs))) a (.ins (c 6) dx (putF "entries" u1 (putF "pages" u0 fs)))) a (.ins (c 6) dx (putF "triples" u2 (putF "entries" u1 (putF "pages" u0 fs))))) b = some o := fun b o n e => (upd_ne n).trans (kp2 b o n e)
    have ht3 : (upd (upd (upd H1 a (.ins (c 6) dx (putF "pages" u0 fs))) a (.ins (c 6) dx (putF "entries" u1 (putF "pages" u0 fs)))) a (.ins (c 6) dx (putF "triples" u2 (putF "entries" u1 (putF "pages" u0 fs))))) t = some (.tup [u0, u1, u2]) := (upd_ne (ne_of_none2 ht2 upd_same)).trans ht2
    have lp3 : (putF "triples" u2 (putF "entries" u1 (putF "pages" u0 fs))).lookup ("parts" : Str) = some (.ref t) := (look_ne (by decide) _ _).trans lp2
    have dk3 : DK (upd (upd H1 a (.ins (c 6) dx (putF "pages" u0 fs))) a (.ins (c 6) dx (putF "entries" u1 (putF "pages" u0 fs)))) (upd (upd (upd H1 a (.ins (c 6) dx (putF "pages" u0 fs))) a (.ins (c 6) dx (putF "entries" u1 (putF "pages" u0 fs)))) a (.ins (c 6) dx (putF "triples" u2 (putF "entries" u1 (putF "pages" u0 fs))))) := DK.ins upd_same fun b o n e => (upd_ne n).trans e
    refine q _ kp3 ⟨[u0, u1, u2], t, ⟨dx, _, upd_same, ?_, fun p hp => ?_⟩, ht3, h6.keep ((dk1.trans dk2).trans dk3)⟩
    · have e0 := putF_len ("pages" : Str) u0 fs
      have e1 := putF_len ("entries" : Str) u1 (putF "pages" u0 fs)
      have e2 := putF_len ("triples" : Str) u2 (putF "entries" u1 (putF "pages" u0 fs))
      omega
    · simp only [List.cons_append, List.nil_append, List.zip_cons_cons, List.zip_nil_right, List.zip_nil_left, List.mem_cons, List.not_mem_nil, or_false] at hp
      rcases hp with rfl | rfl | rfl | rfl | rfl <;> dsimp only <;> repeat (first | exact look_same _ _ _ | exact h3 | exact h4 | refine (look_ne (by decide) _ _).trans ?_)
end
end K02

set_option Elab.async false
set_option linter.all false
set_option maxRecDepth 100000
set_option maxHeartbeats 1000000
namespace K02
open PySem PySem.Spec PyProof.Rows L2 Gd NdefX
/-! ### making papers -/
structure MkP (P : Program) (w : World) (K : PySem.W.Frag) (mg : Str → Option Value) (base : Heap) (x : Str) (C : Addr) (k : Nat) (sp : Sp) : Prop where
  ex : ∃ g, Mk K C g ∧ FnR P w K mg base C8.CX0 k g sp
  gC : mg x = some (.ref C)
structure MkK (P : Program) (w : World) (K : PySem.W.Frag) (mg : Str → Option Value) (base : Heap) (x : Str) (C : Addr) (k : Nat) (ks : List Str) (gV : List V → List V → List V) (sp : Sp) : Prop where
  ex : ∃ (g : Addr) (fd : FuncData) (ps : List Str) (gg : List Value → List Value → List Value), Mk K C g ∧ FnOk P w K mg base C8.CX0 k g fd ps sp ∧ KBn K fd ps 1 ks gg gV
  gC : mg x = some (.ref C)
section
variable {X : Cx} {k j : Nat} {C : Addr} {x : Str} {sp : Sp} {ks : List Str} {gV : List V → List V → List V} {p pos : Pos} {e : Expr} {es : List Expr} {kws : List Keyword} {t tk : TA}
theorem pe_mkR (M : MkP X.prog X.w X.K X.mg X.base x C k sp) (hr : Room j X.A) (hk : k + 1 ≤ j) (hg : Gl X x) (ha : PA X (e :: es) t) (hdb : (x == ("__debug__" : Str)) = false := by decide)
    (he : starEach (e :: es) X.env = (false, eval e X.env) :: starEach es X.env := by rfl) (hpl : (backTo pos (starEach es X.env)).any (·.1) = false := by rfl) : PE X (.Call (.Name x p) (e :: es) [] pos) (StX.tMakeR C sp C8.E0 t) := by
  obtain ⟨g, M1, F⟩ := M.ex
  exact StX.pe_makeR M1 F (hr.mono hk) hg M.gC C8.pass0 ha hdb he hpl
theorem pe_mkK0 (M : MkK X.prog X.w X.K X.mg X.base x C k ks gV sp) (hr : Room j X.A) (hk : k + 1 ≤ j) (hg : Gl X x) (hkw : PK X kws tk) (hall : (backToKw pos (keywordEach kws X.env)).all (·.1.isSome) = true := by rfl)
    (hks : (backToKw pos (keywordEach kws X.env)).filterMap (·.1) = ks := by rfl) (hdb : (x == ("__debug__" : Str)) = false := by decide) (hpl : ((backTo pos (starEach [] X.env)).any (·.1) || (backToKw pos (keywordEach kws X.env)).any (·.1.isNone)) = false := by rfl) :
    PE X (.Call (.Name x p) [] kws pos) (tMakeN C 0 ks.length sp gV C8.E0 tNil tk) := by
  obtain ⟨g, fd, ps, gg, M1, F, b⟩ := M.ex
  exact pe_makeK0 M1 F (hr.mono hk) hg M.gC b C8.pass0 hkw hall hks hdb hpl
end
theorem same_made {H1 H' : Hp} {x : Addr} {dx : Addr} {C : Addr} (nx : H1 x = none) (ndx : H1 dx = none) (kp : ∀ b o, b ≠ x → (upd (upd H1 dx (.own x)) x (.ins C dx [])) b = some o → H' b = some o) : Same H1 H' := fun b o e => by
  have n1 := ne_of_none e nx
  have n2 := ne_of_none e ndx
  refine kp b o n1 ?_
  rw [upd_ne n1, upd_ne n2]
  exact e
theorem mkIni {K : PySem.W.Frag} {Q : VK} {C : Addr} {z : Str} {rest : List V} {ds : List PyData} {H1 : Hp} (hd : DqAll H1 rest ds) (hs : ∀ d ∈ ds, Sh 7 d) (hl : rest.length ≤ 3) (q : ∀ (x : Addr) (H' : Hp), H1 x = none → Same H1 H' → Pap C [] z (ds.map (fx 7)) H' x → Q (.ref x) H') :
    ∀ x dx, H1 x = none → H1 dx = none → dx ≠ x → spIni K C (V.ref x :: (.str z :: rest)) (upd (upd H1 dx (.own x)) x (.ins C dx [])) (fun v H2 => v = .non ∧ Q (.ref x) H2) C8.E0 := by
  intro x dx nx ndx nex
  have s1 : Same H1 (upd (upd H1 dx (.own x)) x (.ins C dx [])) := fun b o e => by
    rw [upd_ne (ne_of_none e nx), upd_ne (ne_of_none e ndx)]
    exact e
  refine ⟨x, dx, z, rest, ds, rfl, upd_same, hd.same s1, hs, hl, fun us t fs H' kp h1 h2 h3 h4 h5 h6 => ⟨rfl, q x H' nx (same_made nx ndx kp) ⟨us, t, ⟨dx, fs, h1, by omega, fun p hp => ?_⟩, h5, h6⟩⟩⟩
  simp only [List.cons_append, List.nil_append, List.zip_nil_left, List.mem_cons, List.not_mem_nil, or_false] at hp
  rcases hp with rfl | rfl
  · exact h3
  · exact h4
theorem mkSub {Q : VK} {C : Addr} {z : Str} {ns : List Str} {ps : List V} {ds : List PyData} {H1 : Hp} (hd : DqAll H1 ps ds) (hs : ∀ d ∈ ds, Sh 7 d) (hl : ps.length = ns.length) (q : ∀ (x : Addr) (H' : Hp), H1 x = none → Same H1 H' → Pap C ns z (ds.map (fx 7)) H' x → Q (.ref x) H') :
    ∀ x dx, H1 x = none → H1 dx = none → dx ≠ x → spSub C z ns (V.ref x :: ps) (upd (upd H1 dx (.own x)) x (.ins C dx [])) (fun v H2 => v = .non ∧ Q (.ref x) H2) C8.E0 := by
  intro x dx nx ndx nex
  have s1 : Same H1 (upd (upd H1 dx (.own x)) x (.ins C dx [])) := fun b o e => by
    rw [upd_ne (ne_of_none e nx), upd_ne (ne_of_none e ndx)]
    exact e
  exact ⟨x, dx, ps, ds, rfl, hl, upd_same, hd.same s1, hs, fun H' kp h => ⟨rfl, q x H' nx (same_made nx ndx kp) h⟩⟩
/-- the order in which Kept's parts are told by name -/
def rotL {α : Type} : List α → List α → List α
  | [a], [x, y, z] => [a, y, z, x]
  | l, _ => l
theorem rot_rel {vs zs : List V} {us ws : List Value} (h : Vals vs us) (h2 : Vals zs ws) : Vals (rotL vs zs) (rotL us ws) := by
  match vs, us, h with
  | [], _, .nil => exact .nil
  | [_], _, .cons a .nil =>
    match zs, ws, h2 with
    | [], _, .nil => exact .cons a .nil
    | [_], _, .cons _ .nil => exact .cons a .nil
    | [_, _], _, .cons _ (.cons _ .nil) => exact .cons a .nil
    | [_, _, _], _, .cons b (.cons c (.cons d .nil)) => exact .cons a (.cons c (.cons d (.cons b .nil)))
    | _ :: _ :: _ :: _ :: _, _, .cons _ (.cons _ (.cons _ (.cons _ _))) => exact .cons a .nil
  | _ :: _ :: _, _, .cons a (.cons b r) => exact .cons a (.cons b r)
section
variable {P : Program} {w : World} {K : PySem.W.Frag} {mg : Str → Option Value} {base : Heap} {c f cc cda : Nat → Addr} {fE fB : Addr}
theorem m_P (Z : Tz P K mg c f cc cda fE fB) (G : C8.Cal P w K mg base 9 "fixed" (spF 9) []) : MkP P w K mg base "Paper" (c 0) 11 (spIni K (c 0)) :=
  ⟨⟨_, Z.mkr 0 (by decide), fun A outer s H us vs Q E hr => fn_pi (w := w) (base := base) Z G (by decide) A outer s H us vs Q E (hr.mono (by decide))⟩, Z.g 0 (by decide)⟩
theorem m_D (Z : Tz P K mg c f cc cda fE fB) (G : C8.Cal P w K mg base 9 "fixed" (spF 9) []) : MkP P w K mg base "Denial" (c 1) 11 (spIni K (c 1)) :=
  ⟨⟨_, Z.mkr 1 (by decide), fn_den Z G (by decide) (by decide)⟩, Z.g 1 (by decide)⟩
theorem m_Ho (Z : Tz P K mg c f cc cda fE fB) (G : C8.Cal P w K mg base 9 "fixed" (spF 9) []) : MkP P w K mg base "Holds" (c 2) 12 (spSub (c 2) "holds" ["triples"]) := by
  obtain ⟨kV, doc, pm, an, ct, F⟩ := fn_sub2 (w := w) (base := base) Z G
  exact ⟨⟨_, Z.mkr 2 (by decide), fnR_of F (.all fun us hl => match us, hl with | [_, _], _ => rfl)⟩, Z.g 2 (by decide)⟩
theorem m_Br (Z : Tz P K mg c f cc cda fE fB) (G : C8.Cal P w K mg base 9 "fixed" (spF 9) []) : MkP P w K mg base "Broken" (c 3) 12 (spSub (c 3) "broken" ["first", "states"]) := by
  obtain ⟨kV, doc, pm, an, ct, F⟩ := fn_sub3 (w := w) (base := base) Z G
  exact ⟨⟨_, Z.mkr 3 (by decide), fnR_of F (.all fun us hl => match us, hl with | [_, _, _], _ => rfl)⟩, Z.g 3 (by decide)⟩
theorem m_He (Z : Tz P K mg c f cc cda fE fB) (G : C8.Cal P w K mg base 9 "fixed" (spF 9) []) : MkP P w K mg base "Held" (c 4) 12 (spSub (c 4) "held" ["pages", "entries"]) := by
  obtain ⟨kV, doc, pm, an, ct, F⟩ := fn_sub4 (w := w) (base := base) Z G
  exact ⟨⟨_, Z.mkr 4 (by decide), fnR_of F (.all fun us hl => match us, hl with | [_, _, _], _ => rfl)⟩, Z.g 4 (by decide)⟩
theorem m_Ke (Z : Tz P K mg c f cc cda fE fB) (G : C8.Cal P w K mg base 9 "fixed" (spF 9) []) : MkP P w K mg base "Kept" (c 6) 12 (spSub (c 6) "kept" ["pages", "entries", "triples"]) := by
  obtain ⟨kV, doc, pm, an, ct, F⟩ := fn_sub6 (w := w) (base := base) Z G
  exact ⟨⟨_, Z.mkr 6 (by decide), fnR_of F (.all fun us hl => match us, hl with | [_, _, _, _], _ => rfl)⟩, Z.g 6 (by decide)⟩
theorem m_KeK (Z : Tz P K mg c f cc cda fE fB) (G : C8.Cal P w K mg base 9 "fixed" (spF 9) []) : MkK P w K mg base "Kept" (c 6) 12 ["triples", "pages", "entries"] rotL (spSub (c 6) "kept" ["pages", "entries", "triples"]) := by
  obtain ⟨kV, doc, pm, an, ct, F⟩ := fn_sub6 (w := w) (base := base) Z G
  exact ⟨⟨_, _, _, rotL, Z.mkr 6 (by decide), F, ⟨fun s us ws X l1 l2 => (match us, ws, l1, l2 with | [_], [_, _, _], _, _ => .of_eq rfl), fun r1 r2 => rot_rel r1 r2⟩⟩, Z.g 6 (by decide)⟩
theorem m_LoK (Z : Tz P K mg c f cc cda fE fB) (G : C8.Cal P w K mg base 9 "fixed" (spF 9) []) : MkK P w K mg base "Lost" (c 5) 12 ["number", "ranked", "kept"] (fun vs zs => vs ++ zs) (spSub (c 5) "lost" ["number", "ranked", "kept"]) := by
  obtain ⟨kV, doc, pm, an, ct, F⟩ := fn_sub5 (w := w) (base := base) Z G
  exact ⟨⟨_, _, _, fun us ws => us ++ ws, Z.mkr 5 (by decide), F, ⟨fun s us ws X l1 l2 => (match us, ws, l1, l2 with | [_], [_, _, _], _, _ => .of_eq rfl), fun r1 r2 => r1.append r2⟩⟩, Z.g 5 (by decide)⟩
end
end K02

set_option Elab.async false
set_option linter.all false
set_option maxRecDepth 100000
set_option maxHeartbeats 2000000
namespace K02
open PySem PySem.Spec PyProof.Rows L2 Gd NdefX
def kP (k : Int) : Nat := if k = 0 then 0 else 1
def spLP (c : Nat → Addr) : Sp := fun vs H Q _ => ∃ (k : Int) (z : Str) (L : Addr) (rest : List V) (ds : List PyData), vs = [.int k, .str z, .ref L] ∧ H L = some (.lst rest) ∧ DqAll H rest ds ∧ (∀ d ∈ ds, Sh 7 d) ∧ rest.length ≤ 3 ∧
  ∀ (x : Addr) (H' : Hp), H x = none → Same H H' → Pap (c (kP k)) [] z (ds.map (fx 7)) H' x → Q (.ref x) H'
section
variable {P : Program} {w : World} {K : PySem.W.Frag} {mg : Str → Option Value} {base : Heap} {c f cc cda : Nat → Addr} {fE fB : Addr}
theorem ok_paper (T : Txt K mg) (M_P : MkP P w K mg base "Paper" (c 0) 11 (spIni K (c 0))) (M_D : MkP P w K mg base "Denial" (c 1) 11 (spIni K (c 1))) : Gd.Cal P w K mg base 13 "_law_paper" (spLP c) := by
  obtain ⟨f, fd, F, b⟩ := T.d_law_paper
  refine cal F b sc_law_paper (fun vs H Q E h => ?_) (fun cdv A outer s H vs Q E hgd hr h => ?_)
  · obtain ⟨k, z, L, rest, ds, rfl, _⟩ := h
    rfl
  · have nd := sc_law_paper.nd
    obtain ⟨k, z, L, rest, ds, rfl, hL, hd, hs, hl, q⟩ := h
    have qP : k = 0 → ∀ (x : Addr) (H' : Hp), H x = none → Same H H' → Pap (c 0) [] z (ds.map (fx 7)) H' x → Q (.ref x) H' := fun e => by
      have : kP k = 0 := if_pos e
      rw [this] at q
      exact q
    have qD : ¬ k = 0 → ∀ (x : Addr) (H' : Hp), H x = none → Same H H' → Pap (c 1) [] z (ds.map (fx 7)) H' x → Q (.ref x) H' := fun e => by
      have : kP k = 1 := if_neg e
      rw [this] at q
      exact q
    have vk : ∀ {k : Int}, decide (V.int k = V.int 0) = true → k = 0 := fun e => V.int.inj (of_decide_eq_true e)
    have vn : ∀ {k : Int}, ¬ decide (V.int k = V.int 0) = true → ¬ k = 0 := fun e z => e (decide_eq_true (by rw [z]))
    refine ⟨_, (pss_cons (ps_if (pt_cmpR op_eq (pe_callB call_len (by rfl) T.z_len PySem.boot_len (pa_cons (pv 2) pa_nil)) pe_int (nomark _)) (pss_one (ps_ret (pe_ifExp (pt_cmpR op_eq (pv 0) pe_int (nomark _)) (pe_mkR M_P hr (by omega) (by rfl) (pa_cons (pv 1) pa_nil)) (pe_mkR M_D hr (by omega) (by rfl) (pa_cons (pv 1) pa_nil))))) pss_nil)
      (pss_cons (ps_if (pt_cmpR op_eq (pe_callB call_len (by rfl) T.z_len PySem.boot_len (pa_cons (pv 2) pa_nil)) pe_int (nomark _)) (pss_one (ps_ret (pe_ifExp (pt_cmpR op_eq (pv 0) pe_int (nomark _)) (pe_mkR M_P hr (by omega) (by rfl) (pa_cons (pv 1) (pa_cons (pe_ix ix_list (pv 2) pe_int (fun _ _ => rfl)) pa_nil))) (pe_mkR M_D hr (by omega) (by rfl) (pa_cons (pv 1) (pa_cons (pe_ix ix_list (pv 2) pe_int (fun _ _ => rfl)) pa_nil)))))) pss_nil)
      (pss_cons (ps_if (pt_cmpR op_eq (pe_callB call_len (by rfl) T.z_len PySem.boot_len (pa_cons (pv 2) pa_nil)) pe_int (nomark _)) (pss_one (ps_ret (pe_ifExp (pt_cmpR op_eq (pv 0) pe_int (nomark _)) (pe_mkR M_P hr (by omega) (by rfl) (pa_cons (pv 1) (pa_cons (pe_ix ix_list (pv 2) pe_int (fun _ _ => rfl)) (pa_cons (pe_ix ix_list (pv 2) pe_int (fun _ _ => rfl)) pa_nil)))) (pe_mkR M_D hr (by omega) (by rfl) (pa_cons (pv 1) (pa_cons (pe_ix ix_list (pv 2) pe_int (fun _ _ => rfl)) (pa_cons (pe_ix ix_list (pv 2) pe_int (fun _ _ => rfl)) pa_nil))))))) pss_nil)
      (pss_one (ps_ret (pe_ifExp (pt_cmpR op_eq (pv 0) pe_int (nomark _)) (pe_mkR M_P hr (by omega) (by rfl) (pa_cons (pv 1) (pa_cons (pe_ix ix_list (pv 2) pe_int (fun _ _ => rfl)) (pa_cons (pe_ix ix_list (pv 2) pe_int (fun _ _ => rfl)) (pa_cons (pe_ix ix_list (pv 2) pe_int (fun _ _ => rfl)) pa_nil))))) (pe_mkR M_D hr (by omega) (by rfl) (pa_cons (pv 1) (pa_cons (pe_ix ix_list (pv 2) pe_int (fun _ _ => rfl)) (pa_cons (pe_ix ix_list (pv 2) pe_int (fun _ _ => rfl)) (pa_cons (pe_ix ix_list (pv 2) pe_int (fun _ _ => rfl)) pa_nil))))))))))), ?_⟩
    refine ⟨.ref L, rfl, .ref L, rest.length, rfl, .inl ⟨rest, SqL.of hL, rfl⟩, rfl, _, rfl, ite2 (fun e0 => ?_) (fun e0 => ?_)⟩
    · have hm : rest.length = 0 := by
        have := V.int.inj (of_decide_eq_true e0)
        omega
      obtain rfl : rest = [] := List.length_eq_zero_iff.mp hm
      exact ⟨.int k, rfl, rfl, _, rfl, ite2 (fun e => ⟨.str z, rfl, mkIni hd hs hl (qP (vk e))⟩) (fun e => ⟨.str z, rfl, mkIni hd hs hl (qD (vn e))⟩)⟩
    · have n0 : ¬ rest.length = 0 := fun z => e0 (decide_eq_true (by rw [z]; rfl))
      refine ⟨.ref L, rfl, .ref L, rest.length, rfl, .inl ⟨rest, SqL.of hL, rfl⟩, rfl, _, rfl, ite2 (fun e1 => ?_) (fun e1 => ?_)⟩
      · have hm : rest.length = 1 := by
          have := V.int.inj (of_decide_eq_true e1)
          omega
        obtain ⟨a0, rfl⟩ : ∃ a0, rest = [a0] := by
          match rest, hm with
          | [a0], _ => exact ⟨a0, rfl⟩
        exact ⟨.int k, rfl, rfl, _, rfl, ite2 (fun e => ⟨.str z, rfl, .ref L, rfl, L, _, 0, a0, rfl, rfl, SqL.of hL, atI_nat (j := 0) rfl, mkIni hd hs hl (qP (vk e))⟩) (fun e => ⟨.str z, rfl, .ref L, rfl, L, _, 0, a0, rfl, rfl, SqL.of hL, atI_nat (j := 0) rfl, mkIni hd hs hl (qD (vn e))⟩)⟩
      · have n1 : ¬ rest.length = 1 := fun z => e1 (decide_eq_true (by rw [z]; rfl))
        refine ⟨.ref L, rfl, .ref L, rest.length, rfl, .inl ⟨rest, SqL.of hL, rfl⟩, rfl, _, rfl, ite2 (fun e2 => ?_) (fun e2 => ?_)⟩
        · have hm : rest.length = 2 := by
            have := V.int.inj (of_decide_eq_true e2)
            omega
          obtain ⟨a0, a1, rfl⟩ : ∃ a0 a1, rest = [a0, a1] := by
            match rest, hm with
            | [a0, a1], _ => exact ⟨a0, a1, rfl⟩
          exact ⟨.int k, rfl, rfl, _, rfl, ite2 (fun e => ⟨.str z, rfl, .ref L, rfl, L, _, 0, a0, rfl, rfl, SqL.of hL, atI_nat (j := 0) rfl, .ref L, rfl, L, _, 1, a1, rfl, rfl, SqL.of hL, atI_nat (j := 1) rfl, mkIni hd hs hl (qP (vk e))⟩) (fun e => ⟨.str z, rfl, .ref L, rfl, L, _, 0, a0, rfl, rfl, SqL.of hL, atI_nat (j := 0) rfl, .ref L, rfl, L, _, 1, a1, rfl, rfl, SqL.of hL, atI_nat (j := 1) rfl, mkIni hd hs hl (qD (vn e))⟩)⟩
        · have n2 : ¬ rest.length = 2 := fun z => e2 (decide_eq_true (by rw [z]; rfl))
          have hm : rest.length = 3 := by omega
          obtain ⟨a0, a1, a2, rfl⟩ : ∃ a0 a1 a2, rest = [a0, a1, a2] := by
            match rest, hm with
            | [a0, a1, a2], _ => exact ⟨a0, a1, a2, rfl⟩
          exact ⟨.int k, rfl, rfl, _, rfl, ite2 (fun e => ⟨.str z, rfl, .ref L, rfl, L, _, 0, a0, rfl, rfl, SqL.of hL, atI_nat (j := 0) rfl, .ref L, rfl, L, _, 1, a1, rfl, rfl, SqL.of hL, atI_nat (j := 1) rfl, .ref L, rfl, L, _, 2, a2, rfl, rfl, SqL.of hL, atI_nat (j := 2) rfl, mkIni hd hs hl (qP (vk e))⟩) (fun e => ⟨.str z, rfl, .ref L, rfl, L, _, 0, a0, rfl, rfl, SqL.of hL, atI_nat (j := 0) rfl, .ref L, rfl, L, _, 1, a1, rfl, rfl, SqL.of hL, atI_nat (j := 1) rfl, .ref L, rfl, L, _, 2, a2, rfl, rfl, SqL.of hL, atI_nat (j := 2) rfl, mkIni hd hs hl (qD (vn e))⟩)⟩
end
end K02

set_option Elab.async false
set_option linter.all false
set_option maxRecDepth 100000
set_option maxHeartbeats 2000000
namespace K02
open PySem PySem.Spec PyProof.Rows L2 Gd NdefX
theorem fx_stab {n : Nat} : ∀ {m : Nat} {d : PyData}, Sh n d → n ≤ m → fx m d = fx n d := by
  induction n with
  | zero => exact fun {m d} h _ => (fx_leaf h).trans (fx_leaf h).symm
  | succ n ih =>
    intro m d h hm
    cases m with
    | zero => exact absurd hm (by omega)
    | succ m =>
      rcases h with h | ⟨ds, e, l, h⟩ | ⟨kvs, rfl, l, k, h⟩
      · exact (fx_leaf h).trans (fx_leaf h).symm
      · have e2 : ds.map (fx m) = ds.map (fx n) := List.map_congr_left fun x hx => ih (h x hx) (by omega)
        rcases e with rfl | rfl
        · show PyData.tuple _ = PyData.tuple _
          rw [e2]
        · show PyData.tuple _ = PyData.tuple _
          rw [e2]
      · show PyData.tuple _ = PyData.tuple _
        rw [List.map_congr_left fun x hx => ?_]
        rw [ih (h x ((srt_perm kvs).mem_iff.mp hx)) (by omega)]
theorem fx_tpm {n m : Nat} {d : PyData} (h : Sh n d) (hm : n ≤ m) : Tp (2 * n) (fx m d) := by
  rw [fx_stab h hm]
  exact fx_sh h
theorem all_tp {n m : Nat} {ds : List PyData} (h : ∀ d ∈ ds, Sh n d) (hm : n ≤ m) : ∀ e ∈ ds.map (fx m), Tp (2 * n) e := fun e he => by
  obtain ⟨d, hd, rfl⟩ := List.mem_map.mp he
  exact fx_tpm (h d hd) hm
theorem map_stab {n m m' : Nat} {ds : List PyData} (h : ∀ d ∈ ds, Sh n d) (hm : n ≤ m) (hm' : n ≤ m') : ds.map (fx m) = ds.map (fx m') :=
  List.map_congr_left fun d hd => (fx_stab (h d hd) hm).trans (fx_stab (h d hd) hm').symm
/-- what a repr asks -/
def Rp (d : PyData) : Prop := d.showable = true ∧ d.depth ≤ 60 ∧ d.shown.length ≤ sizeLine
theorem Few.rp {B D : Nat} {d : PyData} (h : Few B D d) (hb : B ≤ 16000000) (hd : D ≤ 60) : Rp d := ⟨h.1, Nat.le_trans h.2.1 hd, Nat.le_trans h.2.2 (Nat.le_trans hb (by decide))⟩
theorem rp_tup {n : Nat} {es : List PyData} (h : ∀ e ∈ es, Tp n e) (hl : es.length ≤ 3) (hn : n ≤ 8) : Rp (.tuple es) := by
  have s : Sh 9 (.tuple es) := (show Sh 9 (.tuple es) from .inr (.inl ⟨es, .inr rfl, hl, fun e he => (h e he).sh.le hn⟩))
  exact Few.rp s.few (by decide) (by decide)
section
variable {X : Cx} {c f cc cda : Nat → Addr} {fE fB : Addr} {H : Hp} {Q : VK}
theorem eq_pp (Z : Tz X.prog X.K X.mg c f cc cda fE fB) {x y : Addr} {i j : Nat} {ns ms : List Str} {z z' : Str} {es ds : List PyData} (hi : i < 7) (hj : j < 7) (hx : Pap (c i) ns z es H x) (hy : Pap (c j) ms z' ds H y) (l1 : es.length ≤ 3) (l2 : ds.length ≤ 3)
    (t1 : ∀ e ∈ es, Tp 14 e) (t2 : ∀ e ∈ ds, Tp 14 e) (q : Q (.bl (decide (i = j) && (decide (z = z') && PyData.eqv (.tuple es) (.tuple ds)))) H) : rEqO X.K fE (spEqP c) (.ref x) (.ref y) H Q := by
  obtain ⟨us, t, ⟨dx, fs, h1, h2, h3⟩, h4, h5⟩ := id hx
  obtain ⟨vs, t', ⟨dy, gs, g1, g2, g3⟩, g4, g5⟩ := id hy
  refine ⟨x, c i, dx, fs, y, rfl, rfl, h1, Z.eq i hi, .inr ⟨c j, dy, gs, g1, ?_⟩⟩
  by_cases hij : i = j
  · subst hij
    refine .inl ⟨?_, x, y, i, ns, z, es, rfl, hi, hx, l1, t1, .inr ⟨i, ms, z', ds, hi, hy, l2, t2, q⟩⟩
    unfold PySem.W.notFirst
    simp
  · cases hb : belP j i with
    | false =>
      refine .inl ⟨?_, x, y, i, ns, z, es, rfl, hi, hx, l1, t1, .inr ⟨j, ms, z', ds, hj, hy, l2, t2, q⟩⟩
      unfold PySem.W.notFirst
      rw [Z.sub j i hj hi, hb]
      simp
    | true =>
      refine .inr ⟨fun h => hij (Z.inj i j hi hj h), Z.eq j hj, by rw [Z.sub j i hj hi, hb], y, x, j, ms, z', ds, rfl, hj, hy, l2, t2, .inr ⟨i, ns, z, es, hi, hx, l1, t1, ?_⟩⟩
      rw [decide_eq_false hij, Bool.false_and] at q
      rw [decide_eq_false (Ne.symm hij), Bool.false_and]
      exact q
theorem eq_pt (Z : Tz X.prog X.K X.mg c f cc cda fE fB) {x y : Addr} {i : Nat} {ns : List Str} {z : Str} {es : List PyData} {xs : List V} (hi : i < 7) (hx : Pap (c i) ns z es H x) (hy : H y = some (.tup xs)) (l1 : es.length ≤ 3)
    (t1 : ∀ e ∈ es, Tp 14 e) (q : Q (.bl false) H) : rEqO X.K fE (spEqP c) (.ref x) (.ref y) H Q := by
  obtain ⟨us, t, ⟨dx, fs, h1, h2, h3⟩, h4, h5⟩ := id hx
  exact ⟨x, c i, dx, fs, y, rfl, rfl, h1, Z.eq i hi, .inl ⟨xs, hy, Z.tupS i hi, x, y, i, ns, z, es, rfl, hi, hx, l1, t1, .inl ⟨xs, hy, q⟩⟩⟩
theorem bool_p (Z : Tz X.prog X.K X.mg c f cc cda fE fB) {x : Addr} {i : Nat} {ns : List Str} {z : Str} {es : List PyData} (hi : i < 7) (hx : Pap (c i) ns z es H x) (q : Q (.bl (!belP i 1)) H) : rBoolO X.K fB spB [.ref x] H Q := by
  obtain ⟨us, t, ⟨dx, fs, h1, h2, h3⟩, h4, h5⟩ := id hx
  have b := Z.bl i hi
  refine ⟨x, c i, dx, fs, rfl, h1, ?_⟩
  cases hb : belP i 1 with
  | false =>
    rw [hb] at b q
    exact .inl ⟨b, Z.ln i hi, q⟩
  | true =>
    rw [hb] at b q
    exact .inr ⟨b, Z.fb, x, rfl, false, rfl, q⟩
/-- p.word -/
theorem fld_w (Z : Tz X.prog X.K X.mg c f cc cda fE fB) {σ : L2.St} {j x : Nat} {i : Nat} {ns : List Str} {z : Str} {es : List PyData} (hi : i < 7) (hx : Pap (c i) ns z es H x) (hs : σ[j]? = some (some (.ref x))) (q : Q (.str z) H) : tFld X.K (tVar j) ("word" : Str) σ H Q := by
  obtain ⟨us, t, ⟨dx, fs, h1, h2, h3⟩, h4, h5⟩ := id hx
  exact ⟨.ref x, hs, x, c i, dx, fs, .str z, rfl, h1, Z.cls hi, Z.noA hi (by decide), h3 _ (.head _), q⟩
/-- p.parts -/
theorem fld_p (Z : Tz X.prog X.K X.mg c f cc cda fE fB) {σ : L2.St} {j x : Nat} {i : Nat} {ns : List Str} {z : Str} {es : List PyData} (hi : i < 7) (hx : Pap (c i) ns z es H x) (hs : σ[j]? = some (some (.ref x))) (q : ∀ t, Dq H (.ref t) (.tuple es) → Q (.ref t) H) : tFld X.K (tVar j) ("parts" : Str) σ H Q := by
  obtain ⟨us, t, ⟨dx, fs, h1, h2, h3⟩, h4, h5⟩ := id hx
  exact ⟨.ref x, hs, x, c i, dx, fs, .ref t, rfl, h1, Z.cls hi, Z.noA hi (by decide), h3 _ (.tail _ (.head _)), q t (.tup h4 h5)⟩
end
end K02

set_option Elab.async false
set_option linter.all false
set_option maxRecDepth 100000
set_option maxHeartbeats 4000000
namespace K02
open PySem PySem.Spec PyProof.Rows L2 Gd NdefX
def spPR : Sp := fun vs H Q _ => ∃ (w a : Addr) (ns : List Int) (N : Nat), vs = [.ref w] ∧ Wl ns w a N H ∧ N + 1200 ≤ 900000 ∧ ∀ H' : Hp, Kp w H H' → Wl ns w a (N + 1200) H' → Q (.bl true) H'
/-- a word of the law's -/
def Wrd (z : Str) : Prop := z.length ≤ 10
/-- all but one place -/
def hid (D : Addr) (H : Hp) : Hp := fun b => if b = D then none else H b
theorem hid_ne {D b : Addr} {H : Hp} (h : b ≠ D) : hid D H b = H b := if_neg h
theorem hid_sub {D : Addr} {H : Hp} : Same (hid D H) H := fun b o e => by
  by_cases z : b = D
  · unfold hid at e
    rw [if_pos z] at e
    cases e
  · rw [hid_ne z] at e
    exact e
theorem hid_at {D b : Addr} {o : HO} {H : Hp} (h : hid D H b = some o) : b ≠ D ∧ H b = some o := by
  by_cases z : b = D
  · unfold hid at h
    rw [if_pos z] at h
    cases h
  · rw [hid_ne z] at h
    exact ⟨z, h⟩
theorem hid_upd {D : Addr} {o : HO} {H H' : Hp} (s : Same H H') : Same (hid D H) (hid D (upd H' D o)) := fun b u e => by
  obtain ⟨n, e2⟩ := hid_at e
  rw [hid_ne n, upd_ne n]
  exact s b u e2
theorem hid_jn {D : Addr} {o o2 : HO} {G H H' : Hp} (s : Same G H) (g : G D = none) (h : H D = some o2) (s2 : Same H H') : Same (jn G H H') (hid D (upd H' D o)) := fun b u e => by
  unfold jn at e
  cases z : H b with
  | none =>
    rw [z] at e
    have n : b ≠ D := fun y => by
      rw [y, h] at z
      cases z
    rw [hid_ne n, upd_ne n]
    exact e
  | some v =>
    rw [z] at e
    have n : b ≠ D := fun y => by
      rw [y, g] at e
      cases e
    rw [hid_ne n, upd_ne n]
    exact s2 b u (s b u e)
/-- all but some items stand -/
def KpO (ws : List V) (H H' : Hp) : Prop := ∀ b o, V.ref b ∉ ws → H b = some o → H' b = some o
theorem Pap.spo {C : Addr} {ns : List Str} {z : Str} {es : List PyData} {H H' : Hp} {a : Addr} {ws : List V} {n : Nat} (h : Pap C ns z es H a) (t : ∀ e ∈ es, Tp n e) (ha : V.ref a ∉ ws) (k : KpO ws H H') (ts : Tups H H') : Pap C ns z es H' a := by
  obtain ⟨us, p, ⟨dx, fs, h1, h2, h3⟩, h4, h5⟩ := h
  exact ⟨us, p, ⟨dx, fs, k _ _ ha h1, h2, h3⟩, ts _ _ h4, h5.tups ts t⟩
theorem Pap.non {C : Addr} {ns : List Str} {z : Str} {es : List PyData} {H : Hp} {a : Addr} {ws : List V} (h : Pap C ns z es H a) (t : ∀ v ∈ ws, ∃ t, Top 3 H v t) : V.ref a ∉ ws := fun hm => by
  obtain ⟨us, p, ⟨dx, fs, h1, _⟩, _⟩ := h
  obtain ⟨ty, ht⟩ := t _ hm
  cases ht with
  | lst e _ => rw [h1] at e; cases e
  | tup e => rw [h1] at e; cases e
  | dk e _ => rw [h1] at e; cases e
section
variable {P : Program} {w : World} {K : PySem.W.Frag} {mg : Str → Option Value} {base : Heap} {c f cc cda : Nat → Addr} {fE fB : Addr}
theorem ok_papers (T : Txt K mg) (Z : Tz P K mg c f cc cda fE fB) (G__law_lift : Gd.Cal P w K mg base 1 "_law_lift" spDip) (G__law_take : Gd.Cal P w K mg base 2 "_law_take" spPick) (G__law_value : Gd.Cal P w K mg base 6 "_law_value" (spVal 3))
    (G__law_fixed : Gd.Cal P w K mg base 9 "_law_fixed" (spFix 8)) (G__law_paper : Gd.Cal P w K mg base 13 "_law_paper" (spLP c)) (G__law_turned : Gd.Cal P w K mg base 1 "_law_turned" spTurn) (G__law_spoil : Gd.Cal P w K mg base 1 "_law_spoil" spSpoil) :
    Gd.Cal P w K mg base 14 "_law_papers_right" spPR := by
  obtain ⟨fp, fd, F, b⟩ := T.d_law_papers_right
  refine cal F b sc_law_papers_right (fun vs H Q E h => ?_) (fun cdv A outer s H vs Q E hgd hr h => ?_)
  · obtain ⟨w, a, ns, N, rfl, _⟩ := h
    rfl
  · have nd := sc_law_papers_right.nd
    have hu := hu_of hr
    have sm := Z.sm
    have FE := fn_eq (w := w) (base := base) T Z
    have FB := fn_bool (w := w) (base := base) Z
    have hr1 := hr.mono (show 1 ≤ 13 by decide)
    have hr3 := hr.mono (show 3 ≤ 13 by decide)
    obtain ⟨w, a, ns, N, rfl, hW, hN, q⟩ := h
    refine ⟨_, (pss_cons (ps_par (i := 1) (j := 2) rfl nd rfl rfl (by decide) rfl rfl (pa_cons (pc G__law_take hgd hr (by omega) (by rfl) (pa_cons (pv 0) (pa_cons (pe_lstX (pa_cons pe_str (pa_cons pe_str (pa_cons pe_str pa_nil)))) pa_nil))) (pa_cons (pc G__law_lift hgd hr (by omega) (by rfl) (pa_cons (pv 0) (pa_cons pe_int pa_nil))) pa_nil)) rfl)
      (pss_cons (ps_setLc (i := 3) (own := [("_law_turn", 4)]) (g := gName 4) rfl nd rfl rfl (sw_true rfl rfl rfl (by decide +kernel)) (pi_range1 rfl T.z_range (pa_cons (pc G__law_lift hgd hr (by omega) (by rfl) (pa_cons (pv 0) (pa_cons pe_int pa_nil))) pa_nil)) (blkOk_by (own := [("_law_turn", 4)]) (N := ["_law_tray_here", "_law_word", "_law_kind", "_law_parts", "_law_turn", "_law_due", "_law_part", "_law_paper_here", "_law_twin"]) (sc := (C8.fnScope s_law_papers_right)) (by decide +kernel)) (fun _ _ _ _ _ => pg_name (i := 4) nd rfl (Or.inl rfl)) (fun _ _ _ _ _ => pts_nil) (fun _ _ _ _ _ => (pc G__law_value hgd hr (by omega) (by rfl) (pa_cons (pv 0) (pa_cons pe_int pa_nil)))))
      (pss_cons (ps_set (i := 5) nd rfl (.inl rfl) (pe_callTy call_tuple_of (by rfl) T.z_tuple (by decide +kernel) (pa_cons (pe_lc (own := [("_law_part", 6)]) (g := gName 6) rfl nd (pi_list (pv 3)) (blkOk_by (own := [("_law_part", 6)]) (N := ["_law_tray_here", "_law_word", "_law_kind", "_law_parts", "_law_turn", "_law_due", "_law_part", "_law_paper_here", "_law_twin"]) (sc := (C8.fnScope s_law_papers_right)) (by decide +kernel)) (fun _ _ _ _ _ => pg_name (i := 6) nd rfl (Or.inl rfl)) (fun _ _ _ _ _ => pts_nil) (fun _ _ _ _ _ => (pc G__law_fixed hgd hr (by omega) (by rfl) (pa_cons (pv 6) pa_nil)))) pa_nil)))
      (pss_cons (ps_set (i := 7) nd rfl (.inl rfl) (pc G__law_paper hgd hr (by omega) (by rfl) (pa_cons (pv 2) (pa_cons (pv 1) (pa_cons (pv 3) pa_nil)))))
      (pss_cons (ps_set (i := 8) nd rfl (.inl rfl) (pc G__law_paper hgd hr (by omega) (by rfl) (pa_cons (pv 2) (pa_cons (pv 1) (pa_cons (pe_lc (own := [("_law_part", 6)]) (g := gName 6) rfl nd (pi_list (pv 3)) (blkOk_by (own := [("_law_part", 6)]) (N := ["_law_tray_here", "_law_word", "_law_kind", "_law_parts", "_law_turn", "_law_due", "_law_part", "_law_paper_here", "_law_twin"]) (sc := (C8.fnScope s_law_papers_right)) (by decide +kernel)) (fun _ _ _ _ _ => pg_name (i := 6) nd rfl (Or.inl rfl)) (fun _ _ _ _ _ => pts_nil) (fun _ _ _ _ _ => (pc G__law_turned hgd hr (by omega) (by rfl) (pa_cons (pv 6) pa_nil)))) pa_nil)))))
      (pss_cons (ps_if (PW.pt (pw_or (pt_cmpR op_ne (pe_callB (call_reprQ sm hgd hr.units) (by rfl) T.z_repr (by decide +kernel) (pa_cons (pe_fld (pv 7) rfl) pa_nil)) (pe_callB (call_reprQ sm hgd hr.units) (by rfl) T.z_repr (by decide +kernel) (pa_cons (pv 5) pa_nil)) (nomark _)) (pw_or (pt_cmpR op_ne (pe_fld (pv 7) rfl) (pv 1) (nomark _)) (pw_or1 (pt_cmpR op_ne (pe_callTy (call_boolO FB hr3) (by rfl) T.z_bool (by decide +kernel) (pa_cons (pv 7) pa_nil)) (pe_cmpR op_eq (pv 2) pe_int (nomark _)) (nomark _)))))) (pss_one (ps_ret pe_bl)) pss_nil)
      (pss_cons (ps_if (PW.pt (pw_or (pt_not (pt_cmpR (op_eqO FE hr1) (pv 7) (pv 8) (nomark _))) (pw_or (pt_cmpR (op_eqO FE hr1) (pv 7) (pc G__law_paper hgd hr (by omega) (by rfl) (pa_cons (pe_op op_sub pe_int (pv 2)) (pa_cons (pv 1) (pa_cons (pv 3) pa_nil)))) (nomark _)) (pw_or1 (pt_cmpR (op_eqO FE hr1) (pv 7) (pc G__law_paper hgd hr (by omega) (by rfl) (pa_cons (pv 2) (pa_cons (pe_op op_add_str (pv 1) pe_str) (pa_cons (pv 3) pa_nil)))) (nomark _)))))) (pss_one (ps_ret pe_bl)) pss_nil)
      (C8.pss_cut (ps_if (PW.pt (pw_or (pt_cmpR (op_eqO FE hr1) (pv 7) (pv 5) (nomark _)) (pw_or1 (PW.pt (pw_and (pt_cmpR (op_eqO FE hr1) (pv 7) (pc G__law_paper hgd hr (by omega) (by rfl) (pa_cons (pv 2) (pa_cons (pv 1) (pa_cons (pe_slice sl_list (pe_op op_cat (pv 3) (pe_lstX (pa_cons pe_int pa_nil))) po_none (po_some pe_int)) pa_nil)))) (nomark _)) (pw_and1 (pt_cmpR op_lt (pe_callB call_len (by rfl) T.z_len PySem.boot_len (pa_cons (pv 3) pa_nil)) pe_int (nomark _)))))))) (pss_one (ps_ret pe_bl)) pss_nil)
      (pss_cons (ps_for PassesOwn.never rfl (pi_list (pv 3)) (pg_name (i := 6) nd rfl (Or.inl rfl)) (pss_one (ps_expr (pc G__law_spoil hgd hr (by omega) (by rfl) (pa_cons (pv 6) pa_nil)))))
      (pss_one (ps_ret (pe_and (pe_cmpR op_eq (pe_callB (call_reprQ sm hgd hr.units) (by rfl) T.z_repr (by decide +kernel) (pa_cons (pe_fld (pv 7) rfl) pa_nil)) (pe_callB (call_reprQ sm hgd hr.units) (by rfl) T.z_repr (by decide +kernel) (pa_cons (pv 5) pa_nil)) (nomark _)) (pe_and (pe_cmpR op_eq (pe_fld (pv 7) rfl) (pv 1) (nomark _)) (pe_one (pe_cmpR (op_eqO FE hr1) (pv 7) (pv 8) (nomark _)))))))))))))))), ?_⟩
    refine ⟨.ref w, rfl, by show 3 ≤ sizeLine; decide, fun l nl _ => ⟨w, a, ns, N, hW.same (same_new nl), by omega, .inl ⟨l, _, rfl, (hW.off nl).1, upd_same, by show 0 < 3; decide, by show 3 ≤ 1000; decide, fun v H1 hv kp1 hW1 => ?_⟩⟩⟩
    obtain ⟨z, rfl, hz⟩ : ∃ z : Str, v = .str z ∧ Wrd z := by
      simp only [List.mem_cons, List.not_mem_nil, or_false] at hv
      rcases hv with rfl | rfl | rfl
      · exact ⟨_, rfl, by show _ ≤ 10; decide⟩
      · exact ⟨_, rfl, by show _ ≤ 10; decide⟩
      · exact ⟨_, rfl, by show _ ≤ 10; decide⟩
    refine ⟨.ref w, rfl, w, a, ns, _, 2, rfl, hW1, by omega, by decide, by decide, fun k H2 k0 k1 kp2 hW2 => ⟨.str z, .int k, rfl, ?_⟩⟩
    have kpA : Kp w H H2 := (Kp.same (same_new nl)).trans (kp1.trans kp2)
    have hw2 : H2 w ≠ none := hW2.some
    refine ⟨.ref w, rfl, w, a, ns, _, 4, rfl, hW2, by omega, by decide, by decide, fun m H3 m0 m1 kp3 hW3 => ⟨m, rfl, by omega, by omega, fun D nD => ?_⟩⟩
    have hw3 : H3 w ≠ none := hW3.some
    have hDw : D ≠ w := fun z => hw3 (z ▸ nD)
    have hDa : D ≠ a := (hW3.off nD).2
    refine lc_range (lo := 0) (n := m.toNat) (fun k H' => ∃ ws ds, H' D = some (.lst ws) ∧ ws.length = k ∧ Kp w H3 H' ∧ Wl ns w a (N + 3 + k * vc 3) H' ∧ DqAll (nw (upd H3 D (.lst [])) H') ws ds ∧ ∀ d ∈ ds, Sh 3 d)
      ⟨[], [], upd_same, rfl, Kp.same (same_new nD), by rw [Nat.zero_mul]; exact (hW3.same (same_new nD)).mono (by omega), .nil, fun d hd => absurd hd List.not_mem_nil⟩ (fun i H4 hi hP => ?_) (fun H4 hP => ?_)
    · obtain ⟨ws, ds, h1, h2, h3, h4, h5, h6⟩ := hP
      have hk4 : i * vc 3 + vc 3 ≤ 360 := by
        rw [← Nat.succ_mul]
        exact (Nat.mul_le_mul_right (vc 3) (show i.succ ≤ 3 by omega) : i.succ * vc 3 ≤ 3 * vc 3)
      refine ⟨rfl, lc_yes ⟨.ref w, rfl, w, a, ns, _, rfl, h4, by omega, fun y dy H5 kp5 hW5 hd5 sh5 => ⟨ws, kp5 _ _ hDw h1, small1000 (by omega), ws ++ [y], ds ++ [dy], upd_same, by rw [List.length_append, h2] <;> rfl, (h3.trans kp5).grow nD, ?_, ?_, ?_⟩⟩⟩
      · have := (hW5.grow hDw hDa (o := .lst (ws ++ [y])))
        rw [Nat.add_assoc, ← Nat.succ_mul] at this
        exact this
      · refine (h5.same (nw_same fun b o g e => ⟨g, ?_⟩)).snoc (hd5.same (nw_same fun b o g e => ?_))
        · have z1 : b ≠ D := fun z => by
            rw [z, upd_same] at g
            cases g
          rw [upd_ne z1] at g ⊢
          exact kp5 b o (fun z => by rw [z] at g; exact hw3 g) e
        · have z1 : b ≠ D := fun z => by
            rw [z, h1] at g
            cases g
          have z2 : H3 b = none := (h3.dom h4).none g
          exact ⟨by rw [upd_ne z1]; exact z2, by rw [upd_ne z1]; exact e⟩
      · intro d hd
        rcases List.mem_append.mp hd with hd | hd
        · exact h6 d hd
        · obtain rfl := List.mem_singleton.mp hd
          exact sh5
    · obtain ⟨ws, ds, h1, h2, h3, h4, h5, h6⟩ := hP
      have hd4 : DqAll H4 ws ds := h5.same nw_sub
      have hlen : ws.length ≤ 3 := by omega
      have hlen2 : ds.length ≤ 3 := by rw [← hd4.len]; exact hlen
      have hDn : ∀ v ∈ ws, v ≠ .ref D := fun v hv z => by
        obtain ⟨d, _, hdd⟩ := h5.mem hv
        rw [z] at hdd
        have hn : nw (upd H3 D (.lst [])) H4 D = none := by
          unfold nw
          rw [upd_same]
        cases hdd <;> (rename_i e _; rw [hn] at e; cases e)
      have hnew : ∀ b, V.ref b ∈ ws → H3 b = none := fun b hv => by
        obtain ⟨d, _, hdd⟩ := h5.mem hv
        have hn : nw (upd H3 D (.lst [])) H4 b ≠ none := fun hn => by
          cases hdd <;> (rename_i e _; rw [hn] at e; cases e)
        have g : upd H3 D (.lst []) b = none := by
          cases e : nw (upd H3 D (.lst [])) H4 b with
          | none => exact absurd e hn
          | some o => exact (nw_some e).1
        have z1 : b ≠ D := fun z => by
          rw [z, upd_same] at g
          cases g
        rwa [upd_ne z1] at g
      have kpB : Kp w H H4 := kpA.trans (kp3.trans h3)
      have hW4 : Wl ns w a (N + 1200) H4 := h4.mono (by have : m.toNat * vc 3 ≤ 360 := (Nat.mul_le_mul_right (vc 3) (show m.toNat ≤ 3 by omega) : m.toNat * vc 3 ≤ 3 * vc 3); omega)
      -- due
      refine ⟨.ref D, rfl, D, rfl, ⟨_, SqL.of h1⟩, fun D5 nD5 => lc_it (walk_list (xs := ws)) (fun i H' => Same H4 H' ∧ ∃ us, H' D5 = some (.lst us) ∧ DqAll H' us ((ds.take i).map (fx 8)))
        ⟨same_new nD5, [], upd_same, .nil⟩ (fun i H' _ hP => SqL.of (hP.1 _ _ h1)) (fun i x H5 H5b hi hP hy => ?_) (fun H5 hP => ?_)⟩
      · obtain ⟨g1, us, g2, g3⟩ := hP
        obtain ⟨rfl, hx⟩ := hy
        obtain ⟨e, he, hxe⟩ := hd4.get hx
        have sh2 : Sh 3 e := h6 _ (List.mem_of_getElem? he)
        refine ⟨rfl, lc_yes ⟨x, rfl, x, e, rfl, hxe.same g1, sh2.le (by decide), fun y H6 s2 hy => ⟨us, s2 _ _ g2, ?_, ?_, us ++ [y], upd_same, ?_⟩⟩⟩
        · have := g3.len
          rw [List.length_map, List.length_take] at this
          exact small1000 (by omega)
        · intro b o e2
          rw [upd_ne (ne_of_none e2 nD5)]
          exact s2 _ _ (g1 _ _ e2)
        · have sD : Tups H6 (upd H6 D5 (.lst (us ++ [y]))) := (Tups.of (Same.refl H6)).upd fun zs ez => by
            have z1 := s2 _ _ g2
            rw [z1] at ez
            cases ez
          exact all_snoc ((g3.same s2).tups sD (all_tp (fun d hd => h6 d (List.mem_of_mem_take hd)) (by decide))) he (hy.tups sD (fx_tpm sh2 (by decide)))
      · obtain ⟨g1, us5, g2, g3⟩ := hP
        rw [hd4.len, List.take_length, map_stab h6 (show 3 ≤ 8 by decide) (show 3 ≤ 7 by decide)] at g3
        refine ⟨D5, us5, rfl, .inl ⟨SqL.of g2, fun t5 nt5 => ?_⟩⟩
        obtain ⟨H6, hH6⟩ : ∃ H6, H6 = upd H5 t5 (.tup us5) := ⟨_, rfl⟩
        rw [← hH6]
        have s46 : Same H4 H6 := hH6 ▸ g1.trans (same_new nt5)
        have ht6 : H6 t5 = some (.tup us5) := hH6 ▸ upd_same
        have hu6 : DqAll H6 us5 (ds.map (fx 7)) := hH6 ▸ g3.same (same_new nt5)
        have sh7 : ∀ d ∈ ds, Sh 7 d := fun d hd => (h6 d hd).le (by decide)
        have tp6 := all_tp h6 (show 3 ≤ 7 by decide)
        have tp14 : ∀ e ∈ ds.map (fx 7), Tp 14 e := fun e he => (tp6 e he).le (by decide)
        have ml : (ds.map (fx 7)).length ≤ 3 := by rw [List.length_map]; exact hlen2
        have rp := rp_tup tp6 ml (by decide)
        -- the paper
        refine ⟨.int k, rfl, .str z, rfl, .ref D, rfl, k, z, D, ws, ds, rfl, s46 _ _ h1, hd4.same s46, sh7, hlen, fun x H7 nx s67 hx => ?_⟩
        have s47 := s46.trans s67
        -- its twin
        refine ⟨.int k, rfl, .str z, rfl, .ref D, rfl, D, rfl, ⟨_, SqL.of (s47 _ _ h1)⟩, fun D8 nD8 => lc_it (walk_list (xs := ws)) (fun i H' => Same H7 H' ∧ ∃ us es, H' D8 = some (.lst us) ∧ DqAll (hid D8 H') us es ∧ (∀ e ∈ es, Sh 3 e) ∧ es.map (fx 7) = (ds.take i).map (fx 7))
          ⟨same_new nD8, [], [], upd_same, .nil, fun e he => absurd he List.not_mem_nil, rfl⟩ (fun i H' _ hP => SqL.of (hP.1 _ _ (s47 _ _ h1))) (fun i y H8 H8b hi hP hY => ?_) (fun H8 hP => ?_)⟩
        · obtain ⟨j1, us, es, j2, j3, j4, j5⟩ := hP
          obtain ⟨rfl, hy⟩ := hY
          obtain ⟨e, he, hye⟩ := (hd4.same s47).get hy
          have sh3 : Sh 3 e := h6 _ (List.mem_of_getElem? he)
          refine ⟨rfl, lc_yes ⟨y, rfl, y, e, 3, H7, rfl, j1, hye, sh3, fun u e' H9 s9 hu9 sh9 fe => ⟨us, s9 _ _ j2, ?_, ?_, us ++ [u], es ++ [e'], upd_same, ?_, ?_, ?_⟩⟩⟩
          · have q1 := congrArg List.length j5
            rw [List.length_map, List.length_map, List.length_take] at q1
            have := j3.len
            exact small1000 (by omega)
          · intro b o e2
            rw [upd_ne (ne_of_none e2 nD8)]
            exact s9 _ _ (j1 _ _ e2)
          · refine (j3.same (hid_upd s9)).snoc (hu9.same (hid_jn j1 nD8 j2 s9))
          · intro d hd
            rcases List.mem_append.mp hd with hd | hd
            · exact j4 d hd
            · obtain rfl := List.mem_singleton.mp hd
              exact sh9
          · rw [List.map_append, j5, ← take_next (f := fx 7) he]
            show _ ++ [fx 7 e'] = _
            rw [fe 6]
        · obtain ⟨j1, us, es, j2, j3, j4, j5⟩ := hP
          rw [hd4.len, List.take_length] at j5
          have hes : es.length ≤ 3 := by
            have q1 := congrArg List.length j5
            rw [List.length_map, List.length_map] at q1
            omega
          refine ⟨k, z, D8, us, es, rfl, j2, j3.same hid_sub, fun d hd => (j4 d hd).le (by decide), by rw [j3.len]; exact hes, fun y H9 ny s89 hy => ?_⟩
          rw [j5] at hy
          have s79 := j1.trans s89
          have hx9 := hx.same s79
          have ht9 : Dq H9 (.ref t5) (.tuple (ds.map (fx 7))) := .tup (s79 _ _ (s67 _ _ ht6)) ((hu6.same s67).same s79)
          have hk7 : kP k < 7 := by
            unfold kP
            split <;> decide
          have hkb : (!belP (kP k) 1) = decide (V.int k = V.int 0) := by
            unfold kP
            by_cases e : k = 0
            · rw [if_pos e, e]
              rfl
            · rw [if_neg e, decide_eq_false (fun z => e (V.int.inj z))]
              rfl
          refine fld_p Z hk7 hx9 rfl fun tp htp => ⟨.ref tp, _, rfl, htp, rp.1, rp.2.1, rp.2.2, .ref t5, rfl, .ref t5, _, rfl, ht9, rp.1, rp.2.1, rp.2.2, rfl, _, rfl, ite2 (fun e => ?_) (fun _ => ?_)⟩
          · simp at e
          obtain ⟨fus, ft, ⟨fdx, ffs, fh1, fh2, fh3⟩, fh4, fh5⟩ := id hx9
          refine ⟨.ref x, rfl, x, c (kP k), fdx, ffs, .str z, rfl, fh1, Z.cls hk7, Z.noA hk7 (by decide), fh3 _ (.head _), .str z, rfl, rfl, _, rfl, ite2 (fun e => ?_) (fun _ => ?_)⟩
          · simp at e
          refine ⟨.ref x, rfl, ?_⟩
          dsimp only [tNil]
          refine bool_p Z hk7 hx9 ?_
          refine ⟨.int k, rfl, rfl, rfl, _, rfl, ite2 (fun e => ?_) (fun _ => ?_)⟩
          · rw [hkb] at e
            simp at e
          have ev : PyData.eqv (.tuple (ds.map (fx 7))) (.tuple (ds.map (fx 7))) = true := Tp.eqv (n := 15) (.inr ⟨_, rfl, ml, tp14⟩)
          have s49 := s47.trans s79
          -- the twin is equal, other papers are not
          refine ⟨.ref x, rfl, .ref y, rfl, eq_pp Z hk7 hk7 hx9 hy ml ml tp14 tp14 ?_⟩
          refine ⟨_, rfl, ite2 (fun e => ?_) (fun _ => ?_)⟩
          · rw [ev] at e
            simp at e
          have hk8 : kP (1 - k) < 7 := by
            unfold kP
            split <;> decide
          have hkn : kP k ≠ kP (1 - k) := by
            unfold kP
            by_cases e : k = 0
            · rw [if_pos e, if_neg (by omega)]
              decide
            · rw [if_neg e, if_pos (by omega)]
              decide
          refine ⟨.ref x, rfl, .int k, rfl, 1, k, rfl, rfl, .str z, rfl, .ref D, rfl, 1 - k, z, D, ws, ds, rfl, s49 _ _ h1, hd4.same s49, sh7, hlen, fun x10 H10 n10 s910 hx10 => ?_⟩
          refine eq_pp Z hk7 hk8 (hx9.same s910) hx10 ml ml tp14 tp14 ?_
          refine ⟨_, rfl, ite2 (fun e => ?_) (fun _ => ?_)⟩
          · rw [decide_eq_false hkn] at e
            simp at e
          have s410 := s49.trans s910
          refine ⟨.ref x, rfl, .int k, rfl, .str z, rfl, z, "x", rfl, rfl, ?_, .ref D, rfl, k, z ++ "x", D, ws, ds, rfl, s410 _ _ h1, hd4.same s410, sh7, hlen, fun x11 H11 n11 s1011 hx11 => ?_⟩
          · have := hz
            unfold Wrd at this
            refine Nat.le_trans (Nat.add_le_add_right this _) ?_
            show 10 + 1 ≤ sizeLine
            decide
          have hx11' := hx9.same (s910.trans s1011)
          refine eq_pp Z hk7 hk7 hx11' hx11 ml ml tp14 tp14 ?_
          refine ⟨_, rfl, ite2 (fun e => ?_) (fun _ => ?_)⟩
          · have zn : z ≠ z ++ "x" := fun y => by
              have := congrArg Str.length y
              rw [cat_len] at this
              have e1 : ("x" : Str).length = 1 := by decide
              omega
            rw [decide_eq_false zn] at e
            simp at e
          have s411 := s410.trans s1011
          have ht11 : H11 t5 = some (.tup us5) := (s79.trans (s910.trans s1011)) _ _ (s67 _ _ ht6)
          -- the parts, and other parts
          refine ⟨fun σ' H' => σ' = [some (.ref w), some (.str z), some (.int k), some (.ref D), none, some (.ref t5), none, some (.ref x), some (.ref y)] ∧ Same H11 H', ?_, ?_⟩
          refine ⟨.ref x, rfl, .ref t5, rfl, eq_pt Z hk7 hx11' ht11 ml tp14 ?_⟩
          refine ⟨_, rfl, ite2 (fun e => by cases e) (fun _ => ?_)⟩
          refine ⟨.ref x, rfl, .int k, rfl, .str z, rfl, .ref D, rfl, by show 1 ≤ sizeLine; decide, fun p12 n12 _ => ?_⟩
          have S12 := same_new n12 (o := .lst [V.int 7])
          refine ⟨D, p12, ws, [V.int 7], rfl, rfl, S12 _ _ (s411 _ _ h1), upd_same, sm1000 (by show ws.length + 1 ≤ 1000; omega), fun p13 n13 => ?_⟩
          have S13 := same_new n13 (o := .lst (ws ++ [V.int 7]))
          refine ⟨3, rfl, p13, _, rfl, SqL.of upd_same, fun p14 n14 => ?_⟩
          rw [show (some (3 : Int)) = some ((3 : Nat) : Int) from rfl, cutV_take]
          have S14 := same_new n14 (o := .lst ((ws ++ [V.int 7]).take 3))
          have s414 := s411.trans (S12.trans (S13.trans S14))
          have hd14 := DqAll.takes 3 ((hd4.same s414).snoc (Dq.int 7))
          have hq : ∀ d ∈ (ds ++ [PyData.int 7]).take 3, Sh 3 d := fun d hd => by
            rcases List.mem_append.mp (List.mem_of_mem_take hd) with hd | hd
            · exact h6 d hd
            · obtain rfl := List.mem_singleton.mp hd
              exact Sh.leaf (show (7 : Int).natAbs < 10 ^ 30 by decide)
          have ml2 : (((ds ++ [PyData.int 7]).take 3).map (fx 7)).length ≤ 3 := by rw [List.length_map, List.length_take]; omega
          refine ⟨k, z, p14, (ws ++ [V.int 7]).take 3, (ds ++ [PyData.int 7]).take 3, rfl, upd_same, hd14, fun d hd => (hq d hd).le (by decide), by rw [List.length_take]; omega, fun x15 H15 n15 s1415 hx15 => ?_⟩
          have s1115 := S12.trans (S13.trans (S14.trans s1415))
          have s415 := s411.trans s1115
          have hx15' := hx11'.same s1115
          refine eq_pp Z hk7 hk7 hx15' hx15 ml ml2 tp14 (fun e he => (all_tp hq (show 3 ≤ 7 by decide) e he).le (by decide)) ?_
          refine ⟨_, rfl, ite2 (fun e => ?_) (fun _ => ?_)⟩
          · refine ⟨.ref D, rfl, .ref D, ws.length, rfl, .inl ⟨ws, SqL.of (s415 _ _ h1), rfl⟩, ?_⟩
            refine ⟨_, _, rfl, rfl, _, rfl, ite2 (fun e3 => ?_) (fun e3 => ?_)⟩
            · have l3 : ds.length < 3 := by
                have := of_decide_eq_true e3
                rw [hd4.len] at this
                omega
              rw [eqv_tup_len (by rw [List.length_map, List.length_map, List.length_take, List.length_append]; show ds.length ≠ min 3 (ds.length + 1); omega)] at e
              simp at e
            · exact ⟨rfl, s1115⟩
          · refine ite2 (fun e => by cases e) (fun _ => ?_)
            exact ⟨rfl, s1115⟩
          · rintro σ' H16 ⟨rfl, s16⟩
            have s416 := s411.trans s16
            have hx16 := hx11'.same s16
            have hy16 := hy.same (s910.trans (s1011.trans s16))
            have tops : ∀ v ∈ ws, ∃ t, Top 3 H16 v t := fun v hv => by
              obtain ⟨d, hd, hvd⟩ := (hd4.same s416).mem hv
              exact ⟨_, Top.of hvd (h6 d hd)⟩
            have hDm : V.ref D ∉ ws := fun h => hDn _ h rfl
            refine ⟨.ref D, rfl, D, rfl, ⟨_, SqL.of (s416 _ _ h1)⟩, for_it (walk_list (xs := ws)) (fun i σ' H' => ∃ y6, σ' = [some (.ref w), some (.str z), some (.int k), some (.ref D), none, some (.ref t5), y6, some (.ref x), some (.ref y)] ∧ (∀ v ∈ ws, ∃ t, Top (3 + i) H' v t) ∧ KpO ws H16 H' ∧ Tups H16 H')
              ⟨none, rfl, tops, fun _ _ _ e => e, fun _ _ e => e⟩ (fun i σ' H' _ hP => ?_) (fun i u σ' H17 H18 hi hP hY => ?_) (fun σ' H17 hP => ?_)⟩
            · obtain ⟨_, _, _, kp, _⟩ := hP
              exact SqL.of (kp _ _ hDm (s416 _ _ h1))
            · obtain ⟨y6, rfl, g1, g2, g3⟩ := hP
              obtain ⟨rfl, hu⟩ := hY
              have um := List.mem_of_getElem? hu
              obtain ⟨t, ht⟩ := g1 u um
              refine ⟨u, rfl, u, t, 3 + i, rfl, ht, by omega, fun H19 spo => ⟨_, rfl, fun v hv => ?_, fun b o n e => ?_, fun b xs e => ?_⟩⟩
              · obtain ⟨tv, htv⟩ := g1 v hv
                exact ⟨tv, htv.spo spo⟩
              · exact spo.1 b o (fun z => n (z ▸ um)) (g2 b o n e)
              · by_cases z : u = .ref b
                · exact (spo.2 b z).1 xs (g3 _ _ e)
                · exact spo.1 b _ z (g3 _ _ e)
            · obtain ⟨y6, rfl, g1, g2, g3⟩ := hP
              have hx17 := hx16.spo tp14 (hx16.non tops) g2 g3
              have hy17 := hy16.spo tp14 (hy16.non tops) g2 g3
              have ht17 : Dq H17 (.ref t5) (.tuple (ds.map (fx 7))) := (ht9.same (s910.trans (s1011.trans s16))).tups (n := 15) g3 (.inr ⟨_, rfl, ml, tp14⟩)
              obtain ⟨fus, ft, ⟨fdx, ffs, fh1, fh2, fh3⟩, fh4, fh5⟩ := id hx17
              refine ⟨.ref x, rfl, x, c (kP k), fdx, ffs, .ref ft, rfl, fh1, Z.cls hk7, Z.noA hk7 (by decide), fh3 _ (.tail _ (.head _)), .ref ft, _, rfl, .tup fh4 fh5, rp.1, rp.2.1, rp.2.2, .ref t5, rfl, .ref t5, _, rfl, ht17, rp.1, rp.2.1, rp.2.2, rfl, _, rfl, ite2 (fun _ => ?_) (fun e => ?_)⟩
              · refine ⟨.ref x, rfl, x, c (kP k), fdx, ffs, .str z, rfl, fh1, Z.cls hk7, Z.noA hk7 (by decide), fh3 _ (.head _), .str z, rfl, rfl, _, rfl, ite2 (fun _ => ?_) (fun e => ?_)⟩
                · refine ⟨.ref x, rfl, .ref y, rfl, eq_pp Z hk7 hk7 hx17 hy17 ml ml tp14 tp14 ?_⟩
                  rw [ev, decide_eq_true rfl, decide_eq_true rfl]
                  refine q _ (fun b o n e => ?_) ?_
                  · refine g2 _ _ (fun hm => ?_) (s416 _ _ (kpB b o n e))
                    have e3 := hnew b hm
                    have e4 := kp3 b o n (kpA b o n e)
                    rw [e3] at e4
                    cases e4
                  · obtain ⟨w1, w2, w3, t, r, w4, w5⟩ := id hW4
                    obtain ⟨_, v2, _, _, _, _, v5⟩ := id hW3
                    refine ⟨w1, g2 _ _ (fun hm => ?_) (s416 _ _ w2), w3, t, r, w4, g2 _ _ (fun hm => ?_) (s416 _ _ w5)⟩
                    · rw [hnew _ hm] at v2
                      cases v2
                    · rw [hnew _ hm] at v5
                      cases v5
                · simp at e
              · simp at e
end
end K02

set_option Elab.async false
set_option linter.all false
set_option maxRecDepth 100000
set_option maxHeartbeats 4000000
namespace K02
open PySem PySem.Spec PyProof.Rows L2 Gd NdefX
section
variable {P : Program} {w : World} {K : PySem.W.Frag} {mg : Str → Option Value} {base : Heap} {c f cc cda : Nat → Addr} {fE fB : Addr}
theorem ok_fixed_right (T : Txt K mg) (Z : Tz P K mg c f cc cda fE fB) (G__law_value : Gd.Cal P w K mg base 7 "_law_value" (spVal 4))
    (G__law_fixed : Gd.Cal P w K mg base 9 "_law_fixed" (spFix 8)) (G_fixed : C8.Cal P w K mg base 9 "fixed" (spF 9) []) :
    Gd.Cal P w K mg base 10 "_law_fixed_right" spPR := by
  obtain ⟨fp, fd, F, b⟩ := T.d_law_fixed_right
  refine cal F b sc_law_fixed_right (fun vs H Q E h => ?_) (fun cdv A outer s H vs Q E hgd hr h => ?_)
  · obtain ⟨w, a, ns, N, rfl, _⟩ := h
    rfl
  · have nd := sc_law_fixed_right.nd
    have hu := hu_of hr
    have sm := Z.sm
    obtain ⟨w, a, ns, N, rfl, hW, hN, q⟩ := h
    refine ⟨_, (pss_cons (ps_set (i := 1) nd rfl (.inl rfl) (pc G__law_value hgd hr (by omega) (by rfl) (pa_cons (pv 0) (pa_cons pe_int pa_nil))))
      (pss_cons (ps_par (i := 2) (j := 3) rfl nd rfl rfl (by decide) rfl rfl (pa_cons (pe_callB (call_reprQ sm hgd hr.units) (by rfl) T.z_repr (by decide +kernel) (pa_cons (pv 1) pa_nil)) (pa_cons (pc G__law_fixed hgd hr (by omega) (by rfl) (pa_cons (pv 1) pa_nil)) pa_nil)) rfl)
      (pss_cons (ps_set (i := 4) nd rfl (.inl rfl) (C8.pe_c G_fixed hr (by omega) (by rfl) (pa_cons (pv 1) pa_nil)))
      (pss_one (ps_ret (pe_and (pe_cmpR op_eq (pe_callB (call_reprQ sm hgd hr.units) (by rfl) T.z_repr (by decide +kernel) (pa_cons (pv 4) pa_nil)) (pe_callB (call_reprQ sm hgd hr.units) (by rfl) T.z_repr (by decide +kernel) (pa_cons (pv 3) pa_nil)) (nomark _)) (pe_and (pe_cmpR op_eq (pe_callB (call_reprQ sm hgd hr.units) (by rfl) T.z_repr (by decide +kernel) (pa_cons (pv 1) pa_nil)) (pv 2) (nomark _)) (pe_one (pe_cmpR op_eq (pe_callB (call_reprQ sm hgd hr.units) (by rfl) T.z_repr (by decide +kernel) (pa_cons (C8.pe_c G_fixed hr (by omega) (by rfl) (pa_cons (pv 4) pa_nil)) pa_nil)) (pe_callB (call_reprQ sm hgd hr.units) (by rfl) T.z_repr (by decide +kernel) (pa_cons (pv 3) pa_nil)) (nomark _)))))))))), ?_⟩
    have v4 : vc 4 ≤ 1200 := by decide
    refine ⟨.ref w, rfl, w, a, ns, N, rfl, hW, by omega, fun v d H1 kp1 hW1 hd1 hs => ?_⟩
    have hd := hd1.same (nw_sub (G := H) (H := H1))
    have rv := Few.rp (hs.le (show 4 ≤ 9 by decide)).few (by decide) (by decide)
    have t8 : Tp 8 (fx 8 d) := fx_tpm hs (by decide)
    have rf := Few.rp (t8.sh.le (show 8 ≤ 9 by decide)).few (by decide) (by decide)
    refine ⟨v, rfl, v, d, rfl, hd, rv.1, rv.2.1, rv.2.2, v, rfl, v, d, rfl, hd, hs.le (by decide), fun u H2 s12 hu2 => ⟨_, _, rfl, ?_⟩⟩
    refine ⟨v, rfl, v, d, rfl, hd.same s12, hs.le (by decide), fun t H3 s23 ht3 => ?_⟩
    have hu3 := hu2.same s23
    have hd3 := hd.same (s12.trans s23)
    refine ⟨t, rfl, t, _, rfl, ht3, rf.1, rf.2.1, rf.2.2, u, rfl, u, _, rfl, hu3, rf.1, rf.2.1, rf.2.2, rfl, _, rfl, ite2 (fun _ => ?_) (fun e => by simp at e)⟩
    refine ⟨v, rfl, v, d, rfl, hd3, rv.1, rv.2.1, rv.2.2, _, rfl, rfl, _, rfl, ite2 (fun _ => ?_) (fun e => by simp at e)⟩
    refine ⟨t, rfl, t, _, rfl, ht3, t8.sh, fun t2 H4 s34 ht4 => ?_⟩
    rw [fx_tp t8] at ht4
    refine ⟨t2, _, rfl, ht4, rf.1, rf.2.1, rf.2.2, u, rfl, u, _, rfl, hu3.same s34, rf.1, rf.2.1, rf.2.2, rfl, ?_⟩
    rw [decide_eq_true rfl]
    exact q _ (kp1.trans (Kp.same (s12.trans (s23.trans s34)))) ((hW1.same (s12.trans (s23.trans s34))).mono (by omega))
end
end K02

set_option Elab.async false
set_option linter.all false
set_option maxRecDepth 100000
set_option maxHeartbeats 4000000
namespace K02
open PySem PySem.Spec PyProof.Rows L2 Gd NdefX
theorem all_geti {H : Hp} : ∀ {vs : List V} {ds : List PyData} {i : Nat} {d : PyData}, DqAll H vs ds → ds[i]? = some d → ∃ v, vs[i]? = some v ∧ Dq H v d
  | _, _, i, d, .nil, h => by simp at h
  | _, _, 0, d, .cons a b, h => by
    simp at h
    subst h
    exact ⟨_, rfl, a⟩
  | _, _, i + 1, d, .cons a b, h => by
    simp at h
    obtain ⟨v, h1, h2⟩ := all_geti b h
    exact ⟨v, by simp [h1], h2⟩
theorem made_same {H1 : Hp} {x dx C : Addr} (nx : H1 x = none) (ndx : H1 dx = none) : Same H1 (upd (upd H1 dx (.own x)) x (.ins C dx [])) := fun b o e => by
  rw [upd_ne (ne_of_none e nx), upd_ne (ne_of_none e ndx)]
  exact e
section
variable {P : Program} {K : PySem.W.Frag} {mg : Str → Option Value} {c f cc cda : Nat → Addr} {fE fB : Addr} {H : Hp} {Q : V → Prop}
/-- p.x, x the name of a part -/
theorem fld_n (Z : Tz P K mg c f cc cda fE fB) {σ : L2.St} {j x : Nat} {i : Nat} {ns : List Str} {z : Str} {es : List PyData} (m : Nat) {nm : Str} {d : PyData} (hi : i < 7) (hx : Pap (c i) ns z es H x) (hs : σ[j]? = some (some (.ref x)))
    (hn : ns[m]? = some nm) (hd : es[m]? = some d) (hf : nm ∈ fldN) (q : ∀ u, Dq H u d → Q u) : ∃ v, σ[j]? = some (some v) ∧ ∃ a C dx fs u, v = .ref a ∧ H a = some (.ins C dx fs) ∧ Cls K C ∧ NoAttr K C nm ∧ fs.lookup nm = some u ∧ Q u := by
  obtain ⟨us, t, ⟨dx, fs, h1, h2, h3⟩, h4, h5⟩ := id hx
  obtain ⟨u, hu, hud⟩ := all_geti h5 hd
  have hm : (nm, u) ∈ ns.zip us := List.mem_of_getElem? (List.getElem?_zip_eq_some.mpr ⟨hn, hu⟩)
  exact ⟨.ref x, hs, x, c i, dx, fs, u, rfl, h1, Z.cls hi, Z.noA hi hf, h3 _ (List.mem_append_right _ hm), q u hud⟩
/-- p.word -/
theorem fld_o (Z : Tz P K mg c f cc cda fE fB) {Q : V → Prop} {σ : L2.St} {j x : Nat} {i : Nat} {ns : List Str} {z : Str} {es : List PyData} (hi : i < 7) (hx : Pap (c i) ns z es H x) (hs : σ[j]? = some (some (.ref x)))
    (q : Q (.str z)) : ∃ v, σ[j]? = some (some v) ∧ ∃ a C dx fs u, v = .ref a ∧ H a = some (.ins C dx fs) ∧ Cls K C ∧ NoAttr K C ("word" : Str) ∧ fs.lookup ("word" : Str) = some u ∧ Q u := by
  obtain ⟨us, t, ⟨dx, fs, h1, h2, h3⟩, h4, h5⟩ := id hx
  exact ⟨.ref x, hs, x, c i, dx, fs, .str z, rfl, h1, Z.cls hi, Z.noA hi (by decide), h3 _ (.head _), q⟩
/-- p.parts -/
theorem fld_q (Z : Tz P K mg c f cc cda fE fB) {Q : V → Prop} {σ : L2.St} {j x : Nat} {i : Nat} {ns : List Str} {z : Str} {es : List PyData} (hi : i < 7) (hx : Pap (c i) ns z es H x) (hs : σ[j]? = some (some (.ref x)))
    (q : ∀ t, Dq H (.ref t) (.tuple es) → Q (.ref t)) : ∃ v, σ[j]? = some (some v) ∧ ∃ a C dx fs u, v = .ref a ∧ H a = some (.ins C dx fs) ∧ Cls K C ∧ NoAttr K C ("parts" : Str) ∧ fs.lookup ("parts" : Str) = some u ∧ Q u := by
  obtain ⟨us, t, ⟨dx, fs, h1, h2, h3⟩, h4, h5⟩ := id hx
  exact ⟨.ref x, hs, x, c i, dx, fs, .ref t, rfl, h1, Z.cls hi, Z.noA hi (by decide), h3 _ (.tail _ (.head _)), q t (.tup h4 h5)⟩
end
theorem mk_ini {K : PySem.W.Frag} {R : V → Hp → Prop} {C : Addr} {z : Str} {rest : List V} {ds : List PyData} {H1 : Hp} {x dx : Addr} (hd : DqAll H1 rest ds) (hs : ∀ d ∈ ds, Sh 7 d) (hl : rest.length ≤ 3) (nx : H1 x = none) (ndx : H1 dx = none)
    (q : ∀ H' : Hp, Pap C [] z (ds.map (fx 7)) H' x → Same H1 H' → R .non H') : spIni K C (V.ref x :: (.str z :: rest)) (upd (upd H1 dx (.own x)) x (.ins C dx [])) R C8.E0 := by
  refine ⟨x, dx, z, rest, ds, rfl, upd_same, hd.same (made_same nx ndx), hs, hl, fun us t fs H' kp h1 h2 h3 h4 h5 h6 => q H' ⟨us, t, ⟨dx, fs, h1, by omega, fun p hp => ?_⟩, h5, h6⟩ (same_made nx ndx kp)⟩
  simp only [List.cons_append, List.nil_append, List.zip_nil_left, List.mem_cons, List.not_mem_nil, or_false] at hp
  rcases hp with rfl | rfl
  · exact h3
  · exact h4
section
variable {P : Program} {w : World} {K : PySem.W.Frag} {mg : Str → Option Value} {base : Heap} {c f cc cda : Nat → Addr} {fE fB : Addr}
theorem ok_kinds (T : Txt K mg) (Z : Tz P K mg c f cc cda fE fB) (G_fixed : C8.Cal P w K mg base 9 "fixed" (spF 9) []) (G__law_value : Gd.Cal P w K mg base 5 "_law_value" (spVal 2))
    (G__law_fixed : Gd.Cal P w K mg base 9 "_law_fixed" (spFix 8)) :
    Gd.Cal P w K mg base 14 "_law_kinds_right" spPR := by
  obtain ⟨fp, fd, F, b⟩ := T.d_law_kinds_right
  refine cal F b sc_law_kinds_right (fun vs H Q E h => ?_) (fun cdv A outer s H vs Q E hgd hr h => ?_)
  · obtain ⟨w, a, ns, N, rfl, _⟩ := h
    rfl
  · have nd := sc_law_kinds_right.nd
    have hu := hu_of hr
    have sm := Z.sm
    have FE := fn_eq (w := w) (base := base) T Z
    have FB := fn_bool (w := w) (base := base) Z
    have hr1 := hr.mono (show 1 ≤ 13 by decide)
    have hr3 := hr.mono (show 3 ≤ 13 by decide)
    have M_P := m_P (w := w) (base := base) Z G_fixed
    have M_D := m_D (w := w) (base := base) Z G_fixed
    have M_Ho := m_Ho (w := w) (base := base) Z G_fixed
    have M_Br := m_Br (w := w) (base := base) Z G_fixed
    have M_He := m_He (w := w) (base := base) Z G_fixed
    have M_Ke := m_Ke (w := w) (base := base) Z G_fixed
    have M_KeK := m_KeK (w := w) (base := base) Z G_fixed
    have M_LoK := m_LoK (w := w) (base := base) Z G_fixed
    obtain ⟨w, a, ns, N, rfl, hW, hN, q⟩ := h
    refine ⟨_, (pss_cons (ps_par (i := 1) (j := 2) rfl nd rfl rfl (by decide) rfl rfl (pa_cons (pc G__law_value hgd hr (by omega) (by rfl) (pa_cons (pv 0) (pa_cons pe_int pa_nil))) (pa_cons (pc G__law_value hgd hr (by omega) (by rfl) (pa_cons (pv 0) (pa_cons pe_int pa_nil))) pa_nil)) rfl)
      (pss_cons (ps_set (i := 3) nd rfl (.inl rfl) (pc G__law_value hgd hr (by omega) (by rfl) (pa_cons (pv 0) (pa_cons pe_int pa_nil))))
      (pss_cons (ps_par (i := 4) (j := 5) rfl nd rfl rfl (by decide) rfl rfl (pa_cons (pe_mkR M_Ke hr (by omega) (by rfl) (pa_cons (pv 1) (pa_cons (pv 2) (pa_cons (pv 3) pa_nil)))) (pa_cons (pe_mkK0 M_KeK hr (by omega) (by rfl) (pk_cons (pv 3) (pk_cons (pv 1) (pk_cons (pv 2) pk_nil)))) pa_nil)) rfl)
      (pss_cons (ps_par (i := 6) (j := 7) rfl nd rfl rfl (by decide) rfl rfl (pa_cons (pe_mkK0 M_LoK hr (by omega) (by rfl) (pk_cons (pv 1) (pk_cons (pv 2) (pk_cons (pv 3) pk_nil)))) (pa_cons (pe_mkR M_He hr (by omega) (by rfl) (pa_cons (pv 1) (pa_cons (pv 2) pa_nil))) pa_nil)) rfl)
      (C8.pss_cut (ps_par (i := 8) (j := 9) rfl nd rfl rfl (by decide) rfl rfl (pa_cons (pe_mkR M_Br hr (by omega) (by rfl) (pa_cons (pv 1) (pa_cons (pv 2) pa_nil))) (pa_cons (pe_mkR M_Ho hr (by omega) (by rfl) (pa_cons (pv 1) pa_nil)) pa_nil)) rfl)
      (pss_cons (ps_set (i := 10) nd rfl (.inl rfl) (pe_lstX (pa_cons (pe_fld (pv 4) rfl) (pa_cons (pe_fld (pv 4) rfl) (pa_cons (pe_fld (pv 4) rfl) (pa_cons (pe_fld (pv 6) rfl) (pa_cons (pe_fld (pv 6) rfl) (pa_cons (pe_fld (pv 6) rfl) (pa_cons (pe_fld (pv 7) rfl) (pa_cons (pe_fld (pv 7) rfl) pa_nil))))))))))
      (pss_cons (ps_set (i := 10) nd rfl (.inl rfl) (pe_op op_cat (pv 10) (pe_lstX (pa_cons (pe_fld (pv 8) rfl) (pa_cons (pe_fld (pv 8) rfl) (pa_cons (pe_fld (pv 9) rfl) pa_nil))))))
      (C8.pss_cut (ps_set (i := 11) nd rfl (.inl rfl) (pe_lstX (pa_cons (pv 1) (pa_cons (pv 2) (pa_cons (pv 3) (pa_cons (pv 1) (pa_cons (pv 2) (pa_cons (pv 3) (pa_cons (pv 1) (pa_cons (pv 2) (pa_cons (pv 1) (pa_cons (pv 2) (pa_cons (pv 1) pa_nil)))))))))))))
      (C8.pss_cut (ps_if (PW.pt (pw_or (pt_cmpR op_ne (pe_callB (call_reprQ sm hgd hr.units) (by rfl) T.z_repr (by decide +kernel) (pa_cons (pv 10) pa_nil)) (pe_callB (call_reprQ sm hgd hr.units) (by rfl) T.z_repr (by decide +kernel) (pa_cons (pe_lc (own := [("_law_value_here", 12)]) (g := gName 12) rfl nd (pi_list (pv 11)) (blkOk_by (own := [("_law_value_here", 12)]) (N := ["_law_tray_here", "_law_one", "_law_two", "_law_three", "_law_kept", "_law_named", "_law_lost", "_law_held", "_law_broken", "_law_holding", "_law_told", "_law_due", "_law_value_here"]) (sc := (C8.fnScope s_law_kinds_right)) (by decide +kernel)) (fun _ _ _ _ _ => pg_name (i := 12) nd rfl (Or.inl rfl)) (fun _ _ _ _ _ => pts_nil) (fun _ _ _ _ _ => (pc G__law_fixed hgd hr (by omega) (by rfl) (pa_cons (pv 12) pa_nil)))) pa_nil)) (nomark _)) (pw_or (pt_not (pt_cmpR (op_eqO FE hr1) (pv 4) (pv 5) (nomark _))) (pw_or1 (pt_cmpR (op_eqO FE hr1) (pv 4) (pv 7) (nomark _)))))) (pss_one (ps_ret pe_bl)) pss_nil)
      (C8.pss_cut (ps_if (pt_cmpR (op_neD hr.units) (pe_lstX (pa_cons (pe_fld (pv 4) rfl) (pa_cons (pe_fld (pv 6) rfl) (pa_cons (pe_fld (pv 7) rfl) (pa_cons (pe_fld (pv 8) rfl) (pa_cons (pe_fld (pv 9) rfl) pa_nil)))))) (pe_lstX (pa_cons pe_str (pa_cons pe_str (pa_cons pe_str (pa_cons pe_str (pa_cons pe_str pa_nil)))))) (nomark _)) (pss_one (ps_ret pe_bl)) pss_nil)
      (C8.pss_cut (ps_if (pt_cmpR (op_neD hr.units) (pe_lstX (pa_cons (pe_callTy (call_boolO FB hr3) (by rfl) T.z_bool (by decide +kernel) (pa_cons (pv 4) pa_nil)) (pa_cons (pe_callTy (call_boolO FB hr3) (by rfl) T.z_bool (by decide +kernel) (pa_cons (pv 6) pa_nil)) (pa_cons (pe_callTy (call_boolO FB hr3) (by rfl) T.z_bool (by decide +kernel) (pa_cons (pv 7) pa_nil)) (pa_cons (pe_callTy (call_boolO FB hr3) (by rfl) T.z_bool (by decide +kernel) (pa_cons (pv 8) pa_nil)) (pa_cons (pe_callTy (call_boolO FB hr3) (by rfl) T.z_bool (by decide +kernel) (pa_cons (pv 9) pa_nil)) pa_nil)))))) (pe_lstX (pa_cons pe_bl (pa_cons pe_bl (pa_cons pe_bl (pa_cons pe_bl (pa_cons pe_bl pa_nil)))))) (nomark _)) (pss_one (ps_ret pe_bl)) pss_nil)
      (C8.pss_cut (ps_if (PW.pt (pw_or (pt_cmpR (op_eqO FE hr1) (pe_mkR M_P hr (by omega) (by rfl) (pa_cons pe_str (pa_cons (pv 1) (pa_cons (pv 2) (pa_cons (pv 3) pa_nil))))) (pv 4) (nomark _)) (pw_or (pt_cmpR (op_eqO FE hr1) (pv 6) (pe_mkR M_D hr (by omega) (by rfl) (pa_cons pe_str (pa_cons (pv 1) (pa_cons (pv 2) (pa_cons (pv 3) pa_nil))))) (nomark _)) (pw_or1 (pt_cmpR (op_eqO FE hr1) (pv 4) (pe_mkR M_P hr (by omega) (by rfl) (pa_cons pe_str (pa_cons (pv 1) (pa_cons (pv 2) (pa_cons (pv 3) pa_nil))))) (nomark _)))))) (pss_one (ps_ret pe_bl)) pss_nil)
      (pss_one (ps_ret (pe_and (pe_cmpR op_eq (pe_callB (call_reprQ sm hgd hr.units) (by rfl) T.z_repr (by decide +kernel) (pa_cons (pe_fld (pv 4) rfl) pa_nil)) (pe_callB (call_reprQ sm hgd hr.units) (by rfl) T.z_repr (by decide +kernel) (pa_cons (pe_callTy call_tuple_of (by rfl) T.z_tuple (by decide +kernel) (pa_cons (pe_lc (own := [("_law_value_here", 12)]) (g := gName 12) rfl nd (pi_list (pe_lstX (pa_cons (pv 1) (pa_cons (pv 2) (pa_cons (pv 3) pa_nil))))) (blkOk_by (own := [("_law_value_here", 12)]) (N := ["_law_tray_here", "_law_one", "_law_two", "_law_three", "_law_kept", "_law_named", "_law_lost", "_law_held", "_law_broken", "_law_holding", "_law_told", "_law_due", "_law_value_here"]) (sc := (C8.fnScope s_law_kinds_right)) (by decide +kernel)) (fun _ _ _ _ _ => pg_name (i := 12) nd rfl (Or.inl rfl)) (fun _ _ _ _ _ => pts_nil) (fun _ _ _ _ _ => (pc G__law_fixed hgd hr (by omega) (by rfl) (pa_cons (pv 12) pa_nil)))) pa_nil)) pa_nil)) (nomark _)) (pe_one (pe_callB call_isiA (by rfl) T.z_isinstance (by decide +kernel) (pa_cons (pv 6) (pa_cons (C8.pe_gc (v := .ref (c 1)) (by rfl) ⟨_, Z.g 1 (by decide), rfl⟩) pa_nil))))))))))))))))))), ?_⟩
    have v2e : vc 2 ≤ 120 := by decide
    have hw0 : H w ≠ none := hW.some
    refine ⟨.ref w, rfl, w, a, ns, N, rfl, hW, by omega, fun v1 d1 H1 kp1 hW1 hd1 hs1 => ⟨.ref w, rfl, w, a, ns, _, rfl, hW1, by omega, fun v2 d2 H2 kp2 hW2 hd2 hs2 => ⟨v1, v2, rfl, ?_⟩⟩⟩
    have hw1 : H1 w ≠ none := hW1.some
    have hw2 : H2 w ≠ none := hW2.some
    refine ⟨.ref w, rfl, w, a, ns, _, rfl, hW2, by omega, fun v3 d3 H3 kp3 hW3 hd3 hs3 => ?_⟩
    have g1 : Dq H3 v1 d1 := ((hd1.same (nw_kp hw0 kp2)).same (nw_kp hw0 kp3)).same nw_sub
    have g2 : Dq H3 v2 d2 := (hd2.same (nw_kp hw1 kp3)).same nw_sub
    have g3 : Dq H3 v3 d3 := hd3.same nw_sub
    have A3 : DqAll H3 [v1, v2, v3] [d1, d2, d3] := .cons g1 (.cons g2 (.cons g3 .nil))
    have A2 : DqAll H3 [v1, v2] [d1, d2] := .cons g1 (.cons g2 .nil)
    have A1 : DqAll H3 [v1] [d1] := .cons g1 .nil
    have s2 : ∀ d ∈ [d1, d2, d3], Sh 2 d := by
      intro d hd
      simp only [List.mem_cons, List.not_mem_nil, or_false] at hd
      rcases hd with rfl | rfl | rfl <;> assumption
    have S3 : ∀ d ∈ [d1, d2, d3], Sh 7 d := fun d hd => (s2 d hd).le (by decide)
    have S2 : ∀ d ∈ [d1, d2], Sh 7 d := fun d hd => S3 d (by simp only [List.mem_cons, List.not_mem_nil, or_false] at hd ⊢; rcases hd with h | h <;> simp [h])
    have S1 : ∀ d ∈ [d1], Sh 7 d := fun d hd => S3 d (by simp only [List.mem_cons, List.not_mem_nil, or_false] at hd ⊢; simp [hd])
    -- the papers
    refine ⟨v1, rfl, v2, rfl, v3, rfl, fun x4 dx nx ndx nex => ?_⟩
    refine ⟨x4, dx, [v1, v2, v3], [d1, d2, d3], rfl, rfl, upd_same, A3.same (made_same nx ndx), S3, fun H4 kp hx4 => ⟨rfl, ?_⟩⟩
    have s4 : Same H3 H4 := same_made nx ndx kp
    clear kp nex
    refine ⟨v3, rfl, v1, rfl, v2, rfl, rfl, rfl, fun x5 dx nx ndx nex => ?_⟩
    refine ⟨x5, dx, [v1, v2, v3], [d1, d2, d3], rfl, rfl, upd_same, (A3.same s4).same (made_same nx ndx), S3, fun H5 kp hx5 => ⟨rfl, ?_⟩⟩
    have s5 : Same H4 H5 := same_made nx ndx kp
    clear kp nex
    refine ⟨.ref x4, .ref x5, rfl, ?_⟩
    have s35 := s4.trans s5
    refine ⟨v1, rfl, v2, rfl, v3, rfl, rfl, rfl, fun x6 dx nx ndx nex => ?_⟩
    refine ⟨x6, dx, [v1, v2, v3], [d1, d2, d3], rfl, rfl, upd_same, (A3.same s35).same (made_same nx ndx), S3, fun H6 kp hx6 => ⟨rfl, ?_⟩⟩
    have s6 : Same H5 H6 := same_made nx ndx kp
    clear kp nex
    refine ⟨v1, rfl, v2, rfl, fun x7 dx nx ndx nex => ?_⟩
    refine ⟨x7, dx, [v1, v2], [d1, d2], rfl, rfl, upd_same, (A2.same (s35.trans s6)).same (made_same nx ndx), S2, fun H7 kp hx7 => ⟨rfl, ?_⟩⟩
    have s7 : Same H6 H7 := same_made nx ndx kp
    clear kp nex
    refine ⟨.ref x6, .ref x7, rfl, ?_⟩
    have s37 := s35.trans (s6.trans s7)
    refine ⟨fun σ' H' => ∃ x8 x9, σ' = [some (.ref w), some v1, some v2, some v3, some (.ref x4), some (.ref x5), some (.ref x6), some (.ref x7), some (.ref x8), some (.ref x9), none, none, none] ∧ Same H7 H' ∧ Pap (c 3) ["first", "states"] "broken" ([d1, d2].map (fx 7)) H' x8 ∧ Pap (c 2) ["triples"] "holds" ([d1].map (fx 7)) H' x9, ?_, ?_⟩
    · refine ⟨v1, rfl, v2, rfl, fun x8 dx nx ndx nex => ?_⟩
      refine ⟨x8, dx, [v1, v2], [d1, d2], rfl, rfl, upd_same, (A2.same s37).same (made_same nx ndx), S2, fun H8 kp hx8 => ⟨rfl, ?_⟩⟩
      have s8 : Same H7 H8 := same_made nx ndx kp
      clear kp nex
      refine ⟨v1, rfl, fun x9 dx nx ndx nex => ?_⟩
      refine ⟨x9, dx, [v1], [d1], rfl, rfl, upd_same, (A1.same (s37.trans s8)).same (made_same nx ndx), S1, fun H9 kp hx9 => ⟨rfl, ?_⟩⟩
      have s9 : Same H8 H9 := same_made nx ndx kp
      clear kp nex
      exact ⟨.ref x8, .ref x9, rfl, x8, x9, rfl, s8.trans s9, hx8.same s9, hx9⟩
    rintro σ' H9 ⟨x8, x9, rfl, s79, p8, p9⟩
    have s39 := s37.trans s79
    have p4 := hx4.same (s5.trans (s6.trans (s7.trans s79)))
    have p5 := hx5.same (s6.trans (s7.trans s79))
    have p6 := hx6.same (s7.trans s79)
    have p7 := hx7.same s79
    clear hx4 hx5 hx6 hx7
    have t4 : ∀ e ∈ [d1, d2, d3].map (fx 7), Tp 4 e := all_tp s2 (by decide)
    -- their parts
    refine fld_n Z (i := 6) 0 (by decide) p4 (by rfl) (by rfl) (by rfl) (by decide) fun u0 hu0 => ?_
    refine fld_n Z (i := 6) 1 (by decide) p4 (by rfl) (by rfl) (by rfl) (by decide) fun u1 hu1 => ?_
    refine fld_n Z (i := 6) 2 (by decide) p4 (by rfl) (by rfl) (by rfl) (by decide) fun u2 hu2 => ?_
    refine fld_n Z (i := 5) 0 (by decide) p6 (by rfl) (by rfl) (by rfl) (by decide) fun u3 hu3 => ?_
    refine fld_n Z (i := 5) 1 (by decide) p6 (by rfl) (by rfl) (by rfl) (by decide) fun u4 hu4 => ?_
    refine fld_n Z (i := 5) 2 (by decide) p6 (by rfl) (by rfl) (by rfl) (by decide) fun u5 hu5 => ?_
    refine fld_n Z (i := 4) 0 (by decide) p7 (by rfl) (by rfl) (by rfl) (by decide) fun u6 hu6 => ?_
    refine fld_n Z (i := 4) 1 (by decide) p7 (by rfl) (by rfl) (by rfl) (by decide) fun u7 hu7 => ?_
    refine ⟨by show 8 ≤ sizeLine; decide, fun pa na _ => ?_⟩
    have sa := same_new na (o := .lst [u0, u1, u2, u3, u4, u5, u6, u7])
    refine ⟨.ref pa, rfl, ?_⟩
    refine fld_n Z (i := 3) 0 (by decide) (p8.same sa) (by rfl) (by rfl) (by rfl) (by decide) fun u8 hu8 => ?_
    refine fld_n Z (i := 3) 1 (by decide) (p8.same sa) (by rfl) (by rfl) (by rfl) (by decide) fun u9 hu9 => ?_
    refine fld_n Z (i := 2) 0 (by decide) (p9.same sa) (by rfl) (by rfl) (by rfl) (by decide) fun u10 hu10 => ?_
    refine ⟨by show 3 ≤ sizeLine; decide, fun pb nb _ => ?_⟩
    have sb' := same_new nb (o := .lst [u8, u9, u10])
    refine ⟨pa, pb, [u0, u1, u2, u3, u4, u5, u6, u7], [u8, u9, u10], rfl, rfl, sb' _ _ upd_same, upd_same, by show 11 ≤ sizeLine; decide, fun pc nc => ?_⟩
    have sc' := same_new nc (o := .lst ([u0, u1, u2, u3, u4, u5, u6, u7] ++ [u8, u9, u10]))
    have s9c := sa.trans (sb'.trans sc')
    -- what is due
    have eT : ([u0, u1, u2, u3, u4, u5, u6, u7] ++ [u8, u9, u10] : List V) = [u0, u1, u2, u3, u4, u5, u6, u7, u8, u9, u10] := rfl
    obtain ⟨Hc, hHc⟩ : ∃ Hc, Hc = upd (upd (upd H9 pa (.lst [u0, u1, u2, u3, u4, u5, u6, u7])) pb (.lst [u8, u9, u10])) pc (.lst ([u0, u1, u2, u3, u4, u5, u6, u7] ++ [u8, u9, u10])) := ⟨_, rfl⟩
    refine ⟨fun σ' H' => ∃ pd, σ' = [some (.ref w), some v1, some v2, some v3, some (.ref x4), some (.ref x5), some (.ref x6), some (.ref x7), some (.ref x8), some (.ref x9), some (.ref pc), some (.ref pd), none] ∧ Same Hc H' ∧ H' pd = some (.lst [v1, v2, v3, v1, v2, v3, v1, v2, v1, v2, v1]), ?_, ?_⟩
    · exact ⟨v1, rfl, v2, rfl, v3, rfl, v1, rfl, v2, rfl, v3, rfl, v1, rfl, v2, rfl, v1, rfl, v2, rfl, v1, rfl, by show 11 ≤ sizeLine; decide, fun pd np _ => ⟨pd, rfl, by rw [hHc]; exact same_new np, upd_same⟩⟩
    rintro σ' Hd ⟨pd, rfl, scd, hpd⟩
    have s9d : Same H9 Hd := s9c.trans (hHc ▸ scd)
    have hpc : Hd pc = some (.lst [u0, u1, u2, u3, u4, u5, u6, u7, u8, u9, u10]) := scd _ _ (by rw [hHc]; exact upd_same)
    have sbd : Same (upd H9 pa (.lst [u0, u1, u2, u3, u4, u5, u6, u7])) Hd := sb'.trans (sc'.trans (hHc ▸ scd))
    clear scd hHc s9c sc' sb' sa nc nb na
    have B11 : DqAll Hd [u0, u1, u2, u3, u4, u5, u6, u7, u8, u9, u10] ([d1, d2, d3, d1, d2, d3, d1, d2, d1, d2, d1].map (fx 7)) :=
      .cons (hu0.same s9d) (.cons (hu1.same s9d) (.cons (hu2.same s9d) (.cons (hu3.same s9d) (.cons (hu4.same s9d) (.cons (hu5.same s9d) (.cons (hu6.same s9d) (.cons (hu7.same s9d) (.cons (hu8.same sbd) (.cons (hu9.same sbd) (.cons (hu10.same sbd) .nil))))))))))
    have s3d := s39.trans s9d
    have f1 := g1.same s3d
    have f2 := g2.same s3d
    have f3 := g3.same s3d
    have A11 : DqAll Hd [v1, v2, v3, v1, v2, v3, v1, v2, v1, v2, v1] [d1, d2, d3, d1, d2, d3, d1, d2, d1, d2, d1] :=
      .cons f1 (.cons f2 (.cons f3 (.cons f1 (.cons f2 (.cons f3 (.cons f1 (.cons f2 (.cons f1 (.cons f2 (.cons f1 .nil))))))))))
    have q11 : ∀ d ∈ [d1, d2, d3, d1, d2, d3, d1, d2, d1, d2, d1], Sh 2 d := by
      intro d hd
      simp only [List.mem_cons, List.not_mem_nil, or_false] at hd
      rcases hd with rfl | rfl | rfl | rfl | rfl | rfl | rfl | rfl | rfl | rfl | rfl <;> assumption
    have t11 := all_tp q11 (show 2 ≤ 7 by decide)
    have r11 : Rp (.list ([d1, d2, d3, d1, d2, d3, d1, d2, d1, d2, d1].map (fx 7))) := by
      refine Few.rp (few_list fun e he => ((t11 e he).sh.few)) ?_ (by decide)
      rw [List.length_map]
      show 11 * (sb 4 + 2) + 3 ≤ 16000000
      decide
    generalize hE : [d1, d2, d3, d1, d2, d3, d1, d2, d1, d2, d1] = ds11 at *
    generalize hF : [v1, v2, v3, v1, v2, v3, v1, v2, v1, v2, v1] = vs11 at *
    have ev3 : PyData.eqv (.tuple ([d1, d2, d3].map (fx 7))) (.tuple ([d1, d2, d3].map (fx 7))) = true := Tp.eqv (n := 5) (.inr ⟨_, rfl, by show 3 ≤ 3; decide, t4⟩)
    have t14 : ∀ e ∈ [d1, d2, d3].map (fx 7), Tp 14 e := fun e he => (t4 e he).le (by decide)
    have t14b : ∀ e ∈ [d1, d2].map (fx 7), Tp 14 e := fun e he => (all_tp (fun d hd => s2 d (by simp only [List.mem_cons, List.not_mem_nil, or_false] at hd ⊢; rcases hd with h | h <;> simp [h])) (show 2 ≤ 7 by decide) e he).le (by decide)
    refine ⟨fun σ' H' => σ' = [some (.ref w), some v1, some v2, some v3, some (.ref x4), some (.ref x5), some (.ref x6), some (.ref x7), some (.ref x8), some (.ref x9), some (.ref pc), some (.ref pd), none] ∧ Same Hd H', ?_, ?_⟩
    refine ⟨.ref pc, rfl, .ref pc, .list (ds11.map (fx 7)), rfl, .lst hpc B11, r11.1, r11.2.1, r11.2.2, .ref pd, rfl, pd, rfl, ⟨_, SqL.of hpd⟩, fun D5 nD5 => lc_it (walk_list (xs := vs11)) (fun i H' => Same Hd H' ∧ ∃ us, H' D5 = some (.lst us) ∧ DqAll H' us ((ds11.take i).map (fx 8)))
        ⟨same_new nD5, [], upd_same, .nil⟩ (fun i H' _ hP => SqL.of (hP.1 _ _ hpd)) (fun i x H5 H5b hi hP hy => ?_) (fun H5 hP => ?_)⟩
    · obtain ⟨g1, us, g2, g3⟩ := hP
      obtain ⟨rfl, hx⟩ := hy
      obtain ⟨e, he, hxe⟩ := A11.get hx
      have sh2 : Sh 2 e := q11 _ (List.mem_of_getElem? he)
      refine ⟨rfl, lc_yes ⟨x, rfl, x, e, rfl, hxe.same g1, sh2.le (by decide), fun y H6 s2 hy => ⟨us, s2 _ _ g2, ?_, ?_, us ++ [y], upd_same, ?_⟩⟩⟩
      · have := g3.len
        rw [List.length_map, List.length_take] at this
        have l11 : ds11.length = 11 := by rw [← hE]; rfl
        exact small1000 (by omega)
      · intro b o e2
        rw [upd_ne (ne_of_none e2 nD5)]
        exact s2 _ _ (g1 _ _ e2)
      · have sD : Tups H6 (upd H6 D5 (.lst (us ++ [y]))) := (Tups.of (Same.refl H6)).upd fun zs ez => by
          have z1 := s2 _ _ g2
          rw [z1] at ez
          cases ez
        exact all_snoc ((g3.same s2).tups sD (all_tp (fun d hd => q11 d (List.mem_of_mem_take hd)) (by decide))) he (hy.tups sD (fx_tpm sh2 (by decide)))
    · obtain ⟨g1', us5, g2', g3'⟩ := hP
      rw [A11.len, List.take_length, map_stab q11 (show 2 ≤ 8 by decide) (show 2 ≤ 7 by decide)] at g3'
      refine ⟨.ref D5, .list (ds11.map (fx 7)), rfl, .lst g2' g3', r11.1, r11.2.1, r11.2.2, rfl, _, rfl, ite2 (fun e => by simp at e) (fun _ => ?_)⟩
      have s95 := s9d.trans g1'
      refine ⟨.ref x4, rfl, .ref x5, rfl, eq_pp Z (i := 6) (j := 6) (by decide) (by decide) (p4.same s95) (p5.same s95) (by show 3 ≤ 3; decide) (by show 3 ≤ 3; decide) t14 t14 ?_⟩
      refine ⟨_, rfl, ite2 (fun e => ?_) (fun _ => ?_)⟩
      · rw [ev3] at e
        simp at e
      refine ⟨.ref x4, rfl, .ref x7, rfl, eq_pp Z (i := 6) (j := 4) (by decide) (by decide) (p4.same s95) (p7.same s95) (by show 3 ≤ 3; decide) (by show 2 ≤ 3; decide) t14 t14b ?_⟩
      refine ⟨_, rfl, ite2 (fun e => by simp at e) (fun _ => ?_)⟩
      exact ⟨rfl, g1'⟩
    rintro σ' He ⟨rfl, sde⟩
    have s9e := s9d.trans sde
    have e1 := g1
    have e2 := g2
    have e3 := g3
    clear g1 g2 g3 A3 A2 A1 B11 A11 q11 t11 r11 hpc hpd hu0 hu1 hu2 hu3 hu4 hu5 hu6 hu7 hu8 hu9 hu10
    have k4 := p4.same s9e
    have k6 := p6.same s9e
    have k7 := p7.same s9e
    have k8 := p8.same s9e
    have k9 := p9.same s9e
    -- their words
    refine ⟨fun σ' H' => σ' = [some (.ref w), some v1, some v2, some v3, some (.ref x4), some (.ref x5), some (.ref x6), some (.ref x7), some (.ref x8), some (.ref x9), some (.ref pc), some (.ref pd), none] ∧ Same He H', ?_, ?_⟩
    · refine fld_o Z (i := 6) (by decide) k4 (by rfl) ?_
      refine fld_o Z (i := 5) (by decide) k6 (by rfl) ?_
      refine fld_o Z (i := 4) (by decide) k7 (by rfl) ?_
      refine fld_o Z (i := 3) (by decide) k8 (by rfl) ?_
      refine fld_o Z (i := 2) (by decide) k9 (by rfl) ?_
      refine ⟨by show 5 ≤ sizeLine; decide, fun pe ne _ => ?_⟩
      refine ⟨by show 5 ≤ sizeLine; decide, fun pf nf _ => ?_⟩
      have se := same_new ne (o := .lst [.str "kept", .str "lost", .str "held", .str "broken", .str "holds"])
      have sf := same_new nf (o := .lst [.str "kept", .str "lost", .str "held", .str "broken", .str "holds"])
      refine ⟨.list [.str "kept", .str "lost", .str "held", .str "broken", .str "holds"], .list [.str "kept", .str "lost", .str "held", .str "broken", .str "holds"], .lst (SqL.of (sf _ _ upd_same)) (.cons (.str _) (.cons (.str _) (.cons (.str _) (.cons (.str _) (.cons (.str _) .nil))))), .lst (SqL.of upd_same) (.cons (.str _) (.cons (.str _) (.cons (.str _) (.cons (.str _) (.cons (.str _) .nil))))), by decide +kernel, by decide +kernel, _, rfl, ite2 (fun e => ?_) (fun _ => ?_)⟩
      · rw [show PyData.eqv (.list [.str "kept", .str "lost", .str "held", .str "broken", .str "holds"]) (.list [.str "kept", .str "lost", .str "held", .str "broken", .str "holds"]) = true by decide +kernel] at e
        simp at e
      exact ⟨rfl, se.trans sf⟩
    rintro σ' Hf ⟨rfl, sef⟩
    -- yes and no
    refine ⟨fun σ' H' => σ' = [some (.ref w), some v1, some v2, some v3, some (.ref x4), some (.ref x5), some (.ref x6), some (.ref x7), some (.ref x8), some (.ref x9), some (.ref pc), some (.ref pd), none] ∧ Same Hf H', ?_, ?_⟩
    · refine ⟨.ref x4, rfl, ?_⟩
      dsimp only [tNil]
      refine bool_p Z (i := 6) (by decide) (k4.same sef) ?_
      refine ⟨.ref x6, rfl, ?_⟩
      dsimp only [tNil]
      refine bool_p Z (i := 5) (by decide) (k6.same sef) ?_
      refine ⟨.ref x7, rfl, ?_⟩
      dsimp only [tNil]
      refine bool_p Z (i := 4) (by decide) (k7.same sef) ?_
      refine ⟨.ref x8, rfl, ?_⟩
      dsimp only [tNil]
      refine bool_p Z (i := 3) (by decide) (k8.same sef) ?_
      refine ⟨.ref x9, rfl, ?_⟩
      dsimp only [tNil]
      refine bool_p Z (i := 2) (by decide) (k9.same sef) ?_
      refine ⟨by show 5 ≤ sizeLine; decide, fun pe ne _ => ?_⟩
      refine ⟨by show 5 ≤ sizeLine; decide, fun pf nf _ => ?_⟩
      have se := same_new ne (o := .lst [.bl true, .bl false, .bl true, .bl false, .bl true])
      have sf := same_new nf (o := .lst [.bl true, .bl false, .bl true, .bl false, .bl true])
      refine ⟨.list [.bool true, .bool false, .bool true, .bool false, .bool true], .list [.bool true, .bool false, .bool true, .bool false, .bool true], .lst (SqL.of (sf _ _ upd_same)) (.cons (.bl _) (.cons (.bl _) (.cons (.bl _) (.cons (.bl _) (.cons (.bl _) .nil))))), .lst (SqL.of upd_same) (.cons (.bl _) (.cons (.bl _) (.cons (.bl _) (.cons (.bl _) (.cons (.bl _) .nil))))), by decide +kernel, by decide +kernel, _, rfl, ite2 (fun e => ?_) (fun _ => ?_)⟩
      · rw [show PyData.eqv (.list [.bool true, .bool false, .bool true, .bool false, .bool true]) (.list [.bool true, .bool false, .bool true, .bool false, .bool true]) = true by decide +kernel] at e
        simp at e
      exact ⟨rfl, se.trans sf⟩
    rintro σ' Hg ⟨rfl, sfg⟩
    have seg := sef.trans sfg
    have s3g := s39.trans (s9e.trans seg)
    have A3 : DqAll Hg [v1, v2, v3] [d1, d2, d3] := .cons (e1.same s3g) (.cons (e2.same s3g) (.cons (e3.same s3g) .nil))
    -- papers of other classes
    refine ⟨fun σ' H' => σ' = [some (.ref w), some v1, some v2, some v3, some (.ref x4), some (.ref x5), some (.ref x6), some (.ref x7), some (.ref x8), some (.ref x9), some (.ref pc), some (.ref pd), none] ∧ Same Hg H', ?_, ?_⟩
    · refine ⟨v1, rfl, v2, rfl, v3, rfl, fun xa dx nx ndx nex => ?_⟩
      refine mk_ini (K := K) (ds := [d1, d2, d3]) A3 S3 (by show 3 ≤ 3; decide) nx ndx fun Ha hxa sa => ⟨rfl, ?_⟩
      refine ⟨.ref x4, rfl, eq_pp Z (i := 0) (j := 6) (by decide) (by decide) hxa ((k4.same seg).same sa) (by show 3 ≤ 3; decide) (by show 3 ≤ 3; decide) t14 t14 ?_⟩
      refine ⟨_, rfl, ite2 (fun e => by simp at e) (fun _ => ?_)⟩
      clear nx ndx nex
      refine ⟨.ref x6, rfl, v1, rfl, v2, rfl, v3, rfl, fun xb dx nx ndx nex => ?_⟩
      refine mk_ini (K := K) (ds := [d1, d2, d3]) (A3.same sa) S3 (by show 3 ≤ 3; decide) nx ndx fun Hb hxb sb => ⟨rfl, ?_⟩
      refine eq_pp Z (i := 5) (j := 1) (by decide) (by decide) ((k6.same seg).same (sa.trans sb)) hxb (by show 3 ≤ 3; decide) (by show 3 ≤ 3; decide) t14 t14 ?_
      refine ⟨_, rfl, ite2 (fun e => by simp at e) (fun _ => ?_)⟩
      clear nx ndx nex
      refine ⟨.ref x4, rfl, v1, rfl, v2, rfl, v3, rfl, fun xc dx nx ndx nex => ?_⟩
      refine mk_ini (K := K) (ds := [d1, d2, d3]) (A3.same (sa.trans sb)) S3 (by show 3 ≤ 3; decide) nx ndx fun Hc hxc sc => ⟨rfl, ?_⟩
      refine eq_pp Z (i := 6) (j := 0) (by decide) (by decide) ((k4.same seg).same (sa.trans (sb.trans sc))) hxc (by show 3 ≤ 3; decide) (by show 3 ≤ 3; decide) t14 t14 ?_
      refine ⟨_, rfl, ite2 (fun e => by simp at e) (fun _ => ?_)⟩
      exact ⟨rfl, sa.trans (sb.trans sc)⟩
    rintro σ' Hh ⟨rfl, sgh⟩
    have seh := seg.trans sgh
    have B3 := A3.same sgh
    have rp := rp_tup (n := 4) t4 (by show 3 ≤ 3; decide) (by decide)
    refine fld_q Z (i := 6) (by decide) (k4.same seh) (by rfl) fun tp htp => ?_
    refine ⟨.ref tp, .tuple ([d1, d2, d3].map (fx 7)), rfl, htp, rp.1, rp.2.1, rp.2.2, v1, rfl, v2, rfl, v3, rfl, by show 3 ≤ sizeLine; decide, fun pl nl _ => ?_⟩
    have sl := same_new nl (o := .lst [v1, v2, v3])
    refine ⟨pl, rfl, ⟨_, SqL.of upd_same⟩, fun D5 nD5 => lc_it (walk_list (xs := [v1, v2, v3])) (fun i H' => Same (upd Hh pl (.lst [v1, v2, v3])) H' ∧ ∃ us, H' D5 = some (.lst us) ∧ DqAll H' us (([d1, d2, d3].take i).map (fx 8)))
        ⟨same_new nD5, [], upd_same, .nil⟩ (fun i H' _ hP => SqL.of (hP.1 _ _ upd_same)) (fun i x H5 H5b hi hP hy => ?_) (fun H5 hP => ?_)⟩
    · obtain ⟨g1, us, g2, g3⟩ := hP
      obtain ⟨rfl, hx⟩ := hy
      obtain ⟨e, he, hxe⟩ := (B3.same sl).get hx
      have sh2 : Sh 2 e := s2 _ (List.mem_of_getElem? he)
      refine ⟨rfl, lc_yes ⟨x, rfl, x, e, rfl, hxe.same g1, sh2.le (by decide), fun y H6 s6 hy => ⟨us, s6 _ _ g2, ?_, ?_, us ++ [y], upd_same, ?_⟩⟩⟩
      · have := g3.len
        rw [List.length_map, List.length_take] at this
        have l3 : [d1, d2, d3].length = 3 := rfl
        exact small1000 (by omega)
      · intro b o e2
        rw [upd_ne (ne_of_none e2 nD5)]
        exact s6 _ _ (g1 _ _ e2)
      · have sD : Tups H6 (upd H6 D5 (.lst (us ++ [y]))) := (Tups.of (Same.refl H6)).upd fun zs ez => by
          have z1 := s6 _ _ g2
          rw [z1] at ez
          cases ez
        exact all_snoc ((g3.same s6).tups sD (all_tp (fun d hd => s2 d (List.mem_of_mem_take hd)) (by decide))) he (hy.tups sD (fx_tpm sh2 (by decide)))
    · obtain ⟨g1', us5, g2', g3'⟩ := hP
      have g3' : DqAll H5 us5 ([d1, d2, d3].map (fx 8)) := g3'
      rw [map_stab s2 (show 2 ≤ 8 by decide) (show 2 ≤ 7 by decide)] at g3'
      refine ⟨D5, us5, rfl, .inl ⟨SqL.of g2', fun t5 nt5 => ?_⟩⟩
      have st := same_new nt5 (o := .tup us5)
      refine ⟨.ref t5, .tuple ([d1, d2, d3].map (fx 7)), rfl, .tup upd_same (g3'.same st), rp.1, rp.2.1, rp.2.2, rfl, _, rfl, ite2 (fun _ => ?_) (fun e => by simp at e)⟩
      have shz := sl.trans (g1'.trans st)
      obtain ⟨fus, ft, ⟨fdx, ffs, fh1, fh2, fh3⟩, fh4, fh5⟩ := (k6.same seh).same shz
      have jj := Z.ic 5 (by decide)
      refine ⟨.ref x6, rfl, .inl ⟨.ref x6, .ref (c 1), .ref (c 5), .ref (c 1), true, rfl, .own _, .base (.ins fh1 jj.cl jj.ha jj.hn jj.htk jj.hm), Z.kin 5 1 (by decide) (by decide), ?_⟩⟩
      have s3z := s3g.trans (sgh.trans shz)
      have kpz := kp1.trans (kp2.trans (kp3.trans (Kp.same s3z)))
      exact q _ kpz ((hW3.same s3z).mono (by omega))
end
end K02

set_option Elab.async false
set_option linter.all false
set_option maxRecDepth 100000
set_option maxHeartbeats 4000000
namespace K02
open PySem PySem.Spec PyProof.Rows L2 Gd NdefX
def spLaw (K : PySem.W.Frag) : Sp := fun vs H Q _ => ∃ (s : Addr) (ns : List Int), vs = [.ref s] ∧ SqL K H s (ns.map V.int) ∧ ns.length ≤ 63 ∧ ∀ H' : Hp, Q (.bl true) H'
theorem eqv2 {a b c d : PyData} : PyData.eqv (.tuple [a, b]) (.tuple [c, d]) = (PyData.eqv a c && PyData.eqv b d) := by
  simp only [PyData.eqv, PyData.eqvAll, Bool.and_true]
theorem eqv1 {a c : PyData} : PyData.eqv (.tuple [a]) (.tuple [c]) = PyData.eqv a c := by
  simp only [PyData.eqv, PyData.eqvAll, Bool.and_true]
section
variable {P : Program} {w : World} {K : PySem.W.Frag} {mg : Str → Option Value} {base : Heap} {c f cc cda : Nat → Addr} {fE fB : Addr}
theorem ok_law {fl : Addr} {fd : FuncData} (F : C8.Def K mg "law" slaw fl fd) (T : Txt K mg) (Z : Tz P K mg c f cc cda fE fB) (G_fixed : C8.Cal P w K mg base 9 "fixed" (spF 9) []) (G__law_tray : Gd.Cal P w K mg base 1 "_law_tray" (spWell K))
    (G__law_value : Gd.Cal P w K mg base 5 "_law_value" (spVal 2)) (G__law_fixed_right : Gd.Cal P w K mg base 10 "_law_fixed_right" spPR) (G__law_papers_right : Gd.Cal P w K mg base 14 "_law_papers_right" spPR) (G__law_kinds_right : Gd.Cal P w K mg base 14 "_law_kinds_right" spPR) :
    FnG P w K mg base CX0 15 fl fd ["_law_script"] (spLaw K) := by
  refine fnG_of F.fn sclaw (fun vs H Q E h => ?_) (fun cdv A outer s H vs Q E hgd hr h => ?_)
  · obtain ⟨s, ns, rfl, _⟩ := h
    rfl
  · have nd := sclaw.nd
    have FE := fn_eq (w := w) (base := base) T Z
    have hr1 := hr.mono (show 1 ≤ 14 by decide)
    have M_P := m_P (w := w) (base := base) Z G_fixed
    have M_D := m_D (w := w) (base := base) Z G_fixed
    obtain ⟨s, ns, rfl, hs, hl, q⟩ := h
    refine ⟨_, PSs.nox (pss_cons (ps_set (i := 1) nd rfl (.inl rfl) (pc G__law_tray hgd hr (by omega) (by rfl) (pa_cons (pv 0) pa_nil)))
      (pss_cons (ps_for PassesOwn.never rfl (pi_range1 rfl T.z_range (pa_cons pe_int pa_nil)) (pg_name (i := 2) nd rfl (Or.inl rfl)) (pss_one (ps_if (PW.pt (pw_or (pt_not (pt_val (pc G__law_fixed_right hgd hr (by omega) (by rfl) (pa_cons (pv 1) pa_nil)))) (pw_or (pt_not (pt_val (pc G__law_papers_right hgd hr (by omega) (by rfl) (pa_cons (pv 1) pa_nil)))) (pw_or1 (pt_not (pt_val (pc G__law_kinds_right hgd hr (by omega) (by rfl) (pa_cons (pv 1) pa_nil)))))))) (pss_one (ps_ret pe_bl)) pss_nil)))
      (pss_cons (ps_set (i := 3) nd rfl (.inl rfl) (pc G__law_value hgd hr (by omega) (by rfl) (pa_cons (pv 1) (pa_cons pe_int pa_nil))))
      (pss_cons (ps_if (PW.pt (pw_or (pt_not (pt_cmpR (op_eqO FE hr1) (pe_mkR M_P hr (by omega) (by rfl) (pa_cons pe_str (pa_cons (pe_lstX (pa_cons (pv 3) (pa_cons pe_int pa_nil))) pa_nil))) (pe_mkR M_P hr (by omega) (by rfl) (pa_cons pe_str (pa_cons (pe_tup (pa_cons (pv 3) (pa_cons pe_bl pa_nil))) pa_nil))) (nomark _))) (pw_or1 (pt_cmpR (op_eqO FE hr1) (pe_mkR M_P hr (by omega) (by rfl) (pa_cons pe_str (pa_cons (pe_lstX (pa_cons (pv 3) (pa_cons pe_int pa_nil))) pa_nil))) (pe_mkR M_P hr (by omega) (by rfl) (pa_cons pe_str (pa_cons (pe_lstX (pa_cons (pv 3) (pa_cons pe_int pa_nil))) pa_nil))) (nomark _))))) (pss_one (ps_ret pe_bl)) pss_nil)
      (pss_one (ps_ret (pe_and (pe_cmpR (op_eqO FE hr1) (pe_mkR M_D hr (by omega) (by rfl) (pa_cons pe_str (pa_cons pe_int (pa_cons (pv 3) pa_nil)))) (pe_mkR M_D hr (by omega) (by rfl) (pa_cons pe_str (pa_cons pe_bl (pa_cons (pv 3) pa_nil)))) (nomark _)) (pe_one (pe_not (pe_cmpR (op_eqO FE hr1) (pe_mkR M_D hr (by omega) (by rfl) (pa_cons pe_str (pa_cons pe_int pa_nil))) (pe_mkR M_D hr (by omega) (by rfl) (pa_cons pe_str (pa_cons pe_int (pa_cons pe_int pa_nil)))) (nomark _))))))))))), ?_⟩
    have v2e : vc 2 ≤ 120 := by decide
    refine ⟨.ref s, rfl, s, ns, rfl, hs, hl, fun w a H1 s1 nw hW => ⟨5, rfl, by decide, by decide,
      for_range (lo := 0) (n := 5) (fun i σ' H' => ∃ y, σ' = [some (.ref s), some (.ref w), y, none] ∧ Wl ns w a (3600 * i) H') ⟨none, rfl, hW⟩ (fun i σ' H2 hi hP => ?_) (fun σ' H2 hP => ?_)⟩⟩
    · obtain ⟨y, rfl, hW2⟩ := hP
      refine ⟨.ref w, rfl, w, a, ns, _, rfl, hW2, by omega, fun H3 _ hW3 => ⟨_, rfl, ite2 (fun e => nomatch e) (fun _ => ?_)⟩⟩
      refine ⟨.ref w, rfl, w, a, ns, _, rfl, hW3, by omega, fun H4 _ hW4 => ⟨_, rfl, ite2 (fun e => nomatch e) (fun _ => ?_)⟩⟩
      refine ⟨.ref w, rfl, w, a, ns, _, rfl, hW4, by omega, fun H5 _ hW5 => ⟨_, rfl, ite2 (fun e => nomatch e) (fun _ => ?_)⟩⟩
      exact ⟨_, rfl, hW5.mono (by omega)⟩
    · obtain ⟨y, rfl, hW2⟩ := hP
      refine ⟨.ref w, rfl, w, a, ns, _, rfl, hW2, by omega, fun v d H3 kp3 hW3 hd3 sd => ?_⟩
      have g := hd3.same nw_sub
      have t6 : Tp 4 (fx 6 d) := fx_tpm sd (by decide)
      have i1 : Lf (.int 1) := show (1 : Int).natAbs < 10 ^ 30 by decide
      have i2 : Lf (.int 2) := show (2 : Int).natAbs < 10 ^ 30 by decide
      have i0 : Lf (.int 0) := show (0 : Int).natAbs < 10 ^ 30 by decide
      have sl : ∀ x : PyData, Lf x → ∀ e ∈ [d, x], Sh 6 e := fun x hx e he => by
        simp only [List.mem_cons, List.not_mem_nil, or_false] at he
        rcases he with rfl | rfl
        · exact sd.le (by decide)
        · exact Sh.leaf hx
      have sL : ∀ x : PyData, Lf x → ∀ e ∈ [PyData.list [d, x]], Sh 7 e := fun x hx e he => by
        obtain rfl := List.mem_singleton.mp he
        exact (show Sh 7 (.list [d, x]) from .inr (.inl ⟨[d, x], .inl rfl, by show 2 ≤ 3; decide, sl x hx⟩))
      have sT : ∀ x : PyData, Lf x → ∀ e ∈ [PyData.tuple [d, x]], Sh 7 e := fun x hx e he => by
        obtain rfl := List.mem_singleton.mp he
        exact (show Sh 7 (.tuple [d, x]) from .inr (.inl ⟨[d, x], .inr rfl, by show 2 ≤ 3; decide, sl x hx⟩))
      have fL : ∀ x : PyData, Lf x → [PyData.list [d, x]].map (fx 7) = [.tuple [fx 6 d, x]] := fun x hx => by
        show [PyData.tuple [fx 6 d, fx 6 x]] = _
        rw [fx_leaf hx]
      have fT : ∀ x : PyData, Lf x → [PyData.tuple [d, x]].map (fx 7) = [.tuple [fx 6 d, x]] := fun x hx => by
        show [PyData.tuple [fx 6 d, fx 6 x]] = _
        rw [fx_leaf hx]
      have tP : ∀ x : PyData, Lf x → ∀ e ∈ [PyData.tuple [fx 6 d, x]], Tp 14 e := fun x hx e he => by
        obtain rfl := List.mem_singleton.mp he
        refine Tp.le (n := 5) (.inr ⟨_, rfl, by show 2 ≤ 3; decide, fun e he => ?_⟩) (by decide)
        simp only [List.mem_cons, List.not_mem_nil, or_false] at he
        rcases he with rfl | rfl
        · exact t6
        · exact Tp.leaf hx
      have ed : PyData.eqv (fx 6 d) (fx 6 d) = true := t6.eqv
      -- a list, a tuple
      refine ⟨v, rfl, by show 2 ≤ sizeLine; decide, fun p0 n0 _ => fun xa dx nx ndx nex => ?_⟩
      have s0 := same_new n0 (o := .lst [v, .int 1])
      refine mk_ini (K := K) (ds := [.list [d, .int 1]]) (.cons (.lst upd_same (.cons (g.same s0) (.cons (.int _) .nil))) .nil) (sL _ i1) (by show 1 ≤ 3; decide) nx ndx fun Ha hxa sa => ⟨rfl, ?_⟩
      clear nx ndx nex
      have za := s0.trans sa
      refine ⟨v, rfl, by show 2 ≤ sizeLine; decide, fun p1 n1 => fun xb dx nx ndx nex => ?_⟩
      have s1' := same_new n1 (o := .tup [v, .bl true])
      refine mk_ini (K := K) (ds := [.tuple [d, .bool true]]) (.cons (.tup upd_same (.cons ((g.same za).same s1') (.cons (.bl _) .nil))) .nil) (sT _ trivial) (by show 1 ≤ 3; decide) nx ndx fun Hb hxb sb => ⟨rfl, ?_⟩
      clear nx ndx nex
      have zb := s1'.trans sb
      rw [fL _ i1] at hxa
      rw [fT (.bool true) trivial] at hxb
      refine eq_pp Z (i := 0) (j := 0) (by decide) (by decide) (hxa.same zb) hxb (by show 1 ≤ 3; decide) (by show 1 ≤ 3; decide) (tP _ i1) (tP (.bool true) trivial) ?_
      refine ⟨_, rfl, ite2 (fun e => ?_) (fun _ => ?_)⟩
      · rw [eqv1, eqv2, ed] at e
        exact absurd e (by decide +kernel)
      have zz := za.trans zb
      refine ⟨v, rfl, by show 2 ≤ sizeLine; decide, fun p2 n2 _ => fun xc dx nx ndx nex => ?_⟩
      have s2 := same_new n2 (o := .lst [v, .int 1])
      refine mk_ini (K := K) (ds := [.list [d, .int 1]]) (.cons (.lst upd_same (.cons ((g.same zz).same s2) (.cons (.int _) .nil))) .nil) (sL _ i1) (by show 1 ≤ 3; decide) nx ndx fun Hc hxc sc => ⟨rfl, ?_⟩
      clear nx ndx nex
      have zc := zz.trans (s2.trans sc)
      refine ⟨v, rfl, by show 2 ≤ sizeLine; decide, fun p3 n3 _ => fun xd dx nx ndx nex => ?_⟩
      have s3 := same_new n3 (o := .lst [v, .int 2])
      refine mk_ini (K := K) (ds := [.list [d, .int 2]]) (.cons (.lst upd_same (.cons ((g.same zc).same s3) (.cons (.int _) .nil))) .nil) (sL _ i2) (by show 1 ≤ 3; decide) nx ndx fun Hd hxd sd' => ⟨rfl, ?_⟩
      clear nx ndx nex
      have zd := zc.trans (s3.trans sd')
      rw [fL _ i1] at hxc
      rw [fL _ i2] at hxd
      refine eq_pp Z (i := 0) (j := 0) (by decide) (by decide) (hxc.same (s3.trans sd')) hxd (by show 1 ≤ 3; decide) (by show 1 ≤ 3; decide) (tP _ i1) (tP _ i2) ?_
      refine ⟨_, rfl, ite2 (fun e => ?_) (fun _ => ?_)⟩
      · rw [eqv1, eqv2, ed] at e
        exact absurd e (by decide +kernel)
      -- denials
      have gd := g.same zd
      have q2 : ∀ x : PyData, Lf x → ∀ e ∈ [x, d], Sh 7 e := fun x hx e he => by
        simp only [List.mem_cons, List.not_mem_nil, or_false] at he
        rcases he with rfl | rfl
        · exact Sh.leaf hx
        · exact sd.le (by decide)
      have f2 : ∀ x : PyData, Lf x → [x, d].map (fx 7) = [x, fx 7 d] := fun x hx => by
        show [fx 7 x, fx 7 d] = _
        rw [fx_leaf hx]
      have t7 : Tp 4 (fx 7 d) := fx_tpm sd (by decide)
      have u2 : ∀ x : PyData, Lf x → ∀ e ∈ [x, fx 7 d], Tp 14 e := fun x hx e he => by
        simp only [List.mem_cons, List.not_mem_nil, or_false] at he
        rcases he with rfl | rfl
        · exact Tp.leaf hx
        · exact t7.le (by decide)
      have e7 : PyData.eqv (fx 7 d) (fx 7 d) = true := t7.eqv
      refine ⟨v, rfl, fun xe dx nx ndx nex => ?_⟩
      refine mk_ini (K := K) (ds := [.int 0, d]) (.cons (.int _) (.cons gd .nil)) (q2 _ i0) (by show 2 ≤ 3; decide) nx ndx fun He hxe se => ⟨rfl, ?_⟩
      clear nx ndx nex
      refine ⟨v, rfl, fun xf dx nx ndx nex => ?_⟩
      refine mk_ini (K := K) (ds := [.bool false, d]) (.cons (.bl _) (.cons (gd.same se) .nil)) (q2 _ trivial) (by show 2 ≤ 3; decide) nx ndx fun Hf hxf sf => ⟨rfl, ?_⟩
      clear nx ndx nex
      rw [f2 _ i0] at hxe
      rw [f2 (.bool false) trivial] at hxf
      refine eq_pp Z (i := 1) (j := 1) (by decide) (by decide) (hxe.same sf) hxf (by show 2 ≤ 3; decide) (by show 2 ≤ 3; decide) (u2 _ i0) (u2 (.bool false) trivial) ?_
      refine ⟨_, rfl, ite2 (fun _ => ?_) (fun e => ?_)⟩
      · refine fun xg dx nx ndx nex => ?_
        refine mk_ini (K := K) (ds := [.int 0]) (.cons (.int _) .nil) (fun e he => by obtain rfl := List.mem_singleton.mp he; exact Sh.leaf i0) (by show 1 ≤ 3; decide) nx ndx fun Hg hxg sg => ⟨rfl, ?_⟩
        clear nx ndx nex
        refine fun xh dx nx ndx nex => ?_
        refine mk_ini (K := K) (ds := [.int 0, .int 0]) (.cons (.int _) (.cons (.int _) .nil)) (fun e he => by simp only [List.mem_cons, List.not_mem_nil, or_false] at he; rcases he with rfl | rfl <;> exact Sh.leaf i0) (by show 2 ≤ 3; decide) nx ndx fun Hh hxh sh => ⟨rfl, ?_⟩
        clear nx ndx nex
        have m1 : [PyData.int 0].map (fx 7) = [.int 0] := by show [fx 7 (.int 0)] = _; rw [fx_leaf i0]
        have m2 : [PyData.int 0, .int 0].map (fx 7) = [.int 0, .int 0] := by show [fx 7 (.int 0), fx 7 (.int 0)] = _; rw [fx_leaf i0]
        rw [m1] at hxg
        rw [m2] at hxh
        refine eq_pp Z (i := 1) (j := 1) (by decide) (by decide) (hxg.same sh) hxh (by show 1 ≤ 3; decide) (by show 2 ≤ 3; decide) (fun e he => by obtain rfl := List.mem_singleton.mp he; exact Tp.leaf i0) (fun e he => by simp only [List.mem_cons, List.not_mem_nil, or_false] at he; rcases he with rfl | rfl <;> exact Tp.leaf i0) ?_
        rw [eqv_tup_len (by show (1 : Nat) ≠ 2; decide)]
        exact ⟨_, rfl, q _⟩
      · rw [eqv2, e7] at e
        exact absurd e (by decide +kernel)
end
end K02

set_option Elab.async false
set_option linter.all false
set_option maxRecDepth 100000
set_option maxHeartbeats 2000000
/-! the head by one run of the kernel, with methods that close over their class -/
namespace Gd
open PySem PySem.Spec PyProof.Rows L2
/-- the part of the heap that the look reads -/
def frX (n : Nat) (g : Addr → Option Obj) : PySem.W.Frag := He.frG g ([cStatics, sysModules] ++ He.asD g n)
abbrev FnVX : Type := Option (Str × Str × Arguments × FuncBody × Scope × Addr × List Str × Value × Addr)
def obsX (K : PySem.W.Frag) (p : Str × Option Str) : FnVX := match K.lookup (He.fAd K p) with
  | some ⟨_, _, .func fd, _⟩ => some (fd.name, fd.qualname, fd.params, fd.body, fd.scope, fd.globals, fd.closure.map (·.1), fd.defaults, fd.builtins)
  | _ => none
/-- a def: where, its names, its text, the names that it closes over -/
structure FnDX where
  at_ : Str × Option Str
  name : Str
  qual : Str
  params : Arguments
  body : List Stmt
  scope : Scope
  ov : List Str
def FnDX.val (d : FnDX) : FnVX := some (d.name, d.qual, d.params, .stmts d.body, d.scope, mainGlobals, d.ov, .none, builtinsNs)
def obX (n : Nat) (B : PySem.W.Frag → Bool) (fn : List FnDX) (g : Addr → Option Obj) : Bool × List FnVX := (B (frX n g), fn.map fun d => obsX (frX n g) d.at_)
def SaysX (B : PySem.W.Frag → Bool) (fn : List FnDX) (K : PySem.W.Frag) : Prop := B K = true ∧ fn.map (fun d => obsX K d.at_) = fn.map FnDX.val
def hkX (n : Nat) (B : PySem.W.Frag → Bool) (fn : List FnDX) : PySem.W.Hook where
  α := Bool × List FnVX
  obs := fun s => obX n B fn s.heap.get?
  val := fun _ => (true, fn.map FnDX.val)
  says := fun _ h => ∃ K : PySem.W.Frag, K.In h ∧ SaysX B fn K
  of := fun _ s e => ⟨frX n s.heap.get?, He.frG_in, congrArg (fun z => z.1) e, congrArg (fun z => z.2) e⟩
  keeps := fun _ _ _ ⟨K, hK, c⟩ k => ⟨K, PySem.W.Frag.In.keeps hK k, c⟩
theorem obX_eq {n : Nat} {B : PySem.W.Frag → Bool} {fn : List FnDX} (s : PySem.W.SharedT) : obX n B fn (HandSHeadRun.getT s) = (hkX n B fn).obs s.abs := by
  have e : HandSHeadRun.getT s = s.abs.heap.get? := funext (HandSHeadRun.getT_eq s)
  rw [e]
  rfl
theorem SaysX.fn {B : PySem.W.Frag → Bool} {fn : List FnDX} {K : PySem.W.Frag} (c : SaysX B fn K) (i : Nat) {d : FnDX} (h : fn[i]? = some d) : obsX K d.at_ = d.val := by
  have e : (fn.map fun d => obsX K d.at_)[i]? = (fn.map FnDX.val)[i]? := by rw [c.2]
  rw [List.getElem?_map, List.getElem?_map, h] at e
  exact Option.some.inj e
def gdX (x : Str) (st : Stmt) : FnDX := ⟨(x, none), x, x, C8.fnArgs st, C8.fnBody st, C8.fnScope st, []⟩
def cdX (x m q : Str) (st : Stmt) (ov : List Str) : FnDX := ⟨(x, some m), m, q, C8.fnArgs st, C8.fnBody st, C8.fnScope st, ov⟩
/-- the function as it stands -/
theorem fnX_at {K : PySem.W.Frag} {d : FnDX} (e : obsX K d.at_ = d.val) : ∃ oc od osl kV doc pm an cdv ct cl, cl.map (·.1) = d.ov ∧ K.lookup (He.fAd K d.at_) = some ⟨oc, od, .func (PySem.W.fnX d.name d.qual d.params d.body d.scope cl .none kV doc pm an cdv ct), osl⟩ := by
  unfold obsX at e
  cases q : K.lookup (He.fAd K d.at_) with
  | none =>
    rw [q] at e
    cases e
  | some o =>
    obtain ⟨oc, od, dt, osl⟩ := o
    rw [q] at e
    cases dt with
    | func fd =>
      obtain ⟨n1, n2, n3, n4, n5, n6, n7, n8, n9, n10, n11, n12, n13, n14, n15⟩ := fd
      have e2 : (some (n1, n2, n3, n4, n5, n6, n7.map (·.1), n8, n15) : FnVX) = some (d.name, d.qual, d.params, .stmts d.body, d.scope, mainGlobals, d.ov, .none, builtinsNs) := e
      simp only [Option.some.injEq, Prod.mk.injEq] at e2
      obtain ⟨h1, h2, h3, h4, h5, h6, h7, h8, h9⟩ := e2
      subst h1 h2 h3 h4 h5 h6 h8 h9
      exact ⟨oc, od, osl, n9, n10, n11, n12, n13, n14, n7, h7, rfl⟩
    | _ => cases e
theorem funX_of {K : PySem.W.Frag} {p : Str × Option Str} {x q : Str} {st : Stmt} (o : obsX K p = FnDX.val ⟨p, x, q, C8.fnArgs st, C8.fnBody st, C8.fnScope st, []⟩) (cd : (He.Fa.code p q).ok K = true) :
    ∃ fd, C8.Fun K x q st (He.fAd K p) fd ∧ fd.defaults = .none := by
  obtain ⟨oc, od, osl, kV, doc, pm, an, cdv, ct, cl, h, l⟩ := fnX_at (d := ⟨p, x, q, C8.fnArgs st, C8.fnBody st, C8.fnScope st, []⟩) o
  obtain rfl : cl = [] := List.map_eq_nil_iff.mp h
  have c2 : (match K.lookup (He.fAd K p) with
    | some ⟨_, _, .func fd, _⟩ => PySem.W.codeIn K fd.code q
    | _ => false) = true := cd
  rw [l] at c2
  exact ⟨_, ⟨oc, od, .none, kV, doc, pm, an, cdv, ct, osl, rfl, l, c2⟩, rfl⟩
theorem defX_of {K : PySem.W.Frag} {h : Heap} {mg : Str → Option Value} {x : Str} {st : Stmt} (X : K.In h) (G : h.Ns mainGlobals mg) (o : obsX K (x, none) = (gdX x st).val) (g : (He.Fa.glo x).ok K = true) (k : (He.Fa.keep x).ok K = true)
    (cd : (He.Fa.code (x, none) x).ok K = true) : ∃ fd, C8.Def K mg x st (He.ga K x) fd ∧ fd.defaults = .none := by
  obtain ⟨fd, F, e⟩ := funX_of (p := (x, none)) o cd
  exact ⟨fd, ⟨F, He.glo_ok X G g, k⟩, e⟩
/-! ### methods that begin with super() -/
def ccA (K : PySem.W.Frag) (p : Str × Option Str) : Addr := match K.lookup (He.fAd K p) with
  | some ⟨_, _, .func fd, _⟩ => (match fd.closure with
    | [(_, a)] => a
    | _ => 0)
  | _ => 0
def cdA (K : PySem.W.Frag) (p : Str × Option Str) : Addr := match K.lookup (He.fAd K p) with
  | some ⟨_, _, .func fd, _⟩ => (match fd.code with
    | .ref a => a
    | _ => 0)
  | _ => 0
def codB (K : PySem.W.Frag) (p : Str × Option Str) (q : Str) : Bool := match K.lookup (He.fAd K p) with
  | some ⟨_, _, .func fd, _⟩ => (match fd.code with
    | .ref a => PySem.W.codeIn K (.ref a) q
    | _ => false)
  | _ => false
def filB (K : PySem.W.Frag) (a : Addr) (file : Str) : Bool := match K.lookup a with
  | some ⟨_, _, .fields vs, _⟩ => (match (vs[2]? : Option Value) with
    | some (.str z _) => file == z
    | _ => false)
  | _ => false
def celB (K : PySem.W.Frag) (a D : Addr) : Bool := match K.lookup a with
  | some ⟨_, _, .cell (some (.ref b)), _⟩ => decide (b = D)
  | _ => false
def isClsB (K : PySem.W.Frag) (D : Addr) : Bool := match K.lookup D with
  | some ⟨_, _, .cls _, _⟩ => true
  | _ => false
def supB (K : PySem.W.Frag) (p : Str × Option Str) (q file : Str) (D : Addr) : Bool := codB K p q && (filB K (cdA K p) file && (celB K (ccA K p) D && isClsB K D))
theorem supF_of {P : Program} {K : PySem.W.Frag} {mg : Str → Option Value} {p : Str × Option Str} {m q file : Str} {st : Stmt} {D : Addr} (o : obsX K p = FnDX.val ⟨p, m, q, C8.fnArgs st, C8.fnBody st, C8.fnScope st, ["__class__"]⟩) (b : supB K p q file D = true)
    (hf : P.main.file = file) (ht : (P.main.scope.names.lookup ("super" : Str)).isSome = false) (hz : mg "super" = none) :
    SupF P K mg (He.fAd K p) (ccA K p) (cdA K p) D ⟨m, q, C8.fnArgs st, C8.fnBody st, C8.fnScope st, [("__class__", ccA K p)], cdA K p⟩ := by
  obtain ⟨b1, b⟩ := Bool.and_eq_true_iff.mp b
  obtain ⟨b2, b⟩ := Bool.and_eq_true_iff.mp b
  obtain ⟨b3, b4⟩ := Bool.and_eq_true_iff.mp b
  obtain ⟨oc, od, osl, kV, doc, pm, an, cdv, ct, cl, h, l⟩ := fnX_at (d := ⟨p, m, q, C8.fnArgs st, C8.fnBody st, C8.fnScope st, ["__class__"]⟩) o
  obtain ⟨cca, rfl⟩ : ∃ a, cl = [(("__class__" : Str), a)] := by
    match cl, h with
    | [(z, a)], h =>
      have e : z = ("__class__" : Str) := (List.cons.inj h).1
      exact ⟨a, by rw [e]⟩
  unfold codB at b1
  rw [l] at b1
  obtain ⟨cda, rfl⟩ : ∃ a, cdv = .ref a := by
    cases cdv with
    | ref a => exact ⟨a, rfl⟩
    | _ => cases b1
  have ec : ccA K p = cca := by
    unfold ccA
    rw [l]
  have ed : cdA K p = cda := by
    unfold cdA
    rw [l]
  rw [ed] at b2
  rw [ec] at b3
  rw [ec, ed]
  refine ⟨⟨oc, od, kV, doc, pm, an, ct, osl, l⟩, rfl, rfl, b1, ?_, ?_, ?_, ht, hz⟩
  · unfold filB at b2
    cases q2 : K.lookup cda with
    | none => rw [q2] at b2; cases b2
    | some ob =>
      obtain ⟨o1, o2, dt, o4⟩ := ob
      rw [q2] at b2
      cases dt with
      | fields vs =>
        have b5 : (match (vs[2]? : Option Value) with
          | some (.str z _) => file == z
          | _ => false) = true := b2
        cases q3 : vs[2]? with
        | none => rw [q3] at b5; cases b5
        | some v =>
          rw [q3] at b5
          cases v with
          | str z t => exact ⟨_, vs, z, t, rfl, rfl, q3, by rw [hf]; exact b5⟩
          | _ => cases b5
      | _ => cases b2
  · unfold celB at b3
    cases q2 : K.lookup cca with
    | none => rw [q2] at b3; cases b3
    | some ob =>
      obtain ⟨o1, o2, dt, o4⟩ := ob
      rw [q2] at b3
      cases dt with
      | cell v =>
        cases v with
        | none => cases b3
        | some v =>
          cases v with
          | ref b =>
            obtain rfl : b = D := of_decide_eq_true b3
            exact ⟨_, rfl, rfl⟩
          | _ => cases b3
      | _ => cases b3
  · unfold isClsB at b4
    cases q2 : K.lookup D with
    | none => rw [q2] at b4; cases b4
    | some ob =>
      obtain ⟨o1, o2, dt, o4⟩ := ob
      rw [q2] at b4
      cases dt with
      | cls cd => exact ⟨_, cd, rfl, rfl⟩
      | _ => cases b4
/-! ### classes -/
def icB (K : PySem.W.Frag) (C : Addr) : Bool := PySem.W.plainGet K C Str.empty && (PySem.W.hasDictIn K C && (PySem.W.plainOver K C && (He.eqO (PySem.W.findIn K (.ref C) "__setattr__") (some (some (.builtin "object.__setattr__"))) &&
  (He.eqO (PySem.W.findIn K (.ref C) "__class__") (some (some (.builtin "object.__class__"))) && (He.eqO (PySem.W.specialIn K (.builtin "object.__class__") "__get__") (some (some (.builtin "getset_descriptor.__get__"))) &&
  (decide (PySem.W.takesIn K (.builtin "object.__class__") = some true) && (decide (PySem.W.mroIn K C (.type "object") = some true) && decide (PySem.W.kitOne K (.ref C) (.ref C) = some true))))))))
theorem icB_ok {K : PySem.W.Frag} {C : Addr} (h : icB K C = true) : C8.InsC K C := by
  obtain ⟨h1, h⟩ := Bool.and_eq_true_iff.mp h
  obtain ⟨h2, h⟩ := Bool.and_eq_true_iff.mp h
  obtain ⟨h3, h⟩ := Bool.and_eq_true_iff.mp h
  obtain ⟨h4, h⟩ := Bool.and_eq_true_iff.mp h
  obtain ⟨h5, h⟩ := Bool.and_eq_true_iff.mp h
  obtain ⟨h6, h⟩ := Bool.and_eq_true_iff.mp h
  obtain ⟨h7, h⟩ := Bool.and_eq_true_iff.mp h
  obtain ⟨h8, h9⟩ := Bool.and_eq_true_iff.mp h
  exact ⟨⟨h1, h2, h3, He.eqO_ok h4⟩, He.eqO_ok h5, He.eqO_ok h6, of_decide_eq_true h7, of_decide_eq_true h8, of_decide_eq_true h9⟩
def nmB (K : PySem.W.Frag) (C : Addr) (z : Str) : Bool := PySem.W.readsIn K C (.type "type") && ((match PySem.W.findCls K (.ref C) (.type "type") "__name__" with
  | some (.get g a o t) => decide (g = .builtin "getset_descriptor.__get__") && (decide (a = .builtin "type.__name__") && (decide (o = .ref C) && decide (t = .type "type")))
  | _ => false) && (decide (PySem.W.typeIn K (.ref C) = some (.type "type")) && (match K.lookup C with
  | some o => (match (o.slots[2]? : Option (Option Value)) with
    | some (some (.str y _)) => decide (y = z)
    | _ => false)
  | _ => false)))
theorem nmB_ok {K : PySem.W.Frag} {C : Addr} {z : Str} (h : nmB K C z = true) : NameC K C z := by
  obtain ⟨h1, h⟩ := Bool.and_eq_true_iff.mp h
  obtain ⟨h2, h⟩ := Bool.and_eq_true_iff.mp h
  obtain ⟨h3, h4⟩ := Bool.and_eq_true_iff.mp h
  refine ⟨h1, ?_, of_decide_eq_true h3, ?_⟩
  · split at h2
    · rename_i g a o t e
      obtain ⟨e1, h2⟩ := Bool.and_eq_true_iff.mp h2
      obtain ⟨e2, h2⟩ := Bool.and_eq_true_iff.mp h2
      obtain ⟨e3, e4⟩ := Bool.and_eq_true_iff.mp h2
      rw [e, of_decide_eq_true e1, of_decide_eq_true e2, of_decide_eq_true e3, of_decide_eq_true e4]
    · cases h2
  · cases q : K.lookup C with
    | none => rw [q] at h4; cases h4
    | some o =>
      rw [q] at h4
      have h5 : (match (o.slots[2]? : Option (Option Value)) with
        | some (some (.str y _)) => decide (y = z)
        | _ => false) = true := h4
      split at h5
      · rename_i y t e
        obtain rfl : y = z := of_decide_eq_true h5
        exact ⟨o, t, rfl, e⟩
      · cases h5
theorem rg {n : Nat} {p : Nat → Bool} (h : (List.range n).all p = true) (i : Nat) (hi : i < n) : p i = true := List.all_eq_true.mp h i (List.mem_range.mpr hi)
def mkB (K : PySem.W.Frag) (C f : Addr) : Bool := PySem.W.makesIn K C && (He.eqO (PySem.W.findIn K (.ref C) "__init__") (some (some (.ref f))) && (PySem.W.isFn K (.ref f) && PySem.W.keepIn K (.ref C)))
theorem mkB_ok {K : PySem.W.Frag} {C f : Addr} (h : mkB K C f = true) : Mk K C f := by
  obtain ⟨h1, h⟩ := Bool.and_eq_true_iff.mp h
  obtain ⟨h2, h⟩ := Bool.and_eq_true_iff.mp h
  obtain ⟨h3, h4⟩ := Bool.and_eq_true_iff.mp h
  exact ⟨h1, He.eqO_ok h2, h3, h4⟩
def scB (K : PySem.W.Frag) (C D : Addr) (m : Str) (g : Addr) : Bool := He.eqO (PySem.W.nsIn K cStatics "thirdparty.any") (some none) && (He.eqO (PySem.W.ks_superIn K C D m) (some (some (.ref g))) && (decide (PySem.W.typeIn K (.ref g) = some (.type "function")) &&
  (decide (PySem.W.mroIn K C (.ref D) = some true) && PySem.W.fnIn K g)))
theorem scB_ok {K : PySem.W.Frag} {C D g : Addr} {m : Str} (h : scB K C D m g = true) : SupC K C D m g := by
  obtain ⟨h1, h⟩ := Bool.and_eq_true_iff.mp h
  obtain ⟨h2, h⟩ := Bool.and_eq_true_iff.mp h
  obtain ⟨h3, h⟩ := Bool.and_eq_true_iff.mp h
  obtain ⟨h4, h5⟩ := Bool.and_eq_true_iff.mp h
  exact ⟨He.eqO_ok h1, He.eqO_ok h2, of_decide_eq_true h3, of_decide_eq_true h4, h5⟩
end Gd

set_option Elab.async false
set_option linter.all false
set_option maxRecDepth 100000
set_option maxHeartbeats 2000000
namespace K02
open PySem PySem.Spec PyProof.Rows L2 Gd
def cK (K : PySem.W.Frag) (i : Nat) : Addr := He.ga K (nmP i)
def fK (K : PySem.W.Frag) (i : Nat) : Addr := He.fAd K (nmP i, some "__init__")
def ccK (K : PySem.W.Frag) (i : Nat) : Addr := ccA K (nmP i, some "__init__")
def cdK (K : PySem.W.Frag) (i : Nat) : Addr := cdA K (nmP i, some "__init__")
def fEK (K : PySem.W.Frag) : Addr := He.fAd K ("Paper", some "__eq__")
def fBK (K : PySem.W.Frag) : Addr := He.fAd K ("Denial", some "__bool__")
def oneB (K : PySem.W.Frag) (file : Str) (i : Nat) : Bool := (He.Fa.glo (nmP i)).ok K && (icB K (cK K i) && (nmB K (cK K i) (nmP i) && (He.eqO (PySem.W.findIn K (.ref (cK K i)) "__eq__") (some (some (.ref (fEK K)))) && (mkB K (cK K i) (fK K i) &&
  ((fldN.all fun x => He.eqO (PySem.W.findIn K (.ref (cK K i)) x) (some none)) && (decide (PySem.W.subIn K (.type "tuple") (.ref (cK K i)) = some false) &&
  (He.eqO (PySem.W.findIn K (.ref (cK K i)) "__bool__") (some (if belP i 1 = true then some (.ref (fBK K)) else none)) && (He.eqO (PySem.W.findIn K (.ref (cK K i)) "__len__") (some none) &&
  (decide (i = 0) || supB K (nmP i, some "__init__") (nmP i ++ ".__init__") file (cK K i))))))))))
def twoB (K : PySem.W.Frag) (i j : Nat) : Bool := (decide (1 < j) || decide (PySem.W.kitOne K (.ref (cK K i)) (.ref (cK K j)) = some (belP i j))) && (decide (PySem.W.subIn K (.ref (cK K i)) (.ref (cK K j)) = some (belP i j)) && ((!decide (cK K i = cK K j) || decide (i = j)) &&
  (!(decide (0 < j) && belP i j) || scB K (cK K i) (cK K j) "__init__" (fK K (upP j)))))
def tzB (file : Str) (K : PySem.W.Frag) : Bool := ((List.range 7).all fun i => oneB K file i) && (((List.range 7).all fun i => (List.range 7).all fun j => twoB K i j) && (decide (PySem.W.kitOne K (.type "tuple") (.ref (cK K 0)) = some false) && (PySem.W.isFn K (.ref (fEK K)) && (PySem.W.isFn K (.ref (fBK K)) && ((K.lookup sysModules).isSome &&
  ((He.Fa.code ("Paper", some "__init__") "Paper.__init__").ok K && ((He.Fa.code ("Paper", some "__eq__") "Paper.__eq__").ok K && (He.Fa.code ("Denial", some "__bool__") "Denial.__bool__").ok K)))))))
def fnP (i : Nat) : FnDX := ⟨(nmP i, some "__init__"), "__init__", nmP i ++ ".__init__", C8.fnArgs (mS i 0), C8.fnBody (mS i 0), C8.fnScope (mS i 0), ["__class__"]⟩
theorem and2 {a b : Bool} (h : (a && b) = true) : a = true ∧ b = true := Bool.and_eq_true_iff.mp h
theorem tz_of {P : Program} {K : PySem.W.Frag} {h : Heap} {mg : Str → Option Value} {file : Str} (X : K.In h) (G : h.Ns mainGlobals mg) (t : tzB file K = true) (hf : P.main.file = file) (ht : (P.main.scope.names.lookup ("super" : Str)).isSome = false) (hz : mg "super" = none)
    (o0 : obsX K ("Paper", some "__init__") = FnDX.val ⟨("Paper", some "__init__"), "__init__", "Paper.__init__", C8.fnArgs (mS 0 0), C8.fnBody (mS 0 0), C8.fnScope (mS 0 0), []⟩)
    (oe : obsX K ("Paper", some "__eq__") = FnDX.val ⟨("Paper", some "__eq__"), "__eq__", "Paper.__eq__", C8.fnArgs (mS 0 1), C8.fnBody (mS 0 1), C8.fnScope (mS 0 1), []⟩)
    (ob : obsX K ("Denial", some "__bool__") = FnDX.val ⟨("Denial", some "__bool__"), "__bool__", "Denial.__bool__", C8.fnArgs (mS 1 1), C8.fnBody (mS 1 1), C8.fnScope (mS 1 1), []⟩)
    (os : ∀ i, 0 < i → i < 7 → obsX K (nmP i, some "__init__") = (fnP i).val) : Tz P K mg (cK K) (fK K) (ccK K) (cdK K) (fEK K) (fBK K) := by
  obtain ⟨t1, t⟩ := and2 t
  obtain ⟨t2, t⟩ := and2 t
  obtain ⟨t3, t⟩ := and2 t
  obtain ⟨t4, t⟩ := and2 t
  obtain ⟨t5, t⟩ := and2 t
  obtain ⟨t6, t⟩ := and2 t
  obtain ⟨t7, t⟩ := and2 t
  obtain ⟨t8, t9⟩ := and2 t
  have one : ∀ i, i < 7 → oneB K file i = true := fun i hi => rg t1 i hi
  have two : ∀ i j, i < 7 → j < 7 → twoB K i j = true := fun i j hi hj => rg (rg t2 i hi) j hj
  have a1 := fun i (hi : i < 7) => and2 (one i hi)
  have a2 := fun i (hi : i < 7) => and2 (a1 i hi).2
  have a3 := fun i (hi : i < 7) => and2 (a2 i hi).2
  have a4 := fun i (hi : i < 7) => and2 (a3 i hi).2
  have a5 := fun i (hi : i < 7) => and2 (a4 i hi).2
  have a6 := fun i (hi : i < 7) => and2 (a5 i hi).2
  have a7 := fun i (hi : i < 7) => and2 (a6 i hi).2
  have a8 := fun i (hi : i < 7) => and2 (a7 i hi).2
  have a9 := fun i (hi : i < 7) => and2 (a8 i hi).2
  have b1 := fun i j (hi : i < 7) (hj : j < 7) => and2 (two i j hi hj)
  have b2 := fun i j (hi : i < 7) (hj : j < 7) => and2 (b1 i j hi hj).2
  have b3 := fun i j (hi : i < 7) (hj : j < 7) => and2 (b2 i j hi hj).2
  have ic : ∀ i, i < 7 → C8.InsC K (cK K i) := fun i hi => icB_ok (a2 i hi).1
  refine { g := fun i hi => He.glo_ok X G (a1 i hi).1, ic := ic, nm := fun i hi => nmB_ok (a3 i hi).1, eq := fun i hi => ⟨ic i hi, He.eqO_ok (a4 i hi).1, t4⟩, mkr := fun i hi => mkB_ok (a5 i hi).1, «no» := fun i hi x hx => He.eqO_ok (List.all_eq_true.mp (a6 i hi).1 x hx), kin := fun i j hi hj => ?_, tupP := of_decide_eq_true t3, tupS := fun i hi => of_decide_eq_true (a7 i hi).1, sub := fun i j hi hj => of_decide_eq_true (b2 i j hi hj).1, inj := fun i j hi hj e => ?_, bl := fun i hi => He.eqO_ok (a8 i hi).1, ln := fun i hi => He.eqO_ok (a9 i hi).1, fb := t5, sm := t6, pi := funX_of o0 t7, pe := funX_of oe t8, pb := funX_of ob t9, sf := fun i h0 hi => ?_, sc := fun i j hi h0 hj hb => ?_ }
  · have z := (b1 i j hi (by omega)).1
    rw [decide_eq_false (show ¬ 1 < j by omega), Bool.false_or] at z
    exact of_decide_eq_true z
  · have z := (b3 i j hi hj).1
    rw [decide_eq_true e, Bool.not_true, Bool.false_or] at z
    exact of_decide_eq_true z
  · have z := (a9 i hi).2
    rw [decide_eq_false (show ¬ i = 0 by omega), Bool.false_or] at z
    exact supF_of (st := mS i 0) (os i h0 hi) z hf ht hz
  · have z := (b3 i j hi hj).2
    rw [hb, decide_eq_true h0, Bool.and_self, Bool.not_true, Bool.false_or] at z
    exact scB_ok z
end K02

set_option Elab.async false
set_option linter.all false
set_option maxRecDepth 100000
set_option maxHeartbeats 4000000
namespace K02
open PySem PySem.Spec PyProof.Rows L2 Gd
def fileK : Str := PySem.Challenge.pw_dimkeeper_k02_papers_keep_what_they_tell.main.file
def fas0 : List He.Fa := [.glo "fixed", .keep "fixed", .code ("fixed", none) "fixed", .glo "_law_tray", .keep "_law_tray", .code ("_law_tray", none) "_law_tray", .glo "_law_lift", .keep "_law_lift", .code ("_law_lift", none) "_law_lift", .glo "_law_take", .keep "_law_take", .code ("_law_take", none) "_law_take", .glo "_law_value", .keep "_law_value", .code ("_law_value", none) "_law_value", .glo "_law_fixed", .keep "_law_fixed", .code ("_law_fixed", none) "_law_fixed", .glo "_law_spoil", .keep "_law_spoil", .code ("_law_spoil", none) "_law_spoil", .glo "_law_paper", .keep "_law_paper", .code ("_law_paper", none) "_law_paper", .glo "_law_turned", .keep "_law_turned", .code ("_law_turned", none) "_law_turned", .glo "_law_papers_right", .keep "_law_papers_right", .code ("_law_papers_right", none) "_law_papers_right"]
def fas1 : List He.Fa := [.glo "_law_fixed_right", .keep "_law_fixed_right", .code ("_law_fixed_right", none) "_law_fixed_right", .glo "_law_kinds_right", .keep "_law_kinds_right", .code ("_law_kinds_right", none) "_law_kinds_right", .glo "law", .keep "law", .code ("law", none) "law", .free "isinstance", .free "dict", .free "list", .free "tuple", .free "sorted", .free "int", .free "len", .free "abs", .free "range", .free "repr", .free "bool", .free "super"]
def fas : List He.Fa := fas0 ++ fas1
def fnx0 : List FnDX := [gdX "fixed" sfixed, gdX "_law_tray" s_law_tray, gdX "_law_lift" s_law_lift, gdX "_law_take" s_law_take, gdX "_law_value" s_law_value, gdX "_law_fixed" s_law_fixed, gdX "_law_spoil" s_law_spoil, gdX "_law_paper" s_law_paper, gdX "_law_turned" s_law_turned, gdX "_law_papers_right" s_law_papers_right, gdX "_law_fixed_right" s_law_fixed_right, gdX "_law_kinds_right" s_law_kinds_right, gdX "law" slaw, cdX "Paper" "__init__" "Paper.__init__" (mS 0 0) [], cdX "Paper" "__eq__" "Paper.__eq__" (mS 0 1) [], cdX "Denial" "__bool__" "Denial.__bool__" (mS 1 1) [], fnP 1, fnP 2, fnP 3, fnP 4, fnP 5, fnP 6]
def fnx : List FnDX := fnx0
def Bx (K : PySem.W.Frag) : Bool := (fas.all fun f => f.ok K) && tzB fileK K
theorem all_mk {P : Program} {w : World} {K : PySem.W.Frag} {h : Heap} {mg : Str → Option Value} {fa : Addr} (X : K.In h) (G : h.Ns mainGlobals mg) (hfa : mg "law" = some (.ref fa)) (c : SaysX Bx fnx K) (hf : P.main.file = fileK) (ht : (P.main.scope.names.lookup ("super" : Str)).isSome = false) :
    ∃ fd : FuncData, (∀ (s : Shared) (u : Value), BindsTo s fd ⟨[u], []⟩ [("_law_script", u)]) ∧ ∀ base : Heap, K.In base → base.Ns mainGlobals mg → FnG P w K mg base CX0 15 fa fd ["_law_script"] (spLaw K) := by
  obtain ⟨cf, cx⟩ := Bool.and_eq_true_iff.mp c.1
  have e := hfa.symm.trans (He.glo_ok X G (fa_at cf 36 (f := .glo "law") rfl))
  cases e
  obtain ⟨fd0, F0, df0⟩ := defX_of (x := "fixed") (st := sfixed) X G (c.fn 0 (d := gdX "fixed" sfixed) rfl) (fa_at cf 0 (f := .glo "fixed") rfl) (fa_at cf 1 (f := .keep "fixed") rfl) (fa_at cf 2 (f := .code ("fixed", none) "fixed") rfl)
  have b0 := F0.fn.binds df0 (ps := ["value"]) fun _ _ _ _ _ _ us hl => match us, hl with | [_], _ => rfl
  obtain ⟨fd1, F1, df1⟩ := defX_of (x := "_law_tray") (st := s_law_tray) X G (c.fn 1 (d := gdX "_law_tray" s_law_tray) rfl) (fa_at cf 3 (f := .glo "_law_tray") rfl) (fa_at cf 4 (f := .keep "_law_tray") rfl) (fa_at cf 5 (f := .code ("_law_tray", none) "_law_tray") rfl)
  have b1 := F1.fn.binds df1 (ps := ["_law_script"]) fun _ _ _ _ _ _ us hl => match us, hl with | [_], _ => rfl
  obtain ⟨fd2, F2, df2⟩ := defX_of (x := "_law_lift") (st := s_law_lift) X G (c.fn 2 (d := gdX "_law_lift" s_law_lift) rfl) (fa_at cf 6 (f := .glo "_law_lift") rfl) (fa_at cf 7 (f := .keep "_law_lift") rfl) (fa_at cf 8 (f := .code ("_law_lift", none) "_law_lift") rfl)
  have b2 := F2.fn.binds df2 (ps := ["_law_tray_here", "_law_many"]) fun _ _ _ _ _ _ us hl => match us, hl with | [_, _], _ => rfl
  obtain ⟨fd3, F3, df3⟩ := defX_of (x := "_law_take") (st := s_law_take) X G (c.fn 3 (d := gdX "_law_take" s_law_take) rfl) (fa_at cf 9 (f := .glo "_law_take") rfl) (fa_at cf 10 (f := .keep "_law_take") rfl) (fa_at cf 11 (f := .code ("_law_take", none) "_law_take") rfl)
  have b3 := F3.fn.binds df3 (ps := ["_law_tray_here", "_law_some"]) fun _ _ _ _ _ _ us hl => match us, hl with | [_, _], _ => rfl
  obtain ⟨fd4, F4, df4⟩ := defX_of (x := "_law_value") (st := s_law_value) X G (c.fn 4 (d := gdX "_law_value" s_law_value) rfl) (fa_at cf 12 (f := .glo "_law_value") rfl) (fa_at cf 13 (f := .keep "_law_value") rfl) (fa_at cf 14 (f := .code ("_law_value", none) "_law_value") rfl)
  have b4 := F4.fn.binds df4 (ps := ["_law_tray_here", "_law_depth"]) fun _ _ _ _ _ _ us hl => match us, hl with | [_, _], _ => rfl
  obtain ⟨fd5, F5, df5⟩ := defX_of (x := "_law_fixed") (st := s_law_fixed) X G (c.fn 5 (d := gdX "_law_fixed" s_law_fixed) rfl) (fa_at cf 15 (f := .glo "_law_fixed") rfl) (fa_at cf 16 (f := .keep "_law_fixed") rfl) (fa_at cf 17 (f := .code ("_law_fixed", none) "_law_fixed") rfl)
  have b5 := F5.fn.binds df5 (ps := ["_law_value_here"]) fun _ _ _ _ _ _ us hl => match us, hl with | [_], _ => rfl
  obtain ⟨fd6, F6, df6⟩ := defX_of (x := "_law_spoil") (st := s_law_spoil) X G (c.fn 6 (d := gdX "_law_spoil" s_law_spoil) rfl) (fa_at cf 18 (f := .glo "_law_spoil") rfl) (fa_at cf 19 (f := .keep "_law_spoil") rfl) (fa_at cf 20 (f := .code ("_law_spoil", none) "_law_spoil") rfl)
  have b6 := F6.fn.binds df6 (ps := ["_law_value_here"]) fun _ _ _ _ _ _ us hl => match us, hl with | [_], _ => rfl
  obtain ⟨fd7, F7, df7⟩ := defX_of (x := "_law_paper") (st := s_law_paper) X G (c.fn 7 (d := gdX "_law_paper" s_law_paper) rfl) (fa_at cf 21 (f := .glo "_law_paper") rfl) (fa_at cf 22 (f := .keep "_law_paper") rfl) (fa_at cf 23 (f := .code ("_law_paper", none) "_law_paper") rfl)
  have b7 := F7.fn.binds df7 (ps := ["_law_kind", "_law_word", "_law_parts"]) fun _ _ _ _ _ _ us hl => match us, hl with | [_, _, _], _ => rfl
  obtain ⟨fd8, F8, df8⟩ := defX_of (x := "_law_turned") (st := s_law_turned) X G (c.fn 8 (d := gdX "_law_turned" s_law_turned) rfl) (fa_at cf 24 (f := .glo "_law_turned") rfl) (fa_at cf 25 (f := .keep "_law_turned") rfl) (fa_at cf 26 (f := .code ("_law_turned", none) "_law_turned") rfl)
  have b8 := F8.fn.binds df8 (ps := ["_law_value_here"]) fun _ _ _ _ _ _ us hl => match us, hl with | [_], _ => rfl
  obtain ⟨fd9, F9, df9⟩ := defX_of (x := "_law_papers_right") (st := s_law_papers_right) X G (c.fn 9 (d := gdX "_law_papers_right" s_law_papers_right) rfl) (fa_at cf 27 (f := .glo "_law_papers_right") rfl) (fa_at cf 28 (f := .keep "_law_papers_right") rfl) (fa_at cf 29 (f := .code ("_law_papers_right", none) "_law_papers_right") rfl)
  have b9 := F9.fn.binds df9 (ps := ["_law_tray_here"]) fun _ _ _ _ _ _ us hl => match us, hl with | [_], _ => rfl
  obtain ⟨fd10, F10, df10⟩ := defX_of (x := "_law_fixed_right") (st := s_law_fixed_right) X G (c.fn 10 (d := gdX "_law_fixed_right" s_law_fixed_right) rfl) (fa_at cf 30 (f := .glo "_law_fixed_right") rfl) (fa_at cf 31 (f := .keep "_law_fixed_right") rfl) (fa_at cf 32 (f := .code ("_law_fixed_right", none) "_law_fixed_right") rfl)
  have b10 := F10.fn.binds df10 (ps := ["_law_tray_here"]) fun _ _ _ _ _ _ us hl => match us, hl with | [_], _ => rfl
  obtain ⟨fd11, F11, df11⟩ := defX_of (x := "_law_kinds_right") (st := s_law_kinds_right) X G (c.fn 11 (d := gdX "_law_kinds_right" s_law_kinds_right) rfl) (fa_at cf 33 (f := .glo "_law_kinds_right") rfl) (fa_at cf 34 (f := .keep "_law_kinds_right") rfl) (fa_at cf 35 (f := .code ("_law_kinds_right", none) "_law_kinds_right") rfl)
  have b11 := F11.fn.binds df11 (ps := ["_law_tray_here"]) fun _ _ _ _ _ _ us hl => match us, hl with | [_], _ => rfl
  obtain ⟨fd12, F12, df12⟩ := defX_of (x := "law") (st := slaw) X G (c.fn 12 (d := gdX "law" slaw) rfl) (fa_at cf 36 (f := .glo "law") rfl) (fa_at cf 37 (f := .keep "law") rfl) (fa_at cf 38 (f := .code ("law", none) "law") rfl)
  have b12 := F12.fn.binds df12 (ps := ["_law_script"]) fun _ _ _ _ _ _ us hl => match us, hl with | [_], _ => rfl
  have T : Txt K mg :=
    { d_fixed := ⟨_, _, F0, b0⟩,
      d_law_tray := ⟨_, _, F1, b1⟩,
      d_law_lift := ⟨_, _, F2, b2⟩,
      d_law_take := ⟨_, _, F3, b3⟩,
      d_law_value := ⟨_, _, F4, b4⟩,
      d_law_fixed := ⟨_, _, F5, b5⟩,
      d_law_spoil := ⟨_, _, F6, b6⟩,
      d_law_paper := ⟨_, _, F7, b7⟩,
      d_law_turned := ⟨_, _, F8, b8⟩,
      d_law_papers_right := ⟨_, _, F9, b9⟩,
      d_law_fixed_right := ⟨_, _, F10, b10⟩,
      d_law_kinds_right := ⟨_, _, F11, b11⟩,
      d_law := ⟨_, _, F12, b12⟩,
      z_isinstance := He.free_ok X G (fa_at cf 39 (f := .free "isinstance") rfl),
      z_dict := He.free_ok X G (fa_at cf 40 (f := .free "dict") rfl),
      z_list := He.free_ok X G (fa_at cf 41 (f := .free "list") rfl),
      z_tuple := He.free_ok X G (fa_at cf 42 (f := .free "tuple") rfl),
      z_sorted := He.free_ok X G (fa_at cf 43 (f := .free "sorted") rfl),
      z_int := He.free_ok X G (fa_at cf 44 (f := .free "int") rfl),
      z_len := He.free_ok X G (fa_at cf 45 (f := .free "len") rfl),
      z_abs := He.free_ok X G (fa_at cf 46 (f := .free "abs") rfl),
      z_range := He.free_ok X G (fa_at cf 47 (f := .free "range") rfl),
      z_repr := He.free_ok X G (fa_at cf 48 (f := .free "repr") rfl),
      z_bool := He.free_ok X G (fa_at cf 49 (f := .free "bool") rfl),
      z_super := He.free_ok X G (fa_at cf 50 (f := .free "super") rfl) }
  have Z : Tz P K mg (cK K) (fK K) (ccK K) (cdK K) (fEK K) (fBK K) := by
    refine tz_of X G cx hf ht T.z_super (c.fn 13 (d := cdX "Paper" "__init__" "Paper.__init__" (mS 0 0) []) rfl) (c.fn 14 (d := cdX "Paper" "__eq__" "Paper.__eq__" (mS 0 1) []) rfl) (c.fn 15 (d := cdX "Denial" "__bool__" "Denial.__bool__" (mS 1 1) []) rfl) ?_
    exact fun i h0 h => match i, h0, h with
        | 0, h0, _ => absurd h0 (by omega)
        | 1, _, _ => c.fn 16 (d := fnP 1) rfl
        | 2, _, _ => c.fn 17 (d := fnP 2) rfl
        | 3, _, _ => c.fn 18 (d := fnP 3) rfl
        | 4, _, _ => c.fn 19 (d := fnP 4) rfl
        | 5, _, _ => c.fn 20 (d := fnP 5) rfl
        | 6, _, _ => c.fn 21 (d := fnP 6) rfl
        | k + 7, _, h => absurd h (by omega)
  refine ⟨fd12, fun s u => ?_, fun base _ _ => ?_⟩
  · obtain ⟨oc, od, dV, kV, doc, pm, an, cdv, ct, osl, rfl, lk, hcd⟩ := F12.fn.ex
    obtain rfl : dV = .none := df12
    exact .of_eq rfl
  · have Gl := ok_dip (P := P) (w := w) (base := base) T
    have Gt := ok_pick T Gl
    have Gf : C8.Cal P w K mg base 9 "fixed" (spF 9) [] := oks_fixed T 9
    have Glf : Gd.Cal P w K mg base 9 "_law_fixed" (spFix 8) := oks_law_fixed T 9
    have V2 : Gd.Cal P w K mg base 5 "_law_value" (spVal 2) := oks_value T Gl Gt 3
    have V3 : Gd.Cal P w K mg base 6 "_law_value" (spVal 3) := oks_value T Gl Gt 4
    have V4 : Gd.Cal P w K mg base 7 "_law_value" (spVal 4) := oks_value T Gl Gt 5
    have Gp := ok_paper T (m_P (w := w) (base := base) Z Gf) (m_D (w := w) (base := base) Z Gf)
    exact ok_law F12 T Z Gf (ok_well T) V2 (ok_fixed_right T Z V4 Glf Gf) (ok_papers T Z Gl Gt V3 Glf Gp (ok_turned T) (ok_spoil T)) (ok_kinds T Z Gf V2 Glf)
end K02

set_option Elab.async false
set_option linter.all false
set_option maxRecDepth 100000
set_option maxHeartbeats 0

namespace K02
open PySem PySem.W PySem.Calls PyProof.Rows
abbrev R : OpenRow := OpenLaw.row PySem.Challenge.rw_dimkeeper_k02_papers_keep_what_they_tell
def nm1 : List PySem.Str := (R.prog.main.scope.names.map (·.1)).filter fun x => x != ("law" : PySem.Str) && x != ("__name__" : PySem.Str)
abbrev ob (s : PySem.W.SharedT) : Bool × List Gd.FnVX := Gd.obX 4 Bx fnx (HandSHeadRun.getT s)
theorem run (w : World) : HandSHeadRun.RunEq R (view R.prog [24]) (Gd.hkX 4 Bx fnx) ob 14000 nm1 w := by
  intro os
  kernel_rfl
end K02
open PySem PySem.W PySem.Calls PyProof.Rows
theorem PySem.Challenge.cw_dimkeeper_k02_papers_keep_what_they_tell_holds : PySem.Challenge.rw_dimkeeper_k02_papers_keep_what_they_tell.Holds := by
  w_on; o_law
  refine HandSHeadRun.head_any (r := OpenLaw.row PySem.Challenge.rw_dimkeeper_k02_papers_keep_what_they_tell) (q := view (OpenLaw.row PySem.Challenge.rw_dimkeeper_k02_papers_keep_what_they_tell).prog [24]) (H := Gd.hkX 4 K02.Bx K02.fnx) (ob := K02.ob) (M := 14000) (loose := K02.nm1) (d := HandSHeadRun.topDef (OpenLaw.row PySem.Challenge.rw_dimkeeper_k02_papers_keep_what_they_tell).prog 24) (kwd := []) (fun s => Gd.obX_eq s)
    (by kernel_rfl) (fun s => by kernel_rfl) K02.run (by kernel_rfl) (by kernel_rfl) (by kernel_rfl) (by rfl) (by first | assumption | decide +kernel) (by decide +kernel) ⟨rfl, rfl, rfl, rfl, rfl, by decide +kernel⟩ ?hw ?hc
  case hw => w_witness2
  case hc =>
    refine Gd.walk_endE (l := PySem.Challenge.rw_dimkeeper_k02_papers_keep_what_they_tell) (n := 63) (k := 15) (x := "_law_script") rfl (by decide) (by kernel_rfl) ⟨rfl, by decide, by decide⟩ ?F
    intro w mg fa h Y G hmg0
    obtain ⟨K, KX, c⟩ := Y
    have hmg : mg ("law" : PySem.Str) = some (.ref fa) := by
      have e : (HandSHeadRun.topDef (OpenLaw.row PySem.Challenge.rw_dimkeeper_k02_papers_keep_what_they_tell).prog 24).name = ("law" : PySem.Str) := by kernel_rfl
      rw [← e]
      exact hmg0
    obtain ⟨fd, hb, hF⟩ := K02.all_mk (P := (PySem.Challenge.rw_dimkeeper_k02_papers_keep_what_they_tell).prog) (w := w) KX G hmg c (by kernel_rfl) (by kernel_rfl)
    exact ⟨K, fd, K02.spLaw K, KX, hb, fun H a ns hl hS => ⟨a, ns, rfl, hS, hl, fun _ => rfl⟩, hF⟩

