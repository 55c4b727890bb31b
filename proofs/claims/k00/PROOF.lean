import PyProof.Rows.All
import HandS.ForMost
import HandS.Codes
import HandS.Wide
import HandS.IsInst
import HandS.Walk
import HandS.TupAny
import HandS.Style
import PyProof.ReprRoads
import KE.GoesMore
import HandS.Head0
import HandS.Head1
import HandS.Head2
import HandS.HeadEnd
import HandS.HeadHook1
import PySem.Challenge.RW_dimkeeper_k00_errors_keep_their_fields
import HandS.Exc
import HandS.ExcInit
import HandS.ExcField
import HandS.ExcIs
import HandS.ExcValue
import HandS.MakeKw
import PyProof.RowDictHeap
import PyProof.ReprLen
import PyProof.FitsInt
set_option Elab.async false
set_option linter.all false
set_option maxRecDepth 100000
set_option maxHeartbeats 1000000
/-! my own small layer over the hand layer: repr of data, defs that are called where no repr runs, the law's end for them -/
namespace Gd
open PySem PySem.Spec PyProof.Rows L2
/-- repr of a datum without dicts, of any depth -/
def rReprD (K : PySem.W.Frag) : List V → Hp → VK → Prop := fun xs H Q =>
  ∃ (a : Addr) (d : PyData), xs = [.ref a] ∧ Dp K H (.ref a) d ∧ d.showable = true ∧ d.hasDict = false ∧ d.depth ≤ 60 ∧ d.shown.length ≤ sizeLine ∧ Q (.str d.shown) H
theorem call_reprD {X : Cx} (hg : X.A.guards = some []) (hu : X.A.units + 64 < cLine) : CallR X (.builtin "repr") (rReprD X.K) := by
  intro pins s σ H xs us Q I r h
  obtain ⟨a, d, rfl, hd, hs, hn, hdep, hsz, q⟩ := h
  obtain ⟨u, rfl, ru⟩ := vals1 r
  obtain rfl : u = Value.ref a := ru
  obtain ⟨as, rd⟩ := Dp.reads I d _ _ hd rfl
  refine repr_of_reads' rd hs (PyData.noDict_hsm hn) hg (by omega) (fun _ _ e => e) (fun h' v tk hk => ?_) hsz
  exact ⟨.str d.shown, H, I.kept hk, ⟨v, rfl⟩, q⟩

/-! ### lists of ints as data -/
theorem dp_ints {K : PySem.W.Frag} {H : Hp} : ∀ ns : List Int, DpAll K H (ns.map V.int) (ns.map PyData.int)
  | [] => .nil
  | n :: r => .cons (.int n) (dp_ints r)
theorem can_ints : ∀ ns : List Int, PyData.canLayAll0 (ns.map PyData.int) = true
  | [] => rfl
  | n :: r => by
    show (PyData.canLay0 (.int n) && PyData.canLayAll0 (r.map PyData.int)) = true
    rw [can_ints r] <;> rfl
theorem dep_ints : ∀ ns : List Int, PyData.depthAll (ns.map PyData.int) = 0
  | [] => rfl
  | n :: r => by
    show max (PyData.depth (.int n)) (PyData.depthAll (r.map PyData.int)) = 0
    rw [dep_ints r] <;> rfl
theorem shaped_ints (ns : List Int) : SeqAt.shaped (.list (ns.map PyData.int)) = true := by
  unfold SeqAt.shaped
  rw [Bool.and_eq_true]
  refine ⟨can_ints ns, decide_eq_true ?_⟩
  show PyData.depthAll (ns.map PyData.int) + 1 ≤ 64
  rw [dep_ints] <;> decide
theorem eqv_ints_nil (ns : List Int) : PyData.eqv (.list (ns.map PyData.int)) (.list []) = ns.isEmpty := by cases ns <;> rfl

/-! ### lists of texts as data -/
theorem dp_strs {K : PySem.W.Frag} {H : Hp} : ∀ zs : List Str, DpAll K H (zs.map V.str) (zs.map PyData.str)
  | [] => .nil
  | z :: r => .cons (.str z) (dp_strs r)
/-- a text of small code points -/
def Asc (z : Str) : Prop := ∀ c ∈ z.cps.toList, c < 128
theorem asc_ok {z : Str} (h : Asc z) : PySem.PyData.strOk z = true := by
  unfold PySem.PyData.strOk
  rw [← Array.all_toList, List.all_eq_true]
  intro c hc
  have := h c hc
  exact decide_eq_true (by omega)
theorem can_strs : ∀ zs : List Str, (∀ z ∈ zs, Asc z) → PyData.canLayAll0 (zs.map PyData.str) = true
  | [], _ => rfl
  | z :: r, h => by
    have h1 : PyData.canLay0 (.str z) = true := by
      simp only [PyData.canLay0]
      exact asc_ok (h z List.mem_cons_self)
    have h2 := can_strs r fun y hy => h y (List.mem_cons_of_mem _ hy)
    rw [List.map_cons]
    simp only [PyData.canLayAll0, h1, h2, Bool.and_self]
theorem dep_strs : ∀ zs : List Str, PyData.depthAll (zs.map PyData.str) = 0
  | [] => rfl
  | z :: r => by
    show max (PyData.depth (.str z)) (PyData.depthAll (r.map PyData.str)) = 0
    rw [dep_strs r] <;> rfl
theorem shaped_strs {zs : List Str} (h : ∀ z ∈ zs, Asc z) : SeqAt.shaped (.list (zs.map PyData.str)) = true := by
  unfold SeqAt.shaped
  rw [Bool.and_eq_true]
  refine ⟨can_strs zs h, decide_eq_true ?_⟩
  show PyData.depthAll (zs.map PyData.str) + 1 ≤ 64
  rw [dep_strs] <;> decide
theorem eqv_strs_nil (zs : List Str) : PyData.eqv (.list (zs.map PyData.str)) (.list []) = zs.isEmpty := by cases zs <;> rfl
theorem asc_cat {x y : Str} (hx : Asc x) (hy : Asc y) : Asc (x ++ y) := fun c hc => by
  rw [show (x ++ y).cps.toList = x.cps.toList ++ y.cps.toList from TL.tl_append x y] at hc
  exact (List.mem_append.mp hc).elim (hx c) (hy c)
theorem asc_cut {x : Str} (hx : Asc x) (lo hi : Option Int) : Asc (cutS x lo hi) := fun c hc => by
  unfold cutS at hc
  exact hx c (List.mem_of_mem_drop (List.mem_of_mem_take hc))
theorem asc_one {c : Nat} (h : c < 128) : Asc ⟨#[c]⟩ := fun d hd => by
  rw [List.mem_singleton.mp hd]
  exact h
theorem joinL_mem (S : List Nat) : ∀ (ps : List (List Nat)) (x : Nat), x ∈ TL.joinL S ps → x ∈ S ∨ ∃ p ∈ ps, x ∈ p
  | [], x, h => nomatch h
  | [p], x, h => .inr ⟨p, List.mem_cons_self, h⟩
  | p :: q :: r, x, h => by
    have h' : x ∈ p ++ (S ++ TL.joinL S (q :: r)) := h
    rcases List.mem_append.mp h' with h | h
    · exact .inr ⟨p, List.mem_cons_self, h⟩
    · rcases List.mem_append.mp h with h | h
      · exact .inl h
      · rcases joinL_mem S (q :: r) x h with h | ⟨y, hy, hx⟩
        · exact .inl h
        · exact .inr ⟨y, List.mem_cons_of_mem _ hy, hx⟩
theorem asc_join {a : Str} {zs : List Str} (ha : Asc a) (h : ∀ z ∈ zs, Asc z) : Asc (Txt.join a zs) := fun c hc => by
  have e := TL.tl_join a zs
  rw [← TL.join_eq] at e
  rw [show (Txt.join a zs).cps.toList = _ from e] at hc
  rcases joinL_mem _ _ _ hc with h1 | ⟨p, hp, hx⟩
  · exact ha c h1
  · obtain ⟨z, hz, rfl⟩ := List.mem_map.mp hp
    exact h z hz c hx
theorem lt_one (c d : Nat) : decide (([c] : List Nat) < [d]) = decide (c < d) := by
  refine decide_eq_decide.mpr ?_
  simp [List.cons_lt_cons_iff]

/-- a def's promise, kept wherever no repr of a container runs around the call -/
structure FnG (P : Program) (w : World) (K : PySem.W.Frag) (mg : Str → Option Value) (base : Heap) (CX : CXT) (k : Nat) (f : Addr) (fd : FuncData) (ps : List Str) (sp : Sp) : Prop where
  len : ∀ vs H Q E, sp vs H Q E → vs.length = ps.length
  run : ∀ (A : Around) (outer : List Env) (s : Shared) (H : Hp) (args : Args) (us : List Value) (vs : List V) (Q : VK) (E : XK), A.guards = some [] → Room k A →
    Env0 P w K mg base A outer s H → BindsTo s fd args (ps.zip us) → Vals vs us → sp vs H Q E →
    codeAny (model P w) A (.call (.ref f) args) (CR CX outer P w H s Q E) s
section
variable {P : Program} {w : World} {K : PySem.W.Frag} {mg : Str → Option Value} {base : Heap} {CX : CXT} {k : Nat} {f : Addr} {fd : FuncData} {ps : List Str} {sp : Sp}
theorem FnG.of (F : FnOk P w K mg base CX k f fd ps sp) : FnG P w K mg base CX k f fd ps sp :=
  ⟨F.len, fun A outer s H args us vs Q E _ => F.run A outer s H args us vs Q E⟩
theorem FnG.mono {j : Nat} (F : FnG P w K mg base CX j f fd ps sp) (h : j ≤ k) : FnG P w K mg base CX k f fd ps sp :=
  ⟨F.len, fun A outer s H args us vs Q E g hr => F.run A outer s H args us vs Q E g (hr.mono h)⟩
theorem guards_deeper (A : Around) (env : Env) : (A.deeper env).guards = A.guards := rfl
theorem fnG_of {x qual : Str} {st : Stmt} {N : List Str} (F : C8.Fun K x qual st f fd) (S : FnScope N ps (C8.fnScope st)) (len : ∀ vs H Q E, sp vs H Q E → vs.length = ps.length)
    (hbody : ∀ (cdv : Value) (A : Around) (outer : List Env) (s : Shared) (H : Hp) (vs : List V) (Q : VK) (E : XK),
      (A.deeper (envOfC qual (C8.fnScope st) s.heap.objs.size f cdv)).guards = some [] → Room k (A.deeper (envOfC qual (C8.fnScope st) s.heap.objs.size f cdv)) → sp vs H Q E →
      ∃ t, PSs (cxOf CX P w K mg base N qual (C8.fnScope st) f cdv A outer s H E) (C8.fnBody st) t ∧ t { nx := fun _ H' => Q .non H', rt := Q } (start N vs) H) :
    FnG P w K mg base CX (k + 1) f fd ps sp := by
  obtain ⟨oc, od, dV, kV, doc, pm, an, cdv, ct, osl, rfl, lk, hcd⟩ := F.ex
  refine ⟨len, fun A outer s H args us vs Q E hgd hr e0 hb r hsp => ?_⟩
  have keepB : ∀ b o, base.get? b = some o → s.heap.get? b = some o := fun b o e => (e0.bs b o e).1
  have KX := e0.mod.kin.keeps keepB
  have kinds : ∀ y ∈ ps.zip us, (C8.fnScope st).names.lookup y.1 = some .local ∨
      ((C8.fnScope st).names.lookup y.1 = some .cell ∧ ((cellsFrom (s.heap.objs.size + 1) (C8.fnScope st).names []).lookup y.1).isSome = true) := by
    intro y hy
    cases S.par y.1 (List.of_mem_zip hy).1 with
    | inl q => exact .inl q
    | inr q => exact .inr ⟨q, PySem.W.cellsFrom_some _ _ _ (.inl q)⟩
  refine codeAny_call_function hr.depth (KX _ _ lk) rfl S.co S.gen rfl (PySem.W.codeRec_of KX hcd) (hb _ _ _ _ ?_)
  refine wpAny_newFunctionEnv_cells S.kind kinds fun env he s1 x => ?_
  subst he
  refine ⟨(e0.mod.nolimit.keeps keepB).keeps x.toInCall.keep, codeAny_func ?_⟩
  obtain ⟨t, ht, hq⟩ := hbody cdv A outer s H vs Q E hgd (hr.deeper _) hsp
  refine wpAny_mono (ht.run [] s1 (start N vs) H _ (inv_start S hr.hd e0 (len _ _ _ _ hsp) r x) hq) (fun fl s' hs => ?_) fun e s' hs => hs
  cases fl with
  | ret u =>
    obtain ⟨v, σ', H', J, rv, q⟩ := hs
    exact ⟨v, H', J.os, J.bare, J.base, J.hok, rv, q⟩
  | next =>
    obtain ⟨σ', H', J, q⟩ := hs
    exact ⟨V.non, H', J.os, J.bare, J.base, J.hok, rfl, q⟩
  | brk =>
    obtain ⟨_, _, _, q⟩ := hs
    exact q.elim
  | cont =>
    obtain ⟨_, _, _, q⟩ := hs
    exact q.elim
/-- a def that may be called by its name, from where no repr runs -/
structure Cal (P : Program) (w : World) (K : PySem.W.Frag) (mg : Str → Option Value) (base : Heap) (k : Nat) (x : Str) (sp : Sp) : Prop where
  ex : ∃ (f : Addr) (fd : FuncData) (ps : List Str), FnG P w K mg base CX0 k f fd ps sp ∧ mg x = some (.ref f) ∧ PySem.W.keepIn K (.ref f) = true ∧ Binds K fd ps []
/-- the promise of such a def by its body -/
theorem cal {x : Str} {st : Stmt} {N : List Str} (F : C8.Def K mg x st f fd) (b : Binds K fd ps []) (S : FnScope N ps (C8.fnScope st)) (len : ∀ vs H Q E, sp vs H Q E → vs.length = ps.length)
    (hbody : ∀ (cdv : Value) (A : Around) (outer : List Env) (s : Shared) (H : Hp) (vs : List V) (Q : VK) (E : XK),
      (A.deeper (envOfC x (C8.fnScope st) s.heap.objs.size f cdv)).guards = some [] → Room k (A.deeper (envOfC x (C8.fnScope st) s.heap.objs.size f cdv)) → sp vs H Q E →
      ∃ t, PSs (cxOf CX0 P w K mg base N x (C8.fnScope st) f cdv A outer s H E).nox (C8.fnBody st) t ∧ t { nx := fun _ H' => Q .non H', rt := Q } (start N vs) H) :
    Cal P w K mg base (k + 1) x sp := by
  refine ⟨f, fd, ps, fnG_of F.fn S len fun cdv A outer s H vs Q E g hr h => ?_, F.mgf, F.kp, b⟩
  obtain ⟨t, p, q⟩ := hbody cdv A outer s H vs Q E g hr h
  exact ⟨t, p.nox, q⟩
end
section
variable {X : Cx} {k j : Nat} {x : Str} {sp : Sp} {p pos : Pos} {e : Expr} {es : List Expr} {t : TA}
theorem runG {CX : CXT} {f : Addr} {fd : FuncData} {ps : List Str} {E : XK} {pins : List (Addr × Obj)} {σ : L2.St} {H : Hp} {s : Shared} {Q : VK} {us : List Value} {vs : List V}
    (F : FnG X.prog X.w X.K X.mg X.base CX k f fd ps sp) (hg : X.A.guards = some []) (hr : Room k X.A) (hb : Binds X.K fd ps []) (hx : Passes CX X E)
    (I : Inv X pins σ H s) (r : Vals vs us) (h : sp vs H Q E) : wpAny (model X.prog X.w) X.A (call (.ref f) us) (EP X pins σ Q) X.xe s := by
  have hl : (us ++ []).length = ps.length := by
    rw [List.append_nil, ← r.length]
    exact F.len _ _ _ _ h
  have bt := hb s us I.kIn hl
  rw [List.append_nil] at bt
  refine wpAny_call (codeAny_mono (F.run X.A X.stack s H ⟨us, []⟩ us vs Q E hg hr I.env0 bt r h) fun res s' hq => ?_)
  match res, hq with
  | .error e, hq => exact hx pins σ H s e s' I hq
  | .ok (.ret u), hq => exact I.after hq
/-- f(e, ..) -/
theorem pc (c : Cal X.prog X.w X.K X.mg X.base k x sp) (hgd : X.A.guards = some []) (hr : Room j X.A) (hk : k ≤ j) (hg : Gl X x) (ha : PA X (e :: es) t)
    (hdb : (x == ("__debug__" : Str)) = false := by decide) (he : starEach (e :: es) X.env = (false, eval e X.env) :: starEach es X.env := by rfl) (hpl : (backTo pos (starEach es X.env)).any (·.1) = false := by rfl) :
    PE X (.Call (.Name x p) (e :: es) [] pos) (tCall sp [] E0 t) := by
  obtain ⟨f, fd, ps, F, hm, kp, b⟩ := c.ex
  refine ⟨fun pins s σ H Q I h => wpAny_Call_Name_kw (ld_glob I hg hm ?_ hdb)⟩
  refine PySem.W.callWith_K (h₀ := X.base) I.ok.mod.kin kp (thn (ha.run pos pins s σ H _ I h) fun us s1 hh => ?_) he hpl
  obtain ⟨vs, H1, I1, r, q⟩ := hh
  rw [List.append_nil] at q
  exact ⟨I1.kIn, runG F hgd (hr.mono hk) b pass0 I1 r q⟩
/-- f() -/
theorem pc0 (c : Cal X.prog X.w X.K X.mg X.base k x sp) (hgd : X.A.guards = some []) (hr : Room j X.A) (hk : k ≤ j) (hg : Gl X x)
    (hdb : (x == ("__debug__" : Str)) = false := by decide) : PE X (.Call (.Name x p) [] [] pos) (tCall sp [] E0 tNil) := by
  obtain ⟨f, fd, ps, F, hm, kp, b⟩ := c.ex
  refine ⟨fun pins s σ H Q I h => wpAny_Call_Name_kw (ld_glob I hg hm ?_ hdb)⟩
  exact PySem.W.callWith_K0 I.kIn kp (runG (us := []) (vs := []) F hgd (hr.mono hk) b pass0 I .nil h)
end

/-- a comprehension without an if -/
theorem lc_yes {te : TE} {σ : L2.St} {H : Hp} {R : VK} {N : Hp → Prop} (h : te σ H R) : tYes σ H (fun b H3 => if b = true then te σ H3 R else N H3) := by
  show (if true = true then te σ H R else N H)
  rw [if_pos rfl]
  exact h
theorem sm1000 {n : Nat} (h : n ≤ 1000) : n ≤ sizeLine := Nat.le_of_lt (small1000 h)
theorem same_new {H : Hp} {p : Addr} {o : HO} (h : H p = none) : Same H (upd H p o) := fun b x e => by
  rw [upd_ne (ne_of_none e h)]
  exact e
/-- what stood at no tracked place is written -/
theorem same_grow {H H' : Hp} {D : Addr} {o : HO} (h : H D = none) (s : Same H H') : Same H (upd H' D o) := fun b x e => by
  rw [upd_ne (ne_of_none e h)]
  exact s b x e
theorem take_next {α β : Type} {f : α → β} {l : List α} {i : Nat} {c : α} (h : l[i]? = some c) : (l.take i).map f ++ [f c] = (l.take (i + 1)).map f := by
  rw [List.take_add_one, h, List.map_append]
  rfl
theorem size_cps (z : Str) : z.cps.size = z.length := rfl
theorem len_cps (z : Str) : z.cps.toList.length = z.length := by simp [Str.length]

/-! ### enumerate(a text) -/
def Ets (x : Str) : It :=
  ⟨fun i _ => i < x.cps.size, fun i H v H' => ∃ T c, v = .ref T ∧ H T = none ∧ H' = upd H T (.tup [.int (i : Nat), .str ⟨#[c]⟩]) ∧ x.cps[i]? = some c, fun i _ => i = x.cps.size⟩
theorem turn_enumS {P : Program} {w : World} {K : PySem.W.Frag} {elts : List Expr} {kk : Nat} {tpos : Pos} (e it : Addr) (x : Str) (t : Tok) :
    Turn P w K (.Tuple elts kk tpos) (Ets x) [e, it] e
      (fun i h => (∃ old, IsEnum h e it ((i : Nat) : Int) old) ∧ h.IsStrIter it (strIterType x) x t i ∧ e ≠ it) where
  mem := List.mem_cons_self
  obj := fun i h st b hb => by
    obtain ⟨⟨old, he⟩, ⟨o, ho, _, hd⟩, _⟩ := st
    rcases List.mem_cons.mp hb with rfl | hb
    · exact ⟨_, he, fun v q => nomatch q⟩
    · obtain rfl := List.mem_singleton.mp hb
      exact ⟨o, ho, fun v q => by rw [hd] at q; cases q⟩
  keep := fun i h h' st k => by
    obtain ⟨⟨old, he⟩, ⟨o, ho, r⟩, hne⟩ := st
    exact ⟨⟨old, k e (by simp) _ he⟩, ⟨o, k it (by simp) _ ho, r⟩, hne⟩
  item := by
    intro X hP hw hK hc i pins s σ H E I hf st hg
    subst hP hw hK
    obtain ⟨⟨old, he⟩, hit, hne⟩ := st
    have hel : e < s.heap.objs.size := Heap.lt_size he
    have hil : it < s.heap.objs.size := by
      obtain ⟨_, q, _⟩ := hit
      exact Heap.lt_size q
    have D := Draws.text (prog := X.prog) (w := X.w) (A := X.A.in1) (I.ok.hd hc) it x t
    refine wpAny_pyNext_enum_itemD D he hit hg hne (by simpa using hne) fun xv h' tk hx ho hit' hT hsz hk => ?_
    obtain ⟨c, u, hcx, rfl⟩ := hx
    refine ⟨_, rfl, wpAny_letOwnedTupleGo_enum (s := { s with heap := h', toks := tk + 1 }) ho fun h'' he' sb => ?_⟩
    have tup : h''.get? s.heap.objs.size = some { cls := .type "tuple", data := .seq #[.int i tk, .str ⟨#[c]⟩ u] } :=
      (sb.2 _ (Nat.ne_of_gt hel)).trans hT
    have ok : ObjOk X.prog X.w (upd H s.heap.objs.size (.tup [.int (i : Nat), .str ⟨#[c]⟩])) h'' s.heap.objs.size (.tup [.int (i : Nat), .str ⟨#[c]⟩]) := by
      refine ⟨by show 2 ≤ sizeLine; decide, [.int i tk, .str ⟨#[c]⟩ u], .cons ⟨tk, rfl⟩ (.cons ⟨u, rfl⟩ .nil), ⟨_, tup, rfl, _, rfl⟩⟩
    have I1 : Inv X pins σ (upd H s.heap.objs.size (.tup [.int (i : Nat), .str ⟨#[c]⟩])) { s with heap := h'', toks := tk + 1 } := by
      refine I.turnedNew (ch := [e, it]) (fun b ob hb q => ?_) hf (Nat.le_refl _) ok
      have n1 : b ≠ e := fun z => hb (by simp [z])
      have n2 : b ≠ it := fun z => hb (by simp [z])
      exact (sb.2 b n1).trans (hk b ob n1 n2 q)
    have nx : ((i + 1 : Nat) : Int) = (i : Int) + 1 := by omega
    refine ⟨.ref s.heap.objs.size, _, I1, rfl, ⟨_, c, rfl, I.hok.fresh (Nat.le_refl _), rfl, hcx⟩, ⟨⟨_, by rw [nx]; exact he'⟩, ?_, hne⟩, fun b hb => ?_⟩
    · obtain ⟨o, q, r⟩ := hit'
      exact ⟨o, (sb.2 it (Ne.symm hne)).trans q, r⟩
    · have lt : b < s.heap.objs.size := by
        rcases List.mem_cons.mp hb with rfl | hb
        · exact hel
        · obtain rfl := List.mem_singleton.mp hb
          exact hil
      rw [upd_ne (Nat.ne_of_lt lt)]
      exact (hf b hb).1
  done := by
    intro X hP hw hK hc i pins s σ H E I hf st hg
    subst hP hw hK
    obtain ⟨⟨old, he⟩, hit, hne⟩ := st
    obtain ⟨f0, f1, f2, f3, f4, f5⟩ := hf it (by simp)
    have hi : i = x.cps.size := hg
    have D := Draws.text (prog := X.prog) (w := X.w) (A := X.A.in1) (I.ok.hd hc) it x t
    rw [hi] at hit
    exact wpAny_pyNext_enum_endD D he hit fun h' eb => ⟨rfl, I.turned (t' := s.toks) (fun b o hb q => eb b o hb q) f0 f1 f3 f4 f5⟩
  self := fun A i s Q E st h => by
    obtain ⟨⟨_, he⟩, _⟩ := st
    exact wpAny_pyIter_enum he h
def iEnumS (ta : TA) : TI := fun σ H R => ta σ H fun vs H1 => ∃ x, vs = [.str x] ∧ R (Ets x) H1
theorem pi_enumS {X : Cx} {e : Expr} {ta : TA} {p pos tpos : Pos} {elts : List Expr} {kk : Nat} (hg : Gl X "enumerate") (hm : X.mg "enumerate" = none) (ha : PA X [e] ta)
    (hs : starEach [e] X.env = [(false, eval e X.env)] := by rfl) : PI X (.Tuple elts kk tpos) (.Call (.Name "enumerate" p) [e] [] pos) (iEnumS ta) := by
  refine ⟨fun pins s σ H R I h => Call_ (ld_blt I hg hm boot_enumerate (PyProof.Rows.callWith_type1 (thn (ha.run pos pins s σ H _ I h) fun us s1 hh => ?_) hs rfl))⟩
  obtain ⟨vs, H1, I1, r1, x, rfl, q⟩ := hh
  obtain ⟨u, rfl, t, rfl⟩ := vals1 r1
  refine call_enumerate_str fun h' he hit hsz hk => wpAny_pyIter_enum he ?_
  have I2 : Inv X pins σ H1 { s1 with heap := h' } := I1.kept (t' := s1.toks) hk
  refine ⟨s1.heap.objs.size + 1, [s1.heap.objs.size + 1, s1.heap.objs.size], _, _, H1, rfl, I2, turn_enumS _ _ x t, ⟨⟨.none, he⟩, hit, Nat.succ_ne_self _⟩, fun b hb => ?_, q⟩
  have le : s1.heap.objs.size ≤ b := by
    rcases List.mem_cons.mp hb with rfl | hb
    · exact Nat.le_succ _
    · obtain rfl := List.mem_singleton.mp hb
      exact Nat.le_refl _
  exact I1.fpOk le (I1.hok.fresh le)
theorem walk_enumS {x : Str} : Walk (Ets x) x.cps.size (fun _ => True) (YPair (fun i => some (.int (i : Nat))) (fun i => x.cps[i]?.map fun c => .str ⟨#[c]⟩)) := by
  refine ⟨fun _ _ hi _ => hi, fun _ _ => rfl, fun i H v H' _ _ y => ?_⟩
  obtain ⟨T, c, h1, h2, h3, h4⟩ := y
  exact ⟨T, .int (i : Nat), .str ⟨#[c]⟩, h1, h2, h3, rfl, by show x.cps[i]?.map (fun c => V.str ⟨#[c]⟩) = _; rw [h4]; rfl⟩

/-! ### the law's end -/
theorem law_end {P : Program} {w : World} {K : PySem.W.Frag} {mg mb : Str → Option Value} {k : Nat} {fa a : Addr} {fd : FuncData} {x : Str} {sp : Sp} {s₁ : Shared} {vs : List Value} {ns : List Int}
    (KX : K.In s₁.heap) (hns : s₁.heap.Ns mainGlobals mg) (hb : s₁.heap.Ns builtinsNs mb) (hbb : ∀ x : Str, x ≠ "__name__" → mb x = bootBuiltins x) (hlim : s₁.heap.NoLimit) (hgn : s₁.gens = #[])
    (ha : s₁.heap.get? a = some { cls := .type "list", data := .seq vs.toArray }) (hi : IntsAre vs ns) (hl : ns.length ≤ sizeLine) (hr : Room k callerA)
    (F : ∀ base : Heap, K.In base → base.Ns mainGlobals mg → FnG P w K mg base CX0 k fa fd [x] sp) (hbind : ∀ (s : Shared) (u : Value), BindsTo s fd ⟨[u], []⟩ [(x, u)])
    (hsp : ∀ H : Hp, SqL K H a (ns.map V.int) → sp [.ref a] H (fun v _ => v = .bl true) E0) :
    codeAny (model P w) callerA (.call (.ref fa) ⟨[.ref a], []⟩) (fun r s' => r = .ok (.ret (.bool true)) ∧ OldK s₁.heap s'.heap ∧ s'.os = s₁.os ∧ AllBare s'.gens) s₁ := by
  have rv := vals_ints hi
  let O : Obj := { cls := .type "list", data := .seq vs.toArray }
  have key : ∀ H : Hp, SqL K H a (ns.map V.int) → HOk P w H s₁.heap → (∀ b, H b = none ∨ (b = a ∧ K.lookup b = none ∧ H b = some (.frz O (.lst (ns.map V.int))))) →
      codeAny (model P w) callerA (.call (.ref fa) ⟨[.ref a], []⟩) (fun r s' => r = .ok (.ret (.bool true)) ∧ OldK s₁.heap s'.heap ∧ s'.os = s₁.os ∧ AllBare s'.gens) s₁ := by
    intro H hS hok hO
    have free : ∀ {b : Addr} {o : Obj} {es : Array DictEntry} {ep : Nat}, s₁.heap.get? b = some o → o.data = .dict es ep → H b = none := by
      intro b o es ep e d
      rcases hO b with q | ⟨rfl, _, _⟩
      · exact q
      · rw [ha] at e
        cases e
        cases d
    have nsH : ∀ {b : Addr} {m : Str → Option Value}, s₁.heap.Ns b m → (hidT s₁.heap H).Ns b m := by
      rintro b m ⟨o, es, ep, e, d, r⟩
      exact ⟨o, es, ep, hidT_get e (free e d), d, r⟩
    have inH : K.In (hidT s₁.heap H) := by
      intro b o e
      refine hidT_get (KX b o e) ?_
      rcases hO b with q | ⟨_, z, _⟩
      · exact q
      · rw [z] at e
        cases e
    have lim : (hidT s₁.heap H).NoLimit := by
      obtain ⟨mc, h1, h2⟩ := hlim
      exact ⟨mc, nsH h1, h2⟩
    have md : Mod K mg (hidT s₁.heap H) := ⟨inH, nsH hns, ⟨mb, nsH hb, hbb⟩, lim⟩
    have e0 : Env0 P w K mg (hidT s₁.heap H) callerA [] s₁ H := by
      refine ⟨rfl, md, fun b o e => of_hidT e, Nat.le_of_eq (hidT_size _ _), trivial, fun b z => ?_, hok, .of_eq hgn⟩
      exact absurd (show b ∈ ([] : List Addr) from z) List.not_mem_nil
    refine codeAny_mono ((F _ inH (nsH hns)).run callerA [] s₁ H ⟨[.ref a], []⟩ [.ref a] [.ref a] _ _ rfl hr e0 (hbind s₁ (.ref a)) (.cons rfl .nil) (hsp H hS)) fun r s' h => ?_
    match r, h with
    | .error e, h => exact False.elim h
    | .ok (.ret u), h =>
      obtain ⟨v, H', os, bare, un, hok', r', q⟩ := h
      obtain rfl : v = .bl true := q
      obtain rfl : u = Value.bool true := r'
      refine ⟨rfl, OldK.of_keep fun b o e => ?_, os, bare⟩
      rcases hO b with q | ⟨_, _, q⟩
      · exact un.keep b o e q (fun z => absurd (show b ∈ ([] : List Addr) from z) List.not_mem_nil) List.not_mem_nil
      · have e1 := (hok b _ q).1
        have e2 := (hok' b _ (un.frzs b O _ q)).1
        rw [e] at e1
        cases e1
        exact e2
  cases hk : K.lookup a with
  | some o =>
    have e := KX a o hk
    rw [ha] at e
    cases e
    refine key (fun _ => none) (.inr ⟨_, vs.toArray, _, hk, rfl, rfl, rfl, ?_, ?_⟩) (fun b u z => nomatch z) fun _ => .inl rfl
    · rw [List.size_toArray, hi.length]
      exact hl
    · simpa using rv
  | none =>
    have at_a : ∀ b, (if b = a then some (HO.frz O (.lst (ns.map V.int))) else none) ≠ none → b = a := by
      intro b z
      by_cases e : b = a
      · exact e
      · rw [if_neg e] at z
        exact absurd rfl z
    refine key (fun b => if b = a then some (.frz O (.lst (ns.map V.int))) else none) (.inl (.inr ⟨O, if_pos rfl⟩)) (fun b u z => ?_) fun b => ?_
    · have z' : (if b = a then some (HO.frz O (.lst (ns.map V.int))) else none) = some u := z
      have e : b = a := at_a b (by rw [z']; exact fun z => nomatch z)
      subst e
      rw [if_pos rfl] at z'
      cases z'
      exact ⟨ha, by rw [List.length_map]; exact hl, vs, _, rv, ha⟩
    · by_cases e : b = a
      · subst e
        exact .inr ⟨rfl, hk, if_pos rfl⟩
      · exact .inl (if_neg e)
theorem walk_end {l : PySem.W.OpenLaw} {n k : Nat} {q : Program} {loose : List Str} {XP : (Str → Option Value) → Heap → Prop} {YP : World → Heap → Prop} {d : DefRec} {K : Params → PySem.W.Frag} {sp : World → Sp} {x : Str}
    (hn : l.most = some n) (hn2 : n ≤ sizeLine) (hdf : d.params.defaults = []) (hr : Room k callerA)
    (hY : ∀ (w : World) (h : Heap), YP w h → (K w.params).In h)
    (F : ∀ (w : World) (mg : Str → Option Value) (fa : Addr) (h : Heap), (K w.params).In h → h.Ns mainGlobals mg → mg d.name = some (.ref fa) →
      ∃ fd : FuncData, (∀ (s : Shared) (u : Value), BindsTo s fd ⟨[u], []⟩ [(x, u)]) ∧
        ∀ base : Heap, (K w.params).In base → base.Ns mainGlobals mg → FnG l.prog w (K w.params) mg base CX0 k fa fd [x] (sp w))
    (hsp : ∀ (w : World) (H : Hp) (a : Addr) (ns : List Int), ns.length ≤ n → SqL (K w.params) H a (ns.map V.int) → sp w [.ref a] H (fun v _ => v = .bl true) E0) :
    PySem.W.WalkO q loose XP YP l.row.toRowW d [] (fun f vs => PySem.call f vs) := by
  refine Att.attach_call hn hdf fun w s₀ s₁ mg mb fa o pm cd doc a vs ns G Y ho hd hcd hmg hobj hints hlen hg => ?_
  obtain ⟨fd, hb, hF⟩ := F w mg fa _ (hY w _ Y) G.T.g hmg
  exact law_end (hY w _ Y) G.T.g G.T.b G.T.builtins G.T.nolimit hg hobj hints (Nat.le_trans hlen hn2) hr hF hb fun H hS => hsp w H a ns hlen hS
end Gd

set_option Elab.async false
set_option linter.all false
set_option maxRecDepth 100000
set_option maxHeartbeats 2000000
/-! the head by one run of the kernel; what it leaves is told by a look of one's own -/
namespace Gd
open PySem PySem.Spec PyProof.Rows L2
/-- what a look tells: a truth about the part of the heap that the names reach in n steps, and the text of defs -/
def obG (n : Nat) (B : PySem.W.Frag → Bool) (fn : List He.FnD) (g : Addr → Option Obj) : Bool × List He.FnV := (B (He.frG g (He.asG g n)), fn.map fun d => He.fnObs (He.frG g (He.asG g n)) d.at_)
def SaysG (B : PySem.W.Frag → Bool) (fn : List He.FnD) (K : PySem.W.Frag) : Prop := B K = true ∧ fn.map (fun d => He.fnObs K d.at_) = fn.map He.FnD.val
def hkG (n : Nat) (B : PySem.W.Frag → Bool) (fn : List He.FnD) : PySem.W.Hook where
  α := Bool × List He.FnV
  obs := fun s => obG n B fn s.heap.get?
  val := fun _ => (true, fn.map He.FnD.val)
  says := fun _ h => ∃ K : PySem.W.Frag, K.In h ∧ SaysG B fn K
  of := fun _ s e => ⟨He.frG s.heap.get? (He.asG s.heap.get? n), He.frG_in, congrArg (fun z => z.1) e, congrArg (fun z => z.2) e⟩
  keeps := fun _ _ _ ⟨K, hK, c⟩ k => ⟨K, PySem.W.Frag.In.keeps hK k, c⟩
theorem obG_eq {n : Nat} {B : PySem.W.Frag → Bool} {fn : List He.FnD} (s : PySem.W.SharedT) : obG n B fn (HandSHeadRun.getT s) = (hkG n B fn).obs s.abs := by
  have e : HandSHeadRun.getT s = s.abs.heap.get? := funext (HandSHeadRun.getT_eq s)
  rw [e]
  rfl
theorem SaysG.fn {B : PySem.W.Frag → Bool} {fn : List He.FnD} {K : PySem.W.Frag} (c : SaysG B fn K) (i : Nat) {d : He.FnD} (h : fn[i]? = some d) : He.fnObs K d.at_ = d.val := by
  have e : (fn.map fun d => He.fnObs K d.at_)[i]? = (fn.map He.FnD.val)[i]? := by rw [c.2]
  rw [List.getElem?_map, List.getElem?_map, h] at e
  exact Option.some.inj e
/-- a def of the module as the look tells it -/
def gd (x : Str) (st : Stmt) : He.FnD := ⟨(x, none), x, x, C8.fnArgs st, C8.fnBody st, C8.fnScope st⟩
/-- .. of a class -/
def cd (x m q : Str) (st : Stmt) : He.FnD := ⟨(x, some m), m, q, C8.fnArgs st, C8.fnBody st, C8.fnScope st⟩
theorem fun_of {K : PySem.W.Frag} {p : Str × Option Str} {x q : Str} {st : Stmt} (o : He.fnObs K p = He.FnD.val ⟨p, x, q, C8.fnArgs st, C8.fnBody st, C8.fnScope st⟩) (cd : (He.Fa.code p q).ok K = true) :
    ∃ fd, C8.Fun K x q st (He.fAd K p) fd ∧ fd.defaults = .none := by
  obtain ⟨oc, od, osl, kV, doc, pm, an, cdv, ct, l, c⟩ := He.fn_ok (d := ⟨p, x, q, C8.fnArgs st, C8.fnBody st, C8.fnScope st⟩) o cd
  exact ⟨_, ⟨oc, od, .none, kV, doc, pm, an, cdv, ct, osl, rfl, l, c⟩, rfl⟩
theorem def_of {K : PySem.W.Frag} {h : Heap} {mg : Str → Option Value} {x : Str} {st : Stmt} (X : K.In h) (G : h.Ns mainGlobals mg) (o : He.fnObs K (x, none) = (gd x st).val) (g : (He.Fa.glo x).ok K = true) (k : (He.Fa.keep x).ok K = true)
    (cd : (He.Fa.code (x, none) x).ok K = true) : ∃ fd, C8.Def K mg x st (He.ga K x) fd ∧ fd.defaults = .none := by
  obtain ⟨fd, F, e⟩ := fun_of (p := (x, none)) o cd
  exact ⟨fd, ⟨F, He.glo_ok X G g, k⟩, e⟩
theorem fa_at {fas : List He.Fa} {K : PySem.W.Frag} (c : (fas.all fun f => f.ok K) = true) (i : Nat) {f : He.Fa} (h : fas[i]? = some f) : f.ok K = true := List.all_eq_true.mp c f (List.mem_of_getElem? h)
theorem walk_endE {l : PySem.W.OpenLaw} {n k : Nat} {q : Program} {loose : List Str} {XP : (Str → Option Value) → Heap → Prop} {YP : World → Heap → Prop} {d : DefRec} {x : Str} (hn : l.most = some n) (hn2 : n ≤ sizeLine) (hdf : d.params.defaults = []) (hr : Room k callerA)
    (F : ∀ (w : World) (mg : Str → Option Value) (fa : Addr) (h : Heap), YP w h → h.Ns mainGlobals mg → mg d.name = some (.ref fa) → ∃ (K : PySem.W.Frag) (fd : FuncData) (sp : Sp), K.In h ∧ (∀ (s : Shared) (u : Value), BindsTo s fd ⟨[u], []⟩ [(x, u)]) ∧
      (∀ (H : Hp) (a : Addr) (ns : List Int), ns.length ≤ n → SqL K H a (ns.map V.int) → sp [.ref a] H (fun v _ => v = .bl true) E0) ∧ ∀ base : Heap, K.In base → base.Ns mainGlobals mg → FnG l.prog w K mg base CX0 k fa fd [x] sp) :
    PySem.W.WalkO q loose XP YP l.row.toRowW d [] (fun f vs => PySem.call f vs) := by
  refine Att.attach_call hn hdf fun w s₀ s₁ mg mb fa o pm cd doc a vs ns G Y ho hd hcd hmg hobj hints hlen hg => ?_
  obtain ⟨K, fd, sp, KX, hb, hsp, hF⟩ := F w mg fa _ Y G.T.g hmg
  exact law_end KX G.T.g G.T.b G.T.builtins G.T.nolimit hg hobj hints (Nat.le_trans hlen hn2) hr hF hb fun H hS => hsp H a ns hlen hS
end Gd

set_option Elab.async false
set_option linter.all false
set_option maxRecDepth 100000
set_option maxHeartbeats 1000000
namespace K00
open PySem PySem.Spec PyProof.Rows L2 Gd
/-! ### the text -/
def topS (i : Nat) : Stmt := PySem.Challenge.pw_dimkeeper_k00_errors_keep_their_fields.main.body.getD i (.Pass ⟨0, 0, 0, 0⟩)
abbrev s_law_spring : Stmt := topS 44
theorem sc_law_spring : FnScope ["_law_script", "_law_cell"] ["_law_script"] (C8.fnScope s_law_spring) := C8.fnScope_by (by decide +kernel)
abbrev s_law_cup : Stmt := topS 45
theorem sc_law_cup : FnScope ["_law_spring_here", "_law_many", "_law_rest", "_law_turn", "_law_cell", "_law_mixed"] ["_law_spring_here", "_law_many"] (C8.fnScope s_law_cup) := C8.fnScope_by (by decide +kernel)
abbrev s_law_one_of : Stmt := topS 46
theorem sc_law_one_of : FnScope ["_law_spring_here", "_law_some"] ["_law_spring_here", "_law_some"] (C8.fnScope s_law_one_of) := C8.fnScope_by (by decide +kernel)
abbrev s_law_parts : Stmt := topS 47
theorem sc_law_parts : FnScope ["_law_part", "_law_made"] ["_law_part"] (C8.fnScope s_law_parts) := C8.fnScope_by (by decide +kernel)
abbrev s_law_parts_turned : Stmt := topS 48
theorem sc_law_parts_turned : FnScope ["_law_part", "_law_made"] ["_law_part"] (C8.fnScope s_law_parts_turned) := C8.fnScope_by (by decide +kernel)
abbrev s_law_others : Stmt := topS 49
theorem sc_law_others : FnScope ["_law_one", "_law_two", "_law_made"] ["_law_one", "_law_two"] (C8.fnScope s_law_others) := C8.fnScope_by (by decide +kernel)
abbrev s_law_others_named : Stmt := topS 50
theorem sc_law_others_named : FnScope ["_law_one", "_law_two", "_law_made"] ["_law_one", "_law_two"] (C8.fnScope s_law_others_named) := C8.fnScope_by (by decide +kernel)
abbrev s_law_fields : Stmt := topS 51
theorem sc_law_fields : FnScope ["_law_error", "_law_place"] ["_law_error", "_law_place"] (C8.fnScope s_law_fields) := C8.fnScope_by (by decide +kernel)
abbrev s_law_kin : Stmt := topS 52
theorem sc_law_kin : FnScope ["_law_error", "_law_kin_here"] ["_law_error"] (C8.fnScope s_law_kin) := C8.fnScope_by (by decide +kernel)
abbrev s_law_stands_right : Stmt := topS 53
theorem sc_law_stands_right : FnScope ["_law_error", "_law_place", "_law_at"] ["_law_error", "_law_place"] (C8.fnScope s_law_stands_right) := C8.fnScope_by (by decide +kernel)
abbrev s_law_all_right : Stmt := topS 54
theorem sc_law_all_right : FnScope ["_law_one", "_law_two", "_law_made", "_law_place", "_law_error", "_law_due"] ["_law_one", "_law_two", "_law_made"] (C8.fnScope s_law_all_right) := C8.fnScope_by (by decide +kernel)
abbrev slaw : Stmt := topS 55
theorem sclaw : FnScope ["_law_script", "_law_spring_here", "_law_number", "_law_plain", "_law_one", "_law_two", "_law_error"] ["_law_script"] (C8.fnScope slaw) := C8.fnScope_by (by decide +kernel)
/-! ### what the top has written -/
def Df (K : PySem.W.Frag) (mg : Str → Option Value) (x : Str) (st : Stmt) (ps : List Str) : Prop := ∃ (f : Addr) (fd : FuncData), C8.Def K mg x st f fd ∧ Binds K fd ps []
structure Txt (K : PySem.W.Frag) (mg : Str → Option Value) : Prop where
  d_law_spring : Df K mg "_law_spring" s_law_spring ["_law_script"]
  d_law_cup : Df K mg "_law_cup" s_law_cup ["_law_spring_here", "_law_many"]
  d_law_one_of : Df K mg "_law_one_of" s_law_one_of ["_law_spring_here", "_law_some"]
  d_law_parts : Df K mg "_law_parts" s_law_parts ["_law_part"]
  d_law_parts_turned : Df K mg "_law_parts_turned" s_law_parts_turned ["_law_part"]
  d_law_others : Df K mg "_law_others" s_law_others ["_law_one", "_law_two"]
  d_law_others_named : Df K mg "_law_others_named" s_law_others_named ["_law_one", "_law_two"]
  d_law_fields : Df K mg "_law_fields" s_law_fields ["_law_error", "_law_place"]
  d_law_kin : Df K mg "_law_kin" s_law_kin ["_law_error"]
  d_law_stands_right : Df K mg "_law_stands_right" s_law_stands_right ["_law_error", "_law_place"]
  d_law_all_right : Df K mg "_law_all_right" s_law_all_right ["_law_one", "_law_two", "_law_made"]
  d_law : Df K mg "law" slaw ["_law_script"]
  z_len : mg "len" = none
  z_int : mg "int" = none
  z_abs : mg "abs" = none
  z_isinstance : mg "isinstance" = none
  z_repr : mg "repr" = none
  z_range : mg "range" = none
  z_enumerate : mg "enumerate" = none
  z_ValueError : mg "ValueError" = none
  z_LookupError : mg "LookupError" = none
  z_TypeError : mg "TypeError" = none
  z_ArithmeticError : mg "ArithmeticError" = none
  z_RuntimeError : mg "RuntimeError" = none
  z_AttributeError : mg "AttributeError" = none
end K00

set_option Elab.async false
set_option linter.all false
set_option maxRecDepth 100000
set_option maxHeartbeats 0
namespace K00
open PySem PySem.Spec PyProof.Rows L2 Gd
/-! ### the error classes, in the order in which the law asks for them; 40: Missing, 41: DimError -/
def nmC : Nat → Str
  | 0 => "BadWorld"
  | 1 => "BadBlur"
  | 2 => "BadWatch"
  | 3 => "BadTask"
  | 4 => "BadStanding"
  | 5 => "BadTable"
  | 6 => "BadPlay"
  | 7 => "BadView"
  | 8 => "BadLog"
  | 9 => "BadTree"
  | 10 => "BadRow"
  | 11 => "BadGroups"
  | 12 => "BadWait"
  | 13 => "BadSmudges"
  | 14 => "BadRoster"
  | 15 => "BadFog"
  | 16 => "BadFront"
  | 17 => "BadHall"
  | 18 => "BadStory"
  | 19 => "BadNumbers"
  | 20 => "BadPaper"
  | 21 => "NoState"
  | 22 => "NoLabel"
  | 23 => "NoDeed"
  | 24 => "NoSight"
  | 25 => "NoWatchState"
  | 26 => "NoName"
  | 27 => "Twice"
  | 28 => "NoTable"
  | 29 => "NotKept"
  | 30 => "Unlike"
  | 31 => "NotNow"
  | 32 => "NoWay"
  | 33 => "NoEntry"
  | 34 => "Breaks"
  | 35 => "TooMany"
  | 36 => "BadText"
  | 37 => "BadLine"
  | 38 => "Ended"
  | 39 => "Nothing"
  | 40 => "Missing"
  | 41 => "DimError"
  | _ => ""
def posC : Nat → Nat
  | 0 => 2
  | 1 => 3
  | 2 => 4
  | 3 => 5
  | 4 => 6
  | 5 => 7
  | 6 => 8
  | 7 => 9
  | 8 => 10
  | 9 => 11
  | 10 => 12
  | 11 => 13
  | 12 => 14
  | 13 => 15
  | 14 => 16
  | 15 => 17
  | 16 => 18
  | 17 => 19
  | 18 => 20
  | 19 => 21
  | 20 => 22
  | 21 => 24
  | 22 => 25
  | 23 => 26
  | 24 => 27
  | 25 => 28
  | 26 => 29
  | 27 => 33
  | 28 => 31
  | 29 => 32
  | 30 => 34
  | 31 => 36
  | 32 => 37
  | 33 => 30
  | 34 => 35
  | 35 => 40
  | 36 => 41
  | 37 => 42
  | 38 => 38
  | 39 => 39
  | 40 => 23
  | 41 => 1
  | _ => 0
def fldC : Nat → List Str
  | 0 => ["part"]
  | 1 => ["part"]
  | 2 => ["part"]
  | 3 => ["part"]
  | 4 => ["part"]
  | 5 => ["part"]
  | 6 => ["part"]
  | 7 => ["part"]
  | 8 => ["part"]
  | 9 => ["part"]
  | 10 => ["part"]
  | 11 => ["part"]
  | 12 => ["part"]
  | 13 => ["part"]
  | 14 => ["part"]
  | 15 => ["part"]
  | 16 => ["part"]
  | 17 => ["part"]
  | 18 => ["part"]
  | 19 => ["part"]
  | 20 => ["part"]
  | 21 => ["name"]
  | 22 => ["name"]
  | 23 => ["name"]
  | 24 => ["name"]
  | 25 => ["name"]
  | 26 => ["name"]
  | 27 => ["name"]
  | 28 => ["number"]
  | 29 => ["why"]
  | 30 => ["what"]
  | 31 => ["what"]
  | 32 => ["sight"]
  | 33 => ["page", "sight"]
  | 34 => ["state", "place"]
  | 35 => ["what", "most"]
  | 36 => ["line", "word"]
  | 37 => ["line", "error"]
  | 38 => []
  | 39 => []
  | 40 => ["name"]
  | 41 => []
  | _ => []
def ownC (i : Nat) : Bool := decide (i < 21) || decide (27 ≤ i) && decide (i < 38) || decide (i = 40)
def hasC (i : Nat) : Bool := decide (i < 38) || decide (i = 40)
def dC (i : Nat) : Nat := if 21 ≤ i ∧ i ≤ 26 then 40 else i
def allF : List Str := ["error", "line", "most", "name", "number", "page", "part", "place", "sight", "state", "what", "why", "word"]
def kinB (i j : Nat) : Bool := decide (i = j) || decide (j = 41) || decide (j = 40) && decide (21 ≤ i) && decide (i ≤ 26)
abbrev sI (i : Nat) : Stmt := (C8.clsBody (topS (posC i))).getD 0 (.Pass ⟨0, 0, 0, 0⟩)
/-! ### a look at the classes, the 42 of them in l -/
def ecB (K : PySem.W.Frag) (C : Addr) : Bool :=
  decide (PySem.W.findIn K (.ref C) "__setattr__" = some (some (.builtin "object.__setattr__"))) && (xfB K C && (decide (PySem.W.subIn K (.ref C) (.type "BaseException") = some true) && (decide (PySem.W.typeIn K (.ref C) = some (.type "type")) &&
    (PySem.W.keepIn K (.ref C) && (decide (PySem.W.findIn K (.ref C) "__class__" = some (some (.builtin "object.__class__"))) && decide (PySem.W.mroIn K C (.type "object") = some true))))))
def clB (K : PySem.W.Frag) (l : List Addr) (i : Nat) : Bool :=
  ecB K (l.getD i 0) && (allF.all (fun n => decide (PySem.W.findIn K (.ref (l.getD i 0)) n = some none)) && ((List.range 42).all (fun j => decide (PySem.W.kitOne K (.ref (l.getD i 0)) (.ref (l.getD j 0)) = some (kinB i j))) &&
    (decide (PySem.W.kitOne K (.ref (l.getD i 0)) (.type "ValueError") = some true) && (["LookupError", "TypeError", "ArithmeticError", "RuntimeError", "AttributeError"] : List String).all (fun n => decide (PySem.W.kitOne K (.ref (l.getD i 0)) (.type n) = some false)))))
def egB (K : PySem.W.Frag) (l : List Addr) : Bool :=
  decide (PySem.W.specialIn K (.builtin "object.__class__") "__get__" = some (some (.builtin "getset_descriptor.__get__"))) && (decide (PySem.W.takesIn K (.builtin "object.__class__") = some true) &&
    (PySem.W.excIn K (l.getD 38 0) PySem.HandSPX.veTail "ValueError.__new__" && PySem.W.excIn K (l.getD 39 0) PySem.HandSPX.veTail "ValueError.__new__"))
def allB (K : PySem.W.Frag) (l : List Addr) : Bool := egB K l && (List.range 41).all (clB K l)
def clsB (K : PySem.W.Frag) (C : Addr) : Bool := match K.lookup C with
  | some ⟨.type "type", _, .cls z, sl⟩ => (match z.mro, sl.toList with
    | .ref C' :: bm, [_, _, _, _, some (.builtin n), _] => C' == C && n == "ValueError.__new__" && !z.hasDel && z.hasDict && PySem.HandSPX.refsVE bm
    | _, _ => false)
  | _ => false
def lC (K : PySem.W.Frag) : List Addr := [He.ga K "BadWorld", He.ga K "BadBlur", He.ga K "BadWatch", He.ga K "BadTask", He.ga K "BadStanding", He.ga K "BadTable", He.ga K "BadPlay", He.ga K "BadView", He.ga K "BadLog", He.ga K "BadTree", He.ga K "BadRow", He.ga K "BadGroups", He.ga K "BadWait", He.ga K "BadSmudges", He.ga K "BadRoster", He.ga K "BadFog", He.ga K "BadFront", He.ga K "BadHall", He.ga K "BadStory", He.ga K "BadNumbers", He.ga K "BadPaper", He.ga K "NoState", He.ga K "NoLabel", He.ga K "NoDeed", He.ga K "NoSight", He.ga K "NoWatchState", He.ga K "NoName", He.ga K "Twice", He.ga K "NoTable", He.ga K "NotKept", He.ga K "Unlike", He.ga K "NotNow", He.ga K "NoWay", He.ga K "NoEntry", He.ga K "Breaks", He.ga K "TooMany", He.ga K "BadText", He.ga K "BadLine", He.ga K "Ended", He.ga K "Nothing", He.ga K "Missing", He.ga K "DimError"]
def fC (K : PySem.W.Frag) (i : Nat) : Addr := He.fAd K (nmC i, some "__init__")
def xB (K : PySem.W.Frag) : Bool := allB K (lC K) && ((List.range 41).all (fun i => clsB K ((lC K).getD i 0)) && ((List.range 41).all (fun i => !hasC i || decide (PySem.W.findIn K (.ref ((lC K).getD i 0)) "__init__" = some (some (.ref (fC K (dC i)))))) &&
  (List.range 41).all (fun i => !ownC i || decide (PySem.W.typeIn K (.ref (fC K i)) = some (.type "function")))))
def fas0 : List He.Fa := [.glo "_law_spring", .keep "_law_spring", .code ("_law_spring", none) "_law_spring", .glo "_law_cup", .keep "_law_cup", .code ("_law_cup", none) "_law_cup", .glo "_law_one_of", .keep "_law_one_of", .code ("_law_one_of", none) "_law_one_of", .glo "_law_parts", .keep "_law_parts", .code ("_law_parts", none) "_law_parts", .glo "_law_parts_turned", .keep "_law_parts_turned", .code ("_law_parts_turned", none) "_law_parts_turned", .glo "_law_others", .keep "_law_others", .code ("_law_others", none) "_law_others", .glo "_law_others_named", .keep "_law_others_named", .code ("_law_others_named", none) "_law_others_named", .glo "_law_fields", .keep "_law_fields", .code ("_law_fields", none) "_law_fields", .glo "_law_kin", .keep "_law_kin", .code ("_law_kin", none) "_law_kin", .glo "_law_stands_right", .keep "_law_stands_right", .code ("_law_stands_right", none) "_law_stands_right"]
def fas1 : List He.Fa := [.glo "_law_all_right", .keep "_law_all_right", .code ("_law_all_right", none) "_law_all_right", .glo "law", .keep "law", .code ("law", none) "law", .free "len", .free "int", .free "abs", .free "isinstance", .free "repr", .free "range", .free "enumerate", .free "ValueError", .free "LookupError", .free "TypeError", .free "ArithmeticError", .free "RuntimeError", .free "AttributeError", .glo "BadWorld", .glo "BadBlur", .glo "BadWatch", .glo "BadTask", .glo "BadStanding", .glo "BadTable", .glo "BadPlay", .glo "BadView", .glo "BadLog", .glo "BadTree", .glo "BadRow"]
def fas2 : List He.Fa := [.glo "BadGroups", .glo "BadWait", .glo "BadSmudges", .glo "BadRoster", .glo "BadFog", .glo "BadFront", .glo "BadHall", .glo "BadStory", .glo "BadNumbers", .glo "BadPaper", .glo "NoState", .glo "NoLabel", .glo "NoDeed", .glo "NoSight", .glo "NoWatchState", .glo "NoName", .glo "Twice", .glo "NoTable", .glo "NotKept", .glo "Unlike", .glo "NotNow", .glo "NoWay", .glo "NoEntry", .glo "Breaks", .glo "TooMany", .glo "BadText", .glo "BadLine", .glo "Ended", .glo "Nothing", .glo "Missing"]
def fas3 : List He.Fa := [.glo "DimError", .code ("BadWorld", some "__init__") "BadWorld.__init__", .code ("BadBlur", some "__init__") "BadBlur.__init__", .code ("BadWatch", some "__init__") "BadWatch.__init__", .code ("BadTask", some "__init__") "BadTask.__init__", .code ("BadStanding", some "__init__") "BadStanding.__init__", .code ("BadTable", some "__init__") "BadTable.__init__", .code ("BadPlay", some "__init__") "BadPlay.__init__", .code ("BadView", some "__init__") "BadView.__init__", .code ("BadLog", some "__init__") "BadLog.__init__", .code ("BadTree", some "__init__") "BadTree.__init__", .code ("BadRow", some "__init__") "BadRow.__init__", .code ("BadGroups", some "__init__") "BadGroups.__init__", .code ("BadWait", some "__init__") "BadWait.__init__", .code ("BadSmudges", some "__init__") "BadSmudges.__init__", .code ("BadRoster", some "__init__") "BadRoster.__init__", .code ("BadFog", some "__init__") "BadFog.__init__", .code ("BadFront", some "__init__") "BadFront.__init__", .code ("BadHall", some "__init__") "BadHall.__init__", .code ("BadStory", some "__init__") "BadStory.__init__", .code ("BadNumbers", some "__init__") "BadNumbers.__init__", .code ("BadPaper", some "__init__") "BadPaper.__init__", .code ("Twice", some "__init__") "Twice.__init__", .code ("NoTable", some "__init__") "NoTable.__init__", .code ("NotKept", some "__init__") "NotKept.__init__", .code ("Unlike", some "__init__") "Unlike.__init__", .code ("NotNow", some "__init__") "NotNow.__init__", .code ("NoWay", some "__init__") "NoWay.__init__", .code ("NoEntry", some "__init__") "NoEntry.__init__", .code ("Breaks", some "__init__") "Breaks.__init__"]
def fas4 : List He.Fa := [.code ("TooMany", some "__init__") "TooMany.__init__", .code ("BadText", some "__init__") "BadText.__init__", .code ("BadLine", some "__init__") "BadLine.__init__", .code ("Missing", some "__init__") "Missing.__init__"]
def fas : List He.Fa := fas0 ++ fas1 ++ fas2 ++ fas3 ++ fas4
def fnx0 : List He.FnD := [gd "_law_spring" s_law_spring, gd "_law_cup" s_law_cup, gd "_law_one_of" s_law_one_of, gd "_law_parts" s_law_parts, gd "_law_parts_turned" s_law_parts_turned, gd "_law_others" s_law_others, gd "_law_others_named" s_law_others_named, gd "_law_fields" s_law_fields, gd "_law_kin" s_law_kin, gd "_law_stands_right" s_law_stands_right, gd "_law_all_right" s_law_all_right, gd "law" slaw, cd "BadWorld" "__init__" "BadWorld.__init__" (sI 0), cd "BadBlur" "__init__" "BadBlur.__init__" (sI 1), cd "BadWatch" "__init__" "BadWatch.__init__" (sI 2), cd "BadTask" "__init__" "BadTask.__init__" (sI 3), cd "BadStanding" "__init__" "BadStanding.__init__" (sI 4), cd "BadTable" "__init__" "BadTable.__init__" (sI 5), cd "BadPlay" "__init__" "BadPlay.__init__" (sI 6), cd "BadView" "__init__" "BadView.__init__" (sI 7), cd "BadLog" "__init__" "BadLog.__init__" (sI 8), cd "BadTree" "__init__" "BadTree.__init__" (sI 9), cd "BadRow" "__init__" "BadRow.__init__" (sI 10), cd "BadGroups" "__init__" "BadGroups.__init__" (sI 11), cd "BadWait" "__init__" "BadWait.__init__" (sI 12), cd "BadSmudges" "__init__" "BadSmudges.__init__" (sI 13), cd "BadRoster" "__init__" "BadRoster.__init__" (sI 14), cd "BadFog" "__init__" "BadFog.__init__" (sI 15), cd "BadFront" "__init__" "BadFront.__init__" (sI 16), cd "BadHall" "__init__" "BadHall.__init__" (sI 17)]
def fnx1 : List He.FnD := [cd "BadStory" "__init__" "BadStory.__init__" (sI 18), cd "BadNumbers" "__init__" "BadNumbers.__init__" (sI 19), cd "BadPaper" "__init__" "BadPaper.__init__" (sI 20), cd "Twice" "__init__" "Twice.__init__" (sI 27), cd "NoTable" "__init__" "NoTable.__init__" (sI 28), cd "NotKept" "__init__" "NotKept.__init__" (sI 29), cd "Unlike" "__init__" "Unlike.__init__" (sI 30), cd "NotNow" "__init__" "NotNow.__init__" (sI 31), cd "NoWay" "__init__" "NoWay.__init__" (sI 32), cd "NoEntry" "__init__" "NoEntry.__init__" (sI 33), cd "Breaks" "__init__" "Breaks.__init__" (sI 34), cd "TooMany" "__init__" "TooMany.__init__" (sI 35), cd "BadText" "__init__" "BadText.__init__" (sI 36), cd "BadLine" "__init__" "BadLine.__init__" (sI 37), cd "Missing" "__init__" "Missing.__init__" (sI 40)]
def fnx : List He.FnD := fnx0 ++ fnx1
def Bx (K : PySem.W.Frag) : Bool := (fas.all fun f => f.ok K) && xB K
end K00
namespace K00H
open PySem PySem.W PySem.Calls PyProof.Rows K00
abbrev R : OpenRow := OpenLaw.row PySem.Challenge.rw_dimkeeper_k00_errors_keep_their_fields
def nm1 : List PySem.Str := (R.prog.main.scope.names.map (·.1)).filter fun x => x != ("law" : PySem.Str) && x != ("__name__" : PySem.Str) && x != ("ValueError" : PySem.Str)
abbrev ob (s : PySem.W.SharedT) : Bool × List He.FnV := Gd.obG 4 Bx fnx (HandSHeadRun.getT s)
theorem run (w : World) : HandSHeadRun.RunEq R (view R.prog [55]) (Gd.hkG 4 Bx fnx) ob 14000 nm1 w := by
  intro os
  kernel_rfl
end K00H

set_option Elab.async false
set_option linter.all false
set_option maxRecDepth 100000
set_option maxHeartbeats 4000000
/-! own errors as values: made by place and by name, their fields read, asked for their classes -/
namespace PySem
namespace GdX
open Builtin Builtin.ObjectAttr HandSPX
section
variable {M : Model} {prog : Program} {w : World} {A : Around} {E : Value → Shared → Prop} {R : Result → Shared → Prop} {h : Heap} {g : Array GenState} {d : Drawn} {t : Nat} {os : OsState}
variable {nm q : Str} {C N : Addr} {bs bm bmB : List Value} {hdct : Bool} {sn : List Str} {sub : List Value} {ab : Bool} {col : Option Bool} {dd : Option Addr} {k0 k1 k2 k3 k5 : Option Value} {B newId initId : String}
variable {rest : List Value} {kw : List (Str × Value)}
theorem kw_check (F : ExcBaseFacts B newId initId bmB) (hT : ∀ X : String, bm.contains (.type X) = bmB.contains (.type X)) {Q : Unit → Shared → Prop}
    (hC : h.get? C = some (excClassObj nm q C N bs bm hdct sn sub ab col dd k0 k1 k2 k3 k5 newId)) (hq : Q () ⟨h, g, d, t, os⟩) : wpAny M A (checkBuiltinCall newId ⟨.ref C :: rest, kw⟩) Q E ⟨h, g, d, t, os⟩ := by
  have hcont : (Value.ref C :: bm).contains (.type B) = true := by rw [List.contains_cons, hT, F.hasB, Bool.or_true]
  have hstar := F.noStar
  simp only [checkBuiltinCall, F.newKind, F.newSplit, F.newRow]
  repeat (first | refine wpAny_loadPart_at hC ?_ | (refine wpAny_isSubtype_exc hC ?_; rw [hcont]) | refine wpAny_staticBase_exc hC ?_ | refine wpAny_madeBy_exc hC ?_ | simp only [bne_self_eq_false, Bool.false_eq_true, if_false] | wp_step)
  exact hq
theorem kw_new (F : ExcBaseFacts B newId initId bmB) (hT : ∀ X : String, bm.contains (.type X) = bmB.contains (.type X)) (hC : h.get? C = some (excClassObj nm q C N bs bm hdct sn sub ab col dd k0 k1 k2 k3 k5 newId)) (hl : rest.length ≤ sizeLine)
    (hq : R (.ok (.ret (.ref (h.objs.size + 1)))) ⟨(h.push (W.kdv_tup rest)).push (excO C h.objs.size), g, d, t, os⟩) : codeAny (model prog w) A (.builtin newId ⟨.ref C :: rest, kw⟩) R ⟨h, g, d, t, os⟩ := by
  have hends := F.ends
  have c1 : (Value.ref C :: bm).contains (.type B) = true := by rw [List.contains_cons, hT, F.hasB, Bool.or_true]
  have c2 : (Value.ref C :: bm).contains (.type "AttributeError") = false := by rw [List.contains_cons, hT, F.noAttr]; rfl
  have c3 : (Value.ref C :: bm).contains (.type "NameError") = false := by rw [List.contains_cons, hT, F.noName]; rfl
  refine codeAny_builtinAt F.entry ?_
  unfold Builtin.«BaseException.__new__»
  refine wpAt_bind ?_
  show wpAt _ _ _ (stack >>= _) _ _ _
  refine wpAt_bind (wpAt_stack fun p below => wpAt_of_wpAny ?_)
  wp_walk
  refine wpAt_of_wpAny ?_
  rw [F.owner]
  repeat (first | with_reducible refine wpAny_madeHere_exc F.canon hC ?_ | with_reducible refine wpAny_loadPart_at hC ?_ | (with_reducible refine wpAny_isSubtype_exc hC ?_; first | rw [c1] | rw [c2] | rw [c3]) | wp_step)
  show R _ _
  rw [Heap.size_push]
  exact hq
/-- what type.__call__ does behind the new object -/
def InitThen (a : Addr) (Q : Fin → Shared → Prop) (E : Value → Shared → Prop) : Result → Shared → Prop := fun r s' => match r with
  | .ok (.ret v) => v = .none ∧ Q (.done (.ret (.ref a))) s'
  | .ok _ => False
  | .error e => E e s'
theorem kw_type (F : ExcBaseFacts B newId initId bmB) (hT : ∀ X : String, bm.contains (.type X) = bmB.contains (.type X)) {fI : Addr} {Q : Fin → Shared → Prop}
    (hC : h.get? C = some (excClassObj nm q C N bs bm hdct sn sub ab col dd k0 k1 k2 k3 k5 newId)) (hi : W.Looks (model prog w) h (typeLookup (.ref C) "__init__") (some (.ref fI)))
    (hb : ∀ self, W.Looks (model prog w) h (bindSpecial (.ref fI) self) (.ref fI, [self])) (hl : rest.length ≤ sizeLine)
    (hq : codeAny (model prog w) A (.call (.ref fI) ⟨.ref (h.objs.size + 1) :: rest, kw⟩) (InitThen (h.objs.size + 1) Q E) ⟨(h.push (W.kdv_tup rest)).push (excO C h.objs.size), g, d, t, os⟩) :
    wpAny (model prog w) A (Builtin.«type.__call__» ⟨.ref C :: rest, kw⟩) Q E ⟨h, g, d, t, os⟩ := by
  repeat (first | with_reducible refine wpAny_loadPart_at hC ?_ | with_reducible refine wpAny_madeBy_exc hC ?_ | wp_step)
  refine codeAny_call_builtin_code (Code.quiet_builtin _ F.quiet) (kw_check F hT hC (kw_new F hT hC hl ?_))
  show wpAny _ _ _ _ _ _
  have k : ∀ b o, h.get? b = some o → ((h.push (W.kdv_tup rest)).push (excO C h.objs.size)).get? b = some o := fun b o e => Heap.get?_push_of_some _ (Heap.get?_push_of_some _ e)
  have hC1 := k _ _ hC
  have hg : ((h.push (W.kdv_tup rest)).push (excO C h.objs.size)).get? (h.objs.size + 1) = some (excO C h.objs.size) := by heap_get
  have hcC : (Value.ref C :: bm).contains (.ref C) = true := by simp
  have i1 := hi.keeps k
  have b1 := (hb (.ref (h.objs.size + 1))).keeps k
  unfold isInstance
  repeat (first | with_reducible refine wpAny_loadPart_at hg ?_ | (with_reducible refine wpAny_isSubtype_exc hC1 ?_; rw [hcC]) | wp_step)
  show wpAny _ _ (typeLookup (.ref C) _) _ _ _
  refine i1.at (wpAny_holding (wpAny_bind (b1.at ?_)))
  refine wpAny_bind (wpAny_call (codeAny_mono hq fun r s' z => ?_))
  rcases r with e | (v | _ | _ | _) <;> first | exact z | exact z.elim | skip
  obtain ⟨rfl, z⟩ := z
  first
    | exact wpAny_pure (wpAny_pure z)
    | (wp_walk; exact z)
theorem kw_call (F : ExcBaseFacts B newId initId bmB) (hT : ∀ X : String, bm.contains (.type X) = bmB.contains (.type X)) {fI : Addr}
    (hC : h.get? C = some (excClassObj nm q C N bs bm hdct sn sub ab col dd k0 k1 k2 k3 k5 newId)) (hi : W.Looks (model prog w) h (typeLookup (.ref C) "__init__") (some (.ref fI)))
    (hb : ∀ self, W.Looks (model prog w) h (bindSpecial (.ref fI) self) (.ref fI, [self])) (hl : rest.length ≤ sizeLine)
    (hq : codeAny (model prog w) (A.under (.builtin "type.__call__" ⟨.ref C :: rest, kw⟩)) (.call (.ref fI) ⟨.ref (h.objs.size + 1) :: rest, kw⟩) (W.InitBack (h.objs.size + 1) R)
      ⟨(h.push (W.kdv_tup rest)).push (excO C h.objs.size), g, d, t, os⟩) :
    codeAny (model prog w) A (.call (.ref C) ⟨rest, kw⟩) R ⟨h, g, d, t, os⟩ := by
  have f1 := tc_lookup
  have f2 := tc_bind (.ref C)
  have hTy : (⟨h, g, d, t, os⟩ : Shared).TypeIs (.ref C) "type" := ⟨_, hC, rfl⟩
  refine codeAny_of_tree ?_
  show wpAny _ _ (callAny (.ref C) _) _ _ _
  repeat (any_goals (first | assumption | with_reducible refine wpAny_loadPart_at hC ?_ | wp_step))
  refine ⟨rfl, codeAny_call_builtin_at (Code.quiet_builtin _ (by decide +kernel)) entry_typeCall (wpAny_check_type_call_sub hC (kw_type F hT hC hi hb hl (codeAny_mono hq fun r s' z => ?_)))⟩
  rcases r with e | (v | _ | _ | _) <;> exact z
end
end GdX
end PySem

set_option Elab.async false
set_option linter.all false
set_option maxRecDepth 100000
set_option maxHeartbeats 1000000
namespace Gd
open PySem PySem.Spec PyProof.Rows L2
/-- at a: an error of the class at C with these fields, in the order of their last stores backwards -/
def ErrAt (C : Addr) (fs : List (Str × V)) (H : Hp) (a : Addr) : Prop := (∃ d, H a = some (exo a C (some d)) ∧ H d = some (exd d fs)) ∨ (fs = [] ∧ H a = some (exo a C none))
theorem ErrAt.same {C : Addr} {fs : List (Str × V)} {H H' : Hp} {a : Addr} (h : ErrAt C fs H a) (s : Same H H') : ErrAt C fs H' a := by
  rcases h with ⟨d, h1, h2⟩ | ⟨h1, h2⟩
  · exact .inl ⟨d, s _ _ h1, s _ _ h2⟩
  · exact .inr ⟨h1, s _ _ h2⟩
/-- what the text's top must say of an error's class -/
structure Ec (K : PySem.W.Frag) (C : Addr) : Prop where
  oex : OexC K C
  xf : XfC K C
  ha : PySem.W.findIn K (.ref C) "__class__" = some (some (.builtin "object.__class__"))
  hm : PySem.W.mroIn K C (.type "object") = some true
structure Eg (K : PySem.W.Frag) : Prop where
  hn : PySem.W.specialIn K (.builtin "object.__class__") "__get__" = some (some (.builtin "getset_descriptor.__get__"))
  ht : PySem.W.takesIn K (.builtin "object.__class__") = some true
section
variable {X : Cx} {pins : List (Addr × Obj)} {σ : L2.St} {H : Hp} {s : Shared} {a C : Addr} {fs : List (Str × V)}
theorem err_inst (I : Inv X pins σ H s) (h : ErrAt C fs H a) : ∃ ox od, PySem.W.InstAt s.heap a ox C od := by
  rcases h with ⟨d, h1, h2⟩ | ⟨_, h1⟩
  · obtain ⟨t1, ho⟩ := exo_at I.hok h1
    obtain ⟨mA, hns, _⟩ := exd_at I.hok h2
    obtain ⟨od, hd, _⟩ := lookIn_ns hns
    exact ⟨_, some od, ho, rfl, rfl, hd⟩
  · obtain ⟨t1, ho⟩ := exo_at I.hok h1
    exact ⟨_, none, ho, rfl, rfl, trivial⟩
end
/-! ### isinstance of such an error -/
section
open PySem.W PySem.Calls
variable {prog : Program} {w : World} {A : Around} {E : Value → Shared → Prop} {s : Shared} {K : PySem.W.Frag} {x D : Addr} {ox : Obj} {od : Option Obj}
theorem find_cls {g a : Value} {name : Str} (hc : (clsIn K D).isSome = true) (ha : findIn K (.ref D) name = some (some a)) (hg : specialIn K a "__get__" = some (some g)) (ht : takesIn K a = some true) : findObj K D od name = some (.bind g a) := by
  obtain ⟨cd, hc'⟩ := Option.isSome_iff_exists.mp hc
  simp [findObj, hc', ha, hg, ht]
theorem cls_get {Q : Option Value → Shared → Prop} (c : Ec K D) (eg : Eg K) (KX : K.In s.heap) (I : PySem.W.InstAt s.heap x ox D od) (h : Q (some (.ref D)) { s with toks := s.toks + 1 }) : wpAny (model prog w) A (getAttr? (.ref x) "__class__") Q E s := by
  have hc : (clsIn K D).isSome = true := by
    obtain ⟨cd, e, _⟩ := any_some c.xf.hdC
    rw [e]
    rfl
  have L3 := fun M => looks_find (M := M) KX I (find_cls (od := od) hc c.ha eg.hn eg.ht)
  obtain ⟨hp, g, d, t, os⟩ := s
  have L0 := I.type (M := model prog w)
  have sub : Looks (model prog w) hp (isInstance (.ref x) (.type "BaseException")) true := L0.andThen (looks_subIn KX c.xf.exC)
  have no : ∀ b : Bool, (b && Value.builtin "BaseException.__getattribute__" == Value.builtin "object.__getattribute__") = false := fun b => by
    rw [show (Value.builtin "BaseException.__getattribute__" == Value.builtin "object.__getattribute__") = false by decide +kernel, Bool.and_false]
  unfold getAttr? getAttrBy? getAttrBy
  refine wpAny_bind (wpAny_mkText (wpAny_bind (wpAny_attempt (wpAny_holding (wpAny_bind (L0.at (wpAny_bind ((looks_findIn KX c.xf.ga).at ?_))))))))
  show wpAny _ _ (if (onTheHeap (Value.ref D) && Value.builtin "BaseException.__getattribute__" == Value.builtin "object.__getattribute__") = true then _ else _) _ _ _
  rw [no, if_neg Bool.false_ne_true]
  unfold getAttrByItsOwn hookBefore
  refine wpAny_bind ?_
  rw [if_pos (show onTheHeap (Value.ref D) = true from rfl)]
  refine (looks_findIn KX c.xf.gg).at (wpAny_bind (wpAny_attempt (wpAny_holding ?_)))
  unfold callGetattribute
  rw [show (false && onTheHeap (Value.builtin "BaseException.__getattribute__")) = false from rfl, if_neg Bool.false_ne_true]
  unfold boundAndCalled
  rw [PySem.F.excAttr_ValueError.ga.bind (.ref x)]
  refine wpAny_bind (wpAny_pure ?_)
  show wpAny _ _ (call (.builtin "BaseException.__getattribute__") [.ref x, .str "__class__" t]) _ _ _
  refine wpAny_call (codeAny_call_builtin PySem.F.excAttr_ValueError.ga.plain PySem.F.entry_bexc_ga (@check_slot (model prog w) _ _ ⟨hp, g, d, t + 1, os⟩ "BaseException.__getattribute__" "BaseException" "__getattribute__" (.ref x) [.str "__class__" t] [] _ (by decide +kernel) (by decide +kernel) sub (PySem.F.args_bexc_ga (.ref x) (.str "__class__" t)) ?_))
  unfold Builtin.«object.__getattribute__»
  refine wpAny_bind (wpAny_of_eq (a := ((Value.ref x : Value), [Value.str "__class__" t])) (by first | rfl | (simp only [slotArgs]; rfl)) (wpAny_bind (wpAny_pure (wpAny_bind (L0.at (wpAny_bind ((L3 _).at ?_)))))))
  show wpAny _ _ (holding [Value.builtin "object.__class__"] (call (.builtin "getset_descriptor.__get__") [.builtin "object.__class__", .ref x, .ref D]) >>= ret) _ _ _
  refine wpAny_bind (wpAny_holding (wpAny_call (class_get (s := ⟨hp, g, d, t + 1, os⟩) (ox := ox) (od := od) KX I c.hm (wpAny_pure ?_))))
  show wpAny _ _ (handedOut (.ref D)) _ _ _
  rw [handedOut_of (v := .ref D) rfl]
  first
    | exact wpAny_pure (wpAny_pure h)
    | exact wpAny_pure h
    | exact wpAny_pure (wpAny_bind (wpAny_pure (wpAny_pure h)))
theorem kit_err (c : Ec K D) (eg : Eg K) : KitX K (.ref x) (.ref D) (fun h => PySem.W.InstAt h x ox D od) where
  ty := fun _ _ _ I => I.type
  it := fun M h KX _ => by
    obtain ⟨nm, q, N, bs, bm, sn, sub, ab, col, dd, k0, k1, k2, k3, k5, e, _⟩ := c.oex.cls
    intro A' Q' E' s' k q
    unfold isType loadHead
    exact wpAny_bind (wpAny_loadPart (k _ _ (KX _ _ e)) (wpAny_pure q))
  ne := fun h tp dd its n sl KX htp => Bool.eq_false_iff.mpr fun q => by
    obtain ⟨nm, q', N, bs, bm, sn, sub, ab, col, dd', k0, k1, k2, k3, k5, e, _⟩ := c.oex.cls
    have e1 : D = tp := Value.ref.inj (beq_iff_eq.mp q)
    subst e1
    exact absurd (Value.type.inj (congrArg Obj.cls (Option.some.inj ((KX _ _ e).symm.trans htp)))) (by decide)
  ca := fun KX I k => cls_get c eg KX I k
end
/-- isinstance(e, c) -/
def rIsX (K : PySem.W.Frag) : List V → Hp → VK → Prop := fun xs H Q => ∃ (a C : Addr) (fs : List (Str × V)) (c : V) (cv : Value) (b : Bool), xs = [.ref a, c] ∧ ErrAt C fs H a ∧ Ec K C ∧ Eg K ∧ (∀ u, RelV c u → u = cv) ∧ PySem.W.kitOne K (.ref C) cv = some b ∧ Q (.bl b) H
theorem call_isX {X : Cx} : CallR X (.builtin "isinstance") (rIsX X.K) := by
  intro pins s σ H xs us Q I r h
  obtain ⟨a, C, fs, c, cv, b, rfl, he, ec, eg, hcv, e, q⟩ := h
  match us, r with
  | [u, v], .cons ru (.cons rv .nil) =>
    obtain rfl : u = Value.ref a := ru
    obtain rfl := hcv v rv
    obtain ⟨ox, od, J⟩ := err_inst I he
    exact PySem.W.kia_one (kit_err ec eg) I.kIn J e (fun z => nomatch z) fun tk => ⟨.bl b, H, I.tok tk, rfl, q⟩
/-! ### a field of such an error -/
def tFld (K : PySem.W.Frag) (n : Str) (te : TE) : TE := fun σ H Q => te σ H fun x H1 => ∃ (a C : Addr) (fs : List (Str × V)) (v : V), x = .ref a ∧ ErrAt C fs H1 a ∧ Ec K C ∧ PySem.W.findIn K (.ref C) n = some none ∧ fs.lookup n = some v ∧ Q v H1
theorem pe_fld {X : Cx} {e : Expr} {te : TE} {pos : Pos} {n : Str} (he : PE X e te) (hb : attributeBase e n X.env (eval e X.env) = eval e X.env := by rfl) : PE X (.Attribute e n pos) (tFld X.K n te) := by
  refine ⟨fun pins s σ H Q I h => attr_of hb (thn (he.run pins s σ H _ I h) fun u s1 ⟨x, H1, I1, rx, a, C, fs, v, ex, hE, ec, hno, l, q⟩ => ?_)⟩
  subst ex
  obtain rfl : u = Value.ref a := rx
  rcases hE with ⟨d, h1, h2⟩ | ⟨rfl, _⟩
  · obtain ⟨t1, ho⟩ := exo_at I1.hok h1
    obtain ⟨mA, hns, hr⟩ := exd_at I1.hok h2
    obtain ⟨od, hd, hl⟩ := lookIn_ns hns
    obtain ⟨u, hu, ru⟩ := RelO.some_of (v := v) (o := mA n) (by rw [← l]; exact hr n)
    have J : PySem.W.InstAt s1.heap a _ C (some od) := ⟨ho, rfl, rfl, hd⟩
    exact HandSPX.exc_get I1.kIn J ec.xf.ga ec.xf.gg ec.xf.exC (PySem.W.findObj_own ec.xf.hdC hno rfl (by rw [hl, hu])) (handed_of ru) ⟨v, H1, I1.tok _, ru, q⟩
  · cases l
end Gd

set_option Elab.async false
set_option linter.all false
set_option maxRecDepth 100000
set_option maxHeartbeats 1000000
namespace Gd
open PySem PySem.Spec PyProof.Rows L2
/-- the error class x, at C, makes an error of n values by place and the values named ks: with these fields -/
structure Mke (P : Program) (w : World) (K : PySem.W.Frag) (mg : Str → Option Value) (base : Heap) (x : Str) (C : Addr) (n : Nat) (ks : List Str) (mk : List V → List V → List (Str × V)) : Prop where
  ec : Ec K C
  gC : mg x = some (.ref C)
  ex : ∃ (fI : Addr) (fd : FuncData) (ps : List Str) (sp : Sp) (g : List Value → List Value → List Value) (gV : List V → List V → List V),
    PySem.W.findIn K (.ref C) "__init__" = some (some (.ref fI)) ∧ PySem.W.typeIn K (.ref fI) = some (.type "function") ∧ FnOk P w K mg base C8.CX0 1 fI fd ps sp ∧ KBn K fd ps (n + 1) ks g gV ∧
    ∀ (vs zs : List V) (H : Hp) (a : Addr) (Q : VK) (E : XK), vs.length = n → zs.length = ks.length → H a = some (exo a C none) →
      (∀ H2 : Hp, (∀ b o, b ≠ a → H b = some o → H2 b = some o) → ErrAt C (mk vs zs) H2 a → Q .non H2) → sp (gV (.ref a :: vs) zs) H Q E
def tMk (C : Addr) (n m : Nat) (mk : List V → List V → List (Str × V)) (t tk : TA) : TE := fun σ H Q => t σ H fun vs H1 => tk σ H1 fun zs H2 => vs.length = n ∧ zs.length = m ∧
  ∀ (a : Addr) (H3 : Hp), Same H2 H3 → ErrAt C (mk vs zs) H3 a → Q (.ref a) H3
section
variable {X : Cx} {k n : Nat} {C : Addr} {x : Str} {ks : List Str} {mk : List V → List V → List (Str × V)} {p pos : Pos} {e : Expr} {es : List Expr} {kws : List Keyword} {t tk : TA}
theorem run_mk {pins : List (Addr × Obj)} {σ : L2.St} {H : Hp} {s : Shared} {Q : VK} {us ws : List Value} {vs zs : List V} (M : Mke X.prog X.w X.K X.mg X.base x C n ks mk) (hr : Room 2 X.A) (I : Inv X pins σ H s) (r : Vals vs us) (rz : Vals zs ws)
    (l1 : vs.length = n) (l2 : zs.length = ks.length) (hn : n ≤ 1000) (h : ∀ (a : Addr) (H3 : Hp), Same H H3 → ErrAt C (mk vs zs) H3 a → Q (.ref a) H3) :
    wpAny (model X.prog X.w) X.A (call (.ref C) us (ks.zip ws)) (EP X pins σ Q) X.xe s := by
  obtain ⟨fI, fd, ps, sp, g, gV, iC, tI, F1, hb, hs⟩ := M.ex
  obtain ⟨nm, q, N, bs, bm, sn, sub, ab, col, dd, k0, k1, k2, k3, k5, hC, hbm⟩ := M.ec.oex.cls
  obtain ⟨hp, gn, dr, tk, os⟩ := s
  have hna : H (hp.objs.size + 1) = none := I.hok.fresh (Nat.le_succ _)
  have old : ∀ b o, hp.get? b = some o → ((hp.push (PySem.W.kdv_tup us)).push (PySem.HandSPX.excO C hp.objs.size)).get? b = some o := fun b o e => Heap.get?_push_of_some _ (Heap.get?_push_of_some _ e)
  have hget : ((hp.push (PySem.W.kdv_tup us)).push (PySem.HandSPX.excO C hp.objs.size)).get? (hp.objs.size + 1) = some (PySem.HandSPX.excO C hp.objs.size) := by heap_get
  have J : Inv X pins σ (upd H (hp.objs.size + 1) (exo (hp.objs.size + 1) C none)) ⟨(hp.push (PySem.W.kdv_tup us)).push (PySem.HandSPX.excO C hp.objs.size), gn, dr, tk, os⟩ := I.laid (t' := tk) old (Nat.le_succ _) (exo_ok hget)
  have r1 : Vals (V.ref (hp.objs.size + 1) :: vs) (Value.ref (hp.objs.size + 1) :: us) := .cons rfl r
  have n1 : (Value.ref (hp.objs.size + 1) :: us).length = n + 1 := r1.length.symm.trans (congrArg Nat.succ l1)
  have hus : us.length ≤ sizeLine := by
    rw [← r.length, l1]
    exact Nat.le_of_lt (small1000 hn)
  refine wpAny_call (PySem.GdX.kw_call F.excBase_ValueError (fun Y => PySem.HandSPX.refsVE_contains Y bm hbm) (I.kIn _ _ hC) (PySem.W.looks_findIn I.kIn iC) (fun self => PySem.W.bind_fn I.kIn self tI) hus
    (codeAny_mono (F1.run _ X.stack _ _ ⟨Value.ref (hp.objs.size + 1) :: us, ks.zip ws⟩ (g (Value.ref (hp.objs.size + 1) :: us) ws) (gV (.ref (hp.objs.size + 1) :: vs) zs) (fun v H2 => v = .non ∧ Q (.ref (hp.objs.size + 1)) H2) C8.E0 (hr.make C us (ks.zip ws)) (J.env0.make C us (ks.zip ws))
      (hb.to _ _ ws J.kIn n1 (rz.length.symm.trans l2)) (hb.rel r1 rz) (hs vs zs _ _ _ _ l1 l2 upd_same fun H2 keep hE => ⟨rfl, h _ H2 (fun b o e => keep b o (ne_of_none e hna) (by rw [upd_ne (ne_of_none e hna)]; exact e)) hE⟩)) fun res s' hq => ?_))
  match res, hq with
  | .error e, hq => exact False.elim hq
  | .ok (.ret u), hq =>
    obtain ⟨v, H', I3, rv, ev, q3⟩ := J.after hq
    subst ev
    exact ⟨rv, ⟨V.ref (hp.objs.size + 1), H', I3, rfl, q3⟩⟩
/-- C(e, ..) -/
theorem pe_mkP (M : Mke X.prog X.w X.K X.mg X.base x C n [] mk) (hr : Room 2 X.A) (hn : n ≤ 1000) (hg : Gl X x) (ha : PA X (e :: es) t)
    (hdb : (x == ("__debug__" : Str)) = false := by decide) (he : starEach (e :: es) X.env = (false, eval e X.env) :: starEach es X.env := by rfl) (hpl : (backTo pos (starEach es X.env)).any (·.1) = false := by rfl) :
    PE X (.Call (.Name x p) (e :: es) [] pos) (tMk C n 0 mk t tNil) := by
  refine ⟨fun pins s σ H Q I h => wpAny_Call_Name_kw (ld_glob I hg M.gC ?_ hdb)⟩
  exact PySem.W.callWith_K (h₀ := X.base) I.ok.mod.kin M.ec.oex.kC (thn (ha.run pos pins s σ H _ I h) fun us s1 ⟨vs, H1, I1, r, l1, _, q⟩ => ⟨I1.kIn, run_mk (us := us) (ws := []) (zs := []) M hr I1 r .nil l1 rfl hn q⟩) he hpl
/-- C(k = v, ..) -/
theorem pe_mkK (M : Mke X.prog X.w X.K X.mg X.base x C 0 ks mk) (hr : Room 2 X.A) (hg : Gl X x) (hkw : PK X kws tk) (hall : (backToKw pos (keywordEach kws X.env)).all (·.1.isSome) = true := by rfl) (hks : (backToKw pos (keywordEach kws X.env)).filterMap (·.1) = ks := by rfl)
    (hdb : (x == ("__debug__" : Str)) = false := by decide) (hpl : ((backTo pos (starEach [] X.env)).any (·.1) || (backToKw pos (keywordEach kws X.env)).any (·.1.isNone)) = false := by rfl) :
    PE X (.Call (.Name x p) [] kws pos) (tMk C 0 ks.length mk tNil tk) := by
  refine ⟨fun pins s σ H Q I h => wpAny_Call_Name_kw (ld_glob I hg M.gC ?_ hdb)⟩
  refine PySem.W.callWith_KW0 (h₀ := X.base) I.ok.mod.kin M.ec.oex.kC hall (thn (hkw.run pos pins s σ H _ I h) fun ws s2 ⟨zs, H2, I2, rz, _, l2, q2⟩ => ⟨I2.kIn, ?_⟩) hpl
  rw [hks]
  exact run_mk (us := []) (vs := []) M hr I2 .nil rz rfl l2 (Nat.zero_le _) q2
/-- C(), C without an own __init__ -/
theorem pe_mk0 {bmB : List Value} {B newId initId : String} (F : ExcBaseFacts B newId initId bmB) (q : PySem.W.excIn X.K C bmB newId = true) (kC : PySem.W.keepIn X.K (.ref C) = true) (hm : X.mg x = some (.ref C)) (hg : Gl X x) (hdb : (x == ("__debug__" : Str)) = false := by decide) :
    PE X (.Call (.Name x p) [] [] pos) (fun σ H Q => ∀ (a : Addr) (H3 : Hp), Same H H3 → ErrAt C [] H3 a → Q (.ref a) H3) := by
  refine ⟨fun pins s σ H Q I h => wpAny_Call_Name_kw (ld_glob I hg hm ?_ hdb)⟩
  refine PySem.W.callWith_K0 I.kIn kC ?_
  obtain ⟨bm, N, nm, qn, bs, hdct, sn, sub, ab, col, dd, k0, k1, k2, k3, k5, mN, hC, hN, hni, T⟩ := exc_obj I.kIn q
  refine wpAny_call_exc_subT F T hC hN hni (fun h' a hx => ?_) (Nat.zero_le _)
  have hn : H a = none := I.hok.gone hx.new
  obtain ⟨t, ht, _, _⟩ := hx.there
  exact ⟨.ref a, upd H a (exo a C none), I.laidN hx.keeps hx.new hn (exo_ok ht), rfl, h a _ (fun b o e => (upd_ne (ne_of_none e hn)).trans e) (.inr ⟨rfl, upd_same⟩)⟩
end
end Gd

set_option Elab.async false
set_option linter.all false
set_option maxRecDepth 100000
set_option maxHeartbeats 1000000
namespace Gd
open PySem PySem.Spec PyProof.Rows L2
/-! ### lists that are not the table of modules; data with dicts of one entry; their repr -/
def tLstX (t : TA) : TE := fun σ H Q => t σ H fun xs H1 => xs.length ≤ sizeLine ∧ ∀ p, H1 p = none → p ≠ sysModules → Q (.ref p) (upd H1 p (.lst xs))
theorem pe_lstX {X : Cx} {es : List Expr} {t : TA} {pos : Pos} (h : PA X es t) : PE X (.List es pos) (tLstX t) := by
  refine ⟨fun pins s σ H Q I hq => wpAny_List_spliced (thn (h.run pos pins s σ H _ I hq) fun us s1 ⟨xs, H1, J, r, z, q⟩ => ⟨by rw [← r.length]; exact z, ?_⟩)⟩
  have hp := q _ (J.hok.fresh (Nat.le_refl _)) (Nat.ne_of_gt J.big)
  exact ⟨.ref s1.heap.objs.size, _, J.laid (t' := s1.toks) (o := .lst xs) (fun b u e => Heap.get?_push_of_some _ e) (Nat.le_refl _) ⟨z, us, 0, r, Heap.get?_push_size _ rfl⟩, rfl, hp⟩
def kd : Key → PyData
  | .inl i => .int i
  | .inr x => .str x
mutual
inductive Dq (H : Hp) : V → PyData → Prop
  | non : Dq H .non .none
  | bl (b : Bool) : Dq H (.bl b) (.bool b)
  | int (i : Int) : Dq H (.int i) (.int i)
  | str (x : Str) : Dq H (.str x) (.str x)
  | lst {a : Addr} {xs : List V} {ds : List PyData} : H a = some (.lst xs) → a ≠ sysModules → DqAll H xs ds → Dq H (.ref a) (.list ds)
  | tup {a : Addr} {xs : List V} {ds : List PyData} : H a = some (.tup xs) → DqAll H xs ds → Dq H (.ref a) (.tuple ds)
  | dk {a : Addr} {k : Key} {v : V} {d : PyData} : H a = some (.dK [(k, v)]) → Dq H v d → Dq H (.ref a) (.dict [(kd k, d)])
inductive DqAll (H : Hp) : List V → List PyData → Prop
  | nil : DqAll H [] []
  | cons {v : V} {vs : List V} {d : PyData} {ds : List PyData} : Dq H v d → DqAll H vs ds → DqAll H (v :: vs) (d :: ds)
end
mutual
theorem Dq.same {H H' : Hp} (s : Same H H') : ∀ {v : V} {d : PyData}, Dq H v d → Dq H' v d
  | _, _, .non => .non
  | _, _, .bl b => .bl b
  | _, _, .int i => .int i
  | _, _, .str x => .str x
  | _, _, .lst h n a => .lst (s _ _ h) n (DqAll.same s a)
  | _, _, .tup h a => .tup (s _ _ h) (DqAll.same s a)
  | _, _, .dk h a => .dk (s _ _ h) (Dq.same s a)
theorem DqAll.same {H H' : Hp} (s : Same H H') : ∀ {vs : List V} {ds : List PyData}, DqAll H vs ds → DqAll H' vs ds
  | _, _, .nil => .nil
  | _, _, .cons a b => .cons (Dq.same s a) (DqAll.same s b)
end
theorem key_reads {P : Program} {w : World} {h : Heap} (k : Key) (key : Value) (hk : (mixKind P w).is k key = true) : Reads h key (kd k) [] := by
  rcases keyIs_shape hk with ⟨i, t, rfl, rfl⟩ | ⟨x, t, rfl, rfl⟩
  · exact .int i t
  · exact .str x t
section
variable {X : Cx} {pins : List (Addr × Obj)} {σ : L2.St} {H : Hp} {s : Shared}
mutual
theorem Dq.reads (I : Inv X pins σ H s) : ∀ {v : V} {d : PyData} {u : Value}, Dq H v d → RelV v u → ∃ as, Reads s.heap u d as ∧ sysModules ∉ as
  | _, _, _, .non, r => by
    cases r
    exact ⟨_, .none, List.not_mem_nil⟩
  | _, _, _, .bl b, r => by
    cases r
    exact ⟨_, .bool b, List.not_mem_nil⟩
  | _, _, _, .int i, r => by
    obtain ⟨t, rfl⟩ := r
    exact ⟨_, .int i t, List.not_mem_nil⟩
  | _, _, _, .str x, r => by
    obtain ⟨t, rfl⟩ := r
    exact ⟨_, .str x t, List.not_mem_nil⟩
  | _, _, _, .lst h n a, r => by
    cases r
    obtain ⟨its, rv, ⟨o, m, ho, hc, _, hd⟩, _⟩ := I.list (SqL.of h)
    obtain ⟨as, hr, hn⟩ := DqAll.reads I a rv
    exact ⟨_, .list ho hc hd hr, fun z => (List.mem_cons.mp z).elim (fun e => n e.symm) hn⟩
  | _, _, _, .tup h a, r => by
    cases r
    obtain ⟨its, rv, ⟨o, ho, hc, m, hd⟩, _⟩ := I.tuple (SqT.of h)
    obtain ⟨as, hr, hn⟩ := DqAll.reads I a rv
    exact ⟨_, .tuple ho hc hd hr, hn⟩
  | _, _, _, .dk h a, r => by
    cases r
    obtain ⟨_, hsm, vs, kv, hd⟩ := dk_of I.hok h
    cases kv with
    | cons e er =>
      cases er
      rename_i kv2 _
      obtain ⟨k2, v2⟩ := kv2
      obtain ⟨e1, e2⟩ := e
      cases e1
      obtain ⟨as, hr, hn⟩ := Dq.reads I a e2
      refine ⟨_, PyProof.V.reads_dictOf key_reads hd (.cons hr .nil), fun z => ?_⟩
      rcases List.mem_cons.mp z with z | z
      · rw [← z] at hsm
        exact absurd hsm (by decide)
      · rw [List.append_nil] at z
        exact hn z
theorem DqAll.reads (I : Inv X pins σ H s) : ∀ {vs : List V} {ds : List PyData} {us : List Value}, DqAll H vs ds → Vals vs us → ∃ as, ReadsAll s.heap us ds as ∧ sysModules ∉ as
  | _, _, _, .nil, r => by
    cases r
    exact ⟨_, .nil, List.not_mem_nil⟩
  | _, _, _, .cons a b, r => by
    cases r with
    | cons r1 r2 =>
      obtain ⟨as, q1, n1⟩ := Dq.reads I a r1
      obtain ⟨bs, q2, n2⟩ := DqAll.reads I b r2
      exact ⟨_, .cons q1 q2, fun z => (List.mem_append.mp z).elim n1 n2⟩
end
end
def rReprQ : List V → Hp → VK → Prop := fun xs H Q => ∃ (v : V) (d : PyData), xs = [v] ∧ Dq H v d ∧ d.showable = true ∧ d.depth ≤ 60 ∧ d.shown.length ≤ sizeLine ∧ Q (.str d.shown) H
theorem repr_ref {X : Cx} (hg : X.A.guards = some []) (hu : X.A.units + 64 < cLine) {pins : List (Addr × Obj)} {s : Shared} {σ : L2.St} {H : Hp} {Q : VK} {a : Addr} {d : PyData} (I : Inv X pins σ H s) (hd : Dq H (.ref a) d) (hs : d.showable = true)
    (hdep : d.depth ≤ 60) (hsz : d.shown.length ≤ sizeLine) (q : Q (.str d.shown) H) : wpAny (model X.prog X.w) X.A (call (.builtin "repr") [.ref a]) (EP X pins σ Q) X.xe s := by
  obtain ⟨as, rd, hn⟩ := hd.reads I (u := .ref a) rfl
  exact repr_of_reads' rd hs (fun _ => hn) hg (by omega) (fun _ _ e => e) (fun h' v tk hk => ⟨.str d.shown, H, I.kept hk, ⟨v, rfl⟩, q⟩) hsz
theorem call_reprQ {X : Cx} (hg : X.A.guards = some []) (hu : X.A.units + 64 < cLine) : CallR X (.builtin "repr") rReprQ := by
  intro pins s σ H xs us Q I r h
  obtain ⟨v, d, rfl, hd, hs, hdep, hsz, q⟩ := h
  obtain ⟨u, rfl, ru⟩ := vals1 r
  cases hd with
  | non =>
    obtain rfl : u = Value.none := ru
    simp only [PyData.shown] at q
    exact PySem.P.repr_of_none ⟨.str _, H, I.tok _, ⟨_, rfl⟩, q⟩
  | bl b =>
    obtain rfl : u = Value.bool b := ru
    simp only [PyData.shown] at q
    refine PySem.P.repr_of_bool ⟨.str _, H, I.tok _, ⟨_, rfl⟩, ?_⟩
    cases b <;> exact q
  | int i =>
    obtain ⟨t, rfl⟩ := ru
    simp only [PyData.shown] at q
    exact PySem.P.repr_of_int (of_decide_eq_true (by simpa only [PyData.showable] using hs)) ⟨.str _, H, I.tok _, ⟨_, rfl⟩, q⟩
  | str x =>
    obtain ⟨t, rfl⟩ := ru
    simp only [PyData.shown] at q hsz
    exact PySem.P.repr_of_str ⟨.str _, H, I.tok _, ⟨_, rfl⟩, q⟩ hsz
  | lst h n a =>
    obtain rfl := (show u = Value.ref _ from ru)
    exact repr_ref hg hu I (.lst h n a) hs hdep hsz q
  | tup h a =>
    obtain rfl := (show u = Value.ref _ from ru)
    exact repr_ref hg hu I (.tup h a) hs hdep hsz q
  | dk h a =>
    obtain rfl := (show u = Value.ref _ from ru)
    exact repr_ref hg hu I (.dk h a) hs hdep hsz q
end Gd

set_option Elab.async false
set_option linter.all false
set_option maxRecDepth 100000
set_option maxHeartbeats 1000000
namespace K00
open PySem PySem.Spec PyProof.Rows L2 Gd
structure Tz (K : PySem.W.Frag) (mg : Str → Option Value) (c f : Nat → Addr) : Prop where
  g : ∀ i, i < 42 → mg (nmC i) = some (.ref (c i))
  ec : ∀ i, i < 41 → Ec K (c i)
  eg : Eg K
  ini : ∀ i, i < 41 → hasC i = true → PySem.W.findIn K (.ref (c i)) "__init__" = some (some (.ref (f (dC i))))
  ti : ∀ i, i < 41 → ownC i = true → PySem.W.typeIn K (.ref (f i)) = some (.type "function")
  fn : ∀ i, i < 41 → ownC i = true → ∃ fd, C8.Fun K "__init__" (nmC i ++ ".__init__") (sI i) (f i) fd ∧ fd.defaults = .none
  no : ∀ i, i < 41 → ∀ n ∈ allF, PySem.W.findIn K (.ref (c i)) n = some none
  kin : ∀ i j, i < 41 → j < 42 → PySem.W.kitOne K (.ref (c i)) (.ref (c j)) = some (kinB i j)
  kve : ∀ i, i < 41 → PySem.W.kitOne K (.ref (c i)) (.type "ValueError") = some true
  kno : ∀ i, i < 41 → ∀ n ∈ ["LookupError", "TypeError", "ArithmeticError", "RuntimeError", "AttributeError"], PySem.W.kitOne K (.ref (c i)) (.type n) = some false
  q38 : PySem.W.excIn K (c 38) PySem.HandSPX.veTail "ValueError.__new__" = true
  q39 : PySem.W.excIn K (c 39) PySem.HandSPX.veTail "ValueError.__new__" = true
  kc38 : PySem.W.keepIn K (.ref (c 38)) = true
  kc39 : PySem.W.keepIn K (.ref (c 39)) = true
def fsV (ns : List Str) (vs : List V) : List (Str × V) := (ns.zip vs).reverse
theorem gC {K : PySem.W.Frag} {mg : Str → Option Value} {c f : Nat → Addr} (Z : Tz K mg c f) (i : Nat) (h : i < 42) : ∃ u, mg (nmC i) = some u ∧ RelV (.ref (c i)) u := ⟨_, Z.g i h, rfl⟩
def spI1 (K : PySem.W.Frag) (n : Str) : Sp := fun vs H Q _ => ∃ (a C : Addr) (u : V), vs = [.ref a, u] ∧ H a = some (exo a C none) ∧ OexC K C ∧ PySem.W.findIn K (.ref C) n = some none ∧
  ∀ d : Addr, H d = none → d ≠ a → Q .non (upd (upd H d (exd d [(n, u)])) a (exo a C (some d)))
def spI2 (K : PySem.W.Frag) (n m : Str) : Sp := fun vs H Q _ => ∃ (a C : Addr) (u v : V), vs = [.ref a, u, v] ∧ H a = some (exo a C none) ∧ OexC K C ∧ PySem.W.findIn K (.ref C) n = some none ∧ PySem.W.findIn K (.ref C) m = some none ∧
  ∀ d : Addr, H d = none → d ≠ a → Q .non (upd (upd (upd H d (exd d [(n, u)])) a (exo a C (some d))) d (exd d [(m, v), (n, u)]))
section
variable {P : Program} {w : World} {K : PySem.W.Frag} {mg : Str → Option Value} {base : Heap} {c f : Nat → Addr} {x n m : Str} {C fI : Addr} {fd : FuncData}
theorem mkeP1 (ec : Ec K C) (g : mg x = some (.ref C)) (ini : PySem.W.findIn K (.ref C) "__init__" = some (some (.ref fI))) (ti : PySem.W.typeIn K (.ref fI) = some (.type "function")) (no : PySem.W.findIn K (.ref C) n = some none)
    (F1 : FnOk P w K mg base C8.CX0 1 fI fd ["self", n] (spI1 K n)) (b : KBn K fd ["self", n] 2 [] (fun us _ => us) (fun vs _ => vs)) : Mke P w K mg base x C 1 [] (fun vs _ => fsV [n] vs) := by
  refine ⟨ec, g, fI, fd, _, _, _, _, ini, ti, F1, b, fun vs zs H a Q E l1 l2 ha k => ?_⟩
  match vs, l1 with
  | [u], _ =>
    refine ⟨a, C, u, rfl, ha, ec.oex, no, fun d nd ne => k _ (fun b o nb e => ?_) (.inl ⟨d, upd_same, ?_⟩)⟩
    · rw [upd_ne nb, upd_ne (ne_of_none e nd)]
      exact e
    · exact (upd_ne ne).trans upd_same
theorem mkeK1 (ec : Ec K C) (g : mg x = some (.ref C)) (ini : PySem.W.findIn K (.ref C) "__init__" = some (some (.ref fI))) (ti : PySem.W.typeIn K (.ref fI) = some (.type "function")) (no : PySem.W.findIn K (.ref C) n = some none)
    (F1 : FnOk P w K mg base C8.CX0 1 fI fd ["self", n] (spI1 K n)) (b : KBn K fd ["self", n] 1 [n] (fun us ws => us ++ ws) (fun vs zs => vs ++ zs)) : Mke P w K mg base x C 0 [n] (fun _ zs => fsV [n] zs) := by
  refine ⟨ec, g, fI, fd, _, _, _, _, ini, ti, F1, b, fun vs zs H a Q E l1 l2 ha k => ?_⟩
  match vs, zs, l1, l2 with
  | [], [u], _, _ =>
    refine ⟨a, C, u, rfl, ha, ec.oex, no, fun d nd ne => k _ (fun b o nb e => ?_) (.inl ⟨d, upd_same, ?_⟩)⟩
    · rw [upd_ne nb, upd_ne (ne_of_none e nd)]
      exact e
    · exact (upd_ne ne).trans upd_same
theorem mkeP2 (ec : Ec K C) (g : mg x = some (.ref C)) (ini : PySem.W.findIn K (.ref C) "__init__" = some (some (.ref fI))) (ti : PySem.W.typeIn K (.ref fI) = some (.type "function")) (no : PySem.W.findIn K (.ref C) n = some none)
    (no2 : PySem.W.findIn K (.ref C) m = some none) (F1 : FnOk P w K mg base C8.CX0 1 fI fd ["self", n, m] (spI2 K n m)) (b : KBn K fd ["self", n, m] 3 [] (fun us _ => us) (fun vs _ => vs)) : Mke P w K mg base x C 2 [] (fun vs _ => fsV [n, m] vs) := by
  refine ⟨ec, g, fI, fd, _, _, _, _, ini, ti, F1, b, fun vs zs H a Q E l1 l2 ha k => ?_⟩
  match vs, l1 with
  | [u, v], _ =>
    refine ⟨a, C, u, v, rfl, ha, ec.oex, no, no2, fun d nd ne => k _ (fun b o nb e => ?_) (.inl ⟨d, ?_, upd_same⟩)⟩
    · rw [upd_ne (ne_of_none e nd), upd_ne nb, upd_ne (ne_of_none e nd)]
      exact e
    · exact (upd_ne (Ne.symm ne)).trans upd_same
theorem mkeK2 (ec : Ec K C) (g : mg x = some (.ref C)) (ini : PySem.W.findIn K (.ref C) "__init__" = some (some (.ref fI))) (ti : PySem.W.typeIn K (.ref fI) = some (.type "function")) (no : PySem.W.findIn K (.ref C) n = some none)
    (no2 : PySem.W.findIn K (.ref C) m = some none) (F1 : FnOk P w K mg base C8.CX0 1 fI fd ["self", n, m] (spI2 K n m)) (b : KBn K fd ["self", n, m] 1 [m, n] (fun us ws => us ++ ws.reverse) (fun vs zs => vs ++ zs.reverse)) :
    Mke P w K mg base x C 0 [m, n] (fun _ zs => fsV [n, m] zs.reverse) := by
  refine ⟨ec, g, fI, fd, _, _, _, _, ini, ti, F1, b, fun vs zs H a Q E l1 l2 ha k => ?_⟩
  match vs, zs, l1, l2 with
  | [], [v, u], _, _ =>
    refine ⟨a, C, u, v, rfl, ha, ec.oex, no, no2, fun d nd ne => k _ (fun b o nb e => ?_) (.inl ⟨d, ?_, upd_same⟩)⟩
    · rw [upd_ne (ne_of_none e nd), upd_ne nb, upd_ne (ne_of_none e nd)]
      exact e
    · exact (upd_ne (Ne.symm ne)).trans upd_same
theorem vals_rev {vs : List V} {us : List Value} (h : Vals vs us) : Vals vs.reverse us.reverse := by
  induction h with
  | nil => exact .nil
  | cons a _ ih =>
    rw [List.reverse_cons, List.reverse_cons]
    exact ih.append (.cons a .nil)
theorem scI0 : FnScope ["self", "part"] ["self", "part"] (C8.fnScope (sI 0)) := C8.fnScope_by (by decide +kernel)
theorem fI0 (F : C8.Fun K "__init__" (nmC 0 ++ ".__init__") (sI 0) fI fd) : FnOk P w K mg base C8.CX0 1 fI fd ["self", "part"] (spI1 K "part") := by
  refine C8.fn0 F scI0 (fun vs H Q E h => ?_) (fun cdv A outer s H vs Q E hr h => ?_)
  · obtain ⟨a, C, u, rfl, _⟩ := h
    rfl
  · obtain ⟨a, C, u, rfl, ha, ox, no, q⟩ := h
    exact ⟨_, (pss_one (ps_ost (pv 0) (pv 1))), _, rfl, _, rfl, a, C, rfl, ox, no, .inl ⟨ha, fun dx ndx ne => q dx ndx ne⟩⟩
theorem scI1 : FnScope ["self", "part"] ["self", "part"] (C8.fnScope (sI 1)) := C8.fnScope_by (by decide +kernel)
theorem fI1 (F : C8.Fun K "__init__" (nmC 1 ++ ".__init__") (sI 1) fI fd) : FnOk P w K mg base C8.CX0 1 fI fd ["self", "part"] (spI1 K "part") := by
  refine C8.fn0 F scI1 (fun vs H Q E h => ?_) (fun cdv A outer s H vs Q E hr h => ?_)
  · obtain ⟨a, C, u, rfl, _⟩ := h
    rfl
  · obtain ⟨a, C, u, rfl, ha, ox, no, q⟩ := h
    exact ⟨_, (pss_one (ps_ost (pv 0) (pv 1))), _, rfl, _, rfl, a, C, rfl, ox, no, .inl ⟨ha, fun dx ndx ne => q dx ndx ne⟩⟩
theorem scI2 : FnScope ["self", "part"] ["self", "part"] (C8.fnScope (sI 2)) := C8.fnScope_by (by decide +kernel)
theorem fI2 (F : C8.Fun K "__init__" (nmC 2 ++ ".__init__") (sI 2) fI fd) : FnOk P w K mg base C8.CX0 1 fI fd ["self", "part"] (spI1 K "part") := by
  refine C8.fn0 F scI2 (fun vs H Q E h => ?_) (fun cdv A outer s H vs Q E hr h => ?_)
  · obtain ⟨a, C, u, rfl, _⟩ := h
    rfl
  · obtain ⟨a, C, u, rfl, ha, ox, no, q⟩ := h
    exact ⟨_, (pss_one (ps_ost (pv 0) (pv 1))), _, rfl, _, rfl, a, C, rfl, ox, no, .inl ⟨ha, fun dx ndx ne => q dx ndx ne⟩⟩
theorem scI3 : FnScope ["self", "part"] ["self", "part"] (C8.fnScope (sI 3)) := C8.fnScope_by (by decide +kernel)
theorem fI3 (F : C8.Fun K "__init__" (nmC 3 ++ ".__init__") (sI 3) fI fd) : FnOk P w K mg base C8.CX0 1 fI fd ["self", "part"] (spI1 K "part") := by
  refine C8.fn0 F scI3 (fun vs H Q E h => ?_) (fun cdv A outer s H vs Q E hr h => ?_)
  · obtain ⟨a, C, u, rfl, _⟩ := h
    rfl
  · obtain ⟨a, C, u, rfl, ha, ox, no, q⟩ := h
    exact ⟨_, (pss_one (ps_ost (pv 0) (pv 1))), _, rfl, _, rfl, a, C, rfl, ox, no, .inl ⟨ha, fun dx ndx ne => q dx ndx ne⟩⟩
theorem scI4 : FnScope ["self", "part"] ["self", "part"] (C8.fnScope (sI 4)) := C8.fnScope_by (by decide +kernel)
theorem fI4 (F : C8.Fun K "__init__" (nmC 4 ++ ".__init__") (sI 4) fI fd) : FnOk P w K mg base C8.CX0 1 fI fd ["self", "part"] (spI1 K "part") := by
  refine C8.fn0 F scI4 (fun vs H Q E h => ?_) (fun cdv A outer s H vs Q E hr h => ?_)
  · obtain ⟨a, C, u, rfl, _⟩ := h
    rfl
  · obtain ⟨a, C, u, rfl, ha, ox, no, q⟩ := h
    exact ⟨_, (pss_one (ps_ost (pv 0) (pv 1))), _, rfl, _, rfl, a, C, rfl, ox, no, .inl ⟨ha, fun dx ndx ne => q dx ndx ne⟩⟩
theorem scI5 : FnScope ["self", "part"] ["self", "part"] (C8.fnScope (sI 5)) := C8.fnScope_by (by decide +kernel)
theorem fI5 (F : C8.Fun K "__init__" (nmC 5 ++ ".__init__") (sI 5) fI fd) : FnOk P w K mg base C8.CX0 1 fI fd ["self", "part"] (spI1 K "part") := by
  refine C8.fn0 F scI5 (fun vs H Q E h => ?_) (fun cdv A outer s H vs Q E hr h => ?_)
  · obtain ⟨a, C, u, rfl, _⟩ := h
    rfl
  · obtain ⟨a, C, u, rfl, ha, ox, no, q⟩ := h
    exact ⟨_, (pss_one (ps_ost (pv 0) (pv 1))), _, rfl, _, rfl, a, C, rfl, ox, no, .inl ⟨ha, fun dx ndx ne => q dx ndx ne⟩⟩
theorem scI6 : FnScope ["self", "part"] ["self", "part"] (C8.fnScope (sI 6)) := C8.fnScope_by (by decide +kernel)
theorem fI6 (F : C8.Fun K "__init__" (nmC 6 ++ ".__init__") (sI 6) fI fd) : FnOk P w K mg base C8.CX0 1 fI fd ["self", "part"] (spI1 K "part") := by
  refine C8.fn0 F scI6 (fun vs H Q E h => ?_) (fun cdv A outer s H vs Q E hr h => ?_)
  · obtain ⟨a, C, u, rfl, _⟩ := h
    rfl
  · obtain ⟨a, C, u, rfl, ha, ox, no, q⟩ := h
    exact ⟨_, (pss_one (ps_ost (pv 0) (pv 1))), _, rfl, _, rfl, a, C, rfl, ox, no, .inl ⟨ha, fun dx ndx ne => q dx ndx ne⟩⟩
theorem scI7 : FnScope ["self", "part"] ["self", "part"] (C8.fnScope (sI 7)) := C8.fnScope_by (by decide +kernel)
theorem fI7 (F : C8.Fun K "__init__" (nmC 7 ++ ".__init__") (sI 7) fI fd) : FnOk P w K mg base C8.CX0 1 fI fd ["self", "part"] (spI1 K "part") := by
  refine C8.fn0 F scI7 (fun vs H Q E h => ?_) (fun cdv A outer s H vs Q E hr h => ?_)
  · obtain ⟨a, C, u, rfl, _⟩ := h
    rfl
  · obtain ⟨a, C, u, rfl, ha, ox, no, q⟩ := h
    exact ⟨_, (pss_one (ps_ost (pv 0) (pv 1))), _, rfl, _, rfl, a, C, rfl, ox, no, .inl ⟨ha, fun dx ndx ne => q dx ndx ne⟩⟩
theorem scI8 : FnScope ["self", "part"] ["self", "part"] (C8.fnScope (sI 8)) := C8.fnScope_by (by decide +kernel)
theorem fI8 (F : C8.Fun K "__init__" (nmC 8 ++ ".__init__") (sI 8) fI fd) : FnOk P w K mg base C8.CX0 1 fI fd ["self", "part"] (spI1 K "part") := by
  refine C8.fn0 F scI8 (fun vs H Q E h => ?_) (fun cdv A outer s H vs Q E hr h => ?_)
  · obtain ⟨a, C, u, rfl, _⟩ := h
    rfl
  · obtain ⟨a, C, u, rfl, ha, ox, no, q⟩ := h
    exact ⟨_, (pss_one (ps_ost (pv 0) (pv 1))), _, rfl, _, rfl, a, C, rfl, ox, no, .inl ⟨ha, fun dx ndx ne => q dx ndx ne⟩⟩
theorem scI9 : FnScope ["self", "part"] ["self", "part"] (C8.fnScope (sI 9)) := C8.fnScope_by (by decide +kernel)
theorem fI9 (F : C8.Fun K "__init__" (nmC 9 ++ ".__init__") (sI 9) fI fd) : FnOk P w K mg base C8.CX0 1 fI fd ["self", "part"] (spI1 K "part") := by
  refine C8.fn0 F scI9 (fun vs H Q E h => ?_) (fun cdv A outer s H vs Q E hr h => ?_)
  · obtain ⟨a, C, u, rfl, _⟩ := h
    rfl
  · obtain ⟨a, C, u, rfl, ha, ox, no, q⟩ := h
    exact ⟨_, (pss_one (ps_ost (pv 0) (pv 1))), _, rfl, _, rfl, a, C, rfl, ox, no, .inl ⟨ha, fun dx ndx ne => q dx ndx ne⟩⟩
theorem scI10 : FnScope ["self", "part"] ["self", "part"] (C8.fnScope (sI 10)) := C8.fnScope_by (by decide +kernel)
theorem fI10 (F : C8.Fun K "__init__" (nmC 10 ++ ".__init__") (sI 10) fI fd) : FnOk P w K mg base C8.CX0 1 fI fd ["self", "part"] (spI1 K "part") := by
  refine C8.fn0 F scI10 (fun vs H Q E h => ?_) (fun cdv A outer s H vs Q E hr h => ?_)
  · obtain ⟨a, C, u, rfl, _⟩ := h
    rfl
  · obtain ⟨a, C, u, rfl, ha, ox, no, q⟩ := h
    exact ⟨_, (pss_one (ps_ost (pv 0) (pv 1))), _, rfl, _, rfl, a, C, rfl, ox, no, .inl ⟨ha, fun dx ndx ne => q dx ndx ne⟩⟩
theorem scI11 : FnScope ["self", "part"] ["self", "part"] (C8.fnScope (sI 11)) := C8.fnScope_by (by decide +kernel)
theorem fI11 (F : C8.Fun K "__init__" (nmC 11 ++ ".__init__") (sI 11) fI fd) : FnOk P w K mg base C8.CX0 1 fI fd ["self", "part"] (spI1 K "part") := by
  refine C8.fn0 F scI11 (fun vs H Q E h => ?_) (fun cdv A outer s H vs Q E hr h => ?_)
  · obtain ⟨a, C, u, rfl, _⟩ := h
    rfl
  · obtain ⟨a, C, u, rfl, ha, ox, no, q⟩ := h
    exact ⟨_, (pss_one (ps_ost (pv 0) (pv 1))), _, rfl, _, rfl, a, C, rfl, ox, no, .inl ⟨ha, fun dx ndx ne => q dx ndx ne⟩⟩
theorem scI12 : FnScope ["self", "part"] ["self", "part"] (C8.fnScope (sI 12)) := C8.fnScope_by (by decide +kernel)
theorem fI12 (F : C8.Fun K "__init__" (nmC 12 ++ ".__init__") (sI 12) fI fd) : FnOk P w K mg base C8.CX0 1 fI fd ["self", "part"] (spI1 K "part") := by
  refine C8.fn0 F scI12 (fun vs H Q E h => ?_) (fun cdv A outer s H vs Q E hr h => ?_)
  · obtain ⟨a, C, u, rfl, _⟩ := h
    rfl
  · obtain ⟨a, C, u, rfl, ha, ox, no, q⟩ := h
    exact ⟨_, (pss_one (ps_ost (pv 0) (pv 1))), _, rfl, _, rfl, a, C, rfl, ox, no, .inl ⟨ha, fun dx ndx ne => q dx ndx ne⟩⟩
theorem scI13 : FnScope ["self", "part"] ["self", "part"] (C8.fnScope (sI 13)) := C8.fnScope_by (by decide +kernel)
theorem fI13 (F : C8.Fun K "__init__" (nmC 13 ++ ".__init__") (sI 13) fI fd) : FnOk P w K mg base C8.CX0 1 fI fd ["self", "part"] (spI1 K "part") := by
  refine C8.fn0 F scI13 (fun vs H Q E h => ?_) (fun cdv A outer s H vs Q E hr h => ?_)
  · obtain ⟨a, C, u, rfl, _⟩ := h
    rfl
  · obtain ⟨a, C, u, rfl, ha, ox, no, q⟩ := h
    exact ⟨_, (pss_one (ps_ost (pv 0) (pv 1))), _, rfl, _, rfl, a, C, rfl, ox, no, .inl ⟨ha, fun dx ndx ne => q dx ndx ne⟩⟩
theorem scI14 : FnScope ["self", "part"] ["self", "part"] (C8.fnScope (sI 14)) := C8.fnScope_by (by decide +kernel)
theorem fI14 (F : C8.Fun K "__init__" (nmC 14 ++ ".__init__") (sI 14) fI fd) : FnOk P w K mg base C8.CX0 1 fI fd ["self", "part"] (spI1 K "part") := by
  refine C8.fn0 F scI14 (fun vs H Q E h => ?_) (fun cdv A outer s H vs Q E hr h => ?_)
  · obtain ⟨a, C, u, rfl, _⟩ := h
    rfl
  · obtain ⟨a, C, u, rfl, ha, ox, no, q⟩ := h
    exact ⟨_, (pss_one (ps_ost (pv 0) (pv 1))), _, rfl, _, rfl, a, C, rfl, ox, no, .inl ⟨ha, fun dx ndx ne => q dx ndx ne⟩⟩
theorem scI15 : FnScope ["self", "part"] ["self", "part"] (C8.fnScope (sI 15)) := C8.fnScope_by (by decide +kernel)
theorem fI15 (F : C8.Fun K "__init__" (nmC 15 ++ ".__init__") (sI 15) fI fd) : FnOk P w K mg base C8.CX0 1 fI fd ["self", "part"] (spI1 K "part") := by
  refine C8.fn0 F scI15 (fun vs H Q E h => ?_) (fun cdv A outer s H vs Q E hr h => ?_)
  · obtain ⟨a, C, u, rfl, _⟩ := h
    rfl
  · obtain ⟨a, C, u, rfl, ha, ox, no, q⟩ := h
    exact ⟨_, (pss_one (ps_ost (pv 0) (pv 1))), _, rfl, _, rfl, a, C, rfl, ox, no, .inl ⟨ha, fun dx ndx ne => q dx ndx ne⟩⟩
theorem scI16 : FnScope ["self", "part"] ["self", "part"] (C8.fnScope (sI 16)) := C8.fnScope_by (by decide +kernel)
theorem fI16 (F : C8.Fun K "__init__" (nmC 16 ++ ".__init__") (sI 16) fI fd) : FnOk P w K mg base C8.CX0 1 fI fd ["self", "part"] (spI1 K "part") := by
  refine C8.fn0 F scI16 (fun vs H Q E h => ?_) (fun cdv A outer s H vs Q E hr h => ?_)
  · obtain ⟨a, C, u, rfl, _⟩ := h
    rfl
  · obtain ⟨a, C, u, rfl, ha, ox, no, q⟩ := h
    exact ⟨_, (pss_one (ps_ost (pv 0) (pv 1))), _, rfl, _, rfl, a, C, rfl, ox, no, .inl ⟨ha, fun dx ndx ne => q dx ndx ne⟩⟩
theorem scI17 : FnScope ["self", "part"] ["self", "part"] (C8.fnScope (sI 17)) := C8.fnScope_by (by decide +kernel)
theorem fI17 (F : C8.Fun K "__init__" (nmC 17 ++ ".__init__") (sI 17) fI fd) : FnOk P w K mg base C8.CX0 1 fI fd ["self", "part"] (spI1 K "part") := by
  refine C8.fn0 F scI17 (fun vs H Q E h => ?_) (fun cdv A outer s H vs Q E hr h => ?_)
  · obtain ⟨a, C, u, rfl, _⟩ := h
    rfl
  · obtain ⟨a, C, u, rfl, ha, ox, no, q⟩ := h
    exact ⟨_, (pss_one (ps_ost (pv 0) (pv 1))), _, rfl, _, rfl, a, C, rfl, ox, no, .inl ⟨ha, fun dx ndx ne => q dx ndx ne⟩⟩
theorem scI18 : FnScope ["self", "part"] ["self", "part"] (C8.fnScope (sI 18)) := C8.fnScope_by (by decide +kernel)
theorem fI18 (F : C8.Fun K "__init__" (nmC 18 ++ ".__init__") (sI 18) fI fd) : FnOk P w K mg base C8.CX0 1 fI fd ["self", "part"] (spI1 K "part") := by
  refine C8.fn0 F scI18 (fun vs H Q E h => ?_) (fun cdv A outer s H vs Q E hr h => ?_)
  · obtain ⟨a, C, u, rfl, _⟩ := h
    rfl
  · obtain ⟨a, C, u, rfl, ha, ox, no, q⟩ := h
    exact ⟨_, (pss_one (ps_ost (pv 0) (pv 1))), _, rfl, _, rfl, a, C, rfl, ox, no, .inl ⟨ha, fun dx ndx ne => q dx ndx ne⟩⟩
theorem scI19 : FnScope ["self", "part"] ["self", "part"] (C8.fnScope (sI 19)) := C8.fnScope_by (by decide +kernel)
theorem fI19 (F : C8.Fun K "__init__" (nmC 19 ++ ".__init__") (sI 19) fI fd) : FnOk P w K mg base C8.CX0 1 fI fd ["self", "part"] (spI1 K "part") := by
  refine C8.fn0 F scI19 (fun vs H Q E h => ?_) (fun cdv A outer s H vs Q E hr h => ?_)
  · obtain ⟨a, C, u, rfl, _⟩ := h
    rfl
  · obtain ⟨a, C, u, rfl, ha, ox, no, q⟩ := h
    exact ⟨_, (pss_one (ps_ost (pv 0) (pv 1))), _, rfl, _, rfl, a, C, rfl, ox, no, .inl ⟨ha, fun dx ndx ne => q dx ndx ne⟩⟩
theorem scI20 : FnScope ["self", "part"] ["self", "part"] (C8.fnScope (sI 20)) := C8.fnScope_by (by decide +kernel)
theorem fI20 (F : C8.Fun K "__init__" (nmC 20 ++ ".__init__") (sI 20) fI fd) : FnOk P w K mg base C8.CX0 1 fI fd ["self", "part"] (spI1 K "part") := by
  refine C8.fn0 F scI20 (fun vs H Q E h => ?_) (fun cdv A outer s H vs Q E hr h => ?_)
  · obtain ⟨a, C, u, rfl, _⟩ := h
    rfl
  · obtain ⟨a, C, u, rfl, ha, ox, no, q⟩ := h
    exact ⟨_, (pss_one (ps_ost (pv 0) (pv 1))), _, rfl, _, rfl, a, C, rfl, ox, no, .inl ⟨ha, fun dx ndx ne => q dx ndx ne⟩⟩
theorem scI27 : FnScope ["self", "name"] ["self", "name"] (C8.fnScope (sI 27)) := C8.fnScope_by (by decide +kernel)
theorem fI27 (F : C8.Fun K "__init__" (nmC 27 ++ ".__init__") (sI 27) fI fd) : FnOk P w K mg base C8.CX0 1 fI fd ["self", "name"] (spI1 K "name") := by
  refine C8.fn0 F scI27 (fun vs H Q E h => ?_) (fun cdv A outer s H vs Q E hr h => ?_)
  · obtain ⟨a, C, u, rfl, _⟩ := h
    rfl
  · obtain ⟨a, C, u, rfl, ha, ox, no, q⟩ := h
    exact ⟨_, (pss_one (ps_ost (pv 0) (pv 1))), _, rfl, _, rfl, a, C, rfl, ox, no, .inl ⟨ha, fun dx ndx ne => q dx ndx ne⟩⟩
theorem scI28 : FnScope ["self", "number"] ["self", "number"] (C8.fnScope (sI 28)) := C8.fnScope_by (by decide +kernel)
theorem fI28 (F : C8.Fun K "__init__" (nmC 28 ++ ".__init__") (sI 28) fI fd) : FnOk P w K mg base C8.CX0 1 fI fd ["self", "number"] (spI1 K "number") := by
  refine C8.fn0 F scI28 (fun vs H Q E h => ?_) (fun cdv A outer s H vs Q E hr h => ?_)
  · obtain ⟨a, C, u, rfl, _⟩ := h
    rfl
  · obtain ⟨a, C, u, rfl, ha, ox, no, q⟩ := h
    exact ⟨_, (pss_one (ps_ost (pv 0) (pv 1))), _, rfl, _, rfl, a, C, rfl, ox, no, .inl ⟨ha, fun dx ndx ne => q dx ndx ne⟩⟩
theorem scI29 : FnScope ["self", "why"] ["self", "why"] (C8.fnScope (sI 29)) := C8.fnScope_by (by decide +kernel)
theorem fI29 (F : C8.Fun K "__init__" (nmC 29 ++ ".__init__") (sI 29) fI fd) : FnOk P w K mg base C8.CX0 1 fI fd ["self", "why"] (spI1 K "why") := by
  refine C8.fn0 F scI29 (fun vs H Q E h => ?_) (fun cdv A outer s H vs Q E hr h => ?_)
  · obtain ⟨a, C, u, rfl, _⟩ := h
    rfl
  · obtain ⟨a, C, u, rfl, ha, ox, no, q⟩ := h
    exact ⟨_, (pss_one (ps_ost (pv 0) (pv 1))), _, rfl, _, rfl, a, C, rfl, ox, no, .inl ⟨ha, fun dx ndx ne => q dx ndx ne⟩⟩
theorem scI30 : FnScope ["self", "what"] ["self", "what"] (C8.fnScope (sI 30)) := C8.fnScope_by (by decide +kernel)
theorem fI30 (F : C8.Fun K "__init__" (nmC 30 ++ ".__init__") (sI 30) fI fd) : FnOk P w K mg base C8.CX0 1 fI fd ["self", "what"] (spI1 K "what") := by
  refine C8.fn0 F scI30 (fun vs H Q E h => ?_) (fun cdv A outer s H vs Q E hr h => ?_)
  · obtain ⟨a, C, u, rfl, _⟩ := h
    rfl
  · obtain ⟨a, C, u, rfl, ha, ox, no, q⟩ := h
    exact ⟨_, (pss_one (ps_ost (pv 0) (pv 1))), _, rfl, _, rfl, a, C, rfl, ox, no, .inl ⟨ha, fun dx ndx ne => q dx ndx ne⟩⟩
theorem scI31 : FnScope ["self", "what"] ["self", "what"] (C8.fnScope (sI 31)) := C8.fnScope_by (by decide +kernel)
theorem fI31 (F : C8.Fun K "__init__" (nmC 31 ++ ".__init__") (sI 31) fI fd) : FnOk P w K mg base C8.CX0 1 fI fd ["self", "what"] (spI1 K "what") := by
  refine C8.fn0 F scI31 (fun vs H Q E h => ?_) (fun cdv A outer s H vs Q E hr h => ?_)
  · obtain ⟨a, C, u, rfl, _⟩ := h
    rfl
  · obtain ⟨a, C, u, rfl, ha, ox, no, q⟩ := h
    exact ⟨_, (pss_one (ps_ost (pv 0) (pv 1))), _, rfl, _, rfl, a, C, rfl, ox, no, .inl ⟨ha, fun dx ndx ne => q dx ndx ne⟩⟩
theorem scI32 : FnScope ["self", "sight"] ["self", "sight"] (C8.fnScope (sI 32)) := C8.fnScope_by (by decide +kernel)
theorem fI32 (F : C8.Fun K "__init__" (nmC 32 ++ ".__init__") (sI 32) fI fd) : FnOk P w K mg base C8.CX0 1 fI fd ["self", "sight"] (spI1 K "sight") := by
  refine C8.fn0 F scI32 (fun vs H Q E h => ?_) (fun cdv A outer s H vs Q E hr h => ?_)
  · obtain ⟨a, C, u, rfl, _⟩ := h
    rfl
  · obtain ⟨a, C, u, rfl, ha, ox, no, q⟩ := h
    exact ⟨_, (pss_one (ps_ost (pv 0) (pv 1))), _, rfl, _, rfl, a, C, rfl, ox, no, .inl ⟨ha, fun dx ndx ne => q dx ndx ne⟩⟩
theorem scI33 : FnScope ["self", "page", "sight"] ["self", "page", "sight"] (C8.fnScope (sI 33)) := C8.fnScope_by (by decide +kernel)
theorem fI33 (F : C8.Fun K "__init__" (nmC 33 ++ ".__init__") (sI 33) fI fd) : FnOk P w K mg base C8.CX0 1 fI fd ["self", "page", "sight"] (spI2 K "page" "sight") := by
  refine C8.fn0 F scI33 (fun vs H Q E h => ?_) (fun cdv A outer s H vs Q E hr h => ?_)
  · obtain ⟨a, C, u, v, rfl, _⟩ := h
    rfl
  · obtain ⟨a, C, u, v, rfl, ha, ox, no, no2, q⟩ := h
    refine ⟨_, (pss_cons (ps_ost (pv 0) (pv 1)) (pss_one (ps_ost (pv 0) (pv 2)))), _, rfl, _, rfl, a, C, rfl, ox, no, .inl ⟨ha, fun dx ndx ne => ?_⟩⟩
    refine ⟨_, rfl, _, rfl, a, C, rfl, ox, no2, .inr ⟨dx, [("page", u)], upd_same, (upd_ne ne).trans upd_same, by show 1 ≤ 900; decide, q dx ndx ne⟩⟩
theorem scI34 : FnScope ["self", "state", "place"] ["self", "state", "place"] (C8.fnScope (sI 34)) := C8.fnScope_by (by decide +kernel)
theorem fI34 (F : C8.Fun K "__init__" (nmC 34 ++ ".__init__") (sI 34) fI fd) : FnOk P w K mg base C8.CX0 1 fI fd ["self", "state", "place"] (spI2 K "state" "place") := by
  refine C8.fn0 F scI34 (fun vs H Q E h => ?_) (fun cdv A outer s H vs Q E hr h => ?_)
  · obtain ⟨a, C, u, v, rfl, _⟩ := h
    rfl
  · obtain ⟨a, C, u, v, rfl, ha, ox, no, no2, q⟩ := h
    refine ⟨_, (pss_cons (ps_ost (pv 0) (pv 1)) (pss_one (ps_ost (pv 0) (pv 2)))), _, rfl, _, rfl, a, C, rfl, ox, no, .inl ⟨ha, fun dx ndx ne => ?_⟩⟩
    refine ⟨_, rfl, _, rfl, a, C, rfl, ox, no2, .inr ⟨dx, [("state", u)], upd_same, (upd_ne ne).trans upd_same, by show 1 ≤ 900; decide, q dx ndx ne⟩⟩
theorem scI35 : FnScope ["self", "what", "most"] ["self", "what", "most"] (C8.fnScope (sI 35)) := C8.fnScope_by (by decide +kernel)
theorem fI35 (F : C8.Fun K "__init__" (nmC 35 ++ ".__init__") (sI 35) fI fd) : FnOk P w K mg base C8.CX0 1 fI fd ["self", "what", "most"] (spI2 K "what" "most") := by
  refine C8.fn0 F scI35 (fun vs H Q E h => ?_) (fun cdv A outer s H vs Q E hr h => ?_)
  · obtain ⟨a, C, u, v, rfl, _⟩ := h
    rfl
  · obtain ⟨a, C, u, v, rfl, ha, ox, no, no2, q⟩ := h
    refine ⟨_, (pss_cons (ps_ost (pv 0) (pv 1)) (pss_one (ps_ost (pv 0) (pv 2)))), _, rfl, _, rfl, a, C, rfl, ox, no, .inl ⟨ha, fun dx ndx ne => ?_⟩⟩
    refine ⟨_, rfl, _, rfl, a, C, rfl, ox, no2, .inr ⟨dx, [("what", u)], upd_same, (upd_ne ne).trans upd_same, by show 1 ≤ 900; decide, q dx ndx ne⟩⟩
theorem scI36 : FnScope ["self", "line", "word"] ["self", "line", "word"] (C8.fnScope (sI 36)) := C8.fnScope_by (by decide +kernel)
theorem fI36 (F : C8.Fun K "__init__" (nmC 36 ++ ".__init__") (sI 36) fI fd) : FnOk P w K mg base C8.CX0 1 fI fd ["self", "line", "word"] (spI2 K "line" "word") := by
  refine C8.fn0 F scI36 (fun vs H Q E h => ?_) (fun cdv A outer s H vs Q E hr h => ?_)
  · obtain ⟨a, C, u, v, rfl, _⟩ := h
    rfl
  · obtain ⟨a, C, u, v, rfl, ha, ox, no, no2, q⟩ := h
    refine ⟨_, (pss_cons (ps_ost (pv 0) (pv 1)) (pss_one (ps_ost (pv 0) (pv 2)))), _, rfl, _, rfl, a, C, rfl, ox, no, .inl ⟨ha, fun dx ndx ne => ?_⟩⟩
    refine ⟨_, rfl, _, rfl, a, C, rfl, ox, no2, .inr ⟨dx, [("line", u)], upd_same, (upd_ne ne).trans upd_same, by show 1 ≤ 900; decide, q dx ndx ne⟩⟩
theorem scI37 : FnScope ["self", "line", "error"] ["self", "line", "error"] (C8.fnScope (sI 37)) := C8.fnScope_by (by decide +kernel)
theorem fI37 (F : C8.Fun K "__init__" (nmC 37 ++ ".__init__") (sI 37) fI fd) : FnOk P w K mg base C8.CX0 1 fI fd ["self", "line", "error"] (spI2 K "line" "error") := by
  refine C8.fn0 F scI37 (fun vs H Q E h => ?_) (fun cdv A outer s H vs Q E hr h => ?_)
  · obtain ⟨a, C, u, v, rfl, _⟩ := h
    rfl
  · obtain ⟨a, C, u, v, rfl, ha, ox, no, no2, q⟩ := h
    refine ⟨_, (pss_cons (ps_ost (pv 0) (pv 1)) (pss_one (ps_ost (pv 0) (pv 2)))), _, rfl, _, rfl, a, C, rfl, ox, no, .inl ⟨ha, fun dx ndx ne => ?_⟩⟩
    refine ⟨_, rfl, _, rfl, a, C, rfl, ox, no2, .inr ⟨dx, [("line", u)], upd_same, (upd_ne ne).trans upd_same, by show 1 ≤ 900; decide, q dx ndx ne⟩⟩
theorem scI40 : FnScope ["self", "name"] ["self", "name"] (C8.fnScope (sI 40)) := C8.fnScope_by (by decide +kernel)
theorem fI40 (F : C8.Fun K "__init__" (nmC 40 ++ ".__init__") (sI 40) fI fd) : FnOk P w K mg base C8.CX0 1 fI fd ["self", "name"] (spI1 K "name") := by
  refine C8.fn0 F scI40 (fun vs H Q E h => ?_) (fun cdv A outer s H vs Q E hr h => ?_)
  · obtain ⟨a, C, u, rfl, _⟩ := h
    rfl
  · obtain ⟨a, C, u, rfl, ha, ox, no, q⟩ := h
    exact ⟨_, (pss_one (ps_ost (pv 0) (pv 1))), _, rfl, _, rfl, a, C, rfl, ox, no, .inl ⟨ha, fun dx ndx ne => q dx ndx ne⟩⟩
theorem mkP0 (Z : Tz K mg c f) : Mke P w K mg base "BadWorld" (c 0) 1 [] (fun vs _ => fsV ["part"] vs) := by
  obtain ⟨fd, F, df⟩ := Z.fn 0 (by decide) rfl
  obtain ⟨oc, od, dV, kV, doc, pm, an, cdv, ct, osl, rfl, lk, hcd⟩ := id F.ex
  obtain rfl : dV = .none := df
  exact mkeP1 (Z.ec 0 (by decide)) (Z.g 0 (by decide)) (Z.ini 0 (by decide) rfl) (Z.ti 0 (by decide) rfl) (Z.no 0 (by decide) "part" (by decide)) (fI0 F) ⟨fun s us ws _ l1 l2 => match us, ws, l1, l2 with | [_, _], [], _, _ => .of_eq rfl, fun r _ => r⟩
theorem mkK0 (Z : Tz K mg c f) : Mke P w K mg base "BadWorld" (c 0) 0 ["part"] (fun _ zs => fsV ["part"] zs) := by
  obtain ⟨fd, F, df⟩ := Z.fn 0 (by decide) rfl
  obtain ⟨oc, od, dV, kV, doc, pm, an, cdv, ct, osl, rfl, lk, hcd⟩ := id F.ex
  obtain rfl : dV = .none := df
  exact mkeK1 (Z.ec 0 (by decide)) (Z.g 0 (by decide)) (Z.ini 0 (by decide) rfl) (Z.ti 0 (by decide) rfl) (Z.no 0 (by decide) "part" (by decide)) (fI0 F) ⟨fun s us ws _ l1 l2 => match us, ws, l1, l2 with | [_], [_], _, _ => .of_eq rfl, fun r z => r.append z⟩
theorem mkP1 (Z : Tz K mg c f) : Mke P w K mg base "BadBlur" (c 1) 1 [] (fun vs _ => fsV ["part"] vs) := by
  obtain ⟨fd, F, df⟩ := Z.fn 1 (by decide) rfl
  obtain ⟨oc, od, dV, kV, doc, pm, an, cdv, ct, osl, rfl, lk, hcd⟩ := id F.ex
  obtain rfl : dV = .none := df
  exact mkeP1 (Z.ec 1 (by decide)) (Z.g 1 (by decide)) (Z.ini 1 (by decide) rfl) (Z.ti 1 (by decide) rfl) (Z.no 1 (by decide) "part" (by decide)) (fI1 F) ⟨fun s us ws _ l1 l2 => match us, ws, l1, l2 with | [_, _], [], _, _ => .of_eq rfl, fun r _ => r⟩
theorem mkK1 (Z : Tz K mg c f) : Mke P w K mg base "BadBlur" (c 1) 0 ["part"] (fun _ zs => fsV ["part"] zs) := by
  obtain ⟨fd, F, df⟩ := Z.fn 1 (by decide) rfl
  obtain ⟨oc, od, dV, kV, doc, pm, an, cdv, ct, osl, rfl, lk, hcd⟩ := id F.ex
  obtain rfl : dV = .none := df
  exact mkeK1 (Z.ec 1 (by decide)) (Z.g 1 (by decide)) (Z.ini 1 (by decide) rfl) (Z.ti 1 (by decide) rfl) (Z.no 1 (by decide) "part" (by decide)) (fI1 F) ⟨fun s us ws _ l1 l2 => match us, ws, l1, l2 with | [_], [_], _, _ => .of_eq rfl, fun r z => r.append z⟩
theorem mkP2 (Z : Tz K mg c f) : Mke P w K mg base "BadWatch" (c 2) 1 [] (fun vs _ => fsV ["part"] vs) := by
  obtain ⟨fd, F, df⟩ := Z.fn 2 (by decide) rfl
  obtain ⟨oc, od, dV, kV, doc, pm, an, cdv, ct, osl, rfl, lk, hcd⟩ := id F.ex
  obtain rfl : dV = .none := df
  exact mkeP1 (Z.ec 2 (by decide)) (Z.g 2 (by decide)) (Z.ini 2 (by decide) rfl) (Z.ti 2 (by decide) rfl) (Z.no 2 (by decide) "part" (by decide)) (fI2 F) ⟨fun s us ws _ l1 l2 => match us, ws, l1, l2 with | [_, _], [], _, _ => .of_eq rfl, fun r _ => r⟩
theorem mkK2 (Z : Tz K mg c f) : Mke P w K mg base "BadWatch" (c 2) 0 ["part"] (fun _ zs => fsV ["part"] zs) := by
  obtain ⟨fd, F, df⟩ := Z.fn 2 (by decide) rfl
  obtain ⟨oc, od, dV, kV, doc, pm, an, cdv, ct, osl, rfl, lk, hcd⟩ := id F.ex
  obtain rfl : dV = .none := df
  exact mkeK1 (Z.ec 2 (by decide)) (Z.g 2 (by decide)) (Z.ini 2 (by decide) rfl) (Z.ti 2 (by decide) rfl) (Z.no 2 (by decide) "part" (by decide)) (fI2 F) ⟨fun s us ws _ l1 l2 => match us, ws, l1, l2 with | [_], [_], _, _ => .of_eq rfl, fun r z => r.append z⟩
theorem mkP3 (Z : Tz K mg c f) : Mke P w K mg base "BadTask" (c 3) 1 [] (fun vs _ => fsV ["part"] vs) := by
  obtain ⟨fd, F, df⟩ := Z.fn 3 (by decide) rfl
  obtain ⟨oc, od, dV, kV, doc, pm, an, cdv, ct, osl, rfl, lk, hcd⟩ := id F.ex
  obtain rfl : dV = .none := df
  exact mkeP1 (Z.ec 3 (by decide)) (Z.g 3 (by decide)) (Z.ini 3 (by decide) rfl) (Z.ti 3 (by decide) rfl) (Z.no 3 (by decide) "part" (by decide)) (fI3 F) ⟨fun s us ws _ l1 l2 => match us, ws, l1, l2 with | [_, _], [], _, _ => .of_eq rfl, fun r _ => r⟩
theorem mkK3 (Z : Tz K mg c f) : Mke P w K mg base "BadTask" (c 3) 0 ["part"] (fun _ zs => fsV ["part"] zs) := by
  obtain ⟨fd, F, df⟩ := Z.fn 3 (by decide) rfl
  obtain ⟨oc, od, dV, kV, doc, pm, an, cdv, ct, osl, rfl, lk, hcd⟩ := id F.ex
  obtain rfl : dV = .none := df
  exact mkeK1 (Z.ec 3 (by decide)) (Z.g 3 (by decide)) (Z.ini 3 (by decide) rfl) (Z.ti 3 (by decide) rfl) (Z.no 3 (by decide) "part" (by decide)) (fI3 F) ⟨fun s us ws _ l1 l2 => match us, ws, l1, l2 with | [_], [_], _, _ => .of_eq rfl, fun r z => r.append z⟩
theorem mkP4 (Z : Tz K mg c f) : Mke P w K mg base "BadStanding" (c 4) 1 [] (fun vs _ => fsV ["part"] vs) := by
  obtain ⟨fd, F, df⟩ := Z.fn 4 (by decide) rfl
  obtain ⟨oc, od, dV, kV, doc, pm, an, cdv, ct, osl, rfl, lk, hcd⟩ := id F.ex
  obtain rfl : dV = .none := df
  exact mkeP1 (Z.ec 4 (by decide)) (Z.g 4 (by decide)) (Z.ini 4 (by decide) rfl) (Z.ti 4 (by decide) rfl) (Z.no 4 (by decide) "part" (by decide)) (fI4 F) ⟨fun s us ws _ l1 l2 => match us, ws, l1, l2 with | [_, _], [], _, _ => .of_eq rfl, fun r _ => r⟩
theorem mkK4 (Z : Tz K mg c f) : Mke P w K mg base "BadStanding" (c 4) 0 ["part"] (fun _ zs => fsV ["part"] zs) := by
  obtain ⟨fd, F, df⟩ := Z.fn 4 (by decide) rfl
  obtain ⟨oc, od, dV, kV, doc, pm, an, cdv, ct, osl, rfl, lk, hcd⟩ := id F.ex
  obtain rfl : dV = .none := df
  exact mkeK1 (Z.ec 4 (by decide)) (Z.g 4 (by decide)) (Z.ini 4 (by decide) rfl) (Z.ti 4 (by decide) rfl) (Z.no 4 (by decide) "part" (by decide)) (fI4 F) ⟨fun s us ws _ l1 l2 => match us, ws, l1, l2 with | [_], [_], _, _ => .of_eq rfl, fun r z => r.append z⟩
theorem mkP5 (Z : Tz K mg c f) : Mke P w K mg base "BadTable" (c 5) 1 [] (fun vs _ => fsV ["part"] vs) := by
  obtain ⟨fd, F, df⟩ := Z.fn 5 (by decide) rfl
  obtain ⟨oc, od, dV, kV, doc, pm, an, cdv, ct, osl, rfl, lk, hcd⟩ := id F.ex
  obtain rfl : dV = .none := df
  exact mkeP1 (Z.ec 5 (by decide)) (Z.g 5 (by decide)) (Z.ini 5 (by decide) rfl) (Z.ti 5 (by decide) rfl) (Z.no 5 (by decide) "part" (by decide)) (fI5 F) ⟨fun s us ws _ l1 l2 => match us, ws, l1, l2 with | [_, _], [], _, _ => .of_eq rfl, fun r _ => r⟩
theorem mkK5 (Z : Tz K mg c f) : Mke P w K mg base "BadTable" (c 5) 0 ["part"] (fun _ zs => fsV ["part"] zs) := by
  obtain ⟨fd, F, df⟩ := Z.fn 5 (by decide) rfl
  obtain ⟨oc, od, dV, kV, doc, pm, an, cdv, ct, osl, rfl, lk, hcd⟩ := id F.ex
  obtain rfl : dV = .none := df
  exact mkeK1 (Z.ec 5 (by decide)) (Z.g 5 (by decide)) (Z.ini 5 (by decide) rfl) (Z.ti 5 (by decide) rfl) (Z.no 5 (by decide) "part" (by decide)) (fI5 F) ⟨fun s us ws _ l1 l2 => match us, ws, l1, l2 with | [_], [_], _, _ => .of_eq rfl, fun r z => r.append z⟩
theorem mkP6 (Z : Tz K mg c f) : Mke P w K mg base "BadPlay" (c 6) 1 [] (fun vs _ => fsV ["part"] vs) := by
  obtain ⟨fd, F, df⟩ := Z.fn 6 (by decide) rfl
  obtain ⟨oc, od, dV, kV, doc, pm, an, cdv, ct, osl, rfl, lk, hcd⟩ := id F.ex
  obtain rfl : dV = .none := df
  exact mkeP1 (Z.ec 6 (by decide)) (Z.g 6 (by decide)) (Z.ini 6 (by decide) rfl) (Z.ti 6 (by decide) rfl) (Z.no 6 (by decide) "part" (by decide)) (fI6 F) ⟨fun s us ws _ l1 l2 => match us, ws, l1, l2 with | [_, _], [], _, _ => .of_eq rfl, fun r _ => r⟩
theorem mkK6 (Z : Tz K mg c f) : Mke P w K mg base "BadPlay" (c 6) 0 ["part"] (fun _ zs => fsV ["part"] zs) := by
  obtain ⟨fd, F, df⟩ := Z.fn 6 (by decide) rfl
  obtain ⟨oc, od, dV, kV, doc, pm, an, cdv, ct, osl, rfl, lk, hcd⟩ := id F.ex
  obtain rfl : dV = .none := df
  exact mkeK1 (Z.ec 6 (by decide)) (Z.g 6 (by decide)) (Z.ini 6 (by decide) rfl) (Z.ti 6 (by decide) rfl) (Z.no 6 (by decide) "part" (by decide)) (fI6 F) ⟨fun s us ws _ l1 l2 => match us, ws, l1, l2 with | [_], [_], _, _ => .of_eq rfl, fun r z => r.append z⟩
theorem mkP7 (Z : Tz K mg c f) : Mke P w K mg base "BadView" (c 7) 1 [] (fun vs _ => fsV ["part"] vs) := by
  obtain ⟨fd, F, df⟩ := Z.fn 7 (by decide) rfl
  obtain ⟨oc, od, dV, kV, doc, pm, an, cdv, ct, osl, rfl, lk, hcd⟩ := id F.ex
  obtain rfl : dV = .none := df
  exact mkeP1 (Z.ec 7 (by decide)) (Z.g 7 (by decide)) (Z.ini 7 (by decide) rfl) (Z.ti 7 (by decide) rfl) (Z.no 7 (by decide) "part" (by decide)) (fI7 F) ⟨fun s us ws _ l1 l2 => match us, ws, l1, l2 with | [_, _], [], _, _ => .of_eq rfl, fun r _ => r⟩
theorem mkK7 (Z : Tz K mg c f) : Mke P w K mg base "BadView" (c 7) 0 ["part"] (fun _ zs => fsV ["part"] zs) := by
  obtain ⟨fd, F, df⟩ := Z.fn 7 (by decide) rfl
  obtain ⟨oc, od, dV, kV, doc, pm, an, cdv, ct, osl, rfl, lk, hcd⟩ := id F.ex
  obtain rfl : dV = .none := df
  exact mkeK1 (Z.ec 7 (by decide)) (Z.g 7 (by decide)) (Z.ini 7 (by decide) rfl) (Z.ti 7 (by decide) rfl) (Z.no 7 (by decide) "part" (by decide)) (fI7 F) ⟨fun s us ws _ l1 l2 => match us, ws, l1, l2 with | [_], [_], _, _ => .of_eq rfl, fun r z => r.append z⟩
theorem mkP8 (Z : Tz K mg c f) : Mke P w K mg base "BadLog" (c 8) 1 [] (fun vs _ => fsV ["part"] vs) := by
  obtain ⟨fd, F, df⟩ := Z.fn 8 (by decide) rfl
  obtain ⟨oc, od, dV, kV, doc, pm, an, cdv, ct, osl, rfl, lk, hcd⟩ := id F.ex
  obtain rfl : dV = .none := df
  exact mkeP1 (Z.ec 8 (by decide)) (Z.g 8 (by decide)) (Z.ini 8 (by decide) rfl) (Z.ti 8 (by decide) rfl) (Z.no 8 (by decide) "part" (by decide)) (fI8 F) ⟨fun s us ws _ l1 l2 => match us, ws, l1, l2 with | [_, _], [], _, _ => .of_eq rfl, fun r _ => r⟩
theorem mkK8 (Z : Tz K mg c f) : Mke P w K mg base "BadLog" (c 8) 0 ["part"] (fun _ zs => fsV ["part"] zs) := by
  obtain ⟨fd, F, df⟩ := Z.fn 8 (by decide) rfl
  obtain ⟨oc, od, dV, kV, doc, pm, an, cdv, ct, osl, rfl, lk, hcd⟩ := id F.ex
  obtain rfl : dV = .none := df
  exact mkeK1 (Z.ec 8 (by decide)) (Z.g 8 (by decide)) (Z.ini 8 (by decide) rfl) (Z.ti 8 (by decide) rfl) (Z.no 8 (by decide) "part" (by decide)) (fI8 F) ⟨fun s us ws _ l1 l2 => match us, ws, l1, l2 with | [_], [_], _, _ => .of_eq rfl, fun r z => r.append z⟩
theorem mkP9 (Z : Tz K mg c f) : Mke P w K mg base "BadTree" (c 9) 1 [] (fun vs _ => fsV ["part"] vs) := by
  obtain ⟨fd, F, df⟩ := Z.fn 9 (by decide) rfl
  obtain ⟨oc, od, dV, kV, doc, pm, an, cdv, ct, osl, rfl, lk, hcd⟩ := id F.ex
  obtain rfl : dV = .none := df
  exact mkeP1 (Z.ec 9 (by decide)) (Z.g 9 (by decide)) (Z.ini 9 (by decide) rfl) (Z.ti 9 (by decide) rfl) (Z.no 9 (by decide) "part" (by decide)) (fI9 F) ⟨fun s us ws _ l1 l2 => match us, ws, l1, l2 with | [_, _], [], _, _ => .of_eq rfl, fun r _ => r⟩
theorem mkK9 (Z : Tz K mg c f) : Mke P w K mg base "BadTree" (c 9) 0 ["part"] (fun _ zs => fsV ["part"] zs) := by
  obtain ⟨fd, F, df⟩ := Z.fn 9 (by decide) rfl
  obtain ⟨oc, od, dV, kV, doc, pm, an, cdv, ct, osl, rfl, lk, hcd⟩ := id F.ex
  obtain rfl : dV = .none := df
  exact mkeK1 (Z.ec 9 (by decide)) (Z.g 9 (by decide)) (Z.ini 9 (by decide) rfl) (Z.ti 9 (by decide) rfl) (Z.no 9 (by decide) "part" (by decide)) (fI9 F) ⟨fun s us ws _ l1 l2 => match us, ws, l1, l2 with | [_], [_], _, _ => .of_eq rfl, fun r z => r.append z⟩
theorem mkP10 (Z : Tz K mg c f) : Mke P w K mg base "BadRow" (c 10) 1 [] (fun vs _ => fsV ["part"] vs) := by
  obtain ⟨fd, F, df⟩ := Z.fn 10 (by decide) rfl
  obtain ⟨oc, od, dV, kV, doc, pm, an, cdv, ct, osl, rfl, lk, hcd⟩ := id F.ex
  obtain rfl : dV = .none := df
  exact mkeP1 (Z.ec 10 (by decide)) (Z.g 10 (by decide)) (Z.ini 10 (by decide) rfl) (Z.ti 10 (by decide) rfl) (Z.no 10 (by decide) "part" (by decide)) (fI10 F) ⟨fun s us ws _ l1 l2 => match us, ws, l1, l2 with | [_, _], [], _, _ => .of_eq rfl, fun r _ => r⟩
theorem mkK10 (Z : Tz K mg c f) : Mke P w K mg base "BadRow" (c 10) 0 ["part"] (fun _ zs => fsV ["part"] zs) := by
  obtain ⟨fd, F, df⟩ := Z.fn 10 (by decide) rfl
  obtain ⟨oc, od, dV, kV, doc, pm, an, cdv, ct, osl, rfl, lk, hcd⟩ := id F.ex
  obtain rfl : dV = .none := df
  exact mkeK1 (Z.ec 10 (by decide)) (Z.g 10 (by decide)) (Z.ini 10 (by decide) rfl) (Z.ti 10 (by decide) rfl) (Z.no 10 (by decide) "part" (by decide)) (fI10 F) ⟨fun s us ws _ l1 l2 => match us, ws, l1, l2 with | [_], [_], _, _ => .of_eq rfl, fun r z => r.append z⟩
theorem mkP11 (Z : Tz K mg c f) : Mke P w K mg base "BadGroups" (c 11) 1 [] (fun vs _ => fsV ["part"] vs) := by
  obtain ⟨fd, F, df⟩ := Z.fn 11 (by decide) rfl
  obtain ⟨oc, od, dV, kV, doc, pm, an, cdv, ct, osl, rfl, lk, hcd⟩ := id F.ex
  obtain rfl : dV = .none := df
  exact mkeP1 (Z.ec 11 (by decide)) (Z.g 11 (by decide)) (Z.ini 11 (by decide) rfl) (Z.ti 11 (by decide) rfl) (Z.no 11 (by decide) "part" (by decide)) (fI11 F) ⟨fun s us ws _ l1 l2 => match us, ws, l1, l2 with | [_, _], [], _, _ => .of_eq rfl, fun r _ => r⟩
theorem mkK11 (Z : Tz K mg c f) : Mke P w K mg base "BadGroups" (c 11) 0 ["part"] (fun _ zs => fsV ["part"] zs) := by
  obtain ⟨fd, F, df⟩ := Z.fn 11 (by decide) rfl
  obtain ⟨oc, od, dV, kV, doc, pm, an, cdv, ct, osl, rfl, lk, hcd⟩ := id F.ex
  obtain rfl : dV = .none := df
  exact mkeK1 (Z.ec 11 (by decide)) (Z.g 11 (by decide)) (Z.ini 11 (by decide) rfl) (Z.ti 11 (by decide) rfl) (Z.no 11 (by decide) "part" (by decide)) (fI11 F) ⟨fun s us ws _ l1 l2 => match us, ws, l1, l2 with | [_], [_], _, _ => .of_eq rfl, fun r z => r.append z⟩
theorem mkP12 (Z : Tz K mg c f) : Mke P w K mg base "BadWait" (c 12) 1 [] (fun vs _ => fsV ["part"] vs) := by
  obtain ⟨fd, F, df⟩ := Z.fn 12 (by decide) rfl
  obtain ⟨oc, od, dV, kV, doc, pm, an, cdv, ct, osl, rfl, lk, hcd⟩ := id F.ex
  obtain rfl : dV = .none := df
  exact mkeP1 (Z.ec 12 (by decide)) (Z.g 12 (by decide)) (Z.ini 12 (by decide) rfl) (Z.ti 12 (by decide) rfl) (Z.no 12 (by decide) "part" (by decide)) (fI12 F) ⟨fun s us ws _ l1 l2 => match us, ws, l1, l2 with | [_, _], [], _, _ => .of_eq rfl, fun r _ => r⟩
theorem mkK12 (Z : Tz K mg c f) : Mke P w K mg base "BadWait" (c 12) 0 ["part"] (fun _ zs => fsV ["part"] zs) := by
  obtain ⟨fd, F, df⟩ := Z.fn 12 (by decide) rfl
  obtain ⟨oc, od, dV, kV, doc, pm, an, cdv, ct, osl, rfl, lk, hcd⟩ := id F.ex
  obtain rfl : dV = .none := df
  exact mkeK1 (Z.ec 12 (by decide)) (Z.g 12 (by decide)) (Z.ini 12 (by decide) rfl) (Z.ti 12 (by decide) rfl) (Z.no 12 (by decide) "part" (by decide)) (fI12 F) ⟨fun s us ws _ l1 l2 => match us, ws, l1, l2 with | [_], [_], _, _ => .of_eq rfl, fun r z => r.append z⟩
theorem mkP13 (Z : Tz K mg c f) : Mke P w K mg base "BadSmudges" (c 13) 1 [] (fun vs _ => fsV ["part"] vs) := by
  obtain ⟨fd, F, df⟩ := Z.fn 13 (by decide) rfl
  obtain ⟨oc, od, dV, kV, doc, pm, an, cdv, ct, osl, rfl, lk, hcd⟩ := id F.ex
  obtain rfl : dV = .none := df
  exact mkeP1 (Z.ec 13 (by decide)) (Z.g 13 (by decide)) (Z.ini 13 (by decide) rfl) (Z.ti 13 (by decide) rfl) (Z.no 13 (by decide) "part" (by decide)) (fI13 F) ⟨fun s us ws _ l1 l2 => match us, ws, l1, l2 with | [_, _], [], _, _ => .of_eq rfl, fun r _ => r⟩
theorem mkK13 (Z : Tz K mg c f) : Mke P w K mg base "BadSmudges" (c 13) 0 ["part"] (fun _ zs => fsV ["part"] zs) := by
  obtain ⟨fd, F, df⟩ := Z.fn 13 (by decide) rfl
  obtain ⟨oc, od, dV, kV, doc, pm, an, cdv, ct, osl, rfl, lk, hcd⟩ := id F.ex
  obtain rfl : dV = .none := df
  exact mkeK1 (Z.ec 13 (by decide)) (Z.g 13 (by decide)) (Z.ini 13 (by decide) rfl) (Z.ti 13 (by decide) rfl) (Z.no 13 (by decide) "part" (by decide)) (fI13 F) ⟨fun s us ws _ l1 l2 => match us, ws, l1, l2 with | [_], [_], _, _ => .of_eq rfl, fun r z => r.append z⟩
theorem mkP14 (Z : Tz K mg c f) : Mke P w K mg base "BadRoster" (c 14) 1 [] (fun vs _ => fsV ["part"] vs) := by
  obtain ⟨fd, F, df⟩ := Z.fn 14 (by decide) rfl
  obtain ⟨oc, od, dV, kV, doc, pm, an, cdv, ct, osl, rfl, lk, hcd⟩ := id F.ex
  obtain rfl : dV = .none := df
  exact mkeP1 (Z.ec 14 (by decide)) (Z.g 14 (by decide)) (Z.ini 14 (by decide) rfl) (Z.ti 14 (by decide) rfl) (Z.no 14 (by decide) "part" (by decide)) (fI14 F) ⟨fun s us ws _ l1 l2 => match us, ws, l1, l2 with | [_, _], [], _, _ => .of_eq rfl, fun r _ => r⟩
theorem mkK14 (Z : Tz K mg c f) : Mke P w K mg base "BadRoster" (c 14) 0 ["part"] (fun _ zs => fsV ["part"] zs) := by
  obtain ⟨fd, F, df⟩ := Z.fn 14 (by decide) rfl
  obtain ⟨oc, od, dV, kV, doc, pm, an, cdv, ct, osl, rfl, lk, hcd⟩ := id F.ex
  obtain rfl : dV = .none := df
  exact mkeK1 (Z.ec 14 (by decide)) (Z.g 14 (by decide)) (Z.ini 14 (by decide) rfl) (Z.ti 14 (by decide) rfl) (Z.no 14 (by decide) "part" (by decide)) (fI14 F) ⟨fun s us ws _ l1 l2 => match us, ws, l1, l2 with | [_], [_], _, _ => .of_eq rfl, fun r z => r.append z⟩
theorem mkP15 (Z : Tz K mg c f) : Mke P w K mg base "BadFog" (c 15) 1 [] (fun vs _ => fsV ["part"] vs) := by
  obtain ⟨fd, F, df⟩ := Z.fn 15 (by decide) rfl
  obtain ⟨oc, od, dV, kV, doc, pm, an, cdv, ct, osl, rfl, lk, hcd⟩ := id F.ex
  obtain rfl : dV = .none := df
  exact mkeP1 (Z.ec 15 (by decide)) (Z.g 15 (by decide)) (Z.ini 15 (by decide) rfl) (Z.ti 15 (by decide) rfl) (Z.no 15 (by decide) "part" (by decide)) (fI15 F) ⟨fun s us ws _ l1 l2 => match us, ws, l1, l2 with | [_, _], [], _, _ => .of_eq rfl, fun r _ => r⟩
theorem mkK15 (Z : Tz K mg c f) : Mke P w K mg base "BadFog" (c 15) 0 ["part"] (fun _ zs => fsV ["part"] zs) := by
  obtain ⟨fd, F, df⟩ := Z.fn 15 (by decide) rfl
  obtain ⟨oc, od, dV, kV, doc, pm, an, cdv, ct, osl, rfl, lk, hcd⟩ := id F.ex
  obtain rfl : dV = .none := df
  exact mkeK1 (Z.ec 15 (by decide)) (Z.g 15 (by decide)) (Z.ini 15 (by decide) rfl) (Z.ti 15 (by decide) rfl) (Z.no 15 (by decide) "part" (by decide)) (fI15 F) ⟨fun s us ws _ l1 l2 => match us, ws, l1, l2 with | [_], [_], _, _ => .of_eq rfl, fun r z => r.append z⟩
theorem mkP16 (Z : Tz K mg c f) : Mke P w K mg base "BadFront" (c 16) 1 [] (fun vs _ => fsV ["part"] vs) := by
  obtain ⟨fd, F, df⟩ := Z.fn 16 (by decide) rfl
  obtain ⟨oc, od, dV, kV, doc, pm, an, cdv, ct, osl, rfl, lk, hcd⟩ := id F.ex
  obtain rfl : dV = .none := df
  exact mkeP1 (Z.ec 16 (by decide)) (Z.g 16 (by decide)) (Z.ini 16 (by decide) rfl) (Z.ti 16 (by decide) rfl) (Z.no 16 (by decide) "part" (by decide)) (fI16 F) ⟨fun s us ws _ l1 l2 => match us, ws, l1, l2 with | [_, _], [], _, _ => .of_eq rfl, fun r _ => r⟩
theorem mkK16 (Z : Tz K mg c f) : Mke P w K mg base "BadFront" (c 16) 0 ["part"] (fun _ zs => fsV ["part"] zs) := by
  obtain ⟨fd, F, df⟩ := Z.fn 16 (by decide) rfl
  obtain ⟨oc, od, dV, kV, doc, pm, an, cdv, ct, osl, rfl, lk, hcd⟩ := id F.ex
  obtain rfl : dV = .none := df
  exact mkeK1 (Z.ec 16 (by decide)) (Z.g 16 (by decide)) (Z.ini 16 (by decide) rfl) (Z.ti 16 (by decide) rfl) (Z.no 16 (by decide) "part" (by decide)) (fI16 F) ⟨fun s us ws _ l1 l2 => match us, ws, l1, l2 with | [_], [_], _, _ => .of_eq rfl, fun r z => r.append z⟩
theorem mkP17 (Z : Tz K mg c f) : Mke P w K mg base "BadHall" (c 17) 1 [] (fun vs _ => fsV ["part"] vs) := by
  obtain ⟨fd, F, df⟩ := Z.fn 17 (by decide) rfl
  obtain ⟨oc, od, dV, kV, doc, pm, an, cdv, ct, osl, rfl, lk, hcd⟩ := id F.ex
  obtain rfl : dV = .none := df
  exact mkeP1 (Z.ec 17 (by decide)) (Z.g 17 (by decide)) (Z.ini 17 (by decide) rfl) (Z.ti 17 (by decide) rfl) (Z.no 17 (by decide) "part" (by decide)) (fI17 F) ⟨fun s us ws _ l1 l2 => match us, ws, l1, l2 with | [_, _], [], _, _ => .of_eq rfl, fun r _ => r⟩
theorem mkK17 (Z : Tz K mg c f) : Mke P w K mg base "BadHall" (c 17) 0 ["part"] (fun _ zs => fsV ["part"] zs) := by
  obtain ⟨fd, F, df⟩ := Z.fn 17 (by decide) rfl
  obtain ⟨oc, od, dV, kV, doc, pm, an, cdv, ct, osl, rfl, lk, hcd⟩ := id F.ex
  obtain rfl : dV = .none := df
  exact mkeK1 (Z.ec 17 (by decide)) (Z.g 17 (by decide)) (Z.ini 17 (by decide) rfl) (Z.ti 17 (by decide) rfl) (Z.no 17 (by decide) "part" (by decide)) (fI17 F) ⟨fun s us ws _ l1 l2 => match us, ws, l1, l2 with | [_], [_], _, _ => .of_eq rfl, fun r z => r.append z⟩
theorem mkP18 (Z : Tz K mg c f) : Mke P w K mg base "BadStory" (c 18) 1 [] (fun vs _ => fsV ["part"] vs) := by
  obtain ⟨fd, F, df⟩ := Z.fn 18 (by decide) rfl
  obtain ⟨oc, od, dV, kV, doc, pm, an, cdv, ct, osl, rfl, lk, hcd⟩ := id F.ex
  obtain rfl : dV = .none := df
  exact mkeP1 (Z.ec 18 (by decide)) (Z.g 18 (by decide)) (Z.ini 18 (by decide) rfl) (Z.ti 18 (by decide) rfl) (Z.no 18 (by decide) "part" (by decide)) (fI18 F) ⟨fun s us ws _ l1 l2 => match us, ws, l1, l2 with | [_, _], [], _, _ => .of_eq rfl, fun r _ => r⟩
theorem mkK18 (Z : Tz K mg c f) : Mke P w K mg base "BadStory" (c 18) 0 ["part"] (fun _ zs => fsV ["part"] zs) := by
  obtain ⟨fd, F, df⟩ := Z.fn 18 (by decide) rfl
  obtain ⟨oc, od, dV, kV, doc, pm, an, cdv, ct, osl, rfl, lk, hcd⟩ := id F.ex
  obtain rfl : dV = .none := df
  exact mkeK1 (Z.ec 18 (by decide)) (Z.g 18 (by decide)) (Z.ini 18 (by decide) rfl) (Z.ti 18 (by decide) rfl) (Z.no 18 (by decide) "part" (by decide)) (fI18 F) ⟨fun s us ws _ l1 l2 => match us, ws, l1, l2 with | [_], [_], _, _ => .of_eq rfl, fun r z => r.append z⟩
theorem mkP19 (Z : Tz K mg c f) : Mke P w K mg base "BadNumbers" (c 19) 1 [] (fun vs _ => fsV ["part"] vs) := by
  obtain ⟨fd, F, df⟩ := Z.fn 19 (by decide) rfl
  obtain ⟨oc, od, dV, kV, doc, pm, an, cdv, ct, osl, rfl, lk, hcd⟩ := id F.ex
  obtain rfl : dV = .none := df
  exact mkeP1 (Z.ec 19 (by decide)) (Z.g 19 (by decide)) (Z.ini 19 (by decide) rfl) (Z.ti 19 (by decide) rfl) (Z.no 19 (by decide) "part" (by decide)) (fI19 F) ⟨fun s us ws _ l1 l2 => match us, ws, l1, l2 with | [_, _], [], _, _ => .of_eq rfl, fun r _ => r⟩
theorem mkK19 (Z : Tz K mg c f) : Mke P w K mg base "BadNumbers" (c 19) 0 ["part"] (fun _ zs => fsV ["part"] zs) := by
  obtain ⟨fd, F, df⟩ := Z.fn 19 (by decide) rfl
  obtain ⟨oc, od, dV, kV, doc, pm, an, cdv, ct, osl, rfl, lk, hcd⟩ := id F.ex
  obtain rfl : dV = .none := df
  exact mkeK1 (Z.ec 19 (by decide)) (Z.g 19 (by decide)) (Z.ini 19 (by decide) rfl) (Z.ti 19 (by decide) rfl) (Z.no 19 (by decide) "part" (by decide)) (fI19 F) ⟨fun s us ws _ l1 l2 => match us, ws, l1, l2 with | [_], [_], _, _ => .of_eq rfl, fun r z => r.append z⟩
theorem mkP20 (Z : Tz K mg c f) : Mke P w K mg base "BadPaper" (c 20) 1 [] (fun vs _ => fsV ["part"] vs) := by
  obtain ⟨fd, F, df⟩ := Z.fn 20 (by decide) rfl
  obtain ⟨oc, od, dV, kV, doc, pm, an, cdv, ct, osl, rfl, lk, hcd⟩ := id F.ex
  obtain rfl : dV = .none := df
  exact mkeP1 (Z.ec 20 (by decide)) (Z.g 20 (by decide)) (Z.ini 20 (by decide) rfl) (Z.ti 20 (by decide) rfl) (Z.no 20 (by decide) "part" (by decide)) (fI20 F) ⟨fun s us ws _ l1 l2 => match us, ws, l1, l2 with | [_, _], [], _, _ => .of_eq rfl, fun r _ => r⟩
theorem mkK20 (Z : Tz K mg c f) : Mke P w K mg base "BadPaper" (c 20) 0 ["part"] (fun _ zs => fsV ["part"] zs) := by
  obtain ⟨fd, F, df⟩ := Z.fn 20 (by decide) rfl
  obtain ⟨oc, od, dV, kV, doc, pm, an, cdv, ct, osl, rfl, lk, hcd⟩ := id F.ex
  obtain rfl : dV = .none := df
  exact mkeK1 (Z.ec 20 (by decide)) (Z.g 20 (by decide)) (Z.ini 20 (by decide) rfl) (Z.ti 20 (by decide) rfl) (Z.no 20 (by decide) "part" (by decide)) (fI20 F) ⟨fun s us ws _ l1 l2 => match us, ws, l1, l2 with | [_], [_], _, _ => .of_eq rfl, fun r z => r.append z⟩
theorem mkP21 (Z : Tz K mg c f) : Mke P w K mg base "NoState" (c 21) 1 [] (fun vs _ => fsV ["name"] vs) := by
  obtain ⟨fd, F, df⟩ := Z.fn 40 (by decide) rfl
  obtain ⟨oc, od, dV, kV, doc, pm, an, cdv, ct, osl, rfl, lk, hcd⟩ := id F.ex
  obtain rfl : dV = .none := df
  exact mkeP1 (Z.ec 21 (by decide)) (Z.g 21 (by decide)) (Z.ini 21 (by decide) rfl) (Z.ti 40 (by decide) rfl) (Z.no 21 (by decide) "name" (by decide)) (fI40 F) ⟨fun s us ws _ l1 l2 => match us, ws, l1, l2 with | [_, _], [], _, _ => .of_eq rfl, fun r _ => r⟩
theorem mkK21 (Z : Tz K mg c f) : Mke P w K mg base "NoState" (c 21) 0 ["name"] (fun _ zs => fsV ["name"] zs) := by
  obtain ⟨fd, F, df⟩ := Z.fn 40 (by decide) rfl
  obtain ⟨oc, od, dV, kV, doc, pm, an, cdv, ct, osl, rfl, lk, hcd⟩ := id F.ex
  obtain rfl : dV = .none := df
  exact mkeK1 (Z.ec 21 (by decide)) (Z.g 21 (by decide)) (Z.ini 21 (by decide) rfl) (Z.ti 40 (by decide) rfl) (Z.no 21 (by decide) "name" (by decide)) (fI40 F) ⟨fun s us ws _ l1 l2 => match us, ws, l1, l2 with | [_], [_], _, _ => .of_eq rfl, fun r z => r.append z⟩
theorem mkP22 (Z : Tz K mg c f) : Mke P w K mg base "NoLabel" (c 22) 1 [] (fun vs _ => fsV ["name"] vs) := by
  obtain ⟨fd, F, df⟩ := Z.fn 40 (by decide) rfl
  obtain ⟨oc, od, dV, kV, doc, pm, an, cdv, ct, osl, rfl, lk, hcd⟩ := id F.ex
  obtain rfl : dV = .none := df
  exact mkeP1 (Z.ec 22 (by decide)) (Z.g 22 (by decide)) (Z.ini 22 (by decide) rfl) (Z.ti 40 (by decide) rfl) (Z.no 22 (by decide) "name" (by decide)) (fI40 F) ⟨fun s us ws _ l1 l2 => match us, ws, l1, l2 with | [_, _], [], _, _ => .of_eq rfl, fun r _ => r⟩
theorem mkK22 (Z : Tz K mg c f) : Mke P w K mg base "NoLabel" (c 22) 0 ["name"] (fun _ zs => fsV ["name"] zs) := by
  obtain ⟨fd, F, df⟩ := Z.fn 40 (by decide) rfl
  obtain ⟨oc, od, dV, kV, doc, pm, an, cdv, ct, osl, rfl, lk, hcd⟩ := id F.ex
  obtain rfl : dV = .none := df
  exact mkeK1 (Z.ec 22 (by decide)) (Z.g 22 (by decide)) (Z.ini 22 (by decide) rfl) (Z.ti 40 (by decide) rfl) (Z.no 22 (by decide) "name" (by decide)) (fI40 F) ⟨fun s us ws _ l1 l2 => match us, ws, l1, l2 with | [_], [_], _, _ => .of_eq rfl, fun r z => r.append z⟩
theorem mkP23 (Z : Tz K mg c f) : Mke P w K mg base "NoDeed" (c 23) 1 [] (fun vs _ => fsV ["name"] vs) := by
  obtain ⟨fd, F, df⟩ := Z.fn 40 (by decide) rfl
  obtain ⟨oc, od, dV, kV, doc, pm, an, cdv, ct, osl, rfl, lk, hcd⟩ := id F.ex
  obtain rfl : dV = .none := df
  exact mkeP1 (Z.ec 23 (by decide)) (Z.g 23 (by decide)) (Z.ini 23 (by decide) rfl) (Z.ti 40 (by decide) rfl) (Z.no 23 (by decide) "name" (by decide)) (fI40 F) ⟨fun s us ws _ l1 l2 => match us, ws, l1, l2 with | [_, _], [], _, _ => .of_eq rfl, fun r _ => r⟩
theorem mkK23 (Z : Tz K mg c f) : Mke P w K mg base "NoDeed" (c 23) 0 ["name"] (fun _ zs => fsV ["name"] zs) := by
  obtain ⟨fd, F, df⟩ := Z.fn 40 (by decide) rfl
  obtain ⟨oc, od, dV, kV, doc, pm, an, cdv, ct, osl, rfl, lk, hcd⟩ := id F.ex
  obtain rfl : dV = .none := df
  exact mkeK1 (Z.ec 23 (by decide)) (Z.g 23 (by decide)) (Z.ini 23 (by decide) rfl) (Z.ti 40 (by decide) rfl) (Z.no 23 (by decide) "name" (by decide)) (fI40 F) ⟨fun s us ws _ l1 l2 => match us, ws, l1, l2 with | [_], [_], _, _ => .of_eq rfl, fun r z => r.append z⟩
theorem mkP24 (Z : Tz K mg c f) : Mke P w K mg base "NoSight" (c 24) 1 [] (fun vs _ => fsV ["name"] vs) := by
  obtain ⟨fd, F, df⟩ := Z.fn 40 (by decide) rfl
  obtain ⟨oc, od, dV, kV, doc, pm, an, cdv, ct, osl, rfl, lk, hcd⟩ := id F.ex
  obtain rfl : dV = .none := df
  exact mkeP1 (Z.ec 24 (by decide)) (Z.g 24 (by decide)) (Z.ini 24 (by decide) rfl) (Z.ti 40 (by decide) rfl) (Z.no 24 (by decide) "name" (by decide)) (fI40 F) ⟨fun s us ws _ l1 l2 => match us, ws, l1, l2 with | [_, _], [], _, _ => .of_eq rfl, fun r _ => r⟩
theorem mkK24 (Z : Tz K mg c f) : Mke P w K mg base "NoSight" (c 24) 0 ["name"] (fun _ zs => fsV ["name"] zs) := by
  obtain ⟨fd, F, df⟩ := Z.fn 40 (by decide) rfl
  obtain ⟨oc, od, dV, kV, doc, pm, an, cdv, ct, osl, rfl, lk, hcd⟩ := id F.ex
  obtain rfl : dV = .none := df
  exact mkeK1 (Z.ec 24 (by decide)) (Z.g 24 (by decide)) (Z.ini 24 (by decide) rfl) (Z.ti 40 (by decide) rfl) (Z.no 24 (by decide) "name" (by decide)) (fI40 F) ⟨fun s us ws _ l1 l2 => match us, ws, l1, l2 with | [_], [_], _, _ => .of_eq rfl, fun r z => r.append z⟩
theorem mkP25 (Z : Tz K mg c f) : Mke P w K mg base "NoWatchState" (c 25) 1 [] (fun vs _ => fsV ["name"] vs) := by
  obtain ⟨fd, F, df⟩ := Z.fn 40 (by decide) rfl
  obtain ⟨oc, od, dV, kV, doc, pm, an, cdv, ct, osl, rfl, lk, hcd⟩ := id F.ex
  obtain rfl : dV = .none := df
  exact mkeP1 (Z.ec 25 (by decide)) (Z.g 25 (by decide)) (Z.ini 25 (by decide) rfl) (Z.ti 40 (by decide) rfl) (Z.no 25 (by decide) "name" (by decide)) (fI40 F) ⟨fun s us ws _ l1 l2 => match us, ws, l1, l2 with | [_, _], [], _, _ => .of_eq rfl, fun r _ => r⟩
theorem mkK25 (Z : Tz K mg c f) : Mke P w K mg base "NoWatchState" (c 25) 0 ["name"] (fun _ zs => fsV ["name"] zs) := by
  obtain ⟨fd, F, df⟩ := Z.fn 40 (by decide) rfl
  obtain ⟨oc, od, dV, kV, doc, pm, an, cdv, ct, osl, rfl, lk, hcd⟩ := id F.ex
  obtain rfl : dV = .none := df
  exact mkeK1 (Z.ec 25 (by decide)) (Z.g 25 (by decide)) (Z.ini 25 (by decide) rfl) (Z.ti 40 (by decide) rfl) (Z.no 25 (by decide) "name" (by decide)) (fI40 F) ⟨fun s us ws _ l1 l2 => match us, ws, l1, l2 with | [_], [_], _, _ => .of_eq rfl, fun r z => r.append z⟩
theorem mkP26 (Z : Tz K mg c f) : Mke P w K mg base "NoName" (c 26) 1 [] (fun vs _ => fsV ["name"] vs) := by
  obtain ⟨fd, F, df⟩ := Z.fn 40 (by decide) rfl
  obtain ⟨oc, od, dV, kV, doc, pm, an, cdv, ct, osl, rfl, lk, hcd⟩ := id F.ex
  obtain rfl : dV = .none := df
  exact mkeP1 (Z.ec 26 (by decide)) (Z.g 26 (by decide)) (Z.ini 26 (by decide) rfl) (Z.ti 40 (by decide) rfl) (Z.no 26 (by decide) "name" (by decide)) (fI40 F) ⟨fun s us ws _ l1 l2 => match us, ws, l1, l2 with | [_, _], [], _, _ => .of_eq rfl, fun r _ => r⟩
theorem mkK26 (Z : Tz K mg c f) : Mke P w K mg base "NoName" (c 26) 0 ["name"] (fun _ zs => fsV ["name"] zs) := by
  obtain ⟨fd, F, df⟩ := Z.fn 40 (by decide) rfl
  obtain ⟨oc, od, dV, kV, doc, pm, an, cdv, ct, osl, rfl, lk, hcd⟩ := id F.ex
  obtain rfl : dV = .none := df
  exact mkeK1 (Z.ec 26 (by decide)) (Z.g 26 (by decide)) (Z.ini 26 (by decide) rfl) (Z.ti 40 (by decide) rfl) (Z.no 26 (by decide) "name" (by decide)) (fI40 F) ⟨fun s us ws _ l1 l2 => match us, ws, l1, l2 with | [_], [_], _, _ => .of_eq rfl, fun r z => r.append z⟩
theorem mkP27 (Z : Tz K mg c f) : Mke P w K mg base "Twice" (c 27) 1 [] (fun vs _ => fsV ["name"] vs) := by
  obtain ⟨fd, F, df⟩ := Z.fn 27 (by decide) rfl
  obtain ⟨oc, od, dV, kV, doc, pm, an, cdv, ct, osl, rfl, lk, hcd⟩ := id F.ex
  obtain rfl : dV = .none := df
  exact mkeP1 (Z.ec 27 (by decide)) (Z.g 27 (by decide)) (Z.ini 27 (by decide) rfl) (Z.ti 27 (by decide) rfl) (Z.no 27 (by decide) "name" (by decide)) (fI27 F) ⟨fun s us ws _ l1 l2 => match us, ws, l1, l2 with | [_, _], [], _, _ => .of_eq rfl, fun r _ => r⟩
theorem mkK27 (Z : Tz K mg c f) : Mke P w K mg base "Twice" (c 27) 0 ["name"] (fun _ zs => fsV ["name"] zs) := by
  obtain ⟨fd, F, df⟩ := Z.fn 27 (by decide) rfl
  obtain ⟨oc, od, dV, kV, doc, pm, an, cdv, ct, osl, rfl, lk, hcd⟩ := id F.ex
  obtain rfl : dV = .none := df
  exact mkeK1 (Z.ec 27 (by decide)) (Z.g 27 (by decide)) (Z.ini 27 (by decide) rfl) (Z.ti 27 (by decide) rfl) (Z.no 27 (by decide) "name" (by decide)) (fI27 F) ⟨fun s us ws _ l1 l2 => match us, ws, l1, l2 with | [_], [_], _, _ => .of_eq rfl, fun r z => r.append z⟩
theorem mkP28 (Z : Tz K mg c f) : Mke P w K mg base "NoTable" (c 28) 1 [] (fun vs _ => fsV ["number"] vs) := by
  obtain ⟨fd, F, df⟩ := Z.fn 28 (by decide) rfl
  obtain ⟨oc, od, dV, kV, doc, pm, an, cdv, ct, osl, rfl, lk, hcd⟩ := id F.ex
  obtain rfl : dV = .none := df
  exact mkeP1 (Z.ec 28 (by decide)) (Z.g 28 (by decide)) (Z.ini 28 (by decide) rfl) (Z.ti 28 (by decide) rfl) (Z.no 28 (by decide) "number" (by decide)) (fI28 F) ⟨fun s us ws _ l1 l2 => match us, ws, l1, l2 with | [_, _], [], _, _ => .of_eq rfl, fun r _ => r⟩
theorem mkK28 (Z : Tz K mg c f) : Mke P w K mg base "NoTable" (c 28) 0 ["number"] (fun _ zs => fsV ["number"] zs) := by
  obtain ⟨fd, F, df⟩ := Z.fn 28 (by decide) rfl
  obtain ⟨oc, od, dV, kV, doc, pm, an, cdv, ct, osl, rfl, lk, hcd⟩ := id F.ex
  obtain rfl : dV = .none := df
  exact mkeK1 (Z.ec 28 (by decide)) (Z.g 28 (by decide)) (Z.ini 28 (by decide) rfl) (Z.ti 28 (by decide) rfl) (Z.no 28 (by decide) "number" (by decide)) (fI28 F) ⟨fun s us ws _ l1 l2 => match us, ws, l1, l2 with | [_], [_], _, _ => .of_eq rfl, fun r z => r.append z⟩
theorem mkP29 (Z : Tz K mg c f) : Mke P w K mg base "NotKept" (c 29) 1 [] (fun vs _ => fsV ["why"] vs) := by
  obtain ⟨fd, F, df⟩ := Z.fn 29 (by decide) rfl
  obtain ⟨oc, od, dV, kV, doc, pm, an, cdv, ct, osl, rfl, lk, hcd⟩ := id F.ex
  obtain rfl : dV = .none := df
  exact mkeP1 (Z.ec 29 (by decide)) (Z.g 29 (by decide)) (Z.ini 29 (by decide) rfl) (Z.ti 29 (by decide) rfl) (Z.no 29 (by decide) "why" (by decide)) (fI29 F) ⟨fun s us ws _ l1 l2 => match us, ws, l1, l2 with | [_, _], [], _, _ => .of_eq rfl, fun r _ => r⟩
theorem mkK29 (Z : Tz K mg c f) : Mke P w K mg base "NotKept" (c 29) 0 ["why"] (fun _ zs => fsV ["why"] zs) := by
  obtain ⟨fd, F, df⟩ := Z.fn 29 (by decide) rfl
  obtain ⟨oc, od, dV, kV, doc, pm, an, cdv, ct, osl, rfl, lk, hcd⟩ := id F.ex
  obtain rfl : dV = .none := df
  exact mkeK1 (Z.ec 29 (by decide)) (Z.g 29 (by decide)) (Z.ini 29 (by decide) rfl) (Z.ti 29 (by decide) rfl) (Z.no 29 (by decide) "why" (by decide)) (fI29 F) ⟨fun s us ws _ l1 l2 => match us, ws, l1, l2 with | [_], [_], _, _ => .of_eq rfl, fun r z => r.append z⟩
theorem mkP30 (Z : Tz K mg c f) : Mke P w K mg base "Unlike" (c 30) 1 [] (fun vs _ => fsV ["what"] vs) := by
  obtain ⟨fd, F, df⟩ := Z.fn 30 (by decide) rfl
  obtain ⟨oc, od, dV, kV, doc, pm, an, cdv, ct, osl, rfl, lk, hcd⟩ := id F.ex
  obtain rfl : dV = .none := df
  exact mkeP1 (Z.ec 30 (by decide)) (Z.g 30 (by decide)) (Z.ini 30 (by decide) rfl) (Z.ti 30 (by decide) rfl) (Z.no 30 (by decide) "what" (by decide)) (fI30 F) ⟨fun s us ws _ l1 l2 => match us, ws, l1, l2 with | [_, _], [], _, _ => .of_eq rfl, fun r _ => r⟩
theorem mkK30 (Z : Tz K mg c f) : Mke P w K mg base "Unlike" (c 30) 0 ["what"] (fun _ zs => fsV ["what"] zs) := by
  obtain ⟨fd, F, df⟩ := Z.fn 30 (by decide) rfl
  obtain ⟨oc, od, dV, kV, doc, pm, an, cdv, ct, osl, rfl, lk, hcd⟩ := id F.ex
  obtain rfl : dV = .none := df
  exact mkeK1 (Z.ec 30 (by decide)) (Z.g 30 (by decide)) (Z.ini 30 (by decide) rfl) (Z.ti 30 (by decide) rfl) (Z.no 30 (by decide) "what" (by decide)) (fI30 F) ⟨fun s us ws _ l1 l2 => match us, ws, l1, l2 with | [_], [_], _, _ => .of_eq rfl, fun r z => r.append z⟩
theorem mkP31 (Z : Tz K mg c f) : Mke P w K mg base "NotNow" (c 31) 1 [] (fun vs _ => fsV ["what"] vs) := by
  obtain ⟨fd, F, df⟩ := Z.fn 31 (by decide) rfl
  obtain ⟨oc, od, dV, kV, doc, pm, an, cdv, ct, osl, rfl, lk, hcd⟩ := id F.ex
  obtain rfl : dV = .none := df
  exact mkeP1 (Z.ec 31 (by decide)) (Z.g 31 (by decide)) (Z.ini 31 (by decide) rfl) (Z.ti 31 (by decide) rfl) (Z.no 31 (by decide) "what" (by decide)) (fI31 F) ⟨fun s us ws _ l1 l2 => match us, ws, l1, l2 with | [_, _], [], _, _ => .of_eq rfl, fun r _ => r⟩
theorem mkK31 (Z : Tz K mg c f) : Mke P w K mg base "NotNow" (c 31) 0 ["what"] (fun _ zs => fsV ["what"] zs) := by
  obtain ⟨fd, F, df⟩ := Z.fn 31 (by decide) rfl
  obtain ⟨oc, od, dV, kV, doc, pm, an, cdv, ct, osl, rfl, lk, hcd⟩ := id F.ex
  obtain rfl : dV = .none := df
  exact mkeK1 (Z.ec 31 (by decide)) (Z.g 31 (by decide)) (Z.ini 31 (by decide) rfl) (Z.ti 31 (by decide) rfl) (Z.no 31 (by decide) "what" (by decide)) (fI31 F) ⟨fun s us ws _ l1 l2 => match us, ws, l1, l2 with | [_], [_], _, _ => .of_eq rfl, fun r z => r.append z⟩
theorem mkP32 (Z : Tz K mg c f) : Mke P w K mg base "NoWay" (c 32) 1 [] (fun vs _ => fsV ["sight"] vs) := by
  obtain ⟨fd, F, df⟩ := Z.fn 32 (by decide) rfl
  obtain ⟨oc, od, dV, kV, doc, pm, an, cdv, ct, osl, rfl, lk, hcd⟩ := id F.ex
  obtain rfl : dV = .none := df
  exact mkeP1 (Z.ec 32 (by decide)) (Z.g 32 (by decide)) (Z.ini 32 (by decide) rfl) (Z.ti 32 (by decide) rfl) (Z.no 32 (by decide) "sight" (by decide)) (fI32 F) ⟨fun s us ws _ l1 l2 => match us, ws, l1, l2 with | [_, _], [], _, _ => .of_eq rfl, fun r _ => r⟩
theorem mkK32 (Z : Tz K mg c f) : Mke P w K mg base "NoWay" (c 32) 0 ["sight"] (fun _ zs => fsV ["sight"] zs) := by
  obtain ⟨fd, F, df⟩ := Z.fn 32 (by decide) rfl
  obtain ⟨oc, od, dV, kV, doc, pm, an, cdv, ct, osl, rfl, lk, hcd⟩ := id F.ex
  obtain rfl : dV = .none := df
  exact mkeK1 (Z.ec 32 (by decide)) (Z.g 32 (by decide)) (Z.ini 32 (by decide) rfl) (Z.ti 32 (by decide) rfl) (Z.no 32 (by decide) "sight" (by decide)) (fI32 F) ⟨fun s us ws _ l1 l2 => match us, ws, l1, l2 with | [_], [_], _, _ => .of_eq rfl, fun r z => r.append z⟩
theorem mkP33 (Z : Tz K mg c f) : Mke P w K mg base "NoEntry" (c 33) 2 [] (fun vs _ => fsV ["page", "sight"] vs) := by
  obtain ⟨fd, F, df⟩ := Z.fn 33 (by decide) rfl
  obtain ⟨oc, od, dV, kV, doc, pm, an, cdv, ct, osl, rfl, lk, hcd⟩ := id F.ex
  obtain rfl : dV = .none := df
  exact mkeP2 (Z.ec 33 (by decide)) (Z.g 33 (by decide)) (Z.ini 33 (by decide) rfl) (Z.ti 33 (by decide) rfl) (Z.no 33 (by decide) "page" (by decide)) (Z.no 33 (by decide) "sight" (by decide)) (fI33 F) ⟨fun s us ws _ l1 l2 => match us, ws, l1, l2 with | [_, _, _], [], _, _ => .of_eq rfl, fun r _ => r⟩
theorem mkK33 (Z : Tz K mg c f) : Mke P w K mg base "NoEntry" (c 33) 0 ["sight", "page"] (fun _ zs => fsV ["page", "sight"] zs.reverse) := by
  obtain ⟨fd, F, df⟩ := Z.fn 33 (by decide) rfl
  obtain ⟨oc, od, dV, kV, doc, pm, an, cdv, ct, osl, rfl, lk, hcd⟩ := id F.ex
  obtain rfl : dV = .none := df
  exact mkeK2 (Z.ec 33 (by decide)) (Z.g 33 (by decide)) (Z.ini 33 (by decide) rfl) (Z.ti 33 (by decide) rfl) (Z.no 33 (by decide) "page" (by decide)) (Z.no 33 (by decide) "sight" (by decide)) (fI33 F) ⟨fun s us ws _ l1 l2 => match us, ws, l1, l2 with | [_], [_, _], _, _ => .of_eq rfl, fun r z => r.append (vals_rev z)⟩
theorem mkP34 (Z : Tz K mg c f) : Mke P w K mg base "Breaks" (c 34) 2 [] (fun vs _ => fsV ["state", "place"] vs) := by
  obtain ⟨fd, F, df⟩ := Z.fn 34 (by decide) rfl
  obtain ⟨oc, od, dV, kV, doc, pm, an, cdv, ct, osl, rfl, lk, hcd⟩ := id F.ex
  obtain rfl : dV = .none := df
  exact mkeP2 (Z.ec 34 (by decide)) (Z.g 34 (by decide)) (Z.ini 34 (by decide) rfl) (Z.ti 34 (by decide) rfl) (Z.no 34 (by decide) "state" (by decide)) (Z.no 34 (by decide) "place" (by decide)) (fI34 F) ⟨fun s us ws _ l1 l2 => match us, ws, l1, l2 with | [_, _, _], [], _, _ => .of_eq rfl, fun r _ => r⟩
theorem mkK34 (Z : Tz K mg c f) : Mke P w K mg base "Breaks" (c 34) 0 ["place", "state"] (fun _ zs => fsV ["state", "place"] zs.reverse) := by
  obtain ⟨fd, F, df⟩ := Z.fn 34 (by decide) rfl
  obtain ⟨oc, od, dV, kV, doc, pm, an, cdv, ct, osl, rfl, lk, hcd⟩ := id F.ex
  obtain rfl : dV = .none := df
  exact mkeK2 (Z.ec 34 (by decide)) (Z.g 34 (by decide)) (Z.ini 34 (by decide) rfl) (Z.ti 34 (by decide) rfl) (Z.no 34 (by decide) "state" (by decide)) (Z.no 34 (by decide) "place" (by decide)) (fI34 F) ⟨fun s us ws _ l1 l2 => match us, ws, l1, l2 with | [_], [_, _], _, _ => .of_eq rfl, fun r z => r.append (vals_rev z)⟩
theorem mkP35 (Z : Tz K mg c f) : Mke P w K mg base "TooMany" (c 35) 2 [] (fun vs _ => fsV ["what", "most"] vs) := by
  obtain ⟨fd, F, df⟩ := Z.fn 35 (by decide) rfl
  obtain ⟨oc, od, dV, kV, doc, pm, an, cdv, ct, osl, rfl, lk, hcd⟩ := id F.ex
  obtain rfl : dV = .none := df
  exact mkeP2 (Z.ec 35 (by decide)) (Z.g 35 (by decide)) (Z.ini 35 (by decide) rfl) (Z.ti 35 (by decide) rfl) (Z.no 35 (by decide) "what" (by decide)) (Z.no 35 (by decide) "most" (by decide)) (fI35 F) ⟨fun s us ws _ l1 l2 => match us, ws, l1, l2 with | [_, _, _], [], _, _ => .of_eq rfl, fun r _ => r⟩
theorem mkK35 (Z : Tz K mg c f) : Mke P w K mg base "TooMany" (c 35) 0 ["most", "what"] (fun _ zs => fsV ["what", "most"] zs.reverse) := by
  obtain ⟨fd, F, df⟩ := Z.fn 35 (by decide) rfl
  obtain ⟨oc, od, dV, kV, doc, pm, an, cdv, ct, osl, rfl, lk, hcd⟩ := id F.ex
  obtain rfl : dV = .none := df
  exact mkeK2 (Z.ec 35 (by decide)) (Z.g 35 (by decide)) (Z.ini 35 (by decide) rfl) (Z.ti 35 (by decide) rfl) (Z.no 35 (by decide) "what" (by decide)) (Z.no 35 (by decide) "most" (by decide)) (fI35 F) ⟨fun s us ws _ l1 l2 => match us, ws, l1, l2 with | [_], [_, _], _, _ => .of_eq rfl, fun r z => r.append (vals_rev z)⟩
theorem mkP36 (Z : Tz K mg c f) : Mke P w K mg base "BadText" (c 36) 2 [] (fun vs _ => fsV ["line", "word"] vs) := by
  obtain ⟨fd, F, df⟩ := Z.fn 36 (by decide) rfl
  obtain ⟨oc, od, dV, kV, doc, pm, an, cdv, ct, osl, rfl, lk, hcd⟩ := id F.ex
  obtain rfl : dV = .none := df
  exact mkeP2 (Z.ec 36 (by decide)) (Z.g 36 (by decide)) (Z.ini 36 (by decide) rfl) (Z.ti 36 (by decide) rfl) (Z.no 36 (by decide) "line" (by decide)) (Z.no 36 (by decide) "word" (by decide)) (fI36 F) ⟨fun s us ws _ l1 l2 => match us, ws, l1, l2 with | [_, _, _], [], _, _ => .of_eq rfl, fun r _ => r⟩
theorem mkK36 (Z : Tz K mg c f) : Mke P w K mg base "BadText" (c 36) 0 ["word", "line"] (fun _ zs => fsV ["line", "word"] zs.reverse) := by
  obtain ⟨fd, F, df⟩ := Z.fn 36 (by decide) rfl
  obtain ⟨oc, od, dV, kV, doc, pm, an, cdv, ct, osl, rfl, lk, hcd⟩ := id F.ex
  obtain rfl : dV = .none := df
  exact mkeK2 (Z.ec 36 (by decide)) (Z.g 36 (by decide)) (Z.ini 36 (by decide) rfl) (Z.ti 36 (by decide) rfl) (Z.no 36 (by decide) "line" (by decide)) (Z.no 36 (by decide) "word" (by decide)) (fI36 F) ⟨fun s us ws _ l1 l2 => match us, ws, l1, l2 with | [_], [_, _], _, _ => .of_eq rfl, fun r z => r.append (vals_rev z)⟩
theorem mkP37 (Z : Tz K mg c f) : Mke P w K mg base "BadLine" (c 37) 2 [] (fun vs _ => fsV ["line", "error"] vs) := by
  obtain ⟨fd, F, df⟩ := Z.fn 37 (by decide) rfl
  obtain ⟨oc, od, dV, kV, doc, pm, an, cdv, ct, osl, rfl, lk, hcd⟩ := id F.ex
  obtain rfl : dV = .none := df
  exact mkeP2 (Z.ec 37 (by decide)) (Z.g 37 (by decide)) (Z.ini 37 (by decide) rfl) (Z.ti 37 (by decide) rfl) (Z.no 37 (by decide) "line" (by decide)) (Z.no 37 (by decide) "error" (by decide)) (fI37 F) ⟨fun s us ws _ l1 l2 => match us, ws, l1, l2 with | [_, _, _], [], _, _ => .of_eq rfl, fun r _ => r⟩
theorem mkK37 (Z : Tz K mg c f) : Mke P w K mg base "BadLine" (c 37) 0 ["error", "line"] (fun _ zs => fsV ["line", "error"] zs.reverse) := by
  obtain ⟨fd, F, df⟩ := Z.fn 37 (by decide) rfl
  obtain ⟨oc, od, dV, kV, doc, pm, an, cdv, ct, osl, rfl, lk, hcd⟩ := id F.ex
  obtain rfl : dV = .none := df
  exact mkeK2 (Z.ec 37 (by decide)) (Z.g 37 (by decide)) (Z.ini 37 (by decide) rfl) (Z.ti 37 (by decide) rfl) (Z.no 37 (by decide) "line" (by decide)) (Z.no 37 (by decide) "error" (by decide)) (fI37 F) ⟨fun s us ws _ l1 l2 => match us, ws, l1, l2 with | [_], [_, _], _, _ => .of_eq rfl, fun r z => r.append (vals_rev z)⟩
theorem mkP40 (Z : Tz K mg c f) : Mke P w K mg base "Missing" (c 40) 1 [] (fun vs _ => fsV ["name"] vs) := by
  obtain ⟨fd, F, df⟩ := Z.fn 40 (by decide) rfl
  obtain ⟨oc, od, dV, kV, doc, pm, an, cdv, ct, osl, rfl, lk, hcd⟩ := id F.ex
  obtain rfl : dV = .none := df
  exact mkeP1 (Z.ec 40 (by decide)) (Z.g 40 (by decide)) (Z.ini 40 (by decide) rfl) (Z.ti 40 (by decide) rfl) (Z.no 40 (by decide) "name" (by decide)) (fI40 F) ⟨fun s us ws _ l1 l2 => match us, ws, l1, l2 with | [_, _], [], _, _ => .of_eq rfl, fun r _ => r⟩
theorem mkK40 (Z : Tz K mg c f) : Mke P w K mg base "Missing" (c 40) 0 ["name"] (fun _ zs => fsV ["name"] zs) := by
  obtain ⟨fd, F, df⟩ := Z.fn 40 (by decide) rfl
  obtain ⟨oc, od, dV, kV, doc, pm, an, cdv, ct, osl, rfl, lk, hcd⟩ := id F.ex
  obtain rfl : dV = .none := df
  exact mkeK1 (Z.ec 40 (by decide)) (Z.g 40 (by decide)) (Z.ini 40 (by decide) rfl) (Z.ti 40 (by decide) rfl) (Z.no 40 (by decide) "name" (by decide)) (fI40 F) ⟨fun s us ws _ l1 l2 => match us, ws, l1, l2 with | [_], [_], _, _ => .of_eq rfl, fun r z => r.append z⟩
end
end K00

set_option Elab.async false
set_option linter.all false
set_option maxRecDepth 100000
set_option maxHeartbeats 1000000
namespace K00
open PySem PySem.Spec PyProof.Rows L2 Gd
/-- the law's well: the script's ints at a, how many were drawn, what is left of a great one -/
def Wl (ns : List Int) (w a : Addr) (N : Nat) (H : Hp) : Prop :=
  a ≠ w ∧ H a = some (.lst (ns.map V.int)) ∧ ns.length ≤ 63 ∧ ∃ t r : Nat, t ≤ N ∧ H w = some (.lst [.ref a, .int t, .int r])
/-- all that was tracked is as it was, but for w -/
def Kp (w : Addr) (H H' : Hp) : Prop := ∀ b o, b ≠ w → H b = some o → H' b = some o
def spDip : Sp := fun vs H Q _ => ∃ (w a : Addr) (ns : List Int) (N : Nat) (many : Int), vs = [.ref w, .int many] ∧ Wl ns w a N H ∧ N ≤ 1000000 ∧ 0 < many ∧ many < 2 ^ 250 ∧
  ∀ (v : Int) (H' : Hp), 0 ≤ v → v < many → Kp w H H' → Wl ns w a (N + 1) H' → Q (.int v) H'
section
variable {P : Program} {w : World} {K : PySem.W.Frag} {mg : Str → Option Value} {base : Heap}
theorem ok_dip (T : Txt K mg) : Cal P w K mg base 1 "_law_cup" spDip := by
  obtain ⟨f, fd, F, b⟩ := T.d_law_cup
  refine cal F b sc_law_cup (fun vs H Q E h => ?_) (fun cdv A outer s H vs Q E hgd hr h => ?_)
  · obtain ⟨w, a, ns, N, many, rfl, _⟩ := h
    rfl
  · have nd := sc_law_cup.nd
    obtain ⟨w, a, ns, N, many, rfl, ⟨haw, ha, hl, t, r, ht, hw⟩, hN, hm0, hm, q⟩ := h
    refine ⟨_, (pss_cons (ps_if (pt_cmpR op_gt (pe_ix ix_list (pv 0) pe_int (fun _ _ => rfl)) pe_int (nomark _)) (pss_cons (ps_set (i := 2) nd rfl (.inl rfl) (pe_ix ix_list (pv 0) pe_int (fun _ _ => rfl)))
      (pss_cons (ps_asg (pe_op op_fdivW (pe_callTy call_int1 (by rfl) T.z_int (by decide +kernel) (pa_cons (pv 2) pa_nil)) (pv 1)) (pg_sub (pv 0) pe_int set_list))
      (pss_one (ps_ret (pe_op op_mod (pe_callTy call_int1 (by rfl) T.z_int (by decide +kernel) (pa_cons (pv 2) pa_nil)) (pv 1)))))) pss_nil)
      (pss_cons (ps_set (i := 3) nd rfl (.inl rfl) (pe_ix ix_list (pv 0) pe_int (fun _ _ => rfl)))
      (pss_cons (ps_asg (pe_op op_add (pv 3) pe_int) (pg_sub (pv 0) pe_int set_list))
      (pss_cons (ps_set (i := 4) nd rfl (.inl rfl) (pe_op op_add (pe_op op_mulW pe_int (pv 3)) pe_int))
      (C8.pss_cut (ps_if (pt_cmpR (op_neD hr.units) (pe_ix ix_list (pv 0) pe_int (fun _ _ => rfl)) (pe_lstX pa_nil) (nomark _)) (pss_one (ps_set (i := 4) nd rfl (.inl rfl) (pe_ix ix_list (pe_ix ix_list (pv 0) pe_int (fun _ _ => rfl)) (pe_op op_mod (pe_callTy call_int1 (by rfl) T.z_int (by decide +kernel) (pa_cons (pv 3) pa_nil)) (pe_callB call_len (by rfl) T.z_len PySem.boot_len (pa_cons (pe_ix ix_list (pv 0) pe_int (fun _ _ => rfl)) pa_nil))) (fun _ _ => rfl)))) pss_nil)
      (C8.pss_cut (ps_if (PW.pt (pw_and (pt_cmpR op_lt (pv 3) (pe_callB call_len (by rfl) T.z_len PySem.boot_len (pa_cons (pe_ix ix_list (pv 0) pe_int (fun _ _ => rfl)) pa_nil)) (nomark _)) (pw_and1 (pt_cmpR op_ge (pe_callB call_abs (by rfl) T.z_abs (by decide +kernel) (pa_cons (pv 4) pa_nil)) (pe_op op_pow pe_int pe_int) (nomark _))))) (pss_cons (ps_set (i := 2) nd rfl (.inl rfl) (pe_op op_sub (pe_callB call_abs (by rfl) T.z_abs (by decide +kernel) (pa_cons (pv 4) pa_nil)) (pe_op op_pow pe_int pe_int)))
      (pss_cons (ps_asg (pe_op op_fdivW (pe_callTy call_int1 (by rfl) T.z_int (by decide +kernel) (pa_cons (pv 2) pa_nil)) (pv 1)) (pg_sub (pv 0) pe_int set_list))
      (pss_one (ps_ret (pe_op op_mod (pe_callTy call_int1 (by rfl) T.z_int (by decide +kernel) (pa_cons (pv 2) pa_nil)) (pv 1)))))) pss_nil)
      (pss_cons (ps_set (i := 5) nd rfl (.inl rfl) (pe_op op_mod (pe_callTy call_int1 (by rfl) T.z_int (by decide +kernel) (pa_cons (pe_op op_pow (pe_op op_add (pe_op op_add (pe_op op_mod (pe_callTy call_int1 (by rfl) T.z_int (by decide +kernel) (pa_cons (pv 4) pa_nil)) pe_int) (pe_op op_mulW pe_int (pv 3))) pe_int) pe_int) pa_nil)) pe_int))
      (pss_cons (ps_set (i := 5) nd rfl (.inl rfl) (pe_op op_mod (pe_callTy call_int1 (by rfl) T.z_int (by decide +kernel) (pa_cons (pe_op op_pow (pe_op op_add (pe_op op_add (pe_op op_mulW (pv 5) (pe_op op_add (pe_op op_mulW pe_int (pv 3)) pe_int)) (pe_op op_mulW (pe_op op_mulW pe_int (pv 3)) (pv 3))) pe_int) pe_int) pa_nil)) pe_int))
      (pss_one (ps_ret (pe_op op_mod (pe_callTy call_int1 (by rfl) T.z_int (by decide +kernel) (pa_cons (pe_op op_fdivW (pv 5) pe_int) pa_nil)) (pv 1)))))))))))), ?_⟩
    have hb : many.natAbs < 2 ^ 250 := by omega
    have hd : CDivW (0 : Int) many := wide_div hm0 hb (by decide) (by decide)
    refine ⟨.ref w, rfl, w, _, 2, .int r, rfl, rfl, SqL.of hw, rfl, r, 0, rfl, rfl, _, rfl, ite2 (fun e => ?_) (fun e => ?_)⟩
    · refine ⟨.ref w, rfl, w, _, 2, .int r, rfl, rfl, SqL.of hw, rfl, ?_⟩
      refine ⟨.int r, rfl, .inl ⟨r, rfl, .int many, rfl, r, many, rfl, rfl, hd, .ref w, rfl, w, _, 2, 2, rfl, rfl, hw, rfl, ?_⟩⟩
      refine ⟨.int r, rfl, .inl ⟨r, rfl, .int many, rfl, r, many, rfl, rfl, hm0, ?_⟩⟩
      refine q _ _ (Int.emod_nonneg _ (by omega)) (Int.emod_lt_of_pos _ hm0) (fun b o e1 e2 => ?_) ⟨haw, ?_, hl, t, (r / many).toNat, by omega, ?_⟩
      · rw [upd_ne e1]
        exact e2
      · rw [upd_ne haw]
        exact ha
      · rw [upd_same, Int.toNat_of_nonneg (Int.ediv_nonneg (by omega) (by omega))]
        rfl
    · refine ⟨.ref w, rfl, w, _, 1, .int t, rfl, rfl, SqL.of hw, rfl, ?_⟩
      refine ⟨.int t, rfl, t, 1, rfl, rfl, .ref w, rfl, w, _, 1, 1, rfl, rfl, hw, rfl, ?_⟩
      refine ⟨.int t, rfl, 30203, t, rfl, rfl, wide_mul (a := 20) (b := 30) (by decide) (by omega) (by decide) (by decide) (by decide), _, _, rfl, rfl, ?_⟩
      -- the list with the next turn; an empty list beside it
      have hw1 : ∀ o, upd H w o w = some o := fun o => upd_same
      have ha1 : ∀ o, upd H w o a = some (.lst (ns.map V.int)) := fun o => (upd_ne haw).trans ha
      refine ⟨fun σ' H' => ∃ c : Int, σ' = [some (.ref w), some (.int many), none, some (.int t), some (.int c), none] ∧ Kp w H H' ∧ H' a = some (.lst (ns.map V.int)) ∧
        H' w = some (.lst [.ref a, .int (t + 1 : Nat), .int r]), ?_, ?_⟩
      · refine ⟨.ref w, rfl, w, _, 0, .ref a, rfl, rfl, SqL.of (hw1 _), rfl, Nat.zero_le _, fun p np _ => ?_⟩
        have npw : p ≠ w := fun z => by
          rw [z, upd_same] at np
          cases np
        have npa : p ≠ a := fun z => by
          rw [z, ha1] at np
          cases np
        have kp : Kp w H (upd (upd H w (.lst ([.ref a, .int t, .int r].set 1 (.int (t + 1))))) p (.lst [])) := fun b o e1 e2 => by
          have nb : b ≠ p := fun z => by
            rw [← z, upd_ne e1, e2] at np
            cases np
          rw [upd_ne nb, upd_ne e1]
          exact e2
        have ha2 := (upd_ne npa.symm (H := upd H w (.lst ([.ref a, .int t, .int r].set 1 (.int (t + 1))))) (o := .lst [])).trans (ha1 _)
        have hw2 := (upd_ne npw.symm (H := upd H w (.lst ([.ref a, .int t, .int r].set 1 (.int (t + 1))))) (o := .lst [])).trans (hw1 _)
        refine ⟨.list (ns.map PyData.int), .list [], .lst (SqL.of ha2) (dp_ints ns), .lst (SqL.of upd_same) .nil, shaped_ints ns, rfl, _, rfl, ?_⟩
        rw [eqv_ints_nil]
        refine ite2 (fun e => ?_) (fun e => ?_)
        · have hne : 0 < ns.length := by
            cases ns with
            | nil => cases e
            | cons x l => exact Nat.succ_pos _
          have hi : t % ns.length < ns.length := Nat.mod_lt _ hne
          refine ⟨.ref w, rfl, w, _, 0, .ref a, rfl, rfl, SqL.of hw2, rfl, ?_⟩
          refine ⟨.int t, rfl, .inl ⟨t, rfl, ?_⟩⟩
          refine ⟨.ref w, rfl, w, _, 0, .ref a, rfl, rfl, SqL.of hw2, rfl, .ref a, ns.length, rfl, .inl ⟨_, SqL.of ha2, by rw [List.length_map]⟩, ?_⟩
          refine ⟨t, ns.length, rfl, rfl, by omega, ?_⟩
          refine ⟨a, _, ((t % ns.length : Nat) : Int), .int ns[t % ns.length], rfl, rfl, SqL.of ha2, atI_nat ?_, ?_⟩
          · rw [List.getElem?_map, List.getElem?_eq_getElem hi]
            rfl
          · exact ⟨_, rfl, kp, ha2, hw2⟩
        · exact ⟨_, rfl, kp, ha2, hw2⟩
      · rintro σ1 H1 ⟨c, rfl, kp, ha1, hw1⟩
        have fin : ∀ v : Int, 0 ≤ v → v < many → ∀ r' : Nat, ∀ H', H' a = some (.lst (ns.map V.int)) → H' w = some (.lst [.ref a, .int (t + 1 : Nat), .int r']) → Kp w H H' → Q (.int v) H' :=
          fun v h1 h2 r' H' h3 h4 h5 => q v H' h1 h2 h5 ⟨haw, h3, hl, t + 1, r', by omega, h4⟩
        have pw : CPow 10 18 := ⟨by decide, by decide, by decide⟩
        refine ⟨fun σ' H' => ∃ c : Int, σ' = [some (.ref w), some (.int many), none, some (.int t), some (.int c), none] ∧ Kp w H H' ∧ H' a = some (.lst (ns.map V.int)) ∧
          H' w = some (.lst [.ref a, .int (t + 1 : Nat), .int r]), ?_, ?_⟩
        · refine ⟨.int t, rfl, .ref w, rfl, w, _, 0, .ref a, rfl, rfl, SqL.of hw1, rfl, .ref a, ns.length, rfl, .inl ⟨_, SqL.of ha1, by rw [List.length_map]⟩, ?_⟩
          refine ⟨t, ns.length, rfl, rfl, _, rfl, ite2 (fun e1 => ?_) (fun e1 => iteF ⟨c, rfl, kp, ha1, hw1⟩)⟩
          refine ⟨.int c, rfl, c, rfl, 10, 18, rfl, rfl, pw, _, _, rfl, rfl, _, rfl, ite2 (fun e2 => ?_) (fun e2 => ⟨c, rfl, kp, ha1, hw1⟩)⟩
          have e3 : (10 : Int) ^ (18 : Int).toNat ≤ (if c < 0 then -c else c) := of_decide_eq_true e2
          refine ⟨.int c, rfl, c, rfl, 10, 18, rfl, rfl, pw, _, _, rfl, rfl, ?_⟩
          refine ⟨.int _, rfl, .inl ⟨_, rfl, .int many, rfl, _, many, rfl, rfl, hd, .ref w, rfl, w, _, 2, 2, rfl, rfl, hw1, rfl, ?_⟩⟩
          refine ⟨.int _, rfl, .inl ⟨_, rfl, .int many, rfl, _, many, rfl, rfl, hm0, ?_⟩⟩
          generalize hR : (if c < 0 then -c else c) - 10 ^ (18 : Int).toNat = R
          have hR0 : 0 ≤ R := by omega
          refine fin _ (Int.emod_nonneg _ (by omega)) (Int.emod_lt_of_pos _ hm0) (R / many).toNat _ ?_ ?_ (fun b o z1 z2 => ?_)
          · rw [upd_ne haw]
            exact ha1
          · rw [upd_same, Int.toNat_of_nonneg (Int.ediv_nonneg hR0 (by omega)), ← hR]
            rfl
          · rw [upd_ne z1]
            exact kp b o z1 z2
        · rintro σ2 H2 ⟨c, rfl, kp, ha2, hw2⟩
          have c1 : 0 ≤ c % 2147483543 := Int.emod_nonneg _ (by decide)
          have c2 : c % 2147483543 < 2147483543 := Int.emod_lt_of_pos _ (by decide)
          refine ⟨.int c, rfl, .inl ⟨c, rfl, c, 2147483543, rfl, rfl, (show (0 : Int) < 2147483543 by decide), .int t, rfl, 40927, t, rfl, rfl, wide_mul (a := 20) (b := 30) (by decide) (by omega) (by decide) (by decide) (by decide), _, _, rfl, rfl, _, _, rfl, rfl, _, _, rfl, rfl,
            ⟨by decide, by decide, by omega⟩, .inl ⟨_, rfl, _, _, rfl, rfl, (show (0 : Int) < 2147483647 by decide), ?_⟩⟩⟩
          obtain ⟨m1, hm1⟩ : ∃ m1 : Int, m1 = (c % 2147483543 + 40927 * (t : Int) + 911) ^ (5 : Int).toNat % 2147483647 := ⟨_, rfl⟩
          have m10 : 0 ≤ m1 := hm1.symm ▸ Int.emod_nonneg _ (by decide)
          have m11 : m1 < 2147483647 := hm1.symm ▸ Int.emod_lt_of_pos _ (by decide)
          have t0 : (0 : Int) ≤ t := by omega
          have t1 : (t : Int) ≤ 1000000 := by omega
          have p1 : 0 ≤ m1 * (2 * (t : Int) + 1301) := Int.mul_nonneg m10 (by omega)
          have p2 : m1 * (2 * (t : Int) + 1301) ≤ 2147483647 * 2010000 := Int.mul_le_mul (by omega) (by omega) (by omega) (by omega)
          have p3 : 0 ≤ 30203 * (t : Int) * t := Int.mul_nonneg (by omega) t0
          have p4 : 30203 * (t : Int) * t ≤ 30203 * 1000000 * 1000000 := Int.mul_le_mul (by omega) t1 t0 (by omega)
          refine ⟨.int m1, by rw [hm1]; rfl, .int t, rfl, 2, t, rfl, rfl, wide_mul (a := 20) (b := 30) (by decide) (by omega) (by decide) (by decide) (by decide), _, _, rfl, rfl, m1, _, rfl, rfl,
            wide_mul (a := 40) (b := 40) (by omega) (by omega) (by decide) (by decide) (by decide), .int t, rfl, 30203, t, rfl, rfl, wide_mul (a := 20) (b := 30) (by decide) (by omega) (by decide) (by decide) (by decide),
            .int t, rfl, _, t, rfl, rfl, wide_mul (a := 60) (b := 30) (by omega) (by omega) (by decide) (by decide) (by decide), _, _, rfl, rfl, _, _, rfl, rfl, _, _, rfl, rfl,
            ⟨by decide, by decide, by omega⟩, .inl ⟨_, rfl, _, _, rfl, rfl, (show (0 : Int) < 2147483563 by decide), ?_⟩⟩
          refine ⟨.int _, rfl, _, 64, rfl, rfl, wide_div (b := 10) (by decide) (by decide) (by decide) (by decide), .inl ⟨_, rfl, .int many, rfl, _, many, rfl, rfl, hm0, ?_⟩⟩
          exact fin _ (Int.emod_nonneg _ (by omega)) (Int.emod_lt_of_pos _ hm0) r _ ha2 hw2 kp
end
end K00

set_option Elab.async false
set_option linter.all false
set_option maxRecDepth 100000
set_option maxHeartbeats 1000000
namespace K00
open PySem PySem.Spec PyProof.Rows L2 Gd
theorem Wl.mono {ns : List Int} {w a : Addr} {N M : Nat} {H : Hp} (h : Wl ns w a N H) (hN : N ≤ M) : Wl ns w a M H := by
  obtain ⟨h1, h2, h3, t, r, h4, h5⟩ := h
  exact ⟨h1, h2, h3, t, r, by omega, h5⟩
theorem Wl.same {ns : List Int} {w a : Addr} {N : Nat} {H H' : Hp} (h : Wl ns w a N H) (s : Same H H') : Wl ns w a N H' := by
  obtain ⟨h1, h2, h3, t, r, h4, h5⟩ := h
  exact ⟨h1, s _ _ h2, h3, t, r, h4, s _ _ h5⟩
theorem Wl.at_w {ns : List Int} {w a : Addr} {N : Nat} {H : Hp} (h : Wl ns w a N H) : ∃ o, H w = some o := by
  obtain ⟨h1, h2, h3, t, r, h4, h5⟩ := h
  exact ⟨_, h5⟩
theorem Kp.same {w : Addr} {H H' : Hp} (s : Same H H') : Kp w H H' := fun b o _ e => s b o e
theorem Kp.refl (w : Addr) (H : Hp) : Kp w H H := fun _ _ _ e => e
theorem Kp.trans {w : Addr} {H H1 H2 : Hp} (x : Kp w H H1) (y : Kp w H1 H2) : Kp w H H2 := fun b o n e => y b o n (x b o n e)
theorem Kp.new {w : Addr} {H H' : Hp} {p : Addr} {o : HO} (x : Kp w H H') (h : H' p = none) : Kp w H (upd H' p o) := x.trans (Kp.same (same_new h))
/-- a list at D, new since H, is written -/
theorem Kp.grow {w : Addr} {H H' : Hp} {D : Addr} {o : HO} (h : H D = none) (s : Kp w H H') : Kp w H (upd H' D o) := fun b x n e => by
  rw [upd_ne (ne_of_none e h)]
  exact s b x n e
theorem Wl.grow {ns : List Int} {w a : Addr} {N : Nat} {H : Hp} {D : Addr} {o : HO} (h : Wl ns w a N H) (hw : D ≠ w) (ha : D ≠ a) : Wl ns w a N (upd H D o) := by
  obtain ⟨h1, h2, h3, t, r, h4, h5⟩ := h
  exact ⟨h1, by rw [upd_ne ha.symm]; exact h2, h3, t, r, h4, by rw [upd_ne hw.symm]; exact h5⟩
/-- a place where nothing is tracked is neither the well nor its list -/
theorem Wl.off {ns : List Int} {w a : Addr} {N : Nat} {H : Hp} {p : Addr} (h : Wl ns w a N H) (n : H p = none) : p ≠ w ∧ p ≠ a := by
  obtain ⟨h1, h2, h3, t, r, h4, h5⟩ := h
  exact ⟨(ne_of_none h5 n).symm, (ne_of_none h2 n).symm⟩
def spWell (K : PySem.W.Frag) : Sp := fun vs H Q _ => ∃ (s : Addr) (ns : List Int), vs = [.ref s] ∧ SqL K H s (ns.map V.int) ∧ ns.length ≤ 63 ∧
  ∀ (w a : Addr) (H' : Hp), Same H H' → H w = none → Wl ns w a 0 H' → Q (.ref w) H'
/-- an item of a list, or a sign of a text -/
def spPick : Sp := fun vs H Q _ => ∃ (w a : Addr) (ns : List Int) (N : Nat), Wl ns w a N H ∧ N ≤ 1000000 ∧
  ((∃ (l : Addr) (xs : List V), vs = [.ref w, .ref l] ∧ l ≠ w ∧ H l = some (.lst xs) ∧ 0 < xs.length ∧ xs.length ≤ 1000 ∧
      ∀ (v : V) (H' : Hp), v ∈ xs → Kp w H H' → Wl ns w a (N + 1) H' → Q v H') ∨
   ∃ z : Str, vs = [.ref w, .str z] ∧ 0 < z.length ∧ z.length ≤ 1000 ∧ ∀ (c : Nat) (H' : Hp), c ∈ z.cps.toList → Kp w H H' → Wl ns w a (N + 1) H' → Q (.str ⟨#[c]⟩) H')
theorem cut63 {xs : List V} (h : xs.length ≤ 63) : cutV xs none (some 63) = xs := by
  unfold cutV
  rw [HT.sIx_none, show HT.sIx xs.length xs.length (some 63) = min 63 xs.length from HT.sIx_nat _ _ 63, List.drop_zero, Nat.sub_zero]
  exact List.take_of_length_le (by omega)
theorem tl_str (s : String) : (Str.ofString s).cps.toList = s.toList.map Char.toNat := PyProof.Rows.signs_ofString s
theorem cat_cps (x y : Str) : (x ++ y).cps.toList = x.cps.toList ++ y.cps.toList := TL.tl_append x y
theorem cat_len (x y : Str) : (x ++ y).length = x.length + y.length := by rw [← len_cps, cat_cps, List.length_append, len_cps, len_cps]
theorem one_len (c : Nat) : (⟨#[c]⟩ : Str).length = 1 := rfl
section
variable {P : Program} {w : World} {K : PySem.W.Frag} {mg : Str → Option Value} {base : Heap}
theorem ok_well (T : Txt K mg) : Cal P w K mg base 1 "_law_spring" (spWell K) := by
  obtain ⟨f, fd, F, b⟩ := T.d_law_spring
  refine cal F b sc_law_spring (fun vs H Q E h => ?_) (fun cdv A outer s H vs Q E hgd hr h => ?_)
  · obtain ⟨s, ns, rfl, _⟩ := h
    rfl
  · have nd := sc_law_spring.nd
    obtain ⟨s, ns, rfl, hS, hl, q⟩ := h
    refine ⟨_, (pss_one (ps_ret (pe_lstX (pa_cons (pe_lc (own := [("_law_cell", 1)]) (g := gName 1) rfl nd (pi_list (pe_slice sl_list (pv 0) po_none (po_some pe_int))) (blkOk_by (own := [("_law_cell", 1)]) (N := ["_law_script", "_law_cell"]) (sc := (C8.fnScope s_law_spring)) (by decide +kernel)) (fun _ _ _ _ _ => pg_name (i := 1) nd rfl (Or.inl rfl)) (fun _ _ _ _ _ => pts_nil) (fun _ _ _ _ _ => (pe_callTy call_int1 (by rfl) T.z_int (by decide +kernel) (pa_cons (pv 1) pa_nil)))) (pa_cons pe_int (pa_cons pe_int pa_nil)))))), ?_⟩
    refine ⟨.ref s, rfl, 63, rfl, s, _, rfl, hS, fun p np => ?_⟩
    have l63 : (ns.map V.int).length ≤ 63 := by
      rw [List.length_map]
      exact hl
    rw [cut63 l63]
    have hp : (upd H p (.lst (ns.map V.int))) p = some (.lst (ns.map V.int)) := upd_same
    refine ⟨p, rfl, ⟨_, SqL.of hp⟩, fun D nD => lc_list (xs := ns.map V.int) (fun i H' => H' p = some (.lst (ns.map V.int)) ∧ H' D = some (.lst ((ns.take i).map V.int)) ∧ Same H H')
      ⟨?_, upd_same, (same_new np).trans (same_new nD)⟩ (fun i H' _ hP => SqL.of hP.1) (fun i x H1 hx hP => ?_) (fun H1 hP => ?_)⟩
    · rw [upd_ne (ne_of_none hp nD)]
      exact hp
    · obtain ⟨h1, h2, h3⟩ := hP
      rw [List.getElem?_map] at hx
      obtain ⟨n, hn, rfl⟩ := Option.map_eq_some_iff.mp hx
      refine ⟨rfl, lc_yes ⟨.int n, rfl, .inl ⟨n, rfl, _, h2, ?_, ?_, ?_, ?_⟩⟩⟩
      · rw [List.length_map, List.length_take]
        exact small1000 (by omega)
      · rw [upd_ne (ne_of_none hp nD)]
        exact h1
      · rw [upd_same]
        exact congrArg (fun l => some (HO.lst l)) (take_next (f := V.int) hn)
      · intro b o e
        have nb : b ≠ D := fun z => by
          have := (same_new np (o := .lst (ns.map V.int))) b o e
          rw [z, nD] at this
          cases this
        rw [upd_ne nb]
        exact h3 _ _ e
    · obtain ⟨h1, h2, h3⟩ := hP
      rw [List.length_map, List.take_length] at h2
      refine ⟨by show 3 ≤ sizeLine; decide, fun w0 nw _ => ?_⟩
      have s2 : Same H (upd H1 w0 (.lst [.ref D, .int 0, .int 0])) := h3.trans (same_new nw)
      refine q w0 D _ s2 (h3.free nw) ⟨(ne_of_none h2 nw), ?_, hl, 0, 0, Nat.le_refl _, upd_same⟩
      rw [upd_ne (ne_of_none h2 nw)]
      exact h2
theorem ok_pick (T : Txt K mg) (G__law_cup : Cal P w K mg base 1 "_law_cup" spDip) : Cal P w K mg base 2 "_law_one_of" spPick := by
  obtain ⟨f, fd, F, b⟩ := T.d_law_one_of
  refine cal F b sc_law_one_of (fun vs H Q E h => ?_) (fun cdv A outer s H vs Q E hgd hr h => ?_)
  · obtain ⟨w, a, ns, N, _, _, ⟨l, xs, rfl, _⟩ | ⟨z, rfl, _⟩⟩ := h <;> rfl
  · have nd := sc_law_one_of.nd
    obtain ⟨w, a, ns, N, hW, hN, ⟨l, xs, rfl, hlw, hl, h0, h1, q⟩ | ⟨z, rfl, h0, h1, q⟩⟩ := h
    · refine ⟨_, (pss_one (ps_ret (pe_ix ix_seq (pv 1) (pc G__law_cup hgd hr (by decide) (by rfl) (pa_cons (pv 0) (pa_cons (pe_callB call_len (by rfl) T.z_len PySem.boot_len (pa_cons (pv 1) pa_nil)) pa_nil))) (fun _ _ => rfl)))), ?_⟩
      refine ⟨.ref l, rfl, .ref w, rfl, .ref l, rfl, .ref l, xs.length, rfl, .inl ⟨xs, SqL.of hl, rfl⟩, w, a, ns, N, xs.length, rfl, hW, hN, by omega, by omega, fun v H' v0 v1 kp hW' => ?_⟩
      have hv : v.toNat < xs.length := by omega
      have e : v = ((v.toNat : Nat) : Int) := by omega
      refine .inl ⟨l, xs, v, xs[v.toNat], rfl, rfl, SqL.of (kp l _ hlw hl), at_of e (List.getElem?_eq_getElem hv), q _ _ (List.getElem_mem _) kp hW'⟩
    · refine ⟨_, (pss_one (ps_ret (pe_ix ix_seq (pv 1) (pc G__law_cup hgd hr (by decide) (by rfl) (pa_cons (pv 0) (pa_cons (pe_callB call_len (by rfl) T.z_len PySem.boot_len (pa_cons (pv 1) pa_nil)) pa_nil))) (fun _ _ => rfl)))), ?_⟩
      refine ⟨.str z, rfl, .ref w, rfl, .str z, rfl, .str z, z.length, rfl, ⟨sm1000 h1, rfl⟩, w, a, ns, N, z.length, rfl, hW, hN, by omega, by omega, fun v H' v0 v1 kp hW' => ?_⟩
      obtain ⟨j, rfl⟩ : ∃ j : Nat, v = j := ⟨v.toNat, by omega⟩
      have hv : j < z.cps.toList.length := by
        rw [len_cps]
        omega
      exact .inr (.inr ⟨z, j, z.cps.toList[j], rfl, rfl, sm1000 h1, atI_nat (List.getElem?_eq_getElem hv), q _ _ (List.getElem_mem _) kp hW'⟩)
end
end K00

set_option Elab.async false
set_option linter.all false
set_option maxRecDepth 100000
set_option maxHeartbeats 2000000
namespace K00
open PySem PySem.Spec PyProof.Rows L2 Gd
def valC (i : Nat) (u v : V) : List V := if i < 33 then [u] else if i < 38 then [u, v] else []
/-- errors of the classes from the i-th on, of the values u, v -/
def Errs (c : Nat → Addr) (u v : V) : Nat → List Addr → Hp → Prop
  | _, [], _ => True
  | i, e :: r, H => ErrAt (c i) (fsV (fldC i) (valC i u v)) H e ∧ Errs c u v (i + 1) r H
def spPart (c : Nat → Addr) : Sp := fun vs H Q _ => ∃ u : V, vs = [u] ∧ ∀ (p : Addr) (es : List Addr) (H' : Hp), Same H H' → es.length = 21 → H' p = some (.lst (es.map V.ref)) → Errs c u u 0 es H' → Q (.ref p) H'
def spOther (c : Nat → Addr) : Sp := fun vs H Q _ => ∃ u v : V, vs = [u, v] ∧ ∀ (p : Addr) (es : List Addr) (H' : Hp), Same H H' → es.length = 19 → H' p = some (.lst (es.map V.ref)) → Errs c u v 21 es H' → Q (.ref p) H'
/-- what is new stands where it was laid -/
theorem same_at {H : Hp} {p : Addr} (_ : H p = none) (o : HO) : upd H p o p = some o := upd_same
section
variable {P : Program} {w : World} {K : PySem.W.Frag} {mg : Str → Option Value} {base : Heap} {c f : Nat → Addr}
theorem ok_law_parts (T : Txt K mg) (Z : Tz K mg c f) : Cal P w K mg base 3 "_law_parts" (spPart c) := by
  obtain ⟨g, fd, F, b⟩ := T.d_law_parts
  refine cal F b sc_law_parts (fun vs H Q E h => ?_) (fun cdv A outer s H vs Q E hgd hr h => ?_)
  · obtain ⟨u, rfl, _⟩ := h
    rfl
  · have nd := sc_law_parts.nd
    have hr2 := hr
    obtain ⟨u, rfl, q⟩ := h
    refine ⟨_, (pss_cons (ps_set (i := 1) nd rfl (.inl rfl) (pe_lstX (pa_cons (pe_mkP (mkP0 Z) hr2 (by decide) (by rfl) (pa_cons (pv 0) pa_nil)) (pa_cons (pe_mkK (mkK1 Z) hr2 (by rfl) (pk_cons (pv 0) pk_nil)) (pa_cons (pe_mkP (mkP2 Z) hr2 (by decide) (by rfl) (pa_cons (pv 0) pa_nil)) (pa_cons (pe_mkK (mkK3 Z) hr2 (by rfl) (pk_cons (pv 0) pk_nil)) (pa_cons (pe_mkP (mkP4 Z) hr2 (by decide) (by rfl) (pa_cons (pv 0) pa_nil)) pa_nil)))))))
      (pss_cons (ps_set (i := 1) nd rfl (.inl rfl) (pe_op op_cat (pv 1) (pe_lstX (pa_cons (pe_mkK (mkK5 Z) hr2 (by rfl) (pk_cons (pv 0) pk_nil)) (pa_cons (pe_mkP (mkP6 Z) hr2 (by decide) (by rfl) (pa_cons (pv 0) pa_nil)) (pa_cons (pe_mkK (mkK7 Z) hr2 (by rfl) (pk_cons (pv 0) pk_nil)) (pa_cons (pe_mkP (mkP8 Z) hr2 (by decide) (by rfl) (pa_cons (pv 0) pa_nil)) (pa_cons (pe_mkK (mkK9 Z) hr2 (by rfl) (pk_cons (pv 0) pk_nil)) pa_nil))))))))
      (pss_cons (ps_set (i := 1) nd rfl (.inl rfl) (pe_op op_cat (pv 1) (pe_lstX (pa_cons (pe_mkP (mkP10 Z) hr2 (by decide) (by rfl) (pa_cons (pv 0) pa_nil)) (pa_cons (pe_mkK (mkK11 Z) hr2 (by rfl) (pk_cons (pv 0) pk_nil)) (pa_cons (pe_mkP (mkP12 Z) hr2 (by decide) (by rfl) (pa_cons (pv 0) pa_nil)) (pa_cons (pe_mkK (mkK13 Z) hr2 (by rfl) (pk_cons (pv 0) pk_nil)) (pa_cons (pe_mkP (mkP14 Z) hr2 (by decide) (by rfl) (pa_cons (pv 0) pa_nil)) pa_nil))))))))
      (pss_cons (ps_set (i := 1) nd rfl (.inl rfl) (pe_op op_cat (pv 1) (pe_lstX (pa_cons (pe_mkK (mkK15 Z) hr2 (by rfl) (pk_cons (pv 0) pk_nil)) (pa_cons (pe_mkP (mkP16 Z) hr2 (by decide) (by rfl) (pa_cons (pv 0) pa_nil)) (pa_cons (pe_mkK (mkK17 Z) hr2 (by rfl) (pk_cons (pv 0) pk_nil)) (pa_cons (pe_mkP (mkP18 Z) hr2 (by decide) (by rfl) (pa_cons (pv 0) pa_nil)) (pa_cons (pe_mkK (mkK19 Z) hr2 (by rfl) (pk_cons (pv 0) pk_nil)) pa_nil))))))))
      (pss_one (ps_ret (pe_op op_cat (pv 1) (pe_lstX (pa_cons (pe_mkP (mkP20 Z) hr2 (by decide) (by rfl) (pa_cons (pv 0) pa_nil)) pa_nil))))))))), ?_⟩
    refine ⟨u, rfl, rfl, rfl, fun a1 H1 s1 e1 => ⟨u, rfl, rfl, rfl, fun a2 H2 s2 e2 => ⟨u, rfl, rfl, rfl, fun a3 H3 s3 e3 => ⟨u, rfl, rfl, rfl, fun a4 H4 s4 e4 => ⟨u, rfl, rfl, rfl, fun a5 H5 s5 e5 => ⟨by show 5 ≤ sizeLine; decide, fun p5 np5 _ => ?_⟩⟩⟩⟩⟩⟩
    have tp5 := same_new np5 (o := .lst [.ref a1, .ref a2, .ref a3, .ref a4, .ref a5])
    have hlp5 := same_at np5 (.lst [.ref a1, .ref a2, .ref a3, .ref a4, .ref a5])
    refine ⟨.ref p5, rfl, u, rfl, rfl, rfl, fun a6 H6 s6 e6 => ⟨u, rfl, rfl, rfl, fun a7 H7 s7 e7 => ⟨u, rfl, rfl, rfl, fun a8 H8 s8 e8 => ⟨u, rfl, rfl, rfl, fun a9 H9 s9 e9 => ⟨u, rfl, rfl, rfl, fun a10 H10 s10 e10 => ⟨by show 5 ≤ sizeLine; decide, fun p10 np10 _ => ?_⟩⟩⟩⟩⟩⟩
    have tp10 := same_new np10 (o := .lst [.ref a6, .ref a7, .ref a8, .ref a9, .ref a10])
    have lr10 := ((((((s6).trans (s7)).trans (s8)).trans (s9)).trans (s10)).trans (tp10)) _ _ hlp5
    refine ⟨p5, p10, _, _, rfl, rfl, lr10, upd_same, by show 10 ≤ _; decide, fun r10 nr10 => ?_⟩
    have tr10 := same_new nr10 (o := .lst ([.ref a1, .ref a2, .ref a3, .ref a4, .ref a5] ++ [.ref a6, .ref a7, .ref a8, .ref a9, .ref a10]))
    have hlr10 := same_at nr10 (.lst ([.ref a1, .ref a2, .ref a3, .ref a4, .ref a5] ++ [.ref a6, .ref a7, .ref a8, .ref a9, .ref a10]))
    refine ⟨.ref r10, rfl, u, rfl, rfl, rfl, fun a11 H11 s11 e11 => ⟨u, rfl, rfl, rfl, fun a12 H12 s12 e12 => ⟨u, rfl, rfl, rfl, fun a13 H13 s13 e13 => ⟨u, rfl, rfl, rfl, fun a14 H14 s14 e14 => ⟨u, rfl, rfl, rfl, fun a15 H15 s15 e15 => ⟨by show 5 ≤ sizeLine; decide, fun p15 np15 _ => ?_⟩⟩⟩⟩⟩⟩
    have tp15 := same_new np15 (o := .lst [.ref a11, .ref a12, .ref a13, .ref a14, .ref a15])
    have lr15 := ((((((s11).trans (s12)).trans (s13)).trans (s14)).trans (s15)).trans (tp15)) _ _ hlr10
    refine ⟨r10, p15, _, _, rfl, rfl, lr15, upd_same, by show 15 ≤ _; decide, fun r15 nr15 => ?_⟩
    have tr15 := same_new nr15 (o := .lst (([.ref a1, .ref a2, .ref a3, .ref a4, .ref a5] ++ [.ref a6, .ref a7, .ref a8, .ref a9, .ref a10]) ++ [.ref a11, .ref a12, .ref a13, .ref a14, .ref a15]))
    have hlr15 := same_at nr15 (.lst (([.ref a1, .ref a2, .ref a3, .ref a4, .ref a5] ++ [.ref a6, .ref a7, .ref a8, .ref a9, .ref a10]) ++ [.ref a11, .ref a12, .ref a13, .ref a14, .ref a15]))
    refine ⟨.ref r15, rfl, u, rfl, rfl, rfl, fun a16 H16 s16 e16 => ⟨u, rfl, rfl, rfl, fun a17 H17 s17 e17 => ⟨u, rfl, rfl, rfl, fun a18 H18 s18 e18 => ⟨u, rfl, rfl, rfl, fun a19 H19 s19 e19 => ⟨u, rfl, rfl, rfl, fun a20 H20 s20 e20 => ⟨by show 5 ≤ sizeLine; decide, fun p20 np20 _ => ?_⟩⟩⟩⟩⟩⟩
    have tp20 := same_new np20 (o := .lst [.ref a16, .ref a17, .ref a18, .ref a19, .ref a20])
    have lr20 := ((((((s16).trans (s17)).trans (s18)).trans (s19)).trans (s20)).trans (tp20)) _ _ hlr15
    refine ⟨r15, p20, _, _, rfl, rfl, lr20, upd_same, by show 20 ≤ _; decide, fun r20 nr20 => ?_⟩
    have tr20 := same_new nr20 (o := .lst ((([.ref a1, .ref a2, .ref a3, .ref a4, .ref a5] ++ [.ref a6, .ref a7, .ref a8, .ref a9, .ref a10]) ++ [.ref a11, .ref a12, .ref a13, .ref a14, .ref a15]) ++ [.ref a16, .ref a17, .ref a18, .ref a19, .ref a20]))
    have hlr20 := same_at nr20 (.lst ((([.ref a1, .ref a2, .ref a3, .ref a4, .ref a5] ++ [.ref a6, .ref a7, .ref a8, .ref a9, .ref a10]) ++ [.ref a11, .ref a12, .ref a13, .ref a14, .ref a15]) ++ [.ref a16, .ref a17, .ref a18, .ref a19, .ref a20]))
    refine ⟨.ref r20, rfl, u, rfl, rfl, rfl, fun a21 H21 s21 e21 => ⟨by show 1 ≤ sizeLine; decide, fun p21 np21 _ => ?_⟩⟩
    have tp21 := same_new np21 (o := .lst [.ref a21])
    have lr21 := ((s21).trans (tp21)) _ _ hlr20
    refine ⟨r20, p21, _, _, rfl, rfl, lr21, upd_same, by show 21 ≤ _; decide, fun r21 nr21 => ?_⟩
    have tr21 := same_new nr21 (o := .lst (((([.ref a1, .ref a2, .ref a3, .ref a4, .ref a5] ++ [.ref a6, .ref a7, .ref a8, .ref a9, .ref a10]) ++ [.ref a11, .ref a12, .ref a13, .ref a14, .ref a15]) ++ [.ref a16, .ref a17, .ref a18, .ref a19, .ref a20]) ++ [.ref a21]))
    have hlr21 := same_at nr21 (.lst (((([.ref a1, .ref a2, .ref a3, .ref a4, .ref a5] ++ [.ref a6, .ref a7, .ref a8, .ref a9, .ref a10]) ++ [.ref a11, .ref a12, .ref a13, .ref a14, .ref a15]) ++ [.ref a16, .ref a17, .ref a18, .ref a19, .ref a20]) ++ [.ref a21]))
    exact q r21 [a1, a2, a3, a4, a5, a6, a7, a8, a9, a10, a11, a12, a13, a14, a15, a16, a17, a18, a19, a20, a21] _ ((((((((((((((((((((((((((((((s1).trans (s2)).trans (s3)).trans (s4)).trans (s5)).trans (tp5)).trans (s6)).trans (s7)).trans (s8)).trans (s9)).trans (s10)).trans (tp10)).trans (tr10)).trans (s11)).trans (s12)).trans (s13)).trans (s14)).trans (s15)).trans (tp15)).trans (tr15)).trans (s16)).trans (s17)).trans (s18)).trans (s19)).trans (s20)).trans (tp20)).trans (tr20)).trans (s21)).trans (tp21)).trans (tr21)) rfl hlr21 ⟨e1.same (((((((((((((((((((((((((((((s2).trans (s3)).trans (s4)).trans (s5)).trans (tp5)).trans (s6)).trans (s7)).trans (s8)).trans (s9)).trans (s10)).trans (tp10)).trans (tr10)).trans (s11)).trans (s12)).trans (s13)).trans (s14)).trans (s15)).trans (tp15)).trans (tr15)).trans (s16)).trans (s17)).trans (s18)).trans (s19)).trans (s20)).trans (tp20)).trans (tr20)).trans (s21)).trans (tp21)).trans (tr21)), e2.same ((((((((((((((((((((((((((((s3).trans (s4)).trans (s5)).trans (tp5)).trans (s6)).trans (s7)).trans (s8)).trans (s9)).trans (s10)).trans (tp10)).trans (tr10)).trans (s11)).trans (s12)).trans (s13)).trans (s14)).trans (s15)).trans (tp15)).trans (tr15)).trans (s16)).trans (s17)).trans (s18)).trans (s19)).trans (s20)).trans (tp20)).trans (tr20)).trans (s21)).trans (tp21)).trans (tr21)), e3.same (((((((((((((((((((((((((((s4).trans (s5)).trans (tp5)).trans (s6)).trans (s7)).trans (s8)).trans (s9)).trans (s10)).trans (tp10)).trans (tr10)).trans (s11)).trans (s12)).trans (s13)).trans (s14)).trans (s15)).trans (tp15)).trans (tr15)).trans (s16)).trans (s17)).trans (s18)).trans (s19)).trans (s20)).trans (tp20)).trans (tr20)).trans (s21)).trans (tp21)).trans (tr21)), e4.same ((((((((((((((((((((((((((s5).trans (tp5)).trans (s6)).trans (s7)).trans (s8)).trans (s9)).trans (s10)).trans (tp10)).trans (tr10)).trans (s11)).trans (s12)).trans (s13)).trans (s14)).trans (s15)).trans (tp15)).trans (tr15)).trans (s16)).trans (s17)).trans (s18)).trans (s19)).trans (s20)).trans (tp20)).trans (tr20)).trans (s21)).trans (tp21)).trans (tr21)), e5.same (((((((((((((((((((((((((tp5).trans (s6)).trans (s7)).trans (s8)).trans (s9)).trans (s10)).trans (tp10)).trans (tr10)).trans (s11)).trans (s12)).trans (s13)).trans (s14)).trans (s15)).trans (tp15)).trans (tr15)).trans (s16)).trans (s17)).trans (s18)).trans (s19)).trans (s20)).trans (tp20)).trans (tr20)).trans (s21)).trans (tp21)).trans (tr21)), e6.same (((((((((((((((((((((((s7).trans (s8)).trans (s9)).trans (s10)).trans (tp10)).trans (tr10)).trans (s11)).trans (s12)).trans (s13)).trans (s14)).trans (s15)).trans (tp15)).trans (tr15)).trans (s16)).trans (s17)).trans (s18)).trans (s19)).trans (s20)).trans (tp20)).trans (tr20)).trans (s21)).trans (tp21)).trans (tr21)), e7.same ((((((((((((((((((((((s8).trans (s9)).trans (s10)).trans (tp10)).trans (tr10)).trans (s11)).trans (s12)).trans (s13)).trans (s14)).trans (s15)).trans (tp15)).trans (tr15)).trans (s16)).trans (s17)).trans (s18)).trans (s19)).trans (s20)).trans (tp20)).trans (tr20)).trans (s21)).trans (tp21)).trans (tr21)), e8.same (((((((((((((((((((((s9).trans (s10)).trans (tp10)).trans (tr10)).trans (s11)).trans (s12)).trans (s13)).trans (s14)).trans (s15)).trans (tp15)).trans (tr15)).trans (s16)).trans (s17)).trans (s18)).trans (s19)).trans (s20)).trans (tp20)).trans (tr20)).trans (s21)).trans (tp21)).trans (tr21)), e9.same ((((((((((((((((((((s10).trans (tp10)).trans (tr10)).trans (s11)).trans (s12)).trans (s13)).trans (s14)).trans (s15)).trans (tp15)).trans (tr15)).trans (s16)).trans (s17)).trans (s18)).trans (s19)).trans (s20)).trans (tp20)).trans (tr20)).trans (s21)).trans (tp21)).trans (tr21)), e10.same (((((((((((((((((((tp10).trans (tr10)).trans (s11)).trans (s12)).trans (s13)).trans (s14)).trans (s15)).trans (tp15)).trans (tr15)).trans (s16)).trans (s17)).trans (s18)).trans (s19)).trans (s20)).trans (tp20)).trans (tr20)).trans (s21)).trans (tp21)).trans (tr21)), e11.same ((((((((((((((((s12).trans (s13)).trans (s14)).trans (s15)).trans (tp15)).trans (tr15)).trans (s16)).trans (s17)).trans (s18)).trans (s19)).trans (s20)).trans (tp20)).trans (tr20)).trans (s21)).trans (tp21)).trans (tr21)), e12.same (((((((((((((((s13).trans (s14)).trans (s15)).trans (tp15)).trans (tr15)).trans (s16)).trans (s17)).trans (s18)).trans (s19)).trans (s20)).trans (tp20)).trans (tr20)).trans (s21)).trans (tp21)).trans (tr21)), e13.same ((((((((((((((s14).trans (s15)).trans (tp15)).trans (tr15)).trans (s16)).trans (s17)).trans (s18)).trans (s19)).trans (s20)).trans (tp20)).trans (tr20)).trans (s21)).trans (tp21)).trans (tr21)), e14.same (((((((((((((s15).trans (tp15)).trans (tr15)).trans (s16)).trans (s17)).trans (s18)).trans (s19)).trans (s20)).trans (tp20)).trans (tr20)).trans (s21)).trans (tp21)).trans (tr21)), e15.same ((((((((((((tp15).trans (tr15)).trans (s16)).trans (s17)).trans (s18)).trans (s19)).trans (s20)).trans (tp20)).trans (tr20)).trans (s21)).trans (tp21)).trans (tr21)), e16.same (((((((((s17).trans (s18)).trans (s19)).trans (s20)).trans (tp20)).trans (tr20)).trans (s21)).trans (tp21)).trans (tr21)), e17.same ((((((((s18).trans (s19)).trans (s20)).trans (tp20)).trans (tr20)).trans (s21)).trans (tp21)).trans (tr21)), e18.same (((((((s19).trans (s20)).trans (tp20)).trans (tr20)).trans (s21)).trans (tp21)).trans (tr21)), e19.same ((((((s20).trans (tp20)).trans (tr20)).trans (s21)).trans (tp21)).trans (tr21)), e20.same (((((tp20).trans (tr20)).trans (s21)).trans (tp21)).trans (tr21)), e21.same ((tp21).trans (tr21)), trivial⟩
theorem ok_law_parts_turned (T : Txt K mg) (Z : Tz K mg c f) : Cal P w K mg base 3 "_law_parts_turned" (spPart c) := by
  obtain ⟨g, fd, F, b⟩ := T.d_law_parts_turned
  refine cal F b sc_law_parts_turned (fun vs H Q E h => ?_) (fun cdv A outer s H vs Q E hgd hr h => ?_)
  · obtain ⟨u, rfl, _⟩ := h
    rfl
  · have nd := sc_law_parts_turned.nd
    have hr2 := hr
    obtain ⟨u, rfl, q⟩ := h
    refine ⟨_, (pss_cons (ps_set (i := 1) nd rfl (.inl rfl) (pe_lstX (pa_cons (pe_mkK (mkK0 Z) hr2 (by rfl) (pk_cons (pv 0) pk_nil)) (pa_cons (pe_mkP (mkP1 Z) hr2 (by decide) (by rfl) (pa_cons (pv 0) pa_nil)) (pa_cons (pe_mkK (mkK2 Z) hr2 (by rfl) (pk_cons (pv 0) pk_nil)) (pa_cons (pe_mkP (mkP3 Z) hr2 (by decide) (by rfl) (pa_cons (pv 0) pa_nil)) (pa_cons (pe_mkK (mkK4 Z) hr2 (by rfl) (pk_cons (pv 0) pk_nil)) pa_nil)))))))
      (pss_cons (ps_set (i := 1) nd rfl (.inl rfl) (pe_op op_cat (pv 1) (pe_lstX (pa_cons (pe_mkP (mkP5 Z) hr2 (by decide) (by rfl) (pa_cons (pv 0) pa_nil)) (pa_cons (pe_mkK (mkK6 Z) hr2 (by rfl) (pk_cons (pv 0) pk_nil)) (pa_cons (pe_mkP (mkP7 Z) hr2 (by decide) (by rfl) (pa_cons (pv 0) pa_nil)) (pa_cons (pe_mkK (mkK8 Z) hr2 (by rfl) (pk_cons (pv 0) pk_nil)) (pa_cons (pe_mkP (mkP9 Z) hr2 (by decide) (by rfl) (pa_cons (pv 0) pa_nil)) pa_nil))))))))
      (pss_cons (ps_set (i := 1) nd rfl (.inl rfl) (pe_op op_cat (pv 1) (pe_lstX (pa_cons (pe_mkK (mkK10 Z) hr2 (by rfl) (pk_cons (pv 0) pk_nil)) (pa_cons (pe_mkP (mkP11 Z) hr2 (by decide) (by rfl) (pa_cons (pv 0) pa_nil)) (pa_cons (pe_mkK (mkK12 Z) hr2 (by rfl) (pk_cons (pv 0) pk_nil)) (pa_cons (pe_mkP (mkP13 Z) hr2 (by decide) (by rfl) (pa_cons (pv 0) pa_nil)) (pa_cons (pe_mkK (mkK14 Z) hr2 (by rfl) (pk_cons (pv 0) pk_nil)) pa_nil))))))))
      (pss_cons (ps_set (i := 1) nd rfl (.inl rfl) (pe_op op_cat (pv 1) (pe_lstX (pa_cons (pe_mkP (mkP15 Z) hr2 (by decide) (by rfl) (pa_cons (pv 0) pa_nil)) (pa_cons (pe_mkK (mkK16 Z) hr2 (by rfl) (pk_cons (pv 0) pk_nil)) (pa_cons (pe_mkP (mkP17 Z) hr2 (by decide) (by rfl) (pa_cons (pv 0) pa_nil)) (pa_cons (pe_mkK (mkK18 Z) hr2 (by rfl) (pk_cons (pv 0) pk_nil)) (pa_cons (pe_mkP (mkP19 Z) hr2 (by decide) (by rfl) (pa_cons (pv 0) pa_nil)) pa_nil))))))))
      (pss_one (ps_ret (pe_op op_cat (pv 1) (pe_lstX (pa_cons (pe_mkK (mkK20 Z) hr2 (by rfl) (pk_cons (pv 0) pk_nil)) pa_nil))))))))), ?_⟩
    refine ⟨u, rfl, rfl, rfl, fun a1 H1 s1 e1 => ⟨u, rfl, rfl, rfl, fun a2 H2 s2 e2 => ⟨u, rfl, rfl, rfl, fun a3 H3 s3 e3 => ⟨u, rfl, rfl, rfl, fun a4 H4 s4 e4 => ⟨u, rfl, rfl, rfl, fun a5 H5 s5 e5 => ⟨by show 5 ≤ sizeLine; decide, fun p5 np5 _ => ?_⟩⟩⟩⟩⟩⟩
    have tp5 := same_new np5 (o := .lst [.ref a1, .ref a2, .ref a3, .ref a4, .ref a5])
    have hlp5 := same_at np5 (.lst [.ref a1, .ref a2, .ref a3, .ref a4, .ref a5])
    refine ⟨.ref p5, rfl, u, rfl, rfl, rfl, fun a6 H6 s6 e6 => ⟨u, rfl, rfl, rfl, fun a7 H7 s7 e7 => ⟨u, rfl, rfl, rfl, fun a8 H8 s8 e8 => ⟨u, rfl, rfl, rfl, fun a9 H9 s9 e9 => ⟨u, rfl, rfl, rfl, fun a10 H10 s10 e10 => ⟨by show 5 ≤ sizeLine; decide, fun p10 np10 _ => ?_⟩⟩⟩⟩⟩⟩
    have tp10 := same_new np10 (o := .lst [.ref a6, .ref a7, .ref a8, .ref a9, .ref a10])
    have lr10 := ((((((s6).trans (s7)).trans (s8)).trans (s9)).trans (s10)).trans (tp10)) _ _ hlp5
    refine ⟨p5, p10, _, _, rfl, rfl, lr10, upd_same, by show 10 ≤ _; decide, fun r10 nr10 => ?_⟩
    have tr10 := same_new nr10 (o := .lst ([.ref a1, .ref a2, .ref a3, .ref a4, .ref a5] ++ [.ref a6, .ref a7, .ref a8, .ref a9, .ref a10]))
    have hlr10 := same_at nr10 (.lst ([.ref a1, .ref a2, .ref a3, .ref a4, .ref a5] ++ [.ref a6, .ref a7, .ref a8, .ref a9, .ref a10]))
    refine ⟨.ref r10, rfl, u, rfl, rfl, rfl, fun a11 H11 s11 e11 => ⟨u, rfl, rfl, rfl, fun a12 H12 s12 e12 => ⟨u, rfl, rfl, rfl, fun a13 H13 s13 e13 => ⟨u, rfl, rfl, rfl, fun a14 H14 s14 e14 => ⟨u, rfl, rfl, rfl, fun a15 H15 s15 e15 => ⟨by show 5 ≤ sizeLine; decide, fun p15 np15 _ => ?_⟩⟩⟩⟩⟩⟩
    have tp15 := same_new np15 (o := .lst [.ref a11, .ref a12, .ref a13, .ref a14, .ref a15])
    have lr15 := ((((((s11).trans (s12)).trans (s13)).trans (s14)).trans (s15)).trans (tp15)) _ _ hlr10
    refine ⟨r10, p15, _, _, rfl, rfl, lr15, upd_same, by show 15 ≤ _; decide, fun r15 nr15 => ?_⟩
    have tr15 := same_new nr15 (o := .lst (([.ref a1, .ref a2, .ref a3, .ref a4, .ref a5] ++ [.ref a6, .ref a7, .ref a8, .ref a9, .ref a10]) ++ [.ref a11, .ref a12, .ref a13, .ref a14, .ref a15]))
    have hlr15 := same_at nr15 (.lst (([.ref a1, .ref a2, .ref a3, .ref a4, .ref a5] ++ [.ref a6, .ref a7, .ref a8, .ref a9, .ref a10]) ++ [.ref a11, .ref a12, .ref a13, .ref a14, .ref a15]))
    refine ⟨.ref r15, rfl, u, rfl, rfl, rfl, fun a16 H16 s16 e16 => ⟨u, rfl, rfl, rfl, fun a17 H17 s17 e17 => ⟨u, rfl, rfl, rfl, fun a18 H18 s18 e18 => ⟨u, rfl, rfl, rfl, fun a19 H19 s19 e19 => ⟨u, rfl, rfl, rfl, fun a20 H20 s20 e20 => ⟨by show 5 ≤ sizeLine; decide, fun p20 np20 _ => ?_⟩⟩⟩⟩⟩⟩
    have tp20 := same_new np20 (o := .lst [.ref a16, .ref a17, .ref a18, .ref a19, .ref a20])
    have lr20 := ((((((s16).trans (s17)).trans (s18)).trans (s19)).trans (s20)).trans (tp20)) _ _ hlr15
    refine ⟨r15, p20, _, _, rfl, rfl, lr20, upd_same, by show 20 ≤ _; decide, fun r20 nr20 => ?_⟩
    have tr20 := same_new nr20 (o := .lst ((([.ref a1, .ref a2, .ref a3, .ref a4, .ref a5] ++ [.ref a6, .ref a7, .ref a8, .ref a9, .ref a10]) ++ [.ref a11, .ref a12, .ref a13, .ref a14, .ref a15]) ++ [.ref a16, .ref a17, .ref a18, .ref a19, .ref a20]))
    have hlr20 := same_at nr20 (.lst ((([.ref a1, .ref a2, .ref a3, .ref a4, .ref a5] ++ [.ref a6, .ref a7, .ref a8, .ref a9, .ref a10]) ++ [.ref a11, .ref a12, .ref a13, .ref a14, .ref a15]) ++ [.ref a16, .ref a17, .ref a18, .ref a19, .ref a20]))
    refine ⟨.ref r20, rfl, u, rfl, rfl, rfl, fun a21 H21 s21 e21 => ⟨by show 1 ≤ sizeLine; decide, fun p21 np21 _ => ?_⟩⟩
    have tp21 := same_new np21 (o := .lst [.ref a21])
    have lr21 := ((s21).trans (tp21)) _ _ hlr20
    refine ⟨r20, p21, _, _, rfl, rfl, lr21, upd_same, by show 21 ≤ _; decide, fun r21 nr21 => ?_⟩
    have tr21 := same_new nr21 (o := .lst (((([.ref a1, .ref a2, .ref a3, .ref a4, .ref a5] ++ [.ref a6, .ref a7, .ref a8, .ref a9, .ref a10]) ++ [.ref a11, .ref a12, .ref a13, .ref a14, .ref a15]) ++ [.ref a16, .ref a17, .ref a18, .ref a19, .ref a20]) ++ [.ref a21]))
    have hlr21 := same_at nr21 (.lst (((([.ref a1, .ref a2, .ref a3, .ref a4, .ref a5] ++ [.ref a6, .ref a7, .ref a8, .ref a9, .ref a10]) ++ [.ref a11, .ref a12, .ref a13, .ref a14, .ref a15]) ++ [.ref a16, .ref a17, .ref a18, .ref a19, .ref a20]) ++ [.ref a21]))
    exact q r21 [a1, a2, a3, a4, a5, a6, a7, a8, a9, a10, a11, a12, a13, a14, a15, a16, a17, a18, a19, a20, a21] _ ((((((((((((((((((((((((((((((s1).trans (s2)).trans (s3)).trans (s4)).trans (s5)).trans (tp5)).trans (s6)).trans (s7)).trans (s8)).trans (s9)).trans (s10)).trans (tp10)).trans (tr10)).trans (s11)).trans (s12)).trans (s13)).trans (s14)).trans (s15)).trans (tp15)).trans (tr15)).trans (s16)).trans (s17)).trans (s18)).trans (s19)).trans (s20)).trans (tp20)).trans (tr20)).trans (s21)).trans (tp21)).trans (tr21)) rfl hlr21 ⟨e1.same (((((((((((((((((((((((((((((s2).trans (s3)).trans (s4)).trans (s5)).trans (tp5)).trans (s6)).trans (s7)).trans (s8)).trans (s9)).trans (s10)).trans (tp10)).trans (tr10)).trans (s11)).trans (s12)).trans (s13)).trans (s14)).trans (s15)).trans (tp15)).trans (tr15)).trans (s16)).trans (s17)).trans (s18)).trans (s19)).trans (s20)).trans (tp20)).trans (tr20)).trans (s21)).trans (tp21)).trans (tr21)), e2.same ((((((((((((((((((((((((((((s3).trans (s4)).trans (s5)).trans (tp5)).trans (s6)).trans (s7)).trans (s8)).trans (s9)).trans (s10)).trans (tp10)).trans (tr10)).trans (s11)).trans (s12)).trans (s13)).trans (s14)).trans (s15)).trans (tp15)).trans (tr15)).trans (s16)).trans (s17)).trans (s18)).trans (s19)).trans (s20)).trans (tp20)).trans (tr20)).trans (s21)).trans (tp21)).trans (tr21)), e3.same (((((((((((((((((((((((((((s4).trans (s5)).trans (tp5)).trans (s6)).trans (s7)).trans (s8)).trans (s9)).trans (s10)).trans (tp10)).trans (tr10)).trans (s11)).trans (s12)).trans (s13)).trans (s14)).trans (s15)).trans (tp15)).trans (tr15)).trans (s16)).trans (s17)).trans (s18)).trans (s19)).trans (s20)).trans (tp20)).trans (tr20)).trans (s21)).trans (tp21)).trans (tr21)), e4.same ((((((((((((((((((((((((((s5).trans (tp5)).trans (s6)).trans (s7)).trans (s8)).trans (s9)).trans (s10)).trans (tp10)).trans (tr10)).trans (s11)).trans (s12)).trans (s13)).trans (s14)).trans (s15)).trans (tp15)).trans (tr15)).trans (s16)).trans (s17)).trans (s18)).trans (s19)).trans (s20)).trans (tp20)).trans (tr20)).trans (s21)).trans (tp21)).trans (tr21)), e5.same (((((((((((((((((((((((((tp5).trans (s6)).trans (s7)).trans (s8)).trans (s9)).trans (s10)).trans (tp10)).trans (tr10)).trans (s11)).trans (s12)).trans (s13)).trans (s14)).trans (s15)).trans (tp15)).trans (tr15)).trans (s16)).trans (s17)).trans (s18)).trans (s19)).trans (s20)).trans (tp20)).trans (tr20)).trans (s21)).trans (tp21)).trans (tr21)), e6.same (((((((((((((((((((((((s7).trans (s8)).trans (s9)).trans (s10)).trans (tp10)).trans (tr10)).trans (s11)).trans (s12)).trans (s13)).trans (s14)).trans (s15)).trans (tp15)).trans (tr15)).trans (s16)).trans (s17)).trans (s18)).trans (s19)).trans (s20)).trans (tp20)).trans (tr20)).trans (s21)).trans (tp21)).trans (tr21)), e7.same ((((((((((((((((((((((s8).trans (s9)).trans (s10)).trans (tp10)).trans (tr10)).trans (s11)).trans (s12)).trans (s13)).trans (s14)).trans (s15)).trans (tp15)).trans (tr15)).trans (s16)).trans (s17)).trans (s18)).trans (s19)).trans (s20)).trans (tp20)).trans (tr20)).trans (s21)).trans (tp21)).trans (tr21)), e8.same (((((((((((((((((((((s9).trans (s10)).trans (tp10)).trans (tr10)).trans (s11)).trans (s12)).trans (s13)).trans (s14)).trans (s15)).trans (tp15)).trans (tr15)).trans (s16)).trans (s17)).trans (s18)).trans (s19)).trans (s20)).trans (tp20)).trans (tr20)).trans (s21)).trans (tp21)).trans (tr21)), e9.same ((((((((((((((((((((s10).trans (tp10)).trans (tr10)).trans (s11)).trans (s12)).trans (s13)).trans (s14)).trans (s15)).trans (tp15)).trans (tr15)).trans (s16)).trans (s17)).trans (s18)).trans (s19)).trans (s20)).trans (tp20)).trans (tr20)).trans (s21)).trans (tp21)).trans (tr21)), e10.same (((((((((((((((((((tp10).trans (tr10)).trans (s11)).trans (s12)).trans (s13)).trans (s14)).trans (s15)).trans (tp15)).trans (tr15)).trans (s16)).trans (s17)).trans (s18)).trans (s19)).trans (s20)).trans (tp20)).trans (tr20)).trans (s21)).trans (tp21)).trans (tr21)), e11.same ((((((((((((((((s12).trans (s13)).trans (s14)).trans (s15)).trans (tp15)).trans (tr15)).trans (s16)).trans (s17)).trans (s18)).trans (s19)).trans (s20)).trans (tp20)).trans (tr20)).trans (s21)).trans (tp21)).trans (tr21)), e12.same (((((((((((((((s13).trans (s14)).trans (s15)).trans (tp15)).trans (tr15)).trans (s16)).trans (s17)).trans (s18)).trans (s19)).trans (s20)).trans (tp20)).trans (tr20)).trans (s21)).trans (tp21)).trans (tr21)), e13.same ((((((((((((((s14).trans (s15)).trans (tp15)).trans (tr15)).trans (s16)).trans (s17)).trans (s18)).trans (s19)).trans (s20)).trans (tp20)).trans (tr20)).trans (s21)).trans (tp21)).trans (tr21)), e14.same (((((((((((((s15).trans (tp15)).trans (tr15)).trans (s16)).trans (s17)).trans (s18)).trans (s19)).trans (s20)).trans (tp20)).trans (tr20)).trans (s21)).trans (tp21)).trans (tr21)), e15.same ((((((((((((tp15).trans (tr15)).trans (s16)).trans (s17)).trans (s18)).trans (s19)).trans (s20)).trans (tp20)).trans (tr20)).trans (s21)).trans (tp21)).trans (tr21)), e16.same (((((((((s17).trans (s18)).trans (s19)).trans (s20)).trans (tp20)).trans (tr20)).trans (s21)).trans (tp21)).trans (tr21)), e17.same ((((((((s18).trans (s19)).trans (s20)).trans (tp20)).trans (tr20)).trans (s21)).trans (tp21)).trans (tr21)), e18.same (((((((s19).trans (s20)).trans (tp20)).trans (tr20)).trans (s21)).trans (tp21)).trans (tr21)), e19.same ((((((s20).trans (tp20)).trans (tr20)).trans (s21)).trans (tp21)).trans (tr21)), e20.same (((((tp20).trans (tr20)).trans (s21)).trans (tp21)).trans (tr21)), e21.same ((tp21).trans (tr21)), trivial⟩
theorem ok_law_others (T : Txt K mg) (Z : Tz K mg c f) : Cal P w K mg base 3 "_law_others" (spOther c) := by
  obtain ⟨g, fd, F, b⟩ := T.d_law_others
  refine cal F b sc_law_others (fun vs H Q E h => ?_) (fun cdv A outer s H vs Q E hgd hr h => ?_)
  · obtain ⟨u, v, rfl, _⟩ := h
    rfl
  · have nd := sc_law_others.nd
    have hr2 := hr
    obtain ⟨u, v, rfl, q⟩ := h
    refine ⟨_, (pss_cons (ps_set (i := 2) nd rfl (.inl rfl) (pe_lstX (pa_cons (pe_mkP (mkP21 Z) hr2 (by decide) (by rfl) (pa_cons (pv 0) pa_nil)) (pa_cons (pe_mkP (mkP22 Z) hr2 (by decide) (by rfl) (pa_cons (pv 0) pa_nil)) (pa_cons (pe_mkP (mkP23 Z) hr2 (by decide) (by rfl) (pa_cons (pv 0) pa_nil)) (pa_cons (pe_mkP (mkP24 Z) hr2 (by decide) (by rfl) (pa_cons (pv 0) pa_nil)) (pa_cons (pe_mkP (mkP25 Z) hr2 (by decide) (by rfl) (pa_cons (pv 0) pa_nil)) (pa_cons (pe_mkP (mkP26 Z) hr2 (by decide) (by rfl) (pa_cons (pv 0) pa_nil)) pa_nil))))))))
      (pss_cons (ps_set (i := 2) nd rfl (.inl rfl) (pe_op op_cat (pv 2) (pe_lstX (pa_cons (pe_mkP (mkP27 Z) hr2 (by decide) (by rfl) (pa_cons (pv 0) pa_nil)) (pa_cons (pe_mkP (mkP28 Z) hr2 (by decide) (by rfl) (pa_cons (pv 0) pa_nil)) (pa_cons (pe_mkP (mkP29 Z) hr2 (by decide) (by rfl) (pa_cons (pv 0) pa_nil)) (pa_cons (pe_mkP (mkP30 Z) hr2 (by decide) (by rfl) (pa_cons (pv 0) pa_nil)) (pa_cons (pe_mkP (mkP31 Z) hr2 (by decide) (by rfl) (pa_cons (pv 0) pa_nil)) (pa_cons (pe_mkP (mkP32 Z) hr2 (by decide) (by rfl) (pa_cons (pv 0) pa_nil)) pa_nil)))))))))
      (pss_cons (ps_set (i := 2) nd rfl (.inl rfl) (pe_op op_cat (pv 2) (pe_lstX (pa_cons (pe_mkP (mkP33 Z) hr2 (by decide) (by rfl) (pa_cons (pv 0) (pa_cons (pv 1) pa_nil))) (pa_cons (pe_mkP (mkP34 Z) hr2 (by decide) (by rfl) (pa_cons (pv 0) (pa_cons (pv 1) pa_nil))) (pa_cons (pe_mkP (mkP35 Z) hr2 (by decide) (by rfl) (pa_cons (pv 0) (pa_cons (pv 1) pa_nil))) (pa_cons (pe_mkP (mkP36 Z) hr2 (by decide) (by rfl) (pa_cons (pv 0) (pa_cons (pv 1) pa_nil))) (pa_cons (pe_mkP (mkP37 Z) hr2 (by decide) (by rfl) (pa_cons (pv 0) (pa_cons (pv 1) pa_nil))) pa_nil))))))))
      (pss_one (ps_ret (pe_op op_cat (pv 2) (pe_lstX (pa_cons (pe_mk0 PySem.F.excBase_ValueError Z.q38 Z.kc38 (Z.g 38 (by decide)) (by rfl)) (pa_cons (pe_mk0 PySem.F.excBase_ValueError Z.q39 Z.kc39 (Z.g 39 (by decide)) (by rfl)) pa_nil))))))))), ?_⟩
    refine ⟨u, rfl, rfl, rfl, fun a1 H1 s1 e1 => ⟨u, rfl, rfl, rfl, fun a2 H2 s2 e2 => ⟨u, rfl, rfl, rfl, fun a3 H3 s3 e3 => ⟨u, rfl, rfl, rfl, fun a4 H4 s4 e4 => ⟨u, rfl, rfl, rfl, fun a5 H5 s5 e5 => ⟨u, rfl, rfl, rfl, fun a6 H6 s6 e6 => ⟨by show 6 ≤ sizeLine; decide, fun p6 np6 _ => ?_⟩⟩⟩⟩⟩⟩⟩
    have tp6 := same_new np6 (o := .lst [.ref a1, .ref a2, .ref a3, .ref a4, .ref a5, .ref a6])
    have hlp6 := same_at np6 (.lst [.ref a1, .ref a2, .ref a3, .ref a4, .ref a5, .ref a6])
    refine ⟨.ref p6, rfl, u, rfl, rfl, rfl, fun a7 H7 s7 e7 => ⟨u, rfl, rfl, rfl, fun a8 H8 s8 e8 => ⟨u, rfl, rfl, rfl, fun a9 H9 s9 e9 => ⟨u, rfl, rfl, rfl, fun a10 H10 s10 e10 => ⟨u, rfl, rfl, rfl, fun a11 H11 s11 e11 => ⟨u, rfl, rfl, rfl, fun a12 H12 s12 e12 => ⟨by show 6 ≤ sizeLine; decide, fun p12 np12 _ => ?_⟩⟩⟩⟩⟩⟩⟩
    have tp12 := same_new np12 (o := .lst [.ref a7, .ref a8, .ref a9, .ref a10, .ref a11, .ref a12])
    have lr12 := (((((((s7).trans (s8)).trans (s9)).trans (s10)).trans (s11)).trans (s12)).trans (tp12)) _ _ hlp6
    refine ⟨p6, p12, _, _, rfl, rfl, lr12, upd_same, by show 12 ≤ _; decide, fun r12 nr12 => ?_⟩
    have tr12 := same_new nr12 (o := .lst ([.ref a1, .ref a2, .ref a3, .ref a4, .ref a5, .ref a6] ++ [.ref a7, .ref a8, .ref a9, .ref a10, .ref a11, .ref a12]))
    have hlr12 := same_at nr12 (.lst ([.ref a1, .ref a2, .ref a3, .ref a4, .ref a5, .ref a6] ++ [.ref a7, .ref a8, .ref a9, .ref a10, .ref a11, .ref a12]))
    refine ⟨.ref r12, rfl, u, rfl, v, rfl, rfl, rfl, fun a13 H13 s13 e13 => ⟨u, rfl, v, rfl, rfl, rfl, fun a14 H14 s14 e14 => ⟨u, rfl, v, rfl, rfl, rfl, fun a15 H15 s15 e15 => ⟨u, rfl, v, rfl, rfl, rfl, fun a16 H16 s16 e16 => ⟨u, rfl, v, rfl, rfl, rfl, fun a17 H17 s17 e17 => ⟨by show 5 ≤ sizeLine; decide, fun p17 np17 _ => ?_⟩⟩⟩⟩⟩⟩
    have tp17 := same_new np17 (o := .lst [.ref a13, .ref a14, .ref a15, .ref a16, .ref a17])
    have lr17 := ((((((s13).trans (s14)).trans (s15)).trans (s16)).trans (s17)).trans (tp17)) _ _ hlr12
    refine ⟨r12, p17, _, _, rfl, rfl, lr17, upd_same, by show 17 ≤ _; decide, fun r17 nr17 => ?_⟩
    have tr17 := same_new nr17 (o := .lst (([.ref a1, .ref a2, .ref a3, .ref a4, .ref a5, .ref a6] ++ [.ref a7, .ref a8, .ref a9, .ref a10, .ref a11, .ref a12]) ++ [.ref a13, .ref a14, .ref a15, .ref a16, .ref a17]))
    have hlr17 := same_at nr17 (.lst (([.ref a1, .ref a2, .ref a3, .ref a4, .ref a5, .ref a6] ++ [.ref a7, .ref a8, .ref a9, .ref a10, .ref a11, .ref a12]) ++ [.ref a13, .ref a14, .ref a15, .ref a16, .ref a17]))
    refine ⟨.ref r17, rfl, fun a18 H18 s18 e18 => fun a19 H19 s19 e19 => ⟨by show 2 ≤ sizeLine; decide, fun p19 np19 _ => ?_⟩⟩
    have tp19 := same_new np19 (o := .lst [.ref a18, .ref a19])
    have lr19 := (((s18).trans (s19)).trans (tp19)) _ _ hlr17
    refine ⟨r17, p19, _, _, rfl, rfl, lr19, upd_same, by show 19 ≤ _; decide, fun r19 nr19 => ?_⟩
    have tr19 := same_new nr19 (o := .lst ((([.ref a1, .ref a2, .ref a3, .ref a4, .ref a5, .ref a6] ++ [.ref a7, .ref a8, .ref a9, .ref a10, .ref a11, .ref a12]) ++ [.ref a13, .ref a14, .ref a15, .ref a16, .ref a17]) ++ [.ref a18, .ref a19]))
    have hlr19 := same_at nr19 (.lst ((([.ref a1, .ref a2, .ref a3, .ref a4, .ref a5, .ref a6] ++ [.ref a7, .ref a8, .ref a9, .ref a10, .ref a11, .ref a12]) ++ [.ref a13, .ref a14, .ref a15, .ref a16, .ref a17]) ++ [.ref a18, .ref a19]))
    exact q r19 [a1, a2, a3, a4, a5, a6, a7, a8, a9, a10, a11, a12, a13, a14, a15, a16, a17, a18, a19] _ ((((((((((((((((((((((((((s1).trans (s2)).trans (s3)).trans (s4)).trans (s5)).trans (s6)).trans (tp6)).trans (s7)).trans (s8)).trans (s9)).trans (s10)).trans (s11)).trans (s12)).trans (tp12)).trans (tr12)).trans (s13)).trans (s14)).trans (s15)).trans (s16)).trans (s17)).trans (tp17)).trans (tr17)).trans (s18)).trans (s19)).trans (tp19)).trans (tr19)) rfl hlr19 ⟨e1.same (((((((((((((((((((((((((s2).trans (s3)).trans (s4)).trans (s5)).trans (s6)).trans (tp6)).trans (s7)).trans (s8)).trans (s9)).trans (s10)).trans (s11)).trans (s12)).trans (tp12)).trans (tr12)).trans (s13)).trans (s14)).trans (s15)).trans (s16)).trans (s17)).trans (tp17)).trans (tr17)).trans (s18)).trans (s19)).trans (tp19)).trans (tr19)), e2.same ((((((((((((((((((((((((s3).trans (s4)).trans (s5)).trans (s6)).trans (tp6)).trans (s7)).trans (s8)).trans (s9)).trans (s10)).trans (s11)).trans (s12)).trans (tp12)).trans (tr12)).trans (s13)).trans (s14)).trans (s15)).trans (s16)).trans (s17)).trans (tp17)).trans (tr17)).trans (s18)).trans (s19)).trans (tp19)).trans (tr19)), e3.same (((((((((((((((((((((((s4).trans (s5)).trans (s6)).trans (tp6)).trans (s7)).trans (s8)).trans (s9)).trans (s10)).trans (s11)).trans (s12)).trans (tp12)).trans (tr12)).trans (s13)).trans (s14)).trans (s15)).trans (s16)).trans (s17)).trans (tp17)).trans (tr17)).trans (s18)).trans (s19)).trans (tp19)).trans (tr19)), e4.same ((((((((((((((((((((((s5).trans (s6)).trans (tp6)).trans (s7)).trans (s8)).trans (s9)).trans (s10)).trans (s11)).trans (s12)).trans (tp12)).trans (tr12)).trans (s13)).trans (s14)).trans (s15)).trans (s16)).trans (s17)).trans (tp17)).trans (tr17)).trans (s18)).trans (s19)).trans (tp19)).trans (tr19)), e5.same (((((((((((((((((((((s6).trans (tp6)).trans (s7)).trans (s8)).trans (s9)).trans (s10)).trans (s11)).trans (s12)).trans (tp12)).trans (tr12)).trans (s13)).trans (s14)).trans (s15)).trans (s16)).trans (s17)).trans (tp17)).trans (tr17)).trans (s18)).trans (s19)).trans (tp19)).trans (tr19)), e6.same ((((((((((((((((((((tp6).trans (s7)).trans (s8)).trans (s9)).trans (s10)).trans (s11)).trans (s12)).trans (tp12)).trans (tr12)).trans (s13)).trans (s14)).trans (s15)).trans (s16)).trans (s17)).trans (tp17)).trans (tr17)).trans (s18)).trans (s19)).trans (tp19)).trans (tr19)), e7.same ((((((((((((((((((s8).trans (s9)).trans (s10)).trans (s11)).trans (s12)).trans (tp12)).trans (tr12)).trans (s13)).trans (s14)).trans (s15)).trans (s16)).trans (s17)).trans (tp17)).trans (tr17)).trans (s18)).trans (s19)).trans (tp19)).trans (tr19)), e8.same (((((((((((((((((s9).trans (s10)).trans (s11)).trans (s12)).trans (tp12)).trans (tr12)).trans (s13)).trans (s14)).trans (s15)).trans (s16)).trans (s17)).trans (tp17)).trans (tr17)).trans (s18)).trans (s19)).trans (tp19)).trans (tr19)), e9.same ((((((((((((((((s10).trans (s11)).trans (s12)).trans (tp12)).trans (tr12)).trans (s13)).trans (s14)).trans (s15)).trans (s16)).trans (s17)).trans (tp17)).trans (tr17)).trans (s18)).trans (s19)).trans (tp19)).trans (tr19)), e10.same (((((((((((((((s11).trans (s12)).trans (tp12)).trans (tr12)).trans (s13)).trans (s14)).trans (s15)).trans (s16)).trans (s17)).trans (tp17)).trans (tr17)).trans (s18)).trans (s19)).trans (tp19)).trans (tr19)), e11.same ((((((((((((((s12).trans (tp12)).trans (tr12)).trans (s13)).trans (s14)).trans (s15)).trans (s16)).trans (s17)).trans (tp17)).trans (tr17)).trans (s18)).trans (s19)).trans (tp19)).trans (tr19)), e12.same (((((((((((((tp12).trans (tr12)).trans (s13)).trans (s14)).trans (s15)).trans (s16)).trans (s17)).trans (tp17)).trans (tr17)).trans (s18)).trans (s19)).trans (tp19)).trans (tr19)), e13.same ((((((((((s14).trans (s15)).trans (s16)).trans (s17)).trans (tp17)).trans (tr17)).trans (s18)).trans (s19)).trans (tp19)).trans (tr19)), e14.same (((((((((s15).trans (s16)).trans (s17)).trans (tp17)).trans (tr17)).trans (s18)).trans (s19)).trans (tp19)).trans (tr19)), e15.same ((((((((s16).trans (s17)).trans (tp17)).trans (tr17)).trans (s18)).trans (s19)).trans (tp19)).trans (tr19)), e16.same (((((((s17).trans (tp17)).trans (tr17)).trans (s18)).trans (s19)).trans (tp19)).trans (tr19)), e17.same ((((((tp17).trans (tr17)).trans (s18)).trans (s19)).trans (tp19)).trans (tr19)), e18.same (((s19).trans (tp19)).trans (tr19)), e19.same ((tp19).trans (tr19)), trivial⟩
theorem ok_law_others_named (T : Txt K mg) (Z : Tz K mg c f) : Cal P w K mg base 3 "_law_others_named" (spOther c) := by
  obtain ⟨g, fd, F, b⟩ := T.d_law_others_named
  refine cal F b sc_law_others_named (fun vs H Q E h => ?_) (fun cdv A outer s H vs Q E hgd hr h => ?_)
  · obtain ⟨u, v, rfl, _⟩ := h
    rfl
  · have nd := sc_law_others_named.nd
    have hr2 := hr
    obtain ⟨u, v, rfl, q⟩ := h
    refine ⟨_, (pss_cons (ps_set (i := 2) nd rfl (.inl rfl) (pe_lstX (pa_cons (pe_mkK (mkK21 Z) hr2 (by rfl) (pk_cons (pv 0) pk_nil)) (pa_cons (pe_mkK (mkK22 Z) hr2 (by rfl) (pk_cons (pv 0) pk_nil)) (pa_cons (pe_mkK (mkK23 Z) hr2 (by rfl) (pk_cons (pv 0) pk_nil)) (pa_cons (pe_mkK (mkK24 Z) hr2 (by rfl) (pk_cons (pv 0) pk_nil)) (pa_cons (pe_mkK (mkK25 Z) hr2 (by rfl) (pk_cons (pv 0) pk_nil)) pa_nil)))))))
      (pss_cons (ps_set (i := 2) nd rfl (.inl rfl) (pe_op op_cat (pv 2) (pe_lstX (pa_cons (pe_mkK (mkK26 Z) hr2 (by rfl) (pk_cons (pv 0) pk_nil)) (pa_cons (pe_mkK (mkK27 Z) hr2 (by rfl) (pk_cons (pv 0) pk_nil)) (pa_cons (pe_mkK (mkK28 Z) hr2 (by rfl) (pk_cons (pv 0) pk_nil)) (pa_cons (pe_mkK (mkK29 Z) hr2 (by rfl) (pk_cons (pv 0) pk_nil)) (pa_cons (pe_mkK (mkK30 Z) hr2 (by rfl) (pk_cons (pv 0) pk_nil)) pa_nil))))))))
      (pss_cons (ps_set (i := 2) nd rfl (.inl rfl) (pe_op op_cat (pv 2) (pe_lstX (pa_cons (pe_mkK (mkK31 Z) hr2 (by rfl) (pk_cons (pv 0) pk_nil)) (pa_cons (pe_mkK (mkK32 Z) hr2 (by rfl) (pk_cons (pv 0) pk_nil)) (pa_cons (pe_mkK (mkK33 Z) hr2 (by rfl) (pk_cons (pv 1) (pk_cons (pv 0) pk_nil))) (pa_cons (pe_mkK (mkK34 Z) hr2 (by rfl) (pk_cons (pv 1) (pk_cons (pv 0) pk_nil))) pa_nil)))))))
      (pss_cons (ps_set (i := 2) nd rfl (.inl rfl) (pe_op op_cat (pv 2) (pe_lstX (pa_cons (pe_mkK (mkK35 Z) hr2 (by rfl) (pk_cons (pv 1) (pk_cons (pv 0) pk_nil))) (pa_cons (pe_mkK (mkK36 Z) hr2 (by rfl) (pk_cons (pv 1) (pk_cons (pv 0) pk_nil))) (pa_cons (pe_mkK (mkK37 Z) hr2 (by rfl) (pk_cons (pv 1) (pk_cons (pv 0) pk_nil))) pa_nil))))))
      (pss_one (ps_ret (pe_op op_cat (pv 2) (pe_lstX (pa_cons (pe_mk0 PySem.F.excBase_ValueError Z.q38 Z.kc38 (Z.g 38 (by decide)) (by rfl)) (pa_cons (pe_mk0 PySem.F.excBase_ValueError Z.q39 Z.kc39 (Z.g 39 (by decide)) (by rfl)) pa_nil)))))))))), ?_⟩
    refine ⟨u, rfl, rfl, rfl, fun a1 H1 s1 e1 => ⟨u, rfl, rfl, rfl, fun a2 H2 s2 e2 => ⟨u, rfl, rfl, rfl, fun a3 H3 s3 e3 => ⟨u, rfl, rfl, rfl, fun a4 H4 s4 e4 => ⟨u, rfl, rfl, rfl, fun a5 H5 s5 e5 => ⟨by show 5 ≤ sizeLine; decide, fun p5 np5 _ => ?_⟩⟩⟩⟩⟩⟩
    have tp5 := same_new np5 (o := .lst [.ref a1, .ref a2, .ref a3, .ref a4, .ref a5])
    have hlp5 := same_at np5 (.lst [.ref a1, .ref a2, .ref a3, .ref a4, .ref a5])
    refine ⟨.ref p5, rfl, u, rfl, rfl, rfl, fun a6 H6 s6 e6 => ⟨u, rfl, rfl, rfl, fun a7 H7 s7 e7 => ⟨u, rfl, rfl, rfl, fun a8 H8 s8 e8 => ⟨u, rfl, rfl, rfl, fun a9 H9 s9 e9 => ⟨u, rfl, rfl, rfl, fun a10 H10 s10 e10 => ⟨by show 5 ≤ sizeLine; decide, fun p10 np10 _ => ?_⟩⟩⟩⟩⟩⟩
    have tp10 := same_new np10 (o := .lst [.ref a6, .ref a7, .ref a8, .ref a9, .ref a10])
    have lr10 := ((((((s6).trans (s7)).trans (s8)).trans (s9)).trans (s10)).trans (tp10)) _ _ hlp5
    refine ⟨p5, p10, _, _, rfl, rfl, lr10, upd_same, by show 10 ≤ _; decide, fun r10 nr10 => ?_⟩
    have tr10 := same_new nr10 (o := .lst ([.ref a1, .ref a2, .ref a3, .ref a4, .ref a5] ++ [.ref a6, .ref a7, .ref a8, .ref a9, .ref a10]))
    have hlr10 := same_at nr10 (.lst ([.ref a1, .ref a2, .ref a3, .ref a4, .ref a5] ++ [.ref a6, .ref a7, .ref a8, .ref a9, .ref a10]))
    refine ⟨.ref r10, rfl, u, rfl, rfl, rfl, fun a11 H11 s11 e11 => ⟨u, rfl, rfl, rfl, fun a12 H12 s12 e12 => ⟨v, rfl, u, rfl, rfl, rfl, fun a13 H13 s13 e13 => ⟨v, rfl, u, rfl, rfl, rfl, fun a14 H14 s14 e14 => ⟨by show 4 ≤ sizeLine; decide, fun p14 np14 _ => ?_⟩⟩⟩⟩⟩
    have tp14 := same_new np14 (o := .lst [.ref a11, .ref a12, .ref a13, .ref a14])
    have lr14 := (((((s11).trans (s12)).trans (s13)).trans (s14)).trans (tp14)) _ _ hlr10
    refine ⟨r10, p14, _, _, rfl, rfl, lr14, upd_same, by show 14 ≤ _; decide, fun r14 nr14 => ?_⟩
    have tr14 := same_new nr14 (o := .lst (([.ref a1, .ref a2, .ref a3, .ref a4, .ref a5] ++ [.ref a6, .ref a7, .ref a8, .ref a9, .ref a10]) ++ [.ref a11, .ref a12, .ref a13, .ref a14]))
    have hlr14 := same_at nr14 (.lst (([.ref a1, .ref a2, .ref a3, .ref a4, .ref a5] ++ [.ref a6, .ref a7, .ref a8, .ref a9, .ref a10]) ++ [.ref a11, .ref a12, .ref a13, .ref a14]))
    refine ⟨.ref r14, rfl, v, rfl, u, rfl, rfl, rfl, fun a15 H15 s15 e15 => ⟨v, rfl, u, rfl, rfl, rfl, fun a16 H16 s16 e16 => ⟨v, rfl, u, rfl, rfl, rfl, fun a17 H17 s17 e17 => ⟨by show 3 ≤ sizeLine; decide, fun p17 np17 _ => ?_⟩⟩⟩⟩
    have tp17 := same_new np17 (o := .lst [.ref a15, .ref a16, .ref a17])
    have lr17 := ((((s15).trans (s16)).trans (s17)).trans (tp17)) _ _ hlr14
    refine ⟨r14, p17, _, _, rfl, rfl, lr17, upd_same, by show 17 ≤ _; decide, fun r17 nr17 => ?_⟩
    have tr17 := same_new nr17 (o := .lst ((([.ref a1, .ref a2, .ref a3, .ref a4, .ref a5] ++ [.ref a6, .ref a7, .ref a8, .ref a9, .ref a10]) ++ [.ref a11, .ref a12, .ref a13, .ref a14]) ++ [.ref a15, .ref a16, .ref a17]))
    have hlr17 := same_at nr17 (.lst ((([.ref a1, .ref a2, .ref a3, .ref a4, .ref a5] ++ [.ref a6, .ref a7, .ref a8, .ref a9, .ref a10]) ++ [.ref a11, .ref a12, .ref a13, .ref a14]) ++ [.ref a15, .ref a16, .ref a17]))
    refine ⟨.ref r17, rfl, fun a18 H18 s18 e18 => fun a19 H19 s19 e19 => ⟨by show 2 ≤ sizeLine; decide, fun p19 np19 _ => ?_⟩⟩
    have tp19 := same_new np19 (o := .lst [.ref a18, .ref a19])
    have lr19 := (((s18).trans (s19)).trans (tp19)) _ _ hlr17
    refine ⟨r17, p19, _, _, rfl, rfl, lr19, upd_same, by show 19 ≤ _; decide, fun r19 nr19 => ?_⟩
    have tr19 := same_new nr19 (o := .lst (((([.ref a1, .ref a2, .ref a3, .ref a4, .ref a5] ++ [.ref a6, .ref a7, .ref a8, .ref a9, .ref a10]) ++ [.ref a11, .ref a12, .ref a13, .ref a14]) ++ [.ref a15, .ref a16, .ref a17]) ++ [.ref a18, .ref a19]))
    have hlr19 := same_at nr19 (.lst (((([.ref a1, .ref a2, .ref a3, .ref a4, .ref a5] ++ [.ref a6, .ref a7, .ref a8, .ref a9, .ref a10]) ++ [.ref a11, .ref a12, .ref a13, .ref a14]) ++ [.ref a15, .ref a16, .ref a17]) ++ [.ref a18, .ref a19]))
    exact q r19 [a1, a2, a3, a4, a5, a6, a7, a8, a9, a10, a11, a12, a13, a14, a15, a16, a17, a18, a19] _ ((((((((((((((((((((((((((((s1).trans (s2)).trans (s3)).trans (s4)).trans (s5)).trans (tp5)).trans (s6)).trans (s7)).trans (s8)).trans (s9)).trans (s10)).trans (tp10)).trans (tr10)).trans (s11)).trans (s12)).trans (s13)).trans (s14)).trans (tp14)).trans (tr14)).trans (s15)).trans (s16)).trans (s17)).trans (tp17)).trans (tr17)).trans (s18)).trans (s19)).trans (tp19)).trans (tr19)) rfl hlr19 ⟨e1.same (((((((((((((((((((((((((((s2).trans (s3)).trans (s4)).trans (s5)).trans (tp5)).trans (s6)).trans (s7)).trans (s8)).trans (s9)).trans (s10)).trans (tp10)).trans (tr10)).trans (s11)).trans (s12)).trans (s13)).trans (s14)).trans (tp14)).trans (tr14)).trans (s15)).trans (s16)).trans (s17)).trans (tp17)).trans (tr17)).trans (s18)).trans (s19)).trans (tp19)).trans (tr19)), e2.same ((((((((((((((((((((((((((s3).trans (s4)).trans (s5)).trans (tp5)).trans (s6)).trans (s7)).trans (s8)).trans (s9)).trans (s10)).trans (tp10)).trans (tr10)).trans (s11)).trans (s12)).trans (s13)).trans (s14)).trans (tp14)).trans (tr14)).trans (s15)).trans (s16)).trans (s17)).trans (tp17)).trans (tr17)).trans (s18)).trans (s19)).trans (tp19)).trans (tr19)), e3.same (((((((((((((((((((((((((s4).trans (s5)).trans (tp5)).trans (s6)).trans (s7)).trans (s8)).trans (s9)).trans (s10)).trans (tp10)).trans (tr10)).trans (s11)).trans (s12)).trans (s13)).trans (s14)).trans (tp14)).trans (tr14)).trans (s15)).trans (s16)).trans (s17)).trans (tp17)).trans (tr17)).trans (s18)).trans (s19)).trans (tp19)).trans (tr19)), e4.same ((((((((((((((((((((((((s5).trans (tp5)).trans (s6)).trans (s7)).trans (s8)).trans (s9)).trans (s10)).trans (tp10)).trans (tr10)).trans (s11)).trans (s12)).trans (s13)).trans (s14)).trans (tp14)).trans (tr14)).trans (s15)).trans (s16)).trans (s17)).trans (tp17)).trans (tr17)).trans (s18)).trans (s19)).trans (tp19)).trans (tr19)), e5.same (((((((((((((((((((((((tp5).trans (s6)).trans (s7)).trans (s8)).trans (s9)).trans (s10)).trans (tp10)).trans (tr10)).trans (s11)).trans (s12)).trans (s13)).trans (s14)).trans (tp14)).trans (tr14)).trans (s15)).trans (s16)).trans (s17)).trans (tp17)).trans (tr17)).trans (s18)).trans (s19)).trans (tp19)).trans (tr19)), e6.same (((((((((((((((((((((s7).trans (s8)).trans (s9)).trans (s10)).trans (tp10)).trans (tr10)).trans (s11)).trans (s12)).trans (s13)).trans (s14)).trans (tp14)).trans (tr14)).trans (s15)).trans (s16)).trans (s17)).trans (tp17)).trans (tr17)).trans (s18)).trans (s19)).trans (tp19)).trans (tr19)), e7.same ((((((((((((((((((((s8).trans (s9)).trans (s10)).trans (tp10)).trans (tr10)).trans (s11)).trans (s12)).trans (s13)).trans (s14)).trans (tp14)).trans (tr14)).trans (s15)).trans (s16)).trans (s17)).trans (tp17)).trans (tr17)).trans (s18)).trans (s19)).trans (tp19)).trans (tr19)), e8.same (((((((((((((((((((s9).trans (s10)).trans (tp10)).trans (tr10)).trans (s11)).trans (s12)).trans (s13)).trans (s14)).trans (tp14)).trans (tr14)).trans (s15)).trans (s16)).trans (s17)).trans (tp17)).trans (tr17)).trans (s18)).trans (s19)).trans (tp19)).trans (tr19)), e9.same ((((((((((((((((((s10).trans (tp10)).trans (tr10)).trans (s11)).trans (s12)).trans (s13)).trans (s14)).trans (tp14)).trans (tr14)).trans (s15)).trans (s16)).trans (s17)).trans (tp17)).trans (tr17)).trans (s18)).trans (s19)).trans (tp19)).trans (tr19)), e10.same (((((((((((((((((tp10).trans (tr10)).trans (s11)).trans (s12)).trans (s13)).trans (s14)).trans (tp14)).trans (tr14)).trans (s15)).trans (s16)).trans (s17)).trans (tp17)).trans (tr17)).trans (s18)).trans (s19)).trans (tp19)).trans (tr19)), e11.same ((((((((((((((s12).trans (s13)).trans (s14)).trans (tp14)).trans (tr14)).trans (s15)).trans (s16)).trans (s17)).trans (tp17)).trans (tr17)).trans (s18)).trans (s19)).trans (tp19)).trans (tr19)), e12.same (((((((((((((s13).trans (s14)).trans (tp14)).trans (tr14)).trans (s15)).trans (s16)).trans (s17)).trans (tp17)).trans (tr17)).trans (s18)).trans (s19)).trans (tp19)).trans (tr19)), e13.same ((((((((((((s14).trans (tp14)).trans (tr14)).trans (s15)).trans (s16)).trans (s17)).trans (tp17)).trans (tr17)).trans (s18)).trans (s19)).trans (tp19)).trans (tr19)), e14.same (((((((((((tp14).trans (tr14)).trans (s15)).trans (s16)).trans (s17)).trans (tp17)).trans (tr17)).trans (s18)).trans (s19)).trans (tp19)).trans (tr19)), e15.same ((((((((s16).trans (s17)).trans (tp17)).trans (tr17)).trans (s18)).trans (s19)).trans (tp19)).trans (tr19)), e16.same (((((((s17).trans (tp17)).trans (tr17)).trans (s18)).trans (s19)).trans (tp19)).trans (tr19)), e17.same ((((((tp17).trans (tr17)).trans (s18)).trans (s19)).trans (tp19)).trans (tr19)), e18.same (((s19).trans (tp19)).trans (tr19)), e19.same ((tp19).trans (tr19)), trivial⟩
end
end K00

set_option Elab.async false
set_option linter.all false
set_option maxRecDepth 100000
set_option maxHeartbeats 2000000
namespace K00
open PySem PySem.Spec PyProof.Rows L2 Gd
def spFields (c : Nat → Addr) : Sp := fun vs H Q _ => ∃ (e : Addr) (i : Nat) (xs : List V), vs = [.ref e, .int i] ∧ i < 40 ∧ xs.length = (fldC i).length ∧ ErrAt (c i) (fsV (fldC i) xs) H e ∧
  ∀ (p : Addr) (H' : Hp), Same H H' → p ≠ sysModules → H' p = some (.lst xs) → Q (.ref p) H'
def spKin (c : Nat → Addr) : Sp := fun vs H Q _ => ∃ (e : Addr) (i : Nat) (fs : List (Str × V)), vs = [.ref e] ∧ i < 41 ∧ ErrAt (c i) fs H e ∧
  ∀ (p : Addr) (H' : Hp), Same H H' → H' p = some (.lst ((List.range 40).map fun j => V.bl (kinB i j))) → Q (.ref p) H'
theorem f21 : ∀ i, i < 21 → fldC i = [("part" : Str)] := by decide +kernel
theorem f28 : ∀ i, i < 28 → ¬ i < 21 → fldC i = [("name" : Str)] := by decide +kernel
section
variable {P : Program} {w : World} {K : PySem.W.Frag} {mg : Str → Option Value} {base : Heap} {c f : Nat → Addr}
theorem ok_fields (T : Txt K mg) (Z : Tz K mg c f) : Cal P w K mg base 1 "_law_fields" (spFields c) := by
  obtain ⟨g, fd, F, b⟩ := T.d_law_fields
  refine cal F b sc_law_fields (fun vs H Q E h => ?_) (fun cdv A outer s H vs Q E hgd hr h => ?_)
  · obtain ⟨e, i, xs, rfl, _⟩ := h
    rfl
  · have nd := sc_law_fields.nd
    obtain ⟨e, i, xs, rfl, hi, hl, hE, q⟩ := h
    refine ⟨_, (pss_cons (ps_if (pt_cmpR op_lt (pv 1) pe_int (nomark _)) (pss_one (ps_ret (pe_lstX (pa_cons (pe_fld (pv 0)) pa_nil)))) pss_nil)
      (pss_cons (ps_if (pt_cmpR op_lt (pv 1) pe_int (nomark _)) (pss_one (ps_ret (pe_lstX (pa_cons (pe_fld (pv 0)) pa_nil)))) pss_nil)
      (pss_cons (ps_if (pt_cmpR op_lt (pv 1) pe_int (nomark _)) (pss_one (ps_ret (pe_ifExp (pt_cmpR op_eq (pv 1) pe_int (nomark _)) (pe_lstX (pa_cons (pe_fld (pv 0)) pa_nil)) (pe_lstX (pa_cons (pe_fld (pv 0)) pa_nil))))) pss_nil)
      (pss_cons (ps_if (pt_cmpR op_lt (pv 1) pe_int (nomark _)) (pss_one (ps_ret (pe_ifExp (pt_cmpR op_eq (pv 1) pe_int (nomark _)) (pe_lstX (pa_cons (pe_fld (pv 0)) pa_nil)) (pe_lstX (pa_cons (pe_fld (pv 0)) pa_nil))))) pss_nil)
      (pss_cons (ps_if (pt_cmpR op_lt (pv 1) pe_int (nomark _)) (pss_one (ps_ret (pe_ifExp (pt_cmpR op_eq (pv 1) pe_int (nomark _)) (pe_lstX (pa_cons (pe_fld (pv 0)) (pa_cons (pe_fld (pv 0)) pa_nil))) (pe_lstX (pa_cons (pe_fld (pv 0)) (pa_cons (pe_fld (pv 0)) pa_nil)))))) pss_nil)
      (pss_cons (ps_if (pt_cmpR op_lt (pv 1) pe_int (nomark _)) (pss_one (ps_ret (pe_ifExp (pt_cmpR op_eq (pv 1) pe_int (nomark _)) (pe_lstX (pa_cons (pe_fld (pv 0)) (pa_cons (pe_fld (pv 0)) pa_nil))) (pe_lstX (pa_cons (pe_fld (pv 0)) (pa_cons (pe_fld (pv 0)) pa_nil)))))) pss_nil)
      (pss_one (ps_ret (pe_ifExp (pt_cmpR op_eq (pv 1) pe_int (nomark _)) (pe_lstX (pa_cons (pe_fld (pv 0)) (pa_cons (pe_fld (pv 0)) pa_nil))) (pe_lstX pa_nil)))))))))), ?_⟩
    have one : ∀ n : Str, n ∈ allF → fldC i = [n] → ∃ x, xs = [x] ∧ ErrAt (c i) [(n, x)] H e ∧ PySem.W.findIn K (.ref (c i)) n = some none ∧ List.lookup n [(n, x)] = some x := by
      intro n hn hf
      rw [hf] at hl hE
      match xs, hl with
      | [x], _ => exact ⟨x, rfl, hE, Z.no i (by omega) n hn, by simp [List.lookup]⟩
    have two : ∀ n m : Str, n ∈ allF → m ∈ allF → n ≠ m → fldC i = [n, m] → ∃ x y, xs = [x, y] ∧ ErrAt (c i) [(m, y), (n, x)] H e ∧ PySem.W.findIn K (.ref (c i)) n = some none ∧ PySem.W.findIn K (.ref (c i)) m = some none ∧
        List.lookup n [(m, y), (n, x)] = some x ∧ List.lookup m [(m, y), (n, x)] = some y := by
      intro n m hn hm hnm hf
      rw [hf] at hl hE
      match xs, hl with
      | [x, y], _ => exact ⟨x, y, rfl, hE, Z.no i (by omega) n hn, Z.no i (by omega) m hm, by simp [List.lookup, (beq_eq_false_iff_ne.mpr hnm : (n == m) = false)], by simp [List.lookup]⟩
    have ec := Z.ec i (by omega)
    refine ⟨.int i, rfl, _, _, rfl, rfl, _, rfl, ite2 (fun t => ?_) (fun t => ?_)⟩
    · have h1 : i < 21 := by have := of_decide_eq_true t; omega
      obtain ⟨x, rfl, hE1, no, lk⟩ := one "part" (by decide) (f21 i h1)
      exact ⟨.ref e, rfl, e, c i, _, x, rfl, hE1, ec, no, lk, by show 1 ≤ sizeLine; decide, fun p np ns => q p _ (same_new np) ns upd_same⟩
    have h1 : ¬ i < 21 := fun z => t (decide_eq_true (by omega))
    refine ⟨.int i, rfl, _, _, rfl, rfl, _, rfl, ite2 (fun t => ?_) (fun t => ?_)⟩
    · have h2 : i < 28 := by have := of_decide_eq_true t; omega
      obtain ⟨x, rfl, hE1, no, lk⟩ := one "name" (by decide) (f28 i h2 h1)
      exact ⟨.ref e, rfl, e, c i, _, x, rfl, hE1, ec, no, lk, by show 1 ≤ sizeLine; decide, fun p np ns => q p _ (same_new np) ns upd_same⟩
    have h2 : ¬ i < 28 := fun z => t (decide_eq_true (by omega))
    refine ⟨.int i, rfl, _, _, rfl, rfl, _, rfl, ite2 (fun t => ?_) (fun t => ?_)⟩
    · have h3 : i < 30 := by have := of_decide_eq_true t; omega
      refine ⟨.int i, rfl, rfl, _, rfl, ite2 (fun t2 => ?_) (fun t2 => ?_)⟩
      · have e1 : i = 28 := by have := V.int.inj (of_decide_eq_true t2); omega
        obtain ⟨x, rfl, hE1, no, lk⟩ := one "number" (by decide) (by rw [e1]; rfl)
        exact ⟨.ref e, rfl, e, c i, _, x, rfl, hE1, ec, no, lk, by show 1 ≤ sizeLine; decide, fun p np ns => q p _ (same_new np) ns upd_same⟩
      · have e1 : i ≠ 28 := fun z => t2 (decide_eq_true (by rw [z]; rfl))
        obtain ⟨x, rfl, hE1, no, lk⟩ := one "why" (by decide) (by rw [show i = 29 by omega]; rfl)
        exact ⟨.ref e, rfl, e, c i, _, x, rfl, hE1, ec, no, lk, by show 1 ≤ sizeLine; decide, fun p np ns => q p _ (same_new np) ns upd_same⟩
    have h2 : ¬ i < 30 := fun z => t (decide_eq_true (by omega))
    refine ⟨.int i, rfl, _, _, rfl, rfl, _, rfl, ite2 (fun t => ?_) (fun t => ?_)⟩
    · have h3 : i < 33 := by have := of_decide_eq_true t; omega
      refine ⟨.int i, rfl, rfl, _, rfl, ite2 (fun t2 => ?_) (fun t2 => ?_)⟩
      · have e1 : i = 32 := by have := V.int.inj (of_decide_eq_true t2); omega
        obtain ⟨x, rfl, hE1, no, lk⟩ := one "sight" (by decide) (by rw [e1]; rfl)
        exact ⟨.ref e, rfl, e, c i, _, x, rfl, hE1, ec, no, lk, by show 1 ≤ sizeLine; decide, fun p np ns => q p _ (same_new np) ns upd_same⟩
      · have e1 : i ≠ 32 := fun z => t2 (decide_eq_true (by rw [z]; rfl))
        obtain ⟨x, rfl, hE1, no, lk⟩ := one "what" (by decide) (by rcases (show i = 30 ∨ i = 31 by omega) with rfl | rfl <;> rfl)
        exact ⟨.ref e, rfl, e, c i, _, x, rfl, hE1, ec, no, lk, by show 1 ≤ sizeLine; decide, fun p np ns => q p _ (same_new np) ns upd_same⟩
    have h2 : ¬ i < 33 := fun z => t (decide_eq_true (by omega))
    refine ⟨.int i, rfl, _, _, rfl, rfl, _, rfl, ite2 (fun t => ?_) (fun t => ?_)⟩
    · have h3 : i < 35 := by have := of_decide_eq_true t; omega
      refine ⟨.int i, rfl, rfl, _, rfl, ite2 (fun t2 => ?_) (fun t2 => ?_)⟩
      · have e1 : i = 33 := by have := V.int.inj (of_decide_eq_true t2); omega
        obtain ⟨x, y, rfl, hE1, no, no2, lk, lk2⟩ := two "page" "sight" (by decide) (by decide) (by decide) (by rw [e1]; rfl)
        exact ⟨.ref e, rfl, e, c i, _, x, rfl, hE1, ec, no, lk, .ref e, rfl, e, c i, _, y, rfl, hE1, ec, no2, lk2, by show 2 ≤ sizeLine; decide, fun p np ns => q p _ (same_new np) ns upd_same⟩
      · have e1 : i ≠ 33 := fun z => t2 (decide_eq_true (by rw [z]; rfl))
        obtain ⟨x, y, rfl, hE1, no, no2, lk, lk2⟩ := two "state" "place" (by decide) (by decide) (by decide) (by rw [show i = 34 by omega]; rfl)
        exact ⟨.ref e, rfl, e, c i, _, x, rfl, hE1, ec, no, lk, .ref e, rfl, e, c i, _, y, rfl, hE1, ec, no2, lk2, by show 2 ≤ sizeLine; decide, fun p np ns => q p _ (same_new np) ns upd_same⟩
    have h2 : ¬ i < 35 := fun z => t (decide_eq_true (by omega))
    refine ⟨.int i, rfl, _, _, rfl, rfl, _, rfl, ite2 (fun t => ?_) (fun t => ?_)⟩
    · have h3 : i < 37 := by have := of_decide_eq_true t; omega
      refine ⟨.int i, rfl, rfl, _, rfl, ite2 (fun t2 => ?_) (fun t2 => ?_)⟩
      · have e1 : i = 35 := by have := V.int.inj (of_decide_eq_true t2); omega
        obtain ⟨x, y, rfl, hE1, no, no2, lk, lk2⟩ := two "what" "most" (by decide) (by decide) (by decide) (by rw [e1]; rfl)
        exact ⟨.ref e, rfl, e, c i, _, x, rfl, hE1, ec, no, lk, .ref e, rfl, e, c i, _, y, rfl, hE1, ec, no2, lk2, by show 2 ≤ sizeLine; decide, fun p np ns => q p _ (same_new np) ns upd_same⟩
      · have e1 : i ≠ 35 := fun z => t2 (decide_eq_true (by rw [z]; rfl))
        obtain ⟨x, y, rfl, hE1, no, no2, lk, lk2⟩ := two "line" "word" (by decide) (by decide) (by decide) (by rw [show i = 36 by omega]; rfl)
        exact ⟨.ref e, rfl, e, c i, _, x, rfl, hE1, ec, no, lk, .ref e, rfl, e, c i, _, y, rfl, hE1, ec, no2, lk2, by show 2 ≤ sizeLine; decide, fun p np ns => q p _ (same_new np) ns upd_same⟩
    have h2 : ¬ i < 37 := fun z => t (decide_eq_true (by omega))
    refine ⟨.int i, rfl, rfl, _, rfl, ite2 (fun t2 => ?_) (fun t2 => ?_)⟩
    · have e1 : i = 37 := by have := V.int.inj (of_decide_eq_true t2); omega
      obtain ⟨x, y, rfl, hE1, no, no2, lk, lk2⟩ := two "line" "error" (by decide) (by decide) (by decide) (by rw [e1]; rfl)
      exact ⟨.ref e, rfl, e, c i, _, x, rfl, hE1, ec, no, lk, .ref e, rfl, e, c i, _, y, rfl, hE1, ec, no2, lk2, by show 2 ≤ sizeLine; decide, fun p np ns => q p _ (same_new np) ns upd_same⟩
    · have e1 : i ≠ 37 := fun z => t2 (decide_eq_true (by rw [z]; rfl))
      have hf : fldC i = [] := by rcases (show i = 38 ∨ i = 39 by omega) with rfl | rfl <;> rfl
      rw [hf] at hl
      match xs, hl with
      | [], _ => exact ⟨Nat.zero_le _, fun p np ns => q p _ (same_new np) ns upd_same⟩
theorem ok_kin (T : Txt K mg) (Z : Tz K mg c f) : Cal P w K mg base 1 "_law_kin" (spKin c) := by
  obtain ⟨g, fd, F, b⟩ := T.d_law_kin
  refine cal F b sc_law_kin (fun vs H Q E h => ?_) (fun cdv A outer s H vs Q E hgd hr h => ?_)
  · obtain ⟨e, i, fs, rfl, _⟩ := h
    rfl
  · have nd := sc_law_kin.nd
    obtain ⟨e, i, fs, rfl, hi, hE, q⟩ := h
    have ec := Z.ec i hi
    have eg := Z.eg
    refine ⟨_, (pss_cons (ps_set (i := 1) nd rfl (.inl rfl) (pe_lstX (pa_cons (pe_callB call_isX (by rfl) T.z_isinstance (by decide +kernel) (pa_cons (pv 0) (pa_cons (C8.pe_gc (by rfl) (gC Z 0 (by decide))) pa_nil))) (pa_cons (pe_callB call_isX (by rfl) T.z_isinstance (by decide +kernel) (pa_cons (pv 0) (pa_cons (C8.pe_gc (by rfl) (gC Z 1 (by decide))) pa_nil))) (pa_cons (pe_callB call_isX (by rfl) T.z_isinstance (by decide +kernel) (pa_cons (pv 0) (pa_cons (C8.pe_gc (by rfl) (gC Z 2 (by decide))) pa_nil))) pa_nil)))))
      (pss_cons (ps_set (i := 1) nd rfl (.inl rfl) (pe_op op_cat (pv 1) (pe_lstX (pa_cons (pe_callB call_isX (by rfl) T.z_isinstance (by decide +kernel) (pa_cons (pv 0) (pa_cons (C8.pe_gc (by rfl) (gC Z 3 (by decide))) pa_nil))) (pa_cons (pe_callB call_isX (by rfl) T.z_isinstance (by decide +kernel) (pa_cons (pv 0) (pa_cons (C8.pe_gc (by rfl) (gC Z 4 (by decide))) pa_nil))) (pa_cons (pe_callB call_isX (by rfl) T.z_isinstance (by decide +kernel) (pa_cons (pv 0) (pa_cons (C8.pe_gc (by rfl) (gC Z 5 (by decide))) pa_nil))) pa_nil))))))
      (pss_cons (ps_set (i := 1) nd rfl (.inl rfl) (pe_op op_cat (pv 1) (pe_lstX (pa_cons (pe_callB call_isX (by rfl) T.z_isinstance (by decide +kernel) (pa_cons (pv 0) (pa_cons (C8.pe_gc (by rfl) (gC Z 6 (by decide))) pa_nil))) (pa_cons (pe_callB call_isX (by rfl) T.z_isinstance (by decide +kernel) (pa_cons (pv 0) (pa_cons (C8.pe_gc (by rfl) (gC Z 7 (by decide))) pa_nil))) (pa_cons (pe_callB call_isX (by rfl) T.z_isinstance (by decide +kernel) (pa_cons (pv 0) (pa_cons (C8.pe_gc (by rfl) (gC Z 8 (by decide))) pa_nil))) pa_nil))))))
      (pss_cons (ps_set (i := 1) nd rfl (.inl rfl) (pe_op op_cat (pv 1) (pe_lstX (pa_cons (pe_callB call_isX (by rfl) T.z_isinstance (by decide +kernel) (pa_cons (pv 0) (pa_cons (C8.pe_gc (by rfl) (gC Z 9 (by decide))) pa_nil))) (pa_cons (pe_callB call_isX (by rfl) T.z_isinstance (by decide +kernel) (pa_cons (pv 0) (pa_cons (C8.pe_gc (by rfl) (gC Z 10 (by decide))) pa_nil))) (pa_cons (pe_callB call_isX (by rfl) T.z_isinstance (by decide +kernel) (pa_cons (pv 0) (pa_cons (C8.pe_gc (by rfl) (gC Z 11 (by decide))) pa_nil))) pa_nil))))))
      (pss_cons (ps_set (i := 1) nd rfl (.inl rfl) (pe_op op_cat (pv 1) (pe_lstX (pa_cons (pe_callB call_isX (by rfl) T.z_isinstance (by decide +kernel) (pa_cons (pv 0) (pa_cons (C8.pe_gc (by rfl) (gC Z 12 (by decide))) pa_nil))) (pa_cons (pe_callB call_isX (by rfl) T.z_isinstance (by decide +kernel) (pa_cons (pv 0) (pa_cons (C8.pe_gc (by rfl) (gC Z 13 (by decide))) pa_nil))) (pa_cons (pe_callB call_isX (by rfl) T.z_isinstance (by decide +kernel) (pa_cons (pv 0) (pa_cons (C8.pe_gc (by rfl) (gC Z 14 (by decide))) pa_nil))) pa_nil))))))
      (pss_cons (ps_set (i := 1) nd rfl (.inl rfl) (pe_op op_cat (pv 1) (pe_lstX (pa_cons (pe_callB call_isX (by rfl) T.z_isinstance (by decide +kernel) (pa_cons (pv 0) (pa_cons (C8.pe_gc (by rfl) (gC Z 15 (by decide))) pa_nil))) (pa_cons (pe_callB call_isX (by rfl) T.z_isinstance (by decide +kernel) (pa_cons (pv 0) (pa_cons (C8.pe_gc (by rfl) (gC Z 16 (by decide))) pa_nil))) (pa_cons (pe_callB call_isX (by rfl) T.z_isinstance (by decide +kernel) (pa_cons (pv 0) (pa_cons (C8.pe_gc (by rfl) (gC Z 17 (by decide))) pa_nil))) pa_nil))))))
      (pss_cons (ps_set (i := 1) nd rfl (.inl rfl) (pe_op op_cat (pv 1) (pe_lstX (pa_cons (pe_callB call_isX (by rfl) T.z_isinstance (by decide +kernel) (pa_cons (pv 0) (pa_cons (C8.pe_gc (by rfl) (gC Z 18 (by decide))) pa_nil))) (pa_cons (pe_callB call_isX (by rfl) T.z_isinstance (by decide +kernel) (pa_cons (pv 0) (pa_cons (C8.pe_gc (by rfl) (gC Z 19 (by decide))) pa_nil))) (pa_cons (pe_callB call_isX (by rfl) T.z_isinstance (by decide +kernel) (pa_cons (pv 0) (pa_cons (C8.pe_gc (by rfl) (gC Z 20 (by decide))) pa_nil))) pa_nil))))))
      (pss_cons (ps_set (i := 1) nd rfl (.inl rfl) (pe_op op_cat (pv 1) (pe_lstX (pa_cons (pe_callB call_isX (by rfl) T.z_isinstance (by decide +kernel) (pa_cons (pv 0) (pa_cons (C8.pe_gc (by rfl) (gC Z 21 (by decide))) pa_nil))) (pa_cons (pe_callB call_isX (by rfl) T.z_isinstance (by decide +kernel) (pa_cons (pv 0) (pa_cons (C8.pe_gc (by rfl) (gC Z 22 (by decide))) pa_nil))) (pa_cons (pe_callB call_isX (by rfl) T.z_isinstance (by decide +kernel) (pa_cons (pv 0) (pa_cons (C8.pe_gc (by rfl) (gC Z 23 (by decide))) pa_nil))) pa_nil))))))
      (pss_cons (ps_set (i := 1) nd rfl (.inl rfl) (pe_op op_cat (pv 1) (pe_lstX (pa_cons (pe_callB call_isX (by rfl) T.z_isinstance (by decide +kernel) (pa_cons (pv 0) (pa_cons (C8.pe_gc (by rfl) (gC Z 24 (by decide))) pa_nil))) (pa_cons (pe_callB call_isX (by rfl) T.z_isinstance (by decide +kernel) (pa_cons (pv 0) (pa_cons (C8.pe_gc (by rfl) (gC Z 25 (by decide))) pa_nil))) (pa_cons (pe_callB call_isX (by rfl) T.z_isinstance (by decide +kernel) (pa_cons (pv 0) (pa_cons (C8.pe_gc (by rfl) (gC Z 26 (by decide))) pa_nil))) pa_nil))))))
      (pss_cons (ps_set (i := 1) nd rfl (.inl rfl) (pe_op op_cat (pv 1) (pe_lstX (pa_cons (pe_callB call_isX (by rfl) T.z_isinstance (by decide +kernel) (pa_cons (pv 0) (pa_cons (C8.pe_gc (by rfl) (gC Z 27 (by decide))) pa_nil))) (pa_cons (pe_callB call_isX (by rfl) T.z_isinstance (by decide +kernel) (pa_cons (pv 0) (pa_cons (C8.pe_gc (by rfl) (gC Z 28 (by decide))) pa_nil))) (pa_cons (pe_callB call_isX (by rfl) T.z_isinstance (by decide +kernel) (pa_cons (pv 0) (pa_cons (C8.pe_gc (by rfl) (gC Z 29 (by decide))) pa_nil))) pa_nil))))))
      (pss_cons (ps_set (i := 1) nd rfl (.inl rfl) (pe_op op_cat (pv 1) (pe_lstX (pa_cons (pe_callB call_isX (by rfl) T.z_isinstance (by decide +kernel) (pa_cons (pv 0) (pa_cons (C8.pe_gc (by rfl) (gC Z 30 (by decide))) pa_nil))) (pa_cons (pe_callB call_isX (by rfl) T.z_isinstance (by decide +kernel) (pa_cons (pv 0) (pa_cons (C8.pe_gc (by rfl) (gC Z 31 (by decide))) pa_nil))) (pa_cons (pe_callB call_isX (by rfl) T.z_isinstance (by decide +kernel) (pa_cons (pv 0) (pa_cons (C8.pe_gc (by rfl) (gC Z 32 (by decide))) pa_nil))) pa_nil))))))
      (pss_cons (ps_set (i := 1) nd rfl (.inl rfl) (pe_op op_cat (pv 1) (pe_lstX (pa_cons (pe_callB call_isX (by rfl) T.z_isinstance (by decide +kernel) (pa_cons (pv 0) (pa_cons (C8.pe_gc (by rfl) (gC Z 33 (by decide))) pa_nil))) (pa_cons (pe_callB call_isX (by rfl) T.z_isinstance (by decide +kernel) (pa_cons (pv 0) (pa_cons (C8.pe_gc (by rfl) (gC Z 34 (by decide))) pa_nil))) (pa_cons (pe_callB call_isX (by rfl) T.z_isinstance (by decide +kernel) (pa_cons (pv 0) (pa_cons (C8.pe_gc (by rfl) (gC Z 35 (by decide))) pa_nil))) pa_nil))))))
      (pss_cons (ps_set (i := 1) nd rfl (.inl rfl) (pe_op op_cat (pv 1) (pe_lstX (pa_cons (pe_callB call_isX (by rfl) T.z_isinstance (by decide +kernel) (pa_cons (pv 0) (pa_cons (C8.pe_gc (by rfl) (gC Z 36 (by decide))) pa_nil))) (pa_cons (pe_callB call_isX (by rfl) T.z_isinstance (by decide +kernel) (pa_cons (pv 0) (pa_cons (C8.pe_gc (by rfl) (gC Z 37 (by decide))) pa_nil))) (pa_cons (pe_callB call_isX (by rfl) T.z_isinstance (by decide +kernel) (pa_cons (pv 0) (pa_cons (C8.pe_gc (by rfl) (gC Z 38 (by decide))) pa_nil))) pa_nil))))))
      (pss_one (ps_ret (pe_op op_cat (pv 1) (pe_lstX (pa_cons (pe_callB call_isX (by rfl) T.z_isinstance (by decide +kernel) (pa_cons (pv 0) (pa_cons (C8.pe_gc (by rfl) (gC Z 39 (by decide))) pa_nil))) pa_nil)))))))))))))))))), ?_⟩
    refine ⟨.ref e, rfl, e, c i, fs, .ref (c 0), _, kinB i 0, rfl, hE, ec, eg, (fun u r => r), Z.kin i 0 hi (by decide), .ref e, rfl, e, c i, fs, .ref (c 1), _, kinB i 1, rfl, hE, ec, eg, (fun u r => r), Z.kin i 1 hi (by decide), .ref e, rfl, e, c i, fs, .ref (c 2), _, kinB i 2, rfl, hE, ec, eg, (fun u r => r), Z.kin i 2 hi (by decide), by show 3 ≤ sizeLine; decide, fun p0 np0 _ => ?_⟩
    have tp0 := same_new np0 (o := .lst [V.bl (kinB i 0), V.bl (kinB i 1), V.bl (kinB i 2)])
    have hlp0 := same_at np0 (.lst [V.bl (kinB i 0), V.bl (kinB i 1), V.bl (kinB i 2)])
    have hE0 := hE.same tp0
    refine ⟨.ref p0, rfl, .ref e, rfl, e, c i, fs, .ref (c 3), _, kinB i 3, rfl, hE0, ec, eg, (fun u r => r), Z.kin i 3 hi (by decide), .ref e, rfl, e, c i, fs, .ref (c 4), _, kinB i 4, rfl, hE0, ec, eg, (fun u r => r), Z.kin i 4 hi (by decide), .ref e, rfl, e, c i, fs, .ref (c 5), _, kinB i 5, rfl, hE0, ec, eg, (fun u r => r), Z.kin i 5 hi (by decide), by show 3 ≤ sizeLine; decide, fun p1 np1 _ => ?_⟩
    have tp1 := same_new np1 (o := .lst [V.bl (kinB i 3), V.bl (kinB i 4), V.bl (kinB i 5)])
    refine ⟨p0, p1, _, _, rfl, rfl, tp1 _ _ hlp0, upd_same, by show 6 ≤ _; decide, fun r1 nr1 => ?_⟩
    have tr1 := same_new nr1 (o := .lst ([V.bl (kinB i 0), V.bl (kinB i 1), V.bl (kinB i 2)] ++ [V.bl (kinB i 3), V.bl (kinB i 4), V.bl (kinB i 5)]))
    have hlr1 := same_at nr1 (.lst ([V.bl (kinB i 0), V.bl (kinB i 1), V.bl (kinB i 2)] ++ [V.bl (kinB i 3), V.bl (kinB i 4), V.bl (kinB i 5)]))
    have hE1 := hE0.same (tp1.trans tr1)
    refine ⟨.ref r1, rfl, .ref e, rfl, e, c i, fs, .ref (c 6), _, kinB i 6, rfl, hE1, ec, eg, (fun u r => r), Z.kin i 6 hi (by decide), .ref e, rfl, e, c i, fs, .ref (c 7), _, kinB i 7, rfl, hE1, ec, eg, (fun u r => r), Z.kin i 7 hi (by decide), .ref e, rfl, e, c i, fs, .ref (c 8), _, kinB i 8, rfl, hE1, ec, eg, (fun u r => r), Z.kin i 8 hi (by decide), by show 3 ≤ sizeLine; decide, fun p2 np2 _ => ?_⟩
    have tp2 := same_new np2 (o := .lst [V.bl (kinB i 6), V.bl (kinB i 7), V.bl (kinB i 8)])
    refine ⟨r1, p2, _, _, rfl, rfl, tp2 _ _ hlr1, upd_same, by show 9 ≤ _; decide, fun r2 nr2 => ?_⟩
    have tr2 := same_new nr2 (o := .lst (([V.bl (kinB i 0), V.bl (kinB i 1), V.bl (kinB i 2)] ++ [V.bl (kinB i 3), V.bl (kinB i 4), V.bl (kinB i 5)]) ++ [V.bl (kinB i 6), V.bl (kinB i 7), V.bl (kinB i 8)]))
    have hlr2 := same_at nr2 (.lst (([V.bl (kinB i 0), V.bl (kinB i 1), V.bl (kinB i 2)] ++ [V.bl (kinB i 3), V.bl (kinB i 4), V.bl (kinB i 5)]) ++ [V.bl (kinB i 6), V.bl (kinB i 7), V.bl (kinB i 8)]))
    have hE2 := hE1.same (tp2.trans tr2)
    refine ⟨.ref r2, rfl, .ref e, rfl, e, c i, fs, .ref (c 9), _, kinB i 9, rfl, hE2, ec, eg, (fun u r => r), Z.kin i 9 hi (by decide), .ref e, rfl, e, c i, fs, .ref (c 10), _, kinB i 10, rfl, hE2, ec, eg, (fun u r => r), Z.kin i 10 hi (by decide), .ref e, rfl, e, c i, fs, .ref (c 11), _, kinB i 11, rfl, hE2, ec, eg, (fun u r => r), Z.kin i 11 hi (by decide), by show 3 ≤ sizeLine; decide, fun p3 np3 _ => ?_⟩
    have tp3 := same_new np3 (o := .lst [V.bl (kinB i 9), V.bl (kinB i 10), V.bl (kinB i 11)])
    refine ⟨r2, p3, _, _, rfl, rfl, tp3 _ _ hlr2, upd_same, by show 12 ≤ _; decide, fun r3 nr3 => ?_⟩
    have tr3 := same_new nr3 (o := .lst ((([V.bl (kinB i 0), V.bl (kinB i 1), V.bl (kinB i 2)] ++ [V.bl (kinB i 3), V.bl (kinB i 4), V.bl (kinB i 5)]) ++ [V.bl (kinB i 6), V.bl (kinB i 7), V.bl (kinB i 8)]) ++ [V.bl (kinB i 9), V.bl (kinB i 10), V.bl (kinB i 11)]))
    have hlr3 := same_at nr3 (.lst ((([V.bl (kinB i 0), V.bl (kinB i 1), V.bl (kinB i 2)] ++ [V.bl (kinB i 3), V.bl (kinB i 4), V.bl (kinB i 5)]) ++ [V.bl (kinB i 6), V.bl (kinB i 7), V.bl (kinB i 8)]) ++ [V.bl (kinB i 9), V.bl (kinB i 10), V.bl (kinB i 11)]))
    have hE3 := hE2.same (tp3.trans tr3)
    refine ⟨.ref r3, rfl, .ref e, rfl, e, c i, fs, .ref (c 12), _, kinB i 12, rfl, hE3, ec, eg, (fun u r => r), Z.kin i 12 hi (by decide), .ref e, rfl, e, c i, fs, .ref (c 13), _, kinB i 13, rfl, hE3, ec, eg, (fun u r => r), Z.kin i 13 hi (by decide), .ref e, rfl, e, c i, fs, .ref (c 14), _, kinB i 14, rfl, hE3, ec, eg, (fun u r => r), Z.kin i 14 hi (by decide), by show 3 ≤ sizeLine; decide, fun p4 np4 _ => ?_⟩
    have tp4 := same_new np4 (o := .lst [V.bl (kinB i 12), V.bl (kinB i 13), V.bl (kinB i 14)])
    refine ⟨r3, p4, _, _, rfl, rfl, tp4 _ _ hlr3, upd_same, by show 15 ≤ _; decide, fun r4 nr4 => ?_⟩
    have tr4 := same_new nr4 (o := .lst (((([V.bl (kinB i 0), V.bl (kinB i 1), V.bl (kinB i 2)] ++ [V.bl (kinB i 3), V.bl (kinB i 4), V.bl (kinB i 5)]) ++ [V.bl (kinB i 6), V.bl (kinB i 7), V.bl (kinB i 8)]) ++ [V.bl (kinB i 9), V.bl (kinB i 10), V.bl (kinB i 11)]) ++ [V.bl (kinB i 12), V.bl (kinB i 13), V.bl (kinB i 14)]))
    have hlr4 := same_at nr4 (.lst (((([V.bl (kinB i 0), V.bl (kinB i 1), V.bl (kinB i 2)] ++ [V.bl (kinB i 3), V.bl (kinB i 4), V.bl (kinB i 5)]) ++ [V.bl (kinB i 6), V.bl (kinB i 7), V.bl (kinB i 8)]) ++ [V.bl (kinB i 9), V.bl (kinB i 10), V.bl (kinB i 11)]) ++ [V.bl (kinB i 12), V.bl (kinB i 13), V.bl (kinB i 14)]))
    have hE4 := hE3.same (tp4.trans tr4)
    refine ⟨.ref r4, rfl, .ref e, rfl, e, c i, fs, .ref (c 15), _, kinB i 15, rfl, hE4, ec, eg, (fun u r => r), Z.kin i 15 hi (by decide), .ref e, rfl, e, c i, fs, .ref (c 16), _, kinB i 16, rfl, hE4, ec, eg, (fun u r => r), Z.kin i 16 hi (by decide), .ref e, rfl, e, c i, fs, .ref (c 17), _, kinB i 17, rfl, hE4, ec, eg, (fun u r => r), Z.kin i 17 hi (by decide), by show 3 ≤ sizeLine; decide, fun p5 np5 _ => ?_⟩
    have tp5 := same_new np5 (o := .lst [V.bl (kinB i 15), V.bl (kinB i 16), V.bl (kinB i 17)])
    refine ⟨r4, p5, _, _, rfl, rfl, tp5 _ _ hlr4, upd_same, by show 18 ≤ _; decide, fun r5 nr5 => ?_⟩
    have tr5 := same_new nr5 (o := .lst ((((([V.bl (kinB i 0), V.bl (kinB i 1), V.bl (kinB i 2)] ++ [V.bl (kinB i 3), V.bl (kinB i 4), V.bl (kinB i 5)]) ++ [V.bl (kinB i 6), V.bl (kinB i 7), V.bl (kinB i 8)]) ++ [V.bl (kinB i 9), V.bl (kinB i 10), V.bl (kinB i 11)]) ++ [V.bl (kinB i 12), V.bl (kinB i 13), V.bl (kinB i 14)]) ++ [V.bl (kinB i 15), V.bl (kinB i 16), V.bl (kinB i 17)]))
    have hlr5 := same_at nr5 (.lst ((((([V.bl (kinB i 0), V.bl (kinB i 1), V.bl (kinB i 2)] ++ [V.bl (kinB i 3), V.bl (kinB i 4), V.bl (kinB i 5)]) ++ [V.bl (kinB i 6), V.bl (kinB i 7), V.bl (kinB i 8)]) ++ [V.bl (kinB i 9), V.bl (kinB i 10), V.bl (kinB i 11)]) ++ [V.bl (kinB i 12), V.bl (kinB i 13), V.bl (kinB i 14)]) ++ [V.bl (kinB i 15), V.bl (kinB i 16), V.bl (kinB i 17)]))
    have hE5 := hE4.same (tp5.trans tr5)
    refine ⟨.ref r5, rfl, .ref e, rfl, e, c i, fs, .ref (c 18), _, kinB i 18, rfl, hE5, ec, eg, (fun u r => r), Z.kin i 18 hi (by decide), .ref e, rfl, e, c i, fs, .ref (c 19), _, kinB i 19, rfl, hE5, ec, eg, (fun u r => r), Z.kin i 19 hi (by decide), .ref e, rfl, e, c i, fs, .ref (c 20), _, kinB i 20, rfl, hE5, ec, eg, (fun u r => r), Z.kin i 20 hi (by decide), by show 3 ≤ sizeLine; decide, fun p6 np6 _ => ?_⟩
    have tp6 := same_new np6 (o := .lst [V.bl (kinB i 18), V.bl (kinB i 19), V.bl (kinB i 20)])
    refine ⟨r5, p6, _, _, rfl, rfl, tp6 _ _ hlr5, upd_same, by show 21 ≤ _; decide, fun r6 nr6 => ?_⟩
    have tr6 := same_new nr6 (o := .lst (((((([V.bl (kinB i 0), V.bl (kinB i 1), V.bl (kinB i 2)] ++ [V.bl (kinB i 3), V.bl (kinB i 4), V.bl (kinB i 5)]) ++ [V.bl (kinB i 6), V.bl (kinB i 7), V.bl (kinB i 8)]) ++ [V.bl (kinB i 9), V.bl (kinB i 10), V.bl (kinB i 11)]) ++ [V.bl (kinB i 12), V.bl (kinB i 13), V.bl (kinB i 14)]) ++ [V.bl (kinB i 15), V.bl (kinB i 16), V.bl (kinB i 17)]) ++ [V.bl (kinB i 18), V.bl (kinB i 19), V.bl (kinB i 20)]))
    have hlr6 := same_at nr6 (.lst (((((([V.bl (kinB i 0), V.bl (kinB i 1), V.bl (kinB i 2)] ++ [V.bl (kinB i 3), V.bl (kinB i 4), V.bl (kinB i 5)]) ++ [V.bl (kinB i 6), V.bl (kinB i 7), V.bl (kinB i 8)]) ++ [V.bl (kinB i 9), V.bl (kinB i 10), V.bl (kinB i 11)]) ++ [V.bl (kinB i 12), V.bl (kinB i 13), V.bl (kinB i 14)]) ++ [V.bl (kinB i 15), V.bl (kinB i 16), V.bl (kinB i 17)]) ++ [V.bl (kinB i 18), V.bl (kinB i 19), V.bl (kinB i 20)]))
    have hE6 := hE5.same (tp6.trans tr6)
    refine ⟨.ref r6, rfl, .ref e, rfl, e, c i, fs, .ref (c 21), _, kinB i 21, rfl, hE6, ec, eg, (fun u r => r), Z.kin i 21 hi (by decide), .ref e, rfl, e, c i, fs, .ref (c 22), _, kinB i 22, rfl, hE6, ec, eg, (fun u r => r), Z.kin i 22 hi (by decide), .ref e, rfl, e, c i, fs, .ref (c 23), _, kinB i 23, rfl, hE6, ec, eg, (fun u r => r), Z.kin i 23 hi (by decide), by show 3 ≤ sizeLine; decide, fun p7 np7 _ => ?_⟩
    have tp7 := same_new np7 (o := .lst [V.bl (kinB i 21), V.bl (kinB i 22), V.bl (kinB i 23)])
    refine ⟨r6, p7, _, _, rfl, rfl, tp7 _ _ hlr6, upd_same, by show 24 ≤ _; decide, fun r7 nr7 => ?_⟩
    have tr7 := same_new nr7 (o := .lst ((((((([V.bl (kinB i 0), V.bl (kinB i 1), V.bl (kinB i 2)] ++ [V.bl (kinB i 3), V.bl (kinB i 4), V.bl (kinB i 5)]) ++ [V.bl (kinB i 6), V.bl (kinB i 7), V.bl (kinB i 8)]) ++ [V.bl (kinB i 9), V.bl (kinB i 10), V.bl (kinB i 11)]) ++ [V.bl (kinB i 12), V.bl (kinB i 13), V.bl (kinB i 14)]) ++ [V.bl (kinB i 15), V.bl (kinB i 16), V.bl (kinB i 17)]) ++ [V.bl (kinB i 18), V.bl (kinB i 19), V.bl (kinB i 20)]) ++ [V.bl (kinB i 21), V.bl (kinB i 22), V.bl (kinB i 23)]))
    have hlr7 := same_at nr7 (.lst ((((((([V.bl (kinB i 0), V.bl (kinB i 1), V.bl (kinB i 2)] ++ [V.bl (kinB i 3), V.bl (kinB i 4), V.bl (kinB i 5)]) ++ [V.bl (kinB i 6), V.bl (kinB i 7), V.bl (kinB i 8)]) ++ [V.bl (kinB i 9), V.bl (kinB i 10), V.bl (kinB i 11)]) ++ [V.bl (kinB i 12), V.bl (kinB i 13), V.bl (kinB i 14)]) ++ [V.bl (kinB i 15), V.bl (kinB i 16), V.bl (kinB i 17)]) ++ [V.bl (kinB i 18), V.bl (kinB i 19), V.bl (kinB i 20)]) ++ [V.bl (kinB i 21), V.bl (kinB i 22), V.bl (kinB i 23)]))
    have hE7 := hE6.same (tp7.trans tr7)
    refine ⟨.ref r7, rfl, .ref e, rfl, e, c i, fs, .ref (c 24), _, kinB i 24, rfl, hE7, ec, eg, (fun u r => r), Z.kin i 24 hi (by decide), .ref e, rfl, e, c i, fs, .ref (c 25), _, kinB i 25, rfl, hE7, ec, eg, (fun u r => r), Z.kin i 25 hi (by decide), .ref e, rfl, e, c i, fs, .ref (c 26), _, kinB i 26, rfl, hE7, ec, eg, (fun u r => r), Z.kin i 26 hi (by decide), by show 3 ≤ sizeLine; decide, fun p8 np8 _ => ?_⟩
    have tp8 := same_new np8 (o := .lst [V.bl (kinB i 24), V.bl (kinB i 25), V.bl (kinB i 26)])
    refine ⟨r7, p8, _, _, rfl, rfl, tp8 _ _ hlr7, upd_same, by show 27 ≤ _; decide, fun r8 nr8 => ?_⟩
    have tr8 := same_new nr8 (o := .lst (((((((([V.bl (kinB i 0), V.bl (kinB i 1), V.bl (kinB i 2)] ++ [V.bl (kinB i 3), V.bl (kinB i 4), V.bl (kinB i 5)]) ++ [V.bl (kinB i 6), V.bl (kinB i 7), V.bl (kinB i 8)]) ++ [V.bl (kinB i 9), V.bl (kinB i 10), V.bl (kinB i 11)]) ++ [V.bl (kinB i 12), V.bl (kinB i 13), V.bl (kinB i 14)]) ++ [V.bl (kinB i 15), V.bl (kinB i 16), V.bl (kinB i 17)]) ++ [V.bl (kinB i 18), V.bl (kinB i 19), V.bl (kinB i 20)]) ++ [V.bl (kinB i 21), V.bl (kinB i 22), V.bl (kinB i 23)]) ++ [V.bl (kinB i 24), V.bl (kinB i 25), V.bl (kinB i 26)]))
    have hlr8 := same_at nr8 (.lst (((((((([V.bl (kinB i 0), V.bl (kinB i 1), V.bl (kinB i 2)] ++ [V.bl (kinB i 3), V.bl (kinB i 4), V.bl (kinB i 5)]) ++ [V.bl (kinB i 6), V.bl (kinB i 7), V.bl (kinB i 8)]) ++ [V.bl (kinB i 9), V.bl (kinB i 10), V.bl (kinB i 11)]) ++ [V.bl (kinB i 12), V.bl (kinB i 13), V.bl (kinB i 14)]) ++ [V.bl (kinB i 15), V.bl (kinB i 16), V.bl (kinB i 17)]) ++ [V.bl (kinB i 18), V.bl (kinB i 19), V.bl (kinB i 20)]) ++ [V.bl (kinB i 21), V.bl (kinB i 22), V.bl (kinB i 23)]) ++ [V.bl (kinB i 24), V.bl (kinB i 25), V.bl (kinB i 26)]))
    have hE8 := hE7.same (tp8.trans tr8)
    refine ⟨.ref r8, rfl, .ref e, rfl, e, c i, fs, .ref (c 27), _, kinB i 27, rfl, hE8, ec, eg, (fun u r => r), Z.kin i 27 hi (by decide), .ref e, rfl, e, c i, fs, .ref (c 28), _, kinB i 28, rfl, hE8, ec, eg, (fun u r => r), Z.kin i 28 hi (by decide), .ref e, rfl, e, c i, fs, .ref (c 29), _, kinB i 29, rfl, hE8, ec, eg, (fun u r => r), Z.kin i 29 hi (by decide), by show 3 ≤ sizeLine; decide, fun p9 np9 _ => ?_⟩
    have tp9 := same_new np9 (o := .lst [V.bl (kinB i 27), V.bl (kinB i 28), V.bl (kinB i 29)])
    refine ⟨r8, p9, _, _, rfl, rfl, tp9 _ _ hlr8, upd_same, by show 30 ≤ _; decide, fun r9 nr9 => ?_⟩
    have tr9 := same_new nr9 (o := .lst ((((((((([V.bl (kinB i 0), V.bl (kinB i 1), V.bl (kinB i 2)] ++ [V.bl (kinB i 3), V.bl (kinB i 4), V.bl (kinB i 5)]) ++ [V.bl (kinB i 6), V.bl (kinB i 7), V.bl (kinB i 8)]) ++ [V.bl (kinB i 9), V.bl (kinB i 10), V.bl (kinB i 11)]) ++ [V.bl (kinB i 12), V.bl (kinB i 13), V.bl (kinB i 14)]) ++ [V.bl (kinB i 15), V.bl (kinB i 16), V.bl (kinB i 17)]) ++ [V.bl (kinB i 18), V.bl (kinB i 19), V.bl (kinB i 20)]) ++ [V.bl (kinB i 21), V.bl (kinB i 22), V.bl (kinB i 23)]) ++ [V.bl (kinB i 24), V.bl (kinB i 25), V.bl (kinB i 26)]) ++ [V.bl (kinB i 27), V.bl (kinB i 28), V.bl (kinB i 29)]))
    have hlr9 := same_at nr9 (.lst ((((((((([V.bl (kinB i 0), V.bl (kinB i 1), V.bl (kinB i 2)] ++ [V.bl (kinB i 3), V.bl (kinB i 4), V.bl (kinB i 5)]) ++ [V.bl (kinB i 6), V.bl (kinB i 7), V.bl (kinB i 8)]) ++ [V.bl (kinB i 9), V.bl (kinB i 10), V.bl (kinB i 11)]) ++ [V.bl (kinB i 12), V.bl (kinB i 13), V.bl (kinB i 14)]) ++ [V.bl (kinB i 15), V.bl (kinB i 16), V.bl (kinB i 17)]) ++ [V.bl (kinB i 18), V.bl (kinB i 19), V.bl (kinB i 20)]) ++ [V.bl (kinB i 21), V.bl (kinB i 22), V.bl (kinB i 23)]) ++ [V.bl (kinB i 24), V.bl (kinB i 25), V.bl (kinB i 26)]) ++ [V.bl (kinB i 27), V.bl (kinB i 28), V.bl (kinB i 29)]))
    have hE9 := hE8.same (tp9.trans tr9)
    refine ⟨.ref r9, rfl, .ref e, rfl, e, c i, fs, .ref (c 30), _, kinB i 30, rfl, hE9, ec, eg, (fun u r => r), Z.kin i 30 hi (by decide), .ref e, rfl, e, c i, fs, .ref (c 31), _, kinB i 31, rfl, hE9, ec, eg, (fun u r => r), Z.kin i 31 hi (by decide), .ref e, rfl, e, c i, fs, .ref (c 32), _, kinB i 32, rfl, hE9, ec, eg, (fun u r => r), Z.kin i 32 hi (by decide), by show 3 ≤ sizeLine; decide, fun p10 np10 _ => ?_⟩
    have tp10 := same_new np10 (o := .lst [V.bl (kinB i 30), V.bl (kinB i 31), V.bl (kinB i 32)])
    refine ⟨r9, p10, _, _, rfl, rfl, tp10 _ _ hlr9, upd_same, by show 33 ≤ _; decide, fun r10 nr10 => ?_⟩
    have tr10 := same_new nr10 (o := .lst (((((((((([V.bl (kinB i 0), V.bl (kinB i 1), V.bl (kinB i 2)] ++ [V.bl (kinB i 3), V.bl (kinB i 4), V.bl (kinB i 5)]) ++ [V.bl (kinB i 6), V.bl (kinB i 7), V.bl (kinB i 8)]) ++ [V.bl (kinB i 9), V.bl (kinB i 10), V.bl (kinB i 11)]) ++ [V.bl (kinB i 12), V.bl (kinB i 13), V.bl (kinB i 14)]) ++ [V.bl (kinB i 15), V.bl (kinB i 16), V.bl (kinB i 17)]) ++ [V.bl (kinB i 18), V.bl (kinB i 19), V.bl (kinB i 20)]) ++ [V.bl (kinB i 21), V.bl (kinB i 22), V.bl (kinB i 23)]) ++ [V.bl (kinB i 24), V.bl (kinB i 25), V.bl (kinB i 26)]) ++ [V.bl (kinB i 27), V.bl (kinB i 28), V.bl (kinB i 29)]) ++ [V.bl (kinB i 30), V.bl (kinB i 31), V.bl (kinB i 32)]))
    have hlr10 := same_at nr10 (.lst (((((((((([V.bl (kinB i 0), V.bl (kinB i 1), V.bl (kinB i 2)] ++ [V.bl (kinB i 3), V.bl (kinB i 4), V.bl (kinB i 5)]) ++ [V.bl (kinB i 6), V.bl (kinB i 7), V.bl (kinB i 8)]) ++ [V.bl (kinB i 9), V.bl (kinB i 10), V.bl (kinB i 11)]) ++ [V.bl (kinB i 12), V.bl (kinB i 13), V.bl (kinB i 14)]) ++ [V.bl (kinB i 15), V.bl (kinB i 16), V.bl (kinB i 17)]) ++ [V.bl (kinB i 18), V.bl (kinB i 19), V.bl (kinB i 20)]) ++ [V.bl (kinB i 21), V.bl (kinB i 22), V.bl (kinB i 23)]) ++ [V.bl (kinB i 24), V.bl (kinB i 25), V.bl (kinB i 26)]) ++ [V.bl (kinB i 27), V.bl (kinB i 28), V.bl (kinB i 29)]) ++ [V.bl (kinB i 30), V.bl (kinB i 31), V.bl (kinB i 32)]))
    have hE10 := hE9.same (tp10.trans tr10)
    refine ⟨.ref r10, rfl, .ref e, rfl, e, c i, fs, .ref (c 33), _, kinB i 33, rfl, hE10, ec, eg, (fun u r => r), Z.kin i 33 hi (by decide), .ref e, rfl, e, c i, fs, .ref (c 34), _, kinB i 34, rfl, hE10, ec, eg, (fun u r => r), Z.kin i 34 hi (by decide), .ref e, rfl, e, c i, fs, .ref (c 35), _, kinB i 35, rfl, hE10, ec, eg, (fun u r => r), Z.kin i 35 hi (by decide), by show 3 ≤ sizeLine; decide, fun p11 np11 _ => ?_⟩
    have tp11 := same_new np11 (o := .lst [V.bl (kinB i 33), V.bl (kinB i 34), V.bl (kinB i 35)])
    refine ⟨r10, p11, _, _, rfl, rfl, tp11 _ _ hlr10, upd_same, by show 36 ≤ _; decide, fun r11 nr11 => ?_⟩
    have tr11 := same_new nr11 (o := .lst ((((((((((([V.bl (kinB i 0), V.bl (kinB i 1), V.bl (kinB i 2)] ++ [V.bl (kinB i 3), V.bl (kinB i 4), V.bl (kinB i 5)]) ++ [V.bl (kinB i 6), V.bl (kinB i 7), V.bl (kinB i 8)]) ++ [V.bl (kinB i 9), V.bl (kinB i 10), V.bl (kinB i 11)]) ++ [V.bl (kinB i 12), V.bl (kinB i 13), V.bl (kinB i 14)]) ++ [V.bl (kinB i 15), V.bl (kinB i 16), V.bl (kinB i 17)]) ++ [V.bl (kinB i 18), V.bl (kinB i 19), V.bl (kinB i 20)]) ++ [V.bl (kinB i 21), V.bl (kinB i 22), V.bl (kinB i 23)]) ++ [V.bl (kinB i 24), V.bl (kinB i 25), V.bl (kinB i 26)]) ++ [V.bl (kinB i 27), V.bl (kinB i 28), V.bl (kinB i 29)]) ++ [V.bl (kinB i 30), V.bl (kinB i 31), V.bl (kinB i 32)]) ++ [V.bl (kinB i 33), V.bl (kinB i 34), V.bl (kinB i 35)]))
    have hlr11 := same_at nr11 (.lst ((((((((((([V.bl (kinB i 0), V.bl (kinB i 1), V.bl (kinB i 2)] ++ [V.bl (kinB i 3), V.bl (kinB i 4), V.bl (kinB i 5)]) ++ [V.bl (kinB i 6), V.bl (kinB i 7), V.bl (kinB i 8)]) ++ [V.bl (kinB i 9), V.bl (kinB i 10), V.bl (kinB i 11)]) ++ [V.bl (kinB i 12), V.bl (kinB i 13), V.bl (kinB i 14)]) ++ [V.bl (kinB i 15), V.bl (kinB i 16), V.bl (kinB i 17)]) ++ [V.bl (kinB i 18), V.bl (kinB i 19), V.bl (kinB i 20)]) ++ [V.bl (kinB i 21), V.bl (kinB i 22), V.bl (kinB i 23)]) ++ [V.bl (kinB i 24), V.bl (kinB i 25), V.bl (kinB i 26)]) ++ [V.bl (kinB i 27), V.bl (kinB i 28), V.bl (kinB i 29)]) ++ [V.bl (kinB i 30), V.bl (kinB i 31), V.bl (kinB i 32)]) ++ [V.bl (kinB i 33), V.bl (kinB i 34), V.bl (kinB i 35)]))
    have hE11 := hE10.same (tp11.trans tr11)
    refine ⟨.ref r11, rfl, .ref e, rfl, e, c i, fs, .ref (c 36), _, kinB i 36, rfl, hE11, ec, eg, (fun u r => r), Z.kin i 36 hi (by decide), .ref e, rfl, e, c i, fs, .ref (c 37), _, kinB i 37, rfl, hE11, ec, eg, (fun u r => r), Z.kin i 37 hi (by decide), .ref e, rfl, e, c i, fs, .ref (c 38), _, kinB i 38, rfl, hE11, ec, eg, (fun u r => r), Z.kin i 38 hi (by decide), by show 3 ≤ sizeLine; decide, fun p12 np12 _ => ?_⟩
    have tp12 := same_new np12 (o := .lst [V.bl (kinB i 36), V.bl (kinB i 37), V.bl (kinB i 38)])
    refine ⟨r11, p12, _, _, rfl, rfl, tp12 _ _ hlr11, upd_same, by show 39 ≤ _; decide, fun r12 nr12 => ?_⟩
    have tr12 := same_new nr12 (o := .lst (((((((((((([V.bl (kinB i 0), V.bl (kinB i 1), V.bl (kinB i 2)] ++ [V.bl (kinB i 3), V.bl (kinB i 4), V.bl (kinB i 5)]) ++ [V.bl (kinB i 6), V.bl (kinB i 7), V.bl (kinB i 8)]) ++ [V.bl (kinB i 9), V.bl (kinB i 10), V.bl (kinB i 11)]) ++ [V.bl (kinB i 12), V.bl (kinB i 13), V.bl (kinB i 14)]) ++ [V.bl (kinB i 15), V.bl (kinB i 16), V.bl (kinB i 17)]) ++ [V.bl (kinB i 18), V.bl (kinB i 19), V.bl (kinB i 20)]) ++ [V.bl (kinB i 21), V.bl (kinB i 22), V.bl (kinB i 23)]) ++ [V.bl (kinB i 24), V.bl (kinB i 25), V.bl (kinB i 26)]) ++ [V.bl (kinB i 27), V.bl (kinB i 28), V.bl (kinB i 29)]) ++ [V.bl (kinB i 30), V.bl (kinB i 31), V.bl (kinB i 32)]) ++ [V.bl (kinB i 33), V.bl (kinB i 34), V.bl (kinB i 35)]) ++ [V.bl (kinB i 36), V.bl (kinB i 37), V.bl (kinB i 38)]))
    have hlr12 := same_at nr12 (.lst (((((((((((([V.bl (kinB i 0), V.bl (kinB i 1), V.bl (kinB i 2)] ++ [V.bl (kinB i 3), V.bl (kinB i 4), V.bl (kinB i 5)]) ++ [V.bl (kinB i 6), V.bl (kinB i 7), V.bl (kinB i 8)]) ++ [V.bl (kinB i 9), V.bl (kinB i 10), V.bl (kinB i 11)]) ++ [V.bl (kinB i 12), V.bl (kinB i 13), V.bl (kinB i 14)]) ++ [V.bl (kinB i 15), V.bl (kinB i 16), V.bl (kinB i 17)]) ++ [V.bl (kinB i 18), V.bl (kinB i 19), V.bl (kinB i 20)]) ++ [V.bl (kinB i 21), V.bl (kinB i 22), V.bl (kinB i 23)]) ++ [V.bl (kinB i 24), V.bl (kinB i 25), V.bl (kinB i 26)]) ++ [V.bl (kinB i 27), V.bl (kinB i 28), V.bl (kinB i 29)]) ++ [V.bl (kinB i 30), V.bl (kinB i 31), V.bl (kinB i 32)]) ++ [V.bl (kinB i 33), V.bl (kinB i 34), V.bl (kinB i 35)]) ++ [V.bl (kinB i 36), V.bl (kinB i 37), V.bl (kinB i 38)]))
    have hE12 := hE11.same (tp12.trans tr12)
    refine ⟨.ref r12, rfl, .ref e, rfl, e, c i, fs, .ref (c 39), _, kinB i 39, rfl, hE12, ec, eg, (fun u r => r), Z.kin i 39 hi (by decide), by show 1 ≤ sizeLine; decide, fun p13 np13 _ => ?_⟩
    have tp13 := same_new np13 (o := .lst [V.bl (kinB i 39)])
    refine ⟨r12, p13, _, _, rfl, rfl, tp13 _ _ hlr12, upd_same, by show 40 ≤ _; decide, fun r13 nr13 => ?_⟩
    have tr13 := same_new nr13 (o := .lst ((((((((((((([V.bl (kinB i 0), V.bl (kinB i 1), V.bl (kinB i 2)] ++ [V.bl (kinB i 3), V.bl (kinB i 4), V.bl (kinB i 5)]) ++ [V.bl (kinB i 6), V.bl (kinB i 7), V.bl (kinB i 8)]) ++ [V.bl (kinB i 9), V.bl (kinB i 10), V.bl (kinB i 11)]) ++ [V.bl (kinB i 12), V.bl (kinB i 13), V.bl (kinB i 14)]) ++ [V.bl (kinB i 15), V.bl (kinB i 16), V.bl (kinB i 17)]) ++ [V.bl (kinB i 18), V.bl (kinB i 19), V.bl (kinB i 20)]) ++ [V.bl (kinB i 21), V.bl (kinB i 22), V.bl (kinB i 23)]) ++ [V.bl (kinB i 24), V.bl (kinB i 25), V.bl (kinB i 26)]) ++ [V.bl (kinB i 27), V.bl (kinB i 28), V.bl (kinB i 29)]) ++ [V.bl (kinB i 30), V.bl (kinB i 31), V.bl (kinB i 32)]) ++ [V.bl (kinB i 33), V.bl (kinB i 34), V.bl (kinB i 35)]) ++ [V.bl (kinB i 36), V.bl (kinB i 37), V.bl (kinB i 38)]) ++ [V.bl (kinB i 39)]))
    have hlr13 := same_at nr13 (.lst ((((((((((((([V.bl (kinB i 0), V.bl (kinB i 1), V.bl (kinB i 2)] ++ [V.bl (kinB i 3), V.bl (kinB i 4), V.bl (kinB i 5)]) ++ [V.bl (kinB i 6), V.bl (kinB i 7), V.bl (kinB i 8)]) ++ [V.bl (kinB i 9), V.bl (kinB i 10), V.bl (kinB i 11)]) ++ [V.bl (kinB i 12), V.bl (kinB i 13), V.bl (kinB i 14)]) ++ [V.bl (kinB i 15), V.bl (kinB i 16), V.bl (kinB i 17)]) ++ [V.bl (kinB i 18), V.bl (kinB i 19), V.bl (kinB i 20)]) ++ [V.bl (kinB i 21), V.bl (kinB i 22), V.bl (kinB i 23)]) ++ [V.bl (kinB i 24), V.bl (kinB i 25), V.bl (kinB i 26)]) ++ [V.bl (kinB i 27), V.bl (kinB i 28), V.bl (kinB i 29)]) ++ [V.bl (kinB i 30), V.bl (kinB i 31), V.bl (kinB i 32)]) ++ [V.bl (kinB i 33), V.bl (kinB i 34), V.bl (kinB i 35)]) ++ [V.bl (kinB i 36), V.bl (kinB i 37), V.bl (kinB i 38)]) ++ [V.bl (kinB i 39)]))
    have hE13 := hE12.same (tp13.trans tr13)
    exact q r13 _ (((((((((((((((((((((((((((tp0).trans (tp1)).trans (tr1)).trans (tp2)).trans (tr2)).trans (tp3)).trans (tr3)).trans (tp4)).trans (tr4)).trans (tp5)).trans (tr5)).trans (tp6)).trans (tr6)).trans (tp7)).trans (tr7)).trans (tp8)).trans (tr8)).trans (tp9)).trans (tr9)).trans (tp10)).trans (tr10)).trans (tp11)).trans (tr11)).trans (tp12)).trans (tr12)).trans (tp13)).trans (tr13)) hlr13
end
end K00

set_option Elab.async false
set_option linter.all false
set_option maxRecDepth 100000
set_option maxHeartbeats 2000000
namespace K00
open PySem PySem.Spec PyProof.Rows L2 Gd
theorem dp_bls {K : PySem.W.Frag} {H : Hp} : ∀ l : List Bool, DpAll K H (l.map V.bl) (l.map PyData.bool)
  | [] => .nil
  | b :: r => .cons (.bl b) (dp_bls r)
theorem can_bls : ∀ l : List Bool, PyData.canLayAll0 (l.map PyData.bool) = true
  | [] => rfl
  | b :: r => by
    show (PyData.canLay0 (.bool b) && PyData.canLayAll0 (r.map PyData.bool)) = true
    rw [can_bls r] <;> rfl
theorem dep_bls : ∀ l : List Bool, PyData.depthAll (l.map PyData.bool) = 0
  | [] => rfl
  | b :: r => by
    show max (PyData.depth (.bool b)) (PyData.depthAll (r.map PyData.bool)) = 0
    rw [dep_bls r] <;> rfl
theorem shaped_bls (l : List Bool) : SeqAt.shaped (.list (l.map PyData.bool)) = true := by
  unfold SeqAt.shaped
  rw [Bool.and_eq_true]
  refine ⟨can_bls l, decide_eq_true ?_⟩
  show PyData.depthAll (l.map PyData.bool) + 1 ≤ 64
  rw [dep_bls] <;> decide
def spStand (c : Nat → Addr) : Sp := fun vs H Q _ => ∃ (e : Addr) (i : Nat) (fs : List (Str × V)), vs = [.ref e, .int i] ∧ i < 40 ∧ ErrAt (c i) fs H e ∧ ∀ H' : Hp, Same H H' → Q (.bl true) H'
section
variable {P : Program} {w : World} {K : PySem.W.Frag} {mg : Str → Option Value} {base : Heap} {c f : Nat → Addr}
theorem ok_stand (T : Txt K mg) (Z : Tz K mg c f) (G__law_kin : Cal P w K mg base 1 "_law_kin" (spKin c)) : Cal P w K mg base 2 "_law_stands_right" (spStand c) := by
  obtain ⟨g, fd, F, b⟩ := T.d_law_stands_right
  refine cal F b sc_law_stands_right (fun vs H Q E h => ?_) (fun cdv A outer s H vs Q E hgd hr h => ?_)
  · obtain ⟨e, i, fs, rfl, _⟩ := h
    rfl
  · have nd := sc_law_stands_right.nd
    obtain ⟨e, i, fs, rfl, hi, hE, q⟩ := h
    have ec := Z.ec i (by omega)
    have eg := Z.eg
    refine ⟨_, (pss_cons (ps_if (pt_cmpR (op_neD hr.units) (pc G__law_kin hgd hr (by decide) (by rfl) (pa_cons (pv 0) pa_nil)) (pe_lc (own := [("_law_at", 2)]) (g := gName 2) rfl nd (pi_range1 rfl T.z_range (pa_cons pe_int pa_nil)) (blkOk_by (own := [("_law_at", 2)]) (N := ["_law_error", "_law_place", "_law_at"]) (sc := (C8.fnScope s_law_stands_right)) (by decide +kernel)) (fun _ _ _ _ _ => pg_name (i := 2) nd rfl (Or.inl rfl)) (fun _ _ _ _ _ => pts_nil) (fun _ _ _ _ _ => (pe_cmpR op_eq (pv 1) (pv 2) (nomark _)))) (nomark _)) (pss_one (ps_ret pe_bl)) pss_nil)
      (pss_cons (ps_if (PW.pt (pw_or (pt_not (pt_val (pe_callB call_isX (by rfl) T.z_isinstance (by decide +kernel) (pa_cons (pv 0) (pa_cons (C8.pe_gc (by rfl) (gC Z 41 (by decide))) pa_nil))))) (pw_or1 (pt_not (pt_val (pe_callB call_isX (by rfl) T.z_isinstance (by decide +kernel) (pa_cons (pv 0) (pa_cons (pe_bltn (v := .ty "ValueError") (u := .type "ValueError") (by rfl) T.z_ValueError (by decide +kernel) rfl) pa_nil)))))))) (pss_one (ps_ret pe_bl)) pss_nil)
      (C8.pss_cut (ps_if (pt_cmpR op_ne (pe_callB call_isX (by rfl) T.z_isinstance (by decide +kernel) (pa_cons (pv 0) (pa_cons (C8.pe_gc (by rfl) (gC Z 40 (by decide))) pa_nil))) (pe_chain op_le op_lt pe_int (pv 1) pe_int) (nomark _)) (pss_one (ps_ret pe_bl)) pss_nil)
      (pss_cons (ps_if (PW.pt (pw_or (pt_val (pe_callB call_isX (by rfl) T.z_isinstance (by decide +kernel) (pa_cons (pv 0) (pa_cons (pe_bltn (v := .ty "LookupError") (u := .type "LookupError") (by rfl) T.z_LookupError (by decide +kernel) rfl) pa_nil)))) (pw_or (pt_val (pe_callB call_isX (by rfl) T.z_isinstance (by decide +kernel) (pa_cons (pv 0) (pa_cons (pe_bltn (v := .ty "TypeError") (u := .type "TypeError") (by rfl) T.z_TypeError (by decide +kernel) rfl) pa_nil)))) (pw_or1 (pt_val (pe_callB call_isX (by rfl) T.z_isinstance (by decide +kernel) (pa_cons (pv 0) (pa_cons (pe_bltn (v := .ty "ArithmeticError") (u := .type "ArithmeticError") (by rfl) T.z_ArithmeticError (by decide +kernel) rfl) pa_nil)))))))) (pss_one (ps_ret pe_bl)) pss_nil)
      (pss_one (ps_ret (pe_and (pe_not (pe_callB call_isX (by rfl) T.z_isinstance (by decide +kernel) (pa_cons (pv 0) (pa_cons (pe_bltn (v := .ty "RuntimeError") (u := .type "RuntimeError") (by rfl) T.z_RuntimeError (by decide +kernel) rfl) pa_nil)))) (pe_one (pe_not (pe_callB call_isX (by rfl) T.z_isinstance (by decide +kernel) (pa_cons (pv 0) (pa_cons (pe_bltn (v := .ty "AttributeError") (u := .type "AttributeError") (by rfl) T.z_AttributeError (by decide +kernel) rfl) pa_nil)))))))))))), ?_⟩
    refine ⟨.ref e, rfl, e, i, fs, rfl, by omega, hE, fun p H1 s1 hp => ⟨40, rfl, by decide, by decide, fun D nD => lc_range (lo := 0) (n := 40)
      (fun k H' => H' p = some (.lst (((List.range 40).map fun j => kinB i j).map V.bl)) ∧ H' D = some (.lst (((List.range k).map fun j => decide (V.int (i : Nat) = V.int (0 + (j : Nat)))).map V.bl)) ∧ Same H1 H')
      ⟨?_, upd_same, same_new nD⟩ (fun k H2 hk hP => ?_) (fun H2 hP => ?_)⟩⟩
    · rw [upd_ne (ne_of_none hp nD), hp, List.map_map]
      rfl
    · obtain ⟨h1, h2, h3⟩ := hP
      refine ⟨rfl, lc_yes ⟨.int i, rfl, .int (0 + k), rfl, rfl, _, h2, ?_, ?_, ?_, same_grow nD h3⟩⟩
      · rw [List.length_map, List.length_map, List.length_range]
        exact small1000 (by omega)
      · rw [upd_ne (ne_of_none hp nD)]
        exact h1
      · rw [upd_same, List.range_succ, List.map_append, List.map_append]
        rfl
    · obtain ⟨h1, h2, h3⟩ := hP
      have hq : ((List.range 40).map fun j => kinB i j) = (List.range 40).map fun j => decide (V.int (i : Nat) = V.int (0 + (j : Nat))) := by
        refine List.map_congr_left fun j hj => ?_
        have h40 := List.mem_range.mp hj
        unfold kinB
        rw [decide_eq_false (show ¬ j = 41 by omega), decide_eq_false (show ¬ j = 40 by omega), Bool.false_and, Bool.false_and, Bool.or_false, Bool.or_false]
        refine decide_eq_decide.mpr ⟨fun z => by rw [z, Int.zero_add], fun z => ?_⟩
        have := V.int.inj z
        omega
      refine ⟨_, _, .lst (SqL.of h1) (dp_bls _), .lst (SqL.of h2) (dp_bls _), shaped_bls _, shaped_bls _, _, rfl, ite2 (fun t => ?_) (fun _ => ?_)⟩
      · rw [hq, PySem.SeqAt.eqv_refl _ (show PyData.canLay0 (.list _) = true from can_bls _)] at t
        cases t
      have hE2 := hE.same (s1.trans h3)
      have k41 : PySem.W.kitOne K (.ref (c i)) (.ref (c 41)) = some true := by
        rw [Z.kin i 41 (by omega) (by decide)]
        unfold kinB
        rw [decide_eq_true (show (41 : Nat) = 41 from rfl), Bool.or_true, Bool.true_or]
      have kno : ∀ n ∈ ["LookupError", "TypeError", "ArithmeticError", "RuntimeError", "AttributeError"], PySem.W.kitOne K (.ref (c i)) (.type n) = some false := Z.kno i (by omega)
      refine ⟨.ref e, rfl, e, c i, fs, .ref (c 41), _, true, rfl, hE2, ec, eg, (fun u r => r), k41, _, rfl, ite2 (fun t => nomatch t) (fun _ => ?_)⟩
      refine ⟨.ref e, rfl, e, c i, fs, .ty "ValueError", .type "ValueError", true, rfl, hE2, ec, eg, (fun u r => r), Z.kve i (by omega), _, rfl, ite2 (fun t => nomatch t) (fun _ => ?_)⟩
      have k40 : kinB i 40 = (decide (21 ≤ i) && decide (i ≤ 26)) := by
        unfold kinB
        rw [decide_eq_false (show ¬ i = 40 by omega), decide_eq_false (show ¬ (40 : Nat) = 41 by decide), decide_eq_true (show (40 : Nat) = 40 from rfl)]
        rfl
      refine ⟨fun σ' H' => σ' = [some (.ref e), some (.int i), none] ∧ H' = H2, ?_, ?_⟩
      · refine ⟨.ref e, rfl, e, c i, fs, .ref (c 40), _, kinB i 40, rfl, hE2, ec, eg, (fun u r => r), Z.kin i 40 (by omega) (by decide), .int i, rfl, 21, i, rfl, rfl, _, rfl, ite2 (fun t => ?_) (fun t => ?_)⟩
        · have t1 := of_decide_eq_true t
          have e1 : kinB i 40 = decide ((i : Int) < 27) := by
            rw [k40, decide_eq_true (show 21 ≤ i by omega), Bool.true_and]
            exact decide_eq_decide.mpr (by omega)
          refine ⟨i, 27, rfl, rfl, rfl, _, rfl, ite2 (fun t2 => ?_) (fun _ => ⟨rfl, rfl⟩)⟩
          rw [e1, decide_eq_true (rfl : V.bl (decide ((i : Int) < 27)) = _)] at t2
          cases t2
        · have e1 : kinB i 40 = false := by
            rw [k40, decide_eq_false (show ¬ 21 ≤ i from fun z => t (decide_eq_true (by omega))), Bool.false_and]
          refine ⟨rfl, _, rfl, ite2 (fun t2 => ?_) (fun _ => ⟨rfl, rfl⟩)⟩
          rw [e1] at t2
          exact absurd t2 (by decide)
      · rintro σ3 H3 ⟨rfl, rfl⟩
        refine ⟨.ref e, rfl, e, c i, fs, .ty "LookupError", .type "LookupError", false, rfl, hE2, ec, eg, (fun u r => r), kno "LookupError" (by decide), _, rfl, ite2 (fun t => nomatch t) (fun _ => ?_)⟩
        refine ⟨.ref e, rfl, e, c i, fs, .ty "TypeError", .type "TypeError", false, rfl, hE2, ec, eg, (fun u r => r), kno "TypeError" (by decide), _, rfl, ite2 (fun t => nomatch t) (fun _ => ?_)⟩
        refine ⟨.ref e, rfl, e, c i, fs, .ty "ArithmeticError", .type "ArithmeticError", false, rfl, hE2, ec, eg, (fun u r => r), kno "ArithmeticError" (by decide), _, rfl, ite2 (fun t => nomatch t) (fun _ => ?_)⟩
        refine ⟨.ref e, rfl, e, c i, fs, .ty "RuntimeError", .type "RuntimeError", false, rfl, hE2, ec, eg, (fun u r => r), kno "RuntimeError" (by decide), _, rfl, _, rfl, iteT ⟨.ref e, rfl, e, c i, fs, .ty "AttributeError", .type "AttributeError", false, rfl, hE2, ec, eg, (fun u r => r), kno "AttributeError" (by decide), _, rfl, q _ (s1.trans h3)⟩⟩
end
end K00

set_option Elab.async false
set_option linter.all false
set_option maxRecDepth 100000
set_option maxHeartbeats 2000000
namespace K00
open PySem PySem.Spec PyProof.Rows L2 Gd
theorem errs_at {c : Nat → Addr} {u v : V} : ∀ {es : List Addr} {i k : Nat} {e : Addr} {H : Hp}, Errs c u v i es H → es[k]? = some e → ErrAt (c (i + k)) (fsV (fldC (i + k)) (valC (i + k) u v)) H e
  | [], _, _, _, _, _, h => by simp at h
  | a :: r, i, 0, e, H, h, hk => by
    obtain rfl : a = e := Option.some.inj hk
    exact h.1
  | a :: r, i, k + 1, e, H, h, hk => by
    have := errs_at h.2 (show r[k]? = some e from hk)
    rw [show i + (k + 1) = i + 1 + k by omega]
    exact this
theorem errs_cat {c : Nat → Addr} {u v : V} : ∀ {es fs : List Addr} {i : Nat} {H : Hp}, Errs c u v i es H → Errs c u v (i + es.length) fs H → Errs c u v i (es ++ fs) H
  | [], _, _, _, _, h => h
  | a :: r, fs, i, H, h, k => ⟨h.1, errs_cat h.2 (by rw [show i + 1 + r.length = i + (a :: r).length by rw [List.length_cons]; omega]; exact k)⟩
theorem errs_same {c : Nat → Addr} {u v : V} {H H' : Hp} (s : Same H H') : ∀ {es : List Addr} {i : Nat}, Errs c u v i es H → Errs c u v i es H'
  | [], _, _ => trivial
  | _ :: _, _, h => ⟨h.1.same s, errs_same s h.2⟩
theorem val_len : ∀ i, i < 40 → (fldC i).length = if i < 33 then 1 else if i < 38 then 2 else 0 := by decide +kernel
/-- the parts of one drawn value do not matter for the first 21 -/
theorem errs_other {c : Nat → Addr} {u v v' : V} : ∀ {es : List Addr} {i : Nat} {H : Hp}, i + es.length ≤ 33 → Errs c u v i es H → Errs c u v' i es H
  | [], _, _, _, _ => trivial
  | a :: r, i, H, hl, h => by
    rw [List.length_cons] at hl
    refine ⟨?_, errs_other (by omega) h.2⟩
    have h1 := h.1
    unfold valC at h1 ⊢
    rw [if_pos (show i < 33 by omega)] at h1 ⊢
    exact h1
/-- a datum that is soon shown -/
structure Few (d : PyData) : Prop where
  sh : d.showable = true
  dp : d.depth ≤ 10
  sz : d.shown.length ≤ 2000
def valD (i : Nat) (d e : PyData) : List PyData := if i < 33 then [d] else if i < 38 then [d, e] else []
theorem sm1000' {n : Nat} (h : n ≤ 10000) : n ≤ sizeLine := by
  have e := sizeLine_eq
  omega
theorem few_all {d e : PyData} (h1 : Few d) (h2 : Few e) (i : Nat) : (PyData.list (valD i d e)).showable = true ∧ (PyData.list (valD i d e)).depth ≤ 60 ∧ (PyData.list (valD i d e)).shown.length ≤ sizeLine := by
  have a1 := h1.sh
  have a2 := h2.sh
  have b1 := h1.dp
  have b2 := h2.dp
  have c1 := h1.sz
  have c2 := h2.sz
  unfold valD
  split
  · refine ⟨by simp [PyData.showable, PyData.showableAll, a1], by simp only [PyData.depth, PyData.depthAll]; omega, sm1000' ?_⟩
    simp only [PyData.shown, PyData.shownAll]
    refine Nat.le_trans (listText_len_le _) ?_
    simp only [List.map_cons, List.map_nil, List.sum_cons, List.sum_nil, List.length_cons, List.length_nil]
    omega
  · split
    · refine ⟨by simp [PyData.showable, PyData.showableAll, a1, a2], by simp only [PyData.depth, PyData.depthAll]; omega, sm1000' ?_⟩
      simp only [PyData.shown, PyData.shownAll]
      refine Nat.le_trans (listText_len_le _) ?_
      simp only [List.map_cons, List.map_nil, List.sum_cons, List.sum_nil, List.length_cons, List.length_nil]
      omega
    · exact ⟨rfl, by decide, sm1000' (by decide +kernel)⟩
def spAll (c : Nat → Addr) : Sp := fun vs H Q _ => ∃ (u v : V) (m : Addr) (es : List Addr) (d e : PyData), vs = [u, v, .ref m] ∧ H m = some (.lst (es.map V.ref)) ∧ es.length = 40 ∧ Errs c u v 0 es H ∧
  Dq H u d ∧ Dq H v e ∧ Few d ∧ Few e ∧ ∀ H' : Hp, Same H H' → Q (.bl true) H'
section
variable {P : Program} {w : World} {K : PySem.W.Frag} {mg : Str → Option Value} {base : Heap} {c f : Nat → Addr}
theorem ok_all_right (T : Txt K mg) (G__law_fields : Cal P w K mg base 1 "_law_fields" (spFields c)) (G__law_stands_right : Cal P w K mg base 2 "_law_stands_right" (spStand c)) : Cal P w K mg base 3 "_law_all_right" (spAll c) := by
  obtain ⟨g, fd, F, b⟩ := T.d_law_all_right
  refine cal F b sc_law_all_right (fun vs H Q E h => ?_) (fun cdv A outer s H vs Q E hgd hr h => ?_)
  · obtain ⟨u, v, m, es, d, e, rfl, _⟩ := h
    rfl
  · have nd := sc_law_all_right.nd
    obtain ⟨u, v, m, es, d, e, rfl, hm, hl, hE, hu, hv, f1, f2, q⟩ := h
    refine ⟨_, (pss_cons (ps_for PassesOwn.never rfl (pi_enum (by rfl) T.z_enumerate (pa_cons (pv 2) pa_nil)) (pg_tup rfl (pgs_cons (pg_name (i := 3) nd rfl (Or.inl rfl)) (pgs_cons (pg_name (i := 4) nd rfl (Or.inl rfl)) pgs_nil))) (C8.pss_cut (ps_set (i := 5) nd rfl (.inl rfl) (pe_ifExp (pt_cmpR op_lt (pv 3) pe_int (nomark _)) (pe_lstX (pa_cons (pv 0) pa_nil)) (pe_ifExp (pt_cmpR op_lt (pv 3) pe_int (nomark _)) (pe_lstX (pa_cons (pv 0) (pa_cons (pv 1) pa_nil))) (pe_lstX pa_nil))))
      (pss_one (ps_if (PW.pt (pw_or (pt_cmpR op_ne (pe_callB (call_reprQ hgd hr.units) (by rfl) T.z_repr (by decide +kernel) (pa_cons (pc G__law_fields hgd hr (by decide) (by rfl) (pa_cons (pv 4) (pa_cons (pv 3) pa_nil))) pa_nil)) (pe_callB (call_reprQ hgd hr.units) (by rfl) T.z_repr (by decide +kernel) (pa_cons (pv 5) pa_nil)) (nomark _)) (pw_or1 (pt_not (pt_val (pc G__law_stands_right hgd hr (by decide) (by rfl) (pa_cons (pv 4) (pa_cons (pv 3) pa_nil)))))))) (pss_one (ps_ret pe_bl)) pss_nil))))
      (pss_one (ps_ret (pe_cmpR op_eq (pe_callB call_len (by rfl) T.z_len PySem.boot_len (pa_cons (pv 2) pa_nil)) pe_int (nomark _))))), ?_⟩
    refine ⟨.ref m, rfl, m, _, rfl, SqL.of hm, for_it (walk_enum (xs := es.map V.ref)) (fun i σ' H' => ∃ y3 y4 y5, σ' = [some u, some v, some (.ref m), y3, y4, y5] ∧ Same H H')
      ⟨none, none, none, rfl, Same.refl _⟩ (fun i σ' H' _ hP => ?_) (fun i x σ' H1 H2 hi hP hY => ?_) (fun σ' H1 hP => ?_)⟩
    · obtain ⟨_, _, _, _, sm⟩ := hP
      exact SqL.of (sm _ _ hm)
    · obtain ⟨y3, y4, y5, rfl, sm⟩ := hP
      obtain ⟨T0, x1, x2, rfl, nT, rfl, e1, e3⟩ := hY
      obtain rfl : V.int (i : Nat) = x1 := Option.some.inj e1
      replace e3 : (es.map V.ref)[i]? = some x2 := e3
      rw [List.getElem?_map] at e3
      obtain ⟨e0, he0, rfl⟩ := Option.map_eq_some_iff.mp e3
      rw [List.length_map, hl] at hi
      have s2 : Same H (upd H1 T0 (.tup [.int (i : Nat), .ref e0])) := sm.trans (same_new nT)
      refine ⟨T0, _, rfl, SqT.of upd_same, rfl, _, _, rfl, _, _, rfl, rfl, ?_⟩
      have hE0 := errs_at hE he0
      rw [Nat.zero_add] at hE0
      have hvl : (valC i u v).length = (fldC i).length := by
        rw [val_len i hi]
        unfold valC
        split
        · rfl
        · split <;> rfl
      have hE2 := hE0.same s2
      have dq : ∀ {H' : Hp}, Same H H' → DqAll H' (valC i u v) (valD i d e) := by
        intro H' s'
        unfold valC valD
        split
        · exact .cons (hu.same s') .nil
        · split
          · exact .cons (hu.same s') (.cons (hv.same s') .nil)
          · exact .nil
      obtain ⟨sh, dp, sz⟩ := few_all f1 f2 i
      refine ⟨fun σ' H' => ∃ q0, σ' = [some u, some v, some (.ref m), some (.int (i : Nat)), some (.ref e0), some (.ref q0)] ∧ H' q0 = some (.lst (valC i u v)) ∧ q0 ≠ sysModules ∧ Same (upd H1 T0 (.tup [.int (i : Nat), .ref e0])) H', ?_, ?_⟩
      · refine ⟨.int i, rfl, _, _, rfl, rfl, _, rfl, ite2 (fun t => ?_) (fun t => ?_)⟩
        · have hv1 : valC i u v = [u] := if_pos (by have := of_decide_eq_true t; omega)
          rw [hv1]
          exact ⟨u, rfl, by show 1 ≤ sizeLine; decide, fun q0 nq ns => ⟨q0, rfl, upd_same, ns, same_new nq⟩⟩
        · have h33 : ¬ i < 33 := fun z => t (decide_eq_true (by omega))
          refine ⟨.int i, rfl, _, _, rfl, rfl, _, rfl, ite2 (fun t2 => ?_) (fun t2 => ?_)⟩
          · have hv1 : valC i u v = [u, v] := (if_neg h33).trans (if_pos (by have := of_decide_eq_true t2; omega))
            rw [hv1]
            exact ⟨u, rfl, v, rfl, by show 2 ≤ sizeLine; decide, fun q0 nq ns => ⟨q0, rfl, upd_same, ns, same_new nq⟩⟩
          · have hv1 : valC i u v = [] := (if_neg h33).trans (if_neg fun z => t2 (decide_eq_true (by omega)))
            rw [hv1]
            exact ⟨Nat.zero_le _, fun q0 nq ns => ⟨q0, rfl, upd_same, ns, same_new nq⟩⟩
      · rintro σ3 H3 ⟨q0, rfl, hq0, nq0, s3⟩
        refine ⟨.ref e0, rfl, .int i, rfl, e0, i, valC i u v, rfl, hi, hvl, hE2.same s3, fun p H4 s4 pn hp => ?_⟩
        refine ⟨.ref p, .list (valD i d e), rfl, .lst hp pn (dq ((s2.trans s3).trans s4)), sh, dp, sz, .ref q0, rfl, .ref q0, .list (valD i d e), rfl, .lst (s4 _ _ hq0) nq0 (dq ((s2.trans s3).trans s4)), sh, dp, sz, rfl, _, rfl, ite2 (fun t => ?_) (fun _ => ?_)⟩
        · rw [decide_eq_true rfl] at t
          cases t
        · exact ⟨.ref e0, rfl, .int i, rfl, e0, i, _, rfl, hi, hE2.same (s3.trans s4), fun H5 s5 => ⟨_, rfl, ite2 (fun t => nomatch t) (fun _ => ⟨_, _, _, rfl, ((s2.trans s3).trans s4).trans s5⟩)⟩⟩
    · obtain ⟨y3, y4, y5, rfl, sm⟩ := hP
      refine ⟨.ref m, rfl, .ref m, _, rfl, .inl ⟨_, SqL.of (sm _ _ hm), rfl⟩, rfl, ?_⟩
      rw [List.length_map, hl]
      exact q _ sm
end
end K00

set_option Elab.async false
set_option linter.all false
set_option maxRecDepth 100000
set_option maxHeartbeats 2000000
namespace K00
open PySem PySem.Spec PyProof.Rows L2 Gd
theorem log_lt {n : Int} (h : n.natAbs < 2 ^ 251) : n.natAbs.log2 < 251 := PySem.Flt.log2_lt_of (by decide) h
theorem few_int {n : Int} (h : n.natAbs < 2 ^ 251) : Few (.int n) := by
  have l := log_lt h
  refine ⟨by simp only [PyData.showable]; exact decide_eq_true (by omega), by simp [PyData.depth, PyData.depthAll], ?_⟩
  have := int_text_length_le (a := n) (k := 251) (by decide) l
  simp only [PyData.shown]
  show (Str.ofString (toString n)).length ≤ 2000
  rw [PyProof.Rows.ofString_length, String.length_toList]
  omega
theorem few_ints {n : Int} (h : n.natAbs < 2 ^ 251) : Few (.list [.int n]) := by
  have l := log_lt h
  refine ⟨by simp only [PyData.showable, PyData.showableAll, Bool.and_true]; exact decide_eq_true (by omega), by simp [PyData.depth, PyData.depthAll], ?_⟩
  have := int_text_length_le (a := n) (k := 251) (by decide) l
  simp only [PyData.shown, PyData.shownAll]
  refine Nat.le_trans (listText_len_le _) ?_
  simp only [List.map_cons, List.map_nil, List.sum_cons, List.sum_nil, List.length_cons, List.length_nil]
  have e : (toString n : Str).length = (toString n : String).length := by
    show (Str.ofString (toString n)).length = _
    rw [PyProof.Rows.ofString_length, String.length_toList]
  omega
theorem few_dec {d : PyData} (h : (d.showable && decide (d.depth ≤ 10) && decide (d.shown.length ≤ 2000)) = true) : Few d := by
  simp only [Bool.and_eq_true, decide_eq_true_eq] at h
  exact ⟨h.1.1, h.1.2, h.2⟩
def spLaw (K : PySem.W.Frag) : Sp := fun vs H Q _ => ∃ (s : Addr) (ns : List Int), vs = [.ref s] ∧ SqL K H s (ns.map V.int) ∧ ns.length ≤ 63 ∧ ∀ H' : Hp, Q (.bl true) H'
section
variable {P : Program} {w : World} {K : PySem.W.Frag} {mg : Str → Option Value} {base : Heap} {c f : Nat → Addr}
theorem ok_law {fl : Addr} {fd : FuncData} (F : C8.Def K mg "law" slaw fl fd) (T : Txt K mg) (Z : Tz K mg c f) (G__law_spring : Cal P w K mg base 1 "_law_spring" (spWell K)) (G__law_cup : Cal P w K mg base 1 "_law_cup" spDip)
    (G__law_one_of : Cal P w K mg base 2 "_law_one_of" spPick) (G__law_parts : Cal P w K mg base 3 "_law_parts" (spPart c)) (G__law_parts_turned : Cal P w K mg base 3 "_law_parts_turned" (spPart c))
    (G__law_others : Cal P w K mg base 3 "_law_others" (spOther c)) (G__law_others_named : Cal P w K mg base 3 "_law_others_named" (spOther c)) (G__law_kin : Cal P w K mg base 1 "_law_kin" (spKin c))
    (G__law_all_right : Cal P w K mg base 3 "_law_all_right" (spAll c)) : FnG P w K mg base CX0 4 fl fd ["_law_script"] (spLaw K) := by
  refine fnG_of F.fn sclaw (fun vs H Q E h => ?_) (fun cdv A outer s H vs Q E hgd hr h => ?_)
  · obtain ⟨s, ns, rfl, _⟩ := h
    rfl
  · have nd := sclaw.nd
    have hr2 := hr.mono (show 2 ≤ 3 by decide)
    obtain ⟨s, ns, rfl, hs, hl, q⟩ := h
    refine ⟨_, PSs.nox (pss_cons (ps_set (i := 1) nd rfl (.inl rfl) (pc G__law_spring hgd hr (by decide) (by rfl) (pa_cons (pv 0) pa_nil)))
      (pss_cons (ps_set (i := 2) nd rfl (.inl rfl) (pe_op op_mulW (pc G__law_one_of hgd hr (by decide) (by rfl) (pa_cons (pv 1) (pa_cons (pe_lstX (pa_cons (pe_un un_neg pe_int) (pa_cons pe_int pa_nil))) pa_nil))) (pc G__law_cup hgd hr (by decide) (by rfl) (pa_cons (pv 1) (pa_cons (pe_op op_pow pe_int pe_int) pa_nil)))))
      (pss_cons (ps_set (i := 3) nd rfl (.inl rfl) (pe_lstX (pa_cons pe_non (pa_cons pe_bl (pa_cons (pv 2) (pa_cons pe_str (pa_cons pe_str (pa_cons (pe_tup (pa_cons pe_int (pa_cons pe_str pa_nil))) (pa_cons (pe_lstX (pa_cons (pv 2) pa_nil)) (pa_cons (pe_disp (pps_cons pe_str (pe_lstX (pa_cons pe_int pa_nil)) pps_nil) (by rfl) (by rfl) (fun z => by cases z) (by decide)) pa_nil))))))))))
      (pss_cons (ps_par (i := 4) (j := 5) rfl nd rfl rfl (by decide) rfl rfl (pa_cons (pc G__law_one_of hgd hr (by decide) (by rfl) (pa_cons (pv 1) (pa_cons (pv 3) pa_nil))) (pa_cons (pc G__law_one_of hgd hr (by decide) (by rfl) (pa_cons (pv 1) (pa_cons (pe_lstX (pa_cons pe_int (pa_cons pe_bl (pa_cons pe_str (pa_cons (pe_lstX pa_nil) (pa_cons (pe_tup pa_nil) (pa_cons (pe_disp (pps_cons pe_int pe_int pps_nil) (by rfl) (by rfl) (fun z => by cases z) (by decide)) (pa_cons (pe_op op_add (pv 2) pe_int) (pa_cons pe_non pa_nil))))))))) pa_nil))) pa_nil)) rfl)
      (pss_cons (ps_if (pt_not (pt_val (pc G__law_all_right hgd hr (by decide) (by rfl) (pa_cons (pv 4) (pa_cons (pv 5) (pa_cons (pe_op op_cat (pc G__law_parts hgd hr (by decide) (by rfl) (pa_cons (pv 4) pa_nil)) (pc G__law_others hgd hr (by decide) (by rfl) (pa_cons (pv 4) (pa_cons (pv 5) pa_nil)))) pa_nil)))))) (pss_one (ps_ret pe_bl)) pss_nil)
      (pss_cons (ps_if (pt_not (pt_val (pc G__law_all_right hgd hr (by decide) (by rfl) (pa_cons (pv 4) (pa_cons (pv 5) (pa_cons (pe_op op_cat (pc G__law_parts_turned hgd hr (by decide) (by rfl) (pa_cons (pv 4) pa_nil)) (pc G__law_others_named hgd hr (by decide) (by rfl) (pa_cons (pv 4) (pa_cons (pv 5) pa_nil)))) pa_nil)))))) (pss_one (ps_ret pe_bl)) pss_nil)
      (pss_cons (ps_for PassesOwn.never rfl (pi_list (pe_lstX (pa_cons (pe_mkP (mkP40 Z) hr2 (by decide) (by rfl) (pa_cons (pv 4) pa_nil)) (pa_cons (pe_mkK (mkK40 Z) hr2 (by rfl) (pk_cons (pv 4) pk_nil)) pa_nil)))) (pg_name (i := 6) nd rfl (Or.inl rfl)) (pss_cons (ps_if (PW.pt (pw_or (pt_cmpR op_ne (pe_callB (call_reprQ hgd hr.units) (by rfl) T.z_repr (by decide +kernel) (pa_cons (pe_fld (pv 6)) pa_nil)) (pe_callB (call_reprQ hgd hr.units) (by rfl) T.z_repr (by decide +kernel) (pa_cons (pv 4) pa_nil)) (nomark _)) (pw_or1 (pt_cmpR op_in_seq pe_bl (pc G__law_kin hgd hr (by decide) (by rfl) (pa_cons (pv 6) pa_nil)) rfl)))) (pss_one (ps_ret pe_bl)) pss_nil)
      (pss_one (ps_if (PW.pt (pw_or (pt_not (pt_val (pe_callB call_isX (by rfl) T.z_isinstance (by decide +kernel) (pa_cons (pv 6) (pa_cons (C8.pe_gc (by rfl) (gC Z 41 (by decide))) pa_nil))))) (pw_or1 (pt_not (pt_val (pe_callB call_isX (by rfl) T.z_isinstance (by decide +kernel) (pa_cons (pv 6) (pa_cons (pe_bltn (v := .ty "ValueError") (u := .type "ValueError") (by rfl) T.z_ValueError (by decide +kernel) rfl) pa_nil)))))))) (pss_one (ps_ret pe_bl)) pss_nil))))
      (pss_one (ps_ret pe_bl))))))))), ?_⟩
    refine ⟨.ref s, rfl, s, ns, rfl, hs, hl, fun w a H1 s1 nw hW => ?_⟩
    refine ⟨.ref w, rfl, 1, rfl, by show 2 ≤ sizeLine; decide, fun l nl _ => ⟨w, a, ns, 0, hW.same (same_new nl), by omega, .inl ⟨l, _, rfl, (hW.off nl).1, upd_same, by show 0 < 2; decide, by show 2 ≤ 1000; decide, fun v H2 hv kp2 hW2 => ?_⟩⟩⟩
    obtain ⟨sg, rfl, hsg, hs1⟩ : ∃ sg : Int, v = .int sg ∧ sg.natAbs < 2 ^ 2 ∧ (sg = 1 ∨ sg = -1) := by
      simp only [List.mem_cons, List.not_mem_nil, or_false] at hv
      rcases hv with rfl | rfl
      · exact ⟨_, rfl, by decide, .inr rfl⟩
      · exact ⟨_, rfl, by decide, .inl rfl⟩
    refine ⟨.ref w, rfl, 10, 60, rfl, rfl, ⟨by decide, by decide, by decide⟩, w, a, ns, _, _, rfl, hW2, by omega, by decide, by decide, fun x H3 x0 x1 kp3 hW3 => ?_⟩
    have hx : x < 2 ^ 249 := by
      have : (10 : Int) ^ (60 : Int).toNat < 2 ^ 249 := by decide
      omega
    refine ⟨sg, x, rfl, rfl, wide_mul hsg (b := 250) (by omega) (by decide) (by decide) (by decide), ?_⟩
    obtain ⟨num, hnum⟩ : ∃ num : Int, num = sg * x := ⟨_, rfl⟩
    have hn1 : num.natAbs < 2 ^ 251 := by
      rcases hs1 with rfl | rfl <;> omega
    have hn2 : (num + 1).natAbs < 2 ^ 251 := by
      rcases hs1 with rfl | rfl <;> omega
    refine ⟨.int num, by rw [hnum]; rfl, ?_⟩
    refine ⟨by show 2 ≤ sizeLine; decide, fun p1 n1 => ⟨.int num, by rw [hnum]; rfl, by show 1 ≤ sizeLine; decide, fun p2 n2 x2 => fun p3 n3 => ⟨by show 1 ≤ sizeLine; decide, fun p4 n4 x4 => ⟨?_, [(.inr "a", .ref p4)], rfl, by show 1 ≤ 15; decide, by show 8 ≤ sizeLine; decide, fun l1 nl1 xl1 => ?_⟩⟩⟩⟩
    · rw [upd_ne (ne_of_none upd_same n4), upd_same]
    have t1 := same_new n1 (o := .tup [.int 1, .str "a"])
    have t2 := same_new n2 (o := .lst [.int num])
    have t3 := same_grow (o := .dK (mergeK [] [(.inr "a", .ref p4)])) n3 ((same_new n3 (o := .dK [])).trans (same_new n4 (o := .lst [.int 1])))
    have t4 := same_new nl1 (o := .lst [.non, .bl true, .int num, .str "part", .str "", .ref p1, .ref p2, .ref p3])
    have tA := ((t1.trans t2).trans t3).trans t4
    obtain ⟨ow, how⟩ := hW3.at_w
    have w1 : p1 ≠ w := Ne.symm (ne_of_none how n1)
    have w2 : p2 ≠ w := Ne.symm (ne_of_none (t1 _ _ how) n2)
    have w3 : p3 ≠ w := Ne.symm (ne_of_none ((t1.trans t2) _ _ how) n3)
    have w4 : p4 ≠ w := Ne.symm (ne_of_none (((t1.trans t2).trans (same_new n3 (o := .dK []))) _ _ how) n4)
    have h34 : p4 ≠ p3 := Ne.symm (ne_of_none (upd_same (o := .dK [])) n4)
    have a1 := (((t2.trans t3).trans t4) p1 _ upd_same)
    have a2 := ((t3.trans t4) p2 _ upd_same)
    have a3 := t4 p3 _ upd_same
    have a4 := t4 p4 _ ((upd_ne h34).trans upd_same)
    have wl := (hW3.same ((t1.trans t2).trans t3)).off nl1
    refine ⟨.ref w, rfl, .ref l1, rfl, w, a, ns, _, hW3.same tA, by omega, .inl ⟨l1, _, rfl, wl.1, upd_same, by show 0 < 8; decide, by show 8 ≤ 1000; decide, fun u H4 hu kp4 hW4 => ?_⟩⟩
    refine ⟨.ref w, rfl, Nat.zero_le _, fun b1 m1 y1 => ⟨Nat.zero_le _, fun b2 m2 => fun b3 m3 => ⟨upd_same, [(.inl 1, .int 2)], rfl, by show 1 ≤ 15; decide, .int num, by rw [hnum]; rfl, num, 1, rfl, rfl, by show 8 ≤ sizeLine; decide, fun l2 nl2 xl2 => ?_⟩⟩⟩
    have u1 := same_new m1 (o := .lst [])
    have u2 := same_new m2 (o := .tup [])
    have u3 := same_grow (o := .dK (mergeK [] [(.inl 1, .int 2)])) m3 (same_new m3 (o := .dK []))
    have u4 := same_new nl2 (o := .lst [.int 0, .bl false, .str "task", .ref b1, .ref b2, .ref b3, .int (num + 1), .non])
    have tB := ((u1.trans u2).trans u3).trans u4
    obtain ⟨ow4, how4⟩ := hW4.at_w
    have v1 : b1 ≠ w := Ne.symm (ne_of_none how4 m1)
    have v2 : b2 ≠ w := Ne.symm (ne_of_none (u1 _ _ how4) m2)
    have v3 : b3 ≠ w := Ne.symm (ne_of_none ((u1.trans u2) _ _ how4) m3)
    have c1 := (((u2.trans u3).trans u4) b1 _ upd_same)
    have c2 := ((u3.trans u4) b2 _ upd_same)
    have c3 := u4 b3 _ upd_same
    have wl2 := (hW4.same ((u1.trans u2).trans u3)).off nl2
    refine ⟨w, a, ns, _, hW4.same tB, by omega, .inl ⟨l2, _, rfl, wl2.1, upd_same, by show 0 < 8; decide, by show 8 ≤ 1000; decide, fun v H5 hv kp5 hW5 => ⟨u, v, rfl, ?_⟩⟩⟩
    have up : ∀ {p : Addr} {o : HO}, p ≠ w → H4 p = some o → H5 p = some o := fun {p o} n e => kp5 _ _ n (tB _ _ e)
    have b1' := up w1 (kp4 _ _ w1 a1)
    have b2' := up w2 (kp4 _ _ w2 a2)
    have b3' := up w3 (kp4 _ _ w3 a3)
    have b4' := up w4 (kp4 _ _ w4 a4)
    obtain ⟨du, qu, fu⟩ : ∃ d, Dq H5 u d ∧ Few d := by
      simp only [List.mem_cons, List.not_mem_nil, or_false] at hu
      rcases hu with rfl | rfl | rfl | rfl | rfl | rfl | rfl | rfl
      · exact ⟨_, .non, few_dec (by decide +kernel)⟩
      · exact ⟨_, .bl true, few_dec (by decide +kernel)⟩
      · exact ⟨_, .int num, few_int hn1⟩
      · exact ⟨_, .str _, few_dec (by decide +kernel)⟩
      · exact ⟨_, .str _, few_dec (by decide +kernel)⟩
      · exact ⟨_, .tup b1' (.cons (.int 1) (.cons (.str "a") .nil)), few_dec (by decide +kernel)⟩
      · exact ⟨_, .lst b2' x2 (.cons (.int num) .nil), few_ints hn1⟩
      · exact ⟨_, .dk (k := .inr "a") b3' (.lst b4' x4 (.cons (.int 1) .nil)), few_dec (by decide +kernel)⟩
    obtain ⟨dv, qv, fv⟩ : ∃ d, Dq H5 v d ∧ Few d := by
      simp only [List.mem_cons, List.not_mem_nil, or_false] at hv
      rcases hv with rfl | rfl | rfl | rfl | rfl | rfl | rfl | rfl
      · exact ⟨_, .int 0, few_dec (by decide +kernel)⟩
      · exact ⟨_, .bl false, few_dec (by decide +kernel)⟩
      · exact ⟨_, .str _, few_dec (by decide +kernel)⟩
      · exact ⟨_, .lst (kp5 _ _ v1 c1) y1 .nil, few_dec (by decide +kernel)⟩
      · exact ⟨_, .tup (kp5 _ _ v2 c2) .nil, few_dec (by decide +kernel)⟩
      · exact ⟨_, .dk (k := .inl 1) (kp5 _ _ v3 c3) (.int 2), few_dec (by decide +kernel)⟩
      · exact ⟨_, .int _, few_int hn2⟩
      · exact ⟨_, .non, few_dec (by decide +kernel)⟩
    refine ⟨u, rfl, v, rfl, u, rfl, u, rfl, fun paA eaA HaA saA laA haA raA => ⟨u, rfl, v, rfl, u, v, rfl, fun pbA ebA HbA sbA lbA hbA rbA => ⟨paA, pbA, _, _, rfl, rfl, sbA _ _ haA, hbA, ?_, fun rA nrA => ⟨u, v, rA, eaA ++ ebA, du, dv, rfl, ?_, ?_, ?_, qu.same ?_, qv.same ?_, fu, fv, fun HcA scA => ⟨_, rfl, ite2 (fun t => nomatch t) (fun _ => ?_)⟩⟩⟩⟩⟩
    · rw [List.length_map, List.length_map, laA, lbA]
      show 40 ≤ _
      decide
    · rw [upd_same, List.map_append]
    · rw [List.length_append, laA, lbA]
    · exact errs_same (same_new nrA) (errs_cat (errs_same sbA (errs_other (by omega) raA)) (by rw [laA]; exact rbA))
    · exact ((saA.trans sbA).trans (same_new nrA))
    · exact ((saA.trans sbA).trans (same_new nrA))
    have smA := (((saA.trans sbA).trans (same_new nrA (o := .lst (eaA.map V.ref ++ ebA.map V.ref)))).trans scA)
    refine ⟨u, rfl, v, rfl, u, rfl, u, rfl, fun paB eaB HaB saB laB haB raB => ⟨u, rfl, v, rfl, u, v, rfl, fun pbB ebB HbB sbB lbB hbB rbB => ⟨paB, pbB, _, _, rfl, rfl, sbB _ _ haB, hbB, ?_, fun rB nrB => ⟨u, v, rB, eaB ++ ebB, du, dv, rfl, ?_, ?_, ?_, qu.same ?_, qv.same ?_, fu, fv, fun HcB scB => ⟨_, rfl, ite2 (fun t => nomatch t) (fun _ => ?_)⟩⟩⟩⟩⟩
    · rw [List.length_map, List.length_map, laB, lbB]
      show 40 ≤ _
      decide
    · rw [upd_same, List.map_append]
    · rw [List.length_append, laB, lbB]
    · exact errs_same (same_new nrB) (errs_cat (errs_same sbB (errs_other (by omega) raB)) (by rw [laB]; exact rbB))
    · exact smA.trans (((saB.trans sbB).trans (same_new nrB)))
    · exact smA.trans (((saB.trans sbB).trans (same_new nrB)))
    have smB := smA.trans ((((saB.trans sbB).trans (same_new nrB (o := .lst (eaB.map V.ref ++ ebB.map V.ref)))).trans scB))
    refine ⟨u, rfl, rfl, rfl, fun q1 K1 z1 e1 => ⟨u, rfl, rfl, rfl, fun q2 K2 z2 e2 => ⟨by show 2 ≤ sizeLine; decide, fun m nm _ => ⟨m, rfl, ⟨_, SqL.of upd_same⟩,
      for_it (walk_list (xs := [V.ref q1, V.ref q2])) (fun i σ' H' => ∃ y, σ' = [some (.ref s), some (.ref w), some (.int (sg * x)), some (.ref l1), some u, some v, y] ∧ Same (upd K2 m (.lst [.ref q1, .ref q2])) H')
        ⟨_, rfl, Same.refl _⟩ (fun i σ' H' _ hP => ?_) (fun i y σ' G1 G2 hi hP hY => ?_) (fun σ' G1 hP => ?_)⟩⟩⟩⟩
    · obtain ⟨_, _, sm⟩ := hP
      exact SqL.of (sm _ _ upd_same)
    · obtain ⟨y6, rfl, sm⟩ := hP
      obtain ⟨rfl, hy⟩ := hY
      have zm := same_new nm (o := .lst [.ref q1, .ref q2])
      obtain ⟨e0, rfl, he⟩ : ∃ e0, y = .ref e0 ∧ ErrAt (c 40) [("name", u)] G2 e0 := by
        have hm := List.mem_of_getElem? hy
        simp only [List.mem_cons, List.not_mem_nil, or_false] at hm
        rcases hm with rfl | rfl
        · exact ⟨q1, rfl, e1.same ((z2.trans zm).trans sm)⟩
        · exact ⟨q2, rfl, e2.same (zm.trans sm)⟩
      have qu2 : Dq G2 u du := qu.same (smB.trans (((z1.trans z2).trans zm).trans sm))
      have ec := Z.ec 40 (by decide)
      have eg := Z.eg
      have sh := fu.sh
      have dp : du.depth ≤ 60 := Nat.le_trans fu.dp (by decide)
      have sz : du.shown.length ≤ sizeLine := sm1000' (Nat.le_trans fu.sz (by decide))
      have k41 : PySem.W.kitOne K (.ref (c 40)) (.ref (c 41)) = some true := Z.kin 40 41 (by decide) (by decide)
      refine ⟨.ref e0, rfl, e0, c 40, _, u, rfl, he, ec, Z.no 40 (by decide) "name" (by decide), rfl, u, du, rfl, qu2, sh, dp, sz, u, rfl, u, du, rfl, qu2, sh, dp, sz, rfl, _, rfl, ite2 (fun t => ?_) (fun _ => ?_)⟩
      · rw [decide_eq_true rfl] at t
        cases t
      refine ⟨.ref e0, rfl, e0, 40, _, rfl, by decide, he, fun p G3 g3 hp => ⟨p, _, rfl, .inl (SqL.of hp), rfl, by rfl, _, rfl, ite2 (fun t => ?_) (fun _ => ?_)⟩⟩
      · exact absurd t (by decide +kernel)
      refine ⟨.ref e0, rfl, e0, c 40, _, .ref (c 41), _, true, rfl, he.same g3, ec, eg, (fun u r => r), k41, _, rfl, ite2 (fun t => nomatch t) (fun _ => ?_)⟩
      refine ⟨.ref e0, rfl, e0, c 40, _, .ty "ValueError", .type "ValueError", true, rfl, he.same g3, ec, eg, (fun u r => r), Z.kve 40 (by decide), _, rfl, ite2 (fun t => nomatch t) (fun _ => ?_)⟩
      exact ⟨_, rfl, sm.trans g3⟩
    · exact q _
end
end K00

set_option Elab.async false
set_option linter.all false
set_option maxRecDepth 100000
set_option maxHeartbeats 2000000
namespace K00
open PySem PySem.Spec PyProof.Rows L2 Gd
theorem and2 {a b : Bool} (h : (a && b) = true) : a = true ∧ b = true := Bool.and_eq_true_iff.mp h
theorem cl_of {K : PySem.W.Frag} {l : List Addr} (h : allB K l = true) (i : Nat) (hi : i < 41) : clB K l i = true := List.all_eq_true.mp (and2 h).2 i (List.mem_range.mpr hi)
section
variable {K : PySem.W.Frag} {mg : Str → Option Value} {l : List Addr} {f : Nat → Addr}
theorem ec_of (h : allB K l = true) (i : Nat) (hi : i < 41)
    (x : ∃ nm q N bs bm sn sub ab col dd k0 k1 k2 k3 k5, K.lookup (l.getD i 0) = some (excClassObj nm q (l.getD i 0) N bs bm true sn sub ab col dd k0 k1 k2 k3 k5 "ValueError.__new__") ∧ PySem.HandSPX.refsVE bm = true) : Ec K (l.getD i 0) := by
  obtain ⟨h1, h⟩ := and2 (and2 (cl_of h i hi)).1
  obtain ⟨h2, h⟩ := and2 h
  obtain ⟨h3, h⟩ := and2 h
  obtain ⟨h4, h⟩ := and2 h
  obtain ⟨h5, h⟩ := and2 h
  obtain ⟨h6, h7⟩ := and2 h
  exact ⟨⟨x, of_decide_eq_true h1, of_decide_eq_true h3, of_decide_eq_true h4, h5⟩, xfB_ok h2, of_decide_eq_true h6, of_decide_eq_true h7⟩
theorem tz_of (h : allB K l = true) (g : ∀ i, i < 42 → mg (nmC i) = some (.ref (l.getD i 0)))
    (x : ∀ i, i < 41 → ∃ nm q N bs bm sn sub ab col dd k0 k1 k2 k3 k5, K.lookup (l.getD i 0) = some (excClassObj nm q (l.getD i 0) N bs bm true sn sub ab col dd k0 k1 k2 k3 k5 "ValueError.__new__") ∧ PySem.HandSPX.refsVE bm = true)
    (ini : ∀ i, i < 41 → hasC i = true → PySem.W.findIn K (.ref (l.getD i 0)) "__init__" = some (some (.ref (f (dC i))))) (ti : ∀ i, i < 41 → ownC i = true → PySem.W.typeIn K (.ref (f i)) = some (.type "function"))
    (fn : ∀ i, i < 41 → ownC i = true → ∃ fd, C8.Fun K "__init__" (nmC i ++ ".__init__") (sI i) (f i) fd ∧ fd.defaults = .none) : Tz K mg (fun i => l.getD i 0) f := by
  obtain ⟨e1, e⟩ := and2 (and2 h).1
  obtain ⟨e2, e⟩ := and2 e
  obtain ⟨e3, e4⟩ := and2 e
  refine ⟨g, fun i hi => ec_of h i hi (x i hi), ⟨of_decide_eq_true e1, of_decide_eq_true e2⟩, ini, ti, fn, fun i hi n hn => ?_, fun i j hi hj => ?_, fun i hi => ?_, fun i hi n hn => ?_, e3, e4, (ec_of h 38 (by decide) (x 38 (by decide))).oex.kC, (ec_of h 39 (by decide) (x 39 (by decide))).oex.kC⟩
  · exact of_decide_eq_true (List.all_eq_true.mp (and2 (and2 (cl_of h i hi)).2).1 n hn)
  · exact of_decide_eq_true (List.all_eq_true.mp (and2 (and2 (and2 (cl_of h i hi)).2).2).1 j (List.mem_range.mpr hj))
  · exact of_decide_eq_true (and2 (and2 (and2 (and2 (cl_of h i hi)).2).2).2).1
  · exact of_decide_eq_true (List.all_eq_true.mp (and2 (and2 (and2 (and2 (cl_of h i hi)).2).2).2).2 n hn)
end
end K00

set_option Elab.async false
set_option linter.all false
set_option maxRecDepth 100000
set_option maxHeartbeats 4000000
namespace K00
open PySem PySem.Spec PyProof.Rows L2 Gd
theorem clsB_ok {K : PySem.W.Frag} {C : Addr} (h : clsB K C = true) : ∃ nm q N bs bm sn sub ab col dd k0 k1 k2 k3 k5, K.lookup C = some (excClassObj nm q C N bs bm true sn sub ab col dd k0 k1 k2 k3 k5 "ValueError.__new__") ∧ PySem.HandSPX.refsVE bm = true := by
  unfold clsB at h
  split at h
  · rename_i dd z sl ho
    split at h
    · rename_i C' bm k0 k1 k2 k3 n k5 hm hs
      simp only [Bool.and_eq_true, beq_iff_eq, Bool.not_eq_true'] at h
      obtain ⟨⟨⟨⟨rfl, rfl⟩, hdel⟩, hdct⟩, hr⟩ := h
      obtain ⟨nm, bs, mro, ns, qn, hd, sn, sub, ab, col, del⟩ := z
      dsimp only at hm hdel hdct
      subst hm hdel hdct
      have hsl : sl = #[k0, k1, k2, k3, some (.builtin "ValueError.__new__"), k5] := by
        obtain ⟨l⟩ := sl
        simp only at hs
        rw [hs]
      subst hsl
      exact ⟨_, _, _, _, _, _, _, _, _, _, _, _, _, _, _, ho, hr⟩
    · cases h
  · cases h
theorem all_mk {P : Program} {w : World} {K : PySem.W.Frag} {h : Heap} {mg : Str → Option Value} {fa : Addr} (X : K.In h) (G : h.Ns mainGlobals mg) (hfa : mg "law" = some (.ref fa)) (c : SaysG Bx fnx K) :
    ∃ fd : FuncData, (∀ (s : Shared) (u : Value), BindsTo s fd ⟨[u], []⟩ [("_law_script", u)]) ∧ ∀ base : Heap, K.In base → base.Ns mainGlobals mg → FnG P w K mg base CX0 4 fa fd ["_law_script"] (spLaw K) := by
  obtain ⟨cf, cx⟩ := Bool.and_eq_true_iff.mp c.1
  have e := hfa.symm.trans (He.glo_ok X G (fa_at cf 33 (f := .glo "law") rfl))
  cases e
  obtain ⟨fd0, F0, df0⟩ := def_of (x := "_law_spring") (st := s_law_spring) X G (c.fn 0 (d := gd "_law_spring" s_law_spring) rfl) (fa_at cf 0 (f := .glo "_law_spring") rfl) (fa_at cf 1 (f := .keep "_law_spring") rfl) (fa_at cf 2 (f := .code ("_law_spring", none) "_law_spring") rfl)
  have b0 := F0.fn.binds df0 (ps := ["_law_script"]) fun _ _ _ _ _ _ us hl => match us, hl with | [_], _ => rfl
  obtain ⟨fd1, F1, df1⟩ := def_of (x := "_law_cup") (st := s_law_cup) X G (c.fn 1 (d := gd "_law_cup" s_law_cup) rfl) (fa_at cf 3 (f := .glo "_law_cup") rfl) (fa_at cf 4 (f := .keep "_law_cup") rfl) (fa_at cf 5 (f := .code ("_law_cup", none) "_law_cup") rfl)
  have b1 := F1.fn.binds df1 (ps := ["_law_spring_here", "_law_many"]) fun _ _ _ _ _ _ us hl => match us, hl with | [_, _], _ => rfl
  obtain ⟨fd2, F2, df2⟩ := def_of (x := "_law_one_of") (st := s_law_one_of) X G (c.fn 2 (d := gd "_law_one_of" s_law_one_of) rfl) (fa_at cf 6 (f := .glo "_law_one_of") rfl) (fa_at cf 7 (f := .keep "_law_one_of") rfl) (fa_at cf 8 (f := .code ("_law_one_of", none) "_law_one_of") rfl)
  have b2 := F2.fn.binds df2 (ps := ["_law_spring_here", "_law_some"]) fun _ _ _ _ _ _ us hl => match us, hl with | [_, _], _ => rfl
  obtain ⟨fd3, F3, df3⟩ := def_of (x := "_law_parts") (st := s_law_parts) X G (c.fn 3 (d := gd "_law_parts" s_law_parts) rfl) (fa_at cf 9 (f := .glo "_law_parts") rfl) (fa_at cf 10 (f := .keep "_law_parts") rfl) (fa_at cf 11 (f := .code ("_law_parts", none) "_law_parts") rfl)
  have b3 := F3.fn.binds df3 (ps := ["_law_part"]) fun _ _ _ _ _ _ us hl => match us, hl with | [_], _ => rfl
  obtain ⟨fd4, F4, df4⟩ := def_of (x := "_law_parts_turned") (st := s_law_parts_turned) X G (c.fn 4 (d := gd "_law_parts_turned" s_law_parts_turned) rfl) (fa_at cf 12 (f := .glo "_law_parts_turned") rfl) (fa_at cf 13 (f := .keep "_law_parts_turned") rfl) (fa_at cf 14 (f := .code ("_law_parts_turned", none) "_law_parts_turned") rfl)
  have b4 := F4.fn.binds df4 (ps := ["_law_part"]) fun _ _ _ _ _ _ us hl => match us, hl with | [_], _ => rfl
  obtain ⟨fd5, F5, df5⟩ := def_of (x := "_law_others") (st := s_law_others) X G (c.fn 5 (d := gd "_law_others" s_law_others) rfl) (fa_at cf 15 (f := .glo "_law_others") rfl) (fa_at cf 16 (f := .keep "_law_others") rfl) (fa_at cf 17 (f := .code ("_law_others", none) "_law_others") rfl)
  have b5 := F5.fn.binds df5 (ps := ["_law_one", "_law_two"]) fun _ _ _ _ _ _ us hl => match us, hl with | [_, _], _ => rfl
  obtain ⟨fd6, F6, df6⟩ := def_of (x := "_law_others_named") (st := s_law_others_named) X G (c.fn 6 (d := gd "_law_others_named" s_law_others_named) rfl) (fa_at cf 18 (f := .glo "_law_others_named") rfl) (fa_at cf 19 (f := .keep "_law_others_named") rfl) (fa_at cf 20 (f := .code ("_law_others_named", none) "_law_others_named") rfl)
  have b6 := F6.fn.binds df6 (ps := ["_law_one", "_law_two"]) fun _ _ _ _ _ _ us hl => match us, hl with | [_, _], _ => rfl
  obtain ⟨fd7, F7, df7⟩ := def_of (x := "_law_fields") (st := s_law_fields) X G (c.fn 7 (d := gd "_law_fields" s_law_fields) rfl) (fa_at cf 21 (f := .glo "_law_fields") rfl) (fa_at cf 22 (f := .keep "_law_fields") rfl) (fa_at cf 23 (f := .code ("_law_fields", none) "_law_fields") rfl)
  have b7 := F7.fn.binds df7 (ps := ["_law_error", "_law_place"]) fun _ _ _ _ _ _ us hl => match us, hl with | [_, _], _ => rfl
  obtain ⟨fd8, F8, df8⟩ := def_of (x := "_law_kin") (st := s_law_kin) X G (c.fn 8 (d := gd "_law_kin" s_law_kin) rfl) (fa_at cf 24 (f := .glo "_law_kin") rfl) (fa_at cf 25 (f := .keep "_law_kin") rfl) (fa_at cf 26 (f := .code ("_law_kin", none) "_law_kin") rfl)
  have b8 := F8.fn.binds df8 (ps := ["_law_error"]) fun _ _ _ _ _ _ us hl => match us, hl with | [_], _ => rfl
  obtain ⟨fd9, F9, df9⟩ := def_of (x := "_law_stands_right") (st := s_law_stands_right) X G (c.fn 9 (d := gd "_law_stands_right" s_law_stands_right) rfl) (fa_at cf 27 (f := .glo "_law_stands_right") rfl) (fa_at cf 28 (f := .keep "_law_stands_right") rfl) (fa_at cf 29 (f := .code ("_law_stands_right", none) "_law_stands_right") rfl)
  have b9 := F9.fn.binds df9 (ps := ["_law_error", "_law_place"]) fun _ _ _ _ _ _ us hl => match us, hl with | [_, _], _ => rfl
  obtain ⟨fd10, F10, df10⟩ := def_of (x := "_law_all_right") (st := s_law_all_right) X G (c.fn 10 (d := gd "_law_all_right" s_law_all_right) rfl) (fa_at cf 30 (f := .glo "_law_all_right") rfl) (fa_at cf 31 (f := .keep "_law_all_right") rfl) (fa_at cf 32 (f := .code ("_law_all_right", none) "_law_all_right") rfl)
  have b10 := F10.fn.binds df10 (ps := ["_law_one", "_law_two", "_law_made"]) fun _ _ _ _ _ _ us hl => match us, hl with | [_, _, _], _ => rfl
  obtain ⟨fd11, F11, df11⟩ := def_of (x := "law") (st := slaw) X G (c.fn 11 (d := gd "law" slaw) rfl) (fa_at cf 33 (f := .glo "law") rfl) (fa_at cf 34 (f := .keep "law") rfl) (fa_at cf 35 (f := .code ("law", none) "law") rfl)
  have b11 := F11.fn.binds df11 (ps := ["_law_script"]) fun _ _ _ _ _ _ us hl => match us, hl with | [_], _ => rfl
  have T : Txt K mg :=
    { d_law_spring := ⟨_, _, F0, b0⟩,
      d_law_cup := ⟨_, _, F1, b1⟩,
      d_law_one_of := ⟨_, _, F2, b2⟩,
      d_law_parts := ⟨_, _, F3, b3⟩,
      d_law_parts_turned := ⟨_, _, F4, b4⟩,
      d_law_others := ⟨_, _, F5, b5⟩,
      d_law_others_named := ⟨_, _, F6, b6⟩,
      d_law_fields := ⟨_, _, F7, b7⟩,
      d_law_kin := ⟨_, _, F8, b8⟩,
      d_law_stands_right := ⟨_, _, F9, b9⟩,
      d_law_all_right := ⟨_, _, F10, b10⟩,
      d_law := ⟨_, _, F11, b11⟩,
      z_len := He.free_ok X G (fa_at cf 36 (f := .free "len") rfl),
      z_int := He.free_ok X G (fa_at cf 37 (f := .free "int") rfl),
      z_abs := He.free_ok X G (fa_at cf 38 (f := .free "abs") rfl),
      z_isinstance := He.free_ok X G (fa_at cf 39 (f := .free "isinstance") rfl),
      z_repr := He.free_ok X G (fa_at cf 40 (f := .free "repr") rfl),
      z_range := He.free_ok X G (fa_at cf 41 (f := .free "range") rfl),
      z_enumerate := He.free_ok X G (fa_at cf 42 (f := .free "enumerate") rfl),
      z_ValueError := He.free_ok X G (fa_at cf 43 (f := .free "ValueError") rfl),
      z_LookupError := He.free_ok X G (fa_at cf 44 (f := .free "LookupError") rfl),
      z_TypeError := He.free_ok X G (fa_at cf 45 (f := .free "TypeError") rfl),
      z_ArithmeticError := He.free_ok X G (fa_at cf 46 (f := .free "ArithmeticError") rfl),
      z_RuntimeError := He.free_ok X G (fa_at cf 47 (f := .free "RuntimeError") rfl),
      z_AttributeError := He.free_ok X G (fa_at cf 48 (f := .free "AttributeError") rfl) }
  obtain ⟨x1, cx⟩ := Bool.and_eq_true_iff.mp cx
  obtain ⟨x2, cx⟩ := Bool.and_eq_true_iff.mp cx
  obtain ⟨x3, x4⟩ := Bool.and_eq_true_iff.mp cx
  have Z : Tz K mg (fun i => (lC K).getD i 0) (fC K) := by
    refine tz_of x1 ?_ (fun i hi => clsB_ok (List.all_eq_true.mp x2 i (List.mem_range.mpr hi))) (fun i hi hh => ?_) (fun i hi hh => ?_) ?_
    · exact fun i h => match i, h with
        | 0, _ => He.glo_ok X G (fa_at cf 49 (f := .glo "BadWorld") rfl)
        | 1, _ => He.glo_ok X G (fa_at cf 50 (f := .glo "BadBlur") rfl)
        | 2, _ => He.glo_ok X G (fa_at cf 51 (f := .glo "BadWatch") rfl)
        | 3, _ => He.glo_ok X G (fa_at cf 52 (f := .glo "BadTask") rfl)
        | 4, _ => He.glo_ok X G (fa_at cf 53 (f := .glo "BadStanding") rfl)
        | 5, _ => He.glo_ok X G (fa_at cf 54 (f := .glo "BadTable") rfl)
        | 6, _ => He.glo_ok X G (fa_at cf 55 (f := .glo "BadPlay") rfl)
        | 7, _ => He.glo_ok X G (fa_at cf 56 (f := .glo "BadView") rfl)
        | 8, _ => He.glo_ok X G (fa_at cf 57 (f := .glo "BadLog") rfl)
        | 9, _ => He.glo_ok X G (fa_at cf 58 (f := .glo "BadTree") rfl)
        | 10, _ => He.glo_ok X G (fa_at cf 59 (f := .glo "BadRow") rfl)
        | 11, _ => He.glo_ok X G (fa_at cf 60 (f := .glo "BadGroups") rfl)
        | 12, _ => He.glo_ok X G (fa_at cf 61 (f := .glo "BadWait") rfl)
        | 13, _ => He.glo_ok X G (fa_at cf 62 (f := .glo "BadSmudges") rfl)
        | 14, _ => He.glo_ok X G (fa_at cf 63 (f := .glo "BadRoster") rfl)
        | 15, _ => He.glo_ok X G (fa_at cf 64 (f := .glo "BadFog") rfl)
        | 16, _ => He.glo_ok X G (fa_at cf 65 (f := .glo "BadFront") rfl)
        | 17, _ => He.glo_ok X G (fa_at cf 66 (f := .glo "BadHall") rfl)
        | 18, _ => He.glo_ok X G (fa_at cf 67 (f := .glo "BadStory") rfl)
        | 19, _ => He.glo_ok X G (fa_at cf 68 (f := .glo "BadNumbers") rfl)
        | 20, _ => He.glo_ok X G (fa_at cf 69 (f := .glo "BadPaper") rfl)
        | 21, _ => He.glo_ok X G (fa_at cf 70 (f := .glo "NoState") rfl)
        | 22, _ => He.glo_ok X G (fa_at cf 71 (f := .glo "NoLabel") rfl)
        | 23, _ => He.glo_ok X G (fa_at cf 72 (f := .glo "NoDeed") rfl)
        | 24, _ => He.glo_ok X G (fa_at cf 73 (f := .glo "NoSight") rfl)
        | 25, _ => He.glo_ok X G (fa_at cf 74 (f := .glo "NoWatchState") rfl)
        | 26, _ => He.glo_ok X G (fa_at cf 75 (f := .glo "NoName") rfl)
        | 27, _ => He.glo_ok X G (fa_at cf 76 (f := .glo "Twice") rfl)
        | 28, _ => He.glo_ok X G (fa_at cf 77 (f := .glo "NoTable") rfl)
        | 29, _ => He.glo_ok X G (fa_at cf 78 (f := .glo "NotKept") rfl)
        | 30, _ => He.glo_ok X G (fa_at cf 79 (f := .glo "Unlike") rfl)
        | 31, _ => He.glo_ok X G (fa_at cf 80 (f := .glo "NotNow") rfl)
        | 32, _ => He.glo_ok X G (fa_at cf 81 (f := .glo "NoWay") rfl)
        | 33, _ => He.glo_ok X G (fa_at cf 82 (f := .glo "NoEntry") rfl)
        | 34, _ => He.glo_ok X G (fa_at cf 83 (f := .glo "Breaks") rfl)
        | 35, _ => He.glo_ok X G (fa_at cf 84 (f := .glo "TooMany") rfl)
        | 36, _ => He.glo_ok X G (fa_at cf 85 (f := .glo "BadText") rfl)
        | 37, _ => He.glo_ok X G (fa_at cf 86 (f := .glo "BadLine") rfl)
        | 38, _ => He.glo_ok X G (fa_at cf 87 (f := .glo "Ended") rfl)
        | 39, _ => He.glo_ok X G (fa_at cf 88 (f := .glo "Nothing") rfl)
        | 40, _ => He.glo_ok X G (fa_at cf 89 (f := .glo "Missing") rfl)
        | 41, _ => He.glo_ok X G (fa_at cf 90 (f := .glo "DimError") rfl)
        | k + 42, h => absurd h (by omega)
    · have z := List.all_eq_true.mp x3 i (List.mem_range.mpr hi)
      rw [hh] at z
      exact of_decide_eq_true z
    · have z := List.all_eq_true.mp x4 i (List.mem_range.mpr hi)
      rw [hh] at z
      exact of_decide_eq_true z
    · exact fun i h z => match i, h, z with
        | 0, _, _ => fun_of (p := ("BadWorld", some "__init__")) (st := sI 0) (c.fn 12 (d := cd "BadWorld" "__init__" "BadWorld.__init__" (sI 0)) rfl) (fa_at cf 91 (f := .code ("BadWorld", some "__init__") "BadWorld.__init__") rfl)
        | 1, _, _ => fun_of (p := ("BadBlur", some "__init__")) (st := sI 1) (c.fn 13 (d := cd "BadBlur" "__init__" "BadBlur.__init__" (sI 1)) rfl) (fa_at cf 92 (f := .code ("BadBlur", some "__init__") "BadBlur.__init__") rfl)
        | 2, _, _ => fun_of (p := ("BadWatch", some "__init__")) (st := sI 2) (c.fn 14 (d := cd "BadWatch" "__init__" "BadWatch.__init__" (sI 2)) rfl) (fa_at cf 93 (f := .code ("BadWatch", some "__init__") "BadWatch.__init__") rfl)
        | 3, _, _ => fun_of (p := ("BadTask", some "__init__")) (st := sI 3) (c.fn 15 (d := cd "BadTask" "__init__" "BadTask.__init__" (sI 3)) rfl) (fa_at cf 94 (f := .code ("BadTask", some "__init__") "BadTask.__init__") rfl)
        | 4, _, _ => fun_of (p := ("BadStanding", some "__init__")) (st := sI 4) (c.fn 16 (d := cd "BadStanding" "__init__" "BadStanding.__init__" (sI 4)) rfl) (fa_at cf 95 (f := .code ("BadStanding", some "__init__") "BadStanding.__init__") rfl)
        | 5, _, _ => fun_of (p := ("BadTable", some "__init__")) (st := sI 5) (c.fn 17 (d := cd "BadTable" "__init__" "BadTable.__init__" (sI 5)) rfl) (fa_at cf 96 (f := .code ("BadTable", some "__init__") "BadTable.__init__") rfl)
        | 6, _, _ => fun_of (p := ("BadPlay", some "__init__")) (st := sI 6) (c.fn 18 (d := cd "BadPlay" "__init__" "BadPlay.__init__" (sI 6)) rfl) (fa_at cf 97 (f := .code ("BadPlay", some "__init__") "BadPlay.__init__") rfl)
        | 7, _, _ => fun_of (p := ("BadView", some "__init__")) (st := sI 7) (c.fn 19 (d := cd "BadView" "__init__" "BadView.__init__" (sI 7)) rfl) (fa_at cf 98 (f := .code ("BadView", some "__init__") "BadView.__init__") rfl)
        | 8, _, _ => fun_of (p := ("BadLog", some "__init__")) (st := sI 8) (c.fn 20 (d := cd "BadLog" "__init__" "BadLog.__init__" (sI 8)) rfl) (fa_at cf 99 (f := .code ("BadLog", some "__init__") "BadLog.__init__") rfl)
        | 9, _, _ => fun_of (p := ("BadTree", some "__init__")) (st := sI 9) (c.fn 21 (d := cd "BadTree" "__init__" "BadTree.__init__" (sI 9)) rfl) (fa_at cf 100 (f := .code ("BadTree", some "__init__") "BadTree.__init__") rfl)
        | 10, _, _ => fun_of (p := ("BadRow", some "__init__")) (st := sI 10) (c.fn 22 (d := cd "BadRow" "__init__" "BadRow.__init__" (sI 10)) rfl) (fa_at cf 101 (f := .code ("BadRow", some "__init__") "BadRow.__init__") rfl)
        | 11, _, _ => fun_of (p := ("BadGroups", some "__init__")) (st := sI 11) (c.fn 23 (d := cd "BadGroups" "__init__" "BadGroups.__init__" (sI 11)) rfl) (fa_at cf 102 (f := .code ("BadGroups", some "__init__") "BadGroups.__init__") rfl)
        | 12, _, _ => fun_of (p := ("BadWait", some "__init__")) (st := sI 12) (c.fn 24 (d := cd "BadWait" "__init__" "BadWait.__init__" (sI 12)) rfl) (fa_at cf 103 (f := .code ("BadWait", some "__init__") "BadWait.__init__") rfl)
        | 13, _, _ => fun_of (p := ("BadSmudges", some "__init__")) (st := sI 13) (c.fn 25 (d := cd "BadSmudges" "__init__" "BadSmudges.__init__" (sI 13)) rfl) (fa_at cf 104 (f := .code ("BadSmudges", some "__init__") "BadSmudges.__init__") rfl)
        | 14, _, _ => fun_of (p := ("BadRoster", some "__init__")) (st := sI 14) (c.fn 26 (d := cd "BadRoster" "__init__" "BadRoster.__init__" (sI 14)) rfl) (fa_at cf 105 (f := .code ("BadRoster", some "__init__") "BadRoster.__init__") rfl)
        | 15, _, _ => fun_of (p := ("BadFog", some "__init__")) (st := sI 15) (c.fn 27 (d := cd "BadFog" "__init__" "BadFog.__init__" (sI 15)) rfl) (fa_at cf 106 (f := .code ("BadFog", some "__init__") "BadFog.__init__") rfl)
        | 16, _, _ => fun_of (p := ("BadFront", some "__init__")) (st := sI 16) (c.fn 28 (d := cd "BadFront" "__init__" "BadFront.__init__" (sI 16)) rfl) (fa_at cf 107 (f := .code ("BadFront", some "__init__") "BadFront.__init__") rfl)
        | 17, _, _ => fun_of (p := ("BadHall", some "__init__")) (st := sI 17) (c.fn 29 (d := cd "BadHall" "__init__" "BadHall.__init__" (sI 17)) rfl) (fa_at cf 108 (f := .code ("BadHall", some "__init__") "BadHall.__init__") rfl)
        | 18, _, _ => fun_of (p := ("BadStory", some "__init__")) (st := sI 18) (c.fn 30 (d := cd "BadStory" "__init__" "BadStory.__init__" (sI 18)) rfl) (fa_at cf 109 (f := .code ("BadStory", some "__init__") "BadStory.__init__") rfl)
        | 19, _, _ => fun_of (p := ("BadNumbers", some "__init__")) (st := sI 19) (c.fn 31 (d := cd "BadNumbers" "__init__" "BadNumbers.__init__" (sI 19)) rfl) (fa_at cf 110 (f := .code ("BadNumbers", some "__init__") "BadNumbers.__init__") rfl)
        | 20, _, _ => fun_of (p := ("BadPaper", some "__init__")) (st := sI 20) (c.fn 32 (d := cd "BadPaper" "__init__" "BadPaper.__init__" (sI 20)) rfl) (fa_at cf 111 (f := .code ("BadPaper", some "__init__") "BadPaper.__init__") rfl)
        | 21, _, z => nomatch z
        | 22, _, z => nomatch z
        | 23, _, z => nomatch z
        | 24, _, z => nomatch z
        | 25, _, z => nomatch z
        | 26, _, z => nomatch z
        | 27, _, _ => fun_of (p := ("Twice", some "__init__")) (st := sI 27) (c.fn 33 (d := cd "Twice" "__init__" "Twice.__init__" (sI 27)) rfl) (fa_at cf 112 (f := .code ("Twice", some "__init__") "Twice.__init__") rfl)
        | 28, _, _ => fun_of (p := ("NoTable", some "__init__")) (st := sI 28) (c.fn 34 (d := cd "NoTable" "__init__" "NoTable.__init__" (sI 28)) rfl) (fa_at cf 113 (f := .code ("NoTable", some "__init__") "NoTable.__init__") rfl)
        | 29, _, _ => fun_of (p := ("NotKept", some "__init__")) (st := sI 29) (c.fn 35 (d := cd "NotKept" "__init__" "NotKept.__init__" (sI 29)) rfl) (fa_at cf 114 (f := .code ("NotKept", some "__init__") "NotKept.__init__") rfl)
        | 30, _, _ => fun_of (p := ("Unlike", some "__init__")) (st := sI 30) (c.fn 36 (d := cd "Unlike" "__init__" "Unlike.__init__" (sI 30)) rfl) (fa_at cf 115 (f := .code ("Unlike", some "__init__") "Unlike.__init__") rfl)
        | 31, _, _ => fun_of (p := ("NotNow", some "__init__")) (st := sI 31) (c.fn 37 (d := cd "NotNow" "__init__" "NotNow.__init__" (sI 31)) rfl) (fa_at cf 116 (f := .code ("NotNow", some "__init__") "NotNow.__init__") rfl)
        | 32, _, _ => fun_of (p := ("NoWay", some "__init__")) (st := sI 32) (c.fn 38 (d := cd "NoWay" "__init__" "NoWay.__init__" (sI 32)) rfl) (fa_at cf 117 (f := .code ("NoWay", some "__init__") "NoWay.__init__") rfl)
        | 33, _, _ => fun_of (p := ("NoEntry", some "__init__")) (st := sI 33) (c.fn 39 (d := cd "NoEntry" "__init__" "NoEntry.__init__" (sI 33)) rfl) (fa_at cf 118 (f := .code ("NoEntry", some "__init__") "NoEntry.__init__") rfl)
        | 34, _, _ => fun_of (p := ("Breaks", some "__init__")) (st := sI 34) (c.fn 40 (d := cd "Breaks" "__init__" "Breaks.__init__" (sI 34)) rfl) (fa_at cf 119 (f := .code ("Breaks", some "__init__") "Breaks.__init__") rfl)
        | 35, _, _ => fun_of (p := ("TooMany", some "__init__")) (st := sI 35) (c.fn 41 (d := cd "TooMany" "__init__" "TooMany.__init__" (sI 35)) rfl) (fa_at cf 120 (f := .code ("TooMany", some "__init__") "TooMany.__init__") rfl)
        | 36, _, _ => fun_of (p := ("BadText", some "__init__")) (st := sI 36) (c.fn 42 (d := cd "BadText" "__init__" "BadText.__init__" (sI 36)) rfl) (fa_at cf 121 (f := .code ("BadText", some "__init__") "BadText.__init__") rfl)
        | 37, _, _ => fun_of (p := ("BadLine", some "__init__")) (st := sI 37) (c.fn 43 (d := cd "BadLine" "__init__" "BadLine.__init__" (sI 37)) rfl) (fa_at cf 122 (f := .code ("BadLine", some "__init__") "BadLine.__init__") rfl)
        | 38, _, z => nomatch z
        | 39, _, z => nomatch z
        | 40, _, _ => fun_of (p := ("Missing", some "__init__")) (st := sI 40) (c.fn 44 (d := cd "Missing" "__init__" "Missing.__init__" (sI 40)) rfl) (fa_at cf 123 (f := .code ("Missing", some "__init__") "Missing.__init__") rfl)
        | k + 41, h, _ => absurd h (by omega)
  refine ⟨fd11, fun s u => ?_, fun base _ _ => ?_⟩
  · obtain ⟨oc, od, dV, kV, doc, pm, an, cdv, ct, osl, rfl, lk, hcd⟩ := F11.fn.ex
    obtain rfl : dV = .none := df11
    exact .of_eq rfl
  · have Gcup := ok_dip (P := P) (w := w) (base := base) T
    have Gkin := ok_kin (P := P) (w := w) (base := base) T Z
    exact ok_law F11 T Z (ok_well T) Gcup (ok_pick T Gcup) (ok_law_parts T Z) (ok_law_parts_turned T Z) (ok_law_others T Z) (ok_law_others_named T Z) Gkin (ok_all_right T (ok_fields T Z) (ok_stand T Z Gkin))
end K00

set_option Elab.async false
set_option linter.all false
set_option maxRecDepth 100000
set_option maxHeartbeats 0

open PySem PySem.W PySem.Calls PyProof.Rows
theorem PySem.Challenge.cw_dimkeeper_k00_errors_keep_their_fields_holds : PySem.Challenge.rw_dimkeeper_k00_errors_keep_their_fields.Holds := by
  w_on; o_law
  refine HandSHeadRun.head_any (r := OpenLaw.row PySem.Challenge.rw_dimkeeper_k00_errors_keep_their_fields) (q := view (OpenLaw.row PySem.Challenge.rw_dimkeeper_k00_errors_keep_their_fields).prog [55]) (H := Gd.hkG 4 K00.Bx K00.fnx) (ob := K00H.ob) (M := 14000) (loose := K00H.nm1) (d := HandSHeadRun.topDef (OpenLaw.row PySem.Challenge.rw_dimkeeper_k00_errors_keep_their_fields).prog 55) (kwd := []) (fun s => Gd.obG_eq s)
    (by kernel_rfl) (fun s => by kernel_rfl) K00H.run (by kernel_rfl) (by kernel_rfl) (by kernel_rfl) (by rfl) (by first | assumption | decide +kernel) (by decide +kernel) ⟨rfl, rfl, rfl, rfl, rfl, by decide +kernel⟩ ?hw ?hc
  case hw => w_witness2
  case hc =>
    refine Gd.walk_endE (l := PySem.Challenge.rw_dimkeeper_k00_errors_keep_their_fields) (n := 63) (k := 4) (x := "_law_script") rfl (by decide) (by kernel_rfl) ⟨rfl, by decide, by decide⟩ ?F
    intro w mg fa h Y G hmg0
    obtain ⟨K, KX, c⟩ := Y
    have hmg : mg ("law" : PySem.Str) = some (.ref fa) := by
      have e : (HandSHeadRun.topDef (OpenLaw.row PySem.Challenge.rw_dimkeeper_k00_errors_keep_their_fields).prog 55).name = ("law" : PySem.Str) := by kernel_rfl
      rw [← e]
      exact hmg0
    obtain ⟨fd, hb, hF⟩ := K00.all_mk (P := (PySem.Challenge.rw_dimkeeper_k00_errors_keep_their_fields).prog) (w := w) KX G hmg c
    exact ⟨K, fd, K00.spLaw K, KX, hb, fun H a ns hl hS => ⟨a, ns, rfl, hS, hl, fun _ => rfl⟩, hF⟩

