import PyProof.Rows.All
import HandS.ForMost
import HandS.Codes
import HandS.Wide
import HandS.IsInst
import HandS.Walk
import HandS.TupAny
import HandS.Style
import PyProof.ReprRoads
import KE.GoesMore
import PySem.Challenge.RW_dimkeeper_k01_names_and_integers_by_thei
import HandS.Star
import HandS.ExcInit
import HandS.ExcField
import HandS.ExcIs
import HandS.WordsExc
import HandS.ExcOwn
set_option Elab.async false
set_option linter.all false
set_option maxRecDepth 100000
set_option maxHeartbeats 1000000
/-! my own small layer over the hand layer: repr of data, defs that are called where no repr runs, the law's end for them -/
namespace Gd
open PySem PySem.Spec PyProof.Rows L2
/-- repr of a datum without dicts, of any depth -/
def rReprD (K : PySem.W.Frag) : List V → Hp → VK → Prop := fun xs H Q =>
  ∃ (a : Addr) (d : PyData), xs = [.ref a] ∧ Dp K H (.ref a) d ∧ d.showable = true ∧ d.hasDict = false ∧ d.depth ≤ 60 ∧ d.shown.length ≤ sizeLine ∧ Q (.str d.shown) H
theorem call_reprD {X : Cx} (hg : X.A.guards = some []) (hu : X.A.units + 64 < cLine) : CallR X (.builtin "repr") (rReprD X.K) := by
  intro pins s σ H xs us Q I r h
  obtain ⟨a, d, rfl, hd, hs, hn, hdep, hsz, q⟩ := h
  obtain ⟨u, rfl, ru⟩ := vals1 r
  obtain rfl : u = Value.ref a := ru
  obtain ⟨as, rd⟩ := Dp.reads I d _ _ hd rfl
  refine repr_of_reads' rd hs (PyData.noDict_hsm hn) hg (by omega) (fun _ _ e => e) (fun h' v tk hk => ?_) hsz
  exact ⟨.str d.shown, H, I.kept hk, ⟨v, rfl⟩, q⟩

/-! ### lists of ints as data -/
theorem dp_ints {K : PySem.W.Frag} {H : Hp} : ∀ ns : List Int, DpAll K H (ns.map V.int) (ns.map PyData.int)
  | [] => .nil
  | n :: r => .cons (.int n) (dp_ints r)
theorem can_ints : ∀ ns : List Int, PyData.canLayAll0 (ns.map PyData.int) = true
  | [] => rfl
  | n :: r => by
    show (PyData.canLay0 (.int n) && PyData.canLayAll0 (r.map PyData.int)) = true
    rw [can_ints r] <;> rfl
theorem dep_ints : ∀ ns : List Int, PyData.depthAll (ns.map PyData.int) = 0
  | [] => rfl
  | n :: r => by
    show max (PyData.depth (.int n)) (PyData.depthAll (r.map PyData.int)) = 0
    rw [dep_ints r] <;> rfl
theorem shaped_ints (ns : List Int) : SeqAt.shaped (.list (ns.map PyData.int)) = true := by
  unfold SeqAt.shaped
  rw [Bool.and_eq_true]
  refine ⟨can_ints ns, decide_eq_true ?_⟩
  show PyData.depthAll (ns.map PyData.int) + 1 ≤ 64
  rw [dep_ints] <;> decide
theorem eqv_ints_nil (ns : List Int) : PyData.eqv (.list (ns.map PyData.int)) (.list []) = ns.isEmpty := by cases ns <;> rfl

/-! ### lists of texts as data -/
theorem dp_strs {K : PySem.W.Frag} {H : Hp} : ∀ zs : List Str, DpAll K H (zs.map V.str) (zs.map PyData.str)
  | [] => .nil
  | z :: r => .cons (.str z) (dp_strs r)
/-- a text of small code points -/
def Asc (z : Str) : Prop := ∀ c ∈ z.cps.toList, c < 128
theorem asc_ok {z : Str} (h : Asc z) : PySem.PyData.strOk z = true := by
  unfold PySem.PyData.strOk
  rw [← Array.all_toList, List.all_eq_true]
  intro c hc
  have := h c hc
  exact decide_eq_true (by omega)
theorem can_strs : ∀ zs : List Str, (∀ z ∈ zs, Asc z) → PyData.canLayAll0 (zs.map PyData.str) = true
  | [], _ => rfl
  | z :: r, h => by
    have h1 : PyData.canLay0 (.str z) = true := by
      simp only [PyData.canLay0]
      exact asc_ok (h z List.mem_cons_self)
    have h2 := can_strs r fun y hy => h y (List.mem_cons_of_mem _ hy)
    rw [List.map_cons]
    simp only [PyData.canLayAll0, h1, h2, Bool.and_self]
theorem dep_strs : ∀ zs : List Str, PyData.depthAll (zs.map PyData.str) = 0
  | [] => rfl
  | z :: r => by
    show max (PyData.depth (.str z)) (PyData.depthAll (r.map PyData.str)) = 0
    rw [dep_strs r] <;> rfl
theorem shaped_strs {zs : List Str} (h : ∀ z ∈ zs, Asc z) : SeqAt.shaped (.list (zs.map PyData.str)) = true := by
  unfold SeqAt.shaped
  rw [Bool.and_eq_true]
  refine ⟨can_strs zs h, decide_eq_true ?_⟩
  show PyData.depthAll (zs.map PyData.str) + 1 ≤ 64
  rw [dep_strs] <;> decide
theorem eqv_strs_nil (zs : List Str) : PyData.eqv (.list (zs.map PyData.str)) (.list []) = zs.isEmpty := by cases zs <;> rfl
theorem asc_cat {x y : Str} (hx : Asc x) (hy : Asc y) : Asc (x ++ y) := fun c hc => by
  rw [show (x ++ y).cps.toList = x.cps.toList ++ y.cps.toList from TL.tl_append x y] at hc
  exact (List.mem_append.mp hc).elim (hx c) (hy c)
theorem asc_cut {x : Str} (hx : Asc x) (lo hi : Option Int) : Asc (cutS x lo hi) := fun c hc => by
  unfold cutS at hc
  exact hx c (List.mem_of_mem_drop (List.mem_of_mem_take hc))
theorem asc_one {c : Nat} (h : c < 128) : Asc ⟨#[c]⟩ := fun d hd => by
  rw [List.mem_singleton.mp hd]
  exact h
theorem joinL_mem (S : List Nat) : ∀ (ps : List (List Nat)) (x : Nat), x ∈ TL.joinL S ps → x ∈ S ∨ ∃ p ∈ ps, x ∈ p
  | [], x, h => nomatch h
  | [p], x, h => .inr ⟨p, List.mem_cons_self, h⟩
  | p :: q :: r, x, h => by
    have h' : x ∈ p ++ (S ++ TL.joinL S (q :: r)) := h
    rcases List.mem_append.mp h' with h | h
    · exact .inr ⟨p, List.mem_cons_self, h⟩
    · rcases List.mem_append.mp h with h | h
      · exact .inl h
      · rcases joinL_mem S (q :: r) x h with h | ⟨y, hy, hx⟩
        · exact .inl h
        · exact .inr ⟨y, List.mem_cons_of_mem _ hy, hx⟩
theorem asc_join {a : Str} {zs : List Str} (ha : Asc a) (h : ∀ z ∈ zs, Asc z) : Asc (Txt.join a zs) := fun c hc => by
  have e := TL.tl_join a zs
  rw [← TL.join_eq] at e
  rw [show (Txt.join a zs).cps.toList = _ from e] at hc
  rcases joinL_mem _ _ _ hc with h1 | ⟨p, hp, hx⟩
  · exact ha c h1
  · obtain ⟨z, hz, rfl⟩ := List.mem_map.mp hp
    exact h z hz c hx
theorem lt_one (c d : Nat) : decide (([c] : List Nat) < [d]) = decide (c < d) := by
  refine decide_eq_decide.mpr ?_
  simp [List.cons_lt_cons_iff]

/-- a def's promise, kept wherever no repr of a container runs around the call -/
structure FnG (P : Program) (w : World) (K : PySem.W.Frag) (mg : Str → Option Value) (base : Heap) (CX : CXT) (k : Nat) (f : Addr) (fd : FuncData) (ps : List Str) (sp : Sp) : Prop where
  len : ∀ vs H Q E, sp vs H Q E → vs.length = ps.length
  run : ∀ (A : Around) (outer : List Env) (s : Shared) (H : Hp) (args : Args) (us : List Value) (vs : List V) (Q : VK) (E : XK), A.guards = some [] → Room k A →
    Env0 P w K mg base A outer s H → BindsTo s fd args (ps.zip us) → Vals vs us → sp vs H Q E →
    codeAny (model P w) A (.call (.ref f) args) (CR CX outer P w H s Q E) s
section
variable {P : Program} {w : World} {K : PySem.W.Frag} {mg : Str → Option Value} {base : Heap} {CX : CXT} {k : Nat} {f : Addr} {fd : FuncData} {ps : List Str} {sp : Sp}
theorem FnG.of (F : FnOk P w K mg base CX k f fd ps sp) : FnG P w K mg base CX k f fd ps sp :=
  ⟨F.len, fun A outer s H args us vs Q E _ => F.run A outer s H args us vs Q E⟩
theorem FnG.mono {j : Nat} (F : FnG P w K mg base CX j f fd ps sp) (h : j ≤ k) : FnG P w K mg base CX k f fd ps sp :=
  ⟨F.len, fun A outer s H args us vs Q E g hr => F.run A outer s H args us vs Q E g (hr.mono h)⟩
theorem guards_deeper (A : Around) (env : Env) : (A.deeper env).guards = A.guards := rfl
theorem fnG_of {x qual : Str} {st : Stmt} {N : List Str} (F : C8.Fun K x qual st f fd) (S : FnScope N ps (C8.fnScope st)) (len : ∀ vs H Q E, sp vs H Q E → vs.length = ps.length)
    (hbody : ∀ (cdv : Value) (A : Around) (outer : List Env) (s : Shared) (H : Hp) (vs : List V) (Q : VK) (E : XK),
      (A.deeper (envOfC qual (C8.fnScope st) s.heap.objs.size f cdv)).guards = some [] → Room k (A.deeper (envOfC qual (C8.fnScope st) s.heap.objs.size f cdv)) → sp vs H Q E →
      ∃ t, PSs (cxOf CX P w K mg base N qual (C8.fnScope st) f cdv A outer s H E) (C8.fnBody st) t ∧ t { nx := fun _ H' => Q .non H', rt := Q } (start N vs) H) :
    FnG P w K mg base CX (k + 1) f fd ps sp := by
  obtain ⟨oc, od, dV, kV, doc, pm, an, cdv, ct, osl, rfl, lk, hcd⟩ := F.ex
  refine ⟨len, fun A outer s H args us vs Q E hgd hr e0 hb r hsp => ?_⟩
  have keepB : ∀ b o, base.get? b = some o → s.heap.get? b = some o := fun b o e => (e0.bs b o e).1
  have KX := e0.mod.kin.keeps keepB
  have kinds : ∀ y ∈ ps.zip us, (C8.fnScope st).names.lookup y.1 = some .local ∨
      ((C8.fnScope st).names.lookup y.1 = some .cell ∧ ((cellsFrom (s.heap.objs.size + 1) (C8.fnScope st).names []).lookup y.1).isSome = true) := by
    intro y hy
    cases S.par y.1 (List.of_mem_zip hy).1 with
    | inl q => exact .inl q
    | inr q => exact .inr ⟨q, PySem.W.cellsFrom_some _ _ _ (.inl q)⟩
  refine codeAny_call_function hr.depth (KX _ _ lk) rfl S.co S.gen rfl (PySem.W.codeRec_of KX hcd) (hb _ _ _ _ ?_)
  refine wpAny_newFunctionEnv_cells S.kind kinds fun env he s1 x => ?_
  subst he
  refine ⟨(e0.mod.nolimit.keeps keepB).keeps x.toInCall.keep, codeAny_func ?_⟩
  obtain ⟨t, ht, hq⟩ := hbody cdv A outer s H vs Q E hgd (hr.deeper _) hsp
  refine wpAny_mono (ht.run [] s1 (start N vs) H _ (inv_start S hr.hd e0 (len _ _ _ _ hsp) r x) hq) (fun fl s' hs => ?_) fun e s' hs => hs
  cases fl with
  | ret u =>
    obtain ⟨v, σ', H', J, rv, q⟩ := hs
    exact ⟨v, H', J.os, J.bare, J.base, J.hok, rv, q⟩
  | next =>
    obtain ⟨σ', H', J, q⟩ := hs
    exact ⟨V.non, H', J.os, J.bare, J.base, J.hok, rfl, q⟩
  | brk =>
    obtain ⟨_, _, _, q⟩ := hs
    exact q.elim
  | cont =>
    obtain ⟨_, _, _, q⟩ := hs
    exact q.elim
/-- a def that may be called by its name, from where no repr runs -/
structure Cal (P : Program) (w : World) (K : PySem.W.Frag) (mg : Str → Option Value) (base : Heap) (k : Nat) (x : Str) (sp : Sp) : Prop where
  ex : ∃ (f : Addr) (fd : FuncData) (ps : List Str), FnG P w K mg base CX0 k f fd ps sp ∧ mg x = some (.ref f) ∧ PySem.W.keepIn K (.ref f) = true ∧ Binds K fd ps []
/-- the promise of such a def by its body -/
theorem cal {x : Str} {st : Stmt} {N : List Str} (F : C8.Def K mg x st f fd) (b : Binds K fd ps []) (S : FnScope N ps (C8.fnScope st)) (len : ∀ vs H Q E, sp vs H Q E → vs.length = ps.length)
    (hbody : ∀ (cdv : Value) (A : Around) (outer : List Env) (s : Shared) (H : Hp) (vs : List V) (Q : VK) (E : XK),
      (A.deeper (envOfC x (C8.fnScope st) s.heap.objs.size f cdv)).guards = some [] → Room k (A.deeper (envOfC x (C8.fnScope st) s.heap.objs.size f cdv)) → sp vs H Q E →
      ∃ t, PSs (cxOf CX0 P w K mg base N x (C8.fnScope st) f cdv A outer s H E).nox (C8.fnBody st) t ∧ t { nx := fun _ H' => Q .non H', rt := Q } (start N vs) H) :
    Cal P w K mg base (k + 1) x sp := by
  refine ⟨f, fd, ps, fnG_of F.fn S len fun cdv A outer s H vs Q E g hr h => ?_, F.mgf, F.kp, b⟩
  obtain ⟨t, p, q⟩ := hbody cdv A outer s H vs Q E g hr h
  exact ⟨t, p.nox, q⟩
end
section
variable {X : Cx} {k j : Nat} {x : Str} {sp : Sp} {p pos : Pos} {e : Expr} {es : List Expr} {t : TA}
theorem runG {CX : CXT} {f : Addr} {fd : FuncData} {ps : List Str} {E : XK} {pins : List (Addr × Obj)} {σ : L2.St} {H : Hp} {s : Shared} {Q : VK} {us : List Value} {vs : List V}
    (F : FnG X.prog X.w X.K X.mg X.base CX k f fd ps sp) (hg : X.A.guards = some []) (hr : Room k X.A) (hb : Binds X.K fd ps []) (hx : Passes CX X E)
    (I : Inv X pins σ H s) (r : Vals vs us) (h : sp vs H Q E) : wpAny (model X.prog X.w) X.A (call (.ref f) us) (EP X pins σ Q) X.xe s := by
  have hl : (us ++ []).length = ps.length := by
    rw [List.append_nil, ← r.length]
    exact F.len _ _ _ _ h
  have bt := hb s us I.kIn hl
  rw [List.append_nil] at bt
  refine wpAny_call (codeAny_mono (F.run X.A X.stack s H ⟨us, []⟩ us vs Q E hg hr I.env0 bt r h) fun res s' hq => ?_)
  match res, hq with
  | .error e, hq => exact hx pins σ H s e s' I hq
  | .ok (.ret u), hq => exact I.after hq
/-- f(e, ..) -/
theorem pc (c : Cal X.prog X.w X.K X.mg X.base k x sp) (hgd : X.A.guards = some []) (hr : Room j X.A) (hk : k ≤ j) (hg : Gl X x) (ha : PA X (e :: es) t)
    (hdb : (x == ("__debug__" : Str)) = false := by decide) (he : starEach (e :: es) X.env = (false, eval e X.env) :: starEach es X.env := by rfl) (hpl : (backTo pos (starEach es X.env)).any (·.1) = false := by rfl) :
    PE X (.Call (.Name x p) (e :: es) [] pos) (tCall sp [] E0 t) := by
  obtain ⟨f, fd, ps, F, hm, kp, b⟩ := c.ex
  refine ⟨fun pins s σ H Q I h => wpAny_Call_Name_kw (ld_glob I hg hm ?_ hdb)⟩
  refine PySem.W.callWith_K (h₀ := X.base) I.ok.mod.kin kp (thn (ha.run pos pins s σ H _ I h) fun us s1 hh => ?_) he hpl
  obtain ⟨vs, H1, I1, r, q⟩ := hh
  rw [List.append_nil] at q
  exact ⟨I1.kIn, runG F hgd (hr.mono hk) b pass0 I1 r q⟩
/-- f() -/
theorem pc0 (c : Cal X.prog X.w X.K X.mg X.base k x sp) (hgd : X.A.guards = some []) (hr : Room j X.A) (hk : k ≤ j) (hg : Gl X x)
    (hdb : (x == ("__debug__" : Str)) = false := by decide) : PE X (.Call (.Name x p) [] [] pos) (tCall sp [] E0 tNil) := by
  obtain ⟨f, fd, ps, F, hm, kp, b⟩ := c.ex
  refine ⟨fun pins s σ H Q I h => wpAny_Call_Name_kw (ld_glob I hg hm ?_ hdb)⟩
  exact PySem.W.callWith_K0 I.kIn kp (runG (us := []) (vs := []) F hgd (hr.mono hk) b pass0 I .nil h)
end

/-- a comprehension without an if -/
theorem lc_yes {te : TE} {σ : L2.St} {H : Hp} {R : VK} {N : Hp → Prop} (h : te σ H R) : tYes σ H (fun b H3 => if b = true then te σ H3 R else N H3) := by
  show (if true = true then te σ H R else N H)
  rw [if_pos rfl]
  exact h
theorem sm1000 {n : Nat} (h : n ≤ 1000) : n ≤ sizeLine := Nat.le_of_lt (small1000 h)
theorem same_new {H : Hp} {p : Addr} {o : HO} (h : H p = none) : Same H (upd H p o) := fun b x e => by
  rw [upd_ne (ne_of_none e h)]
  exact e
/-- what stood at no tracked place is written -/
theorem same_grow {H H' : Hp} {D : Addr} {o : HO} (h : H D = none) (s : Same H H') : Same H (upd H' D o) := fun b x e => by
  rw [upd_ne (ne_of_none e h)]
  exact s b x e
theorem take_next {α β : Type} {f : α → β} {l : List α} {i : Nat} {c : α} (h : l[i]? = some c) : (l.take i).map f ++ [f c] = (l.take (i + 1)).map f := by
  rw [List.take_add_one, h, List.map_append]
  rfl
theorem size_cps (z : Str) : z.cps.size = z.length := rfl
theorem len_cps (z : Str) : z.cps.toList.length = z.length := by simp [Str.length]

/-! ### enumerate(a text) -/
def Ets (x : Str) : It :=
  ⟨fun i _ => i < x.cps.size, fun i H v H' => ∃ T c, v = .ref T ∧ H T = none ∧ H' = upd H T (.tup [.int (i : Nat), .str ⟨#[c]⟩]) ∧ x.cps[i]? = some c, fun i _ => i = x.cps.size⟩
theorem turn_enumS {P : Program} {w : World} {K : PySem.W.Frag} {elts : List Expr} {kk : Nat} {tpos : Pos} (e it : Addr) (x : Str) (t : Tok) :
    Turn P w K (.Tuple elts kk tpos) (Ets x) [e, it] e
      (fun i h => (∃ old, IsEnum h e it ((i : Nat) : Int) old) ∧ h.IsStrIter it (strIterType x) x t i ∧ e ≠ it) where
  mem := List.mem_cons_self
  obj := fun i h st b hb => by
    obtain ⟨⟨old, he⟩, ⟨o, ho, _, hd⟩, _⟩ := st
    rcases List.mem_cons.mp hb with rfl | hb
    · exact ⟨_, he, fun v q => nomatch q⟩
    · obtain rfl := List.mem_singleton.mp hb
      exact ⟨o, ho, fun v q => by rw [hd] at q; cases q⟩
  keep := fun i h h' st k => by
    obtain ⟨⟨old, he⟩, ⟨o, ho, r⟩, hne⟩ := st
    exact ⟨⟨old, k e (by simp) _ he⟩, ⟨o, k it (by simp) _ ho, r⟩, hne⟩
  item := by
    intro X hP hw hK hc i pins s σ H E I hf st hg
    subst hP hw hK
    obtain ⟨⟨old, he⟩, hit, hne⟩ := st
    have hel : e < s.heap.objs.size := Heap.lt_size he
    have hil : it < s.heap.objs.size := by
      obtain ⟨_, q, _⟩ := hit
      exact Heap.lt_size q
    have D := Draws.text (prog := X.prog) (w := X.w) (A := X.A.in1) (I.ok.hd hc) it x t
    refine wpAny_pyNext_enum_itemD D he hit hg hne (by simpa using hne) fun xv h' tk hx ho hit' hT hsz hk => ?_
    obtain ⟨c, u, hcx, rfl⟩ := hx
    refine ⟨_, rfl, wpAny_letOwnedTupleGo_enum (s := { s with heap := h', toks := tk + 1 }) ho fun h'' he' sb => ?_⟩
    have tup : h''.get? s.heap.objs.size = some { cls := .type "tuple", data := .seq #[.int i tk, .str ⟨#[c]⟩ u] } :=
      (sb.2 _ (Nat.ne_of_gt hel)).trans hT
    have ok : ObjOk X.prog X.w (upd H s.heap.objs.size (.tup [.int (i : Nat), .str ⟨#[c]⟩])) h'' s.heap.objs.size (.tup [.int (i : Nat), .str ⟨#[c]⟩]) := by
      refine ⟨by show 2 ≤ sizeLine; decide, [.int i tk, .str ⟨#[c]⟩ u], .cons ⟨tk, rfl⟩ (.cons ⟨u, rfl⟩ .nil), ⟨_, tup, rfl, _, rfl⟩⟩
    have I1 : Inv X pins σ (upd H s.heap.objs.size (.tup [.int (i : Nat), .str ⟨#[c]⟩])) { s with heap := h'', toks := tk + 1 } := by
      refine I.turnedNew (ch := [e, it]) (fun b ob hb q => ?_) hf (Nat.le_refl _) ok
      have n1 : b ≠ e := fun z => hb (by simp [z])
      have n2 : b ≠ it := fun z => hb (by simp [z])
      exact (sb.2 b n1).trans (hk b ob n1 n2 q)
    have nx : ((i + 1 : Nat) : Int) = (i : Int) + 1 := by omega
    refine ⟨.ref s.heap.objs.size, _, I1, rfl, ⟨_, c, rfl, I.hok.fresh (Nat.le_refl _), rfl, hcx⟩, ⟨⟨_, by rw [nx]; exact he'⟩, ?_, hne⟩, fun b hb => ?_⟩
    · obtain ⟨o, q, r⟩ := hit'
      exact ⟨o, (sb.2 it (Ne.symm hne)).trans q, r⟩
    · have lt : b < s.heap.objs.size := by
        rcases List.mem_cons.mp hb with rfl | hb
        · exact hel
        · obtain rfl := List.mem_singleton.mp hb
          exact hil
      rw [upd_ne (Nat.ne_of_lt lt)]
      exact (hf b hb).1
  done := by
    intro X hP hw hK hc i pins s σ H E I hf st hg
    subst hP hw hK
    obtain ⟨⟨old, he⟩, hit, hne⟩ := st
    obtain ⟨f0, f1, f2, f3, f4, f5⟩ := hf it (by simp)
    have hi : i = x.cps.size := hg
    have D := Draws.text (prog := X.prog) (w := X.w) (A := X.A.in1) (I.ok.hd hc) it x t
    rw [hi] at hit
    exact wpAny_pyNext_enum_endD D he hit fun h' eb => ⟨rfl, I.turned (t' := s.toks) (fun b o hb q => eb b o hb q) f0 f1 f3 f4 f5⟩
  self := fun A i s Q E st h => by
    obtain ⟨⟨_, he⟩, _⟩ := st
    exact wpAny_pyIter_enum he h
def iEnumS (ta : TA) : TI := fun σ H R => ta σ H fun vs H1 => ∃ x, vs = [.str x] ∧ R (Ets x) H1
theorem pi_enumS {X : Cx} {e : Expr} {ta : TA} {p pos tpos : Pos} {elts : List Expr} {kk : Nat} (hg : Gl X "enumerate") (hm : X.mg "enumerate" = none) (ha : PA X [e] ta)
    (hs : starEach [e] X.env = [(false, eval e X.env)] := by rfl) : PI X (.Tuple elts kk tpos) (.Call (.Name "enumerate" p) [e] [] pos) (iEnumS ta) := by
  refine ⟨fun pins s σ H R I h => Call_ (ld_blt I hg hm boot_enumerate (PyProof.Rows.callWith_type1 (thn (ha.run pos pins s σ H _ I h) fun us s1 hh => ?_) hs rfl))⟩
  obtain ⟨vs, H1, I1, r1, x, rfl, q⟩ := hh
  obtain ⟨u, rfl, t, rfl⟩ := vals1 r1
  refine call_enumerate_str fun h' he hit hsz hk => wpAny_pyIter_enum he ?_
  have I2 : Inv X pins σ H1 { s1 with heap := h' } := I1.kept (t' := s1.toks) hk
  refine ⟨s1.heap.objs.size + 1, [s1.heap.objs.size + 1, s1.heap.objs.size], _, _, H1, rfl, I2, turn_enumS _ _ x t, ⟨⟨.none, he⟩, hit, Nat.succ_ne_self _⟩, fun b hb => ?_, q⟩
  have le : s1.heap.objs.size ≤ b := by
    rcases List.mem_cons.mp hb with rfl | hb
    · exact Nat.le_succ _
    · obtain rfl := List.mem_singleton.mp hb
      exact Nat.le_refl _
  exact I1.fpOk le (I1.hok.fresh le)
theorem walk_enumS {x : Str} : Walk (Ets x) x.cps.size (fun _ => True) (YPair (fun i => some (.int (i : Nat))) (fun i => x.cps[i]?.map fun c => .str ⟨#[c]⟩)) := by
  refine ⟨fun _ _ hi _ => hi, fun _ _ => rfl, fun i H v H' _ _ y => ?_⟩
  obtain ⟨T, c, h1, h2, h3, h4⟩ := y
  exact ⟨T, .int (i : Nat), .str ⟨#[c]⟩, h1, h2, h3, rfl, by show x.cps[i]?.map (fun c => V.str ⟨#[c]⟩) = _; rw [h4]; rfl⟩

/-! ### the law's end -/
theorem law_end {P : Program} {w : World} {K : PySem.W.Frag} {mg mb : Str → Option Value} {k : Nat} {fa a : Addr} {fd : FuncData} {x : Str} {sp : Sp} {s₁ : Shared} {vs : List Value} {ns : List Int}
    (KX : K.In s₁.heap) (hns : s₁.heap.Ns mainGlobals mg) (hb : s₁.heap.Ns builtinsNs mb) (hbb : ∀ x : Str, x ≠ "__name__" → mb x = bootBuiltins x) (hlim : s₁.heap.NoLimit) (hgn : s₁.gens = #[])
    (ha : s₁.heap.get? a = some { cls := .type "list", data := .seq vs.toArray }) (hi : IntsAre vs ns) (hl : ns.length ≤ sizeLine) (hr : Room k callerA)
    (F : ∀ base : Heap, K.In base → base.Ns mainGlobals mg → FnG P w K mg base CX0 k fa fd [x] sp) (hbind : ∀ (s : Shared) (u : Value), BindsTo s fd ⟨[u], []⟩ [(x, u)])
    (hsp : ∀ H : Hp, SqL K H a (ns.map V.int) → sp [.ref a] H (fun v _ => v = .bl true) E0) :
    codeAny (model P w) callerA (.call (.ref fa) ⟨[.ref a], []⟩) (fun r s' => r = .ok (.ret (.bool true)) ∧ OldK s₁.heap s'.heap ∧ s'.os = s₁.os ∧ AllBare s'.gens) s₁ := by
  have rv := vals_ints hi
  let O : Obj := { cls := .type "list", data := .seq vs.toArray }
  have key : ∀ H : Hp, SqL K H a (ns.map V.int) → HOk P w H s₁.heap → (∀ b, H b = none ∨ (b = a ∧ K.lookup b = none ∧ H b = some (.frz O (.lst (ns.map V.int))))) →
      codeAny (model P w) callerA (.call (.ref fa) ⟨[.ref a], []⟩) (fun r s' => r = .ok (.ret (.bool true)) ∧ OldK s₁.heap s'.heap ∧ s'.os = s₁.os ∧ AllBare s'.gens) s₁ := by
    intro H hS hok hO
    have free : ∀ {b : Addr} {o : Obj} {es : Array DictEntry} {ep : Nat}, s₁.heap.get? b = some o → o.data = .dict es ep → H b = none := by
      intro b o es ep e d
      rcases hO b with q | ⟨rfl, _, _⟩
      · exact q
      · rw [ha] at e
        cases e
        cases d
    have nsH : ∀ {b : Addr} {m : Str → Option Value}, s₁.heap.Ns b m → (hidT s₁.heap H).Ns b m := by
      rintro b m ⟨o, es, ep, e, d, r⟩
      exact ⟨o, es, ep, hidT_get e (free e d), d, r⟩
    have inH : K.In (hidT s₁.heap H) := by
      intro b o e
      refine hidT_get (KX b o e) ?_
      rcases hO b with q | ⟨_, z, _⟩
      · exact q
      · rw [z] at e
        cases e
    have lim : (hidT s₁.heap H).NoLimit := by
      obtain ⟨mc, h1, h2⟩ := hlim
      exact ⟨mc, nsH h1, h2⟩
    have md : Mod K mg (hidT s₁.heap H) := ⟨inH, nsH hns, ⟨mb, nsH hb, hbb⟩, lim⟩
    have e0 : Env0 P w K mg (hidT s₁.heap H) callerA [] s₁ H := by
      refine ⟨rfl, md, fun b o e => of_hidT e, Nat.le_of_eq (hidT_size _ _), trivial, fun b z => ?_, hok, .of_eq hgn⟩
      exact absurd (show b ∈ ([] : List Addr) from z) List.not_mem_nil
    refine codeAny_mono ((F _ inH (nsH hns)).run callerA [] s₁ H ⟨[.ref a], []⟩ [.ref a] [.ref a] _ _ rfl hr e0 (hbind s₁ (.ref a)) (.cons rfl .nil) (hsp H hS)) fun r s' h => ?_
    match r, h with
    | .error e, h => exact False.elim h
    | .ok (.ret u), h =>
      obtain ⟨v, H', os, bare, un, hok', r', q⟩ := h
      obtain rfl : v = .bl true := q
      obtain rfl : u = Value.bool true := r'
      refine ⟨rfl, OldK.of_keep fun b o e => ?_, os, bare⟩
      rcases hO b with q | ⟨_, _, q⟩
      · exact un.keep b o e q (fun z => absurd (show b ∈ ([] : List Addr) from z) List.not_mem_nil) List.not_mem_nil
      · have e1 := (hok b _ q).1
        have e2 := (hok' b _ (un.frzs b O _ q)).1
        rw [e] at e1
        cases e1
        exact e2
  cases hk : K.lookup a with
  | some o =>
    have e := KX a o hk
    rw [ha] at e
    cases e
    refine key (fun _ => none) (.inr ⟨_, vs.toArray, _, hk, rfl, rfl, rfl, ?_, ?_⟩) (fun b u z => nomatch z) fun _ => .inl rfl
    · rw [List.size_toArray, hi.length]
      exact hl
    · simpa using rv
  | none =>
    have at_a : ∀ b, (if b = a then some (HO.frz O (.lst (ns.map V.int))) else none) ≠ none → b = a := by
      intro b z
      by_cases e : b = a
      · exact e
      · rw [if_neg e] at z
        exact absurd rfl z
    refine key (fun b => if b = a then some (.frz O (.lst (ns.map V.int))) else none) (.inl (.inr ⟨O, if_pos rfl⟩)) (fun b u z => ?_) fun b => ?_
    · have z' : (if b = a then some (HO.frz O (.lst (ns.map V.int))) else none) = some u := z
      have e : b = a := at_a b (by rw [z']; exact fun z => nomatch z)
      subst e
      rw [if_pos rfl] at z'
      cases z'
      exact ⟨ha, by rw [List.length_map]; exact hl, vs, _, rv, ha⟩
    · by_cases e : b = a
      · subst e
        exact .inr ⟨rfl, hk, if_pos rfl⟩
      · exact .inl (if_neg e)
theorem walk_end {l : PySem.W.OpenLaw} {n k : Nat} {q : Program} {loose : List Str} {XP : (Str → Option Value) → Heap → Prop} {YP : World → Heap → Prop} {d : DefRec} {K : Params → PySem.W.Frag} {sp : World → Sp} {x : Str}
    (hn : l.most = some n) (hn2 : n ≤ sizeLine) (hdf : d.params.defaults = []) (hr : Room k callerA)
    (hY : ∀ (w : World) (h : Heap), YP w h → (K w.params).In h)
    (F : ∀ (w : World) (mg : Str → Option Value) (fa : Addr) (h : Heap), (K w.params).In h → h.Ns mainGlobals mg → mg d.name = some (.ref fa) →
      ∃ fd : FuncData, (∀ (s : Shared) (u : Value), BindsTo s fd ⟨[u], []⟩ [(x, u)]) ∧
        ∀ base : Heap, (K w.params).In base → base.Ns mainGlobals mg → FnG l.prog w (K w.params) mg base CX0 k fa fd [x] (sp w))
    (hsp : ∀ (w : World) (H : Hp) (a : Addr) (ns : List Int), ns.length ≤ n → SqL (K w.params) H a (ns.map V.int) → sp w [.ref a] H (fun v _ => v = .bl true) E0) :
    PySem.W.WalkO q loose XP YP l.row.toRowW d [] (fun f vs => PySem.call f vs) := by
  refine Att.attach_call hn hdf fun w s₀ s₁ mg mb fa o pm cd doc a vs ns G Y ho hd hcd hmg hobj hints hlen hg => ?_
  obtain ⟨fd, hb, hF⟩ := F w mg fa _ (hY w _ Y) G.T.g hmg
  exact law_end (hY w _ Y) G.T.g G.T.b G.T.builtins G.T.nolimit hg hobj hints (Nat.le_trans hlen hn2) hr hF hb fun H hS => hsp w H a ns hlen hS
end Gd

set_option Elab.async false
set_option linter.all false
set_option maxRecDepth 100000
set_option maxHeartbeats 1000000
namespace K01
open PySem PySem.Spec PyProof.Rows L2 Gd
/-! ### the text -/
def topS (i : Nat) : Stmt := PySem.Challenge.pw_dimkeeper_k01_names_and_integers_by_thei.main.body.getD i (.Pass ⟨0, 0, 0, 0⟩)
abbrev sis_integer : Stmt := topS 8
theorem scis_integer : FnScope ["value"] ["value"] (C8.fnScope sis_integer) := C8.fnScope_by (by decide +kernel)
abbrev sis_within : Stmt := topS 9
theorem scis_within : FnScope ["value", "least", "most"] ["value", "least", "most"] (C8.fnScope sis_within) := C8.fnScope_by (by decide +kernel)
abbrev sis_stem : Stmt := topS 10
theorem scis_stem : FnScope ["value", "sign"] ["value"] (C8.fnScope sis_stem) := C8.fnScope_by (by decide +kernel)
abbrev sis_name : Stmt := topS 11
theorem scis_name : FnScope ["value", "stems", "stem"] ["value"] (C8.fnScope sis_name) := C8.fnScope_by (by decide +kernel)
abbrev sjoined_name : Stmt := topS 12
theorem scjoined_name : FnScope ["names", "name"] [] (C8.fnScope sjoined_name) := C8.fnScope_by (by decide +kernel)
abbrev s_law_well : Stmt := topS 14
theorem sc_law_well : FnScope ["_law_script", "_law_cell"] ["_law_script"] (C8.fnScope s_law_well) := C8.fnScope_by (by decide +kernel)
abbrev s_law_dip : Stmt := topS 15
theorem sc_law_dip : FnScope ["_law_well_here", "_law_many", "_law_rest", "_law_turn", "_law_cell", "_law_mixed"] ["_law_well_here", "_law_many"] (C8.fnScope s_law_dip) := C8.fnScope_by (by decide +kernel)
abbrev s_law_pick : Stmt := topS 16
theorem sc_law_pick : FnScope ["_law_well_here", "_law_some"] ["_law_well_here", "_law_some"] (C8.fnScope s_law_pick) := C8.fnScope_by (by decide +kernel)
abbrev s_law_alphabet : Stmt := topS 17
theorem sc_law_alphabet : FnScope ["_law_signs"] [] (C8.fnScope s_law_alphabet) := C8.fnScope_by (by decide +kernel)
abbrev s_law_stem : Stmt := topS 18
theorem sc_law_stem : FnScope ["_law_well_here", "_law_letters", "_law_more", "_law_at"] ["_law_well_here"] (C8.fnScope s_law_stem) := C8.fnScope_by (by decide +kernel)
abbrev s_law_text : Stmt := topS 19
theorem sc_law_text : FnScope ["_law_well_here", "_law_stems_here", "_law_turn", "_law_text_here", "_law_way", "_law_place", "_law_sign"] ["_law_well_here"] (C8.fnScope s_law_text) := C8.fnScope_by (by decide +kernel)
abbrev s_law_sound : Stmt := topS 20
theorem sc_law_sound : FnScope ["_law_text_here", "_law_at", "_law_sign"] ["_law_text_here"] (C8.fnScope s_law_sound) := C8.fnScope_by (by decide +kernel)
abbrev s_law_stems : Stmt := topS 21
theorem sc_law_stems : FnScope ["_law_text_here", "_law_parts", "_law_begun", "_law_sign"] ["_law_text_here"] (C8.fnScope s_law_stems) := C8.fnScope_by (by decide +kernel)
abbrev s_law_text_right : Stmt := topS 22
theorem sc_law_text_right : FnScope ["_law_well_here", "_law_text_here", "_law_stems_here", "_law_due", "_law_stem_here", "_law_told"] ["_law_well_here"] (C8.fnScope s_law_text_right) := C8.fnScope_by (by decide +kernel)
abbrev s_law_number_right : Stmt := topS 23
theorem sc_law_number_right : FnScope ["_law_well_here", "_law_number", "_law_least", "_law_most", "_law_due", "_law_told"] ["_law_well_here"] (C8.fnScope s_law_number_right) := C8.fnScope_by (by decide +kernel)
abbrev s_law_odd_right : Stmt := topS 24
theorem sc_law_odd_right : FnScope ["_law_well_here", "_law_odd", "_law_told"] ["_law_well_here"] (C8.fnScope s_law_odd_right) := C8.fnScope_by (by decide +kernel)
abbrev s_law_joined_right : Stmt := topS 25
theorem sc_law_joined_right : FnScope ["_law_well_here", "_law_names", "_law_stems_here", "_law_turn", "_law_many", "_law_at", "_law_made", "_law_found", "error"] ["_law_well_here"] (C8.fnScope s_law_joined_right) := C8.fnScope_by (by decide +kernel)
abbrev slaw : Stmt := topS 26
theorem sclaw : FnScope ["_law_script", "_law_well_here", "_law_turn"] ["_law_script"] (C8.fnScope slaw) := C8.fnScope_by (by decide +kernel)
/-! ### what the top has written -/
def Df (K : PySem.W.Frag) (mg : Str → Option Value) (x : Str) (st : Stmt) (ps : List Str) : Prop := ∃ (f : Addr) (fd : FuncData), C8.Def K mg x st f fd ∧ Binds K fd ps []
structure Txt (K : PySem.W.Frag) (mg : Str → Option Value) : Prop where
  d_is_integer : Df K mg "is_integer" sis_integer ["value"]
  d_is_within : Df K mg "is_within" sis_within ["value", "least", "most"]
  d_is_stem : Df K mg "is_stem" sis_stem ["value"]
  d_is_name : Df K mg "is_name" sis_name ["value"]
  d_law_well : Df K mg "_law_well" s_law_well ["_law_script"]
  d_law_dip : Df K mg "_law_dip" s_law_dip ["_law_well_here", "_law_many"]
  d_law_pick : Df K mg "_law_pick" s_law_pick ["_law_well_here", "_law_some"]
  d_law_alphabet : Df K mg "_law_alphabet" s_law_alphabet []
  d_law_stem : Df K mg "_law_stem" s_law_stem ["_law_well_here"]
  d_law_text : Df K mg "_law_text" s_law_text ["_law_well_here"]
  d_law_sound : Df K mg "_law_sound" s_law_sound ["_law_text_here"]
  d_law_stems : Df K mg "_law_stems" s_law_stems ["_law_text_here"]
  d_law_text_right : Df K mg "_law_text_right" s_law_text_right ["_law_well_here"]
  d_law_number_right : Df K mg "_law_number_right" s_law_number_right ["_law_well_here"]
  d_law_odd_right : Df K mg "_law_odd_right" s_law_odd_right ["_law_well_here"]
  d_law_joined_right : Df K mg "_law_joined_right" s_law_joined_right ["_law_well_here"]
  d_law : Df K mg "law" slaw ["_law_script"]
  z_len : mg "len" = none
  z_int : mg "int" = none
  z_abs : mg "abs" = none
  z_isinstance : mg "isinstance" = none
  z_repr : mg "repr" = none
  z_all : mg "all" = none
  z_range : mg "range" = none
  z_enumerate : mg "enumerate" = none
  z_str : mg "str" = none
  z_bool : mg "bool" = none
  c_LETTERS : ∃ u, mg "LETTERS" = some u ∧ RelV (.str "abcdefghijklmnopqrstuvwxyz") u
  c_DIGITS : ∃ u, mg "DIGITS" = some u ∧ RelV (.str "0123456789") u
  c_MOST_STEMS : ∃ u, mg "MOST_STEMS" = some u ∧ RelV (.int 6) u
  c_MOST_CHARACTERS : ∃ u, mg "MOST_CHARACTERS" = some u ∧ RelV (.int 12) u
end K01

set_option Elab.async false
set_option linter.all false
set_option maxRecDepth 100000
set_option maxHeartbeats 1000000
namespace K01
open PySem PySem.Spec PyProof.Rows L2 Gd
/-- the law's well: the script's ints at a, how many were drawn, what is left of a great one -/
def Wl (ns : List Int) (w a : Addr) (N : Nat) (H : Hp) : Prop :=
  a ≠ w ∧ H a = some (.lst (ns.map V.int)) ∧ ns.length ≤ 63 ∧ ∃ t r : Nat, t ≤ N ∧ H w = some (.lst [.ref a, .int t, .int r])
/-- all that was tracked is as it was, but for w -/
def Kp (w : Addr) (H H' : Hp) : Prop := ∀ b o, b ≠ w → H b = some o → H' b = some o
def spDip : Sp := fun vs H Q _ => ∃ (w a : Addr) (ns : List Int) (N : Nat) (many : Int), vs = [.ref w, .int many] ∧ Wl ns w a N H ∧ N ≤ 1000000 ∧ 0 < many ∧ many < 2 ^ 250 ∧
  ∀ (v : Int) (H' : Hp), 0 ≤ v → v < many → Kp w H H' → Wl ns w a (N + 1) H' → Q (.int v) H'
section
variable {P : Program} {w : World} {K : PySem.W.Frag} {mg : Str → Option Value} {base : Heap}
theorem ok_dip (T : Txt K mg) : Cal P w K mg base 1 "_law_dip" spDip := by
  obtain ⟨f, fd, F, b⟩ := T.d_law_dip
  refine cal F b sc_law_dip (fun vs H Q E h => ?_) (fun cdv A outer s H vs Q E hgd hr h => ?_)
  · obtain ⟨w, a, ns, N, many, rfl, _⟩ := h
    rfl
  · have nd := sc_law_dip.nd
    obtain ⟨w, a, ns, N, many, rfl, ⟨haw, ha, hl, t, r, ht, hw⟩, hN, hm0, hm, q⟩ := h
    refine ⟨_, (pss_cons (ps_if (pt_cmpR op_gt (pe_ix ix_list (pv 0) pe_int (fun _ _ => rfl)) pe_int (nomark _)) (pss_cons (ps_set (i := 2) nd rfl (.inl rfl) (pe_ix ix_list (pv 0) pe_int (fun _ _ => rfl)))
      (pss_cons (ps_asg (pe_op op_fdivW (pe_callTy call_int1 (by rfl) T.z_int (by decide +kernel) (pa_cons (pv 2) pa_nil)) (pv 1)) (pg_sub (pv 0) pe_int set_list))
      (pss_one (ps_ret (pe_op op_mod (pe_callTy call_int1 (by rfl) T.z_int (by decide +kernel) (pa_cons (pv 2) pa_nil)) (pv 1)))))) pss_nil)
      (pss_cons (ps_set (i := 3) nd rfl (.inl rfl) (pe_ix ix_list (pv 0) pe_int (fun _ _ => rfl)))
      (pss_cons (ps_asg (pe_op op_add (pv 3) pe_int) (pg_sub (pv 0) pe_int set_list))
      (pss_cons (ps_set (i := 4) nd rfl (.inl rfl) (pe_op op_add (pe_op op_mulW pe_int (pv 3)) pe_int))
      (C8.pss_cut (ps_if (pt_cmpR (op_neD hr.units) (pe_ix ix_list (pv 0) pe_int (fun _ _ => rfl)) (pe_lst pa_nil) (nomark _)) (pss_one (ps_set (i := 4) nd rfl (.inl rfl) (pe_ix ix_list (pe_ix ix_list (pv 0) pe_int (fun _ _ => rfl)) (pe_op op_mod (pe_callTy call_int1 (by rfl) T.z_int (by decide +kernel) (pa_cons (pv 3) pa_nil)) (pe_callB call_len (by rfl) T.z_len PySem.boot_len (pa_cons (pe_ix ix_list (pv 0) pe_int (fun _ _ => rfl)) pa_nil))) (fun _ _ => rfl)))) pss_nil)
      (C8.pss_cut (ps_if (PW.pt (pw_and (pt_cmpR op_lt (pv 3) (pe_callB call_len (by rfl) T.z_len PySem.boot_len (pa_cons (pe_ix ix_list (pv 0) pe_int (fun _ _ => rfl)) pa_nil)) (nomark _)) (pw_and1 (pt_cmpR op_ge (pe_callB call_abs (by rfl) T.z_abs (by decide +kernel) (pa_cons (pv 4) pa_nil)) (pe_op op_pow pe_int pe_int) (nomark _))))) (pss_cons (ps_set (i := 2) nd rfl (.inl rfl) (pe_op op_sub (pe_callB call_abs (by rfl) T.z_abs (by decide +kernel) (pa_cons (pv 4) pa_nil)) (pe_op op_pow pe_int pe_int)))
      (pss_cons (ps_asg (pe_op op_fdivW (pe_callTy call_int1 (by rfl) T.z_int (by decide +kernel) (pa_cons (pv 2) pa_nil)) (pv 1)) (pg_sub (pv 0) pe_int set_list))
      (pss_one (ps_ret (pe_op op_mod (pe_callTy call_int1 (by rfl) T.z_int (by decide +kernel) (pa_cons (pv 2) pa_nil)) (pv 1)))))) pss_nil)
      (pss_cons (ps_set (i := 5) nd rfl (.inl rfl) (pe_op op_mod (pe_callTy call_int1 (by rfl) T.z_int (by decide +kernel) (pa_cons (pe_op op_pow (pe_op op_add (pe_op op_add (pe_op op_mod (pe_callTy call_int1 (by rfl) T.z_int (by decide +kernel) (pa_cons (pv 4) pa_nil)) pe_int) (pe_op op_mulW pe_int (pv 3))) pe_int) pe_int) pa_nil)) pe_int))
      (pss_cons (ps_set (i := 5) nd rfl (.inl rfl) (pe_op op_mod (pe_callTy call_int1 (by rfl) T.z_int (by decide +kernel) (pa_cons (pe_op op_pow (pe_op op_add (pe_op op_add (pe_op op_mulW (pv 5) (pe_op op_add (pe_op op_mulW pe_int (pv 3)) pe_int)) (pe_op op_mulW (pe_op op_mulW pe_int (pv 3)) (pv 3))) pe_int) pe_int) pa_nil)) pe_int))
      (pss_one (ps_ret (pe_op op_mod (pe_callTy call_int1 (by rfl) T.z_int (by decide +kernel) (pa_cons (pe_op op_fdivW (pv 5) pe_int) pa_nil)) (pv 1)))))))))))), ?_⟩
    have hb : many.natAbs < 2 ^ 250 := by omega
    have hd : CDivW (0 : Int) many := wide_div hm0 hb (by decide) (by decide)
    refine ⟨.ref w, rfl, w, _, 2, .int r, rfl, rfl, SqL.of hw, rfl, r, 0, rfl, rfl, _, rfl, ite2 (fun e => ?_) (fun e => ?_)⟩
    · refine ⟨.ref w, rfl, w, _, 2, .int r, rfl, rfl, SqL.of hw, rfl, ?_⟩
      refine ⟨.int r, rfl, .inl ⟨r, rfl, .int many, rfl, r, many, rfl, rfl, hd, .ref w, rfl, w, _, 2, 2, rfl, rfl, hw, rfl, ?_⟩⟩
      refine ⟨.int r, rfl, .inl ⟨r, rfl, .int many, rfl, r, many, rfl, rfl, hm0, ?_⟩⟩
      refine q _ _ (Int.emod_nonneg _ (by omega)) (Int.emod_lt_of_pos _ hm0) (fun b o e1 e2 => ?_) ⟨haw, ?_, hl, t, (r / many).toNat, by omega, ?_⟩
      · rw [upd_ne e1]
        exact e2
      · rw [upd_ne haw]
        exact ha
      · rw [upd_same, Int.toNat_of_nonneg (Int.ediv_nonneg (by omega) (by omega))]
        rfl
    · refine ⟨.ref w, rfl, w, _, 1, .int t, rfl, rfl, SqL.of hw, rfl, ?_⟩
      refine ⟨.int t, rfl, t, 1, rfl, rfl, .ref w, rfl, w, _, 1, 1, rfl, rfl, hw, rfl, ?_⟩
      refine ⟨.int t, rfl, 34019, t, rfl, rfl, wide_mul (a := 20) (b := 30) (by decide) (by omega) (by decide) (by decide) (by decide), _, _, rfl, rfl, ?_⟩
      -- the list with the next turn; an empty list beside it
      have hw1 : ∀ o, upd H w o w = some o := fun o => upd_same
      have ha1 : ∀ o, upd H w o a = some (.lst (ns.map V.int)) := fun o => (upd_ne haw).trans ha
      refine ⟨fun σ' H' => ∃ c : Int, σ' = [some (.ref w), some (.int many), none, some (.int t), some (.int c), none] ∧ Kp w H H' ∧ H' a = some (.lst (ns.map V.int)) ∧
        H' w = some (.lst [.ref a, .int (t + 1 : Nat), .int r]), ?_, ?_⟩
      · refine ⟨.ref w, rfl, w, _, 0, .ref a, rfl, rfl, SqL.of (hw1 _), rfl, Nat.zero_le _, fun p np => ?_⟩
        have npw : p ≠ w := fun z => by
          rw [z, upd_same] at np
          cases np
        have npa : p ≠ a := fun z => by
          rw [z, ha1] at np
          cases np
        have kp : Kp w H (upd (upd H w (.lst ([.ref a, .int t, .int r].set 1 (.int (t + 1))))) p (.lst [])) := fun b o e1 e2 => by
          have nb : b ≠ p := fun z => by
            rw [← z, upd_ne e1, e2] at np
            cases np
          rw [upd_ne nb, upd_ne e1]
          exact e2
        have ha2 := (upd_ne npa.symm (H := upd H w (.lst ([.ref a, .int t, .int r].set 1 (.int (t + 1))))) (o := .lst [])).trans (ha1 _)
        have hw2 := (upd_ne npw.symm (H := upd H w (.lst ([.ref a, .int t, .int r].set 1 (.int (t + 1))))) (o := .lst [])).trans (hw1 _)
        refine ⟨.list (ns.map PyData.int), .list [], .lst (SqL.of ha2) (dp_ints ns), .lst (SqL.of upd_same) .nil, shaped_ints ns, rfl, _, rfl, ?_⟩
        rw [eqv_ints_nil]
        refine ite2 (fun e => ?_) (fun e => ?_)
        · have hne : 0 < ns.length := by
            cases ns with
            | nil => cases e
            | cons x l => exact Nat.succ_pos _
          have hi : t % ns.length < ns.length := Nat.mod_lt _ hne
          refine ⟨.ref w, rfl, w, _, 0, .ref a, rfl, rfl, SqL.of hw2, rfl, ?_⟩
          refine ⟨.int t, rfl, .inl ⟨t, rfl, ?_⟩⟩
          refine ⟨.ref w, rfl, w, _, 0, .ref a, rfl, rfl, SqL.of hw2, rfl, .ref a, ns.length, rfl, .inl ⟨_, SqL.of ha2, by rw [List.length_map]⟩, ?_⟩
          refine ⟨t, ns.length, rfl, rfl, by omega, ?_⟩
          refine ⟨a, _, ((t % ns.length : Nat) : Int), .int ns[t % ns.length], rfl, rfl, SqL.of ha2, atI_nat ?_, ?_⟩
          · rw [List.getElem?_map, List.getElem?_eq_getElem hi]
            rfl
          · exact ⟨_, rfl, kp, ha2, hw2⟩
        · exact ⟨_, rfl, kp, ha2, hw2⟩
      · rintro σ1 H1 ⟨c, rfl, kp, ha1, hw1⟩
        have fin : ∀ v : Int, 0 ≤ v → v < many → ∀ r' : Nat, ∀ H', H' a = some (.lst (ns.map V.int)) → H' w = some (.lst [.ref a, .int (t + 1 : Nat), .int r']) → Kp w H H' → Q (.int v) H' :=
          fun v h1 h2 r' H' h3 h4 h5 => q v H' h1 h2 h5 ⟨haw, h3, hl, t + 1, r', by omega, h4⟩
        have pw : CPow 10 18 := ⟨by decide, by decide, by decide⟩
        refine ⟨fun σ' H' => ∃ c : Int, σ' = [some (.ref w), some (.int many), none, some (.int t), some (.int c), none] ∧ Kp w H H' ∧ H' a = some (.lst (ns.map V.int)) ∧
          H' w = some (.lst [.ref a, .int (t + 1 : Nat), .int r]), ?_, ?_⟩
        · refine ⟨.int t, rfl, .ref w, rfl, w, _, 0, .ref a, rfl, rfl, SqL.of hw1, rfl, .ref a, ns.length, rfl, .inl ⟨_, SqL.of ha1, by rw [List.length_map]⟩, ?_⟩
          refine ⟨t, ns.length, rfl, rfl, _, rfl, ite2 (fun e1 => ?_) (fun e1 => iteF ⟨c, rfl, kp, ha1, hw1⟩)⟩
          refine ⟨.int c, rfl, c, rfl, 10, 18, rfl, rfl, pw, _, _, rfl, rfl, _, rfl, ite2 (fun e2 => ?_) (fun e2 => ⟨c, rfl, kp, ha1, hw1⟩)⟩
          have e3 : (10 : Int) ^ (18 : Int).toNat ≤ (if c < 0 then -c else c) := of_decide_eq_true e2
          refine ⟨.int c, rfl, c, rfl, 10, 18, rfl, rfl, pw, _, _, rfl, rfl, ?_⟩
          refine ⟨.int _, rfl, .inl ⟨_, rfl, .int many, rfl, _, many, rfl, rfl, hd, .ref w, rfl, w, _, 2, 2, rfl, rfl, hw1, rfl, ?_⟩⟩
          refine ⟨.int _, rfl, .inl ⟨_, rfl, .int many, rfl, _, many, rfl, rfl, hm0, ?_⟩⟩
          generalize hR : (if c < 0 then -c else c) - 10 ^ (18 : Int).toNat = R
          have hR0 : 0 ≤ R := by omega
          refine fin _ (Int.emod_nonneg _ (by omega)) (Int.emod_lt_of_pos _ hm0) (R / many).toNat _ ?_ ?_ (fun b o z1 z2 => ?_)
          · rw [upd_ne haw]
            exact ha1
          · rw [upd_same, Int.toNat_of_nonneg (Int.ediv_nonneg hR0 (by omega)), ← hR]
            rfl
          · rw [upd_ne z1]
            exact kp b o z1 z2
        · rintro σ2 H2 ⟨c, rfl, kp, ha2, hw2⟩
          have c1 : 0 ≤ c % 2147483543 := Int.emod_nonneg _ (by decide)
          have c2 : c % 2147483543 < 2147483543 := Int.emod_lt_of_pos _ (by decide)
          refine ⟨.int c, rfl, .inl ⟨c, rfl, c, 2147483543, rfl, rfl, (show (0 : Int) < 2147483543 by decide), .int t, rfl, 52489, t, rfl, rfl, wide_mul (a := 20) (b := 30) (by decide) (by omega) (by decide) (by decide) (by decide), _, _, rfl, rfl, _, _, rfl, rfl, _, _, rfl, rfl,
            ⟨by decide, by decide, by omega⟩, .inl ⟨_, rfl, _, _, rfl, rfl, (show (0 : Int) < 2147483647 by decide), ?_⟩⟩⟩
          obtain ⟨m1, hm1⟩ : ∃ m1 : Int, m1 = (c % 2147483543 + 52489 * (t : Int) + 1777) ^ (5 : Int).toNat % 2147483647 := ⟨_, rfl⟩
          have m10 : 0 ≤ m1 := hm1.symm ▸ Int.emod_nonneg _ (by decide)
          have m11 : m1 < 2147483647 := hm1.symm ▸ Int.emod_lt_of_pos _ (by decide)
          have t0 : (0 : Int) ≤ t := by omega
          have t1 : (t : Int) ≤ 1000000 := by omega
          have p1 : 0 ≤ m1 * (2 * (t : Int) + 1301) := Int.mul_nonneg m10 (by omega)
          have p2 : m1 * (2 * (t : Int) + 1301) ≤ 2147483647 * 2010000 := Int.mul_le_mul (by omega) (by omega) (by omega) (by omega)
          have p3 : 0 ≤ 34019 * (t : Int) * t := Int.mul_nonneg (by omega) t0
          have p4 : 34019 * (t : Int) * t ≤ 34019 * 1000000 * 1000000 := Int.mul_le_mul (by omega) t1 t0 (by omega)
          refine ⟨.int m1, by rw [hm1]; rfl, .int t, rfl, 2, t, rfl, rfl, wide_mul (a := 20) (b := 30) (by decide) (by omega) (by decide) (by decide) (by decide), _, _, rfl, rfl, m1, _, rfl, rfl,
            wide_mul (a := 40) (b := 40) (by omega) (by omega) (by decide) (by decide) (by decide), .int t, rfl, 34019, t, rfl, rfl, wide_mul (a := 20) (b := 30) (by decide) (by omega) (by decide) (by decide) (by decide),
            .int t, rfl, _, t, rfl, rfl, wide_mul (a := 60) (b := 30) (by omega) (by omega) (by decide) (by decide) (by decide), _, _, rfl, rfl, _, _, rfl, rfl, _, _, rfl, rfl,
            ⟨by decide, by decide, by omega⟩, .inl ⟨_, rfl, _, _, rfl, rfl, (show (0 : Int) < 2147483563 by decide), ?_⟩⟩
          refine ⟨.int _, rfl, _, 64, rfl, rfl, wide_div (b := 10) (by decide) (by decide) (by decide) (by decide), .inl ⟨_, rfl, .int many, rfl, _, many, rfl, rfl, hm0, ?_⟩⟩
          exact fin _ (Int.emod_nonneg _ (by omega)) (Int.emod_lt_of_pos _ hm0) r _ ha2 hw2 kp
end
end K01

set_option Elab.async false
set_option linter.all false
set_option maxRecDepth 100000
set_option maxHeartbeats 1000000
namespace K01
open PySem PySem.Spec PyProof.Rows L2 Gd
/-! ### kinds of values -/
def KT (t : String) : Prop := t = "NoneType" ∨ t = "bool" ∨ t = "int" ∨ t = "str" ∨ t = "list" ∨ t = "tuple" ∨ t = "dict"
theorem kt_int {t : String} (h : KT t) : kitB t "int" = some (t == "int" || t == "bool") := by
  rcases h with rfl | rfl | rfl | rfl | rfl | rfl | rfl <;> decide +kernel
theorem kt_bool {t : String} (h : KT t) : kitB t "bool" = some (t == "bool") := by
  rcases h with rfl | rfl | rfl | rfl | rfl | rfl | rfl <;> decide +kernel
theorem kt_str {t : String} (h : KT t) : kitB t "str" = some (t == "str") := by
  rcases h with rfl | rfl | rfl | rfl | rfl | rfl | rfl <;> decide +kernel
theorem kt_and {t : String} (h : KT t) : ((t == "int" || t == "bool") && !(t == "bool")) = (t == "int") := by
  rcases h with rfl | rfl | rfl | rfl | rfl | rfl | rfl <;> decide +kernel
def spIsInt (K : PySem.W.Frag) : Sp := fun vs H Q _ => ∃ (v : V) (t : String), vs = [v] ∧ TyX K H v (.type t) ∧ KT t ∧ Q (.bl (t == "int")) H
def vO : Option Int → V
  | none => .non
  | some i => .int i
def loB (o : Option Int) (n : Int) : Bool := match o with | none => true | some i => decide (i ≤ n)
def hiB (o : Option Int) (n : Int) : Bool := match o with | none => true | some i => decide (n ≤ i)
def spWithin (K : PySem.W.Frag) : Sp := fun vs H Q _ => (∃ (v l m : V) (t : String), vs = [v, l, m] ∧ TyX K H v (.type t) ∧ KT t ∧ (t == "int") = false ∧ Q (.bl false) H) ∨
  ∃ (n : Int) (l m : Option Int), vs = [.int n, vO l, vO m] ∧ Q (.bl (loB l n && hiB m n)) H
def lowB (c : Nat) : Bool := decide (97 ≤ c ∧ c ≤ 122)
def digB (c : Nat) : Bool := decide (48 ≤ c ∧ c ≤ 57)
theorem letters_eq : (Str.ofString "abcdefghijklmnopqrstuvwxyz").cps.toList = List.range' 97 26 := by decide +kernel
theorem digits_eq : (Str.ofString "0123456789").cps.toList = List.range' 48 10 := by decide +kernel
theorem in_letters (c : Nat) : decide (c ∈ (Str.ofString "abcdefghijklmnopqrstuvwxyz").cps.toList) = lowB c := by
  unfold lowB
  rw [letters_eq]
  refine decide_eq_decide.mpr ?_
  rw [List.mem_range'_1]
  omega
theorem in_digits (c : Nat) : decide (c ∈ (Str.ofString "0123456789").cps.toList) = digB c := by
  unfold digB
  rw [digits_eq]
  refine decide_eq_decide.mpr ?_
  rw [List.mem_range'_1]
  omega
def signB (c : Nat) : Bool := lowB c || digB c
def stemB (l : List Nat) : Bool := decide (1 ≤ l.length) && decide (l.length ≤ 12) && (l.head?.any lowB) && l.all signB
def spStem (K : PySem.W.Frag) : Sp := fun vs H Q _ => (∃ z : Str, vs = [.str z] ∧ z.length ≤ 1000 ∧ ∀ H', Same H H' → Q (.bl (stemB z.cps.toList)) H') ∨
  ∃ (v : V) (t : String), vs = [v] ∧ TyX K H v (.type t) ∧ KT t ∧ (t == "str") = false ∧ Q (.bl false) H
section
variable {P : Program} {w : World} {K : PySem.W.Frag} {mg : Str → Option Value} {base : Heap}
theorem ok_is_integer (T : Txt K mg) : Cal P w K mg base 1 "is_integer" (spIsInt K) := by
  obtain ⟨f, fd, F, b⟩ := T.d_is_integer
  refine cal F b scis_integer (fun vs H Q E h => ?_) (fun cdv A outer s H vs Q E hgd hr h => ?_)
  · obtain ⟨v, t, rfl, _⟩ := h
    rfl
  · have nd := scis_integer.nd
    obtain ⟨v, t, rfl, ty, kt, q⟩ := h
    refine ⟨_, (pss_one (ps_ret (pe_and (pe_callB call_isi (by rfl) T.z_isinstance (by decide +kernel) (pa_cons (pv 0) (pa_cons (pe_bltn (v := .ty "int") (u := .type "int") (by rfl) T.z_int (by decide +kernel) rfl) pa_nil))) (pe_one (pe_not (pe_callB call_isi (by rfl) T.z_isinstance (by decide +kernel) (pa_cons (pv 0) (pa_cons (pe_bltn (v := .ty "bool") (u := .type "bool") (by rfl) T.z_bool (by decide +kernel) rfl) pa_nil)))))))), ?_⟩
    refine ⟨v, rfl, v, .ty "int", .type t, .type "int", _, rfl, .ty _, ty, kit_ty (kt_int kt), _, rfl, ite2 (fun e => ?_) (fun e => ?_)⟩
    · refine ⟨v, rfl, v, .ty "bool", .type t, .type "bool", _, rfl, .ty _, ty, kit_ty (kt_bool kt), _, rfl, ?_⟩
      have e2 := kt_and kt
      rw [e, Bool.true_and] at e2
      rw [e2]
      exact q
    · have e2 := kt_and kt
      rw [Bool.eq_false_iff.mpr e, Bool.false_and] at e2
      rw [← e2] at q
      exact q
theorem ok_is_within (T : Txt K mg) (G_is_integer : Cal P w K mg base 1 "is_integer" (spIsInt K)) : Cal P w K mg base 2 "is_within" (spWithin K) := by
  obtain ⟨f, fd, F, b⟩ := T.d_is_within
  refine cal F b scis_within (fun vs H Q E h => ?_) (fun cdv A outer s H vs Q E hgd hr h => ?_)
  · rcases h with ⟨v, l, m, t, rfl, _⟩ | ⟨n, l, m, rfl, _⟩ <;> rfl
  · have nd := scis_within.nd
    rcases h with ⟨v, l, m, t, rfl, ty, kt, ti, q⟩ | ⟨n, l, m, rfl, q⟩
    · refine ⟨_, (pss_cons (ps_if (pt_not (pt_val (pc G_is_integer hgd hr (by decide) (by rfl) (pa_cons (pv 0) pa_nil)))) (pss_one (ps_ret pe_bl)) pss_nil)
      (pss_one (ps_ret (pe_and (pe_or (pe_cmp (pc_isN (pv 1)) rfl) (pe_one (pe_cmpR op_ge (pv 0) (pv 1) (nomark _)))) (pe_one (pe_or (pe_cmp (pc_isN (pv 2)) rfl) (pe_one (pe_cmpR op_le (pv 0) (pv 2) (nomark _))))))))), ?_⟩
      refine ⟨v, rfl, v, t, rfl, ty, kt, _, rfl, ?_⟩
      rw [ti]
      exact iteT q
    · refine ⟨_, (pss_cons (ps_if (pt_not (pt_val (pc G_is_integer hgd hr (by decide) (by rfl) (pa_cons (pv 0) pa_nil)))) (pss_one (ps_ret pe_bl)) pss_nil)
      (pss_one (ps_ret (pe_and (pe_or (pe_cmp (pc_isN (pv 1)) rfl) (pe_one (pe_cmpR op_ge (pv 0) (pv 1) (nomark _)))) (pe_one (pe_or (pe_cmp (pc_isN (pv 2)) rfl) (pe_one (pe_cmpR op_le (pv 0) (pv 2) (nomark _))))))))), ?_⟩
      refine ⟨.int n, rfl, .int n, "int", rfl, .base (.int n), .inr (.inr (.inl rfl)), _, rfl, iteF ?_⟩
      refine ⟨vO l, rfl, _, rfl, ?_⟩
      cases l with
      | none =>
        refine iteT ⟨_, rfl, iteT ⟨vO m, rfl, _, rfl, ?_⟩⟩
        cases m with
        | none => exact iteT q
        | some j => exact iteF ⟨.int n, rfl, .int j, rfl, n, j, rfl, rfl, q⟩
      | some i =>
        refine iteF ⟨.int n, rfl, .int i, rfl, n, i, rfl, rfl, _, rfl, ?_⟩
        refine ite2 (fun e => ⟨vO m, rfl, _, rfl, ?_⟩) (fun e => ?_)
        · have e1 : loB (some i) n = true := e
          rw [e1, Bool.true_and] at q
          cases m with
          | none => exact iteT q
          | some j => exact iteF ⟨.int n, rfl, .int j, rfl, n, j, rfl, rfl, q⟩
        · have e1 : loB (some i) n = false := Bool.eq_false_iff.mpr e
          rw [e1, Bool.false_and] at q
          exact q
end
end K01

set_option Elab.async false
set_option linter.all false
set_option maxRecDepth 100000
set_option maxHeartbeats 1000000
namespace K01
open PySem PySem.Spec PyProof.Rows L2 Gd
section
variable {P : Program} {w : World} {K : PySem.W.Frag} {mg : Str → Option Value} {base : Heap}
theorem ok_is_stem (T : Txt K mg) : Cal P w K mg base 1 "is_stem" (spStem K) := by
  obtain ⟨f, fd, F, b⟩ := T.d_is_stem
  refine cal F b scis_stem (fun vs H Q E h => ?_) (fun cdv A outer s H vs Q E hgd hr h => ?_)
  · rcases h with ⟨z, rfl, _⟩ | ⟨v, t, rfl, _⟩ <;> rfl
  · have nd := scis_stem.nd
    rcases h with ⟨z, rfl, hz, q⟩ | ⟨v, t, rfl, ty, kt, ts, q⟩
    · refine ⟨_, (pss_cons (ps_if (PW.pt (pw_or (pt_not (pt_val (pe_callB call_isi (by rfl) T.z_isinstance (by decide +kernel) (pa_cons (pv 0) (pa_cons (pe_bltn (v := .ty "str") (u := .type "str") (by rfl) T.z_str (by decide +kernel) rfl) pa_nil))))) (pw_or1 (pt_not (pt_chain op_le op_le pe_int (pe_callB call_len (by rfl) T.z_len PySem.boot_len (pa_cons (pv 0) pa_nil)) (C8.pe_gc (by rfl) T.c_MOST_CHARACTERS)))))) (pss_one (ps_ret pe_bl)) pss_nil)
      (pss_one (ps_ret (pe_and (pe_cmpR op_in_sign (pe_ix ix_str (pv 0) pe_int (fun _ _ => rfl)) (C8.pe_gc (by rfl) T.c_LETTERS) rfl) (pe_one (pe_callB (cr_all rfl) (by rfl) T.z_all (by decide +kernel) (pa_cons (pe_lc (own := [("sign", 1)]) (g := gName 1) rfl nd (pi_str (pv 0)) (blkOk_by (own := [("sign", 1)]) (N := ["value", "sign"]) (sc := (C8.fnScope sis_stem)) (by decide +kernel)) (fun _ _ _ _ _ => pg_name (i := 1) nd rfl (Or.inl rfl)) (fun _ _ _ _ _ => pts_nil) (fun _ _ _ _ _ => (pe_or (pe_cmpR op_in_sign (pv 1) (C8.pe_gc (by rfl) T.c_LETTERS) rfl) (pe_one (pe_cmpR op_in_sign (pv 1) (C8.pe_gc (by rfl) T.c_DIGITS) rfl))))) pa_nil))))))), ?_⟩
      refine ⟨.str z, rfl, .str z, .ty "str", .type "str", .type "str", true, rfl, .ty _, .base (.str z), kit_ty (by decide +kernel), _, rfl, iteF ?_⟩
      refine ⟨.str z, rfl, .str z, z.length, rfl, ⟨sm1000 hz, rfl⟩, 1, z.length, rfl, rfl, _, rfl, ite2 (fun e1 => ⟨_, _, rfl, rfl, _, rfl, ?_⟩) (fun e1 => ⟨_, rfl, iteT ?_⟩)⟩
      · have l1 : (1 : Int) ≤ z.length := of_decide_eq_true e1
        by_cases h12 : z.length ≤ 12
        · have e2 : decide ((z.length : Int) ≤ 12) = true := decide_eq_true (by omega)
          rw [e2]
          refine iteF ?_
          have hne : 0 < z.cps.toList.length := by
            rw [len_cps]
            omega
          obtain ⟨c0, hc0⟩ : ∃ c0, z.cps.toList[0]? = some c0 := ⟨_, List.getElem?_eq_getElem hne⟩
          have hst : stemB z.cps.toList = (lowB c0 && z.cps.toList.all signB) := by
            unfold stemB
            rw [len_cps, decide_eq_true (show 1 ≤ z.length by omega), decide_eq_true h12, List.head?_eq_getElem?, hc0]
            rfl
          refine ⟨.str z, rfl, z, 0, c0, rfl, rfl, sm1000 hz, atI_nat (j := 0) hc0, c0, _, rfl, rfl, _, rfl, ?_⟩
          rw [in_letters]
          refine ite2 (fun e3 => ?_) (fun e3 => ?_)
          · rw [e3, Bool.true_and] at hst
            refine ⟨.str z, rfl, z, rfl, fun D nD => lc_it (walk_str (z := z)) (fun i H' => H' D = some (.lst ((z.cps.toList.take i).map fun c => V.bl (signB c))) ∧ Same H H') ⟨upd_same, same_new nD⟩
              (fun _ _ _ _ => trivial) (fun i x H1 H2 hi hP hY => ?_) (fun H1 hP => ?_)⟩
            · obtain ⟨hD, sm⟩ := hP
              obtain ⟨rfl, c, hc, rfl⟩ := hY
              have hc' : z.cps.toList[i]? = some c := by
                rw [Array.getElem?_toList]
                exact hc
              have fin : ∃ acc, H2 D = some (.lst acc) ∧ acc.length < sizeLine ∧ (upd H2 D (.lst (acc ++ [V.bl (signB c)]))) D = some (.lst ((z.cps.toList.take (i + 1)).map fun c => V.bl (signB c))) ∧ Same H (upd H2 D (.lst (acc ++ [V.bl (signB c)]))) := by
                refine ⟨_, hD, ?_, ?_, same_grow nD sm⟩
                · rw [List.length_map, List.length_take]
                  exact small1000 (by have := size_cps z; omega)
                · rw [upd_same, take_next (f := fun c => V.bl (signB c)) hc']
              refine ⟨rfl, lc_yes ?_⟩
              refine ⟨.str ⟨#[c]⟩, rfl, c, _, rfl, rfl, _, rfl, ?_⟩
              rw [in_letters]
              refine ite2 (fun e4 => ?_) (fun e4 => ?_)
              · have e5 : signB c = true := by
                  unfold signB
                  rw [e4]
                  rfl
                rw [e5] at fin
                exact fin
              · refine ⟨.str ⟨#[c]⟩, rfl, c, _, rfl, rfl, ?_⟩
                rw [in_digits]
                have e5 : signB c = digB c := by
                  unfold signB
                  rw [Bool.eq_false_iff.mpr e4]
                  rfl
                rw [← e5]
                exact fin
            · obtain ⟨hD, sm⟩ := hP
              rw [List.take_of_length_le (by rw [len_cps]; exact Nat.le_refl _)] at hD
              refine ⟨D, z.cps.toList.map signB, rfl, SqL.of (by rw [hD, List.map_map]; rfl), ?_⟩
              rw [List.all_map, show (id ∘ signB) = signB from rfl, ← hst]
              exact q _ sm
          · rw [Bool.eq_false_iff.mpr e3, Bool.false_and] at hst
            rw [← hst]
            exact q _ (Same.refl _)
        · have e2 : decide ((z.length : Int) ≤ 12) = false := decide_eq_false (by omega)
          rw [e2]
          refine iteT ?_
          have hst : stemB z.cps.toList = false := by
            unfold stemB
            rw [len_cps, decide_eq_false h12, Bool.and_false]
            rfl
          rw [← hst]
          exact q _ (Same.refl _)
      · have l1 : ¬ (1 : Int) ≤ z.length := of_decide_eq_false (Bool.eq_false_iff.mpr e1)
        have hst : stemB z.cps.toList = false := by
          unfold stemB
          rw [len_cps, decide_eq_false (show ¬ 1 ≤ z.length by omega)]
          rfl
        rw [← hst]
        exact q _ (Same.refl _)
    · refine ⟨_, (pss_cons (ps_if (PW.pt (pw_or (pt_not (pt_val (pe_callB call_isi (by rfl) T.z_isinstance (by decide +kernel) (pa_cons (pv 0) (pa_cons (pe_bltn (v := .ty "str") (u := .type "str") (by rfl) T.z_str (by decide +kernel) rfl) pa_nil))))) (pw_or1 (pt_not (pt_chain op_le op_le pe_int (pe_callB call_len (by rfl) T.z_len PySem.boot_len (pa_cons (pv 0) pa_nil)) (C8.pe_gc (by rfl) T.c_MOST_CHARACTERS)))))) (pss_one (ps_ret pe_bl)) pss_nil)
      (pss_one (ps_ret (pe_and (pe_cmpR op_in_sign (pe_ix ix_str (pv 0) pe_int (fun _ _ => rfl)) (C8.pe_gc (by rfl) T.c_LETTERS) rfl) (pe_one (pe_callB (cr_all rfl) (by rfl) T.z_all (by decide +kernel) (pa_cons (pe_lc (own := [("sign", 1)]) (g := gName 1) rfl nd (pi_str (pv 0)) (blkOk_by (own := [("sign", 1)]) (N := ["value", "sign"]) (sc := (C8.fnScope sis_stem)) (by decide +kernel)) (fun _ _ _ _ _ => pg_name (i := 1) nd rfl (Or.inl rfl)) (fun _ _ _ _ _ => pts_nil) (fun _ _ _ _ _ => (pe_or (pe_cmpR op_in_sign (pv 1) (C8.pe_gc (by rfl) T.c_LETTERS) rfl) (pe_one (pe_cmpR op_in_sign (pv 1) (C8.pe_gc (by rfl) T.c_DIGITS) rfl))))) pa_nil))))))), ?_⟩
      refine ⟨v, rfl, v, .ty "str", .type t, .type "str", _, rfl, .ty _, ty, kit_ty (kt_str kt), _, rfl, ?_⟩
      rw [ts]
      exact iteT (iteT q)
end
end K01

set_option Elab.async false
set_option linter.all false
set_option maxRecDepth 100000
set_option maxHeartbeats 1000000
namespace K01
open PySem PySem.Spec PyProof.Rows L2 Gd
/-! ### the parts of a text between its dots -/
def dotp : List Nat → List Nat → List (List Nat)
  | acc, [] => [acc]
  | acc, c :: r => if c = 46 then acc :: dotp [] r else dotp (acc ++ [c]) r
theorem spl_dotp : ∀ (l acc : List Nat), TL.spl [46] 0 acc l = dotp acc l
  | [], acc => TL.spl_nil _ _ _
  | c :: r, acc => by
    unfold dotp
    by_cases h : c = 46
    · subst h
      rw [if_pos rfl, TL.spl_hit (by rfl)]
      exact congrArg (acc :: ·) (spl_dotp r [])
    · rw [if_neg h, TL.spl_miss (TL.pre_of_head _ _ h)]
      exact spl_dotp r _
theorem split_dots (z : Str) : Txt.split z "." = (dotp [] z.cps.toList).map SX.S := by
  have e := SX.split_S (a := z.cps.toList) (b := [46]) (by simp) (by decide)
  rw [SX.S_tl, spl_dotp] at e
  exact e
theorem dotp_len : ∀ (l acc p : List Nat), p ∈ dotp acc l → p.length ≤ acc.length + l.length
  | [], acc, p, h => by
    rw [List.mem_singleton.mp h]
    exact Nat.le_refl _
  | c :: r, acc, p, h => by
    unfold dotp at h
    by_cases e : c = 46
    · rw [if_pos e] at h
      rcases List.mem_cons.mp h with rfl | h
      · omega
      · have := dotp_len r [] p h
        simp only [List.length_nil, List.length_cons] at *
        omega
    · rw [if_neg e] at h
      have := dotp_len r _ p h
      simp only [List.length_append, List.length_nil, List.length_cons] at *
      omega
theorem dotp_many : ∀ (l acc : List Nat), (dotp acc l).length ≤ l.length + 1
  | [], acc => Nat.le_refl _
  | c :: r, acc => by
    unfold dotp
    have h1 := dotp_many r []
    have h2 := dotp_many r (acc ++ [c])
    split <;> simp only [List.length_cons] <;> omega
def nameB (l : List Nat) : Bool := decide ((dotp [] l).length ≤ 6) && (dotp [] l).all stemB
def spName (K : PySem.W.Frag) : Sp := fun vs H Q _ => (∃ z : Str, vs = [.str z] ∧ z.length ≤ 1000 ∧ ∀ H', Same H H' → Q (.bl (nameB z.cps.toList)) H') ∨
  ∃ (v : V) (t : String), vs = [v] ∧ TyX K H v (.type t) ∧ KT t ∧ (t == "str") = false ∧ Q (.bl false) H
section
variable {P : Program} {w : World} {K : PySem.W.Frag} {mg : Str → Option Value} {base : Heap}
theorem ok_is_name (T : Txt K mg) (G_is_stem : Cal P w K mg base 1 "is_stem" (spStem K)) : Cal P w K mg base 2 "is_name" (spName K) := by
  obtain ⟨f, fd, F, b⟩ := T.d_is_name
  refine cal F b scis_name (fun vs H Q E h => ?_) (fun cdv A outer s H vs Q E hgd hr h => ?_)
  · rcases h with ⟨z, rfl, _⟩ | ⟨v, t, rfl, _⟩ <;> rfl
  · have nd := scis_name.nd
    rcases h with ⟨z, rfl, hz, q⟩ | ⟨v, t, rfl, ty, kt, ts, q⟩
    · refine ⟨_, (pss_cons (ps_if (pt_not (pt_val (pe_callB call_isi (by rfl) T.z_isinstance (by decide +kernel) (pa_cons (pv 0) (pa_cons (pe_bltn (v := .ty "str") (u := .type "str") (by rfl) T.z_str (by decide +kernel) rfl) pa_nil))))) (pss_one (ps_ret pe_bl)) pss_nil)
      (pss_cons (ps_set (i := 1) nd rfl (.inl rfl) (pe_split (pv 0) pe_str))
      (pss_one (ps_ret (pe_and (pe_cmpR op_le (pe_callB call_len (by rfl) T.z_len PySem.boot_len (pa_cons (pv 1) pa_nil)) (C8.pe_gc (by rfl) T.c_MOST_STEMS) (nomark _)) (pe_one (pe_callB (cr_all rfl) (by rfl) T.z_all (by decide +kernel) (pa_cons (pe_lc (own := [("stem", 2)]) (g := gName 2) rfl nd (pi_list (pv 1)) (blkOk_by (own := [("stem", 2)]) (N := ["value", "stems", "stem"]) (sc := (C8.fnScope sis_name)) (by decide +kernel)) (fun _ _ _ _ _ => pg_name (i := 2) nd rfl (Or.inl rfl)) (fun _ _ _ _ _ => pts_nil) (fun _ _ _ _ _ => (pc G_is_stem hgd hr (by decide) (by rfl) (pa_cons (pv 2) pa_nil)))) pa_nil)))))))), ?_⟩
      refine ⟨.str z, rfl, .str z, .ty "str", .type "str", .type "str", true, rfl, .ty _, .base (.str z), kit_ty (by decide +kernel), _, rfl, iteF ?_⟩
      refine ⟨.str z, rfl, ⟨z, rfl⟩, z, ".", rfl, rfl, rfl, Nat.le_of_lt (small1000 (n := 1000) (by omega) |> fun h => by have e := sizeLine_eq; omega), fun p np => ?_⟩
      have hp : (upd H p (.lst ((Txt.split z ".").map V.str))) p = some (.lst ((Txt.split z ".").map V.str)) := upd_same
      have s1 : Same H (upd H p (.lst ((Txt.split z ".").map V.str))) := same_new np
      have hn : (Txt.split z ".").length = (dotp [] z.cps.toList).length := by rw [split_dots, List.length_map]
      refine ⟨.ref p, rfl, .ref p, _, rfl, .inl ⟨_, SqL.of hp, rfl⟩, _, _, rfl, rfl, _, rfl, ?_⟩
      rw [List.length_map, hn]
      refine ite2 (fun e1 => ?_) (fun e1 => ?_)
      · have h6 : (dotp [] z.cps.toList).length ≤ 6 := by
          have := of_decide_eq_true e1
          omega
        refine ⟨.ref p, rfl, p, rfl, ⟨_, SqL.of hp⟩, fun D nD => lc_it (walk_list (xs := (Txt.split z ".").map V.str))
          (fun i H' => H' p = some (.lst ((Txt.split z ".").map V.str)) ∧ H' D = some (.lst (((dotp [] z.cps.toList).take i).map fun c => V.bl (stemB c))) ∧ Same H H')
          ⟨?_, upd_same, s1.trans (same_new nD)⟩ (fun i H' _ hP => SqL.of hP.1) (fun i x H1 H2 hi hP hY => ?_) (fun H1 hP => ?_)⟩
        · rw [upd_ne (ne_of_none hp nD)]
          exact hp
        · obtain ⟨h1, h2, h3⟩ := hP
          obtain ⟨rfl, hx⟩ := hY
          rw [split_dots, List.map_map, List.getElem?_map] at hx
          obtain ⟨c, hc, rfl⟩ := Option.map_eq_some_iff.mp hx
          have hcl : c.length ≤ z.length := by
            have := dotp_len _ _ c (List.mem_of_getElem? hc)
            have e := len_cps z
            simp only [List.length_nil] at this
            omega
          refine ⟨rfl, lc_yes ⟨.str (SX.S c), rfl, .inl ⟨SX.S c, rfl, by rw [SX.S_len]; omega, fun H3 s3 => ?_⟩⟩⟩
          refine ⟨_, s3 _ _ h2, ?_, ?_, ?_, ?_⟩
          · rw [List.length_map, List.length_take]
            exact small1000 (by omega)
          · rw [upd_ne (ne_of_none hp nD)]
            exact s3 _ _ h1
          · rw [upd_same]
            exact congrArg (fun l => some (HO.lst l)) (take_next (f := fun c => V.bl (stemB c)) hc)
          · intro b o e
            have nb : b ≠ D := fun z => by
              have := (s1 b o e)
              rw [z, nD] at this
              cases this
            rw [upd_ne nb]
            exact s3 _ _ (h3 _ _ e)
        · obtain ⟨h1, h2, h3⟩ := hP
          rw [List.length_map, hn, List.take_length] at h2
          refine ⟨D, (dotp [] z.cps.toList).map stemB, rfl, SqL.of (by rw [h2, List.map_map]; rfl), ?_⟩
          have e : ((dotp [] z.cps.toList).map stemB).all id = nameB z.cps.toList := by
            unfold nameB
            rw [decide_eq_true h6, List.all_map]
            rfl
          rw [e]
          exact q _ h3
      · have h6 : ¬ (dotp [] z.cps.toList).length ≤ 6 := fun h => e1 (decide_eq_true (by omega))
        have e : false = nameB z.cps.toList := by
          unfold nameB
          rw [decide_eq_false h6]
          rfl
        rw [e]
        exact q _ s1
    · refine ⟨_, (pss_cons (ps_if (pt_not (pt_val (pe_callB call_isi (by rfl) T.z_isinstance (by decide +kernel) (pa_cons (pv 0) (pa_cons (pe_bltn (v := .ty "str") (u := .type "str") (by rfl) T.z_str (by decide +kernel) rfl) pa_nil))))) (pss_one (ps_ret pe_bl)) pss_nil)
      (pss_cons (ps_set (i := 1) nd rfl (.inl rfl) (pe_split (pv 0) pe_str))
      (pss_one (ps_ret (pe_and (pe_cmpR op_le (pe_callB call_len (by rfl) T.z_len PySem.boot_len (pa_cons (pv 1) pa_nil)) (C8.pe_gc (by rfl) T.c_MOST_STEMS) (nomark _)) (pe_one (pe_callB (cr_all rfl) (by rfl) T.z_all (by decide +kernel) (pa_cons (pe_lc (own := [("stem", 2)]) (g := gName 2) rfl nd (pi_list (pv 1)) (blkOk_by (own := [("stem", 2)]) (N := ["value", "stems", "stem"]) (sc := (C8.fnScope sis_name)) (by decide +kernel)) (fun _ _ _ _ _ => pg_name (i := 2) nd rfl (Or.inl rfl)) (fun _ _ _ _ _ => pts_nil) (fun _ _ _ _ _ => (pc G_is_stem hgd hr (by decide) (by rfl) (pa_cons (pv 2) pa_nil)))) pa_nil)))))))), ?_⟩
      refine ⟨v, rfl, v, .ty "str", .type t, .type "str", _, rfl, .ty _, ty, kit_ty (kt_str kt), _, rfl, ?_⟩
      rw [ts]
      exact iteT q
end
end K01

set_option Elab.async false
set_option linter.all false
set_option maxRecDepth 100000
set_option maxHeartbeats 1000000
namespace K01
open PySem PySem.Spec PyProof.Rows L2 Gd
theorem Wl.mono {ns : List Int} {w a : Addr} {N M : Nat} {H : Hp} (h : Wl ns w a N H) (hN : N ≤ M) : Wl ns w a M H := by
  obtain ⟨h1, h2, h3, t, r, h4, h5⟩ := h
  exact ⟨h1, h2, h3, t, r, by omega, h5⟩
theorem Wl.same {ns : List Int} {w a : Addr} {N : Nat} {H H' : Hp} (h : Wl ns w a N H) (s : Same H H') : Wl ns w a N H' := by
  obtain ⟨h1, h2, h3, t, r, h4, h5⟩ := h
  exact ⟨h1, s _ _ h2, h3, t, r, h4, s _ _ h5⟩
theorem Wl.at_w {ns : List Int} {w a : Addr} {N : Nat} {H : Hp} (h : Wl ns w a N H) : ∃ o, H w = some o := by
  obtain ⟨h1, h2, h3, t, r, h4, h5⟩ := h
  exact ⟨_, h5⟩
theorem Kp.same {w : Addr} {H H' : Hp} (s : Same H H') : Kp w H H' := fun b o _ e => s b o e
theorem Kp.refl (w : Addr) (H : Hp) : Kp w H H := fun _ _ _ e => e
theorem Kp.trans {w : Addr} {H H1 H2 : Hp} (x : Kp w H H1) (y : Kp w H1 H2) : Kp w H H2 := fun b o n e => y b o n (x b o n e)
theorem Kp.new {w : Addr} {H H' : Hp} {p : Addr} {o : HO} (x : Kp w H H') (h : H' p = none) : Kp w H (upd H' p o) := x.trans (Kp.same (same_new h))
/-- a list at D, new since H, is written -/
theorem Kp.grow {w : Addr} {H H' : Hp} {D : Addr} {o : HO} (h : H D = none) (s : Kp w H H') : Kp w H (upd H' D o) := fun b x n e => by
  rw [upd_ne (ne_of_none e h)]
  exact s b x n e
theorem Wl.grow {ns : List Int} {w a : Addr} {N : Nat} {H : Hp} {D : Addr} {o : HO} (h : Wl ns w a N H) (hw : D ≠ w) (ha : D ≠ a) : Wl ns w a N (upd H D o) := by
  obtain ⟨h1, h2, h3, t, r, h4, h5⟩ := h
  exact ⟨h1, by rw [upd_ne ha.symm]; exact h2, h3, t, r, h4, by rw [upd_ne hw.symm]; exact h5⟩
/-- a place where nothing is tracked is neither the well nor its list -/
theorem Wl.off {ns : List Int} {w a : Addr} {N : Nat} {H : Hp} {p : Addr} (h : Wl ns w a N H) (n : H p = none) : p ≠ w ∧ p ≠ a := by
  obtain ⟨h1, h2, h3, t, r, h4, h5⟩ := h
  exact ⟨(ne_of_none h5 n).symm, (ne_of_none h2 n).symm⟩
def spWell (K : PySem.W.Frag) : Sp := fun vs H Q _ => ∃ (s : Addr) (ns : List Int), vs = [.ref s] ∧ SqL K H s (ns.map V.int) ∧ ns.length ≤ 63 ∧
  ∀ (w a : Addr) (H' : Hp), Same H H' → H w = none → Wl ns w a 0 H' → Q (.ref w) H'
/-- an item of a list, or a sign of a text -/
def spPick : Sp := fun vs H Q _ => ∃ (w a : Addr) (ns : List Int) (N : Nat), Wl ns w a N H ∧ N ≤ 1000000 ∧
  ((∃ (l : Addr) (xs : List V), vs = [.ref w, .ref l] ∧ l ≠ w ∧ H l = some (.lst xs) ∧ 0 < xs.length ∧ xs.length ≤ 1000 ∧
      ∀ (v : V) (H' : Hp), v ∈ xs → Kp w H H' → Wl ns w a (N + 1) H' → Q v H') ∨
   ∃ z : Str, vs = [.ref w, .str z] ∧ 0 < z.length ∧ z.length ≤ 1000 ∧ ∀ (c : Nat) (H' : Hp), c ∈ z.cps.toList → Kp w H H' → Wl ns w a (N + 1) H' → Q (.str ⟨#[c]⟩) H')
def spAlpha : Sp := fun vs H Q _ => vs = [] ∧ ∀ z : Str, Asc z → 0 < z.length → z.length ≤ 200 → Q (.str z) H
/-- a text of one to thirteen letters and digits -/
def Stm (z : Str) : Prop := 0 < z.length ∧ z.length ≤ 13 ∧ ∀ c ∈ z.cps.toList, signB c = true
def spStemL : Sp := fun vs H Q _ => ∃ (w a : Addr) (ns : List Int) (N : Nat), vs = [.ref w] ∧ Wl ns w a N H ∧ N + 20 ≤ 1000000 ∧
  ∀ (z : Str) (H' : Hp), Stm z → Kp w H H' → Wl ns w a (N + 14) H' → Q (.str z) H'
theorem cut63 {xs : List V} (h : xs.length ≤ 63) : cutV xs none (some 63) = xs := by
  unfold cutV
  rw [HT.sIx_none, show HT.sIx xs.length xs.length (some 63) = min 63 xs.length from HT.sIx_nat _ _ 63, List.drop_zero, Nat.sub_zero]
  exact List.take_of_length_le (by omega)
theorem tl_str (s : String) : (Str.ofString s).cps.toList = s.toList.map Char.toNat := PyProof.Rows.signs_ofString s
theorem cat_cps (x y : Str) : (x ++ y).cps.toList = x.cps.toList ++ y.cps.toList := TL.tl_append x y
theorem cat_len (x y : Str) : (x ++ y).length = x.length + y.length := by rw [← len_cps, cat_cps, List.length_append, len_cps, len_cps]
theorem one_len (c : Nat) : (⟨#[c]⟩ : Str).length = 1 := rfl
section
variable {P : Program} {w : World} {K : PySem.W.Frag} {mg : Str → Option Value} {base : Heap}
theorem ok_well (T : Txt K mg) : Cal P w K mg base 1 "_law_well" (spWell K) := by
  obtain ⟨f, fd, F, b⟩ := T.d_law_well
  refine cal F b sc_law_well (fun vs H Q E h => ?_) (fun cdv A outer s H vs Q E hgd hr h => ?_)
  · obtain ⟨s, ns, rfl, _⟩ := h
    rfl
  · have nd := sc_law_well.nd
    obtain ⟨s, ns, rfl, hS, hl, q⟩ := h
    refine ⟨_, (pss_one (ps_ret (pe_lst (pa_cons (pe_lc (own := [("_law_cell", 1)]) (g := gName 1) rfl nd (pi_list (pe_slice sl_list (pv 0) po_none (po_some pe_int))) (blkOk_by (own := [("_law_cell", 1)]) (N := ["_law_script", "_law_cell"]) (sc := (C8.fnScope s_law_well)) (by decide +kernel)) (fun _ _ _ _ _ => pg_name (i := 1) nd rfl (Or.inl rfl)) (fun _ _ _ _ _ => pts_nil) (fun _ _ _ _ _ => (pe_callTy call_int1 (by rfl) T.z_int (by decide +kernel) (pa_cons (pv 1) pa_nil)))) (pa_cons pe_int (pa_cons pe_int pa_nil)))))), ?_⟩
    refine ⟨.ref s, rfl, 63, rfl, s, _, rfl, hS, fun p np => ?_⟩
    have l63 : (ns.map V.int).length ≤ 63 := by
      rw [List.length_map]
      exact hl
    rw [cut63 l63]
    have hp : (upd H p (.lst (ns.map V.int))) p = some (.lst (ns.map V.int)) := upd_same
    refine ⟨p, rfl, ⟨_, SqL.of hp⟩, fun D nD => lc_list (xs := ns.map V.int) (fun i H' => H' p = some (.lst (ns.map V.int)) ∧ H' D = some (.lst ((ns.take i).map V.int)) ∧ Same H H')
      ⟨?_, upd_same, (same_new np).trans (same_new nD)⟩ (fun i H' _ hP => SqL.of hP.1) (fun i x H1 hx hP => ?_) (fun H1 hP => ?_)⟩
    · rw [upd_ne (ne_of_none hp nD)]
      exact hp
    · obtain ⟨h1, h2, h3⟩ := hP
      rw [List.getElem?_map] at hx
      obtain ⟨n, hn, rfl⟩ := Option.map_eq_some_iff.mp hx
      refine ⟨rfl, lc_yes ⟨.int n, rfl, .inl ⟨n, rfl, _, h2, ?_, ?_, ?_, ?_⟩⟩⟩
      · rw [List.length_map, List.length_take]
        exact small1000 (by omega)
      · rw [upd_ne (ne_of_none hp nD)]
        exact h1
      · rw [upd_same]
        exact congrArg (fun l => some (HO.lst l)) (take_next (f := V.int) hn)
      · intro b o e
        have nb : b ≠ D := fun z => by
          have := (same_new np (o := .lst (ns.map V.int))) b o e
          rw [z, nD] at this
          cases this
        rw [upd_ne nb]
        exact h3 _ _ e
    · obtain ⟨h1, h2, h3⟩ := hP
      rw [List.length_map, List.take_length] at h2
      refine ⟨by show 3 ≤ sizeLine; decide, fun w0 nw => ?_⟩
      have s2 : Same H (upd H1 w0 (.lst [.ref D, .int 0, .int 0])) := h3.trans (same_new nw)
      refine q w0 D _ s2 (h3.free nw) ⟨(ne_of_none h2 nw), ?_, hl, 0, 0, Nat.le_refl _, upd_same⟩
      rw [upd_ne (ne_of_none h2 nw)]
      exact h2
theorem ok_pick (T : Txt K mg) (G__law_dip : Cal P w K mg base 1 "_law_dip" spDip) : Cal P w K mg base 2 "_law_pick" spPick := by
  obtain ⟨f, fd, F, b⟩ := T.d_law_pick
  refine cal F b sc_law_pick (fun vs H Q E h => ?_) (fun cdv A outer s H vs Q E hgd hr h => ?_)
  · obtain ⟨w, a, ns, N, _, _, ⟨l, xs, rfl, _⟩ | ⟨z, rfl, _⟩⟩ := h <;> rfl
  · have nd := sc_law_pick.nd
    obtain ⟨w, a, ns, N, hW, hN, ⟨l, xs, rfl, hlw, hl, h0, h1, q⟩ | ⟨z, rfl, h0, h1, q⟩⟩ := h
    · refine ⟨_, (pss_one (ps_ret (pe_ix ix_seq (pv 1) (pc G__law_dip hgd hr (by decide) (by rfl) (pa_cons (pv 0) (pa_cons (pe_callB call_len (by rfl) T.z_len PySem.boot_len (pa_cons (pv 1) pa_nil)) pa_nil))) (fun _ _ => rfl)))), ?_⟩
      refine ⟨.ref l, rfl, .ref w, rfl, .ref l, rfl, .ref l, xs.length, rfl, .inl ⟨xs, SqL.of hl, rfl⟩, w, a, ns, N, xs.length, rfl, hW, hN, by omega, by omega, fun v H' v0 v1 kp hW' => ?_⟩
      have hv : v.toNat < xs.length := by omega
      have e : v = ((v.toNat : Nat) : Int) := by omega
      refine .inl ⟨l, xs, v, xs[v.toNat], rfl, rfl, SqL.of (kp l _ hlw hl), at_of e (List.getElem?_eq_getElem hv), q _ _ (List.getElem_mem _) kp hW'⟩
    · refine ⟨_, (pss_one (ps_ret (pe_ix ix_seq (pv 1) (pc G__law_dip hgd hr (by decide) (by rfl) (pa_cons (pv 0) (pa_cons (pe_callB call_len (by rfl) T.z_len PySem.boot_len (pa_cons (pv 1) pa_nil)) pa_nil))) (fun _ _ => rfl)))), ?_⟩
      refine ⟨.str z, rfl, .ref w, rfl, .str z, rfl, .str z, z.length, rfl, ⟨sm1000 h1, rfl⟩, w, a, ns, N, z.length, rfl, hW, hN, by omega, by omega, fun v H' v0 v1 kp hW' => ?_⟩
      obtain ⟨j, rfl⟩ : ∃ j : Nat, v = j := ⟨v.toNat, by omega⟩
      have hv : j < z.cps.toList.length := by
        rw [len_cps]
        omega
      exact .inr (.inr ⟨z, j, z.cps.toList[j], rfl, rfl, sm1000 h1, atI_nat (List.getElem?_eq_getElem hv), q _ _ (List.getElem_mem _) kp hW'⟩)
theorem ok_alphabet (T : Txt K mg) : Cal P w K mg base 1 "_law_alphabet" spAlpha := by
  obtain ⟨f, fd, F, b⟩ := T.d_law_alphabet
  refine cal F b sc_law_alphabet (fun vs H Q E h => ?_) (fun cdv A outer s H vs Q E hgd hr h => ?_)
  · obtain ⟨rfl, _⟩ := h
    rfl
  · have nd := sc_law_alphabet.nd
    obtain ⟨rfl, q⟩ := h
    refine ⟨_, (pss_cons (ps_set (i := 0) nd rfl (.inl rfl) pe_str)
      (pss_one (ps_ret (pe_op op_add_str (pv 0) pe_str)))), ?_⟩
    refine ⟨_, rfl, _, _, rfl, rfl, by decide +kernel, q _ (by unfold Asc; decide +kernel) (by decide +kernel) (by decide +kernel)⟩
end
end K01

set_option Elab.async false
set_option linter.all false
set_option maxRecDepth 100000
set_option maxHeartbeats 1000000
namespace K01
open PySem PySem.Spec PyProof.Rows L2 Gd
theorem joinL_ones : ∀ cs : List Nat, TL.joinL [] (cs.map fun c => [c]) = cs
  | [] => rfl
  | [c] => rfl
  | c :: d :: r => by
    have ih := joinL_ones (d :: r)
    show [c] ++ ([] ++ TL.joinL [] ((d :: r).map fun c => [c])) = c :: d :: r
    rw [ih]
    rfl
theorem join_ones (cs : List Nat) : Txt.join (Str.ofString "") (cs.map fun c => (⟨#[c]⟩ : Str)) = SX.S cs := by
  have e := SX.join_S [] (cs.map fun c => [c])
  rw [joinL_ones, List.map_map] at e
  exact e
theorem ones_len (cs : List Nat) : ((cs.map fun c => (⟨#[c]⟩ : Str)).map (·.length)).sum = cs.length := by
  induction cs with
  | nil => rfl
  | cons c r ih =>
    rw [List.map_cons, List.map_cons, List.sum_cons, ih, List.length_cons, one_len]
    omega
section
variable {P : Program} {w : World} {K : PySem.W.Frag} {mg : Str → Option Value} {base : Heap}
theorem letter_sign {c : Nat} (h : c ∈ (Str.ofString "abcdefghijklmnopqrstuvwxyz").cps.toList) : signB c = true := by
  have e := in_letters c
  rw [decide_eq_true h] at e
  unfold signB
  rw [← e]
  rfl
theorem both_sign {c : Nat} (h : c ∈ (Str.ofString "abcdefghijklmnopqrstuvwxyz" ++ Str.ofString "0123456789").cps.toList) : signB c = true := by
  rw [cat_cps] at h
  rcases List.mem_append.mp h with h | h
  · exact letter_sign h
  · have e := in_digits c
    rw [decide_eq_true h] at e
    unfold signB
    rw [← e, Bool.or_true]
theorem ok_stem (T : Txt K mg) (G__law_pick : Cal P w K mg base 2 "_law_pick" spPick) : Cal P w K mg base 3 "_law_stem" spStemL := by
  obtain ⟨f, fd, F, b⟩ := T.d_law_stem
  refine cal F b sc_law_stem (fun vs H Q E h => ?_) (fun cdv A outer s H vs Q E hgd hr h => ?_)
  · obtain ⟨w, a, ns, N, rfl, _⟩ := h
    rfl
  · have nd := sc_law_stem.nd
    obtain ⟨w, a, ns, N, rfl, hW, hN, q⟩ := h
    refine ⟨_, (pss_cons (ps_set (i := 1) nd rfl (.inr rfl) pe_str)
      (pss_cons (ps_setLc (i := 2) (own := [("_law_at", 3)]) (g := gName 3) rfl nd rfl rfl (sw_true rfl rfl rfl (by decide +kernel)) (pi_range1 rfl T.z_range (pa_cons (pc G__law_pick hgd hr (by decide) (by rfl) (pa_cons (pv 0) (pa_cons (pe_lst (pa_cons pe_int (pa_cons pe_int (pa_cons pe_int (pa_cons pe_int (pa_cons pe_int (pa_cons pe_int (pa_cons pe_int pa_nil)))))))) pa_nil))) pa_nil)) (blkOk_by (own := [("_law_at", 3)]) (N := ["_law_well_here", "_law_letters", "_law_more", "_law_at"]) (sc := (C8.fnScope s_law_stem)) (by decide +kernel)) (fun _ _ _ _ _ => pg_name (i := 3) nd rfl (Or.inl rfl)) (fun _ _ _ _ _ => pts_nil) (fun _ _ _ _ _ => (pc G__law_pick hgd hr (by decide) (by rfl) (pa_cons (pv 0) (pa_cons (pe_op op_add_str (pv 1) pe_str) pa_nil)))))
      (pss_one (ps_ret (pe_op op_add_str (pc G__law_pick hgd hr (by decide) (by rfl) (pa_cons (pv 0) (pa_cons (pv 1) pa_nil))) (pe_join pe_str (pv 2))))))), ?_⟩
    refine ⟨.ref w, rfl, by show 7 ≤ sizeLine; decide, fun l nl => ⟨w, a, ns, N, hW.same (same_new nl), by omega, .inl ⟨l, _, rfl, (hW.off nl).1, upd_same, by decide, by decide, fun v H1 hv kp1 hW1 => ?_⟩⟩⟩
    obtain ⟨j, rfl, hj⟩ : ∃ j : Nat, v = .int j ∧ j ≤ 12 := by
      simp only [List.mem_cons, List.not_mem_nil, or_false] at hv
      rcases hv with rfl | rfl | rfl | rfl | rfl | rfl | rfl
      · exact ⟨0, rfl, by omega⟩
      · exact ⟨1, rfl, by omega⟩
      · exact ⟨2, rfl, by omega⟩
      · exact ⟨4, rfl, by omega⟩
      · exact ⟨10, rfl, by omega⟩
      · exact ⟨11, rfl, by omega⟩
      · exact ⟨12, rfl, by omega⟩
    refine ⟨j, rfl, by omega, by omega, fun D nD => lc_range (lo := 0) (n := (j : Int).toNat)
      (fun i H' => Wl ns w a (N + 1 + i) H' ∧ Kp w (upd H l (.lst [.int 0, .int 1, .int 2, .int 4, .int 10, .int 11, .int 12])) H' ∧ ∃ cs : List Nat, cs.length = i ∧ (∀ c ∈ cs, signB c = true) ∧
        H' D = some (.lst (cs.map fun c => V.str ⟨#[c]⟩))) ⟨hW1.same (same_new nD), kp1.new nD, [], rfl, (fun _ h => nomatch h), upd_same⟩ (fun i H2 hi hP => ?_) (fun H2 hP => ?_)⟩
    · obtain ⟨hW2, kp2, cs, hcl, hcs, hD⟩ := hP
      have hDw := hW1.off nD
      refine ⟨rfl, lc_yes ⟨.ref w, rfl, .str _, rfl, _, _, rfl, rfl, by decide +kernel, w, a, ns, N + 1 + i, hW2, by omega, .inr ⟨_, rfl, by decide +kernel, by decide +kernel, fun c H3 hc kp3 hW3 => ?_⟩⟩⟩
      refine ⟨_, kp3 _ _ hDw.1 hD, ?_, hW3.grow hDw.1 hDw.2, (kp2.trans kp3).grow ?_, cs ++ [c], ?_, fun x hx => ?_, ?_⟩
      · rw [List.length_map]
        exact small1000 (by omega)
      · cases e : (upd H l (.lst [.int 0, .int 1, .int 2, .int 4, .int 10, .int 11, .int 12])) D with
        | none => rfl
        | some o =>
          have := kp1 _ _ hDw.1 e
          rw [nD] at this
          cases this
      · rw [List.length_append, hcl]
        rfl
      · rcases List.mem_append.mp hx with h | h
        · exact hcs x h
        · rw [List.mem_singleton.mp h]
          exact both_sign hc
      · rw [upd_same, List.map_append]
        rfl
    · obtain ⟨hW2, kp2, cs, hcl, hcs, hD⟩ := hP
      have hDw := hW1.off nD
      have hj2 : cs.length ≤ 12 := by omega
      refine ⟨.ref w, rfl, .str _, rfl, w, a, ns, N + 1 + j, hW2.mono (by omega), by omega, .inr ⟨_, rfl, by decide +kernel, by decide +kernel, fun c H3 hc kp3 hW3 => ?_⟩⟩
      refine ⟨⟨_, rfl⟩, .ref D, rfl, "", D, cs.map fun c => (⟨#[c]⟩ : Str), rfl, rfl, .inl (SqL.of (by rw [kp3 _ _ hDw.1 hD, List.map_map]; rfl)), ?_, ?_⟩
      · rw [ones_len]
        show cs.length + _ * 0 ≤ 16777216
        omega
      · rw [join_ones]
        refine ⟨_, _, rfl, rfl, ?_, q _ _ ⟨?_, ?_, fun x hx => ?_⟩ ?_ (hW3.mono (by omega))⟩
        · rw [one_len, SX.S_len]
          exact sm1000 (by omega)
        · rw [cat_len, one_len]
          omega
        · rw [cat_len, one_len, SX.S_len]
          omega
        · rw [cat_cps] at hx
          rcases List.mem_append.mp hx with h | h
          · rw [List.mem_singleton.mp h]
            exact letter_sign hc
          · exact hcs x h
        · exact ((Kp.same (same_new nl)).trans kp2).trans kp3
end
end K01

set_option Elab.async false
set_option linter.all false
set_option maxRecDepth 100000
set_option maxHeartbeats 1000000
namespace K01
open PySem PySem.Spec PyProof.Rows L2 Gd
theorem joinL_len (S : List Nat) : ∀ ps : List (List Nat), (TL.joinL S ps).length ≤ (ps.map (·.length)).sum + ps.length * S.length
  | [] => Nat.zero_le _
  | [p] => by
    show p.length ≤ p.length + 0 + 1 * S.length
    omega
  | p :: q :: r => by
    have ih := joinL_len S (q :: r)
    show (p ++ (S ++ TL.joinL S (q :: r))).length ≤ p.length + ((q :: r).map (·.length)).sum + ((q :: r).length + 1) * S.length
    rw [List.length_append, List.length_append, Nat.succ_mul]
    omega
theorem join_cps (a : Str) (zs : List Str) : (Txt.join a zs).cps.toList = TL.joinL a.cps.toList (zs.map fun z => z.cps.toList) := by
  have e := TL.tl_join a zs
  rw [← TL.join_eq] at e
  exact e
theorem sum_le {α : Type} (f : α → Nat) (k : Nat) : ∀ l : List α, (∀ x ∈ l, f x ≤ k) → (l.map f).sum ≤ l.length * k
  | [], _ => Nat.zero_le _
  | x :: r, h => by
    have ih := sum_le f k r fun y hy => h y (List.mem_cons_of_mem _ hy)
    have h1 := h x List.mem_cons_self
    rw [List.map_cons, List.sum_cons, List.length_cons, Nat.succ_mul]
    omega
/-- texts of some stems with dots between -/
theorem join_len {zs : List Str} {k : Nat} (h : ∀ z ∈ zs, z.length ≤ k) : (Txt.join (Str.ofString ".") zs).length ≤ zs.length * k + zs.length := by
  rw [← len_cps, join_cps]
  refine Nat.le_trans (joinL_len _ _) ?_
  rw [List.map_map, List.length_map]
  have e : zs.map ((fun x => x.length) ∘ fun z : Str => z.cps.toList) = zs.map (·.length) := List.map_congr_left fun z _ => len_cps z
  rw [e, show (Str.ofString ".").cps.toList.length = 1 from rfl, Nat.mul_one]
  have := sum_le (fun z : Str => z.length) k zs h
  omega
theorem sign_lt {c : Nat} (h : signB c = true) : c < 128 := by
  unfold signB lowB digB at h
  rcases Bool.or_eq_true_iff.mp h with h | h
  · have := of_decide_eq_true h
    omega
  · have := of_decide_eq_true h
    omega
def spText : Sp := fun vs H Q _ => ∃ (w a : Addr) (ns : List Int) (N : Nat), vs = [.ref w] ∧ Wl ns w a N H ∧ N + 200 ≤ 1000000 ∧
  ∀ (z : Str) (H' : Hp), Asc z → z.length ≤ 200 → Kp w H H' → Wl ns w a (N + 110) H' → Q (.str z) H'
section
variable {P : Program} {w : World} {K : PySem.W.Frag} {mg : Str → Option Value} {base : Heap}
theorem ok_text (T : Txt K mg) (G__law_dip : Cal P w K mg base 1 "_law_dip" spDip) (G__law_pick : Cal P w K mg base 2 "_law_pick" spPick) (G__law_alphabet : Cal P w K mg base 1 "_law_alphabet" spAlpha)
    (G__law_stem : Cal P w K mg base 3 "_law_stem" spStemL) : Cal P w K mg base 4 "_law_text" spText := by
  obtain ⟨f, fd, F, b⟩ := T.d_law_text
  refine cal F b sc_law_text (fun vs H Q E h => ?_) (fun cdv A outer s H vs Q E hgd hr h => ?_)
  · obtain ⟨w, a, ns, N, rfl, _⟩ := h
    rfl
  · have nd := sc_law_text.nd
    obtain ⟨w, a, ns, N, rfl, hW, hN, q⟩ := h
    refine ⟨_, (pss_cons (ps_setLc (i := 1) (own := [("_law_turn", 2)]) (g := gName 2) rfl nd rfl rfl (sw_true rfl rfl rfl (by decide +kernel)) (pi_range1 rfl T.z_range (pa_cons (pc G__law_pick hgd hr (by decide) (by rfl) (pa_cons (pv 0) (pa_cons (pe_lst (pa_cons pe_int (pa_cons pe_int (pa_cons pe_int (pa_cons pe_int (pa_cons pe_int (pa_cons pe_int (pa_cons pe_int (pa_cons pe_int pa_nil))))))))) pa_nil))) pa_nil)) (blkOk_by (own := [("_law_turn", 2)]) (N := ["_law_well_here", "_law_stems_here", "_law_turn", "_law_text_here", "_law_way", "_law_place", "_law_sign"]) (sc := (C8.fnScope s_law_text)) (by decide +kernel)) (fun _ _ _ _ _ => pg_name (i := 2) nd rfl (Or.inl rfl)) (fun _ _ _ _ _ => pts_nil) (fun _ _ _ _ _ => (pc G__law_stem hgd hr (by decide) (by rfl) (pa_cons (pv 0) pa_nil))))
      (pss_cons (ps_par (i := 3) (j := 4) rfl nd rfl rfl (by decide) rfl rfl (pa_cons (pe_join pe_str (pv 1)) (pa_cons (pc G__law_dip hgd hr (by decide) (by rfl) (pa_cons (pv 0) (pa_cons pe_int pa_nil))) pa_nil)) rfl)
      (pss_cons (ps_par (i := 5) (j := 6) rfl nd rfl rfl (by decide) rfl rfl (pa_cons (pc G__law_dip hgd hr (by decide) (by rfl) (pa_cons (pv 0) (pa_cons (pe_op op_add (pe_callB call_len (by rfl) T.z_len PySem.boot_len (pa_cons (pv 3) pa_nil)) pe_int) pa_nil))) (pa_cons (pc G__law_pick hgd hr (by decide) (by rfl) (pa_cons (pv 0) (pa_cons (pc0 G__law_alphabet hgd hr (by decide) (by rfl)) pa_nil))) pa_nil)) rfl)
      (pss_cons (ps_if (pt_cmpR op_eq (pv 4) pe_int (nomark _)) (pss_one (ps_ret (pe_op op_add_str (pe_op op_add_str (pe_slice sl_str (pv 3) po_none (po_some (pv 5))) (pv 6)) (pe_slice sl_str (pv 3) (po_some (pv 5)) po_none)))) pss_nil)
      (pss_cons (ps_if (pt_cmpR op_eq (pv 4) pe_int (nomark _)) (pss_one (ps_ret (pe_op op_add_str (pe_op op_add_str (pe_slice sl_str (pv 3) po_none (po_some (pv 5))) (pv 6)) (pe_slice sl_str (pv 3) (po_some (pe_op op_add (pv 5) pe_int)) po_none)))) pss_nil)
      (pss_cons (ps_if (pt_cmpR op_eq (pv 4) pe_int (nomark _)) (pss_one (ps_ret (pe_op op_add_str (pe_slice sl_str (pv 3) po_none (po_some (pv 5))) (pe_slice sl_str (pv 3) (po_some (pe_op op_add (pv 5) pe_int)) po_none)))) pss_nil)
      (pss_one (ps_ret (pv 3))))))))), ?_⟩
    refine ⟨.ref w, rfl, by show 8 ≤ sizeLine; decide, fun l nl => ⟨w, a, ns, N, hW.same (same_new nl), by omega, .inl ⟨l, _, rfl, (hW.off nl).1, upd_same, by decide, by decide, fun v H1 hv kp1 hW1 => ?_⟩⟩⟩
    obtain ⟨j, rfl, hj⟩ : ∃ j : Nat, v = .int j ∧ j ≤ 7 := by
      simp only [List.mem_cons, List.not_mem_nil, or_false] at hv
      rcases hv with rfl | rfl | rfl | rfl | rfl | rfl | rfl | rfl
      · exact ⟨1, rfl, by omega⟩
      · exact ⟨1, rfl, by omega⟩
      · exact ⟨1, rfl, by omega⟩
      · exact ⟨2, rfl, by omega⟩
      · exact ⟨3, rfl, by omega⟩
      · exact ⟨5, rfl, by omega⟩
      · exact ⟨6, rfl, by omega⟩
      · exact ⟨7, rfl, by omega⟩
    have kpA : Kp w H H1 := (Kp.same (same_new nl)).trans kp1
    refine ⟨j, rfl, by omega, by omega, fun D nD => lc_range (lo := 0) (n := (j : Int).toNat)
      (fun i H' => Wl ns w a (N + 1 + 14 * i) H' ∧ Kp w H H' ∧ ∃ zs : List Str, zs.length = i ∧ (∀ z ∈ zs, Stm z) ∧
        H' D = some (.lst (zs.map V.str))) ⟨hW1.same (same_new nD), kpA.new nD, [], rfl, (fun _ h => nomatch h), upd_same⟩ (fun i H2 hi hP => ?_) (fun H2 hP => ?_)⟩
    · obtain ⟨hW2, kp2, zs, hzl, hzs, hD⟩ := hP
      have hDw := hW1.off nD
      refine ⟨rfl, lc_yes ⟨.ref w, rfl, w, a, ns, _, rfl, hW2, by omega, fun z H3 hz kp3 hW3 => ?_⟩⟩
      refine ⟨_, kp3 _ _ hDw.1 hD, ?_, (hW3.grow hDw.1 hDw.2).mono (by omega), (kp2.trans kp3).grow ?_, zs ++ [z], ?_, fun x hx => ?_, ?_⟩
      · rw [List.length_map]
        exact small1000 (by omega)
      · cases e : H D with
        | none => rfl
        | some o =>
          have := kpA _ _ hDw.1 e
          rw [nD] at this
          cases this
      · rw [List.length_append, hzl]
        rfl
      · rcases List.mem_append.mp hx with h | h
        · exact hzs x h
        · rw [List.mem_singleton.mp h]
          exact hz
      · rw [upd_same, List.map_append]
        rfl
    · obtain ⟨hW2, kp2, zs, hzl, hzs, hD⟩ := hP
      have hDw := hW1.off nD
      have hj2 : zs.length ≤ 7 := by omega
      have hT : (Txt.join (Str.ofString ".") zs).length ≤ 98 := by
        have := join_len (zs := zs) (k := 13) fun z hz => (hzs z hz).2.1
        omega
      have hsum : (zs.map (·.length)).sum + zs.length * (Str.ofString ".").length ≤ 16777216 := by
        have := sum_le (fun z : Str => z.length) 13 zs fun z hz => (hzs z hz).2.1
        rw [show (Str.ofString ".").length = 1 from rfl]
        omega
      refine ⟨⟨_, rfl⟩, .ref D, rfl, ".", D, zs, rfl, rfl, .inl (SqL.of hD), hsum, ?_⟩
      have aT : Asc (Txt.join (Str.ofString ".") zs) := asc_join (by unfold Asc; decide +kernel) fun z hz c hc => sign_lt ((hzs z hz).2.2 c hc)
      generalize Txt.join (Str.ofString ".") zs = X at hT aT
      refine ⟨.ref w, rfl, w, a, ns, _, 6, rfl, hW2, by omega, by decide, by decide, fun way H3 _ _ kp3 hW3 => ⟨.str X, .int way, rfl, ?_⟩⟩
      refine ⟨.ref w, rfl, .str X, rfl, .str X, X.length, rfl, ⟨sm1000 (by omega), rfl⟩, _, _, rfl, rfl, w, a, ns, _, _, rfl, hW3, by omega, by omega, by omega, fun place H4 _ _ kp4 hW4 => ?_⟩
      refine ⟨.ref w, rfl, rfl, fun al alA al0 al1 => ⟨w, a, ns, _, hW4, by omega, .inr ⟨al, rfl, al0, by omega, fun c H5 hc kp5 hW5 => ⟨.int place, .str ⟨#[c]⟩, rfl, ?_⟩⟩⟩⟩
      have aC : Asc ⟨#[c]⟩ := asc_one (alA c hc)
      have fin : ∀ z : Str, Asc z → z.length ≤ 200 → Q (.str z) H5 := fun z ha hz => q z H5 ha hz (((kp2.trans kp3).trans kp4).trans kp5) (hW5.mono (by omega))
      have cl : ∀ lo hi, (cutS X lo hi).length ≤ 98 := fun lo hi => Nat.le_trans (cutS_length X lo hi) hT
      have sX : X.length ≤ sizeLine := sm1000 (by omega)
      refine ⟨.int way, rfl, rfl, _, rfl, ite2 (fun _ => ?_) (fun _ => ?_)⟩
      · refine ⟨.str X, rfl, .int place, rfl, place, rfl, X, rfl, sX, .str ⟨#[c]⟩, rfl, _, _, rfl, rfl, ?_, .str X, rfl, .int place, rfl, place, rfl, X, rfl, sX, _, _, rfl, rfl, ?_, fin _ (asc_cat (asc_cat (asc_cut aT _ _) aC) (asc_cut aT _ _)) ?_⟩
        · rw [one_len]
          exact sm1000 (by have := cl none (some place); omega)
        · rw [cat_len, one_len]
          exact sm1000 (by have := cl none (some place); have := cl (some place) none; omega)
        · rw [cat_len, cat_len, one_len]
          have := cl none (some place); have := cl (some place) none; omega
      refine ⟨.int way, rfl, rfl, _, rfl, ite2 (fun _ => ?_) (fun _ => ?_)⟩
      · refine ⟨.str X, rfl, .int place, rfl, place, rfl, X, rfl, sX, .str ⟨#[c]⟩, rfl, _, _, rfl, rfl, ?_, .str X, rfl, .int place, rfl, _, _, rfl, rfl, _, rfl, X, rfl, sX, _, _, rfl, rfl, ?_, fin _ (asc_cat (asc_cat (asc_cut aT _ _) aC) (asc_cut aT _ _)) ?_⟩
        · rw [one_len]
          exact sm1000 (by have := cl none (some place); omega)
        · rw [cat_len, one_len]
          exact sm1000 (by have := cl none (some place); have := cl (some (place + 1)) none; omega)
        · rw [cat_len, cat_len, one_len]
          have := cl none (some place); have := cl (some (place + 1)) none; omega
      refine ⟨.int way, rfl, rfl, _, rfl, ite2 (fun _ => ?_) (fun _ => ?_)⟩
      · refine ⟨.str X, rfl, .int place, rfl, place, rfl, X, rfl, sX, .str X, rfl, .int place, rfl, _, _, rfl, rfl, _, rfl, X, rfl, sX, _, _, rfl, rfl, ?_, fin _ (asc_cat (asc_cut aT _ _) (asc_cut aT _ _)) ?_⟩
        · exact sm1000 (by have := cl none (some place); have := cl (some (place + 1)) none; omega)
        · rw [cat_len]
          have := cl none (some place); have := cl (some (place + 1)) none; omega
      · exact ⟨.str X, rfl, fin X aT (by omega)⟩
end
end K01

set_option Elab.async false
set_option linter.all false
set_option maxRecDepth 100000
set_option maxHeartbeats 1000000
namespace K01
open PySem PySem.Spec PyProof.Rows L2 Gd
def spSound : Sp := fun vs H Q _ => ∃ z : Str, vs = [.str z] ∧ z.length ≤ 1000 ∧ ∀ H', Same H H' → Q (.bl (stemB z.cps.toList)) H'
def spStems : Sp := fun vs H Q _ => ∃ z : Str, vs = [.str z] ∧ z.length ≤ 1000 ∧
  ∀ (p : Addr) (H' : Hp), Same H H' → H p = none → H' p = some (.lst ((dotp [] z.cps.toList).map fun c => V.str (SX.S c))) → Q (.ref p) H'
/-- the law's own test of the sign at a place -/
def okAt (i c : Nat) : Bool := lowB c || (decide (0 < i) && digB c)
theorem ok_all {l : List Nat} (h1 : 1 ≤ l.length) (h12 : l.length ≤ 12) (h : ∀ j c, l[j]? = some c → okAt j c = true) : stemB l = true := by
  unfold stemB
  rw [decide_eq_true h1, decide_eq_true h12]
  cases l with
  | nil => exact absurd h1 (by decide)
  | cons c r =>
    have h0 : lowB c = true := by
      have := h 0 c rfl
      unfold okAt at this
      simpa using this
    show (true && true && lowB c && (c :: r).all signB) = true
    rw [h0, Bool.true_and, Bool.true_and, Bool.true_and, List.all_eq_true]
    intro x hx
    obtain ⟨j, hj⟩ := List.getElem?_of_mem hx
    have := h j x hj
    unfold okAt at this
    unfold signB
    cases e : lowB x
    · rw [e, Bool.false_or, Bool.and_eq_true] at this
      rw [this.2]
      rfl
    · rfl
theorem ok_not {l : List Nat} {i c : Nat} (h : l[i]? = some c) (e : okAt i c = false) : stemB l = false := by
  unfold okAt at e
  rw [Bool.or_eq_false_iff, Bool.and_eq_false_iff] at e
  unfold stemB
  cases i with
  | zero =>
    have : l.head?.any lowB = false := by
      rw [List.head?_eq_getElem?, h]
      exact e.1
    rw [this, Bool.and_false, Bool.false_and]
  | succ i =>
    have d : digB c = false := by
      rcases e.2 with z | z
      · exact absurd (of_decide_eq_false z) (by omega)
      · exact z
    have : l.all signB = false := by
      rw [List.all_eq_false]
      refine ⟨c, List.mem_of_getElem? h, ?_⟩
      unfold signB
      rw [e.1, d]
      exact Bool.false_ne_true
    rw [this, Bool.and_false]
theorem low_chain (c : Nat) : lowB c = ((!decide (c < 97)) && !decide (122 < c)) := by
  unfold lowB
  by_cases h1 : c < 97 <;> by_cases h2 : 122 < c <;> simp [h1, h2] <;> omega
theorem dig_chain (c : Nat) : digB c = ((!decide (c < 48)) && !decide (57 < c)) := by
  unfold digB
  by_cases h1 : c < 48 <;> by_cases h2 : 57 < c <;> simp [h1, h2] <;> omega
theorem str_dot (c : Nat) : decide ((V.str ⟨#[c]⟩) = V.str (Str.ofString ".")) = decide (c = 46) := by
  refine decide_eq_decide.mpr ⟨fun h => ?_, fun h => by subst h; rfl⟩
  injection h with h
  have e : (⟨#[c]⟩ : Str).cps.toList = (Str.ofString ".").cps.toList := by rw [h]
  have e2 : [c] = [46] := e
  simpa using e2
theorem drop_cons {α : Type} {l : List α} {i : Nat} {c : α} (h : l[i]? = some c) : l.drop i = c :: l.drop (i + 1) := by
  obtain ⟨hi, e⟩ := List.getElem?_eq_some_iff.mp h
  rw [List.drop_eq_getElem_cons hi, e]
section
variable {P : Program} {w : World} {K : PySem.W.Frag} {mg : Str → Option Value} {base : Heap}
theorem ok_sound (T : Txt K mg) : Cal P w K mg base 1 "_law_sound" spSound := by
  obtain ⟨f, fd, F, b⟩ := T.d_law_sound
  refine cal F b sc_law_sound (fun vs H Q E h => ?_) (fun cdv A outer s H vs Q E hgd hr h => ?_)
  · obtain ⟨z, rfl, _⟩ := h
    rfl
  · have nd := sc_law_sound.nd
    obtain ⟨z, rfl, hz, q⟩ := h
    refine ⟨_, (pss_cons (ps_if (PW.pt (pw_or (pt_cmpR op_eq (pe_callB call_len (by rfl) T.z_len PySem.boot_len (pa_cons (pv 0) pa_nil)) pe_int (nomark _)) (pw_or1 (pt_cmpR op_gt (pe_callB call_len (by rfl) T.z_len PySem.boot_len (pa_cons (pv 0) pa_nil)) pe_int (nomark _))))) (pss_one (ps_ret pe_bl)) pss_nil)
      (pss_cons (ps_for PassesOwn.never rfl (pi_enumS (by rfl) T.z_enumerate (pa_cons (pv 0) pa_nil)) (pg_tup rfl (pgs_cons (pg_name (i := 1) nd rfl (Or.inl rfl)) (pgs_cons (pg_name (i := 2) nd rfl (Or.inl rfl)) pgs_nil))) (pss_cons (ps_if (PW.pt (pw_or (pt_chain op_le_str op_le_str pe_str (pv 2) pe_str) (pw_or1 (PW.pt (pw_and (pt_cmpR op_gt (pv 1) pe_int (nomark _)) (pw_and1 (pt_chain op_le_str op_le_str pe_str (pv 2) pe_str))))))) (pss_one ps_continue) pss_nil)
      (pss_one (ps_ret pe_bl))))
      (pss_one (ps_ret pe_bl)))), ?_⟩
    have lz := len_cps z
    refine ⟨.str z, rfl, .str z, z.length, rfl, ⟨sm1000 hz, rfl⟩, rfl, _, rfl, ite2 (fun e => ?_) (fun e => ?_)⟩
    · have h0 : z.length = 0 := by
        have := V.int.inj (of_decide_eq_true e)
        omega
      refine iteT ?_
      have hs : stemB z.cps.toList = false := by
        unfold stemB
        rw [lz, h0]
        rfl
      rw [← hs]
      exact q _ (Same.refl _)
    · have h1 : 1 ≤ z.length := by
        cases e0 : z.length with
        | zero =>
          rw [e0] at e
          exact absurd rfl e
        | succ n => omega
      refine ⟨.str z, rfl, .str z, z.length, rfl, ⟨sm1000 hz, rfl⟩, _, _, rfl, rfl, _, rfl, ite2 (fun e2 => ?_) (fun e2 => ?_)⟩
      · have h2 : ¬ z.length ≤ 12 := by
          have := of_decide_eq_true e2
          omega
        have hs : stemB z.cps.toList = false := by
          unfold stemB
          rw [lz, decide_eq_false h2, Bool.and_false]
          rfl
        rw [← hs]
        exact q _ (Same.refl _)
      · have h2 : z.length ≤ 12 := by
          have := of_decide_eq_false (Bool.eq_false_iff.mpr e2)
          omega
        refine ⟨.str z, rfl, z, rfl, for_it (walk_enumS (x := z)) (fun i σ' H' => ∃ y1 y2, σ' = [some (.str z), y1, y2] ∧ Same H H' ∧ ∀ j c, j < i → z.cps.toList[j]? = some c → okAt j c = true)
          ⟨_, _, rfl, Same.refl _, fun j _ h => absurd h (Nat.not_lt_zero j)⟩ (fun _ _ _ _ _ => trivial) (fun i x σ' H1 H2 hi hP hY => ?_) (fun σ' H1 hP => ?_)⟩
        · obtain ⟨y1, y2, rfl, sm, ok⟩ := hP
          obtain ⟨T0, x1, x2, rfl, nT, rfl, e1, e3⟩ := hY
          obtain rfl : V.int (i : Nat) = x1 := Option.some.inj e1
          obtain ⟨c, hc, rfl⟩ := Option.map_eq_some_iff.mp (show z.cps[i]?.map (fun c => V.str ⟨#[c]⟩) = some x2 from e3)
          have hc' : z.cps.toList[i]? = some c := by
            rw [Array.getElem?_toList]
            exact hc
          have s2 : Same H (upd H1 T0 (.tup [.int (i : Nat), .str ⟨#[c]⟩])) := sm.trans (same_new nT)
          have good : okAt i c = true → ∃ y1 y2, [some (V.str z), some (V.int (i : Nat)), some (V.str ⟨#[c]⟩)] = [some (V.str z), y1, y2] ∧ Same H (upd H1 T0 (.tup [.int (i : Nat), .str ⟨#[c]⟩])) ∧
              ∀ j d, j < i + 1 → z.cps.toList[j]? = some d → okAt j d = true := by
            refine fun g => ⟨_, _, rfl, s2, fun j d hj hd => ?_⟩
            by_cases hji : j = i
            · rw [hji, hc'] at hd
              rw [hji, ← Option.some.inj hd]
              exact g
            · exact ok j d (by omega) hd
          have bad : okAt i c = false → Q (.bl false) (upd H1 T0 (.tup [.int (i : Nat), .str ⟨#[c]⟩])) := fun g => by
            rw [← ok_not hc' g]
            exact q _ s2
          refine ⟨T0, _, rfl, SqT.of upd_same, rfl, _, _, rfl, _, _, rfl, rfl, ?_⟩
          have la : decide ((⟨#[c]⟩ : Str).cps.toList < (Str.ofString "a").cps.toList) = decide (c < 97) := lt_one c 97
          have lzz : decide ((Str.ofString "z").cps.toList < (⟨#[c]⟩ : Str).cps.toList) = decide (122 < c) := lt_one 122 c
          have l0 : decide ((⟨#[c]⟩ : Str).cps.toList < (Str.ofString "0").cps.toList) = decide (c < 48) := lt_one c 48
          have l9 : decide ((Str.ofString "9").cps.toList < (⟨#[c]⟩ : Str).cps.toList) = decide (57 < c) := lt_one 57 c
          -- behind the letters: digits, but at the first place
          have digits : lowB c = false → (tAnd (tTest (tOp (rI0 fun i j => V.bl (decide (j < i))) (tVar 1) (tC (.int 0))))
              (tTest (tChain (fun x y H Q => ∃ i j, x = V.str i ∧ y = V.str j ∧ Q (V.bl (!decide (j.cps.toList < i.cps.toList))) H) (fun x y H Q => ∃ i j, x = V.str i ∧ y = V.str j ∧ Q (V.bl (!decide (j.cps.toList < i.cps.toList))) H)
                (tC (.str "0")) (tVar 2) (tC (.str "9")))))
              [some (.str z), some (.int (i : Nat)), some (.str ⟨#[c]⟩)] (upd H1 T0 (.tup [.int (i : Nat), .str ⟨#[c]⟩]))
              (fun b H' => if b = true then (∃ y1 y2, [some (V.str z), some (V.int (i : Nat)), some (V.str ⟨#[c]⟩)] = [some (V.str z), y1, y2] ∧ Same H H' ∧ ∀ j c, j < i + 1 → z.cps.toList[j]? = some c → okAt j c = true) else Q (.bl false) H') := by
            intro nl
            have dg : okAt i c = (decide (0 < i) && digB c) := by
              unfold okAt
              rw [nl, Bool.false_or]
            rw [dig_chain] at dg
            refine ⟨_, rfl, _, _, rfl, rfl, _, rfl, ite2 (fun e5 => ?_) (fun e5 => ?_)⟩
            · have i0 : decide (0 < i) = true := decide_eq_true (by have := of_decide_eq_true e5; omega)
              rw [i0, Bool.true_and] at dg
              refine ⟨_, rfl, _, _, rfl, rfl, _, rfl, ?_⟩
              rw [l0]
              refine ite2 (fun e6 => ⟨_, _, rfl, rfl, _, rfl, ?_⟩) (fun e6 => ⟨_, rfl, iteF ?_⟩)
              · rw [e6, Bool.true_and] at dg
                rw [l9, ← dg]
                exact ite2 (fun e7 => good e7) (fun e7 => bad (Bool.eq_false_iff.mpr e7))
              · rw [Bool.eq_false_iff.mpr e6, Bool.false_and] at dg
                exact bad dg
            · have i0 : decide (0 < i) = false := decide_eq_false (by have := of_decide_eq_false (Bool.eq_false_iff.mpr e5); omega)
              rw [i0, Bool.false_and] at dg
              exact iteF (bad dg)
          refine ⟨.str ⟨#[c]⟩, rfl, _, _, rfl, rfl, _, rfl, ?_⟩
          rw [la]
          have dl := low_chain c
          refine ite2 (fun e4 => ⟨_, _, rfl, rfl, _, rfl, ?_⟩) (fun e4 => ⟨_, rfl, ?_⟩)
          · rw [e4, Bool.true_and] at dl
            rw [lzz, ← dl]
            cases el : lowB c
            · exact iteF (digits el)
            · refine iteT (iteT (good ?_))
              unfold okAt
              rw [el]
              rfl
          · rw [Bool.eq_false_iff.mpr e4, Bool.false_and] at dl
            exact iteF (digits dl)
        · obtain ⟨y1, y2, rfl, sm, ok⟩ := hP
          have hs := ok_all (l := z.cps.toList) (by omega) (by omega) fun j c hj => ok j c (by
            have := (List.getElem?_eq_some_iff.mp hj).1
            have e := size_cps z
            omega) hj
          rw [← hs]
          exact q _ sm
end
end K01

set_option Elab.async false
set_option linter.all false
set_option maxRecDepth 100000
set_option maxHeartbeats 1000000
namespace K01
open PySem PySem.Spec PyProof.Rows L2 Gd
/-- a part of the law: true, whatever is drawn -/
def spRight : Sp := fun vs H Q _ => ∃ (w a : Addr) (ns : List Int) (N : Nat), vs = [.ref w] ∧ Wl ns w a N H ∧ N + 1000 ≤ 1000000 ∧
  ∀ H' : Hp, Kp w H H' → Wl ns w a (N + 500) H' → Q (.bl true) H'
theorem filter_take {α : Type} {p : α → Bool} {l : List α} {i : Nat} {c : α} (h : l[i]? = some c) : (l.take (i + 1)).filter p = (l.take i).filter p ++ (if p c = true then [c] else []) := by
  rw [List.take_add_one, h, List.filter_append]
  cases e : p c <;> simp [e]
theorem filter_len {α : Type} (p : α → Bool) (l : List α) (i : Nat) : ((l.take i).filter p).length ≤ l.length :=
  Nat.le_trans (List.length_filter_le _ _) (by rw [List.length_take]; omega)
theorem filter_none {α : Type} (p : α → Bool) : ∀ l : List α, (l.filter fun x => !p x).isEmpty = l.all p
  | [] => rfl
  | x :: r => by
    rw [List.filter_cons, List.all_cons]
    cases e : p x
    · rfl
    · exact filter_none p r
theorem dotp_mem : ∀ (l acc p : List Nat) (c : Nat), p ∈ dotp acc l → c ∈ p → c ∈ acc ∨ c ∈ l
  | [], acc, p, c, h, hc => by
    rw [List.mem_singleton.mp h] at hc
    exact .inl hc
  | d :: r, acc, p, c, h, hc => by
    unfold dotp at h
    by_cases e : d = 46
    · rw [if_pos e] at h
      rcases List.mem_cons.mp h with rfl | h
      · exact .inl hc
      · rcases dotp_mem r [] p c h hc with z | z
        · exact nomatch z
        · exact .inr (List.mem_cons_of_mem _ z)
    · rw [if_neg e] at h
      rcases dotp_mem r _ p c h hc with z | z
      · rcases List.mem_append.mp z with z | z
        · exact .inl z
        · rw [List.mem_singleton.mp z]
          exact .inr List.mem_cons_self
      · exact .inr (List.mem_cons_of_mem _ z)
theorem dotp_cons (acc r : List Nat) (c : Nat) : dotp acc (c :: r) = if c = 46 then acc :: dotp [] r else dotp (acc ++ [c]) r := rfl
/-- four truths, shown -/
theorem shown4 : ∀ a b c d : Bool, (PyData.tuple [.bool a, .bool b, .bool c, .bool d]).shown.length ≤ 1000 := by decide +kernel
section
variable {P : Program} {w : World} {K : PySem.W.Frag} {mg : Str → Option Value} {base : Heap}
theorem ok_stems (T : Txt K mg) : Cal P w K mg base 1 "_law_stems" spStems := by
  obtain ⟨f, fd, F, b⟩ := T.d_law_stems
  refine cal F b sc_law_stems (fun vs H Q E h => ?_) (fun cdv A outer s H vs Q E hgd hr h => ?_)
  · obtain ⟨z, rfl, _⟩ := h
    rfl
  · have nd := sc_law_stems.nd
    obtain ⟨z, rfl, hz, q⟩ := h
    refine ⟨_, (pss_cons (ps_par (i := 1) (j := 2) rfl nd rfl rfl (by decide) rfl rfl (pa_cons (pe_lst pa_nil) (pa_cons pe_str pa_nil)) rfl)
      (pss_cons (ps_for PassesOwn.never rfl (pi_str (pv 0)) (pg_name (i := 3) nd rfl (Or.inl rfl)) (pss_one (ps_if (pt_cmpR op_eq (pv 3) pe_str (nomark _)) (pss_cons (ps_expr (pe_bm PySem.F.plainAttrs_list PySem.F.slot_list_append PySem.F.type_list_append mt_append (pv 1) (pa_cons (pv 2) pa_nil)))
      (pss_one (ps_set (i := 2) nd rfl (.inl rfl) pe_str))) (pss_one (ps_set (i := 2) nd rfl (.inl rfl) (pe_op op_add_str (pv 2) (pv 3)))))))
      (pss_one (ps_ret (pe_op op_cat (pv 1) (pe_lst (pa_cons (pv 2) pa_nil))))))), ?_⟩
    have lz := len_cps z
    refine ⟨Nat.zero_le _, fun p np => ⟨.ref p, .str "", rfl, ?_⟩⟩
    refine ⟨.str z, rfl, z, rfl, for_it (walk_str (z := z)) (fun i σ' H' => ∃ (done : List (List Nat)) (acc : List Nat) (y : Option V), σ' = [some (.str z), some (.ref p), some (.str (SX.S acc)), y] ∧
        H' p = some (.lst (done.map fun c => V.str (SX.S c))) ∧ Same H H' ∧ dotp [] z.cps.toList = done ++ dotp acc (z.cps.toList.drop i) ∧ done.length ≤ i ∧ acc.length ≤ i)
      ⟨[], [], none, rfl, upd_same, same_new np, rfl, Nat.le_refl _, Nat.le_refl _⟩ (fun _ _ _ _ _ => trivial) (fun i x σ' H1 H2 hi hP hY => ?_) (fun σ' H1 hP => ?_)⟩
    · obtain ⟨done, acc, y, rfl, hp, sm, hd, hl, ha⟩ := hP
      obtain ⟨rfl, c, hc, rfl⟩ := hY
      have hc' : z.cps.toList[i]? = some c := by
        rw [Array.getElem?_toList]
        exact hc
      have hi2 := size_cps z
      rw [drop_cons hc'] at hd
      refine ⟨.str ⟨#[c]⟩, rfl, rfl, _, rfl, ?_⟩
      rw [str_dot]
      rw [dotp_cons] at hd
      refine ite2 (fun e => ?_) (fun e => ?_)
      · rw [if_pos (of_decide_eq_true e)] at hd
        refine ⟨.ref p, rfl, .inl ⟨rfl, _, SqL.of hp⟩, .str (SX.S acc), rfl, p, _, _, rfl, rfl, hp, ?_, done ++ [acc], [], _, rfl, ?_, same_grow np sm, ?_, ?_, Nat.zero_le _⟩
        · rw [List.length_map]
          exact small1000 (by omega)
        · rw [upd_same, List.map_append]
          rfl
        · rw [hd, List.append_assoc]
          rfl
        · rw [List.length_append]
          show done.length + 1 ≤ i + 1
          omega
      · rw [if_neg (fun z => e (decide_eq_true z))] at hd
        refine ⟨_, rfl, _, rfl, _, _, rfl, rfl, ?_, done, acc ++ [c], some (.str ⟨#[c]⟩), ?_, hp, sm, hd, by omega, ?_⟩
        · rw [SX.S_len, one_len]
          exact sm1000 (by omega)
        · rw [← SX.S_cat]
          rfl
        · rw [List.length_append]
          show acc.length + 1 ≤ i + 1
          omega
    · obtain ⟨done, acc, y, rfl, hp, sm, hd, hl, ha⟩ := hP
      rw [List.drop_eq_nil_of_le (by rw [lz]; exact Nat.le_refl _)] at hd
      have hi2 := size_cps z
      refine ⟨.ref p, rfl, _, rfl, Nat.succ_le_of_lt (by decide), fun g ng => ?_⟩
      have hgp := ne_of_none hp ng
      refine ⟨p, g, _, _, rfl, rfl, (upd_ne hgp).trans hp, upd_same, ?_, fun r nr => q r _ ((sm.trans (same_new ng)).trans (same_new nr)) ?_ ?_⟩
      · rw [List.length_map]
        exact small1000 (by omega)
      · exact (sm.trans (same_new ng)).free nr
      · rw [upd_same, hd, List.map_append]
        rfl
end
end K01

set_option Elab.async false
set_option linter.all false
set_option maxRecDepth 100000
set_option maxHeartbeats 1000000
namespace K01
open PySem PySem.Spec PyProof.Rows L2 Gd
theorem kt_s : KT "str" := .inr (.inr (.inr (.inl rfl)))
/-- four truths in a tuple, shown -/
theorem dp4 {K : PySem.W.Frag} {H : Hp} {p : Addr} {a b c d : Bool} (h : H p = some (.tup [.bl a, .bl b, .bl c, .bl d])) : Dp K H (.ref p) (.tuple [.bool a, .bool b, .bool c, .bool d]) :=
  .tup (SqT.of h) (.cons (.bl a) (.cons (.bl b) (.cons (.bl c) (.cons (.bl d) .nil))))
theorem dep4 (a b c d : Bool) : (PyData.tuple [.bool a, .bool b, .bool c, .bool d]).depth ≤ 60 := by
  show (1 : Nat) ≤ 60
  decide
section
variable {P : Program} {w : World} {K : PySem.W.Frag} {mg : Str → Option Value} {base : Heap}
theorem ok_text_right (T : Txt K mg) (G__law_text : Cal P w K mg base 4 "_law_text" spText) (G__law_stems : Cal P w K mg base 1 "_law_stems" spStems) (G__law_sound : Cal P w K mg base 1 "_law_sound" spSound)
    (G_is_stem : Cal P w K mg base 1 "is_stem" (spStem K)) (G_is_name : Cal P w K mg base 2 "is_name" (spName K)) (G_is_integer : Cal P w K mg base 1 "is_integer" (spIsInt K)) (G_is_within : Cal P w K mg base 2 "is_within" (spWithin K)) :
    Cal P w K mg base 5 "_law_text_right" spRight := by
  obtain ⟨f, fd, F, b⟩ := T.d_law_text_right
  refine cal F b sc_law_text_right (fun vs H Q E h => ?_) (fun cdv A outer s H vs Q E hgd hr h => ?_)
  · obtain ⟨w, a, ns, N, rfl, _⟩ := h
    rfl
  · have nd := sc_law_text_right.nd
    obtain ⟨w, a, ns, N, rfl, hW, hN, q⟩ := h
    refine ⟨_, (pss_cons (ps_set (i := 1) nd rfl (.inl rfl) (pc G__law_text hgd hr (by decide) (by rfl) (pa_cons (pv 0) pa_nil)))
      (pss_cons (ps_set (i := 2) nd rfl (.inl rfl) (pc G__law_stems hgd hr (by decide) (by rfl) (pa_cons (pv 1) pa_nil)))
      (C8.pss_cut (ps_set (i := 3) nd rfl (.inl rfl) (pe_and (pe_cmpR op_le (pe_callB call_len (by rfl) T.z_len PySem.boot_len (pa_cons (pv 2) pa_nil)) pe_int (nomark _)) (pe_one (pe_cmpR (op_eqD hr.units) (pe_lc (own := [("_law_stem_here", 4)]) (g := gName 4) rfl nd (pi_list (pv 2)) (blkOk_by (own := [("_law_stem_here", 4)]) (N := ["_law_well_here", "_law_text_here", "_law_stems_here", "_law_due", "_law_stem_here", "_law_told"]) (sc := (C8.fnScope s_law_text_right)) (by decide +kernel)) (fun _ _ _ _ _ => pg_name (i := 4) nd rfl (Or.inl rfl)) (fun _ _ _ _ _ => pts_one (pt_not (pt_val (pc G__law_sound hgd hr (by decide) (by rfl) (pa_cons (pv 4) pa_nil))))) (fun _ _ _ _ _ => (pv 4))) (pe_lst pa_nil) (nomark _)))))
      (pss_cons (ps_set (i := 5) nd rfl (.inl rfl) (pe_tup (pa_cons (pc G_is_stem hgd hr (by decide) (by rfl) (pa_cons (pv 1) pa_nil)) (pa_cons (pc G_is_name hgd hr (by decide) (by rfl) (pa_cons (pv 1) pa_nil)) (pa_cons (pc G_is_integer hgd hr (by decide) (by rfl) (pa_cons (pv 1) pa_nil)) (pa_cons (pc G_is_within hgd hr (by decide) (by rfl) (pa_cons (pv 1) (pa_cons pe_non (pa_cons pe_non pa_nil)))) pa_nil))))))
      (pss_one (ps_ret (pe_cmpR op_eq (pe_callB (call_reprD hgd hr.units) (by rfl) T.z_repr (by decide +kernel) (pa_cons (pv 5) pa_nil)) (pe_callB (call_reprD hgd hr.units) (by rfl) T.z_repr (by decide +kernel) (pa_cons (pe_tup (pa_cons (pc G__law_sound hgd hr (by decide) (by rfl) (pa_cons (pv 1) pa_nil)) (pa_cons (pv 3) (pa_cons pe_bl (pa_cons pe_bl pa_nil))))) pa_nil)) (nomark _)))))))), ?_⟩
    refine ⟨.ref w, rfl, w, a, ns, N, rfl, hW, by omega, fun z H1 az hz kp1 hW1 => ?_⟩
    refine ⟨.str z, rfl, z, rfl, by omega, fun p H2 s2 np hp => ?_⟩
    have lz := len_cps z
    refine ⟨fun σ' H' => σ' = [some (.ref w), some (.str z), some (.ref p), some (.bl (nameB z.cps.toList)), none, none] ∧ Same H2 H', ?_, ?_⟩
    · refine ⟨.ref p, rfl, .ref p, _, rfl, .inl ⟨_, SqL.of hp, rfl⟩, _, _, rfl, rfl, _, rfl, ?_⟩
      rw [List.length_map]
      refine ite2 (fun e => ?_) (fun e => ?_)
      · have h6 : (dotp [] z.cps.toList).length ≤ 6 := by
          have := of_decide_eq_true e
          omega
        refine ⟨.ref p, rfl, p, rfl, ⟨_, SqL.of hp⟩, fun D nD => lc_it (walk_list (xs := (dotp [] z.cps.toList).map fun c => V.str (SX.S c)))
          (fun i H' => H' p = some (.lst ((dotp [] z.cps.toList).map fun c => V.str (SX.S c))) ∧ H' D = some (.lst ((((dotp [] z.cps.toList).take i).filter fun c => !stemB c).map fun c => V.str (SX.S c))) ∧ Same H2 H')
          ⟨?_, upd_same, same_new nD⟩ (fun i H' _ hP => SqL.of hP.1) (fun i x H3 H4 hi hP hY => ?_) (fun H3 hP => ?_)⟩
        · rw [upd_ne (ne_of_none hp nD)]
          exact hp
        · obtain ⟨h1, h2, h3⟩ := hP
          obtain ⟨rfl, hx⟩ := hY
          rw [List.getElem?_map] at hx
          obtain ⟨c, hc, rfl⟩ := Option.map_eq_some_iff.mp hx
          have hcl : c.length ≤ z.length := by
            have := dotp_len _ _ c (List.mem_of_getElem? hc)
            simp only [List.length_nil] at this
            omega
          have fl := filter_len (fun c => !stemB c) (dotp [] z.cps.toList) i
          refine ⟨rfl, .str (SX.S c), rfl, SX.S c, rfl, by rw [SX.S_len]; omega, fun H5 s5 => ⟨_, rfl, ite2 (fun e2 => ?_) (fun e2 => ?_)⟩⟩
          · refine ⟨.str (SX.S c), rfl, _, s5 _ _ h2, ?_, ?_, ?_, ?_⟩
            · rw [List.length_map]
              exact small1000 (by omega)
            · rw [upd_ne (ne_of_none hp nD)]
              exact s5 _ _ h1
            · have e3 : (!stemB c) = true := e2
              rw [upd_same, filter_take hc, if_pos e3, List.map_append]
              rfl
            · exact same_grow nD (h3.trans s5)
          · have e3 : ¬ (!stemB c) = true := e2
            refine ⟨s5 _ _ h1, ?_, h3.trans s5⟩
            rw [s5 _ _ h2, filter_take hc, if_neg e3, List.append_nil]
        · obtain ⟨h1, h2, h3⟩ := hP
          rw [List.length_map, List.take_length] at h2
          refine ⟨Nat.zero_le _, fun g ng => ?_⟩
          have h4 : (upd H3 g (.lst [])) D = some (.lst ((((dotp [] z.cps.toList).filter fun c => !stemB c).map SX.S).map V.str)) := by
            rw [upd_ne (ne_of_none h2 ng), h2, List.map_map]
            rfl
          have asc : ∀ y ∈ ((dotp [] z.cps.toList).filter fun c => !stemB c).map SX.S, Asc y := by
            intro y hy c hc
            obtain ⟨part, hp', rfl⟩ := List.mem_map.mp hy
            rcases dotp_mem _ _ part c (List.mem_filter.mp hp').1 hc with k | k
            · exact nomatch k
            · exact az c k
          refine ⟨.list _, .list [], .lst (SqL.of h4) (dp_strs _), .lst (SqL.of upd_same) .nil, shaped_strs asc, rfl, ?_⟩
          rw [eqv_strs_nil]
          have e2 : (((dotp [] z.cps.toList).filter fun c => !stemB c).map SX.S).isEmpty = nameB z.cps.toList := by
            unfold nameB
            rw [decide_eq_true h6, List.isEmpty_map, filter_none]
            rfl
          rw [e2]
          exact ⟨rfl, h3.trans (same_new ng)⟩
      · have h6 : ¬ (dotp [] z.cps.toList).length ≤ 6 := fun k => e (decide_eq_true (by omega))
        have e2 : nameB z.cps.toList = false := by
          unfold nameB
          rw [decide_eq_false h6]
          rfl
        rw [e2]
        exact ⟨rfl, Same.refl _⟩
    · rintro σ3 H3 ⟨rfl, s3⟩
      refine ⟨.str z, rfl, .inl ⟨z, rfl, by omega, fun H4 s4 => ⟨.str z, rfl, .inl ⟨z, rfl, by omega, fun H5 s5 => ?_⟩⟩⟩⟩
      refine ⟨.str z, rfl, .str z, "str", rfl, .base (.str z), kt_s, .str z, rfl, .inl ⟨.str z, .non, .non, "str", rfl, .base (.str z), kt_s, by decide, by show 4 ≤ sizeLine; decide, fun t nt => ?_⟩⟩
      refine ⟨.ref t, rfl, t, _, rfl, dp4 upd_same, rfl, rfl, dep4 _ _ _ _, sm1000 (shown4 _ _ _ _), ?_⟩
      refine ⟨.str z, rfl, z, rfl, by omega, fun H6 s6 => ?_⟩
      refine ⟨.bl (nameB z.cps.toList), rfl, by show 4 ≤ sizeLine; decide, fun u nu => ⟨u, _, rfl, dp4 upd_same, rfl, rfl, dep4 _ _ _ _, sm1000 (shown4 _ _ _ _), rfl, ?_⟩⟩
      rw [show ("str" == "int") = false by decide, decide_eq_true rfl]
      refine q _ ?_ ?_
      · exact kp1.trans (Kp.same (((((((s2.trans s3).trans s4).trans s5).trans (same_new nt)).trans s6).trans (same_new nu))))
      · exact (hW1.same (((((((s2.trans s3).trans s4).trans s5).trans (same_new nt)).trans s6).trans (same_new nu)))).mono (by omega)
end
end K01

set_option Elab.async false
set_option linter.all false
set_option maxRecDepth 100000
set_option maxHeartbeats 1000000
namespace K01
open PySem PySem.Spec PyProof.Rows L2 Gd
theorem kt_i : KT "int" := .inr (.inr (.inl rfl))
theorem dp5 {K : PySem.W.Frag} {H : Hp} {p : Addr} {a b c d e : Bool} (h : H p = some (.tup [.bl a, .bl b, .bl c, .bl d, .bl e])) : Dp K H (.ref p) (.tuple [.bool a, .bool b, .bool c, .bool d, .bool e]) :=
  .tup (SqT.of h) (.cons (.bl a) (.cons (.bl b) (.cons (.bl c) (.cons (.bl d) (.cons (.bl e) .nil)))))
theorem dep5 (a b c d e : Bool) : (PyData.tuple [.bool a, .bool b, .bool c, .bool d, .bool e]).depth ≤ 60 := by
  show (1 : Nat) ≤ 60
  decide
theorem shown5 : ∀ a b c d e : Bool, (PyData.tuple [.bool a, .bool b, .bool c, .bool d, .bool e]).shown.length ≤ 1000 := by decide +kernel
/-- an odd value: of a kind that is no integer, and no text but the empty one -/
def Odd (K : PySem.W.Frag) (H : Hp) (v : V) : Prop := ∃ t : String, TyX K H v (.type t) ∧ KT t ∧ (t == "int") = false ∧ ((t == "str") = false ∨ v = .str (Str.ofString ""))
section
variable {P : Program} {w : World} {K : PySem.W.Frag} {mg : Str → Option Value} {base : Heap}
theorem ok_number_right (T : Txt K mg) (G__law_dip : Cal P w K mg base 1 "_law_dip" spDip) (G__law_pick : Cal P w K mg base 2 "_law_pick" spPick)
    (G_is_stem : Cal P w K mg base 1 "is_stem" (spStem K)) (G_is_name : Cal P w K mg base 2 "is_name" (spName K)) (G_is_integer : Cal P w K mg base 1 "is_integer" (spIsInt K)) (G_is_within : Cal P w K mg base 2 "is_within" (spWithin K)) :
    Cal P w K mg base 5 "_law_number_right" spRight := by
  obtain ⟨f, fd, F, b⟩ := T.d_law_number_right
  refine cal F b sc_law_number_right (fun vs H Q E h => ?_) (fun cdv A outer s H vs Q E hgd hr h => ?_)
  · obtain ⟨w, a, ns, N, rfl, _⟩ := h
    rfl
  · have nd := sc_law_number_right.nd
    obtain ⟨w, a, ns, N, rfl, hW, hN, q⟩ := h
    refine ⟨_, (pss_cons (ps_set (i := 1) nd rfl (.inl rfl) (pe_op op_mulW (pc G__law_pick hgd hr (by decide) (by rfl) (pa_cons (pv 0) (pa_cons (pe_lst (pa_cons (pe_un un_neg pe_int) (pa_cons pe_int pa_nil))) pa_nil))) (pc G__law_dip hgd hr (by decide) (by rfl) (pa_cons (pv 0) (pa_cons (pc G__law_pick hgd hr (by decide) (by rfl) (pa_cons (pv 0) (pa_cons (pe_lst (pa_cons pe_int (pa_cons pe_int (pa_cons pe_int (pa_cons (pe_op op_pow pe_int pe_int) pa_nil))))) pa_nil))) pa_nil)))))
      (pss_cons (ps_set (i := 2) nd rfl (.inl rfl) (pc G__law_pick hgd hr (by decide) (by rfl) (pa_cons (pv 0) (pa_cons (pe_lst (pa_cons pe_non (pa_cons (pv 1) (pa_cons (pe_op op_add (pv 1) pe_int) (pa_cons (pe_op op_sub (pv 1) pe_int) (pa_cons (pe_un un_neg pe_int) (pa_cons pe_int pa_nil))))))) pa_nil))))
      (pss_cons (ps_set (i := 3) nd rfl (.inl rfl) (pc G__law_pick hgd hr (by decide) (by rfl) (pa_cons (pv 0) (pa_cons (pe_lst (pa_cons pe_non (pa_cons (pv 1) (pa_cons (pe_op op_sub (pv 1) pe_int) (pa_cons (pe_op op_add (pv 1) pe_int) (pa_cons pe_int (pa_cons pe_int pa_nil))))))) pa_nil))))
      (C8.pss_cut (ps_set (i := 4) nd rfl (.inl rfl) (pe_and (pe_or (pe_cmp (pc_isN (pv 2)) rfl) (pe_one (pe_cmpR op_le (pv 2) (pv 1) (nomark _)))) (pe_one (pe_or (pe_cmp (pc_isN (pv 3)) rfl) (pe_one (pe_cmpR op_le (pv 1) (pv 3) (nomark _)))))))
      (pss_cons (ps_set (i := 5) nd rfl (.inl rfl) (pe_tup (pa_cons (pc G_is_integer hgd hr (by decide) (by rfl) (pa_cons (pv 1) pa_nil)) (pa_cons (pc G_is_within hgd hr (by decide) (by rfl) (pa_cons (pv 1) (pa_cons (pv 2) (pa_cons (pv 3) pa_nil)))) (pa_cons (pc G_is_stem hgd hr (by decide) (by rfl) (pa_cons (pv 1) pa_nil)) (pa_cons (pc G_is_name hgd hr (by decide) (by rfl) (pa_cons (pv 1) pa_nil)) pa_nil))))))
      (pss_one (ps_ret (pe_cmpR op_eq (pe_callB (call_reprD hgd hr.units) (by rfl) T.z_repr (by decide +kernel) (pa_cons (pv 5) pa_nil)) (pe_callB (call_reprD hgd hr.units) (by rfl) T.z_repr (by decide +kernel) (pa_cons (pe_tup (pa_cons pe_bl (pa_cons (pv 4) (pa_cons pe_bl (pa_cons pe_bl pa_nil))))) pa_nil)) (nomark _))))))))), ?_⟩
    refine ⟨.ref w, rfl, 1, rfl, by show 2 ≤ sizeLine; decide, fun l nl => ⟨w, a, ns, N, hW.same (same_new nl), by omega, .inl ⟨l, _, rfl, (hW.off nl).1, upd_same, by decide, by decide, fun v H1 hv kp1 hW1 => ?_⟩⟩⟩
    obtain ⟨sg, rfl, hsg⟩ : ∃ sg : Int, v = .int sg ∧ sg.natAbs < 2 ^ 2 := by
      simp only [List.mem_cons, List.not_mem_nil, or_false] at hv
      rcases hv with rfl | rfl
      · exact ⟨_, rfl, by decide⟩
      · exact ⟨_, rfl, by decide⟩
    refine ⟨.ref w, rfl, .ref w, rfl, 10, 60, rfl, rfl, ⟨by decide, by decide, by decide⟩, by show 4 ≤ sizeLine; decide, fun l2 nl2 => ?_⟩
    refine ⟨w, a, ns, _, hW1.same (same_new nl2), by omega, .inl ⟨l2, _, rfl, (hW1.off nl2).1, upd_same, by decide, by decide, fun v H2 hv kp2 hW2 => ?_⟩⟩
    obtain ⟨many, rfl, hm0, hm1⟩ : ∃ many : Int, v = .int many ∧ 0 < many ∧ many < 2 ^ 250 := by
      simp only [List.mem_cons, List.not_mem_nil, or_false] at hv
      rcases hv with rfl | rfl | rfl | rfl <;> exact ⟨_, rfl, by decide, by decide⟩
    refine ⟨w, a, ns, _, many, rfl, hW2, by omega, hm0, hm1, fun x H3 x0 x1 kp3 hW3 => ?_⟩
    refine ⟨sg, x, rfl, rfl, wide_mul hsg (b := 250) (by omega) (by decide) (by decide) (by decide), ?_⟩
    -- the number, whatever it is
    have kA : Kp w H H3 := ((((Kp.same (same_new nl)).trans kp1).new nl2).trans kp2).trans kp3
    refine ⟨.ref w, rfl, .int (sg * x), rfl, .int (sg * x), rfl, _, _, rfl, rfl, .int (sg * x), rfl, _, _, rfl, rfl, 5, rfl, by show 6 ≤ sizeLine; decide, fun l3 nl3 => ?_⟩
    refine ⟨w, a, ns, _, hW3.same (same_new nl3), by omega, .inl ⟨l3, _, rfl, (hW3.off nl3).1, upd_same, by show 0 < 6; decide, by show 6 ≤ 1000; decide, fun v H4 hv kp4 hW4 => ?_⟩⟩
    obtain ⟨lo, rfl⟩ : ∃ lo : Option Int, v = vO lo := by
      simp only [List.mem_cons, List.not_mem_nil, or_false] at hv
      rcases hv with rfl | rfl | rfl | rfl | rfl | rfl
      · exact ⟨none, rfl⟩
      all_goals exact ⟨some _, rfl⟩
    refine ⟨.ref w, rfl, .int (sg * x), rfl, .int (sg * x), rfl, _, _, rfl, rfl, .int (sg * x), rfl, _, _, rfl, rfl, by show 6 ≤ sizeLine; decide, fun l4 nl4 => ?_⟩
    refine ⟨w, a, ns, _, hW4.same (same_new nl4), by omega, .inl ⟨l4, _, rfl, (hW4.off nl4).1, upd_same, by show 0 < 6; decide, by show 6 ≤ 1000; decide, fun v H5 hv kp5 hW5 => ?_⟩⟩
    obtain ⟨hi, rfl⟩ : ∃ hi : Option Int, v = vO hi := by
      simp only [List.mem_cons, List.not_mem_nil, or_false] at hv
      rcases hv with rfl | rfl | rfl | rfl | rfl | rfl
      · exact ⟨none, rfl⟩
      all_goals exact ⟨some _, rfl⟩
    have kB : Kp w H H5 := (((kA.new nl3).trans kp4).new nl4).trans kp5
    refine ⟨fun σ' H' => σ' = [some (.ref w), some (.int (sg * x)), some (vO lo), some (vO hi), some (.bl (loB lo (sg * x) && hiB hi (sg * x))), none] ∧ H' = H5, ?_, ?_⟩
    · have second : loB lo (sg * x) = true → (tOrV (tIsN (tVar 3)) (tOp (rI0 fun i j => V.bl (decide (i ≤ j))) (tVar 1) (tVar 3))) [some (.ref w), some (.int (sg * x)), some (vO lo), some (vO hi), none, none] H5
          (fun v H' => [some (V.ref w), some (V.int (sg * x)), some (vO lo), some (vO hi), some v, none] = [some (V.ref w), some (V.int (sg * x)), some (vO lo), some (vO hi), some (.bl (loB lo (sg * x) && hiB hi (sg * x))), none] ∧ H' = H5) := by
        intro e
        rw [e, Bool.true_and]
        refine ⟨vO hi, rfl, _, rfl, ?_⟩
        cases hi with
        | none => exact iteT ⟨rfl, rfl⟩
        | some j => exact iteF ⟨.int (sg * x), rfl, .int j, rfl, (sg * x), j, rfl, rfl, rfl, rfl⟩
      refine ⟨vO lo, rfl, _, rfl, ?_⟩
      cases lo with
      | none => exact iteT ⟨_, rfl, iteT (second rfl)⟩
      | some i =>
        refine iteF ⟨.int i, rfl, .int (sg * x), rfl, i, (sg * x), rfl, rfl, _, rfl, ite2 (fun e => second e) (fun e => ?_)⟩
        have e1 : loB (some i) (sg * x) = false := Bool.eq_false_iff.mpr e
        rw [e1, Bool.false_and]
        exact ⟨rfl, rfl⟩
    · rintro σ6 H6 ⟨rfl, rfl⟩
      refine ⟨.int (sg * x), rfl, .int (sg * x), "int", rfl, .base (.int (sg * x)), kt_i, .int (sg * x), rfl, vO lo, rfl, vO hi, rfl, .inr ⟨(sg * x), lo, hi, rfl, ?_⟩⟩
      refine ⟨.int (sg * x), rfl, .inr ⟨.int (sg * x), "int", rfl, .base (.int (sg * x)), kt_i, by decide, .int (sg * x), rfl, .inr ⟨.int (sg * x), "int", rfl, .base (.int (sg * x)), kt_i, by decide, by show 4 ≤ sizeLine; decide, fun t nt => ?_⟩⟩⟩
      refine ⟨.ref t, rfl, t, _, rfl, dp4 upd_same, rfl, rfl, dep4 _ _ _ _, sm1000 (shown4 _ _ _ _), ?_⟩
      refine ⟨.bl (loB lo (sg * x) && hiB hi (sg * x)), rfl, by show 4 ≤ sizeLine; decide, fun u nu => ⟨u, _, rfl, dp4 upd_same, rfl, rfl, dep4 _ _ _ _, sm1000 (shown4 _ _ _ _), rfl, ?_⟩⟩
      rw [show ("int" == "int") = true by decide, decide_eq_true rfl]
      exact q _ ((kB.new nt).new nu) (((hW5.same (same_new nt)).same (same_new nu)).mono (by omega))
theorem ok_odd_right (T : Txt K mg) (G__law_pick : Cal P w K mg base 2 "_law_pick" spPick)
    (G_is_stem : Cal P w K mg base 1 "is_stem" (spStem K)) (G_is_name : Cal P w K mg base 2 "is_name" (spName K)) (G_is_integer : Cal P w K mg base 1 "is_integer" (spIsInt K)) (G_is_within : Cal P w K mg base 2 "is_within" (spWithin K)) :
    Cal P w K mg base 5 "_law_odd_right" spRight := by
  obtain ⟨f, fd, F, b⟩ := T.d_law_odd_right
  refine cal F b sc_law_odd_right (fun vs H Q E h => ?_) (fun cdv A outer s H vs Q E hgd hr h => ?_)
  · obtain ⟨w, a, ns, N, rfl, _⟩ := h
    rfl
  · have nd := sc_law_odd_right.nd
    obtain ⟨w, a, ns, N, rfl, hW, hN, q⟩ := h
    refine ⟨_, (pss_cons (ps_set (i := 1) nd rfl (.inl rfl) (pc G__law_pick hgd hr (by decide) (by rfl) (pa_cons (pv 0) (pa_cons (pe_lst (pa_cons pe_non (pa_cons pe_bl (pa_cons pe_bl (pa_cons (pe_lst pa_nil) (pa_cons (pe_lst (pa_cons pe_str pa_nil)) (pa_cons (pe_tup pa_nil) (pa_cons (pe_tup (pa_cons pe_str pa_nil)) (pa_cons (pe_tup (pa_cons pe_int pa_nil)) (pa_cons pe_dnewK (pa_cons (pe_disp (pps_cons pe_str pe_int pps_nil) (by rfl) (by rfl) (fun z => by cases z) (by decide)) (pa_cons (pe_lst (pa_cons pe_int pa_nil)) (pa_cons pe_str pa_nil))))))))))))) pa_nil))))
      (pss_cons (ps_set (i := 2) nd rfl (.inl rfl) (pe_tup (pa_cons (pc G_is_integer hgd hr (by decide) (by rfl) (pa_cons (pv 1) pa_nil)) (pa_cons (pc G_is_within hgd hr (by decide) (by rfl) (pa_cons (pv 1) (pa_cons pe_int (pa_cons pe_int pa_nil)))) (pa_cons (pc G_is_within hgd hr (by decide) (by rfl) (pa_cons (pv 1) (pa_cons pe_non (pa_cons pe_non pa_nil)))) (pa_cons (pc G_is_stem hgd hr (by decide) (by rfl) (pa_cons (pv 1) pa_nil)) (pa_cons (pc G_is_name hgd hr (by decide) (by rfl) (pa_cons (pv 1) pa_nil)) pa_nil)))))))
      (pss_one (ps_ret (pe_cmpR op_eq (pe_callB (call_reprD hgd hr.units) (by rfl) T.z_repr (by decide +kernel) (pa_cons (pv 2) pa_nil)) (pe_callB (call_reprD hgd hr.units) (by rfl) T.z_repr (by decide +kernel) (pa_cons (pe_tup (pa_cons pe_bl (pa_cons pe_bl (pa_cons pe_bl (pa_cons pe_bl (pa_cons pe_bl pa_nil)))))) pa_nil)) (nomark _)))))), ?_⟩
    refine ⟨.ref w, rfl, Nat.zero_le _, fun p1 n1 => ⟨by show 1 ≤ sizeLine; decide, fun p2 n2 => ⟨Nat.zero_le _, fun p3 n3 => ⟨by show 1 ≤ sizeLine; decide, fun p4 n4 => ⟨by show 1 ≤ sizeLine; decide, fun p5 n5 => fun p6 n6 => fun p7 n7 =>
      ⟨upd_same, [(.inr "a", .int 1)], rfl, by decide, by show 1 ≤ sizeLine; decide, fun p8 n8 => ⟨by show 12 ≤ sizeLine; decide, fun l nl => ?_⟩⟩⟩⟩⟩⟩⟩
    -- the heaps one behind the other
    have s1 := same_new n1 (o := .lst [])
    have s2 := same_new n2 (o := .lst [.str "a"])
    have s3 := same_new n3 (o := .tup [])
    have s4 := same_new n4 (o := .tup [.str "a"])
    have s5 := same_new n5 (o := .tup [.int 1])
    have s6 := same_new n6 (o := .dK [])
    have s7 := same_grow (o := .dK (mergeK [] [(.inr "a", .int 1)])) n7 (same_new n7 (o := .dK []))
    have s8 := same_new n8 (o := .lst [.int 1])
    have s9 := same_new nl (o := .lst [.non, .bl true, .bl false, .ref p1, .ref p2, .ref p3, .ref p4, .ref p5, .ref p6, .ref p7, .ref p8, .str ""])
    have sA := (((((((s1.trans s2).trans s3).trans s4).trans s5).trans s6).trans s7).trans s8)
    have hWA := hW.same sA
    have wl := hWA.off nl
    refine ⟨w, a, ns, N, hWA.same s9, by omega, .inl ⟨l, _, rfl, wl.1, upd_same, by show 0 < 12; decide, by show 12 ≤ 1000; decide, fun v H1 hv kp1 hW1 => ?_⟩⟩
    have odd : Odd K H1 v := by
      have at_ : ∀ {p : Addr} {o : HO} {Hp' : Hp}, Hp' p = none → p ≠ w → Same (upd Hp' p o) (upd _ l (.lst [.non, .bl true, .bl false, .ref p1, .ref p2, .ref p3, .ref p4, .ref p5, .ref p6, .ref p7, .ref p8, .str ""])) → H1 p = some o :=
        fun {p o Hp'} n nw s => kp1 _ _ nw (s _ _ upd_same)
      simp only [List.mem_cons, List.not_mem_nil, or_false] at hv
      rcases hv with rfl | rfl | rfl | rfl | rfl | rfl | rfl | rfl | rfl | rfl | rfl | rfl
      · exact ⟨_, .base .non, .inl rfl, by decide, .inl (by decide)⟩
      · exact ⟨_, .base (.bl _), .inr (.inl rfl), by decide, .inl (by decide)⟩
      · exact ⟨_, .base (.bl _), .inr (.inl rfl), by decide, .inl (by decide)⟩
      · exact ⟨_, .base (.lst (at_ n1 (hW.off n1).1 (((((((s2.trans s3).trans s4).trans s5).trans s6).trans s7).trans s8).trans s9))), .inr (.inr (.inr (.inr (.inl rfl)))), by decide, .inl (by decide)⟩
      · exact ⟨_, .base (.lst (at_ n2 ((hW.same s1).off n2).1 ((((((s3.trans s4).trans s5).trans s6).trans s7).trans s8).trans s9))), .inr (.inr (.inr (.inr (.inl rfl)))), by decide, .inl (by decide)⟩
      · exact ⟨_, .base (.tup (at_ n3 ((hW.same (s1.trans s2)).off n3).1 (((((s4.trans s5).trans s6).trans s7).trans s8).trans s9))), .inr (.inr (.inr (.inr (.inr (.inl rfl))))), by decide, .inl (by decide)⟩
      · exact ⟨_, .base (.tup (at_ n4 ((hW.same ((s1.trans s2).trans s3)).off n4).1 ((((s5.trans s6).trans s7).trans s8).trans s9))), .inr (.inr (.inr (.inr (.inr (.inl rfl))))), by decide, .inl (by decide)⟩
      · exact ⟨_, .base (.tup (at_ n5 ((hW.same (((s1.trans s2).trans s3).trans s4)).off n5).1 (((s6.trans s7).trans s8).trans s9))), .inr (.inr (.inr (.inr (.inr (.inl rfl))))), by decide, .inl (by decide)⟩
      · exact ⟨_, .base (.dK (at_ n6 ((hW.same ((((s1.trans s2).trans s3).trans s4).trans s5)).off n6).1 ((s7.trans s8).trans s9))), .inr (.inr (.inr (.inr (.inr (.inr rfl))))), by decide, .inl (by decide)⟩
      · refine ⟨_, .base (.dK (kp1 p7 _ ((hW.same (((((s1.trans s2).trans s3).trans s4).trans s5).trans s6)).off n7).1 ((s8.trans s9) _ _ upd_same))), .inr (.inr (.inr (.inr (.inr (.inr rfl))))), by decide, .inl (by decide)⟩
      · exact ⟨_, .base (.lst (at_ n8 ((hW.same ((((((s1.trans s2).trans s3).trans s4).trans s5).trans s6).trans s7)).off n8).1 s9)), .inr (.inr (.inr (.inr (.inl rfl)))), by decide, .inl (by decide)⟩
      · exact ⟨_, .base (.str _), kt_s, by decide, .inr rfl⟩
    obtain ⟨t, ty, kt, ti, ts⟩ := odd
    have fin : ∀ H2, Same H1 H2 → Q (.bl true) H2 := fun H2 sm => q H2 (((Kp.same (sA.trans s9)).trans kp1).trans (Kp.same sm)) ((hW1.same sm).mono (by omega))
    have e0 : stemB [] = false := by decide
    have e1 : nameB [] = false := by decide
    refine ⟨v, rfl, v, t, rfl, ty, kt, v, rfl, .inl ⟨v, .int 0, .int 1, t, rfl, ty, kt, ti, v, rfl, .inl ⟨v, .non, .non, t, rfl, ty, kt, ti, v, rfl, ?_⟩⟩⟩
    rw [ti]
    rcases ts with ts | rfl
    · refine .inr ⟨v, t, rfl, ty, kt, ts, v, rfl, .inr ⟨v, t, rfl, ty, kt, ts, by show 5 ≤ sizeLine; decide, fun u nu => ?_⟩⟩
      refine ⟨.ref u, rfl, u, _, rfl, dp5 upd_same, rfl, rfl, dep5 _ _ _ _ _, sm1000 (shown5 _ _ _ _ _), by show 5 ≤ sizeLine; decide, fun x nx => ⟨x, _, rfl, dp5 upd_same, rfl, rfl, dep5 _ _ _ _ _, sm1000 (shown5 _ _ _ _ _), rfl, ?_⟩⟩
      rw [decide_eq_true rfl]
      exact fin _ ((same_new nu).trans (same_new nx))
    · refine .inl ⟨Str.ofString "", rfl, by decide, fun H2 sm2 => ⟨.str (Str.ofString ""), rfl, .inl ⟨Str.ofString "", rfl, by decide, fun H3 sm3 => ⟨by show 5 ≤ sizeLine; decide, fun u nu => ?_⟩⟩⟩⟩
      refine ⟨.ref u, rfl, u, _, rfl, dp5 upd_same, rfl, rfl, dep5 _ _ _ _ _, sm1000 (shown5 _ _ _ _ _), by show 5 ≤ sizeLine; decide, fun x nx => ⟨x, _, rfl, dp5 upd_same, rfl, rfl, dep5 _ _ _ _ _, sm1000 (shown5 _ _ _ _ _), rfl, ?_⟩⟩
      rw [show stemB (Str.ofString "").cps.toList = false from e0, show nameB (Str.ofString "").cps.toList = false from e1, decide_eq_true rfl]
      exact fin _ (((sm2.trans sm3).trans (same_new nu)).trans (same_new nx))
end
end K01

set_option Elab.async false
set_option linter.all false
set_option maxRecDepth 100000
set_option maxHeartbeats 1000000
/-! ### isinstance of a caught error, where the class lies above its own; calls whose errors are a clause's -/
namespace Gd
open PySem PySem.Spec PyProof.Rows L2
section
open PySem.W PySem.Calls
variable {K : PySem.W.Frag} {x t c : Value} {P : Heap → Prop}
theorem isi_yes (LT : ∀ (M : Model) (h : Heap), P h → PySem.W.Looks M h (typeOf x) t) (e : PySem.W.kitOne K t c = some true) : Answers (fun s => K.In s.heap ∧ P s.heap) x c true := by
  rintro dep tk prog w A R ⟨hp, g, d, tt, os⟩ ⟨⟨KX, ph⟩, hq⟩
  have L := LT (model prog w) hp ph
  unfold Builtin.«isinstance.nested»; refine wpAny_bind (L.at ?_)
  unfold PySem.W.kitOne at e
  by_cases q : (t == c) = true
  · rw [if_pos q]
    first
      | exact wpAny_bind (wpAny_rule (hq tt))
      | exact wpAny_bind (wpAny_rule (wpAny_pure (hq tt)))
      | ((repeat lk); exact hq tt)
  · rw [if_neg q] at e ⊢
    have kc := kit_cls (M := model prog w) KX e
    refine wpAny_bind (kc.1.at ?_); rw [if_pos (by decide)]
    k_delta "plainIsInstance"
    refine wpAny_bind (wpAny_bind (kc.2.1.at ?_)); simp only [Bool.not_true, Bool.false_eq_true, if_false]
    refine wpAny_bind ((L.andThen kc.2.2 : PySem.W.Looks (model prog w) hp (isInstance x c) true).at ?_)
    first
      | exact wpAny_pure (wpAny_pure (hq tt))
      | (simp only [if_true]; first | exact wpAny_pure (hq tt) | exact wpAny_pure (wpAny_pure (hq tt)) | exact wpAny_bind (wpAny_pure (wpAny_pure (hq tt))))
end
/-- isinstance(e, c), e the error that the suite holds, its class below c -/
def rIsY (K : PySem.W.Frag) (cls : Value) (a : Addr) : List V → Hp → VK → Prop := fun xs H Q => ∃ (c : V) (cv : Value), xs = [.ref a, c] ∧ (∀ u, RelV c u → u = cv) ∧ PySem.W.kitOne K cls cv = some true ∧ Q (.bl true) H
theorem call_isY {X : Cx} {a : Addr} {cls : Value} {d : Option Addr} {oe : Obj} {pn : List (Addr × Obj)} (hz : Zc cls d oe) : CallR (X.suite a ((a, oe) :: pn)) (.builtin "isinstance") (rIsY X.K cls a) := by
  intro pins s σ H xs us Q I r h
  obtain ⟨c, cv, rfl, hcv, e, q⟩ := h
  match us, r with
  | [u, v], .cons ru (.cons rv .nil) =>
    obtain rfl : u = Value.ref a := ru
    obtain rfl := hcv v rv
    have hget := (I.pin (a, oe) (List.mem_append_left _ List.mem_cons_self)).1
    refine PySem.call_isinstance (S := fun _ R s => (X.K.In s.heap ∧ s.heap.get? a = some oe) ∧ ∀ tk, R (.ok (.ret (.bool true))) { s with toks := tk })
      (fun prog w A R s hs => PySem.isinstance_outer (isi_yes (P := fun h => h.get? a = some oe) (fun M h k A Q E s keep q => wpAny_typeOf_ref (keep _ _ k) (by rw [hz.1]; exact q)) e 0 _ prog w A R s hs) (fun z => nomatch z)) ⟨⟨I.kIn, hget⟩, fun tk => ?_⟩
    exact ⟨.bl true, H, I.tok tk, rfl, q⟩
/-- x(e, ..), x a def that takes any number -/
theorem pe_callSR {X : Cx} {CX : CXT} {k : Nat} {f : Addr} {sp : Sp} {E : L2.St → XK} {x : Str} {p pos : Pos} {e : Expr} {es : List Expr} {t : TA} (F : FnR X.prog X.w X.K X.mg X.base CX k f sp) (hr : Room k X.A) (hg : Gl X x)
    (hm : X.mg x = some (.ref f)) (hk : PySem.W.keepIn X.K (.ref f) = true) (hx : ∀ σ, PassesAt CX X σ (E σ)) (ha : PA X (e :: es) t) (hdb : (x == ("__debug__" : Str)) = false := by decide)
    (he : starEach (e :: es) X.env = (false, eval e X.env) :: starEach es X.env := by rfl) (hpl : (backTo pos (starEach es X.env)).any (·.1) = false := by rfl) : PE X (.Call (.Name x p) (e :: es) [] pos) (tCallS sp E t) := by
  refine ⟨fun pins s σ H Q I h => wpAny_Call_Name_kw (ld_glob I hg hm ?_ hdb)⟩
  refine PySem.W.callWith_K (h₀ := X.base) I.ok.mod.kin hk (thn (ha.run pos pins s σ H _ I h) fun us s1 ⟨vs, H1, J, r, q⟩ => ⟨J.kIn, wpAny_call (codeAny_mono (F X.A X.stack s1 H1 us vs Q (E σ) hr J.env0 r q) fun res s' hq => ?_)⟩) he hpl
  match res, hq with
  | .error e, hq => exact hx σ pins H1 s1 e s' J hq
  | .ok (.ret u), hq => exact J.after hq
/-- the same rules in a try's body, told of what stands around it -/
theorem ix_listT {X : Cx} {pn : List (Addr × Obj)} {xe : Value → Shared → Prop} : IxR (X.tr pn xe) (rIxL X.K) := ix_list
theorem call_lenT {X : Cx} {pn : List (Addr × Obj)} {xe : Value → Shared → Prop} : CallR (X.tr pn xe) (.builtin "len") (fun xs H Q => ∃ x n, xs = [x] ∧ LenV X.K x H n ∧ Q (.int n) H) := call_len
end Gd
namespace K01
open PySem PySem.Spec PyProof.Rows L2 Gd
/-! ### TooMany -/
abbrev sIni : Stmt := (C8.clsBody (topS 2)).getD 0 (.Pass ⟨0, 0, 0, 0⟩)
theorem scIni : FnScope ["self", "what", "most"] ["self", "what", "most"] (C8.fnScope sIni) := C8.fnScope_by (by decide +kernel)
/-- what the top has written of TooMany, at C, its __init__ at fI, and of DimError, at D -/
structure Tm (K : PySem.W.Frag) (mg : Str → Option Value) (C D fI : Addr) : Prop where
  gC : mg "TooMany" = some (.ref C)
  gD : mg "DimError" = some (.ref D)
  oex : OexC K C
  ini : PySem.W.findIn K (.ref C) "__init__" = some (some (.ref fI))
  tI : PySem.W.typeIn K (.ref fI) = some (.type "function")
  fn : ∃ fd, C8.Fun K "__init__" "TooMany.__init__" sIni fI fd ∧ Binds K fd ["self", "what", "most"] []
  nw : PySem.W.findIn K (.ref C) "what" = some none
  nm : PySem.W.findIn K (.ref C) "most" = some none
  xf : XfC K C
  te : PySem.W.exmOne K (.ref C) (.ref C) = some true
  kd : PySem.W.kitOne K (.ref C) (.ref D) = some true
def spIni (C : Addr) : Sp := fun vs H Q _ => ∃ (a : Addr) (u v : V), vs = [.ref a, u, v] ∧ H a = some (exo a C none) ∧
  ∀ d : Addr, H d = none → d ≠ a → Q .non (upd (upd (upd H d (exd d [("what", u)])) a (exo a C (some d))) d (exd d [("most", v), ("what", u)]))
/-- what a refused joining leaves -/
abbrev tmF : List (Str × V) := [("most", .int 6), ("what", .str "stems")]
def spJn (C : Addr) : Sp := fun vs H Q E => ∃ zs : List Str, vs = zs.map V.str ∧ zs.length ≤ 4 ∧ (∀ z ∈ zs, z.length ≤ 100) ∧
  ((dotp [] (Txt.join "." zs).cps.toList).length ≤ 6 → ∀ H', Same H H' → Q (.str (Txt.join "." zs)) H') ∧
  (¬ (dotp [] (Txt.join "." zs).cps.toList).length ≤ 6 → ∀ (d : Addr) (H' : Hp), H d = none → Same H H' → H' d = some (.xd tmF) → E (.ref C) (some d) H')
def spJb (C : Addr) : Sp := fun vs H Q E => ∃ (p : Addr) (zs : List Str), vs = [.ref p] ∧ H p = some (.tup (zs.map V.str)) ∧ zs.length ≤ 4 ∧ (∀ z ∈ zs, z.length ≤ 100) ∧
  ((dotp [] (Txt.join "." zs).cps.toList).length ≤ 6 → ∀ H', Same H H' → Q (.str (Txt.join "." zs)) H') ∧
  (¬ (dotp [] (Txt.join "." zs).cps.toList).length ≤ 6 → ∀ (d : Addr) (H' : Hp), H d = none → Same H H' → H' d = some (.xd tmF) → E (.ref C) (some d) H')
section
variable {P : Program} {w : World} {K : PySem.W.Frag} {mg : Str → Option Value} {base : Heap} {C D fI fJ : Addr}
theorem ok_ini (M : Tm K mg C D fI) : ∃ fd, FnOk P w K mg base C8.CX0 1 fI fd ["self", "what", "most"] (spIni C) ∧ Binds K fd ["self", "what", "most"] [] := by
  obtain ⟨fd, F, b⟩ := M.fn
  refine ⟨fd, C8.fn0 F scIni (fun vs H Q E h => ?_) (fun cdv A outer s H vs Q E hr h => ?_), b⟩
  · obtain ⟨a, u, v, rfl, _⟩ := h
    rfl
  · obtain ⟨a, u, v, rfl, ha, q⟩ := h
    refine ⟨_, (pss_cons (ps_ost (pv 0) (pv 1)) (pss_one (ps_ost (pv 0) (pv 2)))), ?_⟩
    refine ⟨_, rfl, _, rfl, a, C, rfl, M.oex, M.nw, .inl ⟨ha, fun dx ndx ne => ?_⟩⟩
    refine ⟨_, rfl, _, rfl, a, C, rfl, M.oex, M.nm, .inr ⟨dx, [("what", u)], upd_same, ?_, by show 1 ≤ 900; decide, ?_⟩⟩
    · rw [upd_ne ne, upd_same]
    · exact q dx ndx ne
theorem scJ : FnScope ["names", "name"] ["names"] (C8.fnScope sjoined_name) := C8.fnScope_by (by decide +kernel)
theorem body_joined (M : Tm K mg C D fI) (T : Txt K mg) (hJ : ∃ fd, C8.Fun K "joined_name" "joined_name" sjoined_name fJ fd ∧ fd.defaults = .none) : FnR P w K mg base (L2.CX P w) 3 fJ (spJn C) := by
  obtain ⟨fd, F, df⟩ := hJ
  obtain ⟨oc, od, dV, kV, doc, pm, an, cdv, ct, osl, rfl, lk, hcd⟩ := F.ex
  obtain rfl : dV = .none := df
  obtain ⟨fd1, F1, b1⟩ := ok_ini (P := P) (w := w) (mg := mg) (base := base) M
  refine (StX.fn_star (ps := []) (pv := "names") (sp := spJb C) (k := 2) lk hcd scJ StX.cxUp (fun us rest hl => match us, rest with | [], [] => rfl | [], _ :: _ => rfl) (fun A outer s H vs Q E hr h => ?_)).imp fun vs H Q E h => ?_
  · have nd := scjoined_name.nd
    obtain ⟨p, zs, rfl, hp, hz, hl, q1, q2⟩ := h
    refine ⟨_, (pss_cons (ps_set (i := 1) nd rfl (.inl rfl) (pe_join pe_str (pv 0)))
      (pss_cons (ps_if (pt_cmpR op_gt (pe_callB call_len (by rfl) T.z_len PySem.boot_len (pa_cons (pe_split (pv 1) pe_str) pa_nil)) (C8.pe_gc (by rfl) T.c_MOST_STEMS) (nomark _))
        (pss_one (ps_raise rfl (takes_of rfl rfl rfl rfl) (pmk_oex (ds := []) (dvs := []) M.oex M.ini M.tI F1 hr b1 .nil C8.pass0 (by rfl) M.gC (pa_cons pe_str (pa_cons (C8.pe_gc (by rfl) T.c_MOST_STEMS) pa_nil))))) pss_nil)
      (pss_one (ps_ret (pv 1))))), ?_⟩
    have hJ : (Txt.join (Str.ofString ".") zs).length ≤ 404 := by
      have := join_len (zs := zs) (k := 100) hl
      have : zs.length * 100 ≤ 4 * 100 := Nat.mul_le_mul_right _ hz
      omega
    refine ⟨⟨_, rfl⟩, .ref p, rfl, ".", p, zs, rfl, rfl, .inr (SqT.of hp), ?_, ?_⟩
    · have := sum_le (fun z : Str => z.length) 100 zs hl
      have e : (Str.ofString ".").length = 1 := rfl
      rw [e]
      omega
    · refine ⟨.str _, rfl, ⟨_, rfl⟩, _, ".", rfl, rfl, rfl, ?_, fun g ng => ?_⟩
      · have := sizeLine_eq
        omega
      · have hg : (upd H g (.lst ((Txt.split (Txt.join (Str.ofString ".") zs) ".").map V.str))) g = some (.lst ((Txt.split (Txt.join (Str.ofString ".") zs) ".").map V.str)) := upd_same
        refine ⟨.ref g, _, rfl, .inl ⟨_, SqL.of hg, rfl⟩, _, _, rfl, rfl, _, rfl, ?_⟩
        rw [List.length_map, split_dots, List.length_map]
        refine ite2 (fun e => ?_) (fun e => ?_)
        · have h6 : ¬ (dotp [] (Txt.join (Str.ofString ".") zs).cps.toList).length ≤ 6 := by
            have := of_decide_eq_true e
            omega
          refine ⟨by show 2 ≤ 1000; decide, fun a na => ⟨a, .str "stems", .int 6, rfl, upd_same, fun d nd ne => ⟨rfl, d, tmF, ?_, upd_same, ?_, ?_⟩⟩⟩
          · rw [upd_ne (Ne.symm ne), upd_same]
          · exact (upd_ne ne).symm.trans nd
          · have hd := (upd_ne ne).symm.trans nd
            refine q2 h6 d _ ((same_new ng).free hd) (fun b o e => ?_) upd_same
            have e1 := same_new (o := .lst (((dotp [] (Txt.join (Str.ofString ".") zs).cps.toList).map SX.S).map V.str)) ng b o e
            have bd := ne_of_none e1 hd
            have ba := ne_of_none e1 na
            rw [upd_ne bd, del_ne ba, upd_ne bd, upd_ne ba, upd_ne bd, upd_ne ba]
            exact e1
        · have h6 : (dotp [] (Txt.join (Str.ofString ".") zs).cps.toList).length ≤ 6 := by
            refine Classical.byContradiction fun z => e (decide_eq_true ?_)
            omega
          exact ⟨_, rfl, q1 h6 _ (same_new ng)⟩
  · obtain ⟨zs, rfl, hz, hl, q1, q2⟩ := h
    refine ⟨[], zs.map V.str, rfl, rfl, ?_, fun p np => ⟨p, zs, rfl, upd_same, hz, hl, fun h6 H' s' => q1 h6 H' ((same_new np).trans s'), fun h6 d H' nd s' hd => q2 h6 d H' ?_ ((same_new np).trans s') hd⟩⟩
    · rw [List.length_map]
      exact sm1000 (by omega)
    · cases e : H d with
      | none => rfl
      | some o => exact absurd (same_new np d o e) (by rw [nd]; exact fun z => nomatch z)
end
end K01

set_option Elab.async false
set_option linter.all false
set_option maxRecDepth 100000
set_option maxHeartbeats 1000000
namespace K01
open PySem PySem.Spec PyProof.Rows L2 Gd
/-! ### how many parts -/
def parts (z : Str) : Nat := z.cps.toList.count 46 + 1
theorem dotp_count : ∀ l acc : List Nat, (dotp acc l).length = l.count 46 + 1
  | [], acc => rfl
  | c :: r, acc => by
    rw [dotp_cons, List.count_cons]
    by_cases e : c = 46
    · rw [if_pos e, List.length_cons, dotp_count r, if_pos (by rw [e]; rfl)]
    · rw [if_neg e, dotp_count r, if_neg (fun z => e (beq_iff_eq.mp z)), Nat.add_zero]
theorem joinL_count : ∀ ps : List (List Nat), ps ≠ [] → (TL.joinL [46] ps).count 46 + 1 = (ps.map fun p => p.count 46 + 1).sum
  | [], h => absurd rfl h
  | [p], _ => rfl
  | p :: q :: r, _ => by
    have ih := joinL_count (q :: r) (by simp)
    show (p ++ ([46] ++ TL.joinL [46] (q :: r))).count 46 + 1 = (p.count 46 + 1) + ((q :: r).map fun p => p.count 46 + 1).sum
    rw [List.count_append, List.count_append, ← ih, show ([46] : List Nat).count 46 = 1 from rfl]
    omega
theorem parts_join {zs : List Str} (h : zs ≠ []) : parts (Txt.join (Str.ofString ".") zs) = (zs.map parts).sum := by
  unfold parts
  rw [join_cps, show (Str.ofString ".").cps.toList = [46] from rfl, joinL_count _ (by simpa using h), List.map_map]
  rfl
theorem parts_stem {z : Str} (h : ∀ c ∈ z.cps.toList, signB c = true) : parts z = 1 := by
  unfold parts
  rw [List.count_eq_zero.mpr fun m => by have := h 46 m; exact absurd this (by decide)]
theorem sum_ones {zs : List Str} (h : ∀ z ∈ zs, parts z = 1) : (zs.map parts).sum = zs.length := by
  induction zs with
  | nil => rfl
  | cons z r ih =>
    rw [List.map_cons, List.sum_cons, h z List.mem_cons_self, ih fun y hy => h y (List.mem_cons_of_mem _ hy), List.length_cons]
    omega
theorem cut_signs {z : Str} (h : ∀ c ∈ z.cps.toList, signB c = true) (lo hi : Option Int) : ∀ c ∈ (cutS z lo hi).cps.toList, signB c = true := fun c hc => by
  unfold cutS at hc
  exact h c (List.mem_of_mem_drop (List.mem_of_mem_take hc))
section
variable {P : Program} {w : World} {K : PySem.W.Frag} {mg : Str → Option Value} {base : Heap} {C D fI fJ : Addr}
theorem ok_joined_right (T : Txt K mg) (M : Tm K mg C D fI) (hm : mg "joined_name" = some (.ref fJ)) (hk : PySem.W.keepIn K (.ref fJ) = true) (G_joined_name : FnR P w K mg base (L2.CX P w) 3 fJ (spJn C))
    (G__law_dip : Cal P w K mg base 1 "_law_dip" spDip) (G__law_pick : Cal P w K mg base 2 "_law_pick" spPick) (G__law_stem : Cal P w K mg base 3 "_law_stem" spStemL) :
    Cal P w K mg base 5 "_law_joined_right" spRight := by
  obtain ⟨f, fd, F, b⟩ := T.d_law_joined_right
  have cD : ∃ u, mg "DimError" = some u ∧ RelV (.ref D) u := ⟨_, M.gD, rfl⟩
  refine cal F b sc_law_joined_right (fun vs H Q E h => ?_) (fun cdv A outer s H vs Q E hgd hr h => ?_)
  · obtain ⟨w, a, ns, N, rfl, _⟩ := h
    rfl
  · have nd := sc_law_joined_right.nd
    have hr3 := hr.mono (show 3 ≤ 4 by decide)
    obtain ⟨w, a, ns, N, rfl, hW, hN, q⟩ := h
    refine ⟨_, (pss_cons (ps_par (i := 1) (j := 2) rfl nd rfl rfl (by decide) rfl rfl (pa_cons (pe_lst pa_nil) (pa_cons pe_int pa_nil)) rfl)
      (pss_cons (ps_for PassesOwn.never rfl (pi_range1 rfl T.z_range (pa_cons (pe_op op_add pe_int (pc G__law_dip hgd hr (by decide) (by rfl) (pa_cons (pv 0) (pa_cons pe_int pa_nil)))) pa_nil)) (pg_name (i := 3) nd rfl (Or.inl rfl)) (pss_cons (ps_set (i := 4) nd rfl (.inl rfl) (pc G__law_pick hgd hr (by decide) (by rfl) (pa_cons (pv 0) (pa_cons (pe_lst (pa_cons pe_int (pa_cons pe_int (pa_cons pe_int (pa_cons pe_int pa_nil))))) pa_nil))))
      (pss_cons (ps_set (i := 2) nd rfl (.inl rfl) (pe_op op_add (pv 2) (pv 4)))
      (pss_one (ps_expr (pe_bm PySem.F.plainAttrs_list PySem.F.slot_list_append PySem.F.type_list_append mt_append (pv 1) (pa_cons (pe_join pe_str (pe_lc (own := [("_law_at", 5)]) (g := gName 5) rfl nd (pi_range1 rfl T.z_range (pa_cons (pv 4) pa_nil)) (blkOk_by (own := [("_law_at", 5)]) (N := ["_law_well_here", "_law_names", "_law_stems_here", "_law_turn", "_law_many", "_law_at", "_law_made", "_law_found", "error"]) (sc := (C8.fnScope s_law_joined_right)) (by decide +kernel)) (fun _ _ _ _ _ => pg_name (i := 5) nd rfl (Or.inl rfl)) (fun _ _ _ _ _ => pts_nil) (fun _ _ _ _ _ => (pe_slice sl_str (pc G__law_stem hgd hr (by decide) (by rfl) (pa_cons (pv 0) pa_nil)) po_none (po_some pe_int))))) pa_nil)))))))
      (pss_cons (ps_asg (pe_tup (pa_cons pe_str (pa_cons (pe_tup pa_nil) pa_nil))) (pg_tup rfl (pgs_cons (pg_name (i := 6) nd rfl (Or.inl rfl)) (pgs_cons (pg_name (i := 7) nd rfl (Or.inl rfl)) pgs_nil))))
      (C8.pss_cut (ps_try_as (i := 8) (Wout := fun _ _ _ _ => False) rfl rfl nd rfl rfl ⟨rfl, by decide, .inl M.gC⟩ takes0 (fun W pn xe tk _ => (pss_one (ps_if (pt_cmpR op_eq (pe_callB call_lenT (by rfl) T.z_len PySem.boot_len (pa_cons (pv 1) pa_nil)) pe_int (nomark _)) (pss_one (ps_set (i := 6) nd rfl (.inl rfl) (pe_callSR G_joined_name hr3 (by rfl) hm hk (fun σ => passAt tk σ) (pa_cons (pe_ix ix_listT (pv 1) pe_int (fun _ _ => rfl)) pa_nil)))) (pss_one (ps_if (pt_cmpR op_eq (pe_callB call_lenT (by rfl) T.z_len PySem.boot_len (pa_cons (pv 1) pa_nil)) pe_int (nomark _)) (pss_one (ps_set (i := 6) nd rfl (.inl rfl) (pe_callSR G_joined_name hr3 (by rfl) hm hk (fun σ => passAt tk σ) (pa_cons (pe_ix ix_listT (pv 1) pe_int (fun _ _ => rfl)) (pa_cons (pe_ix ix_listT (pv 1) pe_int (fun _ _ => rfl)) pa_nil))))) (pss_one (ps_if (pt_cmpR op_eq (pe_callB call_lenT (by rfl) T.z_len PySem.boot_len (pa_cons (pv 1) pa_nil)) pe_int (nomark _)) (pss_one (ps_set (i := 6) nd rfl (.inl rfl) (pe_callSR G_joined_name hr3 (by rfl) hm hk (fun σ => passAt tk σ) (pa_cons (pe_ix ix_listT (pv 1) pe_int (fun _ _ => rfl)) (pa_cons (pe_ix ix_listT (pv 1) pe_int (fun _ _ => rfl)) (pa_cons (pe_ix ix_listT (pv 1) pe_int (fun _ _ => rfl)) pa_nil)))))) (pss_one (ps_set (i := 6) nd rfl (.inl rfl) (pe_callSR G_joined_name hr3 (by rfl) hm hk (fun σ => passAt tk σ) (pa_cons (pe_ix ix_listT (pv 1) pe_int (fun _ _ => rfl)) (pa_cons (pe_ix ix_listT (pv 1) pe_int (fun _ _ => rfl)) (pa_cons (pe_ix ix_listT (pv 1) pe_int (fun _ _ => rfl)) (pa_cons (pe_ix ix_listT (pv 1) pe_int (fun _ _ => rfl)) pa_nil)))))))))))))) (fun a oe cls d pn hz hf => (pss_one (ps_set (i := 7) nd rfl (.inl rfl) (pe_tup (pa_cons (pe_xf M.xf M.nw hz hf (pv 8)) (pa_cons (pe_xf M.xf M.nm hz hf (pv 8)) (pa_cons (pe_callB (call_isY hz) (by rfl) T.z_isinstance (by decide +kernel) (pa_cons (pv 8) (pa_cons (C8.pe_gc (by rfl) cD) pa_nil))) pa_nil))))))))
      (pss_cons (ps_if (pt_cmpR op_gt (pv 2) pe_int (nomark _)) (pss_one (ps_ret (pe_and (pe_cmpR op_eq (pe_callB (call_reprD hgd hr.units) (by rfl) T.z_repr (by decide +kernel) (pa_cons (pv 7) pa_nil)) (pe_callB (call_reprD hgd hr.units) (by rfl) T.z_repr (by decide +kernel) (pa_cons (pe_tup (pa_cons pe_str (pa_cons pe_int (pa_cons pe_bl pa_nil)))) pa_nil)) (nomark _)) (pe_one (pe_cmpR op_eq (pv 6) pe_str (nomark _)))))) pss_nil)
      (pss_one (ps_ret (pe_and (pe_cmpR (op_eqD hr.units) (pv 7) (pe_tup pa_nil) (nomark _)) (pe_and (pe_callB call_isi (by rfl) T.z_isinstance (by decide +kernel) (pa_cons (pv 6) (pa_cons (pe_bltn (v := .ty "str") (u := .type "str") (by rfl) T.z_str (by decide +kernel) rfl) pa_nil))) (pe_one (pe_cmpR op_eq (pv 6) (pe_join pe_str (pv 1)) (nomark _)))))))))))), ?_⟩
    refine ⟨Nat.zero_le _, fun p np => ⟨.ref p, .int 0, rfl, ?_⟩⟩
    have hpw := hW.off np
    refine ⟨.ref w, rfl, w, a, ns, N, 4, rfl, hW.same (same_new np), by omega, by decide, by decide, fun v H1 v0 v4 kp1 hW1 => ⟨1, v, rfl, rfl, 1 + v, rfl, by omega, by omega,
      for_range (lo := 0) (n := (1 + v).toNat) (fun i σ' H' => ∃ (zs : List Str) (y3 y4 y5 : Option V), σ' = [some (.ref w), some (.ref p), some (.int ((zs.map parts).sum : Nat)), y3, y4, y5, none, none, none] ∧
        H' p = some (.lst (zs.map V.str)) ∧ zs.length = i ∧ (∀ z ∈ zs, z.length ≤ 100) ∧ Wl ns w a (N + 1 + 50 * i) H' ∧ Kp w H H')
        ⟨[], none, none, none, rfl, kp1 _ _ hpw.1 upd_same, rfl, (fun _ h => nomatch h), hW1, (Kp.same (same_new np)).trans kp1⟩ (fun i σ' H2 hi hP => ?_) (fun σ' H2 hP => ?_)⟩⟩
    · obtain ⟨zs, y3, y4, y5, rfl, hp, hl, hz, hW2, kp2⟩ := hP
      refine ⟨.ref w, rfl, by show 4 ≤ sizeLine; decide, fun l nl => ⟨w, a, ns, _, hW2.same (same_new nl), by omega, .inl ⟨l, _, rfl, (hW2.off nl).1, upd_same, by show 0 < 4; decide, by show 4 ≤ 1000; decide, fun v H3 hv kp3 hW3 => ?_⟩⟩⟩
      obtain ⟨j, rfl, hj, hj1⟩ : ∃ j : Nat, v = .int j ∧ j ≤ 3 ∧ 1 ≤ j := by
        simp only [List.mem_cons, List.not_mem_nil, or_false] at hv
        rcases hv with rfl | rfl | rfl | rfl
        · exact ⟨1, rfl, by omega⟩
        · exact ⟨1, rfl, by omega⟩
        · exact ⟨2, rfl, by omega⟩
        · exact ⟨3, rfl, by omega⟩
      have hp3 : H3 p = some (.lst (zs.map V.str)) := kp3 _ _ hpw.1 (same_new nl _ _ hp)
      refine ⟨_, rfl, _, rfl, _, _, rfl, rfl, ?_⟩
      refine ⟨.ref p, rfl, .inl ⟨rfl, _, SqL.of hp3⟩, ⟨_, rfl⟩, .int j, rfl, j, rfl, by omega, by omega, fun D nD => lc_range (lo := 0) (n := (j : Int).toNat)
        (fun k H' => Wl ns w a (N + 1 + 50 * i + 1 + 14 * k) H' ∧ Kp w H3 H' ∧ ∃ ss : List Str, ss.length = k ∧ (∀ z ∈ ss, z.length ≤ 13 ∧ ∀ c ∈ z.cps.toList, signB c = true) ∧
          H' D = some (.lst (ss.map V.str))) ⟨hW3.same (same_new nD), (Kp.refl w H3).new nD, [], rfl, (fun _ h => nomatch h), upd_same⟩ (fun k H4 hk hP => ?_) (fun H4 hP => ?_)⟩
      · obtain ⟨hW4, kp4, ss, hsl, hss, hD⟩ := hP
        have hDw := hW3.off nD
        refine ⟨rfl, lc_yes ⟨.ref w, rfl, w, a, ns, _, rfl, hW4, by omega, fun z H5 hz5 kp5 hW5 => ⟨12, rfl, z, rfl, sm1000 (by have := hz5.2.1; omega), ?_⟩⟩⟩
        refine ⟨_, kp5 _ _ hDw.1 hD, ?_, (hW5.grow hDw.1 hDw.2).mono (by omega), (kp4.trans kp5).grow nD, ss ++ [cutS z none (some 12)], ?_, fun x hx => ?_, ?_⟩
        · rw [List.length_map]
          exact small1000 (by omega)
        · rw [List.length_append, hsl]
          rfl
        · rcases List.mem_append.mp hx with h | h
          · exact hss x h
          · rw [List.mem_singleton.mp h]
            exact ⟨Nat.le_trans (cutS_length _ _ _) hz5.2.1, cut_signs hz5.2.2 _ _⟩
        · rw [upd_same, List.map_append]
          rfl
      · obtain ⟨hW4, kp4, ss, hsl, hss, hD⟩ := hP
        have hDw := hW3.off nD
        have hjl : ss.length = j := by omega
        have hsum : (ss.map (·.length)).sum + ss.length * (Str.ofString ".").length ≤ 16777216 := by
          have := sum_le (fun z : Str => z.length) 13 ss fun z hz => (hss z hz).1
          rw [show (Str.ofString ".").length = 1 from rfl]
          omega
        have hT : (Txt.join (Str.ofString ".") ss).length ≤ 42 := by
          have := join_len (zs := ss) (k := 13) fun z hz => (hss z hz).1
          omega
        have hne : ss ≠ [] := fun z => by rw [z] at hjl; simp at hjl; omega
        have hpt : parts (Txt.join (Str.ofString ".") ss) = j := by rw [parts_join hne, sum_ones fun z hz => parts_stem (hss z hz).2, hjl]
        have hp4 := kp4 _ _ hpw.1 hp3
        have hn3 : H3 p ≠ none := by rw [hp3]; exact fun z => nomatch z
        refine ⟨".", D, ss, rfl, rfl, .inl (SqL.of hD), hsum, p, _, _, rfl, rfl, hp4, ?_, zs ++ [Txt.join (Str.ofString ".") ss], some (.int (0 + (i : Nat))), some (.int (j : Nat)), y5, ?_, ?_, ?_, fun x hx => ?_, ?_, ?_⟩
        · rw [List.length_map]
          exact small1000 (by omega)
        · rw [List.map_append, List.sum_append, List.map_singleton, hpt, List.sum_singleton]
          rfl
        · rw [upd_same, List.map_append]
          rfl
        · rw [List.length_append, hl]
          rfl
        · rcases List.mem_append.mp hx with h | h
          · exact hz x h
          · rw [List.mem_singleton.mp h]
            omega
        · exact (hW4.grow hpw.1 hpw.2).mono (by omega)
        · exact ((kp2.trans (Kp.same (same_new nl))).trans (kp3.trans kp4)).grow np
    · obtain ⟨zs, y3, y4, y5, rfl, hp, hl, hz, hW2, kp2⟩ := hP
      have hn4 : zs.length ≤ 4 := by omega
      have hne : zs ≠ [] := fun z => by rw [z] at hl; simp at hl; omega
      have hpt : parts (Txt.join (Str.ofString ".") zs) = (zs.map parts).sum := parts_join hne
      have hdp : (dotp [] (Txt.join (Str.ofString ".") zs).cps.toList).length = (zs.map parts).sum := by rw [← hpt]; exact dotp_count _ _
      refine ⟨Nat.zero_le _, fun p7 n7 => ⟨by show 2 ≤ sizeLine; decide, fun t nt => ⟨t, _, rfl, SqT.of upd_same, rfl, _, _, rfl, _, _, rfl, rfl, ?_⟩⟩⟩
      generalize hT : (zs.map parts).sum = tot at hpt hdp
      have s7 := same_new n7 (o := .tup [])
      have st := same_new nt (o := .tup [.str "", .ref p7])
      have s4 := s7.trans st
      have hp4 := s4 _ _ hp
      have hp7 := st _ _ upd_same
      generalize upd (upd H2 p7 (.tup [])) t (.tup [.str "", .ref p7]) = H4 at s4 hp4 hp7
      refine ⟨fun σ' H' => ∃ (z : Str) (pf : Addr), σ' = [some (.ref w), some (.ref p), some (.int (tot : Nat)), y3, y4, y5, some (.str z), some (.ref pf), none] ∧ Same H4 H' ∧
        ((tot ≤ 6 ∧ z = Txt.join (Str.ofString ".") zs ∧ H' pf = some (.tup [])) ∨ (¬ tot ≤ 6 ∧ z = "" ∧ H' pf = some (.tup [.str "stems", .int 6, .bl true]))), ?_, ?_⟩
      · have J : ∀ (Q' : VK) (E' : XK), (tot ≤ 6 → ∀ H', Same H4 H' → Q' (.str (Txt.join (Str.ofString ".") zs)) H') →
            (¬ tot ≤ 6 → ∀ (d : Addr) (H' : Hp), H4 d = none → Same H4 H' → H' d = some (.xd tmF) → E' (.ref C) (some d) H') → spJn C (zs.map V.str) H4 Q' E' :=
          fun Q' E' h1 h2 => ⟨zs, rfl, hn4, hz, fun h => h1 (by rw [← hdp]; exact h), fun h => h2 (by rw [← hdp]; exact h)⟩
        rcases zs with _ | ⟨z1, _ | ⟨z2, _ | ⟨z3, _ | ⟨z4, _ | ⟨z5, r⟩⟩⟩⟩⟩
        · exact absurd rfl hne
        · refine ⟨.ref p, rfl, .ref p, _, rfl, .inl ⟨_, SqL.of hp4, rfl⟩, rfl, _, rfl, ite2 (fun _ => ?_) (fun e => absurd rfl e)⟩
          refine ⟨.ref p, rfl, p, _, 0, _, rfl, rfl, SqL.of hp4, rfl, ?_⟩
          dsimp only [tNil]
          refine J _ _ (fun h H' s' => ⟨_, p7, rfl, s', .inl ⟨h, rfl, s' _ _ hp7⟩⟩) (fun h d H' nd s' hd => ⟨true, M.te, fun _ a0 na => ?_, fun z => Bool.noConfusion z⟩)
          refine ⟨.ref a0, rfl, rfl, rfl, d, tmF, .str "stems", rfl, hd, rfl, .ref a0, rfl, rfl, rfl, d, tmF, .int 6, rfl, hd, rfl, .ref a0, rfl, .ref D, _, rfl, (fun u r => r), M.kd, by show 3 ≤ sizeLine; decide, fun pf npf => ?_⟩
          exact ⟨"", pf, rfl, s'.trans (same_new npf), .inr ⟨h, rfl, upd_same⟩⟩
        · refine ⟨.ref p, rfl, .ref p, _, rfl, .inl ⟨_, SqL.of hp4, rfl⟩, rfl, _, rfl, ite2 (fun e => nomatch e) (fun _ => ?_)⟩
          refine ⟨.ref p, rfl, .ref p, _, rfl, .inl ⟨_, SqL.of hp4, rfl⟩, rfl, _, rfl, ite2 (fun _ => ?_) (fun e => absurd rfl e)⟩
          refine ⟨.ref p, rfl, p, _, 0, _, rfl, rfl, SqL.of hp4, rfl, .ref p, rfl, p, _, 1, _, rfl, rfl, SqL.of hp4, rfl, ?_⟩
          dsimp only [tNil]
          refine J _ _ (fun h H' s' => ⟨_, p7, rfl, s', .inl ⟨h, rfl, s' _ _ hp7⟩⟩) (fun h d H' nd s' hd => ⟨true, M.te, fun _ a0 na => ?_, fun z => Bool.noConfusion z⟩)
          refine ⟨.ref a0, rfl, rfl, rfl, d, tmF, .str "stems", rfl, hd, rfl, .ref a0, rfl, rfl, rfl, d, tmF, .int 6, rfl, hd, rfl, .ref a0, rfl, .ref D, _, rfl, (fun u r => r), M.kd, by show 3 ≤ sizeLine; decide, fun pf npf => ?_⟩
          exact ⟨"", pf, rfl, s'.trans (same_new npf), .inr ⟨h, rfl, upd_same⟩⟩
        · refine ⟨.ref p, rfl, .ref p, _, rfl, .inl ⟨_, SqL.of hp4, rfl⟩, rfl, _, rfl, ite2 (fun e => nomatch e) (fun _ => ?_)⟩
          refine ⟨.ref p, rfl, .ref p, _, rfl, .inl ⟨_, SqL.of hp4, rfl⟩, rfl, _, rfl, ite2 (fun e => nomatch e) (fun _ => ?_)⟩
          refine ⟨.ref p, rfl, .ref p, _, rfl, .inl ⟨_, SqL.of hp4, rfl⟩, rfl, _, rfl, ite2 (fun _ => ?_) (fun e => absurd rfl e)⟩
          refine ⟨.ref p, rfl, p, _, 0, _, rfl, rfl, SqL.of hp4, rfl, .ref p, rfl, p, _, 1, _, rfl, rfl, SqL.of hp4, rfl, .ref p, rfl, p, _, 2, _, rfl, rfl, SqL.of hp4, rfl, ?_⟩
          dsimp only [tNil]
          refine J _ _ (fun h H' s' => ⟨_, p7, rfl, s', .inl ⟨h, rfl, s' _ _ hp7⟩⟩) (fun h d H' nd s' hd => ⟨true, M.te, fun _ a0 na => ?_, fun z => Bool.noConfusion z⟩)
          refine ⟨.ref a0, rfl, rfl, rfl, d, tmF, .str "stems", rfl, hd, rfl, .ref a0, rfl, rfl, rfl, d, tmF, .int 6, rfl, hd, rfl, .ref a0, rfl, .ref D, _, rfl, (fun u r => r), M.kd, by show 3 ≤ sizeLine; decide, fun pf npf => ?_⟩
          exact ⟨"", pf, rfl, s'.trans (same_new npf), .inr ⟨h, rfl, upd_same⟩⟩
        · refine ⟨.ref p, rfl, .ref p, _, rfl, .inl ⟨_, SqL.of hp4, rfl⟩, rfl, _, rfl, ite2 (fun e => nomatch e) (fun _ => ?_)⟩
          refine ⟨.ref p, rfl, .ref p, _, rfl, .inl ⟨_, SqL.of hp4, rfl⟩, rfl, _, rfl, ite2 (fun e => nomatch e) (fun _ => ?_)⟩
          refine ⟨.ref p, rfl, .ref p, _, rfl, .inl ⟨_, SqL.of hp4, rfl⟩, rfl, _, rfl, ite2 (fun e => nomatch e) (fun _ => ?_)⟩
          refine ⟨.ref p, rfl, p, _, 0, _, rfl, rfl, SqL.of hp4, rfl, .ref p, rfl, p, _, 1, _, rfl, rfl, SqL.of hp4, rfl, .ref p, rfl, p, _, 2, _, rfl, rfl, SqL.of hp4, rfl, .ref p, rfl, p, _, 3, _, rfl, rfl, SqL.of hp4, rfl, ?_⟩
          dsimp only [tNil]
          refine J _ _ (fun h H' s' => ⟨_, p7, rfl, s', .inl ⟨h, rfl, s' _ _ hp7⟩⟩) (fun h d H' nd s' hd => ⟨true, M.te, fun _ a0 na => ?_, fun z => Bool.noConfusion z⟩)
          refine ⟨.ref a0, rfl, rfl, rfl, d, tmF, .str "stems", rfl, hd, rfl, .ref a0, rfl, rfl, rfl, d, tmF, .int 6, rfl, hd, rfl, .ref a0, rfl, .ref D, _, rfl, (fun u r => r), M.kd, by show 3 ≤ sizeLine; decide, fun pf npf => ?_⟩
          exact ⟨"", pf, rfl, s'.trans (same_new npf), .inr ⟨h, rfl, upd_same⟩⟩
        · simp at hn4
      · rintro σ5 H5 ⟨z, pf, rfl, s5, hz5⟩
        have fin : ∀ H6, Same H5 H6 → Q (.bl true) H6 := fun H6 s6 => q H6 (kp2.trans (Kp.same ((s4.trans s5).trans s6))) ((hW2.same ((s4.trans s5).trans s6)).mono (by omega))
        refine ⟨.int (tot : Nat), rfl, _, _, rfl, rfl, _, rfl, ite2 (fun e => ?_) (fun e => ?_)⟩
        · have h6 : ¬ tot ≤ 6 := by
            have := of_decide_eq_true e
            omega
          obtain ⟨h, _⟩ | ⟨_, rfl, hpf⟩ := hz5
          · exact absurd h h6
          refine ⟨.ref pf, rfl, pf, _, rfl, .tup (SqT.of hpf) (.cons (.str _) (.cons (.int _) (.cons (.bl _) .nil))), rfl, rfl, by decide, sm1000 (by decide +kernel), by show 3 ≤ sizeLine; decide, fun u nu => ⟨u, _, rfl, .tup (SqT.of upd_same) (.cons (.str _) (.cons (.int _) (.cons (.bl _) .nil))), rfl, rfl, by decide, sm1000 (by decide +kernel), rfl, _, rfl, ite2 (fun _ => ?_) (fun e => absurd (decide_eq_true rfl) e)⟩⟩
          refine ⟨.str "", rfl, rfl, ?_⟩
          rw [decide_eq_true rfl]
          exact fin _ (same_new nu)
        · have h6 : tot ≤ 6 := by
            refine Classical.byContradiction fun z => e (decide_eq_true ?_)
            omega
          obtain ⟨_, rfl, hpf⟩ : tot ≤ 6 ∧ z = Txt.join (Str.ofString ".") zs ∧ H5 pf = some (.tup []) := hz5.resolve_right fun h => h.1 h6
          refine ⟨.ref pf, rfl, Nat.zero_le _, fun u nu => ⟨.tuple [], .tuple [], .tup (SqT.of (same_new nu _ _ hpf)) .nil, .tup (SqT.of upd_same) .nil, rfl, rfl, _, rfl, iteT ?_⟩⟩
          refine ⟨.str _, rfl, .str _, .ty "str", .type "str", .type "str", true, rfl, .ty _, .base (.str _), kit_ty (by decide +kernel), _, rfl, iteT ?_⟩
          refine ⟨.str _, rfl, ⟨_, rfl⟩, .ref p, rfl, ".", p, zs, rfl, rfl, .inl (SqL.of (same_new nu _ _ (s5 _ _ hp4))), ?_, rfl, ?_⟩
          · have := sum_le (fun z : Str => z.length) 100 zs hz
            rw [show (Str.ofString ".").length = 1 from rfl]
            omega
          · rw [decide_eq_true rfl]
            exact fin _ (same_new nu)
end
end K01

set_option Elab.async false
set_option linter.all false
set_option maxRecDepth 100000
set_option maxHeartbeats 1000000
namespace K01
open PySem PySem.Spec PyProof.Rows L2 Gd
def spLaw (K : PySem.W.Frag) : Sp := fun vs H Q _ => ∃ (s : Addr) (ns : List Int), vs = [.ref s] ∧ SqL K H s (ns.map V.int) ∧ ns.length ≤ 63 ∧ ∀ H' : Hp, Q (.bl true) H'
section
variable {P : Program} {w : World} {K : PySem.W.Frag} {mg : Str → Option Value} {base : Heap}
theorem ok_law {f : Addr} {fd : FuncData} (F : C8.Def K mg "law" slaw f fd) (T : Txt K mg) (G__law_well : Cal P w K mg base 1 "_law_well" (spWell K)) (G__law_text_right : Cal P w K mg base 5 "_law_text_right" spRight) (G__law_number_right : Cal P w K mg base 5 "_law_number_right" spRight)
    (G__law_odd_right : Cal P w K mg base 5 "_law_odd_right" spRight) (G__law_joined_right : Cal P w K mg base 5 "_law_joined_right" spRight) : FnG P w K mg base CX0 6 f fd ["_law_script"] (spLaw K) := by
  refine fnG_of F.fn sclaw (fun vs H Q E h => ?_) (fun cdv A outer s H vs Q E hgd hr h => ?_)
  · obtain ⟨s, ns, rfl, _⟩ := h
    rfl
  · have nd := sclaw.nd
    obtain ⟨s, ns, rfl, hs, hl, q⟩ := h
    refine ⟨_, PSs.nox (pss_cons (ps_set (i := 1) nd rfl (.inl rfl) (pc G__law_well hgd hr (by decide) (by rfl) (pa_cons (pv 0) pa_nil)))
      (pss_cons (ps_for PassesOwn.never rfl (pi_range1 rfl T.z_range (pa_cons pe_int pa_nil)) (pg_name (i := 2) nd rfl (Or.inl rfl)) (pss_cons (ps_if (PW.pt (pw_or (pt_not (pt_val (pc G__law_text_right hgd hr (by decide) (by rfl) (pa_cons (pv 1) pa_nil)))) (pw_or1 (pt_not (pt_val (pc G__law_number_right hgd hr (by decide) (by rfl) (pa_cons (pv 1) pa_nil))))))) (pss_one (ps_ret pe_bl)) pss_nil)
      (pss_one (ps_if (PW.pt (pw_or (pt_not (pt_val (pc G__law_odd_right hgd hr (by decide) (by rfl) (pa_cons (pv 1) pa_nil)))) (pw_or1 (pt_not (pt_val (pc G__law_joined_right hgd hr (by decide) (by rfl) (pa_cons (pv 1) pa_nil))))))) (pss_one (ps_ret pe_bl)) pss_nil))))
      (pss_one (ps_ret pe_bl)))), ?_⟩
    refine ⟨.ref s, rfl, s, ns, rfl, hs, hl, fun w a H1 s1 nw hW => ⟨9, rfl, by decide, by decide,
      for_range (lo := 0) (n := 9) (fun i σ' H' => ∃ y, σ' = [some (.ref s), some (.ref w), y] ∧ Wl ns w a (2000 * i) H') ⟨none, rfl, hW⟩ (fun i σ' H2 hi hP => ?_) (fun σ' H2 hP => ?_)⟩⟩
    · obtain ⟨y, rfl, hW2⟩ := hP
      refine ⟨.ref w, rfl, w, a, ns, _, rfl, hW2, by omega, fun H3 _ hW3 => ⟨_, rfl, ite2 (fun e => nomatch e) (fun _ => ?_)⟩⟩
      refine ⟨.ref w, rfl, w, a, ns, _, rfl, hW3, by omega, fun H4 _ hW4 => ⟨_, rfl, ite2 (fun e => nomatch e) (fun _ => ?_)⟩⟩
      refine ⟨.ref w, rfl, w, a, ns, _, rfl, hW4, by omega, fun H5 _ hW5 => ⟨_, rfl, ite2 (fun e => nomatch e) (fun _ => ?_)⟩⟩
      refine ⟨.ref w, rfl, w, a, ns, _, rfl, hW5, by omega, fun H6 _ hW6 => ⟨_, rfl, ite2 (fun e => nomatch e) (fun _ => ?_)⟩⟩
      exact ⟨_, rfl, hW6.mono (by omega)⟩
    · obtain ⟨y, rfl, hW2⟩ := hP
      exact q _
end
end K01

set_option Elab.async false
set_option linter.all false
set_option maxRecDepth 100000
set_option maxHeartbeats 4000000
namespace K01
open PySem PySem.Spec PyProof.Rows L2 Gd
theorem kit_sub {K : PySem.W.Frag} {C D : Addr} (h1 : PySem.W.isClsIn K D = true) (h2 : PySem.W.typeIn K (.ref D) = some (.type "type")) (h3 : PySem.W.subIn K (.ref C) (.ref D) = some true) : PySem.W.kitOne K (.ref C) (.ref D) = some true := by
  unfold PySem.W.kitOne
  by_cases e : (Value.ref C == Value.ref D) = true
  · rw [if_pos e]
  · rw [if_neg e]
    have h1' : (PySem.W.clsIn K D).isSome = true := h1
    show (if ((PySem.W.clsIn K D).isSome && PySem.W.typeIn K (.ref D) == some (.type "type")) = true then PySem.W.subIn K (.ref C) (.ref D) else none) = some true
    rw [h1', h2, h3]
    rfl
theorem all_mk {P : Program} {w : World} {K : PySem.W.Frag} {h : Heap} {mg : Str → Option Value} {fa : Addr} (X : K.In h) (G : h.Ns mainGlobals mg) (hfa : mg "law" = some (.ref fa))
    {f0 : Addr} {od0 an0 : Option Addr} {sl0 : Array (Option Value)} {oc0 kV0 dc0 pm0 cd0 ct0 : Value}
    {f1 : Addr} {od1 an1 : Option Addr} {sl1 : Array (Option Value)} {oc1 kV1 dc1 pm1 cd1 ct1 : Value}
    {f2 : Addr} {od2 an2 : Option Addr} {sl2 : Array (Option Value)} {oc2 kV2 dc2 pm2 cd2 ct2 : Value}
    {f3 : Addr} {od3 an3 : Option Addr} {sl3 : Array (Option Value)} {oc3 kV3 dc3 pm3 cd3 ct3 : Value}
    {f4 : Addr} {od4 an4 : Option Addr} {sl4 : Array (Option Value)} {oc4 kV4 dc4 pm4 cd4 ct4 : Value}
    {f5 : Addr} {od5 an5 : Option Addr} {sl5 : Array (Option Value)} {oc5 kV5 dc5 pm5 cd5 ct5 : Value}
    {f6 : Addr} {od6 an6 : Option Addr} {sl6 : Array (Option Value)} {oc6 kV6 dc6 pm6 cd6 ct6 : Value}
    {f7 : Addr} {od7 an7 : Option Addr} {sl7 : Array (Option Value)} {oc7 kV7 dc7 pm7 cd7 ct7 : Value}
    {f8 : Addr} {od8 an8 : Option Addr} {sl8 : Array (Option Value)} {oc8 kV8 dc8 pm8 cd8 ct8 : Value}
    {f9 : Addr} {od9 an9 : Option Addr} {sl9 : Array (Option Value)} {oc9 kV9 dc9 pm9 cd9 ct9 : Value}
    {f10 : Addr} {od10 an10 : Option Addr} {sl10 : Array (Option Value)} {oc10 kV10 dc10 pm10 cd10 ct10 : Value}
    {f11 : Addr} {od11 an11 : Option Addr} {sl11 : Array (Option Value)} {oc11 kV11 dc11 pm11 cd11 ct11 : Value}
    {f12 : Addr} {od12 an12 : Option Addr} {sl12 : Array (Option Value)} {oc12 kV12 dc12 pm12 cd12 ct12 : Value}
    {f13 : Addr} {od13 an13 : Option Addr} {sl13 : Array (Option Value)} {oc13 kV13 dc13 pm13 cd13 ct13 : Value}
    {f14 : Addr} {od14 an14 : Option Addr} {sl14 : Array (Option Value)} {oc14 kV14 dc14 pm14 cd14 ct14 : Value}
    {f15 : Addr} {od15 an15 : Option Addr} {sl15 : Array (Option Value)} {oc15 kV15 dc15 pm15 cd15 ct15 : Value}
    {f16 : Addr} {od16 an16 : Option Addr} {sl16 : Array (Option Value)} {oc16 kV16 dc16 pm16 cd16 ct16 : Value}
    {f17 : Addr} {od17 an17 : Option Addr} {sl17 : Array (Option Value)} {oc17 kV17 dc17 pm17 cd17 ct17 : Value}
    {t_LETTERS : Tok}
    {t_DIGITS : Tok}
    {t_MOST_STEMS : Tok}
    {t_MOST_CHARACTERS : Tok}
    {C D fI N : Addr} {nm q : Str} {bs : List Value} {sn : List Str} {sub : List Value} {ab : Bool} {col : Option Bool} {dd : Option Addr} {m0 m1 m2 m3 m5 : Option Value}
    {odi ani : Option Addr} {sli : Array (Option Value)} {oci kVi dci pmi cdi cti : Value}
    (a0 : PySem.W.nsIn K mainGlobals "is_integer" = some (some (.ref f0)))
    (l0 : K.lookup f0 = some ⟨oc0, od0, .func (PySem.W.fnOf "is_integer" "is_integer" (C8.fnArgs sis_integer) (C8.fnBody sis_integer) (C8.fnScope sis_integer) .none kV0 dc0 pm0 an0 cd0 ct0), sl0⟩)
    (c0 : PySem.W.codeIn K cd0 "is_integer" = true)
    (k0 : PySem.W.keepIn K (.ref f0) = true)
    (a1 : PySem.W.nsIn K mainGlobals "is_within" = some (some (.ref f1)))
    (l1 : K.lookup f1 = some ⟨oc1, od1, .func (PySem.W.fnOf "is_within" "is_within" (C8.fnArgs sis_within) (C8.fnBody sis_within) (C8.fnScope sis_within) .none kV1 dc1 pm1 an1 cd1 ct1), sl1⟩)
    (c1 : PySem.W.codeIn K cd1 "is_within" = true)
    (k1 : PySem.W.keepIn K (.ref f1) = true)
    (a2 : PySem.W.nsIn K mainGlobals "is_stem" = some (some (.ref f2)))
    (l2 : K.lookup f2 = some ⟨oc2, od2, .func (PySem.W.fnOf "is_stem" "is_stem" (C8.fnArgs sis_stem) (C8.fnBody sis_stem) (C8.fnScope sis_stem) .none kV2 dc2 pm2 an2 cd2 ct2), sl2⟩)
    (c2 : PySem.W.codeIn K cd2 "is_stem" = true)
    (k2 : PySem.W.keepIn K (.ref f2) = true)
    (a3 : PySem.W.nsIn K mainGlobals "is_name" = some (some (.ref f3)))
    (l3 : K.lookup f3 = some ⟨oc3, od3, .func (PySem.W.fnOf "is_name" "is_name" (C8.fnArgs sis_name) (C8.fnBody sis_name) (C8.fnScope sis_name) .none kV3 dc3 pm3 an3 cd3 ct3), sl3⟩)
    (c3 : PySem.W.codeIn K cd3 "is_name" = true)
    (k3 : PySem.W.keepIn K (.ref f3) = true)
    (a4 : PySem.W.nsIn K mainGlobals "_law_well" = some (some (.ref f4)))
    (l4 : K.lookup f4 = some ⟨oc4, od4, .func (PySem.W.fnOf "_law_well" "_law_well" (C8.fnArgs s_law_well) (C8.fnBody s_law_well) (C8.fnScope s_law_well) .none kV4 dc4 pm4 an4 cd4 ct4), sl4⟩)
    (c4 : PySem.W.codeIn K cd4 "_law_well" = true)
    (k4 : PySem.W.keepIn K (.ref f4) = true)
    (a5 : PySem.W.nsIn K mainGlobals "_law_dip" = some (some (.ref f5)))
    (l5 : K.lookup f5 = some ⟨oc5, od5, .func (PySem.W.fnOf "_law_dip" "_law_dip" (C8.fnArgs s_law_dip) (C8.fnBody s_law_dip) (C8.fnScope s_law_dip) .none kV5 dc5 pm5 an5 cd5 ct5), sl5⟩)
    (c5 : PySem.W.codeIn K cd5 "_law_dip" = true)
    (k5 : PySem.W.keepIn K (.ref f5) = true)
    (a6 : PySem.W.nsIn K mainGlobals "_law_pick" = some (some (.ref f6)))
    (l6 : K.lookup f6 = some ⟨oc6, od6, .func (PySem.W.fnOf "_law_pick" "_law_pick" (C8.fnArgs s_law_pick) (C8.fnBody s_law_pick) (C8.fnScope s_law_pick) .none kV6 dc6 pm6 an6 cd6 ct6), sl6⟩)
    (c6 : PySem.W.codeIn K cd6 "_law_pick" = true)
    (k6 : PySem.W.keepIn K (.ref f6) = true)
    (a7 : PySem.W.nsIn K mainGlobals "_law_alphabet" = some (some (.ref f7)))
    (l7 : K.lookup f7 = some ⟨oc7, od7, .func (PySem.W.fnOf "_law_alphabet" "_law_alphabet" (C8.fnArgs s_law_alphabet) (C8.fnBody s_law_alphabet) (C8.fnScope s_law_alphabet) .none kV7 dc7 pm7 an7 cd7 ct7), sl7⟩)
    (c7 : PySem.W.codeIn K cd7 "_law_alphabet" = true)
    (k7 : PySem.W.keepIn K (.ref f7) = true)
    (a8 : PySem.W.nsIn K mainGlobals "_law_stem" = some (some (.ref f8)))
    (l8 : K.lookup f8 = some ⟨oc8, od8, .func (PySem.W.fnOf "_law_stem" "_law_stem" (C8.fnArgs s_law_stem) (C8.fnBody s_law_stem) (C8.fnScope s_law_stem) .none kV8 dc8 pm8 an8 cd8 ct8), sl8⟩)
    (c8 : PySem.W.codeIn K cd8 "_law_stem" = true)
    (k8 : PySem.W.keepIn K (.ref f8) = true)
    (a9 : PySem.W.nsIn K mainGlobals "_law_text" = some (some (.ref f9)))
    (l9 : K.lookup f9 = some ⟨oc9, od9, .func (PySem.W.fnOf "_law_text" "_law_text" (C8.fnArgs s_law_text) (C8.fnBody s_law_text) (C8.fnScope s_law_text) .none kV9 dc9 pm9 an9 cd9 ct9), sl9⟩)
    (c9 : PySem.W.codeIn K cd9 "_law_text" = true)
    (k9 : PySem.W.keepIn K (.ref f9) = true)
    (a10 : PySem.W.nsIn K mainGlobals "_law_sound" = some (some (.ref f10)))
    (l10 : K.lookup f10 = some ⟨oc10, od10, .func (PySem.W.fnOf "_law_sound" "_law_sound" (C8.fnArgs s_law_sound) (C8.fnBody s_law_sound) (C8.fnScope s_law_sound) .none kV10 dc10 pm10 an10 cd10 ct10), sl10⟩)
    (c10 : PySem.W.codeIn K cd10 "_law_sound" = true)
    (k10 : PySem.W.keepIn K (.ref f10) = true)
    (a11 : PySem.W.nsIn K mainGlobals "_law_stems" = some (some (.ref f11)))
    (l11 : K.lookup f11 = some ⟨oc11, od11, .func (PySem.W.fnOf "_law_stems" "_law_stems" (C8.fnArgs s_law_stems) (C8.fnBody s_law_stems) (C8.fnScope s_law_stems) .none kV11 dc11 pm11 an11 cd11 ct11), sl11⟩)
    (c11 : PySem.W.codeIn K cd11 "_law_stems" = true)
    (k11 : PySem.W.keepIn K (.ref f11) = true)
    (a12 : PySem.W.nsIn K mainGlobals "_law_text_right" = some (some (.ref f12)))
    (l12 : K.lookup f12 = some ⟨oc12, od12, .func (PySem.W.fnOf "_law_text_right" "_law_text_right" (C8.fnArgs s_law_text_right) (C8.fnBody s_law_text_right) (C8.fnScope s_law_text_right) .none kV12 dc12 pm12 an12 cd12 ct12), sl12⟩)
    (c12 : PySem.W.codeIn K cd12 "_law_text_right" = true)
    (k12 : PySem.W.keepIn K (.ref f12) = true)
    (a13 : PySem.W.nsIn K mainGlobals "_law_number_right" = some (some (.ref f13)))
    (l13 : K.lookup f13 = some ⟨oc13, od13, .func (PySem.W.fnOf "_law_number_right" "_law_number_right" (C8.fnArgs s_law_number_right) (C8.fnBody s_law_number_right) (C8.fnScope s_law_number_right) .none kV13 dc13 pm13 an13 cd13 ct13), sl13⟩)
    (c13 : PySem.W.codeIn K cd13 "_law_number_right" = true)
    (k13 : PySem.W.keepIn K (.ref f13) = true)
    (a14 : PySem.W.nsIn K mainGlobals "_law_odd_right" = some (some (.ref f14)))
    (l14 : K.lookup f14 = some ⟨oc14, od14, .func (PySem.W.fnOf "_law_odd_right" "_law_odd_right" (C8.fnArgs s_law_odd_right) (C8.fnBody s_law_odd_right) (C8.fnScope s_law_odd_right) .none kV14 dc14 pm14 an14 cd14 ct14), sl14⟩)
    (c14 : PySem.W.codeIn K cd14 "_law_odd_right" = true)
    (k14 : PySem.W.keepIn K (.ref f14) = true)
    (a15 : PySem.W.nsIn K mainGlobals "_law_joined_right" = some (some (.ref f15)))
    (l15 : K.lookup f15 = some ⟨oc15, od15, .func (PySem.W.fnOf "_law_joined_right" "_law_joined_right" (C8.fnArgs s_law_joined_right) (C8.fnBody s_law_joined_right) (C8.fnScope s_law_joined_right) .none kV15 dc15 pm15 an15 cd15 ct15), sl15⟩)
    (c15 : PySem.W.codeIn K cd15 "_law_joined_right" = true)
    (k15 : PySem.W.keepIn K (.ref f15) = true)
    (a16 : PySem.W.nsIn K mainGlobals "law" = some (some (.ref f16)))
    (l16 : K.lookup f16 = some ⟨oc16, od16, .func (PySem.W.fnOf "law" "law" (C8.fnArgs slaw) (C8.fnBody slaw) (C8.fnScope slaw) .none kV16 dc16 pm16 an16 cd16 ct16), sl16⟩)
    (c16 : PySem.W.codeIn K cd16 "law" = true)
    (k16 : PySem.W.keepIn K (.ref f16) = true)
    (a17 : PySem.W.nsIn K mainGlobals "joined_name" = some (some (.ref f17)))
    (l17 : K.lookup f17 = some ⟨oc17, od17, .func (PySem.W.fnOf "joined_name" "joined_name" (C8.fnArgs sjoined_name) (C8.fnBody sjoined_name) (C8.fnScope sjoined_name) .none kV17 dc17 pm17 an17 cd17 ct17), sl17⟩)
    (c17 : PySem.W.codeIn K cd17 "joined_name" = true)
    (k17 : PySem.W.keepIn K (.ref f17) = true)
    (z_len : PySem.W.nsIn K mainGlobals "len" = some none)
    (z_int : PySem.W.nsIn K mainGlobals "int" = some none)
    (z_abs : PySem.W.nsIn K mainGlobals "abs" = some none)
    (z_isinstance : PySem.W.nsIn K mainGlobals "isinstance" = some none)
    (z_repr : PySem.W.nsIn K mainGlobals "repr" = some none)
    (z_all : PySem.W.nsIn K mainGlobals "all" = some none)
    (z_range : PySem.W.nsIn K mainGlobals "range" = some none)
    (z_enumerate : PySem.W.nsIn K mainGlobals "enumerate" = some none)
    (z_str : PySem.W.nsIn K mainGlobals "str" = some none)
    (z_bool : PySem.W.nsIn K mainGlobals "bool" = some none)
    (g_LETTERS : PySem.W.nsIn K mainGlobals "LETTERS" = some (some (.str "abcdefghijklmnopqrstuvwxyz" t_LETTERS)))
    (g_DIGITS : PySem.W.nsIn K mainGlobals "DIGITS" = some (some (.str "0123456789" t_DIGITS)))
    (g_MOST_STEMS : PySem.W.nsIn K mainGlobals "MOST_STEMS" = some (some (.int 6 t_MOST_STEMS)))
    (g_MOST_CHARACTERS : PySem.W.nsIn K mainGlobals "MOST_CHARACTERS" = some (some (.int 12 t_MOST_CHARACTERS)))
    (aC : PySem.W.nsIn K mainGlobals "TooMany" = some (some (.ref C)))
    (aD : PySem.W.nsIn K mainGlobals "DimError" = some (some (.ref D)))
    (xL : K.lookup C = some (excClassObj nm q C N bs [.ref D, .type "ValueError", .type "Exception", .type "BaseException", .type "object"] true sn sub ab col dd m0 m1 m2 m3 m5 "ValueError.__new__"))
    (sa : PySem.W.findIn K (.ref C) "__setattr__" = some (some (.builtin "object.__setattr__")))
    (ga : PySem.W.findIn K (.ref C) "__getattribute__" = some (some (.builtin "BaseException.__getattribute__")))
    (gg : PySem.W.findIn K (.ref C) "__getattr__" = some none)
    (nw : PySem.W.findIn K (.ref C) "what" = some none)
    (no : PySem.W.findIn K (.ref C) "most" = some none)
    (ai : PySem.W.findIn K (.ref C) "__init__" = some (some (.ref fI)))
    (ti : PySem.W.typeIn K (.ref fI) = some (.type "function"))
    (li : K.lookup fI = some ⟨oci, odi, .func (PySem.W.fnOf "__init__" "TooMany.__init__" (C8.fnArgs sIni) (C8.fnBody sIni) (C8.fnScope sIni) .none kVi dci pmi ani cdi cti), sli⟩)
    (ci : PySem.W.codeIn K cdi "TooMany.__init__" = true)
    (kC : PySem.W.keepIn K (.ref C) = true)
    (eC : PySem.W.subIn K (.ref C) (.type "BaseException") = some true)
    (tC : PySem.W.typeIn K (.ref C) = some (.type "type"))
    (hC : PySem.W.hasDictIn K C = true)
    (sC : PySem.W.subIn K (.ref C) (.ref C) = some true)
    (iD : PySem.W.isClsIn K D = true)
    (tD : PySem.W.typeIn K (.ref D) = some (.type "type"))
    (sD : PySem.W.subIn K (.ref C) (.ref D) = some true)
    : ∃ fd : FuncData, (∀ (s : Shared) (u : Value), BindsTo s fd ⟨[u], []⟩ [("_law_script", u)]) ∧ ∀ base : Heap, K.In base → base.Ns mainGlobals mg → FnG P w K mg base CX0 6 fa fd ["_law_script"] (spLaw K) := by
  have e := hfa.symm.trans (PySem.W.mg_of X G a16)
  cases e
  have F0 : C8.Fun K "is_integer" "is_integer" sis_integer f0 _ := ⟨oc0, od0, .none, kV0, dc0, pm0, an0, cd0, ct0, sl0, rfl, l0, c0⟩
  have b0 := F0.binds rfl (ps := ["value"]) fun _ _ _ _ _ _ us hl => match us, hl with | [_], _ => rfl
  have F1 : C8.Fun K "is_within" "is_within" sis_within f1 _ := ⟨oc1, od1, .none, kV1, dc1, pm1, an1, cd1, ct1, sl1, rfl, l1, c1⟩
  have b1 := F1.binds rfl (ps := ["value", "least", "most"]) fun _ _ _ _ _ _ us hl => match us, hl with | [_, _, _], _ => rfl
  have F2 : C8.Fun K "is_stem" "is_stem" sis_stem f2 _ := ⟨oc2, od2, .none, kV2, dc2, pm2, an2, cd2, ct2, sl2, rfl, l2, c2⟩
  have b2 := F2.binds rfl (ps := ["value"]) fun _ _ _ _ _ _ us hl => match us, hl with | [_], _ => rfl
  have F3 : C8.Fun K "is_name" "is_name" sis_name f3 _ := ⟨oc3, od3, .none, kV3, dc3, pm3, an3, cd3, ct3, sl3, rfl, l3, c3⟩
  have b3 := F3.binds rfl (ps := ["value"]) fun _ _ _ _ _ _ us hl => match us, hl with | [_], _ => rfl
  have F4 : C8.Fun K "_law_well" "_law_well" s_law_well f4 _ := ⟨oc4, od4, .none, kV4, dc4, pm4, an4, cd4, ct4, sl4, rfl, l4, c4⟩
  have b4 := F4.binds rfl (ps := ["_law_script"]) fun _ _ _ _ _ _ us hl => match us, hl with | [_], _ => rfl
  have F5 : C8.Fun K "_law_dip" "_law_dip" s_law_dip f5 _ := ⟨oc5, od5, .none, kV5, dc5, pm5, an5, cd5, ct5, sl5, rfl, l5, c5⟩
  have b5 := F5.binds rfl (ps := ["_law_well_here", "_law_many"]) fun _ _ _ _ _ _ us hl => match us, hl with | [_, _], _ => rfl
  have F6 : C8.Fun K "_law_pick" "_law_pick" s_law_pick f6 _ := ⟨oc6, od6, .none, kV6, dc6, pm6, an6, cd6, ct6, sl6, rfl, l6, c6⟩
  have b6 := F6.binds rfl (ps := ["_law_well_here", "_law_some"]) fun _ _ _ _ _ _ us hl => match us, hl with | [_, _], _ => rfl
  have F7 : C8.Fun K "_law_alphabet" "_law_alphabet" s_law_alphabet f7 _ := ⟨oc7, od7, .none, kV7, dc7, pm7, an7, cd7, ct7, sl7, rfl, l7, c7⟩
  have b7 := F7.binds rfl (ps := []) fun _ _ _ _ _ _ us hl => match us, hl with | [], _ => rfl
  have F8 : C8.Fun K "_law_stem" "_law_stem" s_law_stem f8 _ := ⟨oc8, od8, .none, kV8, dc8, pm8, an8, cd8, ct8, sl8, rfl, l8, c8⟩
  have b8 := F8.binds rfl (ps := ["_law_well_here"]) fun _ _ _ _ _ _ us hl => match us, hl with | [_], _ => rfl
  have F9 : C8.Fun K "_law_text" "_law_text" s_law_text f9 _ := ⟨oc9, od9, .none, kV9, dc9, pm9, an9, cd9, ct9, sl9, rfl, l9, c9⟩
  have b9 := F9.binds rfl (ps := ["_law_well_here"]) fun _ _ _ _ _ _ us hl => match us, hl with | [_], _ => rfl
  have F10 : C8.Fun K "_law_sound" "_law_sound" s_law_sound f10 _ := ⟨oc10, od10, .none, kV10, dc10, pm10, an10, cd10, ct10, sl10, rfl, l10, c10⟩
  have b10 := F10.binds rfl (ps := ["_law_text_here"]) fun _ _ _ _ _ _ us hl => match us, hl with | [_], _ => rfl
  have F11 : C8.Fun K "_law_stems" "_law_stems" s_law_stems f11 _ := ⟨oc11, od11, .none, kV11, dc11, pm11, an11, cd11, ct11, sl11, rfl, l11, c11⟩
  have b11 := F11.binds rfl (ps := ["_law_text_here"]) fun _ _ _ _ _ _ us hl => match us, hl with | [_], _ => rfl
  have F12 : C8.Fun K "_law_text_right" "_law_text_right" s_law_text_right f12 _ := ⟨oc12, od12, .none, kV12, dc12, pm12, an12, cd12, ct12, sl12, rfl, l12, c12⟩
  have b12 := F12.binds rfl (ps := ["_law_well_here"]) fun _ _ _ _ _ _ us hl => match us, hl with | [_], _ => rfl
  have F13 : C8.Fun K "_law_number_right" "_law_number_right" s_law_number_right f13 _ := ⟨oc13, od13, .none, kV13, dc13, pm13, an13, cd13, ct13, sl13, rfl, l13, c13⟩
  have b13 := F13.binds rfl (ps := ["_law_well_here"]) fun _ _ _ _ _ _ us hl => match us, hl with | [_], _ => rfl
  have F14 : C8.Fun K "_law_odd_right" "_law_odd_right" s_law_odd_right f14 _ := ⟨oc14, od14, .none, kV14, dc14, pm14, an14, cd14, ct14, sl14, rfl, l14, c14⟩
  have b14 := F14.binds rfl (ps := ["_law_well_here"]) fun _ _ _ _ _ _ us hl => match us, hl with | [_], _ => rfl
  have F15 : C8.Fun K "_law_joined_right" "_law_joined_right" s_law_joined_right f15 _ := ⟨oc15, od15, .none, kV15, dc15, pm15, an15, cd15, ct15, sl15, rfl, l15, c15⟩
  have b15 := F15.binds rfl (ps := ["_law_well_here"]) fun _ _ _ _ _ _ us hl => match us, hl with | [_], _ => rfl
  have F16 : C8.Fun K "law" "law" slaw fa _ := ⟨oc16, od16, .none, kV16, dc16, pm16, an16, cd16, ct16, sl16, rfl, l16, c16⟩
  have b16 := F16.binds rfl (ps := ["_law_script"]) fun _ _ _ _ _ _ us hl => match us, hl with | [_], _ => rfl
  have F17 : C8.Fun K "joined_name" "joined_name" sjoined_name f17 _ := ⟨oc17, od17, .none, kV17, dc17, pm17, an17, cd17, ct17, sl17, rfl, l17, c17⟩
  have T : Txt K mg :=
    { d_is_integer := ⟨_, _, ⟨F0, PySem.W.mg_of X G a0, k0⟩, b0⟩,
      d_is_within := ⟨_, _, ⟨F1, PySem.W.mg_of X G a1, k1⟩, b1⟩,
      d_is_stem := ⟨_, _, ⟨F2, PySem.W.mg_of X G a2, k2⟩, b2⟩,
      d_is_name := ⟨_, _, ⟨F3, PySem.W.mg_of X G a3, k3⟩, b3⟩,
      d_law_well := ⟨_, _, ⟨F4, PySem.W.mg_of X G a4, k4⟩, b4⟩,
      d_law_dip := ⟨_, _, ⟨F5, PySem.W.mg_of X G a5, k5⟩, b5⟩,
      d_law_pick := ⟨_, _, ⟨F6, PySem.W.mg_of X G a6, k6⟩, b6⟩,
      d_law_alphabet := ⟨_, _, ⟨F7, PySem.W.mg_of X G a7, k7⟩, b7⟩,
      d_law_stem := ⟨_, _, ⟨F8, PySem.W.mg_of X G a8, k8⟩, b8⟩,
      d_law_text := ⟨_, _, ⟨F9, PySem.W.mg_of X G a9, k9⟩, b9⟩,
      d_law_sound := ⟨_, _, ⟨F10, PySem.W.mg_of X G a10, k10⟩, b10⟩,
      d_law_stems := ⟨_, _, ⟨F11, PySem.W.mg_of X G a11, k11⟩, b11⟩,
      d_law_text_right := ⟨_, _, ⟨F12, PySem.W.mg_of X G a12, k12⟩, b12⟩,
      d_law_number_right := ⟨_, _, ⟨F13, PySem.W.mg_of X G a13, k13⟩, b13⟩,
      d_law_odd_right := ⟨_, _, ⟨F14, PySem.W.mg_of X G a14, k14⟩, b14⟩,
      d_law_joined_right := ⟨_, _, ⟨F15, PySem.W.mg_of X G a15, k15⟩, b15⟩,
      d_law := ⟨_, _, ⟨F16, PySem.W.mg_of X G a16, k16⟩, b16⟩,
      z_len := PySem.W.mg_none_of X G z_len,
      z_int := PySem.W.mg_none_of X G z_int,
      z_abs := PySem.W.mg_none_of X G z_abs,
      z_isinstance := PySem.W.mg_none_of X G z_isinstance,
      z_repr := PySem.W.mg_none_of X G z_repr,
      z_all := PySem.W.mg_none_of X G z_all,
      z_range := PySem.W.mg_none_of X G z_range,
      z_enumerate := PySem.W.mg_none_of X G z_enumerate,
      z_str := PySem.W.mg_none_of X G z_str,
      z_bool := PySem.W.mg_none_of X G z_bool,
      c_LETTERS := ⟨_, PySem.W.mg_of X G g_LETTERS, ⟨_, rfl⟩⟩,
      c_DIGITS := ⟨_, PySem.W.mg_of X G g_DIGITS, ⟨_, rfl⟩⟩,
      c_MOST_STEMS := ⟨_, PySem.W.mg_of X G g_MOST_STEMS, ⟨_, rfl⟩⟩,
      c_MOST_CHARACTERS := ⟨_, PySem.W.mg_of X G g_MOST_CHARACTERS, ⟨_, rfl⟩⟩ }
  have Fi : C8.Fun K "__init__" "TooMany.__init__" sIni fI _ := ⟨oci, odi, .none, kVi, dci, pmi, ani, cdi, cti, sli, rfl, li, ci⟩
  have bi := Fi.binds rfl (ps := ["self", "what", "most"]) fun _ _ _ _ _ _ us hl => match us, hl with | [_, _, _], _ => rfl
  have M : Tm K mg C D fI :=
    { gC := PySem.W.mg_of X G aC, gD := PySem.W.mg_of X G aD, oex := ⟨⟨nm, q, N, bs, _, sn, sub, ab, col, dd, m0, m1, m2, m3, m5, xL, by rfl⟩, sa, eC, tC, kC⟩, ini := ai, tI := ti, fn := ⟨_, Fi, bi⟩,
      nw := nw, nm := no, xf := ⟨ga, gg, eC, hC⟩, te := PySem.W.exm_ref eC hC tC sC, kd := kit_sub iD tD sD }
  refine ⟨PySem.W.fnOf "law" "law" (C8.fnArgs slaw) (C8.fnBody slaw) (C8.fnScope slaw) .none kV16 dc16 pm16 an16 cd16 ct16, fun s v => .of_eq rfl, fun base _ _ => ?_⟩
  have Gdip := ok_dip (P := P) (w := w) (base := base) T
  have Gpick := ok_pick T Gdip
  have Gstem := ok_stem T Gpick
  have Gint := ok_is_integer (P := P) (w := w) (base := base) T
  have Gwith := ok_is_within T Gint
  have Gst := ok_is_stem (P := P) (w := w) (base := base) T
  have Gnm := ok_is_name T Gst
  have Gtext := ok_text T Gdip Gpick (ok_alphabet T) Gstem
  have GJ := body_joined (P := P) (w := w) (base := base) M T ⟨_, F17, rfl⟩
  exact ok_law ⟨F16, PySem.W.mg_of X G a16, k16⟩ T (ok_well T) (ok_text_right T Gtext (ok_stems T) (ok_sound T) Gst Gnm Gint Gwith) (ok_number_right T Gdip Gpick Gst Gnm Gint Gwith)
    (ok_odd_right T Gpick Gst Gnm Gint Gwith) (ok_joined_right T M (PySem.W.mg_of X G a17) k17 GJ Gdip Gpick Gstem)
end K01
open PySem PySem.W PyProof.Rows
set_option maxRecDepth 100000 in
set_option maxHeartbeats 0 in
theorem PySem.Challenge.cw_dimkeeper_k01_names_and_integers_by_thei_holds : PySem.Challenge.rw_dimkeeper_k01_names_and_integers_by_thei.Holds := by
  w_on; o_law; k_head; (case hw => w_witness2)
  k_fill
  refine Gd.walk_end (l := PySem.Challenge.rw_dimkeeper_k01_names_and_integers_by_thei) (n := 63) (k := 6) (x := "_law_script") (sp := fun w => K01.spLaw _) rfl (by decide) rfl ⟨rfl, by decide, by decide⟩ (fun w h Y => PySem.W.kIn_of Y) ?F (fun w H a ns hl hS => ⟨a, ns, rfl, hS, hl, fun _ => rfl⟩)
  case F =>
    intro w mg fa h KX G hmg
    refine' K01.all_mk KX G hmg ?a0 ?l0 ?c0 ?k0 ?a1 ?l1 ?c1 ?k1 ?a2 ?l2 ?c2 ?k2 ?a3 ?l3 ?c3 ?k3 ?a4 ?l4 ?c4 ?k4 ?a5 ?l5 ?c5 ?k5 ?a6 ?l6 ?c6 ?k6 ?a7 ?l7 ?c7 ?k7 ?a8 ?l8 ?c8 ?k8 ?a9 ?l9 ?c9 ?k9 ?a10 ?l10 ?c10 ?k10 ?a11 ?l11 ?c11 ?k11 ?a12 ?l12 ?c12 ?k12 ?a13 ?l13 ?c13 ?k13 ?a14 ?l14 ?c14 ?k14 ?a15 ?l15 ?c15 ?k15 ?a16 ?l16 ?c16 ?k16 ?a17 ?l17 ?c17 ?k17 ?z_len ?z_int ?z_abs ?z_isinstance ?z_repr ?z_all ?z_range ?z_enumerate ?z_str ?z_bool ?g_LETTERS ?g_DIGITS ?g_MOST_STEMS ?g_MOST_CHARACTERS ?aC ?aD ?xL ?sa ?ga ?gg ?nw ?no ?ai ?ti ?li ?ci ?kC ?eC ?tC ?hC ?sC ?iD ?tD ?sD
    (case a0 => k_is)
    (case l0 => k_is)
    (case c0 => k_is)
    (case k0 => k_is)
    (case a1 => k_is)
    (case l1 => k_is)
    (case c1 => k_is)
    (case k1 => k_is)
    (case a2 => k_is)
    (case l2 => k_is)
    (case c2 => k_is)
    (case k2 => k_is)
    (case a3 => k_is)
    (case l3 => k_is)
    (case c3 => k_is)
    (case k3 => k_is)
    (case a4 => k_is)
    (case l4 => k_is)
    (case c4 => k_is)
    (case k4 => k_is)
    (case a5 => k_is)
    (case l5 => k_is)
    (case c5 => k_is)
    (case k5 => k_is)
    (case a6 => k_is)
    (case l6 => k_is)
    (case c6 => k_is)
    (case k6 => k_is)
    (case a7 => k_is)
    (case l7 => k_is)
    (case c7 => k_is)
    (case k7 => k_is)
    (case a8 => k_is)
    (case l8 => k_is)
    (case c8 => k_is)
    (case k8 => k_is)
    (case a9 => k_is)
    (case l9 => k_is)
    (case c9 => k_is)
    (case k9 => k_is)
    (case a10 => k_is)
    (case l10 => k_is)
    (case c10 => k_is)
    (case k10 => k_is)
    (case a11 => k_is)
    (case l11 => k_is)
    (case c11 => k_is)
    (case k11 => k_is)
    (case a12 => k_is)
    (case l12 => k_is)
    (case c12 => k_is)
    (case k12 => k_is)
    (case a13 => k_is)
    (case l13 => k_is)
    (case c13 => k_is)
    (case k13 => k_is)
    (case a14 => k_is)
    (case l14 => k_is)
    (case c14 => k_is)
    (case k14 => k_is)
    (case a15 => k_is)
    (case l15 => k_is)
    (case c15 => k_is)
    (case k15 => k_is)
    (case a16 => k_is)
    (case l16 => k_is)
    (case c16 => k_is)
    (case k16 => k_is)
    (case a17 => k_is)
    (case l17 => k_is)
    (case c17 => k_is)
    (case k17 => k_is)
    (case z_len => k_is)
    (case z_int => k_is)
    (case z_abs => k_is)
    (case z_isinstance => k_is)
    (case z_repr => k_is)
    (case z_all => k_is)
    (case z_range => k_is)
    (case z_enumerate => k_is)
    (case z_str => k_is)
    (case z_bool => k_is)
    (case g_LETTERS => k_is)
    (case g_DIGITS => k_is)
    (case g_MOST_STEMS => k_is)
    (case g_MOST_CHARACTERS => k_is)
    (case aC => k_is)
    (case aD => k_is)
    (case xL => k_is)
    (case sa => k_is)
    (case ga => k_is)
    (case gg => k_is)
    (case nw => k_is)
    (case no => k_is)
    (case ai => k_is)
    (case ti => k_is)
    (case li => k_is)
    (case ci => k_is)
    (case kC => k_is)
    (case eC => k_is)
    (case tC => k_is)
    (case hC => k_is)
    (case sC => first | rfl | k_is)
    (case iD => k_is)
    (case tD => k_is)
    (case sD => k_is)

