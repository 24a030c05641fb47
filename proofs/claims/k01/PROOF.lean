import PyProof.Rows.All
import Wide.All
import OpenK.AllK
import Wide.FinOn
import HandS.ForMost
import HandS.ExcOwn
import HandS.ExcValue
import KE.KExcIs
import KE.KExcPX
import PyProof.ReprRoads
import HandS.Walk
import KE.KOpsOwn
import KE.KCallOwn
import HandS.More
import HandS.OwnEq
import HandS.Star
import HandS.Property
import PyProof.InstNe
import KE.KExcInit
import HandS.ExcInit
import KE.KDictSum
import HandS.ListItems
import HandS.Sort
import HandS.Conv
import HandS.DictComp
import HandS.IsInst
import HandS.StrMore
import HandS.FStr
import KE.OsSortAny
import PyProof.Rows.StrMeet
import KE.KEqDict
import HandS.WordsExc
import HandS.Defaults
import HandS.ExcField
import HandS.ListEq
import HandS.DeepEq
import PyProof.NeKinds
import HandS.WordsDict
import HandS.Flow
import HandS.Style
import KE.KExcLine
import PySem.Challenge.RW_leastpools_k01_sizes_told
set_option Elab.async false
set_option linter.all false
set_option maxRecDepth 100000
set_option maxHeartbeats 4000000
/-! Objects that a run of the machine has made, brought under the abstract heap. -/
namespace Lp
open PySem PySem.Spec PyProof.Rows L2
/-- a heap with more rows -/
def add : List (Addr × HO) → Hp → Hp
  | [], H => H
  | (a, o) :: r, H => upd (add r H) a o
theorem add_out : ∀ {rows : List (Addr × HO)} {H : Hp} {b : Addr}, (∀ p ∈ rows, p.1 ≠ b) → add rows H b = H b
  | [], _, _, _ => rfl
  | (a, o) :: r, H, b, h => by
    show upd (add r H) a o b = H b
    rw [upd_ne (fun z => h (a, o) List.mem_cons_self z.symm)]
    exact add_out fun p hp => h p (List.mem_cons_of_mem _ hp)
theorem add_cases : ∀ {rows : List (Addr × HO)} {H : Hp} {b : Addr} {o : HO}, add rows H b = some o → (b, o) ∈ rows ∨ H b = some o
  | [], _, _, _, h => .inr h
  | (a, u) :: r, H, b, o, h => by
    by_cases e : b = a
    · subst e
      have h' : upd (add r H) b u b = some o := h
      rw [upd_same] at h'
      cases h'
      exact .inl List.mem_cons_self
    · have h' : upd (add r H) a u b = some o := h
      rw [upd_ne e] at h'
      rcases add_cases h' with q | q
      · exact .inl (List.mem_cons_of_mem _ q)
      · exact .inr q
section
variable {X : Cx} {pins : List (Addr × Obj)} {σ : L2.St} {H : Hp} {s : Shared} {h' : Heap}
theorem inv_add {rows : List (Addr × HO)} {t' : Nat} (I : Inv X pins σ H s) (k : ∀ b u, s.heap.get? b = some u → h'.get? b = some u) (hf : ∀ p ∈ rows, s.heap.get? p.1 = none)
    (new : ∀ p ∈ rows, ObjOk X.prog X.w (add rows H) h' p.1 p.2) : Inv X pins σ (add rows H) { s with heap := h', toks := t' } := by
  have out : ∀ {b : Addr} {u : Obj}, s.heap.get? b = some u → add rows H b = H b := fun {b u} q => add_out fun p hp z => by
    have := hf p hp
    rw [z, q] at this
    cases this
  have sub : ∀ {b : Addr} {o : HO}, H b = some o → add rows H b = some o := fun {b o} q => by
    rw [add_out, q]
    intro p hp z
    have n := I.hok.gone (hf p hp)
    rw [z, q] at n
    cases n
  refine I.un ⟨fun b u q _ _ _ => k b u q, fun b u q _ _ _ => ⟨u.slots, k b u q⟩, fun b u q n _ => by rw [out q]; exact n, fun b u q _ => ⟨u, k b u q⟩, fun b xs q => sub q, fun b u v q => sub q, fun b ps q => ⟨#[], by rw [sub q]; simp⟩⟩ fun b o q => ?_
  rcases add_cases q with m | m
  · exact new _ m
  · exact (I.hok b o m).stay (fun c v _ z => k c v z) (fun c z => sub z) fun c xs z => sub z
end
/-- what a run left: all old things, the new ones by name -/
structure Left (s : Shared) (h : Heap) (news : List (Addr × Obj)) : Prop where
  keep : ∀ b u, s.heap.get? b = some u → h.get? b = some u
  new : ∀ p ∈ news, h.get? p.1 = some p.2 ∧ s.heap.get? p.1 = none
  ord : (news.map (·.1)).Pairwise (· > ·)
theorem Left.of {s : Shared} {h : Heap} {news : List (Addr × Obj)} (D : PySem.W.X.Mem s.heap h [] news) : Left s h news where
  keep := fun b u q => D.keep b u q (by
    have e : PySem.W.X.away ([] : List (Addr × Obj)) b = true := rfl
    rw [e, Bool.or_true])
  new := D.nw
  ord := D.ord
/-- a call of a def of the text, by what is told of it -/
theorem pe_callF {X : Cx} {x : Str} {p pos : Pos} {f : Addr} {e : Expr} {es : List Expr} {t : TA} {r : List V → Hp → VK → Prop} (hc : CallR X (.ref f) r) (hg : Gl X x) (hm : X.mg x = some (.ref f)) (hk : PySem.W.keepIn X.K (.ref f) = true)
    (ha : PA X (e :: es) t) (hdb : (x == ("__debug__" : Str)) = false := by decide)
    (he : starEach (e :: es) X.env = (false, eval e X.env) :: starEach es X.env := by rfl) (hpl : (backTo pos (starEach es X.env)).any (·.1) = false := by rfl) :
    PE X (.Call (.Name x p) (e :: es) [] pos) (tCB r t) := by
  refine ⟨fun pins s σ H Q I h => wpAny_Call_Name_kw (ld_glob I hg hm ?_ hdb)⟩
  refine PySem.W.callWith_K (h₀ := X.base) I.ok.mod.kin hk (thn (ha.run pos pins s σ H _ I h) fun us s1 z => ?_) he hpl
  obtain ⟨vs, H1, I1, rv, q⟩ := z
  exact ⟨I1.kIn, hc pins s1 σ H1 vs us Q I1 rv q⟩
/-- exact objects -/
def exact (o : Obj) : HO := .frz o (.own 0)
theorem exact_ok {P : Program} {w : World} {H : Hp} {h : Heap} {a : Addr} {o : Obj} (e : h.get? a = some o) : ObjOk P w H h a (exact o) := ⟨e, o, e⟩
theorem exact_at {P : Program} {w : World} {H : Hp} {h : Heap} {a : Addr} {o : Obj} {u : HO} (ok : HOk P w H h) (e : H a = some (.frz o u)) : h.get? a = some o := by
  have z : ObjOk P w H h a (.frz o u) := ok a _ e
  exact z.1
/-! ### a def at one place -/
theorem fn_at {P : Program} {w : World} {K : PySem.W.Frag} {mg : Str → Option Value} {base : Heap} {f : Addr} {fd : FuncData} {x qual : Str} {st : Stmt} {N ps : List Str} {k : Nat} {A : Around} {outer : List Env} {s : Shared} {H : Hp} {vs : List V} {us : List Value} {Q : VK} {E : XK} {args : Args}
    (F : Fun K x qual st f fd) (S : FnScope N ps (defScope st)) (hr : Room k A) (hl : vs.length = ps.length) (e0 : Env0 P w K mg base A outer s H) (hb : BindsTo s fd args (ps.zip us)) (rv : Vals vs us)
    (hbody : ∀ cdv : Value, ∃ t, PSs (cxOf CX0 P w K mg base N qual (defScope st) f cdv A outer s H E).nox (defBody st) t ∧ t { nx := fun _ H' => Q .non H', rt := Q } (start N vs) H) :
    codeAny (model P w) A (.call (.ref f) args) (CR CX0 outer P w H s Q E) s := by
  obtain ⟨oc, od, kV, doc, pm, an, cdv, ct, osl, rfl, lk, hcd⟩ := F.ex
  have KX : K.In s.heap := e0.mod.kin.keeps fun b o e => (e0.bs b o e).1
  have kinds : ∀ y ∈ ps.zip us, (defScope st).names.lookup y.1 = some .local ∨ ((defScope st).names.lookup y.1 = some .cell ∧ ((cellsFrom (s.heap.objs.size + 1) (defScope st).names []).lookup y.1).isSome = true) := by
    rintro ⟨n, v⟩ hy
    refine (S.par n (List.of_mem_zip hy).1).imp id fun q => ⟨q, PySem.W.cellsFrom_some _ _ _ (.inl q)⟩
  refine codeAny_call_function hr.depth (KX _ _ lk) rfl S.co S.gen rfl (PySem.W.codeRec_of KX hcd) (hb _ _ _ _ (wpAny_newFunctionEnv_cells S.kind kinds fun env he s1 x => ?_))
  subst he
  refine ⟨(e0.mod.nolimit.keeps fun b o e => (e0.bs b o e).1).keeps x.toInCall.keep, codeAny_func ?_⟩
  obtain ⟨t, ht, hq⟩ := hbody cdv
  have I : Inv (cxOf CX0 P w K mg base N qual (defScope st) f cdv A outer s H E) [] (start N vs) H s1 := inv_start S hr.hd e0 hl rv x
  refine wpAny_mono (ht.nox.run [] s1 (start N vs) H _ I hq) (fun fl s' hs => ?_) fun e s' z => z
  match fl, hs with
  | .ret u, ⟨v, σ', H', J, r, q⟩ => exact ⟨v, H', J.os, J.bare, J.base, J.hok, r, q⟩
  | .next, ⟨σ', H', J, q⟩ => exact ⟨V.non, H', J.os, J.bare, J.base, J.hok, rfl, q⟩
  | .brk, ⟨_, _, _, q⟩ => exact q.elim
  | .cont, ⟨_, _, _, q⟩ => exact q.elim
/-- the same from a body in which it is called -/
theorem callr_at {X : Cx} {f : Addr} {fd : FuncData} {x qual : Str} {st : Stmt} {N ps : List Str} {k : Nat} {sp : Sp} {dvs : List V} {ds : List Value} (F : Fun X.K x qual st f fd) (S : FnScope N ps (defScope st)) (hr : Room k X.A) (hb : Binds X.K fd ps ds) (hd : Vals dvs ds)
    (len : ∀ vs H Q E, sp vs H Q E → vs.length = ps.length)
    (hbody : ∀ (cdv : Value) (s : Shared) (H : Hp) (vs : List V) (Q : VK), sp vs H Q E0 → ∃ t, PSs (cxOf CX0 X.prog X.w X.K X.mg X.base N qual (defScope st) f cdv X.A X.stack s H E0).nox (defBody st) t ∧ t { nx := fun _ H' => Q .non H', rt := Q } (start N vs) H) :
    CallR X (.ref f) fun vs H Q => sp (vs ++ dvs) H Q E0 := by
  intro pins s σ H vs us Q I r h
  have r2 : Vals (vs ++ dvs) (us ++ ds) := r.append hd
  have hl : (us ++ ds).length = ps.length := by rw [← r2.length]; exact len _ _ _ _ h
  refine wpAny_call (codeAny_mono (fn_at F S hr (len _ _ _ _ h) I.env0 (hb s us I.kIn hl) r2 fun cdv => hbody cdv s H _ Q h) fun r s' hq => ?_)
  match r, hq with
  | .ok (.ret u), hq => exact I.after hq
/-! ### the law's own call -/
section
variable {P : Program} {w : World} {K : PySem.W.Frag} {mg mb : Str → Option Value} {fa a : Addr} {fd : FuncData} {st : Stmt} {qual : Str} {N : List Str} {x : Str} {s₁ : Shared} {vs : List Value} {ns : List Int} {H : Hp}
/-- what the law is asked to do, once the script is tracked -/
theorem law_core (KX : K.In s₁.heap) (hns : s₁.heap.Ns mainGlobals mg) (hb : s₁.heap.Ns builtinsNs mb) (hbb : ∀ x : Str, x ≠ "__name__" → mb x = bootBuiltins x) (hlim : s₁.heap.NoLimit) (hg : s₁.gens = #[])
    (ha : s₁.heap.get? a = some { cls := .type "list", data := .seq vs.toArray }) (only : ∀ b u, H b = some u → b = a ∧ K.lookup a = none ∧ ∃ o xs, u = .frz o (.lst xs)) (hok : HOk P w H s₁.heap)
    (F : Fun K "law" qual st fa fd) (S : FnScope N [x] (defScope st)) (hbind : ∀ (s : Shared) (u : Value), BindsTo s fd ⟨[u], []⟩ [(x, u)])
    (body : ∀ (base : Heap) (cdv : Value), K.In base → base.Ns mainGlobals mg → ∃ t, PSs (cxOf CX0 P w K mg base N qual (defScope st) fa cdv callerA [] s₁ H E0).nox (defBody st) t ∧ t { nx := fun _ _ => V.non = V.bl true, rt := fun v _ => v = .bl true } (start N [.ref a]) H) :
    codeAny (model P w) callerA (.call (.ref fa) ⟨[.ref a], []⟩) (fun r s' => r = .ok (.ret (.bool true)) ∧ OldK s₁.heap s'.heap ∧ s'.os = s₁.os ∧ AllBare s'.gens) s₁ := by
  have hid : ∀ {b : Addr} {o : Obj}, s₁.heap.get? b = some o → b ≠ a → (hidT s₁.heap H).get? b = some o := by
    intro b o e n
    refine hidT_get e ?_
    cases q : H b with
    | none => rfl
    | some u => exact absurd (only b u q).1 n
  have apart : ∀ {b : Addr} {m : Str → Option Value}, s₁.heap.Ns b m → b ≠ a := by
    rintro b m ⟨o, es, ep, e, d, _⟩ rfl
    rw [ha] at e
    cases e
    cases d
  have low : ∀ {b : Addr} {m : Str → Option Value}, s₁.heap.Ns b m → (hidT s₁.heap H).Ns b m := by
    intro b m n
    have nb := apart n
    obtain ⟨o, es, ep, e, r⟩ := n
    exact ⟨o, es, ep, hid e nb, r⟩
  have Kb : K.In (hidT s₁.heap H) := by
    intro b o e
    refine hidT_get (KX b o e) ?_
    cases q : H b with
    | none => rfl
    | some u =>
      obtain ⟨rfl, n, _⟩ := only b u q
      rw [n] at e
      cases e
  obtain ⟨mc, c1, c2⟩ := hlim
  have e0 : Env0 P w K mg (hidT s₁.heap H) callerA [] s₁ H := {
    frames := rfl
    mod := ⟨Kb, low hns, ⟨mb, low hb, hbb⟩, mc, low c1, c2⟩
    bs := fun b o e => of_hidT e
    bsz := Nat.le_of_eq (hidT_size _ _)
    funs := trivial
    frf := fun b z => nomatch z
    hok := hok
    bare := .of_eq hg }
  have room : Room 50 callerA := ⟨rfl, by decide, by decide⟩
  refine codeAny_mono (fn_at (E := E0) (Q := fun v _ => v = .bl true) (us := [.ref a]) (vs := [.ref a]) (ps := [x]) F S room rfl e0 (hbind s₁ (.ref a)) (.cons rfl .nil) fun cdv => ?_) fun r s' h => ?_
  · obtain ⟨t, h1, h2⟩ := body _ cdv Kb (low hns)
    exact ⟨t, h1, h2⟩
  · match r, h with
    | .ok (.ret u), ⟨v, H', os, bare, un, hok', r', q⟩ =>
      subst q
      obtain rfl : u = Value.bool true := r'
      refine ⟨rfl, .of_keep ?_, os, bare⟩
      intro b o e
      cases q : H b with
      | none => exact un.keep b o e q (fun z => nomatch z) (fun z => nomatch z)
      | some u =>
        obtain ⟨_, _, ob, xs, rfl⟩ := only b u q
        have z1 : s₁.heap.get? b = some ob := exact_at hok q
        have z2 : s'.heap.get? b = some ob := exact_at hok' (un.frzs b ob _ q)
        rw [z1] at e
        rw [z2, e]
theorem law_end (KX : K.In s₁.heap) (hns : s₁.heap.Ns mainGlobals mg) (hb : s₁.heap.Ns builtinsNs mb) (hbb : ∀ x : Str, x ≠ "__name__" → mb x = bootBuiltins x) (hlim : s₁.heap.NoLimit) (hg : s₁.gens = #[])
    (ha : s₁.heap.get? a = some { cls := .type "list", data := .seq vs.toArray }) (hi : IntsAre vs ns) (hl : ns.length ≤ sizeLine)
    (F : Fun K "law" qual st fa fd) (S : FnScope N [x] (defScope st)) (hbind : ∀ (s : Shared) (u : Value), BindsTo s fd ⟨[u], []⟩ [(x, u)])
    (body : ∀ (base : Heap) (cdv : Value) (H : Hp), K.In base → base.Ns mainGlobals mg → SqL K H a (ns.map V.int) →
      ∃ t, PSs (cxOf CX0 P w K mg base N qual (defScope st) fa cdv callerA [] s₁ H E0).nox (defBody st) t ∧ t { nx := fun _ _ => V.non = V.bl true, rt := fun v _ => v = .bl true } (start N [.ref a]) H) :
    codeAny (model P w) callerA (.call (.ref fa) ⟨[.ref a], []⟩) (fun r s' => r = .ok (.ret (.bool true)) ∧ OldK s₁.heap s'.heap ∧ s'.os = s₁.os ∧ AllBare s'.gens) s₁ := by
  have rv := vals_ints hi
  cases hk : K.lookup a with
  | some o =>
    have e := KX a o hk
    rw [ha] at e
    cases e
    exact law_core (H := fun _ => none) KX hns hb hbb hlim hg ha (fun b u z => nomatch z) (fun b u z => nomatch z) F S hbind fun base cdv h1 h2 =>
      body base cdv _ h1 h2 (.inr ⟨_, vs.toArray, _, hk, rfl, rfl, rfl, by rw [List.size_toArray, hi.length]; exact hl, by simpa using rv⟩)
  | none =>
    let o : Obj := { cls := .type "list", data := .seq vs.toArray }
    let H : Hp := fun b => if b = a then some (.frz o (.lst (ns.map V.int))) else none
    have hH : H a = some (.frz o (.lst (ns.map V.int))) := if_pos rfl
    have at_a : ∀ {b : Addr} {u : HO}, H b = some u → b = a ∧ u = .frz o (.lst (ns.map V.int)) := by
      intro b u z
      by_cases e : b = a
      · subst e
        rw [hH] at z
        exact ⟨rfl, (Option.some.inj z).symm⟩
      · have : H b = none := if_neg e
        rw [this] at z
        cases z
    refine law_core (H := H) KX hns hb hbb hlim hg ha (fun b u z => ?_) (fun b u z => ?_) F S hbind fun base cdv h1 h2 => body base cdv _ h1 h2 (.inl (.inr ⟨o, hH⟩))
    · obtain ⟨e, rfl⟩ := at_a z
      exact ⟨e, hk, o, _, rfl⟩
    · obtain ⟨rfl, rfl⟩ := at_a z
      exact ⟨ha, by rw [List.length_map]; exact hl, vs, _, rv, ha⟩
end
end Lp

set_option Elab.async false
set_option linter.all false
set_option maxRecDepth 100000
set_option maxHeartbeats 4000000
/-! Exceptions of the text's own classes, held as values. -/
namespace Lp
open PySem PySem.Spec PyProof.Rows L2
/-- what is known of an exception class -/
structure ExK (K : PySem.W.Frag) (C : Addr) : Prop where
  ga : PySem.W.findIn K (.ref C) "__getattribute__" = some (some (.builtin "BaseException.__getattribute__"))
  gt : PySem.W.findIn K (.ref C) "__getattr__" = some none
  bx : PySem.W.subIn K (.ref C) (.type "BaseException") = some true
  dc : PySem.W.hasDictIn K C = true
  ca : PySem.W.findIn K (.ref C) "__class__" = some (some (.builtin "object.__class__"))
  cg : PySem.W.specialIn K (.builtin "object.__class__") "__get__" = some (some (.builtin "getset_descriptor.__get__"))
  ct : PySem.W.takesIn K (.builtin "object.__class__") = some true
  ob : PySem.W.mroIn K C (.type "object") = some true
/-- its object -/
def eobj (C d t : Addr) : Obj := { cls := .ref C, dict := some d, data := .fields #[.ref t, .none, .none, .none, .bool false, .none] }
/-- at e an exception of the class at C, whose field f is x -/
def ExAt (H : Hp) (e C : Addr) (f : Str) (x : V) : Prop := ∃ (t d : Addr) (od : Obj) (u : Value), H e = some (exact (eobj C d t)) ∧ H d = some (exact od) ∧ PySem.W.lookIn f od = some (some u) ∧ RelV x u
theorem ExAt.same {H H' : Hp} {e C : Addr} {f : Str} {x : V} (h : ExAt H e C f x) (s : Same H H') : ExAt H' e C f x := by
  obtain ⟨t, d, od, u, h1, h2, h3⟩ := h
  exact ⟨t, d, od, u, s _ _ h1, s _ _ h2, h3⟩
section
variable {X : Cx} {pins : List (Addr × Obj)} {σ : L2.St} {H : Hp} {s : Shared}
theorem ExAt.inst {e C : Addr} {f : Str} {x : V} (h : ExAt H e C f x) (I : Inv X pins σ H s) : ∃ (ox od : Obj) (u : Value), PySem.W.InstAt s.heap e ox C (some od) ∧ PySem.W.lookIn f od = some (some u) ∧ RelV x u := by
  obtain ⟨t, d, od, u, h1, h2, h3, h4⟩ := h
  exact ⟨eobj C d t, od, u, ⟨exact_at I.hok h1, rfl, rfl, exact_at I.hok h2⟩, h3, h4⟩
/-- e.f -/
def tEf (K : PySem.W.Frag) (te : TE) (f : Str) : TE := fun σ H Q => te σ H fun y H1 => ∃ (e C : Addr) (x : V), y = .ref e ∧ ExAt H1 e C f x ∧ ExK K C ∧ PySem.W.findIn K (.ref C) f = some none ∧ Q x H1
theorem pe_ef {o : Expr} {f : Str} {pos : Pos} {te : TE} (he : PE X o te) (hb : attributeBase o f X.env (eval o X.env) = eval o X.env) : PE X (.Attribute o f pos) (tEf X.K te f) := by
  refine ⟨fun pins s σ H Q I h => attr_of hb (thn (he.run pins s σ H _ I h) ?_)⟩
  rintro u s1 ⟨y, H1, I1, ry, e, C, x, rfl, hE, k, hf, q⟩
  obtain rfl : u = Value.ref e := ry
  obtain ⟨ox, od, z, hi, hl, rx⟩ := hE.inst I1
  exact PySem.PX.exc_get I1.kIn hi k.ga k.gt k.bx (PySem.W.findObj_own k.dc hf rfl hl) (handed_of rx) ⟨x, H1, I1.tok _, rx, q⟩
/-- isinstance(e, c), e such an exception -/
def rIsX (K : PySem.W.Frag) : List V → Hp → VK → Prop := fun xs H Q => ∃ (e C : Addr) (f : Str) (x c : V) (u : Value) (b : Bool), xs = [.ref e, c] ∧ ExAt H e C f x ∧ ExK K C ∧ (∀ z, RelV c z → z = u) ∧ PySem.W.kitOne K (.ref C) u = some b ∧ Q (.bl b) H
theorem call_isx : CallR X (.builtin "isinstance") (rIsX X.K) := by
  rintro pins s σ H xs us Q I r ⟨e, C, f, x, c, u, b, rfl, hE, k, hc, hk, q⟩
  obtain ⟨u1, u2, rfl, r1, r2⟩ := vals2 r
  obtain rfl := hc _ r2
  obtain rfl : u1 = Value.ref e := r1
  obtain ⟨ox, od, z, hi, _, _⟩ := hE.inst I
  exact PySem.W.kia_one (PySem.W.kitx_exc (by obtain ⟨cd, hc, _⟩ := PySem.W.any_some k.dc; rw [hc]; rfl) k.ga k.gt k.bx k.ca k.cg k.ct k.ob) I.kIn hi hk (fun z => nomatch z) fun tk => ⟨.bl b, H, I.tok tk, rfl, q⟩
end
/-- what making an exception leaves -/
abbrev Made (C : Addr) (f : Str) (v : Value) (s : Shared) (u : Value) (s' : Shared) : Prop := ∃ (h : Heap) (tk : Nat) (e d t : Addr) (od : Obj) (news : List (Addr × Obj)), u = .ref e ∧ s' = ⟨h, s.gens, s.drawn, tk, s.os⟩ ∧ PySem.W.X.Mem s.heap h [] news ∧
  (e, eobj C d t) ∈ news ∧ (d, od) ∈ news ∧ PySem.W.lookIn f od = some (some v)
/-- C(x) -/
def rMk (C : Addr) (f : Str) : List V → Hp → VK → Prop := fun xs H Q => ∃ x, xs = [x] ∧ ∀ (e : Addr) (H' : Hp), H e = none → Same H H' → ExAt H' e C f x → Q (.ref e) H'
def Makes (P : Program) (w : World) (K : PySem.W.Frag) (A : Around) (C : Addr) (f : Str) : Prop := ∀ (s : Shared) (v : Value), K.In s.heap → wpAny (model P w) A (PySem.call (.ref C) [v]) (Made C f v s) (fun _ _ => False) s
theorem call_mk {X : Cx} {C : Addr} {f : Str} (h : Makes X.prog X.w X.K X.A C f) : CallR X (.ref C) (rMk C f) := by
  rintro pins s σ H xs us Q I r ⟨x, rfl, q⟩
  cases r with
  | cons rx rr =>
    cases rr
    rename_i v
    refine wpAny_mono (h s v I.kIn) (fun u s' z => ?_) fun _ _ z => z.elim
    obtain ⟨h', tk, e, d, t, od, news, rfl, rfl, D, m1, m2, hl⟩ := z
    have L := Left.of D
    obtain ⟨he, ne0⟩ := L.new _ m1
    obtain ⟨hd, nd0⟩ := L.new _ m2
    have ne : e ≠ d := fun z => by
      dsimp only at he hd
      rw [z, hd] at he
      cases he
      cases hl
    have J : Inv X pins σ (add [(e, exact (eobj C d t)), (d, exact od)] H) { s with heap := h', toks := tk } := inv_add I L.keep (fun p hp => by
      simp only [List.mem_cons, List.not_mem_nil, or_false] at hp
      rcases hp with rfl | rfl
      · exact ne0
      · exact nd0) fun p hp => by
      simp only [List.mem_cons, List.not_mem_nil, or_false] at hp
      rcases hp with rfl | rfl
      · exact exact_ok he
      · exact exact_ok hd
    have z1 : H e = none := I.hok.gone ne0
    have z2 : H d = none := I.hok.gone nd0
    refine ⟨.ref e, _, J, rfl, q e _ z1 (fun b o z => ?_) ⟨t, d, od, v, upd_same, ?_, hl, rx⟩⟩
    · show upd (upd H d _) e _ b = some o
      rw [upd_ne (ne_of_none z z1), upd_ne (ne_of_none z z2)]
      exact z
    · show upd (upd H d _) e _ d = _
      rw [upd_ne ne.symm, upd_same]
end Lp

set_option Elab.async false
set_option linter.all false
set_option maxRecDepth 100000
set_option maxHeartbeats 4000000
/-! repr of plain things -/
namespace Lp
open PySem PySem.Spec PyProof.Rows L2
theorem sqT_same {K : PySem.W.Frag} {H H' : Hp} {a : Addr} {xs : List V} (s : Same H H') (h : SqT K H a xs) : SqT K H' a xs := by
  rcases h with (h | ⟨o, h⟩) | h
  · exact .inl (.inl (s _ _ h))
  · exact .inl (.inr ⟨o, s _ _ h⟩)
  · exact .inr h
mutual
theorem dp_same {K : PySem.W.Frag} {H H' : Hp} (s : Same H H') : ∀ {x : V} {d : PyData}, Dp K H x d → Dp K H' x d
  | _, _, .non => .non
  | _, _, .bl b => .bl b
  | _, _, .int i => .int i
  | _, _, .str z => .str z
  | _, _, .lst h q => .lst (s.seq h) (dpAll_same s q)
  | _, _, .tup h q => .tup (sqT_same s h) (dpAll_same s q)
theorem dpAll_same {K : PySem.W.Frag} {H H' : Hp} (s : Same H H') : ∀ {xs : List V} {ds : List PyData}, DpAll K H xs ds → DpAll K H' xs ds
  | _, _, .nil => .nil
  | _, _, .cons h q => .cons (dp_same s h) (dpAll_same s q)
end
/-- a dict of numbers by texts -/
def dsi (kvs : List (Str × Int)) : List (Key × V) := kvs.map fun p => (Sum.inr p.1, V.int p.2)
def dsiD (kvs : List (Str × Int)) : PyData := .dict (kvs.map fun p => (PyData.str p.1, PyData.int p.2))
/-- x is shown as z -/
inductive Shows (K : PySem.W.Frag) (H : Hp) : V → Str → Prop where
  | non : Shows K H .non "None"
  | bl (b : Bool) : Shows K H (.bl b) (if b then "True" else "False")
  | int (i : Int) (h : i.natAbs.log2 < 1920) : Shows K H (.int i) (toString i)
  | str (y : Str) (h : (reprText y).length ≤ sizeLine) : Shows K H (.str y) (reprText y)
  | dat (a : Addr) (d : PyData) (h : Dp K H (.ref a) d) (hs : d.showable = true) (hd : d.hasDict = false) (hz : d.shown.length ≤ sizeLine) (hp : d.depth ≤ 64) : Shows K H (.ref a) d.shown
  | dic (a : Addr) (kvs : List (Str × Int)) (h : H a = some (.dK (dsi kvs))) (hs : (dsiD kvs).showable = true) (hz : (dsiD kvs).shown.length ≤ sizeLine) : Shows K H (.ref a) (dsiD kvs).shown
theorem Shows.same {K : PySem.W.Frag} {H H' : Hp} {x : V} {z : Str} (h : Shows K H x z) (s : Same H H') : Shows K H' x z := by
  cases h with
  | non => exact .non
  | bl b => exact .bl b
  | int i h => exact .int i h
  | str y h => exact .str y h
  | dat a d h hs hd hz hp => exact .dat a d (dp_same s h) hs hd hz hp
  | dic a kvs h hs hz => exact .dic a kvs (s _ _ h) hs hz
theorem reads_rows {P : Program} {w : World} {h : Heap} : ∀ (kvs : List (Str × Int)) (vs : List (Key × Value)) (es : List DictEntry), KV (dsi kvs) vs → Pairs (mixKind P w) es vs →
    ReadsAll h (es.map (·.key)) (kvs.map fun p => PyData.str p.1) [] ∧ ReadsAll h (es.map (·.val)) (kvs.map fun p => PyData.int p.2) []
  | [], _, _, .nil, .nil => ⟨.nil, .nil⟩
  | (z, n) :: r, (k, v) :: vs, e :: es, .cons ⟨h1, h2⟩ hr, .cons p1 p2 pr => by
    obtain ⟨i1, i2⟩ := reads_rows r vs es hr pr
    dsimp only at h1 h2 p1 p2
    subst h1
    obtain ⟨t, rfl⟩ := h2
    obtain ⟨u, hu⟩ : ∃ u, e.key = Value.str z u := by
      have p1' : keyIs (Sum.inr z) e.key = true := p1
      rcases keyIs_shape p1' with ⟨i, u, q, _⟩ | ⟨y, u, q, hk⟩
      · cases q
      · cases q
        exact ⟨u, hk⟩
    refine ⟨?_, ?_⟩
    · rw [List.map_cons, List.map_cons, hu]
      exact .cons (as := []) (bs := []) (.str z u) i1
    · rw [List.map_cons, List.map_cons, p2]
      exact .cons (as := []) (bs := []) (.int n t) i2
theorem reads_dsi {P : Program} {w : World} {H : Hp} {h : Heap} {a : Addr} {kvs : List (Str × Int)} (x : ObjOk P w H h a (.dK (dsi kvs))) : (a == sysModules) = false ∧ Reads h (.ref a) (dsiD kvs) [a] := by
  obtain ⟨_, na, vs, hk, o, es, ep, e, ex, hd, _, pr, _⟩ := x
  obtain ⟨r1, r2⟩ := reads_rows (h := h) kvs vs es.toList hk pr
  refine ⟨na, .dict (as := []) (bs := []) e ex.1 hd ?_ ?_⟩
  · rw [List.map_map]
    exact r1
  · rw [List.map_map]
    exact r2
/-- repr(x), where nothing is being shown -/
def rRepr (K : PySem.W.Frag) : List V → Hp → VK → Prop := fun xs H Q => ∃ (x : V) (z : Str), xs = [x] ∧ Shows K H x z ∧ Q (.str z) H
theorem call_repr {X : Cx} (hg : X.A.guards = some []) (hu : X.A.units + 100 < cLine) : CallR X (.builtin "repr") (rRepr X.K) := by
  rintro pins s σ H xs us Q I r ⟨x, z, rfl, h, q⟩
  cases r with
  | cons rx rr =>
    cases rr
    rename_i v
    cases h with
    | non =>
      cases (show v = Value.none from rx)
      exact P.repr_of_none ⟨.str _, H, I.tok _, ⟨_, rfl⟩, q⟩
    | bl b =>
      cases (show v = Value.bool b from rx)
      refine P.repr_of_bool ⟨.str _, H, I.tok _, ⟨_, rfl⟩, ?_⟩
      cases b <;> exact q
    | int i h =>
      obtain ⟨t, rfl⟩ := rx
      exact P.repr_of_int h ⟨.str _, H, I.tok _, ⟨_, rfl⟩, q⟩
    | str y h =>
      obtain ⟨t, rfl⟩ := rx
      exact P.repr_of_str ⟨.str _, H, I.tok _, ⟨_, rfl⟩, q⟩ h
    | dat a d h hs hd hz hp =>
      cases (show v = Value.ref a from rx)
      obtain ⟨as, hr⟩ := Dp.reads I d _ _ h rx
      exact repr_of_reads' hr hs (PyData.noDict_hsm hd) hg (by omega) (fun _ _ e => e) (fun h' u tk k => ⟨.str _, H, I.kept k, ⟨_, rfl⟩, q⟩) hz
    | dic a kvs h hs hz =>
      cases (show v = Value.ref a from rx)
      obtain ⟨na, hr⟩ := reads_dsi (show ObjOk X.prog X.w H s.heap a (.dK (dsi kvs)) from I.hok a _ h)
      refine repr_of_reads' hr hs (fun _ m => ?_) hg ?_ (fun _ _ e => e) (fun h' u tk k => ⟨.str _, H, I.kept k, ⟨_, rfl⟩, q⟩) hz
      · rw [List.mem_singleton] at m
        rw [← m] at na
        exact absurd na (by decide)
      · have : (dsiD kvs).depth ≤ 1 := by
          have go : ∀ l : List (Str × Int), PyData.depthKv (l.map fun p => (PyData.str p.1, PyData.int p.2)) = 0 := by
            intro l
            induction l with
            | nil => rfl
            | cons p r ih => simp [PyData.depthKv, PyData.depth, ih]
          simp [dsiD, PyData.depth, go]
        omega
/-- the same in a block -/
theorem call_reprK {X : Cx} {K : PySem.W.Frag} {A : Around} (hK : X.K = K) (hA : X.A = A) (hg : A.guards = some []) (hu : A.units + 100 < cLine) : CallR X (.builtin "repr") (rRepr K) := by
  subst hK hA
  exact call_repr hg hu
end Lp

set_option Elab.async false
set_option linter.all false
set_option maxRecDepth 100000
set_option maxHeartbeats 4000000
/-! small things for readings -/
namespace Lp
open PySem PySem.Spec PyProof.Rows L2
theorem keep {H : Hp} {a b : Addr} {o u : HO} (f : H b = some u) (n : H a = none) : upd H a o b = some u := Eq.trans (upd_ne (ne_of_none f n)) f
theorem keepd {H : Hp} {a b : Addr} {o u : HO} (f : H b = some u) (n : b ≠ a) : upd H a o b = some u := Eq.trans (upd_ne n) f
theorem ne_fresh {H : Hp} {a b : Addr} {u : HO} (f : H b = some u) (n : H a = none) : a ≠ b := (ne_of_none f n).symm
theorem same_upd {H H1 : Hp} {l : Addr} {o : HO} (s : Same H H1) (n : H1 l = none) : Same H (upd H1 l o) := fun b u z => keep (s _ _ z) n
theorem same_set {H H1 : Hp} {d : Addr} {o : HO} (s : Same H H1) (n : H d = none) : Same H (upd H1 d o) := fun b u q => Eq.trans (upd_ne (ne_of_none q n)) (s _ _ q)
section
variable {K : PySem.W.Frag} {H : Hp}
theorem dp_bools : ∀ bs : List Bool, DpAll K H (bs.map V.bl) (bs.map PyData.bool)
  | [] => .nil
  | b :: bs => .cons (.bl b) (dp_bools bs)
theorem dp_strs : ∀ zs : List Str, DpAll K H (zs.map V.str) (zs.map PyData.str)
  | [] => .nil
  | z :: zs => .cons (.str z) (dp_strs zs)
theorem dp_refs : ∀ (ks : List Addr) (ds : List PyData), ks.length = ds.length → (∀ (r : Nat) (k : Addr) (d : PyData), ks[r]? = some k → ds[r]? = some d → Dp K H (.ref k) d) → DpAll K H (ks.map V.ref) ds
  | [], [], _, _ => .nil
  | k :: ks, d :: ds, h, f => .cons (f 0 k d rfl rfl) (dp_refs ks ds (by simpa using h) fun r k' d' h1 h2 => f (r + 1) k' d' (by simpa using h1) (by simpa using h2))
/-- two things of the same data are not unlike -/
theorem same_data {x y : V} {Q : VK} (d : PyData) (hx : Dp K H x d) (hy : Dp K H y d) (hs : SeqAt.shaped d = true) (q : Q (.bl false) H) : rNeD K x y H Q := by
  refine ⟨d, d, hx, hy, hs, hs, ?_⟩
  rw [SeqAt.eqv_refl d (SeqAt.canLay_of_shaped hs)]
  exact q
theorem dp_lists {g : Nat → List Bool} : ∀ (n : Nat) (ks : List Addr), ks.length = n → (∀ (r : Nat) (k : Addr), ks[r]? = some k → H k = some (.lst ((g r).map V.bl))) → DpAll K H (ks.map V.ref) ((List.range n).map fun r => .list ((g r).map PyData.bool)) := by
  intro n ks hk f
  refine dp_refs ks _ (by rw [List.length_map, List.length_range, hk]) fun r k d h1 h2 => ?_
  rw [List.getElem?_map] at h2
  have hr : r < n := by
    rw [← hk]
    exact (List.getElem?_eq_some_iff.mp h1).1
  rw [List.getElem?_range hr] at h2
  cases h2
  exact .lst (SqL.of (f r k h1)) (dp_bools _)
/-- one more object of a list of objects -/
theorem push_refs {H' Hn : Hp} {D k : Addr} {ks : List Addr} {f : Nat → HO} {u o : HO} (fk : ∀ (r : Nat) (k : Addr), ks[r]? = some k → k ≠ D ∧ H' k = some (f r)) (sn : Same H' Hn) (hD : H' D = some u) (nk : H' k = none) (hk : Hn k = some (f ks.length)) :
    ∀ (r : Nat) (k' : Addr), (ks ++ [k])[r]? = some k' → k' ≠ D ∧ upd Hn D o k' = some (f r) := by
  intro r k' h
  by_cases e : r < ks.length
  · rw [List.getElem?_append_left e] at h
    obtain ⟨h1, h2⟩ := fk r k' h
    exact ⟨h1, Eq.trans (upd_ne h1) (sn _ _ h2)⟩
  · have hr := (List.getElem?_eq_some_iff.mp h).1
    rw [List.length_append, List.length_singleton] at hr
    have er : r = ks.length := by omega
    subst er
    rw [List.getElem?_append_right (Nat.le_refl _), Nat.sub_self] at h
    cases h
    have h1 : k ≠ D := (ne_of_none hD nk).symm
    exact ⟨h1, Eq.trans (upd_ne h1) hk⟩
theorem dec_int_nat {a b : Nat} {x y : Int} (hx : x = (a : Int)) (hy : y = (b : Int)) : decide (V.int x = V.int y) = decide (b = a) := by
  subst hx hy
  by_cases e : b = a
  · subst e
    simp
  · rw [decide_eq_false e]
    refine decide_eq_false fun z => e ?_
    injection z with z
    omega
end
end Lp

set_option Elab.async false
set_option linter.all false
set_option maxRecDepth 100000
set_option maxHeartbeats 4000000
/-! Own operators of instances: + - & | * / in [] len str == != by the text's own methods. -/
namespace Lp
open PySem PySem.Spec PyProof.Rows L2
/-- the class has the name as a def at f -/
structure OpC (K : PySem.W.Frag) (C f : Addr) (name : Str) : Prop where
  at_ : PySem.W.findIn K (.ref C) name = some (some (.ref f))
  fn : PySem.W.isFn K (.ref f) = true
/-- an instance of C -/
def IsI (H : Hp) (C a : Addr) : Prop := ∃ dx fs, H a = some (.ins C dx fs)
section
variable {X : Cx} {CX : CXT} {k : Nat} {C f : Addr} {sp : Sp} {E : XK} {pins : List (Addr × Obj)} {σ : L2.St} {H : Hp} {s : Shared}
theorem fnr_any {A : Around} {Q : VK} {us : List Value} {vs : List V} (F : FnR X.prog X.w X.K X.mg X.base CX k f sp) (sb : L2.Sub X k A) (hx : Passes CX X E) (I : Inv X pins σ H s) (r : Vals vs us) (h : sp vs H Q E) :
    wpAny (model X.prog X.w) A (call (.ref f) us) (EP X pins σ Q) X.xe s := by
  have e0 : Env0 X.prog X.w X.K X.mg X.base A X.stack s H := by
    have e := I.env0
    exact ⟨by rw [sb.fr]; exact e.frames, e.mod, e.bs, e.bsz, e.funs, e.frf, e.hok, e.bare⟩
  refine wpAny_call (codeAny_mono (F A X.stack s H us vs Q E sb.room e0 r h) fun r s' hq => ?_)
  cases r with
  | error e => exact hx pins σ H s e s' I hq
  | ok fl =>
    cases fl with
    | ret w => exact I.after hq
    | next => exact False.elim hq
    | brk => exact False.elim hq
    | cont => exact False.elim hq
theorem inst_at {a : Addr} (I : Inv X pins σ H s) (h : IsI H C a) : ∃ ox od, PySem.W.InstAt s.heap a ox C od ∧ ox.data = .plain := insC_of I h
where insC_of {a : Addr} (I : Inv X pins σ H s) (h : IsI H C a) : ∃ ox od, PySem.W.InstAt s.heap a ox C od ∧ ox.data = .plain := StX.insC_at I (.inr h)
theorem back_cmp {Q : VK} {v : Value} {s' : Shared} (h : EP X pins σ Q v s') : PySem.W.CmpBack (EP X pins σ Q) v s' := by
  cases v with
  | notImplemented =>
    obtain ⟨z, H', I', r, q⟩ := h
    cases z <;> first | (obtain ⟨_, r⟩ := r; cases r) | cases r
  | _ => exact h
/-- x op y, both instances of C -/
def rOwn2 (C : Addr) (sp : Sp) (E : XK) : R2 := fun x y H Q => ∃ a b, x = .ref a ∧ y = .ref b ∧ IsI H C a ∧ IsI H C b ∧ sp [x, y] H Q E
/-- x op y, x an instance of C -/
def rOwnI (C : Addr) (sp : Sp) (E : XK) : R2 := fun x y H Q => ∃ a i, x = .ref a ∧ y = .int i ∧ IsI H C a ∧ sp [x, y] H Q E
theorem opo_bin {op : Operator} (F : FnR X.prog X.w X.K X.mg X.base CX k f sp) (hr : Room k X.A) (hx : Passes CX X E) (sf : PySem.W.selfFirst X.K C = true) (c : OpC X.K C f (PySem.dunder op.info.2)) : OpR X (binaryOp op) (rOwn2 C sp E) := by
  intro pins s σ H x y v u Q I rx ry ⟨a, b, ex, ey, ia, ib, h⟩
  subst ex ey
  cases rx
  cases ry
  obtain ⟨ox, od, J, _⟩ := inst_at I ia
  obtain ⟨oy, od', J', _⟩ := inst_at I ib
  obtain ⟨m, hF⟩ := I.fr
  exact PySem.W.binop_K hF I.ok.mod.kin J J'.type sf c.at_ c.fn (wpAny_mono (fnr_any (vs := [.ref a, .ref b]) F ⟨hr, rfl⟩ hx I (.cons rfl (.cons rfl .nil)) h) (fun v s' q => back_cmp q) fun _ _ z => z)
theorem opo_int {op : Operator} {fo ro rc : Option Value} (F : FnR X.prog X.w X.K X.mg X.base CX k f sp) (hr : Room k X.A) (hx : Passes CX X E) (sf : PySem.W.selfFirst X.K C = true) (c : OpC X.K C f (PySem.dunder op.info.2))
    (hrv : PySem.W.findIn X.K (.ref C) (dunderR op.info.2) = some rc) (hp : rc = none ∨ ∃ g : Addr, rc = some (.ref g)) (h1 : PySem.W.findIn X.K (.type "int") (PySem.dunder op.info.2) = some fo) (h2 : PySem.W.findIn X.K (.type "int") (dunderR op.info.2) = some ro)
    (hsub : PySem.W.subIn X.K (.type "int") (.ref C) = some false) : OpR X (binaryOp op) (rOwnI C sp E) := by
  intro pins s σ H x y v u Q I rx ry ⟨a, i, ex, ey, ia, h⟩
  subst ex ey
  cases rx
  obtain ⟨t, rfl⟩ := ry
  obtain ⟨ox, od, J, _⟩ := inst_at I ia
  obtain ⟨m, hF⟩ := I.fr
  exact PySem.W.ksp_binT hF I.ok.mod.kin J rfl sf c.at_ c.fn hrv hp h1 h2 hsub (wpAny_mono (fnr_any (vs := [.ref a, .int i]) F ⟨hr, rfl⟩ hx I (.cons rfl (.cons ⟨_, rfl⟩ .nil)) h) (fun v s' q => back_cmp q) fun _ _ z => z)
/-- y in x, x an instance of C, whose own method answers with a truth value -/
def rOwnIn (C : Addr) (sp : Sp) (E : XK) : R2 := fun x y H Q => ∃ a, y = .ref a ∧ IsI H C a ∧ sp [y, x] H (fun v H' => ∃ b, v = .bl b ∧ Q (.bl b) H') E
theorem opo_in (F : FnR X.prog X.w X.K X.mg X.base CX k f sp) (hr : Room k X.A) (hx : Passes CX X E) (c : OpC X.K C f "__contains__") : OpR X (compareOp .In) (rOwnIn C sp E) := by
  intro pins s σ H x y v u Q I rx ry ⟨a, ey, ia, h⟩
  subst ey
  cases ry
  obtain ⟨ox, od, J, _⟩ := inst_at I ia
  obtain ⟨m, hF⟩ := I.fr
  refine PySem.W.in_K hF I.ok.mod.kin J c.at_ c.fn (wpAny_mono (fnr_any (vs := [.ref a, x]) F ⟨hr, rfl⟩ hx I (.cons rfl (.cons rx .nil)) h) (fun v s' q => ?_) fun _ _ z => z)
  obtain ⟨z, H', I', rz, b, ez, q⟩ := q
  subst ez
  cases rz
  exact wpAny_truthy_bool ⟨.bl _, H', I', rfl, q⟩
def rOwnNotIn (C : Addr) (sp : Sp) (E : XK) : R2 := fun x y H Q => ∃ a, y = .ref a ∧ IsI H C a ∧ sp [y, x] H (fun v H' => ∃ b, v = .bl b ∧ Q (.bl (!b)) H') E
theorem opo_notin (F : FnR X.prog X.w X.K X.mg X.base CX k f sp) (hr : Room k X.A) (hx : Passes CX X E) (c : OpC X.K C f "__contains__") : OpR X (compareOp .NotIn) (rOwnNotIn C sp E) := by
  intro pins s σ H x y v u Q I rx ry ⟨a, ey, ia, h⟩
  subst ey
  cases ry
  obtain ⟨ox, od, J, _⟩ := inst_at I ia
  obtain ⟨m, hF⟩ := I.fr
  refine PySem.W.notIn_K hF I.ok.mod.kin J c.at_ c.fn (wpAny_mono (fnr_any (vs := [.ref a, x]) F ⟨hr, rfl⟩ hx I (.cons rfl (.cons rx .nil)) h) (fun v s' q => ?_) fun _ _ z => z)
  obtain ⟨z, H', I', rz, b, ez, q⟩ := q
  subst ez
  cases rz
  exact wpAny_truthy_bool ⟨.bl _, H', I', rfl, q⟩
/-- x[i], x an instance of C -/
def rOwnIx (C : Addr) (sp : Sp) (E : XK) : R2 := fun x y H Q => ∃ a, x = .ref a ∧ IsI H C a ∧ sp [x, y] H Q E
theorem pe_ixO {a b : Expr} {ta tb : TE} {pos : Pos} (F : FnR X.prog X.w X.K X.mg X.base CX k f sp) (hr : Room (k + 1) X.A) (hx : Passes CX X E) (c : OpC X.K C f "__getitem__") (hf : PySem.W.fnIn X.K f = true) (ha : PE X a ta) (hb : PE X b tb)
    (hs : ∀ (x : Addr) (i : Value), subscripted b true (.ref x) i = runValue (.builtin "lifetime.subscript" ⟨[.ref x, i], []⟩) := by intro x i; with_unfolding_all rfl) : PE X (.Subscript a b pos) (tOp (rOwnIx C sp E) ta tb) := by
  refine ⟨fun pins s σ H Q I h => ?_⟩
  refine Subscript_ (binT ha hb I h fun v u s2 x y H2 I2 rx ry q => ?_)
  obtain ⟨p, ex, ia, h⟩ := q
  subst ex
  cases rx
  obtain ⟨ox, od, J, _⟩ := inst_at I2 ia
  obtain ⟨m, hF⟩ := I2.fr
  exact PySem.W.sub_K hF I2.ok.mod.kin J c.at_ hf c.fn (fnr_any (vs := [.ref p, y]) F ⟨hr.in1, rfl⟩ hx I2 (.cons rfl (.cons ry .nil)) h) (hs _ _)
/-- len(x) -/
theorem cr_lenO (F : FnR X.prog X.w X.K X.mg X.base CX k f sp) (hr : Room (k + 1) X.A) (hx : Passes CX X E) (c : OpC X.K C f "__len__") :
    CallR X (.builtin "len") (fun xs H Q => ∃ a, xs = [.ref a] ∧ IsI H C a ∧ sp xs H (fun v H' => ∃ n : Int, v = .int n ∧ (0 ≤ n ∧ n < 2 ^ 63) ∧ Q (.int n) H') E) := by
  intro pins s σ H xs us Q I r ⟨a, ex, ia, h⟩
  subst ex
  obtain ⟨u, rfl, rfl⟩ : ∃ u, us = [u] ∧ u = .ref a := by
    cases r with
    | cons r1 r2 => cases r2; cases r1; exact ⟨_, rfl, rfl⟩
  obtain ⟨ox, od, J, _⟩ := inst_at I ia
  obtain ⟨m, hF⟩ := I.fr
  refine PySem.W.len_K hF I.ok.mod.kin J c.at_ c.fn (wpAny_mono (fnr_any (vs := [.ref a]) F ⟨hr.in1, rfl⟩ hx I (.cons rfl .nil) h) (fun v s' q => ?_) fun _ _ z => z)
  obtain ⟨z, H', I', rz, n, ez, hn, q⟩ := q
  subst ez
  obtain ⟨t, rfl⟩ := rz
  exact ⟨hn, .int n, H', I'.tok _, ⟨_, rfl⟩, q⟩
/-- str(x) -/
theorem cr_strO (F : FnR X.prog X.w X.K X.mg X.base CX k f sp) (hr : Room (k + 2) X.A) (hx : Passes CX X E) (c : OpC X.K C f "__str__") :
    CallR X (.type "str") (fun xs H Q => ∃ a, xs = [.ref a] ∧ IsI H C a ∧ sp xs H (fun v H' => ∃ z, v = .str z ∧ Q v H') E) := by
  intro pins s σ H xs us Q I r ⟨a, ex, ia, h⟩
  subst ex
  obtain ⟨u, rfl, rfl⟩ : ∃ u, us = [u] ∧ u = .ref a := by
    cases r with
    | cons r1 r2 => cases r2; cases r1; exact ⟨_, rfl, rfl⟩
  obtain ⟨ox, od, J, _⟩ := inst_at I ia
  have h1 := hr.in1.in1
  refine PySem.W.kso_call h1.units0 I.kIn J c.at_ c.fn (wpAny_mono (fnr_any (vs := [.ref a]) F ⟨h1, rfl⟩ hx I (.cons rfl .nil) h) (fun v s' q => ?_) fun _ _ z => z)
  obtain ⟨z, H', I', rz, n, ez, q⟩ := q
  subst ez
  obtain ⟨t, rfl⟩ := rz
  exact ⟨.str n, H', I', ⟨_, rfl⟩, q⟩
/-- x == y, both instances of C -/
theorem opo_eq (F : FnR X.prog X.w X.K X.mg X.base CX k f sp) (hr : Room k X.A) (hx : Passes CX X E) (c : OpC X.K C f "__eq__") : OpR X (compareOp .Eq) (rOwn2 C sp E) := by
  intro pins s σ H x y v u Q I rx ry ⟨a, b, ex, ey, ia, ib, h⟩
  subst ex ey
  cases rx
  cases ry
  obtain ⟨ox, od, J, _⟩ := inst_at I ia
  obtain ⟨oy, od', J', _⟩ := inst_at I ib
  obtain ⟨m, hF⟩ := I.fr
  exact PySem.W.cmp_K (op := .Eq) (tb := .ref C) hr.units0 hF I.ok.mod.kin J J'.type (by simp [PySem.W.notFirst]) c.at_ c.fn (wpAny_mono (fnr_any (vs := [.ref a, .ref b]) F ⟨hr, rfl⟩ hx I (.cons rfl (.cons rfl .nil)) h) (fun v s' q => back_cmp q) fun _ _ z => z)
end
end Lp

set_option Elab.async false
set_option linter.all false
set_option maxRecDepth 100000
set_option maxHeartbeats 4000000
namespace Lp
open PySem PySem.Spec PyProof.Rows L2 PySem.W
section
variable {prog : Program} {w : World} {M : Model} {A : Around} {E : Value → Shared → Prop} {s : Shared} {K : Frag} {x y C f : Addr} {ox oy : Obj} {od od' : Option Obj}
theorem ifBound_B {name : Str} {id : String} {args : List Value} {Q : Option Value → Shared → Prop} (X : K.In s.heap) (I : InstAt s.heap x ox C od) (hs : findIn K (.ref C) name = some (some (.builtin id)))
    (hb : ∀ self, bindSpecial (.builtin id) self = pure (.builtin id, [self])) (h : wpAny M A (call (.builtin id) (.ref x :: args)) (fun v => Q (some v)) E s) : wpAny M A (callSpecialIfBound? (.ref x) name args) Q E s := by
  simp only [callSpecialIfBound?, bindSpecialIfBound?]
  refine wpAny_holding (wpAny_bind (wpAny_bind (wpAny_bind (I.type.here ((looks_findIn X hs).here ?_)))))
  refine wpAny_bind (wpAny_askSetting (wpAny_ite ?_))
  have fin : wpAny M A (call (.builtin id) ([.ref x] ++ args) >>= fun v => pure (some v)) Q E s := wpAny_bind (wpAny_mono h (fun v s' h' => wpAny_pure h') fun _ _ h' => h')
  split
  · exact wpAny_bind ((Looks.of_pure (hb _)).here (wpAny_pure (by exact fin)))
  · exact wpAny_tryCatch (wpAny_bind ((Looks.of_pure (hb _)).here (wpAny_pure (by exact fin))))
theorem ne_K {Q : Value → Shared → Prop} (hu : A.units + 1 < cLine) (X : K.In s.heap) (I : InstAt s.heap x ox C od) (J : InstAt s.heap y oy C od') (hn : findIn K (.ref C) "__ne__" = some (some (.builtin "object.__ne__"))) (hm : mroIn K C (.type "object") = some true)
    (hs : findIn K (.ref C) "__eq__" = some (some (.ref f))) (hf : isFn K (.ref f) = true)
    (h : wpAny (model prog w) A.in1 (call (.ref f) [.ref x, .ref y]) (fun v s' => ∃ b, v = .bool b ∧ Q (.bool (!b)) s') E s) : wpAny (model prog w) A (compareOp .NotEq (.ref x) (.ref y)) Q E s := by
  have one : wpAny (model prog w) A (tryCompare (.ref x) "__ne__" (.ref y)) (fun r s' => ∃ v, r = some v ∧ Q v s') E s := by
    unfold tryCompare
    refine wpAny_bind (ifBound_B X I hn PySem.F.cmp_object.ne.bind (wpAny_call (codeAny_call_builtin PySem.F.cmp_object.ne.plain F.cmpEntry_ne (check_slot (i := "object.__ne__") (owner := "object") (n := "__ne__") F.cmpKind_ne F.cmpSplit_ne (I.type.andThen (looks_mroIn X hm)) (F.cmpArgs_ne _ _) ?_))))
    unfold Builtin.«object.__ne__»
    refine wpAny_bind (m := slotArgs "__ne__" 1 _) (wpAny_pure ?_)
    refine wpAny_bind (m := cRoomFor _ _) (wpAny_cRoomFor hu ?_)
    refine wpAny_bind (m := callSpecialIfBound? (.ref x) (Str.ofString "__eq__") [.ref y]) (ifBound_K X I hs hf (wpAny_mono h (fun r s' hr => ?_) fun _ _ e => e))
    obtain ⟨b, rfl, hq⟩ := hr
    refine wpAny_bind (m := truthy (.bool _)) (wpAny_truthy_bool ?_)
    exact wpAny_pure (wpAny_pure ⟨_, rfl, hq⟩)
  unfold compareOp richCompare
  simp only [oneThing_ref]
  refine wpAny_holding (wpAny_bind (wpAny_cRoomFor (Nat.lt_of_succ_lt hu) ?_))
  refine wpAny_bind (I.type.here (wpAny_bind (J.type.here ?_)))
  split
  · rename_i q
    simp at q
  · refine wpAny_bind (wpAny_pure ?_)
    simp only [Bool.false_eq_true, if_false]
    refine wpAny_bind (wpAny_mono one (fun r s' z => ?_) fun _ _ e => e)
    obtain ⟨v, rfl, hq⟩ := z
    exact wpAny_pure hq
end
section
variable {X : Cx} {CX : CXT} {k : Nat} {C f : Addr} {sp : Sp} {E : XK}
def rOwnNe (C : Addr) (sp : Sp) (E : XK) : R2 := fun x y H Q => ∃ a b, x = .ref a ∧ y = .ref b ∧ IsI H C a ∧ IsI H C b ∧ sp [x, y] H (fun v H' => ∃ b, v = .bl b ∧ Q (.bl (!b)) H') E
theorem opo_ne (F : FnR X.prog X.w X.K X.mg X.base CX k f sp) (hr : Room (k + 1) X.A) (hx : Passes CX X E) (c : OpC X.K C f "__eq__") (hn : findIn X.K (.ref C) "__ne__" = some (some (.builtin "object.__ne__"))) (hm : mroIn X.K C (.type "object") = some true) :
    OpR X (compareOp .NotEq) (rOwnNe C sp E) := by
  intro pins s σ H x y v u Q I rx ry ⟨a, b, ex, ey, ia, ib, h⟩
  subst ex ey
  cases rx
  cases ry
  obtain ⟨ox, od, J, _⟩ := inst_at I ia
  obtain ⟨oy, od', J', _⟩ := inst_at I ib
  refine ne_K hr.in1.units0 I.kIn J J' hn hm c.at_ c.fn (wpAny_mono (fnr_any (vs := [.ref a, .ref b]) F ⟨hr.in1, rfl⟩ hx I (.cons rfl (.cons rfl .nil)) h) (fun v s' q => ?_) fun _ _ z => z)
  obtain ⟨z, H', I', rz, c, ez, q⟩ := q
  subst ez
  cases rz
  exact ⟨_, rfl, .bl _, H', I', rfl, q⟩
end
end Lp

set_option Elab.async false
set_option linter.all false
set_option maxRecDepth 100000
set_option maxHeartbeats 4000000
/-! Own exceptions over any built-in class, whose __init__ hands a text to the class above and stores one field. -/
namespace Lp
open PySem PySem.Spec PyProof.Rows L2 Builtin Builtin.ObjectAttr
section
variable {prog : Program} {w : World} {A : Around} {E : Value → Shared → Prop} {R : Result → Shared → Prop} {hp : Heap} {g : Array GenState} {d : Drawn} {t : Nat} {os : OsState}
theorem exc_osaB {B : String} {bmB : List Value} (SF : StoreFacts B bmB "object.__setattr__" "object") {K : W.Frag} {name : Str} {tk : Tok} {v : Value} {x C : Addr} {fv : Array Value} {cd : ClassData}
    (X : K.In hp) (hx : hp.get? x = some { cls := .ref C, data := .fields fv }) (hcd : W.clsIn K C = some cd) {bm : List Value} (ho : cd.mro = .ref C :: bm) (hm : W.excTail bmB bm = true) (hh : cd.hasDict = true) (ha : W.findIn K (.ref C) name = some none)
    (hq : ∀ h' tk' dx, (∀ b o, b ≠ x → hp.get? b = some o → h'.get? b = some o) → hp.objs.size ≤ dx → dx ≠ x → h'.get? x = some { cls := .ref C, dict := some dx, data := .fields fv } →
      h'.Ns1 dx (fun y => if y = name then some v else none) → R (.ok (.ret .none)) ⟨h', g, d, tk', os⟩) :
    codeAny (model prog w) A (.call (.builtin "object.__setattr__") ⟨[.ref x, .str name tk, v], []⟩) R ⟨hp, g, d, t, os⟩ := by
  have I : W.InstAt hp x { cls := .ref C, data := .fields fv } C none := ⟨hx, rfl, rfl, trivial⟩
  have ne : cd.mro.isEmpty = false := by rw [ho]; rfl
  have hob : cd.mro.contains (.type "object") = true := by rw [ho, List.contains_cons, W.excTail_contains "object" _ hm, SF.hasOwner, Bool.or_true]
  have hxs : x ≠ hp.objs.size := Nat.ne_of_lt (Heap.lt_size hx)
  have sub : W.Looks (model prog w) hp (isInstance (.ref x) (.type "object")) true := I.type.andThen (W.looks_mroIn X (by unfold W.mroIn; rw [hcd, Option.bind_some, if_neg (by rw [ne]; decide), hob]))
  refine codeAny_call_builtin SF.slot.plain SF.entry (@W.check_slot (model prog w) _ _ ⟨hp, g, d, t, os⟩ "object.__setattr__" "object" "__setattr__" (.ref x) [.str name tk, v] [] _ SF.kind SF.split sub (SF.args (.ref x) (.str name tk) v) ?_)
  have hmr : W.Looks (model prog w) hp (mroOf (.ref C)) cd.mro := (W.looks_clsIn X hcd).andThen .now
  have L3 : W.Looks (model prog w) hp (storeTaker? none) none := .now
  have hcls : W.Looks (model prog w) hp (classData C) cd := W.looks_clsIn X hcd
  rw [W.osa_eq, refuse_eq]
  refine wpAny_bind (wpAny_bind (I.type.at (wpAny_bind (hmr.at ?_))))
  rw [ho, refuseLoop_ref, W.excTail_pass _ (SF.passes _) _ hm]
  refine wpAny_pure (wpAny_bind (I.type.at (wpAny_bind ((W.looks_findIn X ha).at (wpAny_bind (L3.at ?_))))))
  show wpAny _ _ (storeInOwnDict (.ref x) (.ref C) (.str name tk) name v false) _ _ _
  obtain ⟨nm, bs, mro, ns, qn, hd, sn, sb, ab, col, del⟩ := cd
  dsimp only at hh
  subst hh
  unfold storeInOwnDict ownDictForStores
  repeat (first | with_reducible refine HandSPX.store_in_new ?_ ?_ | with_reducible refine wpAny_loadPart_at hx ?_ | with_reducible refine hcls.at ?_ | wp_step)
  · exact ⟨_, #[], _, (Heap.get?_update_ne _ _ _ _ hxs.symm).trans (Heap.get?_push_at rfl rfl), rfl, fun e he => absurd he (by simp), fun _ => rfl⟩
  · intro h' tk' hn' hs
    have hx₁ : (hp.push { cls := .type "dict", data := .dict #[] }).get? x = some { cls := .ref C, data := .fields fv } := Heap.get?_push_of_some _ hx
    refine hq h' tk' hp.objs.size (fun b o hb ho => ?_) (Nat.le_refl _) hxs.symm ?_ hn'
    · exact (hs.2 b (Nat.ne_of_lt (Heap.lt_size ho))).trans ((Heap.get?_update_ne _ _ _ _ hb).trans (Heap.get?_push_of_some _ ho))
    · exact (hs.2 x hxs).trans (Heap.get?_update_self _ hx₁ rfl)
end
/-- what the written part says of the class; B the built-in class under it -/
structure OexB (K : PySem.W.Frag) (C : Addr) (bmB : List Value) (newId : String) : Prop where
  ini : PySem.W.excInitIn K C bmB newId = true
  dict : PySem.W.hasDictIn K C = true
  sa : PySem.W.findIn K (.ref C) "__setattr__" = some (some (.builtin "object.__setattr__"))
  exC : PySem.W.subIn K (.ref C) (.type "BaseException") = some true
  tyC : PySem.W.typeIn K (.ref C) = some (.type "type")
  kC : PySem.W.keepIn K (.ref C) = true
theorem OexB.cls {K : PySem.W.Frag} {C : Addr} {bmB : List Value} {newId : String} (T : OexB K C bmB newId) : ∃ nm q N bs bm sn sub ab col dd k0 k1 k2 k3 k5, K.lookup C = some (excClassObj nm q C N bs bm true sn sub ab col dd k0 k1 k2 k3 k5 newId) ∧ PySem.W.excTail bmB bm = true := by
  have q := T.ini
  have hd := T.dict
  unfold PySem.W.excInitIn at q
  split at q
  · rename_i dd cd sl ho
    split at q
    · rename_i C' bm k0 k1 k2 k3 n k5 hm hs
      simp only [Bool.and_eq_true, beq_iff_eq, Bool.not_eq_true'] at q
      obtain ⟨⟨⟨rfl, rfl⟩, hdel⟩, ht⟩ := q
      have hcl : PySem.W.clsIn K C' = some cd := by unfold PySem.W.clsIn; rw [ho]
      obtain ⟨cd', hc', hd'⟩ := PySem.W.any_some hd
      rw [hcl] at hc'
      cases hc'
      obtain ⟨nm, bs, mro, ns, qn, hdct, sn, sub, ab, col, del⟩ := cd
      dsimp only at hm hdel hd'
      subst hm hdel hd'
      have hsl : sl = #[k0, k1, k2, k3, some (.builtin n), k5] := by
        obtain ⟨l⟩ := sl
        simp only at hs
        rw [hs]
      subst hsl
      exact ⟨nm, qn, ns, bs, bm, sn, sub, ab, col, dd, k0, k1, k2, k3, k5, ho, ht⟩
    · cases q
  · cases q
section
variable {X : Cx} {pins : List (Addr × Obj)} {σ : L2.St} {H : Hp} {s : Shared} {a C dx : Addr} {f : Str} {y : V} {u : Value} {fs : List (Str × V)} {E : Value → Shared → Prop} {A : Around} {B newId initId : String} {bmB : List Value}
/-- self.f = y, the first one -/
theorem ostB_new {Q : Unit → Shared → Prop} (SF : StoreFacts B bmB "object.__setattr__" "object") (T : OexB X.K C bmB newId) (I : Inv X pins σ H s) (e : H a = some (exo a C none)) (hno : PySem.W.findIn X.K (.ref C) f = some none) (ry : RelV y u)
    (h : ∀ dx s', H dx = none → dx ≠ a → Inv X pins σ (upd (upd H dx (exd dx [(f, y)])) a (exo a C (some dx))) s' → Q () s') : wpAny (model X.prog X.w) A (setAttr (.ref a) f u) Q E s := by
  obtain ⟨nm, q, N, bs, bm, sn, sub, ab, col, dd, k0, k1, k2, k3, k5, hC, hbm⟩ := T.cls
  have hcl : PySem.W.clsIn X.K C = some { name := nm, bases := bs, mro := .ref C :: bm, ns := N, qualname := q, hasDict := true, slotNames := sn, subclasses := sub, abstract := ab, collection := col, hasDel := false } := by unfold PySem.W.clsIn; rw [hC] <;> rfl
  obtain ⟨t1, ho⟩ := exo_at I.hok e
  obtain ⟨hp, g, d, t, os⟩ := s
  refine PySem.W.set_plain I.kIn (ox := { cls := .ref C, dict := none, data := .fields #[.ref t1, .none, .none, .none, .bool false, .none] }) (od := none) ⟨ho, rfl, rfl, trivial⟩ T.sa ?_
  refine exc_osaB SF I.kIn ho hcl rfl hbm rfl hno (fun h' tk' dx k dn dne hx hn => ?_)
  have hnd : H dx = none := I.hok.fresh dn
  have nd : ∀ {b : Addr} {o : Obj}, hp.get? b = some o → b ≠ dx := fun {b o} q => Nat.ne_of_lt (Nat.lt_of_lt_of_le (Heap.lt_size q) dn)
  have na : ∀ {b : Addr}, H b = none → b ≠ a := fun {b} n z => by
    rw [z, e] at n
    cases n
  have Un1 : Un X.fs [] H (upd (upd H dx (exd dx [(f, y)])) a (exo a C (some dx))) hp h' := {
    keep := fun b o q n _ _ => k b o (na n) q
    slot := fun b o q n _ _ => ⟨o.slots, k b o (na n) q⟩
    free := fun b o q n _ => by rw [upd_ne (na n), upd_ne (nd q)]; exact n
    there := fun b o q _ => by
      by_cases hb : b = a
      · exact ⟨_, by rw [hb]; exact hx⟩
      · exact ⟨o, k b o hb q⟩
    tups := fun b xs q => by rw [upd_ne (at_ne e q exo_tup), upd_ne (ne_of_none q hnd)]; exact q
    frzs := fun b o v q => by rw [upd_ne (at_ne e q exo_frz), upd_ne (ne_of_none q hnd)]; exact q
    tbls := fun b ps q => ⟨#[], by rw [upd_ne (at_ne e q exo_tbl), upd_ne (ne_of_none q hnd), q]; simp⟩ }
  refine h dx _ hnd dne (I.un (t' := tk') Un1 fun b o q => ?_)
  by_cases hb : b = a
  · subst hb
    rw [upd_same] at q
    cases q
    exact exo_ok hx
  · rw [upd_ne hb] at q
    by_cases hd : b = dx
    · subst hd
      rw [upd_same] at q
      cases q
      exact exd_ok hn (relO_put (fs := []) ry fun g => True.intro)
    · rw [upd_ne hd] at q
      exact (I.hok b o q).stay (fun c v hc z => k c v (by
          rcases hc with hc | hc
          · rw [hc]
            exact hb
          · exact at_ne e hc exo_own) z)
        (fun c hc => by rw [upd_ne (at_ne e hc exo_own), upd_ne (ne_of_none hc hnd)]; exact hc) (fun c xs hc => by rw [upd_ne (at_ne e hc exo_tup), upd_ne (ne_of_none hc hnd)]; exact hc)
/-- B.__init__(self, ..): nothing of it is told -/
theorem oinitB_ok {us : List Value} {Q : Value → Shared → Prop} (FB : ExcBaseFacts B newId initId bmB) (T : OexB X.K C bmB newId) (I : Inv X pins σ H s) (e : H a = some (exo a C none)) (hl : us.length ≤ sizeLine) (h : ∀ s', Inv X pins σ H s' → Q .none s') :
    wpAny (model X.prog X.w) A (call (.builtin initId) (.ref a :: us)) Q E s := by
  obtain ⟨nm, q, N, bs, bm, sn, sub, ab, col, dd, k0, k1, k2, k3, k5, hC, hbm⟩ := T.cls
  obtain ⟨t1, ho⟩ := exo_at I.hok e
  obtain ⟨hp, g, d, t, os⟩ := s
  refine wpAny_call (PySem.HandSPX.init_base FB (fun Y => PySem.W.excTail_contains Y bm hbm) (I.kIn _ _ hC) ho hl fun h' t2 k hx => ?_)
  have J := I.write (t' := t) (x := a) (e := a) (o := exo a C none) (by rw [e]; exact True.intro) (.inl rfl) k ⟨_, hx⟩ (exo_ok hx)
  have eu : upd H a (exo a C none) = H := by
    funext b
    by_cases hb : b = a
    · rw [hb, upd_same, e]
    · rw [upd_ne hb]
  rw [eu] at J
  exact h _ J
end
/-- B.__init__(self, ..) -/
def tBI (K : PySem.W.Frag) (bmB : List Value) (newId : String) (ta : TA) : TE := fun σ H Q => ta σ H fun vs H1 => ∃ (a C : Addr) (ws : List V), vs = .ref a :: ws ∧ ws.length ≤ 1000 ∧ OexB K C bmB newId ∧ H1 a = some (exo a C none) ∧ Q .non H1
/-- self.f = e, the first field of an exception -/
def tOstB (K : PySem.W.Frag) (bmB : List Value) (newId : String) (f : Str) (to te : TE) : TS := fun D σ H => te σ H fun y H1 => to σ H1 fun x H2 => ∃ a C : Addr, x = .ref a ∧ OexB K C bmB newId ∧ PySem.W.findIn K (.ref C) f = some none ∧
  H2 a = some (exo a C none) ∧ ∀ dx, H2 dx = none → dx ≠ a → D.nx σ (upd (upd H2 dx (exd dx [(f, y)])) a (exo a C (some dx)))
/-- C(e, ..), C's own __init__ keeping sp -/
def tMkB (C : Addr) (sp : Sp) (ta : TA) : L2.St → Hp → XK → Prop := fun σ H Q => ta σ H fun vs H1 => vs.length ≤ 1000 ∧ ∀ a, H1 a = none → sp (.ref a :: vs) (upd H1 a (exo a C none))
  (fun v H2 => v = .non ∧ ∃ (d : Addr) (fs : List (Str × V)), H2 a = some (exo a C (some d)) ∧ H2 d = some (exd d fs) ∧ H1 d = none ∧ Q (.ref C) (some d) (upd (del H2 a) d (.xd fs))) (fun _ _ _ => False)
section
variable {X : Cx} {o e : Expr} {es : List Expr} {to te : TE} {ta : TA} {f : Str} {p p' p1 p2 pos : Pos} {B newId initId : String} {bmB : List Value}
/-- B.__init__(self, ..), B a built-in class by its name -/
theorem pe_binit {x : Str} {pl : Sem Bool} (FB : ExcBaseFacts B newId initId bmB) (hg : Gl X x) (hm : X.mg x = none) (hb : bootBuiltins x = some (.type B)) (hty : typeOf (.type B) = pure (.type "type")) (hs : Manifest.isStub B = false)
    (vV : PySem.W.findCls X.K (.type B) (.type "type") "__init__" = some (.val (.builtin initId))) (hh : PySem.W.handedIn (.builtin initId) = true) (ha : PA X (e :: es) ta) (hn : x ≠ "__name__" := by decide) (hdb : (x == ("__debug__" : Str)) = false := by decide)
    (hc : eval (.Call (.Attribute (.Name x p1) "__init__" p2) (e :: es) [] pos) X.env = (do
      let ov ← eval (.Name x p1) X.env
      standAt p2.atName
      let (f, first) ← holding [ov] (getMethod ov "__init__" pl)
      callWith pos f first (backTo pos (starEach (e :: es) X.env)) (backToKw pos (keywordEach [] X.env))) := by rfl)
    (he : starEach (e :: es) X.env = (false, eval e X.env) :: starEach es X.env := by rfl) (hpl : (backTo pos (starEach es X.env)).any (·.1) = false := by rfl) :
    PE X (.Call (.Attribute (.Name x p1) "__init__" p2) (e :: es) [] pos) (tBI X.K bmB newId ta) := by
  refine ⟨fun pins s σ H Q I h => ?_⟩
  refine PySem.W.methodCall_KW (ld_blt I hg hm hb ?_ hn hdb) hc
  obtain ⟨m, fr⟩ := I.fr
  refine PySem.W.method_type fr I.ok.mod.kin hty hs vV hh ?_
  show wpAny _ _ (callWith pos (Value.builtin initId) [] (backTo pos (starEach (e :: es) X.env)) []) _ _ _
  refine PyProof.Rows.callWith_method1 (thn (ha.run pos pins _ σ H _ (I.tok _) h) fun us s1 ⟨vs, H1, I1, r1, a, C, ws, ev, hl, T, ea, q⟩ => ?_) he hpl
  subst ev
  cases r1 with
  | @cons _ u0 _ ur ra rw' =>
    obtain rfl : u0 = Value.ref a := ra
    have hlen : ur.length ≤ sizeLine := by
      rw [← Paired.length rw', sizeLine_eq]
      omega
    exact oinitB_ok FB T I1 ea hlen fun s' J => ⟨.non, H1, J, rfl, q⟩
/-- P.__init__(self, ..), P an own class that has the built-in's -/
theorem pe_pinit {x : Str} {P : Addr} {pl : Sem Bool} (FB : ExcBaseFacts B newId initId bmB) (hg : Gl X x) (hm : X.mg x = some (.ref P)) (hga : PySem.W.specialIn X.K (.ref P) "__getattribute__" = some (some (.builtin "type.__getattribute__"))) (hrd : PySem.W.readsIn X.K P (.type "type") = true)
    (vV : PySem.W.findCls X.K (.ref P) (.type "type") "__init__" = some (.val (.builtin initId))) (hh : PySem.W.handedIn (.builtin initId) = true) (ha : PA X (e :: es) ta) (hdb : (x == ("__debug__" : Str)) = false := by decide)
    (hc : eval (.Call (.Attribute (.Name x p1) "__init__" p2) (e :: es) [] pos) X.env = (do
      let ov ← eval (.Name x p1) X.env
      standAt p2.atName
      let (f, first) ← holding [ov] (getMethod ov "__init__" pl)
      callWith pos f first (backTo pos (starEach (e :: es) X.env)) (backToKw pos (keywordEach [] X.env))) := by rfl)
    (he : starEach (e :: es) X.env = (false, eval e X.env) :: starEach es X.env := by rfl) (hpl : (backTo pos (starEach es X.env)).any (·.1) = false := by rfl) :
    PE X (.Call (.Attribute (.Name x p1) "__init__" p2) (e :: es) [] pos) (tBI X.K bmB newId ta) := by
  refine ⟨fun pins s σ H Q I h => ?_⟩
  refine PySem.W.methodCall_KW (ld_glob I hg hm ?_ hdb) hc
  obtain ⟨m, fr⟩ := I.fr
  refine PySem.W.method_of_cls fr I.ok.mod.kin hga (PySem.W.cls_value I.kIn hrd vV hh ?_)
  show wpAny _ _ (callWith pos (Value.builtin initId) [] (backTo pos (starEach (e :: es) X.env)) []) _ _ _
  refine PyProof.Rows.callWith_method1 (thn (ha.run pos pins _ σ H _ (I.tok _) h) fun us s1 ⟨vs, H1, I1, r1, a, C, ws, ev, hl, T, ea, q⟩ => ?_) he hpl
  subst ev
  cases r1 with
  | @cons _ u0 _ ur ra rw' =>
    obtain rfl : u0 = Value.ref a := ra
    have hlen : ur.length ≤ sizeLine := by
      rw [← Paired.length rw', sizeLine_eq]
      omega
    exact oinitB_ok FB T I1 ea hlen fun s' J => ⟨.non, H1, J, rfl, q⟩
theorem ps_ostB (SF : StoreFacts B bmB "object.__setattr__" "object") (ho : PE X o to) (he : PE X e te) (hs : swapsWith e (some (.Attribute o f p')) pos.line X.env = pure false := by rfl) : PS X (.Assign [.Attribute o f p'] e pos) (tOstB X.K bmB newId f to te) := by
  refine ⟨fun pins s σ H D I h => ?_⟩
  refine plainObj_wpAny_Assign_Attribute (thn (he.run pins s σ H _ I h) fun v s1 ⟨y, H1, I1, r1, q1⟩ => thn (ho.run pins s1 σ H1 _ I1 q1) fun u s2 ⟨x, H2, I2, r2, a, C, ex, T, hno, ea, q⟩ => ?_) hs
  subst ex
  obtain rfl : u = Value.ref a := r2
  exact ostB_new SF T I2 ea hno r1 fun dx s' n ne J => ⟨σ, _, J, q dx n ne⟩
theorem pmk_B {CX : CXT} {x : Str} {C fI : Addr} {k : Nat} {sp : Sp} (FB : ExcBaseFacts B newId initId bmB) (T : OexB X.K C bmB newId) (iC : PySem.W.findIn X.K (.ref C) "__init__" = some (some (.ref fI))) (tI : PySem.W.typeIn X.K (.ref fI) = some (.type "function"))
    (F1 : FnR X.prog X.w X.K X.mg X.base CX k fI sp) (hr : Room (k + 1) X.A) (hx : Passes CX X (fun _ _ _ => False)) (hg : Gl X x) (hm : X.mg x = some (.ref C)) (ha : PA X (e :: es) ta)
    (hdb : (x == ("__debug__" : Str)) = false := by decide) (he : starEach (e :: es) X.env = (false, eval e X.env) :: starEach es X.env := by rfl) (hpl : (backTo pos (starEach es X.env)).any (·.1) = false := by rfl) :
    PMk X (.Call (.Name x p) (e :: es) [] pos) (tMkB C sp ta) := by
  intro pins s σ H Q I h
  obtain ⟨nm, q, N, bs, bm, sn, sub, ab, col, dd, k0, k1, k2, k3, k5, hC, hbm⟩ := T.cls
  refine wpAny_Call_Name_kw (ld_glob I hg hm ?_ hdb)
  refine PySem.W.callWith_K (h₀ := X.base) I.ok.mod.kin T.kC (thn (ha.run pos pins s σ H _ I h) fun us s1 ⟨vs, H1, I1, r1, hz, q1⟩ => ⟨I1.kIn, ?_⟩) he hpl
  show wpAny _ _ (call (.ref C) us) _ _ _
  obtain ⟨hp, g, dr, tk, os⟩ := s1
  have hsz : hp.objs.size ≤ hp.objs.size + 1 := Nat.le_succ _
  have hn : H1 (hp.objs.size + 1) = none := I1.hok.fresh hsz
  have hq := q1 (hp.objs.size + 1) hn
  have kk : ∀ b o, hp.get? b = some o → ((hp.push (PySem.W.kdv_tup us)).push (PySem.HandSPX.excO C hp.objs.size)).get? b = some o := fun b o e => Heap.get?_push_of_some _ (Heap.get?_push_of_some _ e)
  have hget : ((hp.push (PySem.W.kdv_tup us)).push (PySem.HandSPX.excO C hp.objs.size)).get? (hp.objs.size + 1) = some (PySem.HandSPX.excO C hp.objs.size) := by heap_get
  have I2 : Inv X pins σ (upd H1 (hp.objs.size + 1) (exo (hp.objs.size + 1) C none)) ⟨(hp.push (PySem.W.kdv_tup us)).push (PySem.HandSPX.excO C hp.objs.size), g, dr, tk, os⟩ :=
    I1.laid (t' := tk) (a := hp.objs.size + 1) (o := exo (hp.objs.size + 1) C none) (h' := (hp.push (PySem.W.kdv_tup us)).push (PySem.HandSPX.excO C hp.objs.size)) kk hsz (exo_ok hget)
  have r2 : Vals (V.ref (hp.objs.size + 1) :: vs) (Value.ref (hp.objs.size + 1) :: us) := .cons rfl r1
  have hus : us.length ≤ sizeLine := by
    rw [← Paired.length r1, sizeLine_eq]
    omega
  refine wpAny_call (PySem.HandSPX.call_own FB (fun Y => PySem.W.excTail_contains Y bm hbm) (I1.kIn _ _ hC) (PySem.W.looks_findIn I1.kIn iC) (fun self => PySem.W.bind_fn I1.kIn self tI) hus
    (codeAny_mono (F1 _ X.stack _ _ (Value.ref (hp.objs.size + 1) :: us) _ _ (fun _ _ _ => False) (hr.make C us []) (I2.env0.make C us []) r2 hq) fun r s' hq' => ?_))
  cases r with
  | error er => exact hx pins σ _ _ er s' I2 hq'
  | ok fl =>
    cases fl with
    | ret u =>
      obtain ⟨v, H2, os2, bare2, un2, hok2, rv, ev, d, fs, ea, ed, hd1, q2⟩ := hq'
      subst ev
      obtain ⟨h2, g2, d2, t2, os'⟩ := s'
      exact ⟨rv, mk_end (raises_own T.exC T.tyC) I1 hsz kk un2 hok2 os2 bare2 ea ed hd1 q2⟩
    | next => exact False.elim hq'
    | brk => exact False.elim hq'
    | cont => exact False.elim hq'
end
end Lp

set_option Elab.async false
set_option linter.all false
set_option maxRecDepth 100000
set_option maxHeartbeats 4000000
/-! list(d.values()), sum(d.values()). -/
namespace Lp
open PySem PySem.Spec PyProof.Rows L2
/-- a thing done with e.values() -/
def tVals (r : Hp → List V → VK → Prop) (te : TE) : TE := fun σ H Q => te σ H fun x H1 => ∃ a kvs, x = .ref a ∧ H1 a = some (.dK kvs) ∧ r H1 (kvs.map Prod.snd) Q
def rNewL : Hp → List V → VK → Prop := fun H xs Q => ∀ p, H p = none → Q (.ref p) (upd H p (.lst xs))
def rSumL : Hp → List V → VK → Prop := fun H xs Q => ∃ ns : List Int, xs = ns.map V.int ∧ Q (.int ns.sum) H
theorem preSum_get : ∀ ns : List Int, preSum (fun i => ns.getD i 0) ns.length = ns.sum := by
  intro ns
  have key : ∀ k ≤ ns.length, preSum (fun i => ns.getD i 0) k = (ns.take k).sum := by
    intro k
    induction k with
    | zero => intro _; simp [preSum]
    | succ k ih =>
      intro hk
      have hk' : k < ns.length := hk
      rw [List.take_succ, List.getElem?_eq_getElem hk', List.sum_append, ← ih (by omega)]
      simp [preSum, List.getElem?_eq_getElem hk']
  have := key ns.length (Nat.le_refl _)
  rw [List.take_length] at this
  exact this
theorem sum_src {prog : Program} {w : World} {A : Around} {E : Value → Shared → Prop} {s : Shared} {T : String} {r d : Addr} {n : Nat} {P : Nat → Value → Prop} {OK : Heap → Prop} {Q : Value → Shared → Prop}
    (K : PySem.W.KdlSrc prog w T r d n P OK) (hh : A.handled = none) (hok : OK s.heap) (val : Nat → Int) (hval : ∀ (i : Nat) (v : Value), P i v → ∃ t : Tok, v = Value.int (val i) t)
    (h : ∀ (h' : Heap) (tk : Nat) (t' : Tok), (∀ b o, s.heap.get? b = some o → h'.get? b = some o) → Q (.int (preSum val n) t') { s with heap := h', toks := tk }) :
    wpAny (model prog w) A (call (.builtin "sum") [.ref r]) Q E s := by
  refine call_sum_walkAnyS ?_
  obtain ⟨oI, St, hit, W, st⟩ := K.iter A.in1 s hh hok
  refine hit _ _ ⟨s.heap.objs.size, _, _, _, n, P, _, val, rfl, W.toS, st, fun b hb => ?_, hval, fun s' t' hm => ?_⟩
  · show b < (s.heap.push oI).objs.size
    rw [Heap.size_push]
    rcases List.mem_cons.mp hb with e | hb
    · rw [e]; exact Nat.lt_succ_self _
    · rw [List.mem_singleton.mp hb]; exact Nat.lt_succ_of_lt (K.there _ hok).2
  · have hk : ∀ b o, s.heap.get? b = some o → s'.heap.get? b = some o := fun b o e =>
      hm.heap b o (fun hI => absurd (Heap.lt_size e) (by rw [List.mem_singleton.mp hI]; exact Nat.lt_irrefl _)) (Heap.get?_push_of_some _ e)
    rw [Moved.eq_with hm]
    exact h s'.heap s'.toks t' hk
section
variable {X : Cx} {e : Expr} {te : TE} {p apos cpos pos : Pos}
theorem pe_listVals (hc : X.calm = true) (he : PE X e te) (hg : Gl X "list") (hm : X.mg "list" = none) (hv : bootBuiltins "list" = some (.type "list") := by decide +kernel) (hbase : attributeBase e "values" X.env (eval e X.env) = eval e X.env := by rfl) (hline : (apos.endLine == cpos.line) = true := by rfl)
    (hs : starEach [.Call (.Attribute e "values" apos) [] [] cpos] X.env = (false, eval (.Call (.Attribute e "values" apos) [] [] cpos) X.env) :: starEach [] X.env := by rfl) :
    PE X (.Call (.Name "list" p) [.Call (.Attribute e "values" apos) [] [] cpos] [] pos) (tVals rNewL te) := by
  refine ⟨fun pins s σ H Q I hq => ?_⟩
  refine wpAny_Call_Name_kw (ld_blt I hg hm hv ?_)
  refine PyProof.Rows.callWith_type1 ?_ hs rfl
  rw [hs]
  show wpAny _ _ (spliced ((false, eval (.Call (.Attribute e "values" apos) [] [] cpos) X.env) :: backTo pos (starEach [] X.env))) _ _ s
  refine Calls.spliced_cons ?_
  refine wpAny_Call_method (T := "dict") (id := "dict.values") hbase rfl hline F.plainAttrs_dict F.slot_dict_values F.type_dict_values (thn (he.run pins s σ H _ I hq) fun u s1 ⟨x, H1, I1, rx, d, kvs, ex, hd, q⟩ => ?_)
  subst ex
  obtain rfl : u = Value.ref d := rx
  obtain ⟨hz, hs0, vs, kv, hdo⟩ := I1.hok d _ hd
  obtain ⟨ep, hat⟩ := hdo.dictAt
  have lk : kvs.length = vs.length := Paired.length kv
  have I2 : Inv X pins σ H1 { s1 with heap := s1.heap.push { cls := .type "dict_values", data := .fields #[.ref d] } } := I1.kept (t' := s1.toks) fun b ob q => Heap.get?_push_of_some _ q
  refine ⟨hdo.typeIs, hdo.mapOf.noDict, ?_⟩
  show wpAny _ _ (callWith cpos (.builtin "dict.values") [.ref d] [] []) _ X.xe s1
  refine method_meetsIn F.slot_dict_values F.entry_dict_values rfl (PySem.evalArgs_none ⟨rfl, hdo.typeIs, F.args_dict_values_1 _, _, meets_dict_values (mixKind X.prog X.w) d hs0, ⟨vs, hdo⟩, ?_⟩)
  refine Calls.spliced_nil ?_
  refine PySem.W.kdl_call (PySem.W.kdl_values (knd := mixKind X.prog X.w) (kvs := vs) (ep := ep)) (I1.ok.hd hc) ⟨⟨_, Heap.get?_push_size _ rfl, rfl, rfl⟩, hat.push _⟩ (by omega) fun h' tk acc' c' hkeep hS hacc => ?_
  refine ⟨.ref _, upd H1 (s1.heap.push _).objs.size (.lst (kvs.map Prod.snd)), I2.laid (t' := tk) hkeep (Nat.le_refl _) (show ObjOk X.prog X.w _ _ _ (.lst (kvs.map Prod.snd)) from ⟨?_, acc'.toList, c', ?_, ?_⟩), rfl, q _ (I2.hok.fresh (Nat.le_refl _))⟩
  · rw [List.length_map]; exact hz
  · have el : acc'.toList.length = acc'.size := by simp
    refine vals_of_at (by rw [List.length_map, el, hacc.1, lk]) fun j x w h1 h2 => ?_
    obtain ⟨k, hky⟩ := hacc.2 j w (by rw [← Array.getElem?_toList]; exact h2)
    obtain ⟨y, e1, e2⟩ := KV.at' kv hky
    rw [List.getElem?_map, e1] at h1
    cases h1
    exact e2
  · rw [Array.toArray_toList]; exact hS
theorem pe_sumVals (hc : X.calm = true) (he : PE X e te) (hg : Gl X "sum") (hm : X.mg "sum" = none) (hv : bootBuiltins "sum" = some (.builtin "sum") := by decide +kernel) (hbase : attributeBase e "values" X.env (eval e X.env) = eval e X.env := by rfl) (hline : (apos.endLine == cpos.line) = true := by rfl)
    (hse : starEach [Expr.Call (.Attribute e "values" apos) [] [] cpos] X.env = [(false, eval (Expr.Call (.Attribute e "values" apos) [] [] cpos) X.env)] := by rfl) :
    PE X (.Call (.Name "sum" p) [.Call (.Attribute e "values" apos) [] [] cpos] [] pos) (tVals rSumL te) := by
  refine ⟨fun pins s σ H Q I h => ?_⟩
  refine wpAny_Call_Name_kw (ld_blt I hg hm (u := .builtin "sum") hv ?_ (by decide) (by decide))
  rw [hse]
  refine PySem.callWith_builtin1 (wpAny_Call_method0_late hbase hline (thn (he.run pins s σ H _ I h) fun v s1 ⟨x, H1, I1, r1, a, kvs, ex, ha, is, hvs, q⟩ => ?_))
  subst ex
  obtain rfl : v = Value.ref a := r1
  obtain ⟨_, hsys, vs, rel, dof⟩ := dk_of I1.hok ha
  obtain ⟨ep, dat⟩ := dof.dictAt
  have dat' := dat
  obtain ⟨ob, es, ho, ex, hdat, hko, hpr, hnd⟩ := dat'
  refine ⟨"dict", "dict.values", F.plainAttrs_dict, F.slot_dict_values, F.type_dict_values, ⟨ob, ho, ex.1⟩, fun b e => ?_, Calls.callWith_builtin rfl (PySem.evalArgs_none ?_)⟩
  · cases e
    exact ⟨ob, ho, ex.2.1⟩
  refine call_meetsIn F.slot_dict_values ⟨ob, ho, ex.1⟩ F.entry_dict_values (F.args_dict_values_1 _) (meets_dict_values (mixKind X.prog X.w) a hsys) ⟨⟨vs, dof⟩, ?_⟩
  have k1 : ∀ b u, s1.heap.get? b = some u → (s1.heap.push { cls := .type "dict_values", data := .fields #[.ref a] }).get? b = some u := fun b u e => Heap.get?_push_of_some _ e
  have lk : kvs.length = vs.length := Paired.length rel
  have li : vs.length = is.length := by
    have := congrArg List.length hvs
    rw [List.length_map, List.length_map] at this
    omega
  have I2 : Inv X pins σ H1 { s1 with heap := s1.heap.push { cls := .type "dict_values", data := .fields #[.ref a] } } := I1.kept (t' := s1.toks) k1
  refine sum_src (PySem.W.kdl_values (knd := mixKind X.prog X.w) (kvs := vs) (ep := ep)) (I1.ok.hd hc) ⟨⟨_, Heap.get?_push_size _ rfl, rfl, rfl⟩, dat.push _⟩ (fun i => is.getD i 0) (fun i v ⟨k, hk⟩ => ?_) fun h' tk t' hk => ?_
  · obtain ⟨y, h1, h2⟩ := KV.at' rel hk
    have e1 : (kvs.map Prod.snd)[i]? = some y := by rw [List.getElem?_map, h1]; rfl
    rw [hvs, List.getElem?_map] at e1
    obtain ⟨j, hj, e2⟩ := Option.map_eq_some_iff.mp e1
    subst e2
    obtain ⟨t, e3⟩ := h2
    refine ⟨t, ?_⟩
    rw [e3, List.getD_eq_getElem?_getD, hj] <;> rfl
  · rw [li, preSum_get]
    exact ⟨.int _, H1, I2.kept (t' := tk) hk, ⟨_, rfl⟩, q⟩
end
end Lp

set_option Elab.async false
set_option linter.all false
set_option maxRecDepth 100000
set_option maxHeartbeats 4000000
/-! Comprehensions and loops whose turns only add objects. -/
namespace Lp
open PySem PySem.Spec PyProof.Rows L2
theorem same_refl {H : Hp} : Same H H := fun _ _ z => z
theorem same_tr {H H1 H2 : Hp} (a : Same H H1) (b : Same H1 H2) : Same H H2 := fun c o z => b c o (a c o z)
theorem same_new {H : Hp} {l : Addr} {o : HO} (n : H l = none) : Same H (upd H l o) := same_upd same_refl n
/-- behind a lock -/
theorem same_unlock {H H' : Hp} {d : Addr} {u f : HO} (h : H d = some u) (s : Same (upd H d f) H') : Same H (upd H' d u) := fun b o z => by
  by_cases e : b = d
  · rw [e] at z ⊢
    rw [upd_same, ← h, z]
  · rw [upd_ne e]
    exact s b o ((upd_ne e).trans z)
/-- out i: the items behind i turns -/
def LcP (H1 : Hp) (D : Addr) (out : Nat → List V) (i : Nat) (H : Hp) : Prop := Same H1 H ∧ H D = some (.lst (out i))
theorem LcP.put {H1 H H4 : Hp} {D : Addr} {out : Nat → List V} {i : Nat} {y : V} (p : LcP H1 D out i H) (s : Same H H4) (hD : H1 D = none) (e : out (i + 1) = out i ++ [y]) (hz : (out i).length < sizeLine) :
    ∃ acc, H4 D = some (.lst acc) ∧ acc.length < sizeLine ∧ LcP H1 D out (i + 1) (upd H4 D (.lst (acc ++ [y]))) :=
  ⟨out i, s _ _ p.2, hz, same_set (same_tr p.1 s) hD, by rw [upd_same, e]⟩
theorem LcP.skip {H1 H H4 : Hp} {D : Addr} {out : Nat → List V} {i : Nat} (p : LcP H1 D out i H) (s : Same H H4) (e : out (i + 1) = out i) : LcP H1 D out (i + 1) H4 := ⟨same_tr p.1 s, by rw [e]; exact s _ _ p.2⟩
def DcP (H1 : Hp) (D : Addr) (out : Nat → List (Key × V)) (i : Nat) (H : Hp) : Prop := Same H1 H ∧ H D = some (.dK (out i))
theorem DcP.put {H1 H H5 : Hp} {D : Addr} {out : Nat → List (Key × V)} {i : Nat} {y z : V} {k : Key} (p : DcP H1 D out i H) (s : Same H H5) (hD : H1 D = none) (ey : y = kV k) (e : out (i + 1) = putK (out i) k z) (hz : (out i).length < sizeLine) :
    ∃ kvs k, y = kV k ∧ H5 D = some (.dK kvs) ∧ kvs.length < sizeLine ∧ DcP H1 D out (i + 1) (upd H5 D (.dK (putK kvs k z))) :=
  ⟨out i, k, ey, s _ _ p.2, hz, same_set (same_tr p.1 s) hD, by rw [upd_same, e]⟩
section
variable {J : It} {n : Nat} {G : Hp → Prop} {Y : Nat → Hp → V → Hp → Prop} {g : TG} {tt : TT} {te tk tv : TE} {vs : List Nat} {σ : L2.St} {H1 : Hp} {D : Addr} {Qd : Hp → Prop}
/-- [e for .. in .. if ..] -/
theorem lcx (w : Walk J n G Y) (out : Nat → List V) (hD : H1 D = none) (o0 : out 0 = []) (hG : ∀ H, Same H1 H → G H)
    (hs : ∀ i x H H', i < n → LcP H1 D out i H → Y i H x H' → g x (wipe σ vs) H' fun σ2 H2 => wipe σ2 vs = wipe σ vs ∧ tt σ2 H2 fun b H3 =>
      if b = true then te σ2 H3 fun y H4 => ∃ acc, H4 D = some (.lst acc) ∧ acc.length < sizeLine ∧ LcP H1 D out (i + 1) (upd H4 D (.lst (acc ++ [y]))) else LcP H1 D out (i + 1) H3) (hd : ∀ H, Same H1 H → H D = some (.lst (out n)) → Qd H) :
    ∃ W : Nat → Nat → Hp → Prop, (∃ m, W 0 m (upd H1 D (.lst []))) ∧ ∀ i m H, W i m H →
      (J.stop i H ∧ Qd H) ∨ (J.go i H ∧ ∃ Nx : Hp → Prop, (∀ H', Nx H' → ∃ m', m' < m ∧ W (i + 1) m' H') ∧ ∀ x H', J.yld i H x H' → g x (wipe σ vs) H' fun σ2 H2 => wipe σ2 vs = wipe σ vs ∧ tt σ2 H2 fun b H3 =>
        if b = true then te σ2 H3 fun y H4 => ∃ acc, H4 D = some (.lst acc) ∧ acc.length < sizeLine ∧ Nx (upd H4 D (.lst (acc ++ [y]))) else Nx H3) :=
  lc_it w (LcP H1 D out) ⟨same_new hD, by rw [o0]; exact upd_same⟩ (fun i H _ q => hG H q.1) hs (fun H q => hd H q.1 q.2)
theorem dc_it (w : Walk J n G Y) (Pv : Nat → Hp → Prop) (h0 : Pv 0 (upd H1 D (.dK []))) (hG : ∀ i H, i ≤ n → Pv i H → G H)
    (hs : ∀ i x H H', i < n → Pv i H → Y i H x H' → g x (wipe σ vs) H' fun σ2 H2 => wipe σ2 vs = wipe σ vs ∧ tt σ2 H2 fun b H3 =>
      if b = true then tk σ2 H3 fun y H4 => tv σ2 H4 fun z H5 => ∃ kvs k, y = kV k ∧ H5 D = some (.dK kvs) ∧ kvs.length < sizeLine ∧ Pv (i + 1) (upd H5 D (.dK (putK kvs k z))) else Pv (i + 1) H3) (hd : ∀ H, Pv n H → Qd H) :
    ∃ W : Nat → Nat → Hp → Prop, (∃ m, W 0 m (upd H1 D (.dK []))) ∧ ∀ i m H, W i m H →
      (J.stop i H ∧ Qd H) ∨ (J.go i H ∧ ∃ Nx : Hp → Prop, (∀ H', Nx H' → ∃ m', m' < m ∧ W (i + 1) m' H') ∧ ∀ x H', J.yld i H x H' → g x (wipe σ vs) H' fun σ2 H2 => wipe σ2 vs = wipe σ vs ∧ tt σ2 H2 fun b H3 =>
        if b = true then tk σ2 H3 fun y H4 => tv σ2 H4 fun z H5 => ∃ kvs k, y = kV k ∧ H5 D = some (.dK kvs) ∧ kvs.length < sizeLine ∧ Nx (upd H5 D (.dK (putK kvs k z))) else Nx H3) := by
  refine ⟨fun i m H => m = n - i ∧ i ≤ n ∧ Pv i H, ⟨n, by simp, Nat.zero_le _, h0⟩, ?_⟩
  rintro i m H ⟨rfl, hi, p⟩
  have q := hG i H hi p
  by_cases hlt : i < n
  · refine .inr ⟨w.goes i H hlt q, Pv (i + 1), fun H' p' => ⟨n - (i + 1), by omega, rfl, hlt, p'⟩, fun x H' y => hs i x H H' hlt p (w.yields i H x H' hlt q y)⟩
  · have e : i = n := by omega
    subst e
    exact .inl ⟨w.stops H q, hd H p⟩
/-- {k: e for .. in .. if ..} -/
theorem dcx (w : Walk J n G Y) (out : Nat → List (Key × V)) (hD : H1 D = none) (o0 : out 0 = []) (hG : ∀ H, Same H1 H → G H)
    (hs : ∀ i x H H', i < n → DcP H1 D out i H → Y i H x H' → g x (wipe σ vs) H' fun σ2 H2 => wipe σ2 vs = wipe σ vs ∧ tt σ2 H2 fun b H3 =>
      if b = true then tk σ2 H3 fun y H4 => tv σ2 H4 fun z H5 => ∃ kvs k, y = kV k ∧ H5 D = some (.dK kvs) ∧ kvs.length < sizeLine ∧ DcP H1 D out (i + 1) (upd H5 D (.dK (putK kvs k z))) else DcP H1 D out (i + 1) H3) (hd : ∀ H, Same H1 H → H D = some (.dK (out n)) → Qd H) :
    ∃ W : Nat → Nat → Hp → Prop, (∃ m, W 0 m (upd H1 D (.dK []))) ∧ ∀ i m H, W i m H →
      (J.stop i H ∧ Qd H) ∨ (J.go i H ∧ ∃ Nx : Hp → Prop, (∀ H', Nx H' → ∃ m', m' < m ∧ W (i + 1) m' H') ∧ ∀ x H', J.yld i H x H' → g x (wipe σ vs) H' fun σ2 H2 => wipe σ2 vs = wipe σ vs ∧ tt σ2 H2 fun b H3 =>
        if b = true then tk σ2 H3 fun y H4 => tv σ2 H4 fun z H5 => ∃ kvs k, y = kV k ∧ H5 D = some (.dK kvs) ∧ kvs.length < sizeLine ∧ Nx (upd H5 D (.dK (putK kvs k z))) else Nx H3) :=
  dc_it w (DcP H1 D out) ⟨same_new hD, by rw [o0]; exact upd_same⟩ (fun i H _ q => hG H q.1) hs (fun H q => hd H q.1 q.2)
end
end Lp

set_option Elab.async false
set_option linter.all false
set_option maxRecDepth 100000
set_option maxHeartbeats 4000000
/-! Sorted texts; amounts by name. -/
namespace Lp
open PySem PySem.Spec PyProof.Rows L2
def leS (a b : Str) : Bool := !ltCps b.cps.toList a.cps.toList
theorem leS_iff {a b : Str} : leS a b = true ↔ a.cps.toList ≤ b.cps.toList := by
  unfold leS
  rw [ltCps_eq]
  simp
theorem leS_trans (a b c : Str) (h1 : leS a b = true) (h2 : leS b c = true) : leS a c = true := leS_iff.mpr (List.le_trans (leS_iff.mp h1) (leS_iff.mp h2))
theorem leS_total (a b : Str) : (leS a b || leS b a) = true := by
  rw [Bool.or_eq_true, leS_iff, leS_iff]
  exact List.le_total _ _
theorem leS_anti (a b : Str) (h1 : leS a b = true) (h2 : leS b a = true) : a = b := by
  have e : a.cps.toList = b.cps.toList := List.le_antisymm (leS_iff.mp h1) (leS_iff.mp h2)
  obtain ⟨⟨x⟩⟩ := a
  obtain ⟨⟨y⟩⟩ := b
  simp only at e
  rw [e]
theorem rising_pw : ∀ (p : Str) (l : List Str), risingS p l = true → (p :: l).Pairwise (fun a b => leS a b = true)
  | p, [], _ => List.pairwise_singleton _ _
  | p, x :: r, h => by
    rw [risingS, Bool.and_eq_true] at h
    have ih := rising_pw x r h.2
    refine List.pairwise_cons.mpr ⟨fun y hy => ?_, ih⟩
    rcases List.mem_cons.mp hy with e | hy
    · rw [e]
      exact h.1
    · exact leS_trans _ _ _ h.1 (List.rel_of_pairwise_cons ih hy)
theorem sorted_pw : ∀ (l : List Str), sortedS l = true → l.Pairwise (fun a b => leS a b = true)
  | [], _ => .nil
  | x :: r, h => rising_pw x r h
/-- the sorted texts -/
def srt (l : List Str) : List Str := l.mergeSort leS
theorem sorted_eq {ys xs : List Str} (hp : ys.Perm xs) (hs : sortedS ys = true) : ys = srt xs := PySem.W.Srt.the_of_perm leS leS_trans leS_total leS_anti hp (sorted_pw ys hs)
theorem srt_perm (l : List Str) : (srt l).Perm l := List.mergeSort_perm l leS
theorem srt_of_perm {xs ys : List Str} (h : xs.Perm ys) : srt xs = srt ys := PySem.W.Srt.the_of_perm leS leS_trans leS_total leS_anti ((srt_perm xs).trans h) (List.pairwise_mergeSort leS_trans leS_total xs)
/-- names and amounts -/
abbrev Am := List (Str × Int)
/-- what stands there for a name -/
def am (l : Am) (s : Str) : Option Int := (l.find? fun p => decide (p.1 = s)).map (·.2)
def am0 (l : Am) (s : Str) : Int := (am l s).getD 0
theorem valV_dsi (l : Am) (s : Str) : valV (dsi l) (.inr s) = (am l s).map V.int := by
  unfold valV am dsi
  rw [List.find?_map]
  have e : ((fun kv : Key × V => decide (kv.1 = Sum.inr s)) ∘ fun p : Str × Int => ((Sum.inr p.1, V.int p.2) : Key × V)) = fun p => decide (p.1 = s) := by
    funext p
    simp
  rw [e, Option.map_map, Option.map_map]
  rfl
theorem am_mem {l : Am} (hn : (l.map (·.1)).Nodup) {s : Str} {v : Int} (h : (s, v) ∈ l) : am l s = some v := by
  induction l with
  | nil => cases h
  | cons p r ih =>
    rw [List.map_cons, List.nodup_cons] at hn
    unfold am
    rw [List.find?_cons]
    rcases List.mem_cons.mp h with e | h
    · rw [← e]
      simp
    · have ne : p.1 ≠ s := fun z => hn.1 (by rw [z]; exact List.mem_map.mpr ⟨_, h, rfl⟩)
      rw [decide_eq_false ne]
      exact ih hn.2 h
theorem am_none {l : Am} {s : Str} (h : s ∉ l.map (·.1)) : am l s = none := by
  unfold am
  rw [List.find?_eq_none.mpr fun p hp => ?_]
  · rfl
  · intro z
    exact h (List.mem_map.mpr ⟨p, hp, by simpa using z⟩)
theorem am_some {l : Am} {s : Str} {v : Int} (h : am l s = some v) : (s, v) ∈ l := by
  unfold am at h
  obtain ⟨p, h1, h2⟩ := Option.map_eq_some_iff.mp h
  have e := List.find?_some h1
  have m := List.mem_of_find?_eq_some h1
  rw [← h2, ← (show p.1 = s by simpa using e)]
  exact m
/-- the names of amounts above 0, sorted -/
def nms (l : Am) : List Str := srt ((l.filter fun p => decide (0 < p.2)).map (·.1))
/-- sizes as told: the amounts above 0, by name -/
def cn (l : Am) : Am := (nms l).map fun s => (s, am0 l s)
theorem mem_nms {l : Am} (hn : (l.map (·.1)).Nodup) {s : Str} : s ∈ nms l ↔ 0 < am0 l s := by
  unfold nms
  rw [(srt_perm _).mem_iff, List.mem_map]
  constructor
  · rintro ⟨p, hp, rfl⟩
    obtain ⟨h1, h2⟩ := List.mem_filter.mp hp
    unfold am0
    rw [am_mem hn (show (p.1, p.2) ∈ l from h1)]
    simpa using h2
  · intro h
    unfold am0 at h
    cases e : am l s with
    | none => rw [e] at h; simp at h
    | some v =>
      rw [e] at h
      exact ⟨(s, v), List.mem_filter.mpr ⟨am_some e, by simpa using h⟩, rfl⟩
theorem nms_nodup {l : Am} (hn : (l.map (·.1)).Nodup) : (nms l).Nodup := by
  unfold nms
  exact (srt_perm _).nodup_iff.mpr (hn.sublist (List.Sublist.map _ List.filter_sublist))
theorem nms_len (l : Am) : (nms l).length ≤ l.length := by
  unfold nms
  rw [(srt_perm _).length_eq, List.length_map]
  exact List.length_filter_le _ _
end Lp

set_option Elab.async false
set_option linter.all false
set_option maxRecDepth 100000
set_option maxHeartbeats 4000000
/-! Dicts told by a list of names. -/
namespace Lp
open PySem PySem.Spec PyProof.Rows L2
theorem dsi_append (l m : Am) : dsi (l ++ m) = dsi l ++ dsi m := List.map_append ..
theorem dsi_get {l : Am} {i : Nat} {n : Str} {z : Int} (h : l[i]? = some (n, z)) : (dsi l)[i]? = some (Sum.inr n, V.int z) := by
  unfold dsi
  rw [List.getElem?_map, h]
  rfl
theorem dsi_len {l : Am} : (dsi l).length = l.length := List.length_map ..
theorem putK_dsi {l : Am} {s : Str} {z : Int} (h : s ∉ l.map (·.1)) : putK (dsi l) (.inr s) (.int z) = dsi (l ++ [(s, z)]) := by
  rw [putK_new _ (by rw [valV_dsi, am_none h]; rfl), dsi_append]
  rfl
theorem take_succ' {α : Type} {l : List α} {i : Nat} {x : α} (h : l[i]? = some x) : l.take (i + 1) = l.take i ++ [x] := by rw [List.take_succ, h]; rfl
/-- a dict of such amounts, read at a name that is there -/
theorem dget_am {H : Hp} {d : Addr} {l : Am} {n : Str} {z : Int} (h : Rd H d (.dK (dsi l))) (e : am l n = some z) : DGet H d (.str n) (some (.int z)) := .inl ⟨dsi l, .inr n, h, rfl, by rw [valV_dsi, e]; rfl⟩
/-- each name once, where it comes first -/
def dd (ns : List Str) : List Str := ns.foldl (fun acc n => if n ∈ acc then acc else acc ++ [n]) []
theorem dd_snoc (ns : List Str) (n : Str) : dd (ns ++ [n]) = if n ∈ dd ns then dd ns else dd ns ++ [n] := by
  unfold dd
  rw [List.foldl_append]
  rfl
theorem mem_dd_nodup : ∀ ns : List Str, (∀ n, n ∈ dd ns ↔ n ∈ ns) ∧ (dd ns).Nodup ∧ (dd ns).length ≤ ns.length := by
  intro ns
  induction h : ns.length generalizing ns with
  | zero =>
    have e : ns = [] := List.length_eq_zero_iff.mp h
    subst e
    exact ⟨fun n => by simp [dd], by simp [dd], by simp [dd]⟩
  | succ k ih =>
    obtain ⟨ms, m, rfl⟩ : ∃ ms m, ns = ms ++ [m] := by
      rcases List.eq_nil_or_concat ns with e | ⟨ms, m, e⟩
      · rw [e] at h
        cases h
      · exact ⟨ms, m, by rw [e]; simp⟩
    obtain ⟨i1, i2, i3⟩ := ih ms (by simpa using h)
    rw [dd_snoc]
    by_cases hm : m ∈ dd ms
    · rw [if_pos hm]
      refine ⟨fun n => ?_, i2, by simp at h; omega⟩
      rw [i1, List.mem_append, List.mem_singleton]
      constructor
      · exact .inl
      · rintro (e | e)
        · exact e
        · rw [e]
          exact (i1 m).mp hm
    · rw [if_neg hm]
      refine ⟨fun n => ?_, ?_, by simp at h ⊢; omega⟩
      · rw [List.mem_append, List.mem_append, i1]
      · exact List.nodup_append.mpr ⟨i2, by simp, fun a ha b hb => by
          rw [List.mem_singleton.mp hb]
          exact fun e => hm (e ▸ ha)⟩
theorem mem_dd {ns : List Str} {n : Str} : n ∈ dd ns ↔ n ∈ ns := (mem_dd_nodup ns).1 n
theorem dd_nodup (ns : List Str) : (dd ns).Nodup := (mem_dd_nodup ns).2.1
theorem dd_len (ns : List Str) : (dd ns).length ≤ ns.length := (mem_dd_nodup ns).2.2
theorem dd_of_nodup {ns : List Str} (h : ns.Nodup) : dd ns = ns := by
  have key : ∀ k ≤ ns.length, dd (ns.take k) = ns.take k := by
    intro k
    induction k with
    | zero => intro _; rfl
    | succ k ih =>
      intro hk
      have hk' : k < ns.length := hk
      rw [take_succ' (List.getElem?_eq_getElem hk'), dd_snoc, ih (by omega), if_neg]
      intro m
      obtain ⟨j, hj, e⟩ := List.getElem_of_mem m
      rw [List.getElem_take] at e
      rw [List.length_take] at hj
      exact List.pairwise_iff_getElem.mp h j k (by omega) hk' (by omega) e
  have := key ns.length (Nat.le_refl _)
  rw [List.take_length] at this
  exact this
/-- the amounts f of the names -/
def by_ (ns : List Str) (f : Str → Int) : Am := (dd ns).map fun n => (n, f n)
theorem by_keys (ns : List Str) (f : Str → Int) : (by_ ns f).map (·.1) = dd ns := by
  unfold by_
  rw [List.map_map]
  exact List.map_id'' (fun _ => rfl) _
theorem am_by (ns : List Str) (f : Str → Int) (n : Str) : am (by_ ns f) n = if n ∈ ns then some (f n) else none := by
  by_cases h : n ∈ ns
  · rw [if_pos h]
    exact am_mem (by rw [by_keys]; exact dd_nodup ns) (List.mem_map.mpr ⟨n, mem_dd.mpr h, rfl⟩)
  · rw [if_neg h]
    exact am_none (by rw [by_keys, mem_dd]; exact h)
theorem by_len (ns : List Str) (f : Str → Int) : (by_ ns f).length ≤ ns.length := by
  unfold by_
  rw [List.length_map]
  exact dd_len ns
theorem putK_by (ns : List Str) (f : Str → Int) (n : Str) : putK (dsi (by_ ns f)) (.inr n) (.int (f n)) = dsi (by_ (ns ++ [n]) f) := by
  by_cases h : n ∈ dd ns
  · have e : by_ (ns ++ [n]) f = by_ ns f := by
      unfold by_
      rw [dd_snoc, if_pos h]
    rw [e]
    have hv : valV (dsi (by_ ns f)) (.inr n) = some (.int (f n)) := by
      rw [valV_dsi, am_by, if_pos (mem_dd.mp h)]
      rfl
    unfold putK
    rw [if_pos (by
      rw [List.any_eq_true]
      refine ⟨(.inr n, .int (f n)), List.mem_map.mpr ⟨(n, f n), List.mem_map.mpr ⟨n, h, rfl⟩, rfl⟩, by simp⟩)]
    have : ∀ p ∈ dsi (by_ ns f), (if p.1 = Sum.inr n then (p.1, V.int (f n)) else p) = p := by
      intro p hp
      obtain ⟨q, hq, rfl⟩ := List.mem_map.mp hp
      obtain ⟨m, hm, rfl⟩ := List.mem_map.mp hq
      split
      · rename_i e
        have e' : m = n := by simpa using e
        rw [e']
      · rfl
    conv => rhs; rw [← List.map_id (dsi (by_ ns f))]
    exact List.map_congr_left this
  · have e : by_ (ns ++ [n]) f = by_ ns f ++ [(n, f n)] := by
      unfold by_
      rw [dd_snoc, if_neg h, List.map_append]
      rfl
    rw [e]
    exact putK_dsi (by rw [by_keys]; exact h)
section
variable {K : PySem.W.Frag} {nl : Addr} {names : List Str} {f : Str → Int} {σ : L2.St} {vs : List Nat} {i : Nat} {H1 : Hp} {D : Addr} {Qd : Hp → Prop} {tv : TE}
/-- {n: f(n) for n in names} -/
theorem dc_names (f : Str → Int) (hn : SqL K H1 nl (names.map V.str)) (hD : H1 D = none) (hi : ∀ v, wipe ((wipe σ vs).set i v) vs = wipe σ vs) (hk : ∀ v, ((wipe σ vs).set i (some v))[i]? = some (some v)) (hlen : names.length < sizeLine)
    (turn : ∀ n ∈ names, ∀ H (Q : VK), Same H1 H → (∀ H', Same H H' → Q (.int (f n)) H') → tv ((wipe σ vs).set i (some (.str n))) H Q)
    (hd : ∀ H, Same H1 H → H D = some (.dK (dsi (by_ names f))) → Qd H) :
    ∃ W : Nat → Nat → Hp → Prop, (∃ m, W 0 m (upd H1 D (.dK []))) ∧ ∀ i' m H, W i' m H →
      ((Itl K nl).stop i' H ∧ Qd H) ∨ ((Itl K nl).go i' H ∧ ∃ Nx : Hp → Prop, (∀ H', Nx H' → ∃ m', m' < m ∧ W (i' + 1) m' H') ∧ ∀ x H', (Itl K nl).yld i' H x H' → gName i x (wipe σ vs) H' fun σ2 H2 => wipe σ2 vs = wipe σ vs ∧ tYes σ2 H2 fun b H3 =>
        if b = true then tVar i σ2 H3 fun y H4 => tv σ2 H4 fun z H5 => ∃ kvs k, y = kV k ∧ H5 D = some (.dK kvs) ∧ kvs.length < sizeLine ∧ Nx (upd H5 D (.dK (putK kvs k z))) else Nx H3) := by
  refine dcx (walk_list (xs := names.map V.str)) (fun j => dsi (by_ (names.take j) f)) hD rfl (fun H s => Same.seq s hn) ?_ ?_
  · intro j y H3 H4 hj p yy
    obtain ⟨rfl, hy⟩ := yy
    rw [List.getElem?_map] at hy
    obtain ⟨n, hn', rfl⟩ := Option.map_eq_some_iff.mp hy
    refine ⟨hi _, ?_⟩
    dsimp only [tYes]
    refine iteT ⟨_, hk _, ?_⟩
    refine turn n (List.mem_of_getElem? hn') _ _ p.1 fun H5 s5 => ?_
    refine p.put s5 hD (k := .inr n) rfl ?_ ?_
    · rw [take_succ' hn', putK_by]
    · rw [dsi_len]
      have h1 := by_len (names.take j) f
      have h2 := List.length_take_le' j names
      omega
  · intro H s e
    rw [List.length_map, List.take_length] at e
    exact hd H s e
/-- [e(n) for n in names], a pure one -/
theorem lc_names {te : TE} (g : Str → V) (hn : SqL K H1 nl (names.map V.str)) (hD : H1 D = none) (hi : ∀ v, wipe ((wipe σ vs).set i v) vs = wipe σ vs) (hlen : names.length < sizeLine)
    (turn : ∀ n ∈ names, ∀ H (Q : VK), Same H1 H → (∀ H', Same H H' → Q (g n) H') → te ((wipe σ vs).set i (some (.str n))) H Q)
    (hd : ∀ H, Same H1 H → H D = some (.lst (names.map g)) → Qd H) :
    ∃ W : Nat → Nat → Hp → Prop, (∃ m, W 0 m (upd H1 D (.lst []))) ∧ ∀ i' m H, W i' m H →
      ((Itl K nl).stop i' H ∧ Qd H) ∨ ((Itl K nl).go i' H ∧ ∃ Nx : Hp → Prop, (∀ H', Nx H' → ∃ m', m' < m ∧ W (i' + 1) m' H') ∧ ∀ x H', (Itl K nl).yld i' H x H' → gName i x (wipe σ vs) H' fun σ2 H2 => wipe σ2 vs = wipe σ vs ∧ tYes σ2 H2 fun b H3 =>
        if b = true then te σ2 H3 fun y H4 => ∃ acc, H4 D = some (.lst acc) ∧ acc.length < sizeLine ∧ Nx (upd H4 D (.lst (acc ++ [y]))) else Nx H3) := by
  refine lcx (walk_list (xs := names.map V.str)) (fun j => (names.take j).map g) hD rfl (fun H s => Same.seq s hn) ?_ ?_
  · intro j y H3 H4 hj p yy
    obtain ⟨rfl, hy⟩ := yy
    rw [List.getElem?_map] at hy
    obtain ⟨n, hn', rfl⟩ := Option.map_eq_some_iff.mp hy
    refine ⟨hi _, ?_⟩
    dsimp only [tYes]
    refine iteT ?_
    refine turn n (List.mem_of_getElem? hn') _ _ p.1 fun H5 s5 => ?_
    refine p.put s5 hD ?_ ?_
    · rw [take_succ' hn', List.map_append]
      rfl
    · rw [List.length_map]
      have h2 := List.length_take_le' j names
      omega
  · intro H s e
    rw [List.length_map, List.take_length] at e
    exact hd H s e
end
/-- what stands behind a new instance -/
theorem same_make {H H' : Hp} {x dx : Addr} {u v : HO} (nx : H x = none) (ndx : H dx = none) (k : ∀ b o, b ≠ x → (upd (upd H dx u) x v) b = some o → H' b = some o) : Same H H' := fun b o z => by
  have n1 := ne_of_none z nx
  exact k b o n1 (by rw [upd_ne n1]; exact keep z ndx)
end Lp

set_option Elab.async false
set_option linter.all false
set_option maxRecDepth 100000
set_option maxHeartbeats 4000000
/-! Two dicts of amounts compared, both answers. -/
namespace Lp
open PySem PySem.Spec PyProof.Rows L2
def allIn (m l : Am) : Bool := l.all fun p => decide (am m p.1 = some p.2)
def eqD (l m : Am) : Bool := l.length == m.length && allIn m l
theorem hits_am {A : Around} {s : Shared} {m : Am} {vb : List (Key × Value)} (rb : KV (dsi m) vb) : ∀ (l : Am) (va : List (Key × Value)), KV (dsi l) va → PySem.W.KeqHits A s vb va (allIn m l)
  | [], va, r => by
    cases r
    exact .nil
  | (n, z) :: l, va, r => by
    cases r with
    | @cons _ q _ qs r1 r2 =>
      obtain ⟨k, v⟩ := q
      obtain ⟨rfl, rv⟩ : (Sum.inr n : Key) = k ∧ RelV (V.int z) v := r1
      have ih := hits_am (A := A) (s := s) rb l qs r2
      have hv := rb.val (Sum.inr n)
      rw [valV_dsi] at hv
      cases e : am m n with
      | none =>
        rw [e] at hv
        have hn : valueAt vb (Sum.inr n) = none := RelO.none_of hv
        have e2 : allIn m ((n, z) :: l) = false := by simp [allIn, e]
        rw [e2]
        exact .miss hn
      | some z' =>
        rw [e] at hv
        obtain ⟨y, hy, ry⟩ := RelO.some_of hv
        have e2 : allIn m ((n, z) :: l) = (eqV (.int z) (.int z') && allIn m l) := by
          have e3 : decide (am m n = some z) = eqV (.int z) (.int z') := by
            rw [e]
            show _ = (z == z')
            by_cases h : z = z'
            · subst h
              simp
            · simp [h, Ne.symm h]
          unfold allIn
          rw [List.all_cons, e3]
        rw [e2]
        exact .hit hy (eqAt_V rv ry rfl rfl) ih
section
variable {X : Cx}
def rEqDD : R2 := fun x y H Q => ∃ a b l m, x = .ref a ∧ y = .ref b ∧ H a = some (.dK (dsi l)) ∧ H b = some (.dK (dsi m)) ∧ Q (.bl (eqD l m)) H
def rNeDD : R2 := fun x y H Q => ∃ a b l m, x = .ref a ∧ y = .ref b ∧ H a = some (.dK (dsi l)) ∧ H b = some (.dK (dsi m)) ∧ Q (.bl (!eqD l m)) H
theorem op_eqDD (hu : X.A.units < cLine) : OpR X (compareOp .Eq) rEqDD := by
  intro pins s σ H x y v u Q I rx ry h
  obtain ⟨a, b, l, m, rfl, rfl, ea, eb, q⟩ := h
  obtain rfl : v = Value.ref a := rx
  obtain rfl : u = Value.ref b := ry
  obtain ⟨_, ya, va, ra, da⟩ := (show ObjOk X.prog X.w H s.heap a (.dK (dsi l)) from I.hok a _ ea)
  obtain ⟨_, yb, vb, rb, db⟩ := (show ObjOk X.prog X.w H s.heap b (.dK (dsi m)) from I.hok b _ eb)
  have h1 : l.length = va.length := by rw [← ra.length, dsi_len]
  have h2 : m.length = vb.length := by rw [← rb.length, dsi_len]
  exact PySem.W.keq_eq (knd := mixKind X.prog X.w) ya yb da db hu (fun _ => hits_am rb l va ra) (fin_bl I q (by rw [eqD, h1, h2]))
theorem op_neDD (hu : X.A.units < cLine) : OpR X (compareOp .NotEq) rNeDD := by
  intro pins s σ H x y v u Q I rx ry h
  obtain ⟨a, b, l, m, rfl, rfl, ea, eb, q⟩ := h
  obtain rfl : v = Value.ref a := rx
  obtain rfl : u = Value.ref b := ry
  obtain ⟨_, ya, va, ra, da⟩ := (show ObjOk X.prog X.w H s.heap a (.dK (dsi l)) from I.hok a _ ea)
  obtain ⟨_, yb, vb, rb, db⟩ := (show ObjOk X.prog X.w H s.heap b (.dK (dsi m)) from I.hok b _ eb)
  have h1 : l.length = va.length := by rw [← ra.length, dsi_len]
  have h2 : m.length = vb.length := by rw [← rb.length, dsi_len]
  exact PySem.W.keq_ne (knd := mixKind X.prog X.w) ya yb da db hu (fun _ => hits_am rb l va ra) (fin_bl I q (by rw [eqD, h1, h2]))
end
theorem sub_back : ∀ (l m : List Str), l.Nodup → m.Nodup → l ⊆ m → l.length = m.length → m ⊆ l
  | [], m, _, _, _, h => by
    have : m = [] := List.length_eq_zero_iff.mp h.symm
    rw [this]
    exact fun _ z => z
  | x :: r, m, hl, hm, hs, h => by
    have hx : x ∈ m := hs List.mem_cons_self
    have hn := List.nodup_cons.mp hl
    have h1 : r ⊆ m.erase x := fun y hy => (List.mem_erase_of_ne (fun (e : y = x) => hn.1 (by rw [← e]; exact hy))).mpr (hs (List.mem_cons_of_mem _ hy))
    have h2 : r.length = (m.erase x).length := by
      rw [List.length_erase_of_mem hx]
      rw [List.length_cons] at h
      omega
    have ih := sub_back r (m.erase x) hn.2 (hm.erase x) h1 h2
    intro y hy
    by_cases e : y = x
    · rw [e]
      exact List.mem_cons_self
    · exact List.mem_cons_of_mem _ (ih ((List.mem_erase_of_ne e).mpr hy))
/-- for two dicts without a name twice: alike exactly if each name stands for the same -/
theorem eqD_iff {l m : Am} (hl : (l.map (·.1)).Nodup) (hm : (m.map (·.1)).Nodup) : eqD l m = true ↔ ∀ n, am l n = am m n := by
  unfold eqD allIn
  rw [Bool.and_eq_true, beq_iff_eq, List.all_eq_true]
  constructor
  · rintro ⟨h1, h2⟩ n
    have sub : ∀ n z, am l n = some z → am m n = some z := fun n z e => by
      have := h2 _ (am_some e)
      simpa using this
    cases e : am l n with
    | some z => exact (sub n z e).symm
    | none =>
      cases e2 : am m n with
      | none => rfl
      | some z =>
        -- the names of l are among those of m, as many
        have hs : l.map (·.1) ⊆ m.map (·.1) := fun k hk => by
          obtain ⟨p, hp, rfl⟩ := List.mem_map.mp hk
          exact List.mem_map.mpr ⟨_, am_some (sub _ _ (am_mem hl (show (p.1, p.2) ∈ l from hp))), rfl⟩
        have hn : n ∈ l.map (·.1) := by
          exact sub_back _ _ hl hm hs (by rw [List.length_map, List.length_map]; exact h1) (List.mem_map.mpr ⟨_, am_some e2, rfl⟩)
        obtain ⟨p, hp, rfl⟩ := List.mem_map.mp hn
        rw [am_mem hl (show (p.1, p.2) ∈ l from hp)] at e
        cases e
  · intro h
    refine ⟨?_, fun p hp => by simp [← h p.1, am_mem hl (show (p.1, p.2) ∈ l from hp)]⟩
    have hp : (l.map (·.1)).Perm (m.map (·.1)) := by
      refine (List.perm_ext_iff_of_nodup hl hm).mpr fun k => ?_
      constructor
      · intro hk
        obtain ⟨p, hp, rfl⟩ := List.mem_map.mp hk
        exact List.mem_map.mpr ⟨_, am_some ((h p.1).symm.trans (am_mem hl (show (p.1, p.2) ∈ l from hp))), rfl⟩
      · intro hk
        obtain ⟨p, hp, rfl⟩ := List.mem_map.mp hk
        exact List.mem_map.mpr ⟨_, am_some ((h p.1).trans (am_mem hm (show (p.1, p.2) ∈ m from hp))), rfl⟩
    have := hp.length_eq
    rw [List.length_map, List.length_map] at this
    exact this
end Lp

set_option Elab.async false
set_option linter.all false
set_option maxRecDepth 100000
set_option maxHeartbeats 4000000
namespace Lp
open PySem PySem.Spec PyProof.Rows L2
def top (i : Nat) : Stmt := PySem.Challenge.pw_leastpools_k01_sizes_told.main.body.getD i (.Pass ⟨0, 0, 0, 0⟩)
abbrev sDraws : Stmt := top 13
abbrev sDraw : Stmt := top 14
/-- two numbers from which draws are made -/
def Two (H : Hp) (d : Addr) : Prop := ∃ c s : Int, H d = some (.lst [.int c, .int s]) ∧ 0 ≤ c ∧ 0 ≤ s ∧ s < 2147483647
def spDraws (K : PySem.W.Frag) : Sp := fun vs H Q _ => ∃ (a : Addr) (ns : List Int) (k : Int), vs = [.ref a, .int k] ∧ SqL K H a (ns.map V.int) ∧ ns.length ≤ 63 ∧ 0 ≤ k ∧ k ≤ 1000 ∧
  ∀ (H' : Hp) (p : Addr), Same H H' → H p = none → Two H' p → Q (.ref p) H'
def spDraw : Sp := fun vs H Q _ => ∃ (d : Addr) (n : Int), vs = [.ref d, .int n] ∧ Two H d ∧ 0 < n ∧ n ≤ 1000000 ∧
  ∀ (v c s : Int), 0 ≤ v → v < n → 0 ≤ c → 0 ≤ s → s < 2147483647 → Q (.int v) (upd H d (.lst [.int c, .int s]))
structure Bi (mg : Str → Option Value) : Prop where
  len : mg "len" = none
  int : mg "int" = none
theorem dp_ints {K : PySem.W.Frag} {H : Hp} : ∀ ns : List Int, DpAll K H (ns.map V.int) (ns.map PyData.int)
  | [] => .nil
  | n :: ns => .cons (.int n) (dp_ints ns)
theorem eqv_nil (ns : List Int) : PyData.eqv (.list (ns.map PyData.int)) (.list []) = decide (ns = []) := by
  cases ns with
  | nil => rfl
  | cons n ns => simp [PyData.eqv, PyData.eqvAll]
section
variable {P : Program} {w : World} {K : PySem.W.Frag} {mg : Str → Option Value} {base : Heap}
theorem scDs : FnScope ["_law_script", "_law_k", "_law_cell", "_law_seed"] ["_law_script", "_law_k"] (defScope sDraws) := ⟨rfl, rfl, rfl, by decide +kernel, rfl, by decide +kernel, by decide +kernel⟩
theorem ok_draws {f : Addr} {fd : FuncData} (F : Fun K "_law_draws" "_law_draws" sDraws f fd) (T : Bi mg) : FnOk P w K mg base CX0 1 f fd ["_law_script", "_law_k"] (spDraws K) := by
  refine F.ok scDs (fun vs H Q E h => ?_) (fun cdv A outer s H vs Q E hr h => ?_)
  · obtain ⟨a, ns, k, rfl, _⟩ := h
    rfl
  · obtain ⟨a, ns, k, rfl, hS, hn, k0, k1, q⟩ := h
    refine ⟨_, (pss_cons (ps_set (i := 2) scDs.nd rfl (Or.inl rfl) pe_int)
        (pss_cons (ps_if (pt_cmpR (op_neD hr.units) (pv 0) (pe_lst pa_nil) (nomark _)) (pss_one (ps_set (i := 2) scDs.nd rfl (Or.inl rfl) (pe_ix ix_list (pv 0) (pe_op op_mod (pe_callTy call_int1 (by rfl) T.int (by decide +kernel) (pa_cons (pv 1) pa_nil)) (pe_callB call_len_seq (by rfl) T.len PySem.boot_len (pa_cons (pv 0) pa_nil))) (fun _ _ => rfl)))) pss_nil)
        (pss_cons (ps_if (pt_cmpR op_ge (pv 1) (pe_callB call_len_seq (by rfl) T.len PySem.boot_len (pa_cons (pv 0) pa_nil)) (nomark _)) (pss_one (ps_set (i := 2) scDs.nd rfl (Or.inl rfl) (pe_op op_mod (pe_callTy call_int1 (by rfl) T.int (by decide +kernel) (pa_cons (pv 2) pa_nil)) pe_int))) pss_nil)
        (pss_cons (ps_set (i := 3) scDs.nd rfl (Or.inl rfl) (pe_op op_mod (pe_op op_mul (pe_callTy call_int1 (by rfl) T.int (by decide +kernel) (pa_cons (pe_op op_add (pe_op op_add (pe_op op_mod (pe_callTy call_int1 (by rfl) T.int (by decide +kernel) (pa_cons (pv 2) pa_nil)) pe_int) (pe_op op_mul pe_int (pv 1))) pe_int) pa_nil)) pe_int) pe_int))
        (pss_one (ps_ret (pe_lst (pa_cons (pe_op op_mul (pv 2) (pe_callTy call_int1 (by rfl) T.int (by decide +kernel) (pa_cons (pe_cmpR op_ge (pv 2) (pe_op op_pow pe_int pe_int) (nomark _)) pa_nil))) (pa_cons (pv 3) pa_nil))))))))), ?_⟩
    have fin : ∀ (c : Int) (H1 : Hp), Same H H1 → ∀ p : Addr, H1 p = none → Q (.ref p) (upd H1 p (.lst [.int (c * (if decide ((10 : Int) ^ (18 : Int).toNat ≤ c) = true then 1 else 0)), .int ((c % 2147483629 + 104729 * k + 11) * 48271 % 2147483647)])) := by
      intro c H1 hs p hp
      refine q _ p (fun b o z => ?_) (hs.free hp) ⟨_, _, upd_same, ?_, ?_, ?_⟩
      · rw [upd_ne (ne_of_none (hs _ _ z) hp)]
        exact hs _ _ z
      · by_cases z : (10 : Int) ^ (18 : Int).toNat ≤ c
        · rw [decide_eq_true z, if_pos rfl]
          have : (0 : Int) ≤ (10 : Int) ^ (18 : Int).toNat := by decide
          omega
        · rw [decide_eq_false z, if_neg Bool.false_ne_true]
          omega
      · omega
      · omega
    refine ⟨_, rfl, ⟨Nat.zero_le _, fun l hl => ?_⟩⟩
    have hs1 : Same H (upd H l (.lst [])) := fun b o z => by
      rw [upd_ne (ne_of_none z hl)]
      exact z
    refine ⟨_, _, .lst (hs1.seq hS) (dp_ints ns), .lst (SqL.of upd_same) .nil, PySem.W.ke_shaped_ints ns, rfl, _, rfl, ?_⟩
    rw [eqv_nil]
    by_cases e : ns = []
    · subst e
      refine iteF ?_
      refine ⟨_, rfl, _, rfl, a, _, rfl, .inl (hs1.seq hS), _, _, rfl, rfl, _, rfl, ?_⟩
      have ek : decide (((List.map V.int ([] : List Int)).length : Int) ≤ k) = true := decide_eq_true (by simpa using k0)
      rw [ek]
      refine iteT ?_
      refine ⟨_, rfl, .inl ⟨_, rfl, ?_⟩⟩
      refine ⟨_, _, rfl, rfl, (by show (0 : Int) < 1000003; decide), ?_⟩
      refine ⟨_, rfl, .inl ⟨_, rfl, _, _, rfl, rfl, (by show (0 : Int) < 2147483629; decide), _, rfl, _, _, rfl, rfl, .inl ⟨by decide, by decide⟩, _, _, rfl, rfl, _, _, rfl, rfl, .inl ⟨_, rfl, _, _, rfl, rfl, .inr ⟨by decide, by decide⟩, _, _, rfl, rfl, (by show (0 : Int) < 2147483647; decide), ?_⟩⟩⟩
      refine ⟨_, rfl, _, rfl, _, _, rfl, rfl, ⟨by decide, by decide, by decide⟩, _, _, rfl, rfl, .inr ⟨_, rfl, _, _, rfl, rfl, .inr ⟨by split <;> decide, by split <;> decide⟩, _, rfl, (by show 2 ≤ sizeLine; decide), ?_⟩⟩
      exact fin _ _ hs1
    · have len : 0 < ns.length := List.length_pos_iff.mpr e
      rw [decide_eq_false e]
      refine iteT ?_
      refine ⟨_, rfl, _, rfl, .inl ⟨_, rfl, _, rfl, a, _, rfl, .inl (hs1.seq hS), _, _, rfl, rfl, (by rw [List.length_map]; omega), ?_⟩⟩
      have hb : k % ((List.map V.int ns).length : Int) < ns.length ∧ 0 ≤ k % ((List.map V.int ns).length : Int) := by
        rw [List.length_map]
        exact ⟨Int.emod_lt_of_pos _ (by omega), Int.emod_nonneg _ (by omega)⟩
      obtain ⟨j, hj⟩ : ∃ j : Nat, k % ((List.map V.int ns).length : Int) = j := ⟨_, (Int.toNat_of_nonneg hb.2).symm⟩
      have hjn : j < ns.length := by omega
      refine ⟨a, _, _, .int ns[j], rfl, rfl, hs1.seq hS, ?_, ?_⟩
      · rw [hj]
        exact atI_nat (by simp [hjn])
      refine ⟨_, rfl, _, rfl, a, _, rfl, .inl (hs1.seq hS), _, _, rfl, rfl, _, rfl, ?_⟩
      refine ite2 (fun _ => ?_) fun _ => ?_
      · refine ⟨_, rfl, .inl ⟨_, rfl, ?_⟩⟩
        refine ⟨_, _, rfl, rfl, (by show (0 : Int) < 1000003; decide), ?_⟩
        refine ⟨_, rfl, .inl ⟨_, rfl, _, _, rfl, rfl, (by show (0 : Int) < 2147483629; decide), _, rfl, _, _, rfl, rfl, .inl ⟨by decide, by decide⟩, _, _, rfl, rfl, _, _, rfl, rfl, .inl ⟨_, rfl, _, _, rfl, rfl, .inr ⟨by decide, by decide⟩, _, _, rfl, rfl, (by show (0 : Int) < 2147483647; decide), ?_⟩⟩⟩
        refine ⟨_, rfl, _, rfl, _, _, rfl, rfl, ⟨by decide, by decide, by decide⟩, _, _, rfl, rfl, .inr ⟨_, rfl, _, _, rfl, rfl, .inr ⟨by split <;> decide, by split <;> decide⟩, _, rfl, (by show 2 ≤ sizeLine; decide), ?_⟩⟩
        exact fin _ _ hs1
      · skip
        refine ⟨_, rfl, .inl ⟨_, rfl, _, _, rfl, rfl, (by show (0 : Int) < 2147483629; decide), _, rfl, _, _, rfl, rfl, .inl ⟨by decide, by decide⟩, _, _, rfl, rfl, _, _, rfl, rfl, .inl ⟨_, rfl, _, _, rfl, rfl, .inr ⟨by decide, by decide⟩, _, _, rfl, rfl, (by show (0 : Int) < 2147483647; decide), ?_⟩⟩⟩
        refine ⟨_, rfl, _, rfl, _, _, rfl, rfl, ⟨by decide, by decide, by decide⟩, _, _, rfl, rfl, .inr ⟨_, rfl, _, _, rfl, rfl, .inr ⟨by split <;> decide, by split <;> decide⟩, _, rfl, (by show 2 ≤ sizeLine; decide), ?_⟩⟩
        exact fin _ _ hs1
theorem scDr : FnScope ["_law_draws_here", "_law_upto", "_law_digit"] ["_law_draws_here", "_law_upto"] (defScope sDraw) := ⟨rfl, rfl, rfl, by decide +kernel, rfl, by decide +kernel, by decide +kernel⟩
theorem ok_draw {f : Addr} {fd : FuncData} (F : Fun K "_law_draw" "_law_draw" sDraw f fd) (T : Bi mg) : FnOk P w K mg base CX0 1 f fd ["_law_draws_here", "_law_upto"] spDraw := by
  refine F.ok scDr (fun vs H Q E h => ?_) (fun cdv A outer s H vs Q E hr h => ?_)
  · obtain ⟨d, n, rfl, _⟩ := h
    rfl
  · obtain ⟨d, n, rfl, ⟨c, z, hd, c0, z0, z1⟩, n0, n1, q⟩ := h
    refine ⟨_, (pss_cons (ps_if (pt_cmpR op_gt (pe_ix ix_list (pv 0) pe_int (fun _ _ => rfl)) pe_int (nomark _)) (pss_cons (ps_set (i := 2) scDr.nd rfl (Or.inl rfl) (pe_op op_mod (pe_callTy call_int1 (by rfl) T.int (by decide +kernel) (pa_cons (pe_ix ix_list (pv 0) pe_int (fun _ _ => rfl)) pa_nil)) (pv 1)))
        (pss_cons (ps_asg (pe_op op_fdiv (pe_ix ix_list (pv 0) pe_int (fun _ _ => rfl)) (pv 1)) (pg_sub (pv 0) pe_int set_list))
        (pss_one (ps_ret (pv 2))))) pss_nil)
        (pss_cons (ps_asg (pe_op op_mod (pe_callTy call_int1 (by rfl) T.int (by decide +kernel) (pa_cons (pe_op op_add (pe_op op_mul (pe_ix ix_list (pv 0) pe_int (fun _ _ => rfl)) pe_int) pe_int) pa_nil)) pe_int) (pg_sub (pv 0) pe_int set_list))
        (pss_one (ps_ret (pe_op op_mod (pe_callTy call_int1 (by rfl) T.int (by decide +kernel) (pa_cons (pe_op op_fdiv (pe_op op_mod (pe_callTy call_int1 (by rfl) T.int (by decide +kernel) (pa_cons (pe_op op_mul (pe_ix ix_list (pv 0) pe_int (fun _ _ => rfl)) (pe_ix ix_list (pv 0) pe_int (fun _ _ => rfl))) pa_nil)) pe_int) pe_int) pa_nil)) (pv 1)))))), ?_⟩
    have at0 : ∀ {x y : V}, atI [x, y] (0 : Int) = some x := rfl
    have at1 : ∀ {x y : V}, atI [x, y] (1 : Int) = some y := rfl
    refine ⟨_, rfl, d, _, _, _, rfl, rfl, SqL.of hd, at0, _, _, rfl, rfl, _, rfl, ?_⟩
    refine ite2 (fun hc => ?_) fun _ => ?_
    · refine ⟨_, rfl, d, _, _, _, rfl, rfl, SqL.of hd, at0, .inl ⟨_, rfl, _, rfl, _, _, rfl, rfl, n0, ?_⟩⟩
      refine ⟨_, rfl, d, _, _, _, rfl, rfl, SqL.of hd, at0, _, rfl, _, _, rfl, rfl, ⟨n0, by omega⟩, ?_⟩
      refine ⟨_, rfl, d, _, _, 0, rfl, rfl, hd, rfl, ?_⟩
      refine ⟨_, rfl, ?_⟩
      exact q _ _ _ (Int.emod_nonneg _ (by omega)) (Int.emod_lt_of_pos _ n0) (Int.ediv_nonneg c0 (by omega)) z0 z1
    · refine ⟨_, rfl, d, _, _, _, rfl, rfl, SqL.of hd, at1, _, _, rfl, rfl, .inr ⟨by decide, by decide⟩, _, _, rfl, rfl, .inl ⟨_, rfl, _, _, rfl, rfl, (by show (0 : Int) < 2147483647; decide), ?_⟩⟩
      refine ⟨_, rfl, d, _, _, 1, rfl, rfl, hd, rfl, ?_⟩
      have hd2 : upd H d (.lst [.int c, .int ((z * 48271 + 11) % 2147483647)]) d = some (.lst [.int c, .int ((z * 48271 + 11) % 2147483647)]) := upd_same
      have b0 : 0 ≤ (z * 48271 + 11) % 2147483647 := Int.emod_nonneg _ (by decide)
      have b1 : (z * 48271 + 11) % 2147483647 < 2147483647 := Int.emod_lt_of_pos _ (by decide)
      refine ⟨_, rfl, d, _, _, _, rfl, rfl, SqL.of hd2, at1, _, rfl, d, _, _, _, rfl, rfl, SqL.of hd2, at1, _, _, rfl, rfl, .inl ⟨by omega, by omega⟩, ?_⟩
      refine .inl ⟨_, rfl, _, _, rfl, rfl, (by show (0 : Int) < 2147483629; decide), _, _, rfl, rfl, ⟨by decide, by decide⟩, .inl ⟨_, rfl, _, rfl, _, _, rfl, rfl, n0, ?_⟩⟩
      exact q _ _ _ (Int.emod_nonneg _ (by omega)) (Int.emod_lt_of_pos _ n0) c0 b0 b1
end
end Lp


set_option Elab.async false
set_option linter.all false
set_option maxRecDepth 100000
set_option maxHeartbeats 8000000
namespace Lp
open PySem PySem.Spec PyProof.Rows L2
def clsBody : Stmt → List Stmt
  | .ClassDef (body := b) .. => b
  | _ => []
def meth (c i : Nat) : Stmt := (clsBody (top c)).getD i (.Pass ⟨0, 0, 0, 0⟩)
abbrev sIsInt : Stmt := top 5
abbrev sWord : Stmt := top 8
abbrev sAmt : Stmt := top 9
abbrev sAre : Stmt := top 10
abbrev sInit : Stmt := meth 11 0
/-- a word -/
def wd (s : Str) : Bool := decide (1 ≤ s.length) && decide (s.length ≤ 8) && (Txt.isascii s && (Txt.isalpha s && Txt.islower s))
/-- names and amounts that make sizes -/
structure Fit (l : Am) : Prop where
  nd : (l.map (·.1)).Nodup
  ok : ∀ p ∈ l, wd p.1 = true ∧ 0 ≤ p.2
  len : l.length < 64
/-- at x sizes with the amounts of l -/
def SzAt (C : Addr) (H : Hp) (x : Addr) (l : Am) : Prop := Fit l ∧ ∃ dx nl dl, H x = some (.ins C dx [("_names", .ref nl), ("_amounts", .ref dl)]) ∧ H nl = some (.lst ((nms l).map V.str)) ∧ H dl = some (.dK (dsi (cn l)))
/-- the same, as far as its amounts are read (they may be locked) -/
def SzR (C : Addr) (H : Hp) (x : Addr) (l : Am) : Prop := Fit l ∧ ∃ dx nl dl, H x = some (.ins C dx [("_names", .ref nl), ("_amounts", .ref dl)]) ∧ Rd H dl (.dK (dsi (cn l)))
theorem SzAt.r {C : Addr} {H : Hp} {x : Addr} {l : Am} (h : SzAt C H x l) : SzR C H x l := by
  obtain ⟨f, dx, nl, dl, h1, h2, h3⟩ := h
  exact ⟨f, dx, nl, dl, h1, .inl h3⟩
theorem SzR.same {C : Addr} {H H' : Hp} {x : Addr} {l : Am} (h : SzR C H x l) (s : Same H H') : SzR C H' x l := by
  obtain ⟨f, dx, nl, dl, h1, h3⟩ := h
  exact ⟨f, dx, nl, dl, s _ _ h1, h3.elim (fun h => .inl (s _ _ h)) fun ⟨o, h⟩ => .inr ⟨o, s _ _ h⟩⟩
theorem SzAt.lock {C : Addr} {H : Hp} {x d : Addr} {l m : Am} (h : SzAt C H x l) (hd : H d = some (.dK (dsi m))) (od : Obj) : SzR C (upd H d (.frz od (.dK (dsi m)))) x l := by
  obtain ⟨f, dx, nl, dl, h1, h2, h3⟩ := h
  have nx : x ≠ d := fun e => by
    rw [e, hd] at h1
    cases h1
  refine ⟨f, dx, nl, dl, keepd h1 nx, ?_⟩
  by_cases e : dl = d
  · rw [e] at h3 ⊢
    rw [hd] at h3
    have e2 : dsi m = dsi (cn l) := HO.dK.inj (Option.some.inj h3)
    exact .inr ⟨od, by rw [upd_same, e2]⟩
  · exact .inl (keepd h3 e)
theorem SzAt.same {C : Addr} {H H' : Hp} {x : Addr} {l : Am} (h : SzAt C H x l) (s : Same H H') : SzAt C H' x l := by
  obtain ⟨f, dx, nl, dl, h1, h2, h3⟩ := h
  exact ⟨f, dx, nl, dl, s _ _ h1, s _ _ h2, s _ _ h3⟩
/-- the places of the defs -/
structure Ads where
  isInt : Addr
  word : Addr
  amt : Addr
  are : Addr
  C : Addr
  init : Addr
structure Tz (K : PySem.W.Frag) (mg : Str → Option Value) (a : Ads) : Prop where
  bi : Bi mg
  isinstance : mg "isinstance" = none
  bool : mg "bool" = none
  str : mg "str" = none
  dict : mg "dict" = none
  all : mg "all" = none
  sorted : mg "sorted" = none
  longest : ∃ t, mg "LONGEST" = some (.int 8 t)
  mIsInt : mg "is_integer" = some (.ref a.isInt)
  mWord : mg "is_word" = some (.ref a.word)
  mAmt : mg "is_amount" = some (.ref a.amt)
  mAre : mg "are_amounts" = some (.ref a.are)
  mC : mg "Sizes" = some (.ref a.C)
  cls : Cls K a.C
  nN : NoAttr K a.C "_names"
  nA : NoAttr K a.C "_amounts"
  kIntInt : PySem.W.kitOne K (.type "int") (.type "int") = some true
  kIntBool : PySem.W.kitOne K (.type "int") (.type "bool") = some false
  kStrStr : PySem.W.kitOne K (.type "str") (.type "str") = some true
  kDictDict : PySem.W.kitOne K (.type "dict") (.type "dict") = some true
def spIsInt : Sp := fun vs H Q _ => ∃ i : Int, vs = [.int i] ∧ Q (.bl true) H
def spWord : Sp := fun vs H Q _ => ∃ s : Str, vs = [.str s] ∧ s.length ≤ sizeLine ∧ Q (.bl (wd s)) H
def spAmt : Sp := fun vs H Q _ => ∃ i : Int, vs = [.int i] ∧ Q (.bl (decide (0 ≤ i))) H
def spAre : Sp := fun vs H Q _ => ∃ (a : Addr) (l : Am), vs = [.ref a] ∧ H a = some (.dK (dsi l)) ∧ Fit l ∧ ∀ H', Same H H' → Q (.bl true) H'
theorem pss_dead {X : Cx} {ss : List Stmt} : PSs X ss (fun _ _ _ => False) := ⟨fun _ _ _ _ _ _ h => h.elim⟩
theorem wd_len {s : Str} (h : wd s = true) : s.length ≤ sizeLine := by
  unfold wd at h
  rw [Bool.and_eq_true, Bool.and_eq_true] at h
  have := of_decide_eq_true h.1.2
  rw [sizeLine_eq]
  omega
section
variable {P : Program} {w : World} {K : PySem.W.Frag} {mg : Str → Option Value} {base : Heap} {a : Ads}
theorem scII : FnScope ["thing"] ["thing"] (defScope sIsInt) := ⟨rfl, rfl, rfl, by decide +kernel, rfl, by decide +kernel, by decide +kernel⟩
theorem ok_isInt {f : Addr} {fd : FuncData} (F : Fun K "is_integer" "is_integer" sIsInt f fd) (T : Tz K mg a) : FnOk P w K mg base CX0 1 f fd ["thing"] spIsInt := by
  refine F.ok scII (fun vs H Q E h => ?_) (fun cdv A outer s H vs Q E hr h => ?_)
  · obtain ⟨i, rfl, _⟩ := h
    rfl
  · obtain ⟨i, rfl, q⟩ := h
    refine ⟨_, pss_one (ps_ret (pe_and (pe_callB call_isi (by rfl) T.isinstance (by decide +kernel) (pa_cons (pv 0) (pa_cons (pe_bltn (by rfl) T.bi.int (by decide +kernel) (v := .ty "int") rfl) pa_nil)))
      (pe_one (pe_not (pe_callB call_isi (by rfl) T.isinstance (by decide +kernel) (pa_cons (pv 0) (pa_cons (pe_bltn (by rfl) T.bool (by decide +kernel) (v := .ty "bool") rfl) pa_nil))))))), ?_⟩
    refine ⟨_, rfl, _, _, _, _, true, rfl, .ty _, .base (.int i), T.kIntInt, true, rfl, ?_⟩
    rw [if_pos rfl]
    exact ⟨_, rfl, _, _, _, _, false, rfl, .ty _, .base (.int i), T.kIntBool, false, rfl, q⟩
theorem scW : FnScope ["thing"] ["thing"] (defScope sWord) := ⟨rfl, rfl, rfl, by decide +kernel, rfl, by decide +kernel, by decide +kernel⟩
theorem ok_word {f : Addr} {fd : FuncData} (F : Fun K "is_word" "is_word" sWord f fd) (T : Tz K mg a) : FnOk P w K mg base CX0 1 f fd ["thing"] spWord := by
  refine F.ok scW (fun vs H Q E h => ?_) (fun cdv A outer s H vs Q E hr h => ?_)
  · obtain ⟨i, rfl, _⟩ := h
    rfl
  · obtain ⟨z, rfl, hz, q⟩ := h
    obtain ⟨t8, hL⟩ := T.longest
    refine ⟨_, pss_cons (ps_if (PW.pt (pw_or (pt_not (pt_val (pe_callB call_isi (by rfl) T.isinstance (by decide +kernel) (pa_cons (pv 0) (pa_cons (pe_bltn (by rfl) T.str (by decide +kernel) (v := .ty "str") rfl) pa_nil)))))
        (pw_or1 (pt_not (pt_chain op_le op_le pe_int (pe_callB call_len_str (by rfl) T.bi.len PySem.boot_len (pa_cons (pv 0) pa_nil)) (pe_glob (by rfl) hL (v := .int 8) ⟨_, rfl⟩)))))) (pss_one (ps_ret pe_bl)) pss_nil)
      (pss_one (ps_ret (pe_and (pe_bm0 PySem.F.plainAttrs_str PySem.F.slot_str_isascii PySem.F.type_str_isascii mt_isascii (pv 0)) (pe_and (pe_bm0 PySem.F.plainAttrs_str PySem.F.slot_str_isalpha PySem.F.type_str_isalpha mt_isalpha (pv 0)) (pe_one (pe_bm0 PySem.F.plainAttrs_str PySem.F.slot_str_islower PySem.F.type_str_islower mt_islower (pv 0))))))), ?_⟩
    refine ⟨_, rfl, _, _, _, _, true, rfl, .ty _, .base (.str z), T.kStrStr, true, rfl, ?_⟩
    refine iteF ?_
    refine ⟨_, rfl, _, rfl, hz, _, _, rfl, rfl, _, rfl, ?_⟩
    by_cases h1 : (1 : Int) ≤ z.length
    · rw [decide_eq_true h1]
      refine iteT ?_
      refine ⟨_, _, rfl, rfl, _, rfl, ?_⟩
      by_cases h8 : (z.length : Int) ≤ 8
      · rw [decide_eq_true h8]
        refine iteF ?_
        have e : wd z = (Txt.isascii z && (Txt.isalpha z && Txt.islower z)) := by
          unfold wd
          rw [decide_eq_true (show 1 ≤ z.length by omega), decide_eq_true (show z.length ≤ 8 by omega)]
          simp
        rw [e] at q
        have ty : tyV K "str" (.str z) H := rfl
        refine ⟨_, rfl, ty, z, rfl, rfl, trivial, Txt.isascii z, rfl, ?_⟩
        cases ea : Txt.isascii z with
        | false =>
          rw [ea] at q
          exact iteF q
        | true =>
          rw [ea] at q
          refine iteT ?_
          refine ⟨_, rfl, ty, z, rfl, rfl, trivial, Txt.isalpha z, rfl, ?_⟩
          cases eb : Txt.isalpha z with
          | false =>
            rw [eb] at q
            exact iteF q
          | true =>
            rw [eb] at q
            refine iteT ?_
            exact ⟨_, rfl, ty, z, rfl, rfl, trivial, q⟩
      · rw [decide_eq_false h8]
        refine iteT ?_
        have e : wd z = false := by
          unfold wd
          rw [decide_eq_false (show ¬ z.length ≤ 8 by omega)]
          simp
        rw [← e]
        exact q
    · rw [decide_eq_false h1]
      refine iteF ?_
      refine ⟨_, rfl, ?_⟩
      have e : wd z = false := by
        unfold wd
        rw [decide_eq_false (show ¬ 1 ≤ z.length by omega)]
        simp
      refine iteT ?_
      rw [← e]
      exact q
theorem scA : FnScope ["thing"] ["thing"] (defScope sAmt) := ⟨rfl, rfl, rfl, by decide +kernel, rfl, by decide +kernel, by decide +kernel⟩
theorem ok_amt {f : Addr} {fd fd1 : FuncData} (F : Fun K "is_amount" "is_amount" sAmt f fd) (T : Tz K mg a) (F1 : Fun K "is_integer" "is_integer" sIsInt a.isInt fd1) (b1 : Binds K fd1 ["thing"] []) : FnOk P w K mg base CX0 2 f fd ["thing"] spAmt := by
  have G1 : FnOk P w K mg base CX0 1 a.isInt fd1 ["thing"] spIsInt := ok_isInt F1 T
  refine F.ok scA (fun vs H Q E h => ?_) (fun cdv A outer s H vs Q E hr h => ?_)
  · obtain ⟨i, rfl, _⟩ := h
    rfl
  · obtain ⟨i, rfl, q⟩ := h
    refine ⟨_, pss_one (ps_ret (pe_and (pe_call G1 hr (by rfl) T.mIsInt F1.kp b1 .nil pass0 (pa_cons (pv 0) pa_nil)) (pe_one (pe_cmpR op_ge (pv 0) pe_int (nomark _))))), ?_⟩
    refine ⟨_, rfl, i, rfl, true, rfl, iteT ?_⟩
    exact ⟨_, rfl, _, _, rfl, rfl, q⟩
theorem scAr : FnScope ["thing", "name", "amount"] ["thing"] (defScope sAre) := ⟨rfl, rfl, rfl, by decide +kernel, rfl, by decide +kernel, by decide +kernel⟩
theorem ok_are {f : Addr} {fd fd1 fd2 fd3 : FuncData} (F : Fun K "are_amounts" "are_amounts" sAre f fd) (T : Tz K mg a) (F1 : Fun K "is_integer" "is_integer" sIsInt a.isInt fd1) (b1 : Binds K fd1 ["thing"] [])
    (F2 : Fun K "is_amount" "is_amount" sAmt a.amt fd2) (b2 : Binds K fd2 ["thing"] []) (F3 : Fun K "is_word" "is_word" sWord a.word fd3) (b3 : Binds K fd3 ["thing"] []) : FnOk P w K mg base CX0 3 f fd ["thing"] spAre := by
  have G2 : FnOk P w K mg base CX0 2 a.amt fd2 ["thing"] spAmt := ok_amt F2 T F1 b1
  have G3 : FnOk P w K mg base CX0 1 a.word fd3 ["thing"] spWord := ok_word F3 T
  refine F.ok scAr (fun vs H Q E h => ?_) (fun cdv A outer s H vs Q E hr h => ?_)
  · obtain ⟨d, l, rfl, _⟩ := h
    rfl
  · obtain ⟨d, l, rfl, hd, hf, q⟩ := h
    refine ⟨_, pss_cons (ps_if (pt_not (pt_val (pe_callB call_isi (by rfl) T.isinstance (by decide +kernel) (pa_cons (pv 0) (pa_cons (pe_bltn (by rfl) T.dict (by decide +kernel) (v := .ty "dict") rfl) pa_nil))))) (pss_one (ps_ret pe_bl)) pss_nil)
      (pss_one (ps_ret (pe_callB (id := "all") (cr_all rfl) (by rfl) T.all (by decide +kernel) (pa_cons (pe_lock (pe_lc (own := [("name", 1), ("amount", 2)]) (g := gTup K 2 (gCons (gName 1) (gCons (gName 2) gNil))) (tt := tYes) rfl scAr.nd (pi_items (pv 0)) (blkOk_by (N := ["thing", "name", "amount"]) (sc := (defScope sAre)) (by decide +kernel))
        (fun _ _ _ _ _ => (pg_tup (n := 2) rfl (pgs_cons (pg_name (i := 1) scAr.nd rfl (Or.inl rfl)) (pgs_cons (pg_name (i := 2) scAr.nd rfl (Or.inl rfl)) pgs_nil)))) (fun _ _ _ _ _ => pts_nil)
        (fun _ _ _ _ _ => (pe_and (pe_call G3 (hr.mono (by decide)) (by rfl) T.mWord F3.kp b3 .nil pass0 (pa_cons (pv 1) pa_nil)) (pe_one (pe_call G2 hr (by rfl) T.mAmt F2.kp b2 .nil pass0 (pa_cons (pv 2) pa_nil))))))) pa_nil)))), ?_⟩
    refine ⟨_, rfl, _, _, _, _, true, rfl, .ty _, .base (.dK hd), T.kDictDict, true, rfl, ?_⟩
    refine iteF ?_
    refine ⟨d, _, hd, trivial, fun od => ?_⟩
    refine ⟨_, rfl, d, od, _, rfl, upd_same, fun D hD => ?_⟩
    refine lcx walk_items (fun i => List.replicate i (V.bl true)) hD rfl (fun H1 s1 => s1 _ _ upd_same) ?_ ?_
    · intro i x H1 H2 hi p y
      obtain ⟨T0, u, v, rfl, hT, rfl, e1, e2⟩ := y
      obtain ⟨⟨n, z⟩, hp⟩ : ∃ p, l[i]? = some p := ⟨_, List.getElem?_eq_getElem (by rw [dsi, List.length_map] at hi; exact hi)⟩
      obtain ⟨rfl, rfl⟩ : u = .str n ∧ v = .int z := by
        dsimp only at e1 e2
        rw [dsi_get hp] at e1 e2
        cases e1
        cases e2
        exact ⟨rfl, rfl⟩
      obtain ⟨hw, h0⟩ := hf.ok _ (List.mem_of_getElem? hp)
      refine ⟨T0, _, rfl, SqT.of upd_same, rfl, _, _, rfl, _, _, rfl, rfl, rfl, ?_⟩
      dsimp only [tYes]
      refine iteT ?_
      refine ⟨_, rfl, n, rfl, wd_len hw, _, rfl, ?_⟩
      rw [hw]
      refine iteT ?_
      refine ⟨_, rfl, z, rfl, ?_⟩
      rw [decide_eq_true h0]
      exact p.put (same_new hT) hD (List.replicate_succ' ..) (by
        rw [List.length_replicate, sizeLine_eq]
        have := hf.len
        rw [dsi, List.length_map] at hi
        omega)
    · intro H1 s1 e1
      refine ⟨s1 _ _ upd_same, D, List.replicate (dsi l).length true, rfl, SqL.of ?_, ?_⟩
      · rw [keepd (a := d) e1 (ne_of_none upd_same hD).symm]
        simp
      · have : (List.replicate (dsi l).length true).all id = true := by simp
        rw [this]
        exact q _ (same_unlock hd s1)
end
end Lp

set_option Elab.async false
set_option linter.all false
set_option maxRecDepth 100000
set_option maxHeartbeats 8000000
namespace Lp
open PySem PySem.Spec PyProof.Rows L2
theorem am_pos {l : Am} {n : Str} (h : 0 < am0 l n) : am l n = some (am0 l n) := by
  unfold am0 at h ⊢
  cases e : am l n with
  | none => rw [e] at h; simp at h
  | some v => rfl
theorem cn_take_new {l : Am} (hn : (l.map (·.1)).Nodup) {i : Nat} {n : Str} (h : (nms l)[i]? = some n) : n ∉ ((cn l).take i).map (·.1) := by
  have nd := nms_nodup hn
  intro m
  obtain ⟨p, hp, rfl⟩ := List.mem_map.mp m
  obtain ⟨j, hj, e⟩ := List.getElem_of_mem hp
  rw [List.getElem_take] at e
  rw [List.length_take] at hj
  have hj' : j < (nms l).length := by
    have : (cn l).length = (nms l).length := List.length_map ..
    omega
  have e2 : (nms l)[j] = p.1 := by
    rw [← e]
    simp [cn]
  obtain ⟨hi, h2⟩ := List.getElem?_eq_some_iff.mp h
  exact List.pairwise_iff_getElem.mp nd j i hj' hi (by omega) (e2.trans h2.symm)
/-- the same, its own list and dict new since H0 -/
def SzN (C : Addr) (H0 H : Hp) (x : Addr) (l : Am) : Prop := Fit l ∧ ∃ dx nl dl, H x = some (.ins C dx [("_names", .ref nl), ("_amounts", .ref dl)]) ∧ H nl = some (.lst ((nms l).map V.str)) ∧ H dl = some (.dK (dsi (cn l))) ∧ H0 nl = none ∧ H0 dl = none
theorem SzN.at {C : Addr} {H0 H : Hp} {x : Addr} {l : Am} (h : SzN C H0 H x l) : SzAt C H x l := by
  obtain ⟨f, dx, nl, dl, h1, h2, h3, _⟩ := h
  exact ⟨f, dx, nl, dl, h1, h2, h3⟩
theorem SzN.same {C : Addr} {H0 H H' : Hp} {x : Addr} {l : Am} (h : SzN C H0 H x l) (s : Same H H') : SzN C H0 H' x l := by
  obtain ⟨f, dx, nl, dl, h1, h2, h3, h4⟩ := h
  exact ⟨f, dx, nl, dl, s _ _ h1, s _ _ h2, s _ _ h3, h4⟩
/-- a write elsewhere -/
theorem SzN.but {C d : Addr} {H0 H H' : Hp} {x : Addr} {l : Am} {o : HO} (h : SzN C H0 H x l) (hd : H0 d = some o) (nx : x ≠ d) (s : ∀ b o, b ≠ d → H b = some o → H' b = some o) : SzN C H0 H' x l := by
  obtain ⟨f, dx, nl, dl, h1, h2, h3, h4, h5⟩ := h
  have ne : ∀ {b : Addr}, H0 b = none → b ≠ d := fun {b} hb e => by
    rw [e, hd] at hb
    cases hb
  exact ⟨f, dx, nl, dl, s _ _ nx h1, s _ _ (ne h4) h2, s _ _ (ne h5) h3, h4, h5⟩
def spInit (C : Addr) : Sp := fun vs H Q _ => ∃ (x d dx : Addr) (l : Am), vs = [.ref x, .ref d] ∧ H x = some (.ins C dx []) ∧ H d = some (.dK (dsi l)) ∧ Fit l ∧
  ∀ H', (∀ b o, b ≠ x → H b = some o → H' b = some o) → SzN C H H' x l → Q .non H'
section
variable {P : Program} {w : World} {K : PySem.W.Frag} {mg : Str → Option Value} {base : Heap} {a : Ads}
theorem scI : FnScope ["self", "amounts", "name"] ["self", "amounts"] (defScope sInit) := ⟨rfl, rfl, rfl, by decide +kernel, rfl, by decide +kernel, by decide +kernel⟩
theorem ok_init {f : Addr} {fd fd1 fd2 fd3 fd4 : FuncData} (F : Fun K "__init__" "Sizes.__init__" sInit f fd) (T : Tz K mg a) (F1 : Fun K "is_integer" "is_integer" sIsInt a.isInt fd1) (b1 : Binds K fd1 ["thing"] [])
    (F2 : Fun K "is_amount" "is_amount" sAmt a.amt fd2) (b2 : Binds K fd2 ["thing"] []) (F3 : Fun K "is_word" "is_word" sWord a.word fd3) (b3 : Binds K fd3 ["thing"] [])
    (F4 : Fun K "are_amounts" "are_amounts" sAre a.are fd4) (b4 : Binds K fd4 ["thing"] []) : FnOk P w K mg base CX0 4 f fd ["self", "amounts"] (spInit a.C) := by
  have G4 : FnOk P w K mg base CX0 3 a.are fd4 ["thing"] spAre := ok_are F4 T F1 b1 F2 b2 F3 b3
  refine F.ok scI (fun vs H Q E h => ?_) (fun cdv A outer s H vs Q E hr h => ?_)
  · obtain ⟨x, d, dx, l, rfl, _⟩ := h
    rfl
  · obtain ⟨x, d, dx, l, rfl, hx, hd, hf, q⟩ := h
    have hu := hu_of hr
    refine ⟨_, pss_cons (ps_if (pt_not (pt_val (pe_call G4 hr (by rfl) T.mAre F4.kp b4 .nil pass0 (pa_cons (pv 1) pa_nil)))) pss_dead pss_nil)
      (pss_cons (ps_fld (pv 0) (pe_callB (id := "sorted") cr_sortedS (by rfl) T.sorted (by decide +kernel) (pa_cons (pe_lock (pe_lc (own := [("name", 2)]) (g := gName 2) rfl scI.nd (pi_keys (pv 1)) (blkOk_by (N := ["self", "amounts", "name"]) (sc := (defScope sInit)) (by decide +kernel))
        (fun _ _ _ _ _ => pg_name (i := 2) scI.nd rfl (Or.inl rfl)) (fun _ _ _ _ _ => pts_one (pt_cmpR op_gt (pe_dget hu (pv 1) (pv 2) (fun _ _ => rfl)) pe_int (nomark _))) (fun _ _ _ _ _ => pv 2))) pa_nil)) rfl)
      (pss_one (ps_fld (pv 0) (pe_dc (own := [("name", 2)]) (g := gName 2) (tt := tYes) rfl scI.nd (pi_list (pe_fld (pv 0) rfl)) (blkOk_by (N := ["self", "amounts", "name"]) (sc := (defScope sInit)) (by decide +kernel))
        (fun _ _ _ _ _ => pg_name (i := 2) scI.nd rfl (Or.inl rfl)) (fun _ _ _ _ _ => pts_nil) (fun _ _ _ _ _ => pv 2) (fun _ _ _ _ _ => pe_dget hu (pv 1) (pv 2) (fun _ _ => rfl))) rfl))), ?_⟩
    refine ⟨_, rfl, d, l, rfl, hd, hf, fun H1 s1 => ⟨true, rfl, iteF ?_⟩⟩
    refine ⟨d, _, s1 _ _ hd, trivial, fun od => ?_⟩
    refine ⟨_, rfl, d, od, rfl, .inl ⟨_, upd_same, fun D hD => ?_⟩⟩
    refine lcx walk_keys (fun i => ((l.take i).filter fun p => decide (0 < p.2)).map fun p => V.str p.1) hD rfl (fun H1 s1 => s1 _ _ upd_same) ?_ ?_
    · intro i y H2 H3 hi p yy
      obtain ⟨rfl, k, v, e1, rfl⟩ := yy
      obtain ⟨⟨n, z⟩, hp⟩ : ∃ p, l[i]? = some p := ⟨_, List.getElem?_eq_getElem (by rw [dsi_len] at hi; exact hi)⟩
      rw [dsi_get hp] at e1
      cases e1
      refine ⟨rfl, ?_⟩
      refine ⟨_, rfl, _, rfl, d, .int z, rfl, dget_am (.inr ⟨od, p.1 _ _ upd_same⟩) (am_mem hf.nd (List.mem_of_getElem? hp)), z, 0, rfl, rfl, _, rfl, ?_⟩
      have hz : (((l.take i).filter fun p => decide (0 < p.2)).map fun p => V.str p.1).length < sizeLine := by
        rw [List.length_map, sizeLine_eq]
        have h1 := List.length_filter_le (fun p : Str × Int => decide (0 < p.2)) (l.take i)
        have h2 := List.length_take_le' i l
        have h3 := hf.len
        omega
      by_cases h0 : 0 < z
      · rw [decide_eq_true h0]
        refine iteT ?_
        refine ⟨_, rfl, ?_⟩
        refine p.put same_refl hD ?_ hz
        rw [take_succ' hp, List.filter_append, List.map_append]
        simp [h0, kV]
      · rw [decide_eq_false h0]
        refine iteF ?_
        refine p.skip same_refl ?_
        rw [take_succ' hp, List.filter_append, List.map_append]
        simp [h0]
    · intro H2 s2 e2
      rw [dsi_len, List.take_length] at e2
      have sU := same_unlock (s1 _ _ hd) s2
      have eD : (upd H2 d (.dK (dsi l))) D = some (.lst ((((l.filter fun p => decide (0 < p.2)).map (·.1)).map V.str))) := by
        rw [keepd (a := d) e2 (ne_of_none upd_same hD).symm, List.map_map]
        rfl
      refine ⟨s2 _ _ upd_same, D, _, rfl, SqL.of eD, ?_, fun ys p hp hs hn => ?_⟩
      · rw [List.length_map]
        exact Nat.lt_of_le_of_lt (List.length_filter_le _ _) hf.len
      obtain rfl : ys = nms l := sorted_eq hp hs
      have sP : Same H (upd (upd H2 d (.dK (dsi l))) p (.lst ((nms l).map V.str))) := same_upd (same_tr s1 sU) hn
      refine ⟨_, rfl, x, a.C, dx, [], rfl, sP _ _ hx, T.cls, T.nN, by decide, ?_⟩
      have sU1 := same_tr s1 sU
      have npx : p ≠ x := ne_fresh (sU1 _ _ hx) hn
      have ndx : d ≠ x := fun z => by
        rw [z, hx] at hd
        cases hd
      have hpX : (upd (upd (upd H2 d (.dK (dsi l))) p (.lst ((nms l).map V.str))) x (.ins a.C dx (putF "_names" (.ref p) []))) p = some (.lst ((nms l).map V.str)) := keepd upd_same npx
      have hdX : (upd (upd (upd H2 d (.dK (dsi l))) p (.lst ((nms l).map V.str))) x (.ins a.C dx (putF "_names" (.ref p) []))) d = some (.dK (dsi l)) := keepd (sP _ _ hd) ndx
      generalize hHX : upd (upd (upd H2 d (.dK (dsi l))) p (.lst ((nms l).map V.str))) x (.ins a.C dx (putF "_names" (.ref p) [])) = HX at hpX hdX
      have hxX : HX x = some (.ins a.C dx (putF "_names" (.ref p) [])) := by rw [← hHX, upd_same]
      have kX : ∀ b o, b ≠ x → H b = some o → HX b = some o := fun b o nb hb => by
        rw [← hHX]
        exact keepd (sP _ _ hb) nb
      refine ⟨_, rfl, x, a.C, dx, _, .ref p, rfl, hxX, T.cls, T.nN, rfl, p, rfl, ⟨_, SqL.of hpX⟩, fun D2 hD2 => ?_⟩
      refine dcx (walk_list (xs := (nms l).map V.str)) (fun i => dsi ((cn l).take i)) hD2 rfl (fun H s => SqL.of (s _ _ hpX)) ?_ ?_
      · intro i y H3 H4 hi p2 yy
        obtain ⟨rfl, hy⟩ := yy
        rw [List.getElem?_map] at hy
        obtain ⟨n, hn', rfl⟩ := Option.map_eq_some_iff.mp hy
        have hpos := (mem_nms hf.nd).mp (List.mem_of_getElem? hn')
        have hget := am_pos hpos
        have hcn : (cn l)[i]? = some (n, am0 l n) := by
          unfold cn
          rw [List.getElem?_map, hn']
          rfl
        refine ⟨rfl, ?_⟩
        dsimp only [tYes]
        refine iteT ?_
        refine ⟨_, rfl, _, rfl, _, rfl, d, .int (am0 l n), rfl, dget_am (.inl (p2.1 _ _ hdX)) hget, ?_⟩
        refine p2.put same_refl hD2 (k := .inr n) rfl ?_ ?_
        · rw [take_succ' hcn, putK_dsi]
          exact cn_take_new hf.nd hn'
        · rw [dsi_len, sizeLine_eq]
          have h2 := List.length_take_le' i (cn l)
          have h3 := hf.len
          have h4 := nms_len l
          have h5 : (cn l).length = (nms l).length := List.length_map ..
          omega
      · intro H5 s5 e5
        have e6 : (cn l).take ((nms l).map V.str).length = cn l := by
          rw [List.take_of_length_le]
          rw [List.length_map, cn, List.length_map]
          exact Nat.le_refl _
        rw [e6] at e5
        refine ⟨_, rfl, x, a.C, dx, _, rfl, s5 _ _ hxX, T.cls, T.nA, (by show 1 < 1000; decide), ?_⟩
        refine q _ (fun b o nb hb => keepd (s5 _ _ (kX b o nb hb)) nb) ⟨hf, dx, p, D2, upd_same, keepd (s5 _ _ hpX) npx, keepd e5 (ne_fresh hxX hD2), sU1.free hn, ?_⟩
        cases e : H D2 with
        | none => rfl
        | some o =>
          rw [kX _ _ (ne_fresh hxX hD2) e] at hD2
          cases hD2
end
end Lp

set_option Elab.async false
set_option linter.all false
set_option maxRecDepth 100000
set_option maxHeartbeats 8000000
namespace Lp
open PySem PySem.Spec PyProof.Rows L2
abbrev sGet : Stmt := meth 11 1
abbrev sHas : Stmt := meth 11 2
abbrev sLen : Stmt := meth 11 4
abbrev sEq : Stmt := meth 11 5
abbrev sStr : Stmt := meth 11 6
abbrev sTotal : Stmt := meth 11 7
abbrev sNames : Stmt := meth 11 8
abbrev sByName : Stmt := meth 11 9
abbrev sFits : Stmt := meth 11 10
abbrev sAdd : Stmt := meth 11 11
abbrev sSub : Stmt := meth 11 12
abbrev sAnd : Stmt := meth 11 13
abbrev sOr : Stmt := meth 11 14
abbrev sMul : Stmt := meth 11 15
abbrev sCall : Stmt := meth 11 16
/-- a def's promise, ready to be called -/
def Ct (P : Program) (w : World) (K : PySem.W.Frag) (mg : Str → Option Value) (base : Heap) (k : Nat) (f : Addr) (ps : List Str) (sp : Sp) : Prop := ∃ fd, FnOk P w K mg base CX0 k f fd ps sp ∧ PySem.W.keepIn K (.ref f) = true ∧ Binds K fd ps []
theorem Ct.r {P : Program} {w : World} {K : PySem.W.Frag} {mg : Str → Option Value} {base : Heap} {k : Nat} {f : Addr} {ps : List Str} {sp : Sp} (c : Ct P w K mg base k f ps sp) : FnR P w K mg base CX0 k f sp := by
  obtain ⟨fd, F, _, b⟩ := c
  exact (F.raw b .nil).imp fun vs H Q E h => by rw [List.append_nil]; exact h
theorem am_map (ns : List Str) (f : Str → Int) (n : Str) : am (ns.map fun n => (n, f n)) n = if n ∈ ns then some (f n) else none := by
  induction ns with
  | nil => rfl
  | cons m r ih =>
    unfold am
    rw [List.map_cons, List.find?_cons]
    by_cases e : m = n
    · subst e
      simp
    · rw [decide_eq_false (show ¬ (m, f m).1 = n from e)]
      dsimp only
      rw [show (List.find? (fun p => decide (p.1 = n)) (r.map fun n => (n, f n))).map (·.2) = am (r.map fun n => (n, f n)) n from rfl, ih]
      simp [Ne.symm e]
theorem am_cn {l : Am} (hf : Fit l) (n : Str) : am (cn l) n = if 0 < am0 l n then some (am0 l n) else none := by
  unfold cn
  rw [am_map]
  simp only [mem_nms hf.nd]
theorem am0_nonneg {l : Am} (hf : Fit l) (n : Str) : 0 ≤ am0 l n := by
  unfold am0
  cases e : am l n with
  | none => exact Int.le_refl _
  | some v => exact (hf.ok _ (am_some e)).2
theorem am0_cn {l : Am} (hf : Fit l) (n : Str) : am0 (cn l) n = am0 l n := by
  have h := am0_nonneg hf n
  show (am (cn l) n).getD 0 = _
  rw [am_cn hf]
  split
  · rfl
  · show 0 = am0 l n
    omega
theorem wd_nms {l : Am} (hf : Fit l) {n : Str} (h : n ∈ nms l) : wd n = true := (hf.ok _ (am_some (am_pos ((mem_nms hf.nd).mp h)))).1
theorem nms_lt {l : Am} (hf : Fit l) : (nms l).length < 64 := Nat.lt_of_le_of_lt (nms_len l) hf.len
/-- more places -/
structure Bds where
  get : Addr
  has : Addr
  len : Addr
  eq : Addr
  str : Addr
  total : Addr
  names : Addr
  byName : Addr
  fits : Addr
  add : Addr
  sub : Addr
  and : Addr
  or : Addr
  mul : Addr
  call : Addr
/-- what isinstance asks of an instance of C -/
structure InsK (K : PySem.W.Frag) (C : Addr) : Prop where
  ha : PySem.W.findIn K (.ref C) "__class__" = some (some (.builtin "object.__class__"))
  hn : PySem.W.specialIn K (.builtin "object.__class__") "__get__" = some (some (.builtin "getset_descriptor.__get__"))
  htk : PySem.W.takesIn K (.builtin "object.__class__") = some true
  hm : PySem.W.mroIn K C (.type "object") = some true
  me : PySem.W.kitOne K (.ref C) (.ref C) = some true
structure Tsz (K : PySem.W.Frag) (mg : Str → Option Value) (a : Ads) (b : Bds) : Prop where
  z : Tz K mg a
  max : mg "max" = none
  min : mg "min" = none
  sum : mg "sum" = none
  list : mg "list" = none
  mkC : Mk K a.C a.init
  ins : InsK K a.C
  first : PySem.W.selfFirst K a.C = true
  get : OpC K a.C b.get "__getitem__"
  getIn : PySem.W.fnIn K b.get = true
  has : OpC K a.C b.has "__contains__"
  len : OpC K a.C b.len "__len__"
  eq : OpC K a.C b.eq "__eq__"
  str : OpC K a.C b.str "__str__"
  add : OpC K a.C b.add "__add__"
  sub : OpC K a.C b.sub "__sub__"
  and : OpC K a.C b.and "__and__"
  or : OpC K a.C b.or "__or__"
  mul : OpC K a.C b.mul "__mul__"
  names : Meth K a.C "names" b.names
  byName : Meth K a.C "by_name" b.byName
  fits : Meth K a.C "fits" b.fits
def spGet (K : PySem.W.Frag) (C : Addr) : Sp := fun vs H Q _ => ∃ (x : Addr) (l : Am) (y : V), vs = [.ref x, y] ∧ SzR C H x l ∧
  ((∃ n, y = .str n ∧ Q (.int (am0 l n)) H) ∨ ∃ t, TyX K H y t ∧ PySem.W.kitOne K t (.type "str") = some false ∧ Q (.int 0) H)
def spHas (K : PySem.W.Frag) (C : Addr) : Sp := fun vs H Q _ => ∃ (x : Addr) (l : Am) (y : V), vs = [.ref x, y] ∧ SzR C H x l ∧
  ((∃ n, y = .str n ∧ Q (.bl (decide (0 < am0 l n))) H) ∨ ∃ t, TyX K H y t ∧ PySem.W.kitOne K t (.type "str") = some false ∧ Q (.bl false) H)
def spLen (C : Addr) : Sp := fun vs H Q _ => ∃ (x : Addr) (l : Am), vs = [.ref x] ∧ SzAt C H x l ∧ Q (.int (nms l).length) H
def spTotal (C : Addr) : Sp := fun vs H Q _ => ∃ (x : Addr) (l : Am), vs = [.ref x] ∧ SzAt C H x l ∧ ∀ H', Same H H' → Q (.int ((cn l).map (·.2)).sum) H'
def spNames (C : Addr) : Sp := fun vs H Q _ => ∃ (x : Addr) (l : Am), vs = [.ref x] ∧ SzAt C H x l ∧ ∀ p, H p = none → Q (.ref p) (upd H p (.lst ((nms l).map V.str)))
def spByName (C : Addr) : Sp := fun vs H Q _ => ∃ (x : Addr) (l : Am), vs = [.ref x] ∧ SzAt C H x l ∧ ∀ H' p, Same H H' → H p = none → H' p = some (.dK (dsi (cn l))) → Q (.ref p) H'
section
variable {P : Program} {w : World} {K : PySem.W.Frag} {mg : Str → Option Value} {base : Heap} {a : Ads} {b : Bds}
theorem isIns {C x : Addr} {H : Hp} {l : Am} (h : SzAt C H x l) : IsI H C x := by
  obtain ⟨_, dx, _, _, h, _⟩ := h
  exact ⟨dx, _, h⟩
theorem isInsR {C x : Addr} {H : Hp} {l : Am} (h : SzR C H x l) : IsI H C x := by
  obtain ⟨_, dx, _, _, h, _⟩ := h
  exact ⟨dx, _, h⟩
theorem sz_ins {C x : Addr} {H : Hp} {l : Am} (h : SzAt C H x l) : ∃ dx fs, H x = some (.ins C dx fs) ∧ ∀ f : Str, f ≠ "_names" → f ≠ "_amounts" → fs.lookup f = none := by
  obtain ⟨_, dx, nl, dl, h, _⟩ := h
  refine ⟨dx, _, h, fun f h1 h2 => ?_⟩
  rw [lookup_put, if_neg h1, lookup_put, if_neg h2]
  rfl
theorem scG : FnScope ["self", "at"] ["self", "at"] (defScope sGet) := ⟨rfl, rfl, rfl, by decide +kernel, rfl, by decide +kernel, by decide +kernel⟩
theorem ok_get {fd : FuncData} (F : Fun K "__getitem__" "Sizes.__getitem__" sGet b.get fd) (T : Tsz K mg a b) : FnOk P w K mg base CX0 1 b.get fd ["self", "at"] (spGet K a.C) := by
  refine F.ok scG (fun vs H Q E h => ?_) (fun cdv A outer s H vs Q E hr h => ?_)
  · obtain ⟨x, l, y, rfl, _⟩ := h
    rfl
  · obtain ⟨x, l, y, rfl, hs, h⟩ := h
    obtain ⟨hf, dx, nl, dl, hx, hd⟩ := hs
    have hu := hu_of hr
    refine ⟨_, pss_cons (ps_if (pt_not (pt_val (pe_callB call_isi (by rfl) T.z.isinstance (by decide +kernel) (pa_cons (pv 1) (pa_cons (pe_bltn (by rfl) T.z.str (by decide +kernel) (v := .ty "str") rfl) pa_nil))))) (pss_one (ps_ret pe_int)) pss_nil)
      (pss_one (ps_ret (pe_dget2 hu (pe_fld (pv 0) rfl) (pv 1) pe_int ⟨rfl, rfl, rfl, rfl⟩))), ?_⟩
    rcases h with ⟨n, rfl, q⟩ | ⟨t, ty, kt, q⟩
    · refine ⟨_, rfl, _, _, _, _, true, rfl, .ty _, .base (.str n), T.z.kStrStr, true, rfl, iteF ?_⟩
      refine ⟨_, rfl, x, a.C, dx, _, .ref dl, rfl, hx, T.z.cls, T.z.nA, rfl, dl, rfl, .inl ⟨_, hd⟩, _, rfl, _, .inl ⟨dsi (cn l), .inr n, hd, rfl, rfl⟩, ?_⟩
      have e : (valV (dsi (cn l)) (.inr n)).getD (.int 0) = .int (am0 l n) := by
        rw [valV_dsi, ← am0_cn hf n]
        unfold am0
        cases am (cn l) n <;> rfl
      rw [e]
      exact q
    · exact ⟨_, rfl, _, _, _, _, false, rfl, .ty _, ty, kt, false, rfl, iteT q⟩
theorem ct_get {fd : FuncData} (F : Fun K "__getitem__" "Sizes.__getitem__" sGet b.get fd) (B : Binds K fd ["self", "at"] []) (T : Tsz K mg a b) : Ct P w K mg base 1 b.get ["self", "at"] (spGet K a.C) := ⟨fd, ok_get F T, F.kp, B⟩
theorem scH : FnScope ["self", "x"] ["self", "x"] (defScope sHas) := ⟨rfl, rfl, rfl, by decide +kernel, rfl, by decide +kernel, by decide +kernel⟩
theorem ok_has {fd : FuncData} (F : Fun K "__contains__" "Sizes.__contains__" sHas b.has fd) (T : Tsz K mg a b) (G : Ct P w K mg base 1 b.get ["self", "at"] (spGet K a.C)) : FnOk P w K mg base CX0 3 b.has fd ["self", "x"] (spHas K a.C) := by
  refine F.ok scH (fun vs H Q E h => ?_) (fun cdv A outer s H vs Q E hr h => ?_)
  · obtain ⟨x, l, y, rfl, _⟩ := h
    rfl
  · obtain ⟨x, l, y, rfl, hs, h⟩ := h
    refine ⟨_, pss_one (ps_ret (pe_cmpR op_gt (pe_ixO (C := a.C) G.r hr pass0 T.get T.getIn (pv 0) (pv 1)) pe_int (nomark _))), ?_⟩
    refine ⟨_, rfl, _, rfl, x, rfl, isInsR hs, x, l, y, rfl, hs, ?_⟩
    rcases h with ⟨n, rfl, q⟩ | ⟨t, ty, kt, q⟩
    · exact .inl ⟨n, rfl, _, _, rfl, rfl, q⟩
    · exact .inr ⟨t, ty, kt, _, _, rfl, rfl, q⟩
theorem scL1 : FnScope ["self"] ["self"] (defScope sLen) := ⟨rfl, rfl, rfl, by decide +kernel, rfl, by decide +kernel, by decide +kernel⟩
theorem ok_len {fd : FuncData} (F : Fun K "__len__" "Sizes.__len__" sLen b.len fd) (T : Tsz K mg a b) : FnOk P w K mg base CX0 1 b.len fd ["self"] (spLen a.C) := by
  refine F.ok scL1 (fun vs H Q E h => ?_) (fun cdv A outer s H vs Q E hr h => ?_)
  · obtain ⟨x, l, rfl, _⟩ := h
    rfl
  · obtain ⟨x, l, rfl, ⟨hf, dx, nl, dl, hx, hn, hd⟩, q⟩ := h
    refine ⟨_, pss_one (ps_ret (pe_callB call_len_seq (by rfl) T.z.bi.len PySem.boot_len (pa_cons (pe_fld (pv 0) rfl) pa_nil))), ?_⟩
    refine ⟨_, rfl, x, a.C, dx, _, .ref nl, rfl, hx, T.z.cls, T.z.nN, rfl, nl, _, rfl, .inl (SqL.of hn), ?_⟩
    rw [List.length_map]
    exact q
theorem scT : FnScope ["self"] ["self"] (defScope sTotal) := ⟨rfl, rfl, rfl, by decide +kernel, rfl, by decide +kernel, by decide +kernel⟩
theorem ok_total {fd : FuncData} (F : Fun K "total" "Sizes.total" sTotal b.total fd) (T : Tsz K mg a b) : FnOk P w K mg base CX0 1 b.total fd ["self"] (spTotal a.C) := by
  refine F.ok scT (fun vs H Q E h => ?_) (fun cdv A outer s H vs Q E hr h => ?_)
  · obtain ⟨x, l, rfl, _⟩ := h
    rfl
  · obtain ⟨x, l, rfl, ⟨hf, dx, nl, dl, hx, hn, hd⟩, q⟩ := h
    refine ⟨_, pss_one (ps_ret (pe_callB (id := "sum") (cr_sum rfl) (by rfl) T.sum (by decide +kernel) (pa_cons (pe_listVals rfl (pe_fld (pv 0) rfl) (by rfl) T.list) pa_nil))), ?_⟩
    refine ⟨_, rfl, x, a.C, dx, _, .ref dl, rfl, hx, T.z.cls, T.z.nA, rfl, dl, _, rfl, hd, fun p hp => ?_⟩
    have e : (dsi (cn l)).map Prod.snd = ((cn l).map (·.2)).map V.int := by
      unfold dsi
      rw [List.map_map, List.map_map]
      rfl
    rw [e]
    exact ⟨p, _, rfl, SqL.of upd_same, q _ (same_new hp)⟩
theorem scN : FnScope ["self"] ["self"] (defScope sNames) := ⟨rfl, rfl, rfl, by decide +kernel, rfl, by decide +kernel, by decide +kernel⟩
theorem ok_names {fd : FuncData} (F : Fun K "names" "Sizes.names" sNames b.names fd) (T : Tsz K mg a b) : FnOk P w K mg base CX0 1 b.names fd ["self"] (spNames a.C) := by
  refine F.ok scN (fun vs H Q E h => ?_) (fun cdv A outer s H vs Q E hr h => ?_)
  · obtain ⟨x, l, rfl, _⟩ := h
    rfl
  · obtain ⟨x, l, rfl, ⟨hf, dx, nl, dl, hx, hn, hd⟩, q⟩ := h
    refine ⟨_, pss_one (ps_ret (pe_callTy call_list_of (by rfl) T.list (by decide +kernel) (pa_cons (pe_fld (pv 0) rfl) pa_nil))), ?_⟩
    exact ⟨_, rfl, x, a.C, dx, _, .ref nl, rfl, hx, T.z.cls, T.z.nN, rfl, nl, _, rfl, .inl (SqL.of hn), q⟩
theorem scB1 : FnScope ["self", "name"] ["self"] (defScope sByName) := ⟨rfl, rfl, rfl, by decide +kernel, rfl, by decide +kernel, by decide +kernel⟩
theorem ok_byName {fd : FuncData} (F : Fun K "by_name" "Sizes.by_name" sByName b.byName fd) (T : Tsz K mg a b) : FnOk P w K mg base CX0 1 b.byName fd ["self"] (spByName a.C) := by
  refine F.ok scB1 (fun vs H Q E h => ?_) (fun cdv A outer s H vs Q E hr h => ?_)
  · obtain ⟨x, l, rfl, _⟩ := h
    rfl
  · obtain ⟨x, l, rfl, ⟨hf, dx, nl, dl, hx, hn, hd⟩, q⟩ := h
    have hu := hu_of hr
    refine ⟨_, pss_one (ps_ret (pe_dc (own := [("name", 1)]) (g := gName 1) (tt := tYes) (tv := tDGet (tFld K (tVar 0) "_amounts") (tVar 1)) rfl scB1.nd (pi_list (pe_fld (pv 0) rfl)) (blkOk_by (N := ["self", "name"]) (sc := (defScope sByName)) (by decide +kernel))
        (fun _ _ _ _ _ => pg_name (i := 1) scB1.nd rfl (Or.inl rfl)) (fun _ _ _ _ _ => pts_nil) (fun _ _ _ _ _ => pv 1) (fun _ _ _ _ _ => pe_dget hu (pe_fld (pv 0) (by rfl)) (pv 1) (fun _ _ => rfl)))), ?_⟩
    refine ⟨_, rfl, x, a.C, dx, _, .ref nl, rfl, hx, T.z.cls, T.z.nN, rfl, nl, rfl, ⟨_, SqL.of hn⟩, fun D hD => ?_⟩
    refine dc_names (fun n => am0 l n) (SqL.of hn) hD (fun v => rfl) (fun v => rfl) ?_ ?_ ?_
    · have := nms_lt hf
      rw [sizeLine_eq]
      omega
    · intro n hn' H1 Q1 s1 q1
      have hp := (mem_nms hf.nd).mp hn'
      refine ⟨_, rfl, x, a.C, dx, _, .ref dl, rfl, s1 _ _ hx, T.z.cls, T.z.nA, rfl, _, rfl, dl, .int (am0 l n), rfl, dget_am (.inl (s1 _ _ hd)) ?_, q1 _ same_refl⟩
      rw [am_cn hf, if_pos hp]
    · intro H1 s1 e1
      have e : by_ (nms l) (fun n => am0 l n) = cn l := by
        unfold by_ cn
        rw [dd_of_nodup (nms_nodup hf.nd)]
      rw [e] at e1
      exact q _ _ s1 hD e1
end
end Lp

set_option Elab.async false
set_option linter.all false
set_option maxRecDepth 100000
set_option maxHeartbeats 8000000
namespace Lp
open PySem PySem.Spec PyProof.Rows L2
theorem am0_by (ns : List Str) (f : Str → Int) (n : Str) : am0 (by_ ns f) n = if n ∈ ns then f n else 0 := by
  unfold am0
  rw [am_by]
  split <;> rfl
theorem fit_by {ns : List Str} {f : Str → Int} (h1 : ∀ n ∈ ns, wd n = true) (h2 : ∀ n ∈ ns, 0 ≤ f n) (h3 : ns.length < 64) : Fit (by_ ns f) := by
  refine ⟨by rw [by_keys]; exact dd_nodup ns, fun p hp => ?_, Nat.lt_of_le_of_lt (by_len ns f) h3⟩
  obtain ⟨n, hn, rfl⟩ := List.mem_map.mp hp
  have hn' := mem_dd.mp hn
  exact ⟨h1 n hn', h2 n hn'⟩
theorem am0_out {l : Am} (hf : Fit l) {n : Str} (h : n ∉ nms l) : am0 l n = 0 := by
  have h1 := am0_nonneg hf n
  have h2 : ¬ 0 < am0 l n := fun z => h ((mem_nms hf.nd).mpr z)
  omega
/-- of two sizes -/
def spBin (C : Addr) (f : Int → Int → Int) : Sp := fun vs H Q _ => ∃ (x y : Addr) (l m : Am), vs = [.ref x, .ref y] ∧ SzAt C H x l ∧ SzAt C H y m ∧ (nms l).length + (nms m).length < 64 ∧
  ∀ H' p l', Same H H' → H p = none → Fit l' → (∀ n, am0 l' n = f (am0 l n) (am0 m n)) → SzAt C H' p l' → Q (.ref p) H'
def spMul (C : Addr) : Sp := fun vs H Q _ => ∃ (x : Addr) (l : Am) (k : Int), vs = [.ref x, .int k] ∧ SzAt C H x l ∧ 0 ≤ k ∧ k < 2 ^ 64 ∧
  ∀ H' p l', Same H H' → H p = none → Fit l' → (∀ n, am0 l' n = am0 l n * k) → SzAt C H' p l' → Q (.ref p) H'
def spFits (C : Addr) : Sp := fun vs H Q _ => ∃ (x y : Addr) (l m : Am), vs = [.ref x, .ref y] ∧ SzAt C H x l ∧ SzAt C H y m ∧
  ∀ H', Same H H' → Q (.bl ((nms l).all fun n => decide (am0 l n ≤ am0 m n))) H'
section
variable {P : Program} {w : World} {K : PySem.W.Frag} {mg : Str → Option Value} {base : Heap} {a : Ads} {b : Bds}
theorem ty_ins (T : Tsz K mg a b) {H : Hp} {x : Addr} {l : Am} (h : SzAt a.C H x l) : TyX K H (.ref x) (.ref a.C) := by
  obtain ⟨_, dx, nl, dl, hx, _⟩ := h
  exact .base (.ins hx T.z.cls T.ins.ha T.ins.hn T.ins.htk T.ins.hm)
/-- behind the making of sizes -/
theorem made_same {H H1 H' : Hp} {x dx : Addr} {u v : HO} (s : Same H H1) (nx : H1 x = none) (ndx : H1 dx = none) (k : ∀ b o, b ≠ x → (upd (upd H1 dx u) x v) b = some o → H' b = some o) : Same H H' := same_tr s (same_make nx ndx k)

theorem scAd : FnScope ["self", "other", "names", "name"] ["self", "other"] (defScope sAdd) := ⟨rfl, rfl, rfl, by decide +kernel, rfl, by decide +kernel, by decide +kernel⟩
theorem ok_add {fd : FuncData} (F : Fun K "__add__" "Sizes.__add__" sAdd b.add fd) (T : Tsz K mg a b) (Gi0 : Ct P w K mg base 4 a.init ["self", "amounts"] (spInit a.C)) (G1 : Ct P w K mg base 1 b.get ["self", "at"] (spGet K a.C)) (G2 : Ct P w K mg base 1 b.names ["self"] (spNames a.C)) : FnOk P w K mg base CX0 6 b.add fd ["self", "other"] (spBin a.C (fun i j => i + j)) := by
  refine F.ok scAd (fun vs H Q E h => ?_) (fun cdv A outer s H vs Q E hr h => ?_)
  · obtain ⟨x, y, l, m, rfl, _⟩ := h
    rfl
  · obtain ⟨x, y, l, m, rfl, hx, hy, h64, q⟩ := h
    obtain ⟨fdn, Gn, kn, bn⟩ := G2
    obtain ⟨fdi, Gi, _, bi_⟩ := Gi0
    have hr5 : Room (4 + 1) (A.deeper (envOfC "Sizes.__add__" (defScope sAdd) s.heap.objs.size b.add cdv)) := hr
    have hr2 : Room (1 + 1) (A.deeper (envOfC "Sizes.__add__" (defScope sAdd) s.heap.objs.size b.add cdv)) := hr.mono (by decide)
    have hr1 : Room 1 (A.deeper (envOfC "Sizes.__add__" (defScope sAdd) s.heap.objs.size b.add cdv)) := hr.mono (by decide)
    refine ⟨_, (pss_cons (ps_if (pt_not (pt_val (pe_callB call_isi (by rfl) T.z.isinstance (by decide +kernel) (pa_cons (pv 1) (pa_cons (pe_glob (by rfl) T.z.mC (v := .ref a.C) rfl) pa_nil))))) pss_dead pss_nil)
      (pss_cons (ps_set (i := 2) scAd.nd rfl (Or.inl rfl) (pe_op op_cat (pe_meth0 (pv 0) T.z.cls T.names Gn hr1 bn .nil pass0) (pe_meth0 (pv 1) T.z.cls T.names Gn hr1 bn .nil pass0)))
      (pss_one (ps_ret (pe_make T.mkC Gi hr5 (by rfl) T.z.mC bi_ .nil pass0 (pa_cons (pe_dc (own := [("name", 3)]) (g := gName 3) (tt := tYes) (tk := tVar 3) (tv := (tOp (rI0 fun i j => .int (i + j)) (tOp (rOwnIx a.C (spGet K a.C) E0) (tVar 0) (tVar 3)) (tOp (rOwnIx a.C (spGet K a.C) E0) (tVar 1) (tVar 3)))) rfl scAd.nd (pi_list (pv 2)) (blkOk_by (N := ["self", "other", "names", "name"]) (sc := (defScope sAdd)) (by decide +kernel))
        (fun _ _ _ _ _ => pg_name (i := 3) scAd.nd rfl (Or.inl rfl)) (fun _ _ _ _ _ => pts_nil) (fun _ _ _ _ _ => pv 3) (fun _ _ _ _ _ => pe_op op_add (pe_ixO (C := a.C) G1.r hr2 pass0 T.get T.getIn (pv 0) (pv 3)) (pe_ixO (C := a.C) G1.r hr2 pass0 T.get T.getIn (pv 1) (pv 3)))) pa_nil)))))), ?_⟩
    refine ⟨_, rfl, _, _, _, _, true, rfl, .own _, ty_ins T hy, T.ins.me, true, rfl, iteF ?_⟩
    obtain ⟨dx, fx, ex, lx⟩ := sz_ins hx
    obtain ⟨dy, fy, ey, ly⟩ := sz_ins hy
    refine ⟨_, rfl, x, dx, fx, rfl, ex, lx "names" (by decide) (by decide), x, l, rfl, hx, fun p1 n1 => ?_⟩
    have s1 : Same H (upd H p1 (.lst ((nms l).map V.str))) := same_new n1
    refine ⟨_, rfl, y, dy, fy, rfl, s1 _ _ ey, ly "names" (by decide) (by decide), y, m, rfl, hy.same s1, fun p2 n2 => ?_⟩
    have s2 := same_upd (o := .lst ((nms m).map V.str)) s1 n2
    have e1 : (upd (upd H p1 (.lst ((nms l).map V.str))) p2 (.lst ((nms m).map V.str))) p1 = some (.lst ((nms l).map V.str)) := keep upd_same n2
    refine ⟨p1, p2, _, _, rfl, rfl, e1, upd_same, ?_, fun p3 n3 => ?_⟩
    · rw [List.length_map, List.length_map, sizeLine_eq]
      omega
    have s3 := same_upd (o := .lst ((nms l).map V.str ++ (nms m).map V.str)) s2 n3
    have e3 : (upd (upd (upd H p1 (.lst ((nms l).map V.str))) p2 (.lst ((nms m).map V.str))) p3 (.lst ((nms l).map V.str ++ (nms m).map V.str))) p3 = some (.lst ((nms l ++ nms m).map V.str)) := by rw [upd_same, List.map_append]
    generalize (upd (upd (upd H p1 (.lst ((nms l).map V.str))) p2 (.lst ((nms m).map V.str))) p3 (.lst ((nms l).map V.str ++ (nms m).map V.str))) = H3 at s3 e3 ⊢
    refine ⟨_, rfl, p3, rfl, ⟨_, SqL.of e3⟩, fun D hD => ?_⟩
    refine dc_names (fun n => am0 l n + am0 m n) (SqL.of e3) hD (fun v => rfl) (fun v => rfl) ?_ ?_ ?_
    · rw [List.length_append, sizeLine_eq]
      omega
    · intro n hn H4 Q4 s4 q4
      have hx4 := hx.same (same_tr s3 s4)
      have hy4 := hy.same (same_tr s3 s4)
      exact ⟨_, rfl, _, rfl, x, rfl, isIns hx4, x, l, _, rfl, hx4.r, .inl ⟨n, rfl, _, rfl, _, rfl, y, rfl, isIns hy4, y, m, _, rfl, hy4.r, .inl ⟨n, rfl, _, _, rfl, rfl, q4 _ same_refl⟩⟩⟩
    · intro H5 s5 e5
      have hw : ∀ n ∈ nms l ++ nms m, wd n = true := fun n hn => by
        rcases List.mem_append.mp hn with h | h
        · exact wd_nms hx.1 h
        · exact wd_nms hy.1 h
      have hfit : Fit (by_ (nms l ++ nms m) fun n => am0 l n + am0 m n) := fit_by hw (fun n _ => by
        have h1 := am0_nonneg hx.1 n
        have h2 := am0_nonneg hy.1 n
        omega) (by rw [List.length_append]; exact h64)
      intro p dp np ndp nep
      have ne : D ≠ p := ne_of_none e5 np
      refine ⟨p, D, dp, _, rfl, upd_same, keep (keep e5 ndp) (by rw [upd_ne nep.symm]; exact np), hfit, fun H6 k6 z6' => ⟨rfl, ?_⟩⟩
      have z6 := z6'.at
      refine q _ _ _ (made_same (same_tr s3 s5) np ndp k6) ((same_tr s3 s5).free np) hfit (fun n => ?_) z6
      rw [am0_by]
      split
      · rfl
      · rename_i h
        rw [List.mem_append, not_or] at h
        rw [am0_out hx.1 h.1, am0_out hy.1 h.2]
        rfl

theorem scOr : FnScope ["self", "other", "names", "name"] ["self", "other"] (defScope sOr) := ⟨rfl, rfl, rfl, by decide +kernel, rfl, by decide +kernel, by decide +kernel⟩
theorem ok_or {fd : FuncData} (F : Fun K "__or__" "Sizes.__or__" sOr b.or fd) (T : Tsz K mg a b) (Gi0 : Ct P w K mg base 4 a.init ["self", "amounts"] (spInit a.C)) (G1 : Ct P w K mg base 1 b.get ["self", "at"] (spGet K a.C)) (G2 : Ct P w K mg base 1 b.names ["self"] (spNames a.C)) : FnOk P w K mg base CX0 6 b.or fd ["self", "other"] (spBin a.C (fun i j => if j > i then j else i)) := by
  refine F.ok scOr (fun vs H Q E h => ?_) (fun cdv A outer s H vs Q E hr h => ?_)
  · obtain ⟨x, y, l, m, rfl, _⟩ := h
    rfl
  · obtain ⟨x, y, l, m, rfl, hx, hy, h64, q⟩ := h
    obtain ⟨fdn, Gn, kn, bn⟩ := G2
    obtain ⟨fdi, Gi, _, bi_⟩ := Gi0
    have hr5 : Room (4 + 1) (A.deeper (envOfC "Sizes.__or__" (defScope sOr) s.heap.objs.size b.or cdv)) := hr
    have hr2 : Room (1 + 1) (A.deeper (envOfC "Sizes.__or__" (defScope sOr) s.heap.objs.size b.or cdv)) := hr.mono (by decide)
    have hr1 : Room 1 (A.deeper (envOfC "Sizes.__or__" (defScope sOr) s.heap.objs.size b.or cdv)) := hr.mono (by decide)
    refine ⟨_, (pss_cons (ps_if (pt_not (pt_val (pe_callB call_isi (by rfl) T.z.isinstance (by decide +kernel) (pa_cons (pv 1) (pa_cons (pe_glob (by rfl) T.z.mC (v := .ref a.C) rfl) pa_nil))))) pss_dead pss_nil)
      (pss_cons (ps_set (i := 2) scOr.nd rfl (Or.inl rfl) (pe_op op_cat (pe_meth0 (pv 0) T.z.cls T.names Gn hr1 bn .nil pass0) (pe_meth0 (pv 1) T.z.cls T.names Gn hr1 bn .nil pass0)))
      (pss_one (ps_ret (pe_make T.mkC Gi hr5 (by rfl) T.z.mC bi_ .nil pass0 (pa_cons (pe_dc (own := [("name", 3)]) (g := gName 3) (tt := tYes) (tk := tVar 3) (tv := (tCB (fun xs H Q => ∃ i j, xs = [V.int i, V.int j] ∧ Q (.int (if j > i then j else i)) H) (tCons (tOp (rOwnIx a.C (spGet K a.C) E0) (tVar 0) (tVar 3)) (tCons (tOp (rOwnIx a.C (spGet K a.C) E0) (tVar 1) (tVar 3)) tNil)))) rfl scOr.nd (pi_list (pv 2)) (blkOk_by (N := ["self", "other", "names", "name"]) (sc := (defScope sOr)) (by decide +kernel))
        (fun _ _ _ _ _ => pg_name (i := 3) scOr.nd rfl (Or.inl rfl)) (fun _ _ _ _ _ => pts_nil) (fun _ _ _ _ _ => pv 3) (fun _ _ _ _ _ => pe_callB (id := "max") (call_max2 rfl) (by rfl) T.max (by decide +kernel) (pa_cons (pe_ixO (C := a.C) G1.r hr2 pass0 T.get T.getIn (pv 0) (pv 3)) (pa_cons (pe_ixO (C := a.C) G1.r hr2 pass0 T.get T.getIn (pv 1) (pv 3)) pa_nil)))) pa_nil)))))), ?_⟩
    refine ⟨_, rfl, _, _, _, _, true, rfl, .own _, ty_ins T hy, T.ins.me, true, rfl, iteF ?_⟩
    obtain ⟨dx, fx, ex, lx⟩ := sz_ins hx
    obtain ⟨dy, fy, ey, ly⟩ := sz_ins hy
    refine ⟨_, rfl, x, dx, fx, rfl, ex, lx "names" (by decide) (by decide), x, l, rfl, hx, fun p1 n1 => ?_⟩
    have s1 : Same H (upd H p1 (.lst ((nms l).map V.str))) := same_new n1
    refine ⟨_, rfl, y, dy, fy, rfl, s1 _ _ ey, ly "names" (by decide) (by decide), y, m, rfl, hy.same s1, fun p2 n2 => ?_⟩
    have s2 := same_upd (o := .lst ((nms m).map V.str)) s1 n2
    have e1 : (upd (upd H p1 (.lst ((nms l).map V.str))) p2 (.lst ((nms m).map V.str))) p1 = some (.lst ((nms l).map V.str)) := keep upd_same n2
    refine ⟨p1, p2, _, _, rfl, rfl, e1, upd_same, ?_, fun p3 n3 => ?_⟩
    · rw [List.length_map, List.length_map, sizeLine_eq]
      omega
    have s3 := same_upd (o := .lst ((nms l).map V.str ++ (nms m).map V.str)) s2 n3
    have e3 : (upd (upd (upd H p1 (.lst ((nms l).map V.str))) p2 (.lst ((nms m).map V.str))) p3 (.lst ((nms l).map V.str ++ (nms m).map V.str))) p3 = some (.lst ((nms l ++ nms m).map V.str)) := by rw [upd_same, List.map_append]
    generalize (upd (upd (upd H p1 (.lst ((nms l).map V.str))) p2 (.lst ((nms m).map V.str))) p3 (.lst ((nms l).map V.str ++ (nms m).map V.str))) = H3 at s3 e3 ⊢
    refine ⟨_, rfl, p3, rfl, ⟨_, SqL.of e3⟩, fun D hD => ?_⟩
    refine dc_names (fun n => if am0 m n > am0 l n then am0 m n else am0 l n) (SqL.of e3) hD (fun v => rfl) (fun v => rfl) ?_ ?_ ?_
    · rw [List.length_append, sizeLine_eq]
      omega
    · intro n hn H4 Q4 s4 q4
      have hx4 := hx.same (same_tr s3 s4)
      have hy4 := hy.same (same_tr s3 s4)
      exact ⟨_, rfl, _, rfl, x, rfl, isIns hx4, x, l, _, rfl, hx4.r, .inl ⟨n, rfl, _, rfl, _, rfl, y, rfl, isIns hy4, y, m, _, rfl, hy4.r, .inl ⟨n, rfl, _, _, rfl, q4 _ same_refl⟩⟩⟩
    · intro H5 s5 e5
      have hw : ∀ n ∈ nms l ++ nms m, wd n = true := fun n hn => by
        rcases List.mem_append.mp hn with h | h
        · exact wd_nms hx.1 h
        · exact wd_nms hy.1 h
      have hfit : Fit (by_ (nms l ++ nms m) fun n => if am0 m n > am0 l n then am0 m n else am0 l n) := fit_by hw (fun n _ => by
        have h1 := am0_nonneg hx.1 n
        have h2 := am0_nonneg hy.1 n
        split <;> assumption) (by rw [List.length_append]; exact h64)
      intro p dp np ndp nep
      have ne : D ≠ p := ne_of_none e5 np
      refine ⟨p, D, dp, _, rfl, upd_same, keep (keep e5 ndp) (by rw [upd_ne nep.symm]; exact np), hfit, fun H6 k6 z6' => ⟨rfl, ?_⟩⟩
      have z6 := z6'.at
      refine q _ _ _ (made_same (same_tr s3 s5) np ndp k6) ((same_tr s3 s5).free np) hfit (fun n => ?_) z6
      rw [am0_by]
      split
      · rfl
      · rename_i h
        rw [List.mem_append, not_or] at h
        rw [am0_out hx.1 h.1, am0_out hy.1 h.2]
        rfl

end
end Lp

set_option Elab.async false
set_option linter.all false
set_option maxRecDepth 100000
set_option maxHeartbeats 8000000
namespace Lp
open PySem PySem.Spec PyProof.Rows L2
section
variable {P : Program} {w : World} {K : PySem.W.Frag} {mg : Str → Option Value} {base : Heap} {a : Ads} {b : Bds}

theorem scAn : FnScope ["self", "other", "name"] ["self", "other"] (defScope sAnd) := ⟨rfl, rfl, rfl, by decide +kernel, rfl, by decide +kernel, by decide +kernel⟩
theorem ok_and {fd : FuncData} (F : Fun K "__and__" "Sizes.__and__" sAnd b.and fd) (T : Tsz K mg a b) (Gi0 : Ct P w K mg base 4 a.init ["self", "amounts"] (spInit a.C)) (G1 : Ct P w K mg base 1 b.get ["self", "at"] (spGet K a.C)) : FnOk P w K mg base CX0 6 b.and fd ["self", "other"] (spBin a.C (fun i j => if j < i then j else i)) := by
  refine F.ok scAn (fun vs H Q E h => ?_) (fun cdv A outer s H vs Q E hr h => ?_)
  · obtain ⟨x, y, l, m, rfl, _⟩ := h
    rfl
  · obtain ⟨x, y, l, m, rfl, hx, hy, h64, q⟩ := h
    obtain ⟨fdi, Gi, _, bi_⟩ := Gi0
    have hr5 : Room (4 + 1) (A.deeper (envOfC "Sizes.__and__" (defScope sAnd) s.heap.objs.size b.and cdv)) := hr
    have hr2 : Room (1 + 1) (A.deeper (envOfC "Sizes.__and__" (defScope sAnd) s.heap.objs.size b.and cdv)) := hr.mono (by decide)
    have hr1 : Room 1 (A.deeper (envOfC "Sizes.__and__" (defScope sAnd) s.heap.objs.size b.and cdv)) := hr.mono (by decide)
    refine ⟨_, (pss_cons (ps_if (pt_not (pt_val (pe_callB call_isi (by rfl) T.z.isinstance (by decide +kernel) (pa_cons (pv 1) (pa_cons (pe_glob (by rfl) T.z.mC (v := .ref a.C) rfl) pa_nil))))) pss_dead pss_nil)
      (pss_one (ps_ret (pe_make T.mkC Gi hr5 (by rfl) T.z.mC bi_ .nil pass0 (pa_cons (pe_dc (own := [("name", 2)]) (g := gName 2) (tt := tYes) (tk := tVar 2) (tv := (tCB (fun xs H Q => ∃ i j, xs = [V.int i, V.int j] ∧ Q (.int (if j < i then j else i)) H) (tCons (tOp (rOwnIx a.C (spGet K a.C) E0) (tVar 0) (tVar 2)) (tCons (tOp (rOwnIx a.C (spGet K a.C) E0) (tVar 1) (tVar 2)) tNil)))) rfl scAn.nd (pi_list (pe_fld (pv 0) rfl)) (blkOk_by (N := ["self", "other", "name"]) (sc := (defScope sAnd)) (by decide +kernel))
        (fun _ _ _ _ _ => pg_name (i := 2) scAn.nd rfl (Or.inl rfl)) (fun _ _ _ _ _ => pts_nil) (fun _ _ _ _ _ => pv 2) (fun _ _ _ _ _ => pe_callB (id := "min") (call_min2 rfl) (by rfl) T.min (by decide +kernel) (pa_cons (pe_ixO (C := a.C) G1.r hr2 pass0 T.get T.getIn (pv 0) (pv 2)) (pa_cons (pe_ixO (C := a.C) G1.r hr2 pass0 T.get T.getIn (pv 1) (pv 2)) pa_nil)))) pa_nil))))), ?_⟩
    refine ⟨_, rfl, _, _, _, _, true, rfl, .own _, ty_ins T hy, T.ins.me, true, rfl, iteF ?_⟩
    obtain ⟨hf, dx, nl, dl, ex, en, ed⟩ := id hx
    refine ⟨_, rfl, x, a.C, dx, _, .ref nl, rfl, ex, T.z.cls, T.z.nN, rfl, nl, rfl, ⟨_, SqL.of en⟩, fun D hD => ?_⟩
    refine dc_names (fun n => if am0 m n < am0 l n then am0 m n else am0 l n) (SqL.of en) hD (fun v => rfl) (fun v => rfl) ?_ ?_ ?_
    · rw [sizeLine_eq]
      omega
    · intro n hn H4 Q4 s4 q4
      have hx4 := hx.same s4
      have hy4 := hy.same s4
      exact ⟨_, rfl, _, rfl, x, rfl, isIns hx4, x, l, _, rfl, hx4.r, .inl ⟨n, rfl, _, rfl, _, rfl, y, rfl, isIns hy4, y, m, _, rfl, hy4.r, .inl ⟨n, rfl, _, _, rfl, q4 _ same_refl⟩⟩⟩
    · intro H5 s5 e5
      have hfit : Fit (by_ (nms l) fun n => if am0 m n < am0 l n then am0 m n else am0 l n) := fit_by (fun n hn => wd_nms hf hn) (fun n _ => by
        have h1 := am0_nonneg hx.1 n
        have h2 := am0_nonneg hy.1 n
        split <;> assumption) (by omega)
      intro p dp np ndp nep
      have ne : D ≠ p := ne_of_none e5 np
      refine ⟨p, D, dp, _, rfl, upd_same, keep (keep e5 ndp) (by rw [upd_ne nep.symm]; exact np), hfit, fun H6 k6 z6' => ⟨rfl, ?_⟩⟩
      have z6 := z6'.at
      refine q _ _ _ (made_same s5 np ndp k6) (s5.free np) hfit (fun n => ?_) z6
      rw [am0_by]
      split
      · rfl
      · rename_i h
        have h2 := am0_nonneg hy.1 n
        rw [am0_out hx.1 h]
        show 0 = if am0 m n < 0 then am0 m n else 0
        rw [if_neg (by omega)]

theorem scMu : FnScope ["self", "other", "name"] ["self", "other"] (defScope sMul) := ⟨rfl, rfl, rfl, by decide +kernel, rfl, by decide +kernel, by decide +kernel⟩
theorem ok_mul {fd : FuncData} (F : Fun K "__mul__" "Sizes.__mul__" sMul b.mul fd) (T : Tsz K mg a b) (Gi0 : Ct P w K mg base 4 a.init ["self", "amounts"] (spInit a.C)) (G1 : Ct P w K mg base 1 b.get ["self", "at"] (spGet K a.C)) (G3 : Ct P w K mg base 2 a.amt ["thing"] spAmt) : FnOk P w K mg base CX0 6 b.mul fd ["self", "other"] (spMul a.C) := by
  refine F.ok scMu (fun vs H Q E h => ?_) (fun cdv A outer s H vs Q E hr h => ?_)
  · obtain ⟨x, l, k, rfl, _⟩ := h
    rfl
  · obtain ⟨x, l, k, rfl, hx, k0, k64, q⟩ := h
    obtain ⟨fda, Ga, ka, ba⟩ := G3
    obtain ⟨fdi, Gi, _, bi_⟩ := Gi0
    have hr5 : Room (4 + 1) (A.deeper (envOfC "Sizes.__mul__" (defScope sMul) s.heap.objs.size b.mul cdv)) := hr
    have hr2 : Room (1 + 1) (A.deeper (envOfC "Sizes.__mul__" (defScope sMul) s.heap.objs.size b.mul cdv)) := hr.mono (by decide)
    have hr1 : Room 1 (A.deeper (envOfC "Sizes.__mul__" (defScope sMul) s.heap.objs.size b.mul cdv)) := hr.mono (by decide)
    refine ⟨_, (pss_cons (ps_if (pt_not (pt_val (pe_call Ga hr2 (by rfl) T.z.mAmt ka ba .nil pass0 (pa_cons (pv 1) pa_nil)))) pss_dead pss_nil)
      (pss_one (ps_ret (pe_make T.mkC Gi hr5 (by rfl) T.z.mC bi_ .nil pass0 (pa_cons (pe_dc (own := [("name", 2)]) (g := gName 2) (tt := tYes) (tk := tVar 2) (tv := (tOp (rI CMul fun i j => .int (i * j)) (tOp (rOwnIx a.C (spGet K a.C) E0) (tVar 0) (tVar 2)) (tVar 1))) rfl scMu.nd (pi_list (pe_fld (pv 0) rfl)) (blkOk_by (N := ["self", "other", "name"]) (sc := (defScope sMul)) (by decide +kernel))
        (fun _ _ _ _ _ => pg_name (i := 2) scMu.nd rfl (Or.inl rfl)) (fun _ _ _ _ _ => pts_nil) (fun _ _ _ _ _ => pv 2) (fun _ _ _ _ _ => pe_op op_mul (pe_ixO (C := a.C) G1.r hr2 pass0 T.get T.getIn (pv 0) (pv 2)) (pv 1))) pa_nil))))), ?_⟩
    refine ⟨_, rfl, k, rfl, true, ?_, iteF ?_⟩
    · rw [decide_eq_true k0]
    obtain ⟨hf, dx, nl, dl, ex, en, ed⟩ := id hx
    refine ⟨_, rfl, x, a.C, dx, _, .ref nl, rfl, ex, T.z.cls, T.z.nN, rfl, nl, rfl, ⟨_, SqL.of en⟩, fun D hD => ?_⟩
    have h64 := nms_lt hf
    refine dc_names (fun n => am0 l n * k) (SqL.of en) hD (fun v => rfl) (fun v => rfl) ?_ ?_ ?_
    · rw [sizeLine_eq]
      omega
    · intro n hn H4 Q4 s4 q4
      have hx4 := hx.same s4
      exact ⟨_, rfl, _, rfl, x, rfl, isIns hx4, x, l, _, rfl, hx4.r, .inl ⟨n, rfl, _, rfl, _, _, rfl, rfl, .inr ⟨by omega, by omega⟩, q4 _ same_refl⟩⟩
    · intro H5 s5 e5
      have hfit : Fit (by_ (nms l) fun n => am0 l n * k) := fit_by (fun n hn => wd_nms hf hn) (fun n _ => by
        have h1 := am0_nonneg hx.1 n
        exact Int.mul_nonneg h1 k0) (by omega)
      intro p dp np ndp nep
      have ne : D ≠ p := ne_of_none e5 np
      refine ⟨p, D, dp, _, rfl, upd_same, keep (keep e5 ndp) (by rw [upd_ne nep.symm]; exact np), hfit, fun H6 k6 z6' => ⟨rfl, ?_⟩⟩
      have z6 := z6'.at
      refine q _ _ _ (made_same s5 np ndp k6) (s5.free np) hfit (fun n => ?_) z6
      rw [am0_by]
      split
      · rfl
      · rename_i h
        rw [am0_out hx.1 h, Int.zero_mul]

theorem scFi : FnScope ["self", "other", "name"] ["self", "other"] (defScope sFits) := ⟨rfl, rfl, rfl, by decide +kernel, rfl, by decide +kernel, by decide +kernel⟩
theorem ok_fits {fd : FuncData} (F : Fun K "fits" "Sizes.fits" sFits b.fits fd) (T : Tsz K mg a b) (G1 : Ct P w K mg base 1 b.get ["self", "at"] (spGet K a.C)) : FnOk P w K mg base CX0 3 b.fits fd ["self", "other"] (spFits a.C) := by
  refine F.ok scFi (fun vs H Q E h => ?_) (fun cdv A outer s H vs Q E hr h => ?_)
  · obtain ⟨x, y, l, m, rfl, _⟩ := h
    rfl
  · obtain ⟨x, y, l, m, rfl, hx, hy, q⟩ := h
    have hr2 : Room (1 + 1) (A.deeper (envOfC "Sizes.fits" (defScope sFits) s.heap.objs.size b.fits cdv)) := hr
    have hu := hu_of hr
    refine ⟨_, (pss_cons (ps_if (pt_not (pt_val (pe_callB call_isi (by rfl) T.z.isinstance (by decide +kernel) (pa_cons (pv 1) (pa_cons (pe_glob (by rfl) T.z.mC (v := .ref a.C) rfl) pa_nil))))) pss_dead pss_nil)
      (pss_one (ps_ret (pe_callB (id := "all") (cr_all rfl) (by rfl) T.z.all (by decide +kernel) (pa_cons (pe_lc (own := [("name", 2)]) (g := gName 2) (tt := tYes) (te := (tOp (rI0 fun i j => .bl (decide (i ≤ j))) (tDGet (tFld K (tVar 0) "_amounts") (tVar 2)) (tOp (rOwnIx a.C (spGet K a.C) E0) (tVar 1) (tVar 2)))) rfl scFi.nd (pi_list (pe_fld (pv 0) rfl)) (blkOk_by (N := ["self", "other", "name"]) (sc := (defScope sFits)) (by decide +kernel))
        (fun _ _ _ _ _ => pg_name (i := 2) scFi.nd rfl (Or.inl rfl)) (fun _ _ _ _ _ => pts_nil) (fun _ _ _ _ _ => pe_cmpR op_le (pe_dget hu (pe_fld (pv 0) rfl) (pv 2) (fun _ _ => rfl)) (pe_ixO (C := a.C) G1.r hr2 pass0 T.get T.getIn (pv 1) (pv 2)) (nomark _))) pa_nil))))), ?_⟩
    refine ⟨_, rfl, _, _, _, _, true, rfl, .own _, ty_ins T hy, T.ins.me, true, rfl, iteF ?_⟩
    obtain ⟨hf, dx, nl, dl, ex, en, ed⟩ := id hx
    have h64 := nms_lt hf
    refine ⟨_, rfl, x, a.C, dx, _, .ref nl, rfl, ex, T.z.cls, T.z.nN, rfl, nl, rfl, ⟨_, SqL.of en⟩, fun D hD => ?_⟩
    refine lc_names (fun n => .bl (decide (am0 l n ≤ am0 m n))) (SqL.of en) hD (fun v => rfl) ?_ ?_ ?_
    · rw [sizeLine_eq]
      omega
    · intro n hn H4 Q4 s4 q4
      have hy4 := hy.same s4
      have hp := (mem_nms hf.nd).mp hn
      exact ⟨_, rfl, x, a.C, dx, _, .ref dl, rfl, s4 _ _ ex, T.z.cls, T.z.nA, rfl, _, rfl, dl, .int (am0 l n), rfl, dget_am (.inl (s4 _ _ ed)) (by rw [am_cn hf, if_pos hp]),
        _, rfl, _, rfl, y, rfl, isIns hy4, y, m, _, rfl, hy4.r, .inl ⟨n, rfl, _, _, rfl, rfl, q4 _ same_refl⟩⟩
    · intro H5 s5 e5
      refine ⟨D, (nms l).map fun n => decide (am0 l n ≤ am0 m n), rfl, SqL.of (by rw [e5, List.map_map]; rfl), ?_⟩
      rw [List.all_map]
      exact q _ s5

end
end Lp

set_option Elab.async false
set_option linter.all false
set_option maxRecDepth 100000
set_option maxHeartbeats 8000000
namespace Lp
open PySem PySem.Spec PyProof.Rows L2
abbrev sShort : Stmt := meth 3 0
abbrev arT : List Value := [.type "ArithmeticError", .type "Exception", .type "BaseException", .type "object"]
/-- an own exception's __init__, which stores one field -/
def spEx (C : Addr) (fld : Str) : Sp := fun vs H Q _ => ∃ (e : Addr) (y : V), vs = [.ref e, y] ∧ H e = some (exo e C none) ∧ ∀ dx, H dx = none → dx ≠ e → Q .non (upd (upd H dx (exd dx [(fld, y)])) e (exo e C (some dx)))
def spEqS (C : Addr) : Sp := fun vs H Q _ => ∃ (x y : Addr) (l m : Am), vs = [.ref x, .ref y] ∧ SzAt C H x l ∧ SzAt C H y m ∧ Q (.bl (eqD (cn l) (cn m))) H
def spCall (C : Addr) : Sp := fun vs H Q _ => ∃ (x : Addr) (l : Am) (n : Str) (z : Int), vs = [.ref x, .str n, .int z] ∧ SzAt C H x l ∧ wd n = true ∧ 0 ≤ z ∧ (nms l).length < 63 ∧
  ∀ H' p l', Same H H' → H p = none → Fit l' → (∀ k, am0 l' k = am0 l k + if k = n then z else 0) → SzAt C H' p l' → Q (.ref p) H'
/-- of two sizes, or the first name of which there is not enough -/
def spSub (C cN : Addr) : Sp := fun vs H Q E => ∃ (x y : Addr) (l m : Am), vs = [.ref x, .ref y] ∧ SzAt C H x l ∧ SzAt C H y m ∧
  (∀ n, (nms m).find? (fun n => decide (am0 l n < am0 m n)) = some n → ∀ H' d, Same H H' → H d = none → H' d = some (.xd [("name", .str n)]) → E (.ref cN) (some d) H') ∧
  ((nms m).find? (fun n => decide (am0 l n < am0 m n)) = none → ∀ H' p l', Same H H' → H p = none → Fit l' → (∀ n, am0 l' n = am0 l n - am0 m n) → SzAt C H' p l' → Q (.ref p) H')
structure Tn (K : PySem.W.Frag) (mg : Str → Option Value) (cN fN : Addr) : Prop where
  mN : mg "NotEnough" = some (.ref cN)
  ar : mg "ArithmeticError" = none
  ox : OexB K cN arT "ArithmeticError.__new__"
  nf : PySem.W.findIn K (.ref cN) "name" = some none
  iC : PySem.W.findIn K (.ref cN) "__init__" = some (some (.ref fN))
  tI : PySem.W.typeIn K (.ref fN) = some (.type "function")
  vV : PySem.W.findCls K (.type "ArithmeticError") (.type "type") "__init__" = some (.val (.builtin "ArithmeticError.__init__"))
section
variable {P : Program} {w : World} {K : PySem.W.Frag} {mg : Str → Option Value} {base : Heap} {a : Ads} {b : Bds} {cN fN : Addr}
theorem scEq : FnScope ["self", "other"] ["self", "other"] (defScope sEq) := ⟨rfl, rfl, rfl, by decide +kernel, rfl, by decide +kernel, by decide +kernel⟩
theorem ok_eqS {fd : FuncData} (F : Fun K "__eq__" "Sizes.__eq__" sEq b.eq fd) (T : Tsz K mg a b) : FnOk P w K mg base CX0 1 b.eq fd ["self", "other"] (spEqS a.C) := by
  refine F.ok scEq (fun vs H Q E h => ?_) (fun cdv A outer s H vs Q E hr h => ?_)
  · obtain ⟨x, y, l, m, rfl, _⟩ := h
    rfl
  · obtain ⟨x, y, l, m, rfl, hx, hy, q⟩ := h
    have hu := hu_of hr
    refine ⟨_, pss_one (ps_ret (pe_and (pe_callB call_isi (by rfl) T.z.isinstance (by decide +kernel) (pa_cons (pv 1) (pa_cons (pe_glob (by rfl) T.z.mC (v := .ref a.C) rfl) pa_nil))) (pe_one (pe_cmpR (op_eqDD (Nat.lt_of_succ_lt hu)) (pe_fld (pv 0) rfl) (pe_fld (pv 1) rfl) (nomark _))))), ?_⟩
    refine ⟨_, rfl, _, _, _, _, true, rfl, .own _, ty_ins T hy, T.ins.me, true, rfl, iteT ?_⟩
    obtain ⟨hf, dx, nl, dl, ex, en, ed⟩ := hx
    obtain ⟨hg, dy, ny, ey, fx, fn, fe⟩ := hy
    exact ⟨_, rfl, x, a.C, dx, _, .ref dl, rfl, ex, T.z.cls, T.z.nA, rfl, _, rfl, y, a.C, dy, _, .ref ey, rfl, fx, T.z.cls, T.z.nA, rfl, dl, ey, _, _, rfl, rfl, ed, fe, q⟩
theorem scSh : FnScope ["self", "name"] ["self", "name"] (defScope sShort) := ⟨rfl, rfl, rfl, by decide +kernel, rfl, by decide +kernel, by decide +kernel⟩
theorem ok_short {fd : FuncData} (F : Fun K "__init__" "NotEnough.__init__" sShort fN fd) (T : Tn K mg cN fN) : FnOk P w K mg base CX0 1 fN fd ["self", "name"] (spEx cN "name") := by
  refine F.ok scSh (fun vs H Q E h => ?_) (fun cdv A outer s H vs Q E hr h => ?_)
  · obtain ⟨e, y, rfl, _⟩ := h
    rfl
  · obtain ⟨e, y, rfl, he, q⟩ := h
    refine ⟨_, pss_cons (ps_expr (pe_binit PySem.F.excBase_ArithmeticError (by rfl) T.ar (by decide +kernel) (by kernel_rfl) (by decide +kernel) T.vV (by decide +kernel) (pa_cons (pv 0) (pa_cons pe_str pa_nil))))
      (pss_one (ps_ostB (newId := "ArithmeticError.__new__") PySem.F.store_ArithmeticError (pv 0) (pv 1))), ?_⟩
    refine ⟨_, rfl, e, cN, _, rfl, (by show 1 ≤ 1000; decide), T.ox, he, ?_⟩
    exact ⟨_, rfl, _, rfl, e, cN, rfl, T.ox, T.nf, he, q⟩
theorem scSu : FnScope ["self", "other", "name"] ["self", "other"] (defScope sSub) := ⟨rfl, rfl, rfl, by decide +kernel, rfl, by decide +kernel, by decide +kernel⟩
theorem ok_sub {fd fdx : FuncData} (F : Fun K "__sub__" "Sizes.__sub__" sSub b.sub fd) (T : Tsz K mg a b) (Tn_ : Tn K mg cN fN) (Fx : Fun K "__init__" "NotEnough.__init__" sShort fN fdx) (bx : Binds K fdx ["self", "name"] []) (Gi0 : Ct P w K mg base 4 a.init ["self", "amounts"] (spInit a.C)) (G1 : Ct P w K mg base 1 b.get ["self", "at"] (spGet K a.C)) (G2 : Ct P w K mg base 1 b.names ["self"] (spNames a.C)) :
    FnOk P w K mg base (L2.CX P w) 6 b.sub fd ["self", "other"] (spSub a.C cN) := by
  have Gx : FnR P w K mg base CX0 1 fN (spEx cN "name") := ((ok_short Fx Tn_).raw bx .nil).imp fun vs H Q E h => by rw [List.append_nil]; exact h
  refine F.okX scSu (fun vs H Q E h => ?_) (fun cdv A outer s H vs Q E hr h => ?_)
  · obtain ⟨x, y, l, m, rfl, _⟩ := h
    rfl
  · obtain ⟨x, y, l, m, rfl, hx, hy, qx, q⟩ := h
    obtain ⟨fdn, Gn, kn, bn⟩ := G2
    obtain ⟨fdi, Gi, _, bi_⟩ := Gi0
    have hr5 : Room (4 + 1) (A.deeper (envOfC "Sizes.__sub__" (defScope sSub) s.heap.objs.size b.sub cdv)) := hr
    have hr2 : Room (1 + 1) (A.deeper (envOfC "Sizes.__sub__" (defScope sSub) s.heap.objs.size b.sub cdv)) := hr.mono (by decide)
    have hr1 : Room 1 (A.deeper (envOfC "Sizes.__sub__" (defScope sSub) s.heap.objs.size b.sub cdv)) := hr.mono (by decide)
    refine ⟨_, (pss_cons (ps_if (pt_not (pt_val (pe_callB call_isi (by rfl) T.z.isinstance (by decide +kernel) (pa_cons (pv 1) (pa_cons (pe_glob (by rfl) T.z.mC (v := .ref a.C) rfl) pa_nil))))) pss_dead pss_nil)
      (pss_cons (ps_for (passes_of rfl) rfl (pi_list (pe_meth0 (pv 1) T.z.cls T.names Gn hr1 bn .nil pass0)) (pg_name (i := 2) scSu.nd rfl (Or.inl rfl))
        (pss_one (ps_if (pt_cmpR op_lt (pe_ixO (C := a.C) G1.r hr2 pass0 T.get T.getIn (pv 0) (pv 2)) (pe_ixO (C := a.C) G1.r hr2 pass0 T.get T.getIn (pv 1) (pv 2)) (nomark _)) (pss_one (ps_raise rfl (takes_of rfl rfl rfl rfl) (pmk_B PySem.F.excBase_ArithmeticError Tn_.ox Tn_.iC Tn_.tI Gx hr2 pass0 (by rfl) Tn_.mN (pa_cons (pv 2) pa_nil)))) pss_nil)))
      (pss_one (ps_ret (pe_make T.mkC Gi hr5 (by rfl) T.z.mC bi_ .nil pass0 (pa_cons (pe_dc (own := [("name", 2)]) (g := gName 2) (tt := tYes) (tk := tVar 2) (tv := (tOp (rI0 fun i j => .int (i - j)) (tOp (rOwnIx a.C (spGet K a.C) E0) (tVar 0) (tVar 2)) (tOp (rOwnIx a.C (spGet K a.C) E0) (tVar 1) (tVar 2)))) rfl scSu.nd (pi_list (pe_fld (pv 0) rfl)) (blkOk_by (N := ["self", "other", "name"]) (sc := (defScope sSub)) (by decide +kernel))
        (fun _ _ _ _ _ => pg_name (i := 2) scSu.nd rfl (Or.inl rfl)) (fun _ _ _ _ _ => pts_nil) (fun _ _ _ _ _ => pv 2) (fun _ _ _ _ _ => pe_op op_sub (pe_ixO (C := a.C) G1.r hr2 pass0 T.get T.getIn (pv 0) (pv 2)) (pe_ixO (C := a.C) G1.r hr2 pass0 T.get T.getIn (pv 1) (pv 2)))) pa_nil)))))), ?_⟩
    refine ⟨_, rfl, _, _, _, _, true, rfl, .own _, ty_ins T hy, T.ins.me, true, rfl, iteF ?_⟩
    obtain ⟨dy, fy, ey, ly⟩ := sz_ins hy
    refine ⟨_, rfl, y, dy, fy, rfl, ey, ly "names" (by decide) (by decide), y, m, rfl, hy, fun p1 n1 => ?_⟩
    have s1 : Same H (upd H p1 (.lst ((nms m).map V.str))) := same_new n1
    have e1 : (upd H p1 (.lst ((nms m).map V.str))) p1 = some (.lst ((nms m).map V.str)) := upd_same
    generalize upd H p1 (.lst ((nms m).map V.str)) = HP at s1 e1 ⊢
    have hxP := hx.same s1
    have hyP := hy.same s1
    refine ⟨p1, rfl, ⟨_, SqL.of e1⟩, ?_⟩
    refine for_it (walk_list (K := K) (a := p1) (xs := (nms m).map V.str)) (fun i σ H' => ∃ v, σ = [some (.ref x), some (.ref y), v] ∧ H' = HP ∧ ((nms m).take i).find? (fun n => decide (am0 l n < am0 m n)) = none)
      ⟨none, rfl, rfl, rfl⟩ (fun i σ H' _ h => by obtain ⟨_, _, rfl, _⟩ := h; exact SqL.of e1) ?_ ?_
    · rintro i z σ H2 H3 hi ⟨v, rfl, rfl, hf⟩ ⟨rfl, hz⟩
      rw [List.getElem?_map] at hz
      obtain ⟨n, hn, rfl⟩ := Option.map_eq_some_iff.mp hz
      refine ⟨_, rfl, _, rfl, x, rfl, isIns hxP, x, l, _, rfl, hxP.r, .inl ⟨n, rfl, _, rfl, _, rfl, y, rfl, isIns hyP, y, m, _, rfl, hyP.r, .inl ⟨n, rfl, _, _, rfl, rfl, _, rfl, ?_⟩⟩⟩
      refine ite2 (fun hc => ?_) fun hc => ?_
      · have hlt : am0 l n < am0 m n := of_decide_eq_true hc
        refine ⟨_, rfl, (by show 1 ≤ 1000; decide), fun e he => ⟨e, .str n, rfl, upd_same, fun d hd nd => ⟨rfl, d, [("name", .str n)], upd_same, ?_, ?_, ?_⟩⟩⟩
        · rw [upd_ne nd, upd_same]
        · rw [upd_ne nd] at hd
          exact hd
        · rw [upd_ne nd] at hd
          refine qx n ?_ _ d (fun b o hb => ?_) (s1.free hd) upd_same
          · have hsplit : nms m = (nms m).take i ++ n :: (nms m).drop (i + 1) := by
              obtain ⟨hi', e⟩ := List.getElem?_eq_some_iff.mp hn
              rw [← e, List.getElem_cons_drop, List.take_append_drop]
            rw [hsplit, List.find?_append, hf, Option.none_or, List.find?_cons, hc]
          · have h1 := s1 _ _ hb
            have n1 := ne_of_none h1 hd
            have n2 := ne_of_none h1 he
            rw [upd_ne n1, del_ne n2, upd_ne n2, upd_ne n1, upd_ne n2]
            exact h1
      · refine ⟨_, rfl, rfl, ?_⟩
        rw [take_succ' hn, List.find?_append, hf, Option.none_or, List.find?_cons]
        rw [Bool.not_eq_true] at hc
        rw [hc]
        rfl
    · rintro σ H2 ⟨v, rfl, rfl, hf⟩
      rw [List.length_map, List.take_length] at hf
      have q2 := q hf
      obtain ⟨hfl, dx, nl, dl, ex, en, ed⟩ := id hxP
      have h64 := nms_lt hfl
      refine ⟨_, rfl, x, a.C, dx, _, .ref nl, rfl, ex, T.z.cls, T.z.nN, rfl, nl, rfl, ⟨_, SqL.of en⟩, fun D hD => ?_⟩
      refine dc_names (fun n => am0 l n - am0 m n) (SqL.of en) hD (fun v => rfl) (fun v => rfl) ?_ ?_ ?_
      · rw [sizeLine_eq]
        omega
      · intro n hn H4 Q4 s4 q4
        have hx4 := hxP.same s4
        have hy4 := hyP.same s4
        exact ⟨_, rfl, _, rfl, x, rfl, isIns hx4, x, l, _, rfl, hx4.r, .inl ⟨n, rfl, _, rfl, _, rfl, y, rfl, isIns hy4, y, m, _, rfl, hy4.r, .inl ⟨n, rfl, _, _, rfl, rfl, q4 _ same_refl⟩⟩⟩
      · intro H5 s5 e5
        have enough : ∀ n, am0 m n ≤ am0 l n := fun n => by
          by_cases hn : n ∈ nms m
          · have := List.find?_eq_none.mp hf n hn
            simpa using this
          · rw [am0_out hyP.1 hn]
            exact am0_nonneg hfl n
        have hfit : Fit (by_ (nms l) fun n => am0 l n - am0 m n) := fit_by (fun n hn => wd_nms hfl hn) (fun n _ => by
          have := enough n
          omega) h64
        intro p dp np ndp nep
        have ne : D ≠ p := ne_of_none e5 np
        refine ⟨p, D, dp, _, rfl, upd_same, keep (keep e5 ndp) (by rw [upd_ne nep.symm]; exact np), hfit, fun H6 k6 z6' => ⟨rfl, ?_⟩⟩
        have z6 := z6'.at
        refine q2 _ _ _ (made_same (same_tr s1 s5) np ndp k6) ((same_tr s1 s5).free np) hfit (fun n => ?_) z6
        rw [am0_by]
        split
        · rfl
        · rename_i h
          have h1 := am0_out hfl h
          have h2 := enough n
          have h3 := am0_nonneg hyP.1 n
          omega
end
end Lp

set_option Elab.async false
set_option linter.all false
set_option maxRecDepth 100000
set_option maxHeartbeats 8000000
namespace Lp
open PySem PySem.Spec PyProof.Rows L2
section
variable {P : Program} {w : World} {K : PySem.W.Frag} {mg : Str → Option Value} {base : Heap} {a : Ads} {b : Bds} {cN fN : Addr}
theorem am0_one (n k : Str) (z : Int) : am0 [(n, z)] k = if k = n then z else 0 := by
  unfold am0 am
  rw [List.find?_cons]
  by_cases h : n = k
  · subst h
    simp
  · rw [decide_eq_false h]
    simp [Ne.symm h]
theorem okD {x qual : Str} {st : Stmt} {dvs : List V} {kws : List (Str × V)} {f : Addr} {fd : FuncData} {N ps : List Str} {k : Nat} {sp : Sp} (F : FunD K x qual (defArgs st) (defBody st) (defScope st) dvs kws f fd) (S : FnScope N ps (defScope st)) (len : ∀ vs H Q E, sp vs H Q E → vs.length = ps.length)
    (hbody : ∀ (cdv : Value) (A : Around) (outer : List Env) (s : Shared) (H : Hp) (vs : List V) (Q : VK) (E : XK), Room k (A.deeper (envOfC qual (defScope st) s.heap.objs.size f cdv)) → sp vs H Q E →
      ∃ t, PSs (cxOf CX0 P w K mg base N qual (defScope st) f cdv A outer s H E).nox (defBody st) t ∧ t { nx := fun _ H' => Q .non H', rt := Q } (start N vs) H) : FnOk P w K mg base CX0 (k + 1) f fd ps sp := by
  refine F.ok S len fun cdv A outer s H vs Q E hr hsp => ?_
  obtain ⟨t, h, q⟩ := hbody cdv A outer s H vs Q E hr hsp
  exact ⟨t, h.nox, q⟩
theorem scCa : FnScope ["self", "name", "by"] ["self", "name", "by"] (defScope sCall) := ⟨rfl, rfl, rfl, by decide +kernel, rfl, by decide +kernel, by decide +kernel⟩
theorem ok_call {fd : FuncData} (F : FunD K "__call__" "Sizes.__call__" (defArgs sCall) (defBody sCall) (defScope sCall) [.int 1] [] b.call fd) (T : Tsz K mg a b) (Gi0 : Ct P w K mg base 4 a.init ["self", "amounts"] (spInit a.C)) (Gw : Ct P w K mg base 1 a.word ["thing"] spWord) (Gm : Ct P w K mg base 2 a.amt ["thing"] spAmt)
    (Ga : Ct P w K mg base 6 b.add ["self", "other"] (spBin a.C (fun i j => i + j))) : FnOk P w K mg base CX0 7 b.call fd ["self", "name", "by"] (spCall a.C) := by
  refine okD F scCa (fun vs H Q E h => ?_) (fun cdv A outer s H vs Q E hr h => ?_)
  · obtain ⟨x, l, n, z, rfl, _⟩ := h
    rfl
  · obtain ⟨x, l, n, z, rfl, hx, hw, z0, h63, q⟩ := h
    obtain ⟨fdi, Gi, ki, bi_⟩ := Gi0
    obtain ⟨fdw, Gw, kw, bw⟩ := Gw
    obtain ⟨fdm, Gm, km, bm⟩ := Gm
    have hr5 : Room (4 + 1) (A.deeper (envOfC "Sizes.__call__" (defScope sCall) s.heap.objs.size b.call cdv)) := hr.mono (by decide)
    have hr2 : Room 2 (A.deeper (envOfC "Sizes.__call__" (defScope sCall) s.heap.objs.size b.call cdv)) := hr.mono (by decide)
    have hr1 : Room 1 (A.deeper (envOfC "Sizes.__call__" (defScope sCall) s.heap.objs.size b.call cdv)) := hr.mono (by decide)
    refine ⟨_, pss_cons (ps_if (pt_not (pt_val (pe_call Gw hr1 (by rfl) T.z.mWord kw bw .nil pass0 (pa_cons (pv 1) pa_nil)))) pss_dead pss_nil)
      (pss_cons (ps_if (pt_not (pt_val (pe_call Gm hr2 (by rfl) T.z.mAmt km bm .nil pass0 (pa_cons (pv 2) pa_nil)))) pss_dead pss_nil)
      (pss_one (ps_ret (pe_op (opo_bin (op := .Add) (C := a.C) Ga.r hr pass0 T.first T.add) (pv 0) (pe_make T.mkC Gi hr5 (by rfl) T.z.mC bi_ .nil pass0 (pa_cons (pe_disp (pps_cons (pv 1) (pv 2) pps_nil) (by rfl) (by rfl) (by simp) (by decide)) pa_nil)))))), ?_⟩
    refine ⟨_, rfl, n, rfl, wd_len hw, true, ?_, iteF ?_⟩
    · rw [hw]
    refine ⟨_, rfl, z, rfl, true, ?_, iteF ?_⟩
    · rw [decide_eq_true z0]
    refine ⟨_, rfl, fun D hD => ?_⟩
    refine ⟨_, rfl, _, rfl, upd_same, [(.inr n, .int z)], rfl, (by show 1 ≤ 15; decide), ?_⟩
    have eD : (upd (upd H D (.dK [])) D (.dK (mergeK [] [(.inr n, .int z)]))) D = some (.dK (dsi [(n, z)])) := upd_same
    have sD : Same H (upd (upd H D (.dK [])) D (.dK (mergeK [] [(.inr n, .int z)]))) := same_set (same_new hD) hD
    generalize (upd (upd H D (.dK [])) D (.dK (mergeK [] [(.inr n, .int z)]))) = HD at eD sD ⊢
    have hfit : Fit [(n, z)] := ⟨by simp, fun p hp => by rw [List.mem_singleton.mp hp]; exact ⟨hw, z0⟩, (by show 1 < 64; decide)⟩
    intro p dp np ndp nep
    have ne : D ≠ p := ne_of_none eD np
    refine ⟨p, D, dp, _, rfl, upd_same, keep (keep eD ndp) (by rw [upd_ne nep.symm]; exact np), hfit, fun H6 k6 z6' => ⟨rfl, ?_⟩⟩
    have z6 := z6'.at
    have s6 := made_same sD np ndp k6
    refine ⟨x, p, rfl, rfl, isIns (hx.same s6), isIns z6, x, p, l, _, rfl, hx.same s6, z6, ?_, fun H7 p7 l7 s7 n7 f7 a7 z7 => ?_⟩
    · have := nms_len [(n, z)]
      rw [List.length_singleton] at this
      omega
    · refine q _ _ _ (same_tr s6 s7) (s6.free n7) f7 (fun k => ?_) z7
      rw [a7, am0_one]
/-- one row of the text -/
def rowS (n : Str) (z : Int) : Str := Str.empty ++ n ++ Str.ofString " " ++ Str.ofString (toString z)
/-- sizes as a text -/
def shw (l : Am) : Str := if nms l = [] then Str.ofString "-" else Txt.join (Str.ofString " ") ((nms l).map fun n => rowS n (am0 l n))
def spStr (C : Addr) : Sp := fun vs H Q _ => ∃ (x : Addr) (l : Am), vs = [.ref x] ∧ SzAt C H x l ∧ (∀ n, am0 l n < 10 ^ 400) ∧ ∀ H', Same H H' → Q (.str (shw l)) H'
theorem wd_len8 {s : Str} (h : wd s = true) : s.length ≤ 8 := by
  unfold wd at h
  rw [Bool.and_eq_true, Bool.and_eq_true] at h
  exact of_decide_eq_true h.1.2
theorem ofS_len (s : String) : (Str.ofString s).length = s.length := PySem.ofString_length s
theorem str_app_len (a b : Str) : (a ++ b).length = a.length + b.length := PySem.Str.length_append a b
theorem int_len {z : Int} (h0 : 0 ≤ z) (h : z < 10 ^ 400) : (toString z).length ≤ 401 := int_text_length_le10 (k := 400) (by decide) (by omega)
theorem row_len {n : Str} {z : Int} (hw : wd n = true) (h0 : 0 ≤ z) (h : z < 10 ^ 400) : (rowS n z).length ≤ 410 := by
  unfold rowS
  rw [str_app_len, str_app_len, str_app_len, ofS_len, ofS_len]
  have h1 := wd_len8 hw
  have h2 := int_len h0 h
  have h3 : Str.empty.length = 0 := rfl
  have h4 : " ".length = 1 := rfl
  omega
theorem log_lt {z : Int} (h0 : 0 ≤ z) (h : z < 10 ^ 400) : z.natAbs.log2 < 1920 := by
  by_cases e : z.natAbs = 0
  · rw [e]
    decide
  · refine (Nat.log2_lt e).mpr ?_
    have h1 : z.natAbs < 10 ^ 400 := by omega
    exact Nat.lt_of_lt_of_le h1 (by decide +kernel)
theorem sum_le : ∀ (l : List Nat) (k : Nat), (∀ x ∈ l, x ≤ k) → l.sum ≤ l.length * k
  | [], _, _ => Nat.zero_le _
  | x :: r, k, h => by
    have h1 := h x List.mem_cons_self
    have h2 := sum_le r k fun y hy => h y (List.mem_cons_of_mem _ hy)
    rw [List.sum_cons, List.length_cons, Nat.succ_mul]
    omega
def teRow (K : PySem.W.Frag) : TE := fun σ H Q => tJs [tFmt (tVar 1), tC (.str " "), tFmt (tDGet (tFld K (tVar 0) "_amounts") (tVar 1))] Str.empty σ H fun out H1 => Q (.str out) H1
theorem scSt : FnScope ["self", "name"] ["self"] (defScope sStr) := ⟨rfl, rfl, rfl, by decide +kernel, rfl, by decide +kernel, by decide +kernel⟩
theorem ok_str {fd : FuncData} (F : Fun K "__str__" "Sizes.__str__" sStr b.str fd) (T : Tsz K mg a b) : FnOk P w K mg base CX0 1 b.str fd ["self"] (spStr a.C) := by
  refine F.ok scSt (fun vs H Q E h => ?_) (fun cdv A outer s H vs Q E hr h => ?_)
  · obtain ⟨x, l, rfl, _⟩ := h
    rfl
  · obtain ⟨x, l, rfl, hx, hb, q⟩ := h
    have hu := hu_of hr
    refine ⟨_, pss_cons (ps_if (pt_cmpR op_eq (pe_callB call_len_seq (by rfl) T.z.bi.len PySem.boot_len (pa_cons (pe_fld (pv 0) rfl) pa_nil)) pe_int (nomark _)) (pss_one (ps_ret pe_str)) pss_nil)
      (pss_one (ps_ret (pe_join pe_str (pe_lc (own := [("name", 1)]) (g := gName 1) (tt := tYes) (te := teRow K) rfl scSt.nd (pi_list (pe_fld (pv 0) rfl)) (blkOk_by (N := ["self", "name"]) (sc := (defScope sStr)) (by decide +kernel))
        (fun _ _ _ _ _ => pg_name (i := 1) scSt.nd rfl (Or.inl rfl)) (fun _ _ _ _ _ => pts_nil) (fun _ _ _ _ _ => pe_joined (.cons (pe_fmt (pv 1)) (.cons pe_str (.cons (pe_fmt (pe_dget hu (pe_fld (pv 0) (by rfl)) (pv 1) (fun _ _ => rfl))) .nil)))))))), ?_⟩
    obtain ⟨hf, dx, nl, dl, ex, en, ed⟩ := hx
    refine ⟨_, rfl, x, a.C, dx, _, .ref nl, rfl, ex, T.z.cls, T.z.nN, rfl, nl, _, rfl, .inl (SqL.of en), ?_⟩
    refine ⟨rfl, _, rfl, ?_⟩
    have h64 := nms_lt hf
    by_cases h0 : nms l = []
    · have e : decide (V.int ((nms l).map V.str).length = V.int 0) = true := by rw [h0]; rfl
      rw [e]
      refine iteT ?_
      have := q H same_refl
      rw [shw, if_pos h0] at this
      exact this
    · have e : decide (V.int ((nms l).map V.str).length = V.int 0) = false := by
        refine decide_eq_false fun z => h0 ?_
        have z' := V.int.inj z
        rw [List.length_map] at z'
        exact List.length_eq_zero_iff.mp (by omega)
      rw [e]
      refine iteF ?_
      refine ⟨⟨_, rfl⟩, _, rfl, x, a.C, dx, _, .ref nl, rfl, ex, T.z.cls, T.z.nN, rfl, nl, rfl, ⟨_, SqL.of en⟩, fun D hD => ?_⟩
      have bound : ∀ n ∈ nms l, (rowS n (am0 l n)).length ≤ 410 := fun n hn => row_len (wd_nms hf hn) (am0_nonneg hf n) (hb n)
      refine lc_names (fun n => .str (rowS n (am0 l n))) (SqL.of en) hD (fun v => rfl) ?_ ?_ ?_
      · rw [sizeLine_eq]
        omega
      · intro n hn H4 Q4 s4 q4
        have hp := (mem_nms hf.nd).mp hn
        have b0 := bound n hn
        have b8 := wd_len8 (wd_nms hf hn)
        unfold rowS at b0
        rw [str_app_len, str_app_len, str_app_len] at b0
        refine ⟨_, rfl, .inl ⟨n, rfl, wd_len (wd_nms hf hn), n, rfl, ?_, Str.ofString " ", rfl, ?_, ?_⟩⟩
        · rw [str_app_len, sizeLine_eq]
          omega
        · rw [str_app_len, str_app_len, sizeLine_eq]
          omega
        refine ⟨_, rfl, x, a.C, dx, _, .ref dl, rfl, s4 _ _ ex, T.z.cls, T.z.nA, rfl, _, rfl, dl, .int (am0 l n), rfl, dget_am (.inl (s4 _ _ ed)) (by rw [am_cn hf, if_pos hp]), .inr ⟨am0 l n, rfl, log_lt (am0_nonneg hf n) (hb n), _, rfl, ?_, ?_⟩⟩
        · rw [str_app_len, str_app_len, str_app_len, sizeLine_eq]
          omega
        · exact q4 _ same_refl
      · intro H5 s5 e5
        refine ⟨_, D, (nms l).map fun n => rowS n (am0 l n), rfl, rfl, .inl (SqL.of (by rw [e5, List.map_map]; rfl)), ?_, ?_⟩
        · have h1 := sum_le (((nms l).map fun n => rowS n (am0 l n)).map (·.length)) 410 (fun k hk => by
            rw [List.map_map] at hk
            obtain ⟨n, hn, rfl⟩ := List.mem_map.mp hk
            exact bound n hn)
          rw [List.length_map, List.length_map] at h1
          rw [List.length_map]
          have h2 : (Str.ofString " ").length = 1 := rfl
          rw [h2]
          omega
        · have := q H5 s5
          rw [shw, if_neg h0] at this
          exact this
end
end Lp

set_option Elab.async false
set_option linter.all false
set_option maxRecDepth 100000
set_option maxHeartbeats 4000000
/-! Lists of pairs of a name and an amount; dicts of them. -/
namespace Lp
open PySem PySem.Spec PyProof.Rows L2
/-- one more amount -/
def put (l : Am) (n : Str) (z : Int) : Am := if l.any (fun p => decide (p.1 = n)) then l.map (fun p => if p.1 = n then (p.1, z) else p) else l ++ [(n, z)]
theorem putK_put (l : Am) (n : Str) (z : Int) : putK (dsi l) (.inr n) (.int z) = dsi (put l n z) := by
  unfold putK put dsi
  rw [List.any_map]
  have e : ((fun kv : Key × V => decide (kv.1 = Sum.inr n)) ∘ fun p : Str × Int => ((Sum.inr p.1, V.int p.2) : Key × V)) = fun p => decide (p.1 = n) := by
    funext p
    simp
  rw [e]
  split
  · rw [List.map_map, List.map_map]
    refine List.map_congr_left fun p hp => ?_
    show (if (Sum.inr p.1 : Key) = Sum.inr n then ((Sum.inr p.1 : Key), V.int z) else _) = _
    by_cases h : p.1 = n
    · rw [if_pos (by rw [h])]
      simp [h]
    · rw [if_neg (by simpa using h)]
      simp [h]
  · rw [List.map_append]
    rfl
theorem put_keys (l : Am) (n : Str) (z : Int) : (put l n z).map (·.1) = if n ∈ l.map (·.1) then l.map (·.1) else l.map (·.1) ++ [n] := by
  unfold put
  by_cases h : n ∈ l.map (·.1)
  · rw [if_pos h, if_pos]
    · rw [List.map_map]
      refine List.map_congr_left fun p hp => ?_
      show (if p.1 = n then (p.1, z) else p).1 = p.1
      split <;> rfl
    · obtain ⟨p, hp, e⟩ := List.mem_map.mp h
      exact List.any_eq_true.mpr ⟨p, hp, by simpa using e⟩
  · rw [if_neg h, if_neg]
    · rw [List.map_append]
      rfl
    · intro z
      obtain ⟨p, hp, e⟩ := List.any_eq_true.mp z
      exact h (List.mem_map.mpr ⟨p, hp, by simpa using e⟩)
theorem put_nodup {l : Am} (h : (l.map (·.1)).Nodup) (n : Str) (z : Int) : ((put l n z).map (·.1)).Nodup := by
  rw [put_keys]
  split
  · exact h
  · rename_i e
    exact List.nodup_append.mpr ⟨h, by simp, fun a ha b hb => by
      rw [List.mem_singleton.mp hb]
      exact fun q => e (q ▸ ha)⟩
theorem put_new {l : Am} {n : Str} (h : n ∉ l.map (·.1)) (z : Int) : put l n z = l ++ [(n, z)] := by
  unfold put
  rw [if_neg]
  intro q
  obtain ⟨p, hp, e⟩ := List.any_eq_true.mp q
  exact h (List.mem_map.mpr ⟨p, hp, by simpa using e⟩)
theorem am_put (l : Am) (n k : Str) (z : Int) : am (put l n z) k = if k = n then some z else am l k := by
  by_cases h : n ∈ l.map (·.1)
  · unfold put
    rw [if_pos (by
      obtain ⟨p, hp, e⟩ := List.mem_map.mp h
      exact List.any_eq_true.mpr ⟨p, hp, by simpa using e⟩)]
    induction l with
    | nil => cases h
    | cons p r ih =>
      unfold am
      rw [List.map_cons, List.find?_cons, List.find?_cons]
      by_cases hp : p.1 = n
      · rw [if_pos hp]
        dsimp only
        by_cases hk : k = n
        · rw [if_pos hk, hk, hp]
          simp
        · rw [if_neg hk]
          have e1 : decide (p.1 = k) = false := decide_eq_false fun e => hk (e.symm.trans hp)
          rw [e1]
          dsimp only
          by_cases hr : n ∈ r.map (·.1)
          · have := ih hr
            rw [if_neg hk] at this
            exact this
          · -- the rest has no n
            have e2 : r.map (fun p => if p.1 = n then (p.1, z) else p) = r := by
              conv => rhs; rw [← List.map_id r]
              refine List.map_congr_left fun q hq => ?_
              rw [if_neg]
              · rfl
              · intro e
                exact hr (List.mem_map.mpr ⟨q, hq, e⟩)
            rw [e2]
      · rw [if_neg hp]
        have hr : n ∈ r.map (·.1) := by
          rw [List.map_cons, List.mem_cons] at h
          rcases h with h | h
          · exact absurd h.symm hp
          · exact h
        by_cases hk : p.1 = k
        · rw [decide_eq_true hk]
          dsimp only
          rw [if_neg (fun e => hp (hk.trans e))]
        · rw [decide_eq_false hk]
          dsimp only
          exact ih hr
  · rw [put_new h]
    unfold am
    rw [List.find?_append]
    by_cases hk : k = n
    · rw [if_pos hk]
      have : am l k = none := am_none (by rw [hk]; exact h)
      unfold am at this
      have e : List.find? (fun p => decide (p.1 = k)) l = none := by
        cases e : List.find? (fun p => decide (p.1 = k)) l with
        | none => rfl
        | some v => rw [e] at this; cases this
      rw [e, Option.none_or, List.find?_cons, decide_eq_true (show n = k from hk.symm)]
      rfl
    · rw [if_neg hk]
      rw [List.find?_cons, decide_eq_false (show ¬ n = k from fun e => hk e.symm)]
      simp
/-- later amounts win -/
def mrg (l m : Am) : Am := m.foldl (fun acc p => put acc p.1 p.2) l
theorem mergeK_dsi : ∀ (m l : Am), mergeK (dsi l) (dsi m) = dsi (mrg l m)
  | [], l => rfl
  | p :: m, l => by
    show mergeK (putK (dsi l) (.inr p.1) (.int p.2)) (dsi m) = _
    rw [putK_put, mergeK_dsi m]
    rfl
theorem mrg_nodup : ∀ (m : Am) {l : Am}, (l.map (·.1)).Nodup → ((mrg l m).map (·.1)).Nodup
  | [], _, h => h
  | p :: m, _, h => mrg_nodup m (put_nodup h p.1 p.2)
theorem mrg_new : ∀ (m l : Am), ((l ++ m).map (·.1)).Nodup → mrg l m = l ++ m
  | [], l, _ => (List.append_nil l).symm
  | p :: m, l, h => by
    show mrg (put l p.1 p.2) m = _
    have hn : p.1 ∉ l.map (·.1) := by
      rw [List.map_append, List.nodup_append] at h
      exact fun q => h.2.2 _ q p.1 (by simp) rfl
    rw [put_new hn, mrg_new m _ (by rw [List.append_assoc]; exact h), List.append_assoc]
    rfl
theorem mrg_self {m : Am} (h : (m.map (·.1)).Nodup) : mrg [] m = m := mrg_new m [] h
/-- a list of new pairs -/
def Prs (H : Hp) (D : Addr) (ts : List Addr) (l : Am) : Prop := Paired (fun t (p : Str × Int) => t ≠ D ∧ H t = some (.tup [.str p.1, .int p.2])) ts l
def PrP (H1 : Hp) (D : Addr) (out : Nat → Am) (i : Nat) (H : Hp) : Prop := Same H1 H ∧ ∃ ts : List Addr, H D = some (.lst (ts.map V.ref)) ∧ Prs H D ts (out i)
theorem PrP.put {H1 H H4 : Hp} {D t : Addr} {out : Nat → Am} {i : Nat} {n : Str} {z : Int} (p : PrP H1 D out i H) (s : Same H H4) (ht : H4 t = none) (hD : H1 D = none) (e : out (i + 1) = out i ++ [(n, z)]) (hz : (out i).length < sizeLine) :
    ∃ acc, (upd H4 t (.tup [.str n, .int z])) D = some (.lst acc) ∧ acc.length < sizeLine ∧ PrP H1 D out (i + 1) (upd (upd H4 t (.tup [.str n, .int z])) D (.lst (acc ++ [.ref t]))) := by
  obtain ⟨s1, ts, h1, h2⟩ := p
  have hD4 := s _ _ h1
  refine ⟨ts.map V.ref, keep hD4 ht, by rw [List.length_map, Paired.length h2]; exact hz, same_set (same_upd (same_tr s1 s) ht) hD, ts ++ [t], by rw [upd_same, List.map_append]; rfl, ?_⟩
  rw [e]
  refine Paired.snoc (Paired.mono (fun a b h => ⟨h.1, keepd (keep (s _ _ h.2) ht) h.1⟩) h2) ⟨ne_fresh hD4 ht, ?_⟩
  rw [upd_ne (ne_fresh hD4 ht), upd_same]
theorem PrP.skip {H1 H H4 : Hp} {D : Addr} {out : Nat → Am} {i : Nat} (p : PrP H1 D out i H) (s : Same H H4) (e : out (i + 1) = out i) : PrP H1 D out (i + 1) H4 := by
  obtain ⟨s1, ts, h1, h2⟩ := p
  exact ⟨same_tr s1 s, ts, s _ _ h1, by rw [e]; exact Paired.mono (fun a b h => ⟨h.1, s _ _ h.2⟩) h2⟩
theorem prs_sq {K : PySem.W.Frag} {H : Hp} {D : Addr} : ∀ {ts : List Addr} {l : Am}, Prs H D ts l → Paired (fun p kv => SqT K H p [kV kv.1, kv.2]) ts (dsi l)
  | _, _, .nil => .nil
  | _, _, .cons h r => .cons (SqT.of h.2) (prs_sq r)
section
variable {J : It} {n : Nat} {G : Hp → Prop} {Y : Nat → Hp → V → Hp → Prop} {g : TG} {tt : TT} {te : TE} {vs : List Nat} {σ : L2.St} {H1 : Hp} {D : Addr} {Qd : Hp → Prop}
/-- [(n, z) for .. in .. if ..] -/
theorem lc_prs (w : Walk J n G Y) (out : Nat → Am) (hD : H1 D = none) (o0 : out 0 = []) (hG : ∀ H, Same H1 H → G H)
    (hs : ∀ i x H H', i < n → PrP H1 D out i H → Y i H x H' → g x (wipe σ vs) H' fun σ2 H2 => wipe σ2 vs = wipe σ vs ∧ tt σ2 H2 fun b H3 =>
      if b = true then te σ2 H3 fun y H4 => ∃ acc, H4 D = some (.lst acc) ∧ acc.length < sizeLine ∧ PrP H1 D out (i + 1) (upd H4 D (.lst (acc ++ [y]))) else PrP H1 D out (i + 1) H3) (hd : ∀ H, PrP H1 D out n H → Qd H) :
    ∃ W : Nat → Nat → Hp → Prop, (∃ m, W 0 m (upd H1 D (.lst []))) ∧ ∀ i m H, W i m H →
      (J.stop i H ∧ Qd H) ∨ (J.go i H ∧ ∃ Nx : Hp → Prop, (∀ H', Nx H' → ∃ m', m' < m ∧ W (i + 1) m' H') ∧ ∀ x H', J.yld i H x H' → g x (wipe σ vs) H' fun σ2 H2 => wipe σ2 vs = wipe σ vs ∧ tt σ2 H2 fun b H3 =>
        if b = true then te σ2 H3 fun y H4 => ∃ acc, H4 D = some (.lst acc) ∧ acc.length < sizeLine ∧ Nx (upd H4 D (.lst (acc ++ [y]))) else Nx H3) :=
  lc_it w (PrP H1 D out) ⟨same_new hD, [], upd_same, by rw [o0]; exact .nil⟩ (fun i H _ q => hG H q.1) hs (fun H q => hd H q)
end
end Lp

set_option Elab.async false
set_option linter.all false
set_option maxRecDepth 100000
set_option maxHeartbeats 8000000
namespace Lp
open PySem PySem.Spec PyProof.Rows L2
abbrev sAmounts : Stmt := top 15
abbrev sPlain : Stmt := top 16
def names5 : List Str := ["conn", "disk", "a", "b", "abcdefgh"]
/-- drawn amounts -/
structure Drawn5 (l : Am) : Prop where
  nd : (l.map (·.1)).Nodup
  ok : ∀ p ∈ l, p.1 ∈ names5 ∧ 0 ≤ p.2 ∧ p.2 < 10 ^ 21
theorem wd5 : ∀ n ∈ names5, wd n = true := by decide +kernel
theorem Drawn5.len {l : Am} (h : Drawn5 l) : l.length ≤ 5 := by
  have hs : l.map (·.1) ⊆ names5 := fun n hn => by
    obtain ⟨p, hp, rfl⟩ := List.mem_map.mp hn
    exact (h.ok p hp).1
  have key : ∀ (l m : List Str), l.Nodup → l ⊆ m → l.length ≤ m.length := by
    intro l
    induction l with
    | nil => intro m _ _; exact Nat.zero_le _
    | cons x r ih =>
      intro m hl hs
      have hn := List.nodup_cons.mp hl
      have hx : x ∈ m := hs List.mem_cons_self
      have h1 : r ⊆ m.erase x := fun y hy => (List.mem_erase_of_ne (fun (e : y = x) => hn.1 (by rw [← e]; exact hy))).mpr (hs (List.mem_cons_of_mem _ hy))
      have := ih (m.erase x) hn.2 h1
      rw [List.length_erase_of_mem hx] at this
      have h2 := List.length_pos_of_mem hx
      rw [List.length_cons]
      omega
  have := key _ _ h.nd hs
  rw [List.length_map] at this
  exact this
theorem Drawn5.fit {l : Am} (h : Drawn5 l) : Fit l := ⟨h.nd, fun p hp => ⟨wd5 _ (h.ok p hp).1, (h.ok p hp).2.1⟩, Nat.lt_of_le_of_lt h.len (by decide)⟩
theorem Drawn5.put {l : Am} (h : Drawn5 l) {n : Str} {z : Int} (hn : n ∈ names5) (z0 : 0 ≤ z) (z1 : z < 10 ^ 21) : Drawn5 (put l n z) := by
  refine ⟨?_, fun p hp => ?_⟩
  · rw [put_keys]
    split
    · exact h.nd
    · rename_i e
      exact List.nodup_append.mpr ⟨h.nd, by simp, fun a ha b hb => by
        rw [List.mem_singleton.mp hb]
        exact fun q => e (q ▸ ha)⟩
  · unfold Lp.put at hp
    split at hp
    · obtain ⟨q, hq, rfl⟩ := List.mem_map.mp hp
      split
      · exact ⟨(h.ok q hq).1, z0, z1⟩
      · exact h.ok q hq
    · rcases List.mem_append.mp hp with hp | hp
      · exact h.ok p hp
      · rw [List.mem_singleton.mp hp]
        exact ⟨hn, z0, z1⟩
/-- kept but for the draws -/
def But (d : Addr) (H H' : Hp) : Prop := ∀ b o, b ≠ d → H b = some o → H' b = some o
def spAmounts : Sp := fun vs H Q _ => ∃ d : Addr, vs = [.ref d] ∧ Two H d ∧ ∀ H' p l, But d H H' → Two H' d → H p = none → H' p = some (.dK (dsi l)) → Drawn5 l → Q (.ref p) H'
/-- what the loop of the draws keeps -/
def InvA (H : Hp) (d L D : Addr) (H' : Hp) (l : Am) : Prop := But d H H' ∧ Two H' d ∧ H' L = some (.lst (names5.map V.str)) ∧ H' D = some (.dK (dsi l)) ∧ Drawn5 l
structure Tl (mg : Str → Option Value) (aDraw : Addr) : Prop where
  range : mg "range" = none
  draw : mg "_law_draw" = some (.ref aDraw)
section
variable {P : Program} {w : World} {K : PySem.W.Frag} {mg : Str → Option Value} {base : Heap} {aDraw : Addr}
theorem scAm : FnScope ["_law_draws_here", "_law_names", "_law_found", "_law_turn", "_law_name", "_law_many"] ["_law_draws_here"] (defScope sAmounts) := ⟨rfl, rfl, rfl, by decide +kernel, rfl, by decide +kernel, by decide +kernel⟩
theorem ok_amounts {f : Addr} {fd : FuncData} (F : Fun K "_law_amounts" "_law_amounts" sAmounts f fd) (T : Tl mg aDraw) (Gd : Ct P w K mg base 1 aDraw ["_law_draws_here", "_law_upto"] spDraw) : FnOk P w K mg base CX0 2 f fd ["_law_draws_here"] spAmounts := by
  refine F.ok scAm (fun vs H Q E h => ?_) (fun cdv A outer s H vs Q E hr h => ?_)
  · obtain ⟨d, rfl, _⟩ := h
    rfl
  · obtain ⟨d, rfl, ht, q⟩ := h
    obtain ⟨fdd, Gd, kd, bd⟩ := Gd
    have hu := hu_of hr
    refine ⟨_, pss_cons (ps_set (i := 1) scAm.nd rfl (Or.inl rfl) (pe_lst (pa_cons pe_str (pa_cons pe_str (pa_cons pe_str (pa_cons pe_str (pa_cons pe_str pa_nil)))))))
      (pss_cons (ps_set (i := 2) scAm.nd rfl (Or.inl rfl) pe_dnewK)
      (pss_cons (ps_for PassesOwn.never rfl (pi_range1 rfl T.range (pa_cons (pe_call Gd hr (by rfl) T.draw kd bd .nil pass0 (pa_cons (pv 0) (pa_cons pe_int pa_nil))) pa_nil)) (pg_name (i := 3) scAm.nd rfl (Or.inl rfl))
        (pss_cons (ps_set (i := 4) scAm.nd rfl (Or.inl rfl) (pe_ix ix_list (pv 1) (pe_call Gd hr (by rfl) T.draw kd bd .nil pass0 (pa_cons (pv 0) (pa_cons pe_int pa_nil))) (fun _ _ => rfl)))
        (pss_cons (ps_set (i := 5) scAm.nd rfl (Or.inl rfl) (pe_ix ix_list (pe_lst (pa_cons (pe_call Gd hr (by rfl) T.draw kd bd .nil pass0 (pa_cons (pv 0) (pa_cons pe_int pa_nil))) (pa_cons (pe_call Gd hr (by rfl) T.draw kd bd .nil pass0 (pa_cons (pv 0) (pa_cons pe_int pa_nil)))
            (pa_cons (pe_op op_add (pe_op op_pow pe_int pe_int) (pe_call Gd hr (by rfl) T.draw kd bd .nil pass0 (pa_cons (pv 0) (pa_cons pe_int pa_nil)))) pa_nil)))) (pe_call Gd hr (by rfl) T.draw kd bd .nil pass0 (pa_cons (pv 0) (pa_cons pe_int pa_nil))) (fun _ _ => rfl)))
        (pss_one (ps_dput hu (pv 2) (pv 4) (pv 5) rfl)))))
      (pss_one (ps_ret (pv 2))))), ?_⟩
    refine ⟨(by show 5 ≤ sizeLine; decide), fun L hL => fun D hD => ?_⟩
    obtain ⟨c0, z0, hd0, w1, w2, w3⟩ := ht
    have nLd : L ≠ d := ne_fresh hd0 hL
    have nDd : D ≠ d := ne_fresh (keep hd0 hL) hD
    have nDL : D ≠ L := ne_fresh upd_same hD
    have hD0 : H D = none := by
      rw [upd_ne nDL] at hD
      exact hD
    have start : InvA H d L D (upd (upd H L (.lst (names5.map V.str))) D (.dK [])) [] := ⟨fun b o nb hb => keep (keep hb hL) hD, ⟨c0, z0, keep (keep hd0 hL) hD, w1, w2, w3⟩, keep upd_same hD, upd_same, ⟨by simp, fun p hp => nomatch hp⟩⟩
    have step : ∀ (H1 : Hp) (l : Am) (c s : Int), InvA H d L D H1 l → 0 ≤ c → 0 ≤ s → s < 2147483647 → InvA H d L D (upd H1 d (.lst [.int c, .int s])) l := fun H1 l c s h c0 s0 s1 =>
      ⟨fun b o nb hb => keepd (h.1 b o nb hb) nb, ⟨c, s, upd_same, c0, s0, s1⟩, keepd h.2.2.1 nLd, keepd h.2.2.2.1 nDd, h.2.2.2.2⟩
    refine ⟨_, rfl, d, 6, rfl, start.2.1, by decide, by decide, fun n c s n0 n6 c0 s0 s1 => ?_⟩
    have i1 := step _ _ _ _ start c0 s0 s1
    refine ⟨n, rfl, by omega, by omega, ?_⟩
    refine for_range (fun i σ H' => ∃ (v3 v4 v5 : Option V) (l : Am), σ = [some (.ref d), some (.ref L), some (.ref D), v3, v4, v5] ∧ InvA H d L D H' l) ⟨none, none, none, [], rfl, i1⟩ ?_ ?_
    case refine_2 =>
      rintro σ H' ⟨v3, v4, v5, l, rfl, h1, h2, h3, h4, h5⟩
      exact ⟨_, rfl, q _ _ _ h1 h2 hD0 h4 h5⟩
    rintro i σ H2 hi ⟨v3, v4, v5, l, rfl, iv⟩
    refine ⟨_, rfl, _, rfl, d, 5, rfl, iv.2.1, by decide, by decide, fun a1 c1 t1 a10 a15 c10 t10 t11 => ?_⟩
    have i2 := step _ _ _ _ iv c10 t10 t11
    generalize upd H2 d (.lst [.int c1, .int t1]) = H3 at i2 ⊢
    obtain ⟨j, rfl⟩ : ∃ j : Nat, a1 = j := ⟨a1.toNat, by omega⟩
    have hj : j < names5.length := by show j < 5; omega
    refine ⟨L, names5.map V.str, _, .str names5[j], rfl, rfl, SqL.of i2.2.2.1, atI_nat (by rw [List.getElem?_map, List.getElem?_eq_getElem hj]; rfl), ?_⟩
    -- the amount
    refine ⟨_, rfl, d, 7, rfl, i2.2.1, by decide, by decide, fun b1 c2 t2 b10 b17 c20 t20 t21 => ?_⟩
    have i3 := step _ _ _ _ i2 c20 t20 t21
    generalize upd H3 d (.lst [.int c2, .int t2]) = H4 at i3 ⊢
    refine ⟨_, rfl, d, 3, rfl, i3.2.1, by decide, by decide, fun b2 c3 t3 b20 b23 c30 t30 t31 => ?_⟩
    have i4 := step _ _ _ _ i3 c30 t30 t31
    generalize upd H4 d (.lst [.int c3, .int t3]) = H5 at i4 ⊢
    refine ⟨_, _, rfl, rfl, ⟨by decide, by decide, by decide⟩, _, rfl, d, 9, rfl, i4.2.1, by decide, by decide, fun b3 c4 t4 b30 b39 c40 t40 t41 => ?_⟩
    have i5 := step _ _ _ _ i4 c40 t40 t41
    generalize upd H5 d (.lst [.int c4, .int t4]) = H6 at i5 ⊢
    refine ⟨_, _, rfl, rfl, (by show 3 ≤ sizeLine; decide), fun M hM => ?_⟩
    have i6 : InvA H d L D (upd H6 M (.lst [.int b1, .int b2, .int (10 ^ 20 + b3)])) l := ⟨fun b o nb hb => keep (i5.1 b o nb hb) hM, by obtain ⟨c, s, h, r⟩ := i5.2.1; exact ⟨c, s, keep h hM, r⟩, keep i5.2.2.1 hM, keep i5.2.2.2.1 hM, i5.2.2.2.2⟩
    have nMd : M ≠ d := by
      obtain ⟨c, s, h, r⟩ := i5.2.1
      exact ne_fresh h hM
    have eM : (upd H6 M (.lst [.int b1, .int b2, .int (10 ^ 20 + b3)])) M = some (.lst [.int b1, .int b2, .int (10 ^ 20 + b3)]) := upd_same
    refine ⟨_, rfl, d, 3, rfl, i6.2.1, by decide, by decide, fun k c5 t5 k0 k3 c50 t50 t51 => ?_⟩
    have i7 := step _ _ _ _ i6 c50 t50 t51
    have eM7 := keepd (o := .lst [.int c5, .int t5]) eM nMd
    obtain ⟨k, rfl⟩ : ∃ k' : Nat, k = k' := ⟨k.toNat, by omega⟩
    obtain ⟨z, hz, hz0, hz1⟩ : ∃ z : Int, ([V.int b1, V.int b2, V.int (10 ^ 20 + b3)] : List V)[k]? = some (.int z) ∧ 0 ≤ z ∧ z < 10 ^ 21 := by
      have : k = 0 ∨ k = 1 ∨ k = 2 := by omega
      rcases this with rfl | rfl | rfl
      · exact ⟨b1, rfl, b10, by omega⟩
      · exact ⟨b2, rfl, b20, by omega⟩
      · exact ⟨10 ^ 20 + b3, rfl, by omega, by omega⟩
    refine ⟨M, _, _, .int z, rfl, rfl, SqL.of eM7, atI_nat hz, ?_⟩
    have hlen : (dsi l).length < sizeLine := by
      rw [dsi_len, sizeLine_eq]
      have := i7.2.2.2.2.len
      omega
    refine ⟨_, rfl, _, rfl, _, rfl, D, _, rfl, DPut.k (k := .inr names5[j]) i7.2.2.2.1 hlen, some (.int (0 + i)), some (.str names5[j]), some (.int z), put l names5[j] z, rfl, ?_⟩
    refine ⟨fun b o nb hb => keepd (i7.1 b o nb hb) (ne_of_none hb hD0), ?_, keepd i7.2.2.1 nDL.symm, ?_, i7.2.2.2.2.put (List.getElem_mem hj) hz0 hz1⟩
    · obtain ⟨c, s, h, r⟩ := i7.2.1
      exact ⟨c, s, keepd h nDd.symm, r⟩
    · exact Eq.trans upd_same (by rw [putK_put])
end
end Lp

set_option Elab.async false
set_option linter.all false
set_option maxRecDepth 100000
set_option maxHeartbeats 8000000
namespace Lp
open PySem PySem.Spec PyProof.Rows L2
theorem filter_srt (l : List Str) (p : Str → Bool) : (srt l).filter p = srt (l.filter p) :=
  PySem.W.Srt.the_of_perm leS leS_trans leS_total leS_anti ((srt_perm l).filter p) ((List.pairwise_mergeSort leS_trans leS_total l).sublist List.filter_sublist)
theorem keys_filter {l : Am} (hn : (l.map (·.1)).Nodup) : (l.map (·.1)).filter (fun n => decide (0 < am0 l n)) = (l.filter fun p => decide (0 < p.2)).map (·.1) := by
  have key : ∀ m : Am, (∀ p ∈ m, am0 l p.1 = p.2) → (m.map (·.1)).filter (fun n => decide (0 < am0 l n)) = (m.filter fun p => decide (0 < p.2)).map (·.1) := by
    intro m
    induction m with
    | nil => intro _; rfl
    | cons p r ih =>
      intro h
      rw [List.map_cons, List.filter_cons, List.filter_cons, h p List.mem_cons_self, ih fun q hq => h q (List.mem_cons_of_mem _ hq)]
      split <;> rfl
  exact key l fun p hp => by
    unfold am0
    rw [am_mem hn (show (p.1, p.2) ∈ l from hp)]
    rfl
/-- the sorted names, those above 0 -/
theorem srt_pos {l : Am} (hn : (l.map (·.1)).Nodup) : (srt (l.map (·.1))).filter (fun n => decide (0 < am0 l n)) = nms l := by
  rw [filter_srt, keys_filter hn]
  rfl
theorem cn_nodup {l : Am} (hn : (l.map (·.1)).Nodup) : ((cn l).map (·.1)).Nodup := by
  have e : (cn l).map (·.1) = nms l := by
    unfold cn
    rw [List.map_map]
    exact List.map_id'' (fun _ => rfl) _
  rw [e]
  exact nms_nodup hn
def spPlain : Sp := fun vs H Q _ => ∃ (d : Addr) (l : Am), vs = [.ref d] ∧ H d = some (.dK (dsi l)) ∧ (l.map (·.1)).Nodup ∧ l.length < 64 ∧ ∀ H' p, Same H H' → H p = none → H' p = some (.dK (dsi (cn l))) → Q (.ref p) H'
structure Tp (mg : Str → Option Value) : Prop where
  sorted : mg "sorted" = none
  dict : mg "dict" = none
section
variable {P : Program} {w : World} {K : PySem.W.Frag} {mg : Str → Option Value} {base : Heap}
theorem scPl : FnScope ["_law_amounts_here", "_law_name"] ["_law_amounts_here"] (defScope sPlain) := ⟨rfl, rfl, rfl, by decide +kernel, rfl, by decide +kernel, by decide +kernel⟩
theorem ok_plain {f : Addr} {fd : FuncData} (F : Fun K "_law_plain" "_law_plain" sPlain f fd) (T : Tp mg) : FnOk P w K mg base CX0 1 f fd ["_law_amounts_here"] spPlain := by
  refine F.ok scPl (fun vs H Q E h => ?_) (fun cdv A outer s H vs Q E hr h => ?_)
  · obtain ⟨d, l, rfl, _⟩ := h
    rfl
  · obtain ⟨d, l, rfl, hd, hn, h64, q⟩ := h
    have hu := hu_of hr
    refine ⟨_, pss_one (ps_ret (pe_callTy (call_dictP rfl) (by rfl) T.dict (by decide +kernel) (pa_cons (pe_lc (own := [("_law_name", 1)]) (g := gName 1) rfl scPl.nd (pi_list (pe_callB (id := "sorted") (call_sortedD rfl) (by rfl) T.sorted (by decide +kernel) (pa_cons (pv 0) pa_nil))) (blkOk_by (N := ["_law_amounts_here", "_law_name"]) (sc := (defScope sPlain)) (by decide +kernel))
        (fun _ _ _ _ _ => pg_name (i := 1) scPl.nd rfl (Or.inl rfl)) (fun _ _ _ _ _ => pts_one (pt_cmpR op_gt (pe_dget hu (pv 0) (pv 1) (fun _ _ => rfl)) pe_int (nomark _))) (fun _ _ _ _ _ => pe_tup (pa_cons (pv 1) (pa_cons (pe_dget hu (pv 0) (pv 1) (fun _ _ => rfl)) pa_nil)))) pa_nil))), ?_⟩
    refine ⟨_, rfl, d, _, l.map (·.1), rfl, .inl hd, by unfold dsi; rw [List.map_map, List.map_map]; rfl, by rw [List.length_map]; exact h64, fun ys p hp hs np => ?_⟩
    obtain rfl : ys = srt (l.map (·.1)) := sorted_eq hp hs
    have s1 : Same H (upd H p (.lst ((srt (l.map (·.1))).map V.str))) := same_new np
    have e1 : (upd H p (.lst ((srt (l.map (·.1))).map V.str))) p = some (.lst ((srt (l.map (·.1))).map V.str)) := upd_same
    generalize upd H p (.lst ((srt (l.map (·.1))).map V.str)) = H1 at s1 e1 ⊢
    have len : (srt (l.map (·.1))).length < 64 := by
      rw [(srt_perm _).length_eq, List.length_map]
      exact h64
    refine ⟨p, rfl, ⟨_, SqL.of e1⟩, fun D hD => ?_⟩
    refine lc_prs (walk_list (xs := (srt (l.map (·.1))).map V.str)) (fun i => (((srt (l.map (·.1))).take i).filter fun n => decide (0 < am0 l n)).map fun n => (n, am0 l n)) hD rfl (fun H s => SqL.of (s _ _ e1)) ?_ ?_
    · intro i y H2 H3 hi pp yy
      obtain ⟨rfl, hy⟩ := yy
      rw [List.getElem?_map] at hy
      obtain ⟨n, hn', rfl⟩ := Option.map_eq_some_iff.mp hy
      have hmem : n ∈ l.map (·.1) := (srt_perm _).mem_iff.mp (List.mem_of_getElem? hn')
      obtain ⟨⟨n', z⟩, hpz, rfl⟩ := List.mem_map.mp hmem
      have ham := am_mem hn hpz
      have ham0 : am0 l n' = z := by unfold am0; rw [ham]; rfl
      have hget : ∀ H', Same H1 H' → DGet H' d (.str n') (some (.int z)) := fun H' s => dget_am (.inl (s _ _ (s1 _ _ hd))) ham
      have hz : ((((srt (l.map (·.1))).take i).filter fun n => decide (0 < am0 l n)).map fun n => (n, am0 l n)).length < sizeLine := by
        rw [List.length_map, sizeLine_eq]
        have h1 := List.length_filter_le (fun n => decide (0 < am0 l n)) ((srt (l.map (·.1))).take i)
        have h2 := List.length_take_le' i (srt (l.map (·.1)))
        omega
      refine ⟨rfl, _, rfl, _, rfl, d, .int z, rfl, hget _ pp.1, z, 0, rfl, rfl, _, rfl, ?_⟩
      by_cases h0 : 0 < z
      · rw [decide_eq_true h0]
        refine iteT ?_
        refine ⟨_, rfl, _, rfl, _, rfl, d, .int z, rfl, hget _ pp.1, (by show 2 ≤ sizeLine; decide), fun t ht => ?_⟩
        refine pp.put same_refl ht hD ?_ hz
        rw [take_succ' hn', List.filter_append, List.map_append]
        simp [ham0, h0]
      · rw [decide_eq_false h0]
        refine iteF ?_
        refine pp.skip same_refl ?_
        rw [take_succ' hn', List.filter_append, List.map_append]
        simp [ham0, h0]
    · intro H2 pp
      obtain ⟨s2, ts, e2, pr⟩ := pp
      rw [List.length_map] at pr
      dsimp only at pr
      rw [List.take_length, srt_pos hn] at pr
      refine ⟨D, ts, _, rfl, SqL.of e2, prs_sq pr, fun p' np' => ?_⟩
      have em : mergeK [] (dsi ((nms l).map fun n => (n, am0 l n))) = dsi (cn l) := by
        have := mergeK_dsi (cn l) []
        rw [mrg_self (cn_nodup hn)] at this
        exact this
      rw [em]
      have sA := same_tr s1 s2
      exact q _ _ (same_upd sA np') (sA.free np') upd_same
end
end Lp

set_option Elab.async false
set_option linter.all false
set_option maxRecDepth 100000
set_option maxHeartbeats 4000000
/-! Own operators that may raise, within a try. -/
namespace Lp
open PySem PySem.Spec PyProof.Rows L2
section
variable {X : Cx} {CX : CXT} {k : Nat} {C f : Addr} {sp : Sp} {E : L2.St → XK} {pins : List (Addr × Obj)} {σ : L2.St} {H : Hp} {s : Shared}
theorem fnr_anyS {A : Around} {Q : VK} {us : List Value} {vs : List V} {E : XK} (F : FnR X.prog X.w X.K X.mg X.base CX k f sp) (sb : L2.Sub X k A) (hx : PassesAt CX X σ E) (I : Inv X pins σ H s) (r : Vals vs us) (h : sp vs H Q E) :
    wpAny (model X.prog X.w) A (call (.ref f) us) (EP X pins σ Q) X.xe s := by
  have e0 : Env0 X.prog X.w X.K X.mg X.base A X.stack s H := by
    have e := I.env0
    exact ⟨by rw [sb.fr]; exact e.frames, e.mod, e.bs, e.bsz, e.funs, e.frf, e.hok, e.bare⟩
  refine wpAny_call (codeAny_mono (F A X.stack s H us vs Q E sb.room e0 r h) fun r s' hq => ?_)
  cases r with
  | error e => exact hx pins H s e s' I hq
  | ok fl =>
    cases fl with
    | ret w => exact I.after hq
    | next => exact False.elim hq
    | brk => exact False.elim hq
    | cont => exact False.elim hq
/-- x op y, both instances of C; what is raised is wished for at the slots -/
def tBinS (C : Addr) (sp : Sp) (E : L2.St → XK) (ta tb : TE) : TE := fun σ H Q => ta σ H fun x H1 => tb σ H1 fun y H2 => rOwn2 C sp (E σ) x y H2 Q
theorem pe_binS {op : Operator} {a b : Expr} {ta tb : TE} {pos : Pos} (F : FnR X.prog X.w X.K X.mg X.base CX k f sp) (hr : Room k X.A) (hx : ∀ σ, PassesAt CX X σ (E σ)) (sf : PySem.W.selfFirst X.K C = true) (c : OpC X.K C f (PySem.dunder op.info.2)) (ha : PE X a ta) (hb : PE X b tb) :
    PE X (.BinOp a op b pos) (tBinS C sp E ta tb) := by
  refine ⟨fun pins s σ H Q I h => ?_⟩
  refine wpAny_BinOp (binT ha hb I h fun v u s2 x y H2 I2 rx ry ⟨a, b, ex, ey, ia, ib, q⟩ => ?_)
  subst ex ey
  cases rx
  cases ry
  obtain ⟨ox, od, J, _⟩ := inst_at I2 ia
  obtain ⟨oy, od', J', _⟩ := inst_at I2 ib
  obtain ⟨m, hF⟩ := I2.fr
  exact PySem.W.binop_K hF I2.ok.mod.kin J J'.type sf c.at_ c.fn (wpAny_mono (fnr_anyS (vs := [.ref a, .ref b]) F ⟨hr, rfl⟩ (hx σ) I2 (.cons rfl (.cons rfl .nil)) q) (fun v s' q => back_cmp q) fun _ _ z => z)
end
end Lp

set_option Elab.async false
set_option linter.all false
set_option maxRecDepth 100000
set_option maxHeartbeats 8000000
namespace Lp
open PySem PySem.Spec PyProof.Rows L2
abbrev sMinus : Stmt := top 17
abbrev sDue : Stmt := top 18
def spMinus : Sp := fun vs H Q _ => ∃ (d1 d2 : Addr) (l m : Am), vs = [.ref d1, .ref d2] ∧ H d1 = some (.dK (dsi l)) ∧ H d2 = some (.dK (dsi m)) ∧ Fit l ∧ Fit m ∧
  (∀ n, (nms m).find? (fun n => decide (am0 l n < am0 m n)) = some n → ∀ H', Same H H' → Q (.str n) H') ∧
  ((nms m).find? (fun n => decide (am0 l n < am0 m n)) = none → ∀ H' p l', Same H H' → H p = none → Fit l' → (∀ n, am0 l' n = am0 l n - am0 m n) → H' p = some (.dK (dsi (cn l'))) → Q (.ref p) H')
structure Tx (K : PySem.W.Frag) (cN : Addr) : Prop where
  xf : XfC K cN
  te : PySem.W.exmOne K (.ref cN) (.ref cN) = some true
section
variable {P : Program} {w : World} {K : PySem.W.Frag} {mg : Str → Option Value} {base : Heap} {a : Ads} {b : Bds} {cN fN : Addr}
/-- Sizes(d), d a dict of amounts -/
theorem mk_sz {C d : Addr} {H : Hp} {l : Am} {G : Addr → Hp → Prop} {E : XK} (hd : H d = some (.dK (dsi l))) (hf : Fit l) (h : ∀ H' p, Same H H' → H p = none → SzAt C H' p l → G p H') :
    ∀ x dx, H x = none → H dx = none → dx ≠ x → spInit C [.ref x, .ref d] (upd (upd H dx (.own x)) x (.ins C dx [])) (fun v H2 => v = .non ∧ G x H2) E := fun x dx nx ndx ne =>
  ⟨x, d, dx, l, rfl, upd_same, keep (keep hd ndx) (by rw [upd_ne ne.symm]; exact nx), hf, fun H' k z => ⟨rfl, h _ _ (same_make nx ndx k) nx z.at⟩⟩
theorem mk_szN {C d : Addr} {H : Hp} {l : Am} {G : Addr → Hp → Prop} {E : XK} (hd : H d = some (.dK (dsi l))) (hf : Fit l) (h : ∀ H' p, Same H H' → H p = none → SzN C H H' p l → G p H') :
    ∀ x dx, H x = none → H dx = none → dx ≠ x → spInit C [.ref x, .ref d] (upd (upd H dx (.own x)) x (.ins C dx [])) (fun v H2 => v = .non ∧ G x H2) E := fun x dx nx ndx ne =>
  ⟨x, d, dx, l, rfl, upd_same, keep (keep hd ndx) (by rw [upd_ne ne.symm]; exact nx), hf, fun H' k z => ⟨rfl, h _ _ (same_make nx ndx k) nx (by
    obtain ⟨f, d1, nl, dl, a1, a2, a3, a4, a5⟩ := z
    have low : ∀ {b : Addr}, (upd (upd H dx (.own x)) x (.ins C dx [])) b = none → H b = none := fun {b} hb => by
      cases e : H b with
      | none => rfl
      | some o =>
        rw [keep (keep e ndx) (by rw [upd_ne ne.symm]; exact nx)] at hb
        cases hb
    exact ⟨f, d1, nl, dl, a1, a2, a3, low a4, low a5⟩)⟩⟩
theorem scMi : FnScope ["_law_one", "_law_other", "e"] ["_law_one", "_law_other"] (defScope sMinus) := ⟨rfl, rfl, rfl, by decide +kernel, rfl, by decide +kernel, by decide +kernel⟩
theorem ok_minus {f : Addr} {fd : FuncData} (F : Fun K "_law_minus" "_law_minus" sMinus f fd) (T : Tsz K mg a b) (Tn_ : Tn K mg cN fN) (Tx_ : Tx K cN) (Gi0 : Ct P w K mg base 4 a.init ["self", "amounts"] (spInit a.C))
    (Gs : FnR P w K mg base (L2.CX P w) 6 b.sub (spSub a.C cN)) (Gb : Ct P w K mg base 1 b.byName ["self"] (spByName a.C)) : FnOk P w K mg base CX0 7 f fd ["_law_one", "_law_other"] spMinus := by
  refine F.ok scMi (fun vs H Q E h => ?_) (fun cdv A outer s H vs Q E hr h => ?_)
  · obtain ⟨d1, d2, l, m, rfl, _⟩ := h
    rfl
  · obtain ⟨d1, d2, l, m, rfl, h1, h2, f1, f2, qx, q⟩ := h
    obtain ⟨fdi, Gi, ki, bi_⟩ := Gi0
    obtain ⟨fdb, Gb, kb, bb⟩ := Gb
    have hr5 : Room (4 + 1) (A.deeper (envOfC "_law_minus" (defScope sMinus) s.heap.objs.size f cdv)) := hr.mono (by decide)
    have hr1 : Room 1 (A.deeper (envOfC "_law_minus" (defScope sMinus) s.heap.objs.size f cdv)) := hr.mono (by decide)
    refine ⟨_, pss_one (ps_try_as (i := 2) rfl rfl scMi.nd rfl rfl ⟨rfl, by decide, .inl Tn_.mN⟩ takes0
      (fun W pn xe tk _ => pss_one (ps_ret (pe_meth0 (pe_binS (op := .Sub) (C := a.C) Gs hr (fun σ => passAt tk σ) T.first T.sub (pe_make T.mkC Gi hr5 (by rfl) T.z.mC bi_ .nil pass0 (pa_cons (pv 0) pa_nil)) (pe_make T.mkC Gi hr5 (by rfl) T.z.mC bi_ .nil pass0 (pa_cons (pv 1) pa_nil))) T.z.cls T.byName Gb hr1 bb .nil pass0)))
      (fun a oe cls d pn hz hf => pss_one (ps_ret (pe_xf Tx_.xf Tn_.nf hz hf (pv 2))))), ?_⟩
    refine ⟨_, rfl, mk_sz h1 f1 fun H1 p1 s1 n1 z1 => ⟨_, rfl, mk_sz (s1 _ _ h2) f2 fun H2 p2 s2 n2 z2 => ?_⟩⟩
    have s12 := same_tr s1 s2
    refine ⟨p1, p2, rfl, rfl, isIns (z1.same s2), isIns z2, p1, p2, l, m, rfl, z1.same s2, z2, fun n hn H' d s' nd hd' => ?_, fun hn H' p l' s' np fl' e' z' => ?_⟩
    · exact ⟨true, Tx_.te, fun _ a ha => ⟨_, rfl, rfl, rfl, d, _, .str n, rfl, hd', rfl, qx n hn H' (same_tr s12 s')⟩, fun q => Bool.noConfusion q⟩
    · obtain ⟨dx, fs, ex, lx⟩ := sz_ins z'
      exact ⟨p, dx, fs, rfl, ex, lx "by_name" (by decide) (by decide), p, l', rfl, z', fun H6 p6 s6 n6 e6 => q hn _ _ _ (same_tr (same_tr s12 s') s6) ((same_tr s12 s').free n6) fl' e' e6⟩
end
end Lp

set_option Elab.async false
set_option linter.all false
set_option maxRecDepth 100000
set_option maxHeartbeats 8000000
namespace Lp
open PySem PySem.Spec PyProof.Rows L2
theorem nms_congr {l m : Am} (hl : (l.map (·.1)).Nodup) (hm : (m.map (·.1)).Nodup) (h : ∀ n, am0 l n = am0 m n) : nms l = nms m := by
  have hp : (nms l).Perm (nms m) := (List.perm_ext_iff_of_nodup (nms_nodup hl) (nms_nodup hm)).mpr fun n => by rw [mem_nms hl, mem_nms hm, h]
  have e : srt (nms l) = srt (nms m) := srt_of_perm hp
  have self : ∀ l : Am, srt (nms l) = nms l := fun l => by
    unfold nms
    exact (PySem.W.Srt.the_of_perm leS leS_trans leS_total leS_anti (.refl _) (List.pairwise_mergeSort leS_trans leS_total _)).symm
  rw [self, self] at e
  exact e
theorem cn_congr {l m : Am} (hl : (l.map (·.1)).Nodup) (hm : (m.map (·.1)).Nodup) (h : ∀ n, am0 l n = am0 m n) : cn l = cn m := by
  unfold cn
  rw [nms_congr hl hm h]
  exact List.map_congr_left fun n _ => by rw [h]
theorem find_filter {α : Type} (p q : α → Bool) : ∀ (l : List α), (∀ x ∈ l, p x = true → q x = true) → (l.filter q).find? p = l.find? p
  | [], _ => rfl
  | x :: r, h => by
    have ih := find_filter p q r fun y hy => h y (List.mem_cons_of_mem _ hy)
    rw [List.filter_cons, List.find?_cons]
    cases hp : p x with
    | true =>
      rw [if_pos (h x List.mem_cons_self hp), List.find?_cons, hp]
    | false =>
      split
      · rw [List.find?_cons, hp, ih]
      · exact ih
theorem find_head {α : Type} (p : α → Bool) : ∀ (l : List α), l.find? p = (l.filter p).head?
  | [] => rfl
  | x :: r => by
    rw [List.find?_cons, List.filter_cons]
    cases hp : p x with
    | true => simp
    | false =>
      simp only [Bool.false_eq_true, if_false]
      exact find_head p r
theorem getD_am (l : Am) (n : Str) : (valV (dsi l) (.inr n)).getD (.int 0) = .int (am0 l n) := by
  rw [valV_dsi]
  unfold am0
  cases am l n <;> rfl
theorem canLay_strs : ∀ zs : List Str, (∀ z ∈ zs, PyData.strOk z = true) → PyData.canLayAll0 (zs.map PyData.str) = true
  | [], _ => rfl
  | z :: r, h => by simp [PyData.canLayAll0, PyData.canLay0, canLay_strs r fun y hy => h y (List.mem_cons_of_mem _ hy), h z List.mem_cons_self]
theorem depth_strs : ∀ zs : List Str, PyData.depthAll (zs.map PyData.str) = 0
  | [] => rfl
  | _ :: r => by simp [PyData.depthAll, PyData.depth, depth_strs r]
theorem shaped_strs (zs : List Str) (h : ∀ z ∈ zs, PyData.strOk z = true) : SeqAt.shaped (.list (zs.map PyData.str)) = true := by
  simp [SeqAt.shaped, PyData.canLay0, PyData.depth, canLay_strs zs h, depth_strs]
theorem wd_ok {s : Str} (h : wd s = true) : PyData.strOk s = true := by
  unfold wd at h
  rw [Bool.and_eq_true, Bool.and_eq_true] at h
  have h2 := (Bool.and_eq_true_iff.mp h.2).1
  unfold PyData.strOk
  unfold Txt.isascii at h2
  rw [Array.all_eq_true] at h2 ⊢
  intro i hi
  have := of_decide_eq_true (h2 i hi)
  exact decide_eq_true (by omega)
theorem fit_ok {l : Am} (hf : Fit l) {s : Str} (h : s ∈ l.map (·.1)) : PyData.strOk s = true := by
  obtain ⟨p, hp, rfl⟩ := List.mem_map.mp h
  exact wd_ok (hf.ok p hp).1
theorem eqv_nilS (zs : List Str) : PyData.eqv (.list (zs.map PyData.str)) (.list []) = decide (zs = []) := by
  cases zs with
  | nil => rfl
  | cons n ns => simp [PyData.eqv, PyData.eqvAll]
/-- the first of which there is not enough, two ways -/
theorem short_eq {l m : Am} (hl : Fit l) (hm : Fit m) : ((srt (m.map (·.1))).filter fun n => decide (am0 l n < am0 m n)).head? = (nms m).find? fun n => decide (am0 l n < am0 m n) := by
  rw [← find_head, ← srt_pos hm.nd, find_filter]
  intro n _ h
  have h1 := of_decide_eq_true h
  have h2 := am0_nonneg hl n
  exact decide_eq_true (by omega)
/-- l without m, name by name -/
def less (l m : Am) : Am := l.map fun q => (q.1, q.2 - am0 m q.1)
theorem less_keys (l m : Am) : (less l m).map (·.1) = l.map (·.1) := by
  unfold less
  rw [List.map_map]
  rfl
theorem am_less {l : Am} (m : Am) (hn : (l.map (·.1)).Nodup) (n : Str) : am (less l m) n = (am l n).map (· - am0 m n) := by
  cases e : am l n with
  | none =>
    refine am_none ?_
    rw [less_keys]
    intro h
    obtain ⟨p, hp, rfl⟩ := List.mem_map.mp h
    rw [am_mem hn (show (p.1, p.2) ∈ l from hp)] at e
    cases e
  | some z => exact am_mem (by rw [less_keys]; exact hn) (List.mem_map.mpr ⟨(n, z), am_some e, rfl⟩)
def spDue : Sp := fun vs H Q _ => ∃ (d1 d2 : Addr) (l m : Am), vs = [.ref d1, .ref d2] ∧ H d1 = some (.dK (dsi l)) ∧ H d2 = some (.dK (dsi m)) ∧ Fit l ∧ Fit m ∧ d1 ≠ d2 ∧
  (∀ n, (nms m).find? (fun n => decide (am0 l n < am0 m n)) = some n → ∀ H', Same H H' → Q (.str n) H') ∧
  ((nms m).find? (fun n => decide (am0 l n < am0 m n)) = none → ∀ H' p, Same H H' → H p = none → H' p = some (.dK (dsi (cn (less l m)))) → Q (.ref p) H')
section
variable {P : Program} {w : World} {K : PySem.W.Frag} {mg : Str → Option Value} {base : Heap} {aPl : Addr}
theorem scDu : FnScope ["_law_one", "_law_other", "_law_short", "_law_name"] ["_law_one", "_law_other"] (defScope sDue) := ⟨rfl, rfl, rfl, by decide +kernel, rfl, by decide +kernel, by decide +kernel⟩
theorem ok_due {f : Addr} {fd : FuncData} (F : Fun K "_law_due" "_law_due" sDue f fd) (T : Tp mg) (mPl : mg "_law_plain" = some (.ref aPl)) (Gp : Ct P w K mg base 1 aPl ["_law_amounts_here"] spPlain) : FnOk P w K mg base CX0 2 f fd ["_law_one", "_law_other"] spDue := by
  refine F.ok scDu (fun vs H Q E h => ?_) (fun cdv A outer s H vs Q E hr h => ?_)
  · obtain ⟨d1, d2, l, m, rfl, _⟩ := h
    rfl
  · obtain ⟨d1, d2, l, m, rfl, h1, h2, f1, f2, hne, qx, q⟩ := h
    obtain ⟨fdp, Gp, kp, bp⟩ := Gp
    have hu := hu_of hr
    refine ⟨_, pss_cons (ps_setLc (i := 2) (own := [("_law_name", 3)]) (g := gName 3) rfl scDu.nd rfl rfl (by rfl) (pi_list (pe_callB (id := "sorted") (call_sortedD rfl) (by rfl) T.sorted (by decide +kernel) (pa_cons (pv 1) pa_nil))) (blkOk_by (N := ["_law_one", "_law_other", "_law_short", "_law_name"]) (sc := (defScope sDue)) (by decide +kernel))
        (fun _ _ _ _ _ => pg_name (i := 3) scDu.nd rfl (Or.inl rfl)) (fun _ _ _ _ _ => pts_one (pt_cmpR op_lt (pe_dget2 hu (pv 0) (pv 3) pe_int ⟨rfl, rfl, rfl, rfl⟩) (pe_dget hu (pv 1) (pv 3) (fun _ _ => rfl)) (nomark _))) (fun _ _ _ _ _ => pv 3))
      (pss_cons (ps_if (pt_cmpR (op_neD hr.units) (pv 2) (pe_lst pa_nil) (nomark _)) (pss_one (ps_ret (pe_ix ix_list (pv 2) pe_int (fun _ _ => rfl)))) pss_nil)
      (pss_one (ps_ret (pe_call Gp hr (by rfl) mPl kp bp .nil pass0 (pa_cons (pe_callTy (call_dictP rfl) (by rfl) T.dict (by decide +kernel) (pa_cons (pe_lock (pe_lc (own := [("_law_name", 3)]) (g := gName 3) (tt := tYes) rfl scDu.nd (pi_keys (pv 0)) (blkOk_by (N := ["_law_one", "_law_other", "_law_short", "_law_name"]) (sc := (defScope sDue)) (by decide +kernel))
        (fun _ _ _ _ _ => pg_name (i := 3) scDu.nd rfl (Or.inl rfl)) (fun _ _ _ _ _ => pts_nil) (fun _ _ _ _ _ => pe_tup (pa_cons (pv 3) (pa_cons (pe_op op_sub (pe_dget hu (pv 0) (pv 3) (fun _ _ => rfl)) (pe_dget2 hu (pv 1) (pv 3) pe_int ⟨rfl, rfl, rfl, rfl⟩)) pa_nil))))) pa_nil)) pa_nil))))), ?_⟩
    refine ⟨_, rfl, d2, _, m.map (·.1), rfl, .inl h2, by unfold dsi; rw [List.map_map, List.map_map]; rfl, by rw [List.length_map]; exact f2.len, fun ys p hp hs np => ?_⟩
    obtain rfl : ys = srt (m.map (·.1)) := sorted_eq hp hs
    have s1 : Same H (upd H p (.lst ((srt (m.map (·.1))).map V.str))) := same_new np
    have e1 : (upd H p (.lst ((srt (m.map (·.1))).map V.str))) p = some (.lst ((srt (m.map (·.1))).map V.str)) := upd_same
    generalize upd H p (.lst ((srt (m.map (·.1))).map V.str)) = H1 at s1 e1 ⊢
    have len : (srt (m.map (·.1))).length < 64 := by
      rw [(srt_perm _).length_eq, List.length_map]
      exact f2.len
    refine ⟨p, rfl, ⟨_, SqL.of e1⟩, fun D hD => ?_⟩
    refine lcx (walk_list (xs := (srt (m.map (·.1))).map V.str)) (fun i => (((srt (m.map (·.1))).take i).filter fun n => decide (am0 l n < am0 m n)).map V.str) hD rfl (fun H s => SqL.of (s _ _ e1)) ?_ ?_
    · intro i y H2 H3 hi pp yy
      obtain ⟨rfl, hy⟩ := yy
      rw [List.getElem?_map] at hy
      obtain ⟨n, hn', rfl⟩ := Option.map_eq_some_iff.mp hy
      have hmem : n ∈ m.map (·.1) := (srt_perm _).mem_iff.mp (List.mem_of_getElem? hn')
      obtain ⟨⟨n', z⟩, hpz, rfl⟩ := List.mem_map.mp hmem
      have ham := am_mem f2.nd hpz
      have ham0 : am0 m n' = z := by unfold am0; rw [ham]; rfl
      have hA := pp.1 _ _ (s1 _ _ h1)
      have hB := pp.1 _ _ (s1 _ _ h2)
      have hz : ((((srt (m.map (·.1))).take i).filter fun n => decide (am0 l n < am0 m n)).map V.str).length < sizeLine := by
        rw [List.length_map, sizeLine_eq]
        have h1 := List.length_filter_le (fun n => decide (am0 l n < am0 m n)) ((srt (m.map (·.1))).take i)
        have h2 := List.length_take_le' i (srt (m.map (·.1)))
        omega
      refine ⟨rfl, _, rfl, d1, rfl, .inl ⟨_, .inl hA⟩, _, rfl, _, .inl ⟨dsi l, .inr n', .inl hA, rfl, rfl⟩, _, rfl, _, rfl, d2, .int z, rfl, dget_am (.inl hB) ham, am0 l n', z, getD_am l n', rfl, _, rfl, ?_⟩
      rw [← ham0]
      refine ite2 (fun hc => ?_) fun hc => ?_
      · refine ⟨_, rfl, ?_⟩
        refine pp.put same_refl hD ?_ hz
        rw [take_succ' hn', List.filter_append, List.map_append]
        simp [of_decide_eq_true hc]
      · refine pp.skip same_refl ?_
        rw [take_succ' hn', List.filter_append, List.map_append]
        have : ¬ am0 l n' < am0 m n' := fun q => hc (decide_eq_true q)
        simp [this]
    · intro H2 s2 e2
      rw [List.length_map, List.take_length] at e2
      have s12 := same_tr s1 s2
      have hSh := short_eq f1 f2
      refine ⟨_, rfl, Nat.zero_le _, fun l0 hl0 => ?_⟩
      have s3 := same_upd (o := .lst []) s12 hl0
      have e3 := keep (o := .lst []) e2 hl0
      have hok : ∀ z ∈ (srt (m.map (·.1))).filter (fun n => decide (am0 l n < am0 m n)), PyData.strOk z = true := fun z hz => fit_ok f2 ((srt_perm _).mem_iff.mp (List.mem_filter.mp hz).1)
      refine ⟨_, _, .lst (SqL.of e3) (dp_strs _), .lst (SqL.of upd_same) .nil, shaped_strs _ hok, rfl, _, rfl, ?_⟩
      rw [eqv_nilS]
      generalize ((srt (m.map (·.1))).filter fun n => decide (am0 l n < am0 m n)) = S at e2 e3 hSh hok ⊢
      generalize upd H2 l0 (.lst []) = H3 at s3 e3 ⊢
      cases S with
      | cons n r =>
        refine iteT ?_
        exact ⟨_, rfl, D, _, 0, .str n, rfl, rfl, SqL.of e3, atI_nat (j := 0) rfl, qx n hSh.symm _ s3⟩
      | nil =>
        refine iteF ?_
        have q2 := q hSh.symm
        refine ⟨d1, _, s3 _ _ h1, trivial, fun od => ⟨_, rfl, d1, od, rfl, .inl ⟨_, upd_same, fun D2 hD2 => ?_⟩⟩⟩
        have hB3 : (upd H3 d1 (.frz od (.dK (dsi l)))) d2 = some (.dK (dsi m)) := keepd (s3 _ _ h2) hne.symm
        refine lc_prs walk_keys (fun i => (less l m).take i) hD2 rfl (fun H s => s _ _ upd_same) ?_ ?_
        · intro i y H4 H5 hi pp yy
          obtain ⟨rfl, k, v, ek, rfl⟩ := yy
          rw [dsi_len] at hi
          obtain ⟨⟨n, z⟩, hp'⟩ : ∃ p, l[i]? = some p := ⟨_, List.getElem?_eq_getElem hi⟩
          rw [dsi_get hp'] at ek
          cases ek
          have hA := pp.1 _ _ (upd_same (H := H3))
          have hB := pp.1 _ _ hB3
          have hout : (less l m)[i]? = some (n, z - am0 m n) := by
            unfold less
            rw [List.getElem?_map, hp']
            rfl
          refine ⟨rfl, ?_⟩
          dsimp only [tYes]
          refine iteT ?_
          refine ⟨_, rfl, _, rfl, _, rfl, d1, .int z, rfl, dget_am (.inr ⟨od, hA⟩) (am_mem f1.nd (List.mem_of_getElem? hp')), _, rfl, d2, rfl, .inl ⟨_, .inl hB⟩, _, rfl, _, .inl ⟨dsi m, .inr n, .inl hB, rfl, rfl⟩, z, am0 m n, rfl, getD_am m n, (by show 2 ≤ sizeLine; decide), fun t ht => ?_⟩
          refine pp.put same_refl ht hD2 (take_succ' hout) ?_
          have h2 := List.length_take_le' i (less l m)
          have h3 : (less l m).length = l.length := List.length_map ..
          have h4 := f1.len
          rw [sizeLine_eq]
          omega
        · intro H4 pp
          obtain ⟨s4, ts, e4, pr⟩ := pp
          rw [dsi_len] at pr
          dsimp only at pr
          rw [List.take_of_length_le (Nat.le_of_eq (show (less l m).length = l.length from List.length_map ..))] at pr
          have hfz := s4 _ _ (upd_same (H := H3))
          have nD2 : D2 ≠ d1 := (ne_of_none upd_same hD2).symm
          have s5 := same_tr s3 (same_unlock (s3 _ _ h1) s4)
          have e5 : (upd H4 d1 (.dK (dsi l))) D2 = some (.lst (ts.map V.ref)) := keepd e4 nD2
          have pr5 : Prs (upd H4 d1 (.dK (dsi l))) D2 ts (less l m) := Paired.mono (fun t q h => ⟨h.1, keepd h.2 fun e => by
            have := h.2
            rw [e, hfz] at this
            cases this⟩) pr
          have hln : ((less l m).map (·.1)).Nodup := by
            rw [less_keys]
            exact f1.nd
          refine ⟨hfz, D2, ts, _, rfl, SqL.of e5, prs_sq pr5, fun p6 n6 => ?_⟩
          have em : mergeK [] (dsi (less l m)) = dsi (less l m) := by
            have := mergeK_dsi (less l m) []
            rw [mrg_self hln] at this
            exact this
          rw [em]
          have s6 := same_upd (o := .dK (dsi (less l m))) s5 n6
          refine ⟨p6, less l m, rfl, upd_same, hln, ?_, fun H7 p7 s7 n7 e7 => q2 _ _ (same_tr s6 s7) (s6.free n7) e7⟩
          have h3 : (less l m).length = l.length := List.length_map ..
          have h4 := f1.len
          omega
end
end Lp

set_option Elab.async false
set_option linter.all false
set_option maxRecDepth 100000
set_option maxHeartbeats 4000000
/-! != of nested lists and dicts that are equal. -/
namespace PySem.SeqAt
open AutoSeq1 (wpAny_loadPart')
open MeetsSeq MeetsSeq2 MeetsSeq3 SeqRoads2
section
variable {prog : Program} {w : World}
theorem lp_ne_loopIn (l b : Addr) (items items2 : Array Value) (n n2 : Nat) (dd dd2 : Option Addr) (sl sl2 : Array (Option Value)) (hsz : items.size = items2.size) (e : Nat → Bool) (k : Nat) :
    ∀ i : Nat, items.size - i = k → MeetsIn prog w (Builtin.«list.__eq__.loop» ⟨[.ref l, .ref b, rawInt i, rawInt 3], []⟩)
      (fun A R s => s.heap.get? l = some { cls := .type "list", dict := dd, data := .seq items n, slots := sl } ∧ s.heap.get? b = some { cls := .type "list", dict := dd2, data := .seq items2 n2, slots := sl2 } ∧
        (∀ j (h1 : j < items.size) (h2 : j < items2.size), EqP prog w A.in1 s items[j] items2[j] (e j)) ∧
        R (.ok (.ret (.bool (!((List.range items.size).drop i).all e)))) s) := by
  induction k with
  | zero =>
    intro i hk A R s h
    obtain ⟨hp, g, d, tk, os⟩ := s; obtain ⟨hl, hb, he, h⟩ := h
    wp_walk using wpAny_loadPart' hl, wpAny_loadPart' hb
    have hi1 : items[((i : Nat) : Int).toNat]? = none := by simp; omega
    have hi2 : items2[((i : Nat) : Int).toNat]? = none := by simp; omega
    have hd : (List.range items.size).drop i = [] := by simp; omega
    rw [hd] at h
    rw [hi1, hi2]
    wp_walk using wpAny_loadPart' hl, wpAny_loadPart' hb
    show R (.ok (.ret (.bool (items.size != items2.size)))) _
    rw [hsz]
    simpa using h
  | succ k ih =>
    intro i hk A R s h
    obtain ⟨hp, g, d, tk, os⟩ := s; obtain ⟨hl, hb, he, h⟩ := h
    wp_walk using wpAny_loadPart' hl, wpAny_loadPart' hb
    have hlt : i < items.size := by omega
    have hlt2 : i < items2.size := by omega
    have hi1 : items[((i : Nat) : Int).toNat]? = some items[i] := by simp [hlt]
    have hi2 : items2[((i : Nat) : Int).toNat]? = some items2[i] := by simp [hlt2]
    have hd : (List.range items.size).drop i = i :: (List.range items.size).drop (i + 1) := by simp [List.drop_eq_getElem_cons, hlt]
    have hc : ((i : Int) + 1) = ((i + 1 : Nat) : Int) := by push_cast; rfl
    rw [hd, List.all_cons] at h
    rw [hi1, hi2]
    refine wpAny_bind (he i hlt hlt2 _ _ ?_)
    cases hb' : e i with
    | true =>
      rw [hb'] at h
      wp_walk
      rw [hc]
      exact ⟨plainId_quiet plain_eq_loop _, codeAny_builtin entry_eq_loop (by
        rw [Around.under_plainId plain_eq_loop _]
        exact ih (i + 1) (by omega) A R _ ⟨hl, hb, he, by simpa using h⟩)⟩
    | false =>
      rw [hb'] at h
      wp_walk using wpAny_loadPart' hl, wpAny_loadPart' hb
      rw [hi1, hi2]
      wp_walk
      simpa using h
theorem lp_list_neIn (l b : Addr) (items items2 : Array Value) (n n2 : Nat) (dd dd2 : Option Addr) (sl sl2 : Array (Option Value)) (hsz : items.size = items2.size) (e : Nat → Bool) :
    MeetsIn prog w (Builtin.«list.__ne__» ⟨[.ref l, .ref b], []⟩)
      (fun A R s => s.heap.get? l = some { cls := .type "list", dict := dd, data := .seq items n, slots := sl } ∧ s.heap.get? b = some { cls := .type "list", dict := dd2, data := .seq items2 n2, slots := sl2 } ∧
        (∀ j (h1 : j < items.size) (h2 : j < items2.size), EqP prog w A.in1 s items[j] items2[j] (e j)) ∧
        R (.ok (.ret (.bool (!(List.range items.size).all e)))) s) := by
  intro A R s h
  obtain ⟨hp, g, d, tk, os⟩ := s; obtain ⟨hl, hb, he, h⟩ := h
  have f3 := AutoSeq1.sub_list_list
  have hne : ¬ (items.size != items2.size) = true := by simp [hsz]
  wp_walk using wpAny_loadPart' hl, wpAny_loadPart' hb
  exact ⟨plainId_quiet plain_eq_loop _, codeAny_builtin entry_eq_loop (by
    rw [Around.under_plainId plain_eq_loop _]
    exact lp_ne_loopIn l b items items2 n n2 dd dd2 sl sl2 hsz e _ 0 rfl A R _ ⟨hl, hb, he, by simpa using h⟩)⟩
theorem lp_ncP_lists {A : Around} {s : Shared} {l b : Addr} {items items2 : Array Value} {e : Nat → Bool} (hl : s.heap.IsList l items) (hb : s.heap.IsList b items2) (hsz : items.size = items2.size) (hu : A.units < cLine)
    (he : ∀ j (h1 : j < items.size) (h2 : j < items2.size), EqP prog w A.in1 s items[j] items2[j] (e j)) (E Q : Value → Shared → Prop) (h : Q (.bool (!(List.range items.size).all e)) s) : wpAny (model prog w) A (richCompare .NotEq (.ref l) (.ref b)) Q E s := by
  obtain ⟨⟨cls, dd, data, sl⟩, ho, hc, n, hd⟩ := id hl
  obtain ⟨⟨cls2, dd2, data2, sl2⟩, ho2, hc2, n2, hd2⟩ := id hb
  simp only at hc hd hc2 hd2
  subst hc hd hc2 hd2
  have ta : s.TypeIs (.ref l) "list" := ⟨_, ho, rfl⟩
  have tb : s.TypeIs (.ref b) "list" := ⟨_, ho2, rfl⟩
  exact wpAny_richCompare_same_room (op := .NotEq) ta tb F.slot_list_ne (call_meetsIn F.slot_list_ne ta F.entry_list_ne (F.args_list_ne_2 _ _) (lp_list_neIn l b items items2 n n2 dd dd2 sl sl2 hsz e)
    ⟨ho, ho2, he, show Value.bool (!(List.range items.size).all e) ≠ Value.notImplemented ∧ Q (.bool (!(List.range items.size).all e)) s from ⟨(fun x => nomatch x), h⟩⟩) hu
end
end PySem.SeqAt
namespace Lp
open PySem PySem.Spec PyProof.Rows L2
section
variable {X : Cx}
/-- two lists of equal items are not unlike -/
def rNeV (K : PySem.W.Frag) : R2 := fun x y H Q => ∃ (a b : Addr) (xs ys : List V), x = .ref a ∧ y = .ref b ∧ SqL K H a xs ∧ SqL K H b ys ∧ Paired (EqV K H 60) xs ys ∧ Q (.bl false) H
theorem op_neV (hu : X.A.units + 64 < cLine) : OpR X (compareOp .NotEq) (rNeV X.K) := by
  intro pins s σ H x y v u Q I rx ry h
  obtain ⟨a, b, xs, ys, rfl, rfl, ha, hb, hp, q⟩ := h
  cases (show v = Value.ref a from rx)
  cases (show u = Value.ref b from ry)
  obtain ⟨us, r1, p1, _⟩ := I.list ha
  obtain ⟨ws, r2, p2, _⟩ := I.list hb
  have hsz : us.toArray.size = ws.toArray.size := by
    rw [List.size_toArray, List.size_toArray, ← r1.length, ← r2.length]
    exact Paired.length hp
  show wpAny _ _ (richCompare .NotEq _ _) _ _ _
  refine SeqAt.lp_ncP_lists (e := fun _ => true) p1.isList p2.isList hsz (by omega) (fun j h1 h2 => ?_) _ _ ?_
  · have k := items_run (fun x y v u h rx ry => eqV_run I 60 X.A.in1 (by show X.A.units + 1 + 60 < cLine; omega) x y v u h rx ry) hp r1 r2 j (by simpa using h1) (by simpa using h2)
    simpa using k
  · rw [show ((List.range us.toArray.size).all fun _ => true) = true from List.all_eq_true.mpr fun _ _ => rfl]
    exact ⟨.bl false, H, I, rfl, q⟩
/-- alike: flat values -/
theorem eqV_flat {K : PySem.W.Frag} {H : Hp} {n : Nat} {x : V} (h : flatB x = true) : EqV K H (n + 1) x x := .inl ⟨rfl, h⟩
theorem paired_same {K : PySem.W.Frag} {H : Hp} {n : Nat} : ∀ xs : List V, (∀ x ∈ xs, flatB x = true) → Paired (EqV K H (n + 1)) xs xs
  | [], _ => .nil
  | x :: r, h => .cons (eqV_flat (h x List.mem_cons_self)) (paired_same r fun y hy => h y (List.mem_cons_of_mem _ hy))
theorem eqV_lists {K : PySem.W.Frag} {H : Hp} {n : Nat} {a b : Addr} {xs : List V} (ha : SqL K H a xs) (hb : SqL K H b xs) (h : ∀ x ∈ xs, flatB x = true) : EqV K H (n + 2) (.ref a) (.ref b) := .inr (.inr (.inl ⟨a, b, xs, xs, rfl, rfl, ha, hb, paired_same xs h⟩))
theorem eqV_dicts {K : PySem.W.Frag} {H : Hp} {n : Nat} {a b : Addr} {l : Am} (hn : (l.map (·.1)).Nodup) (ha : H a = some (.dK (dsi l))) (hb : H b = some (.dK (dsi l))) : EqV K H (n + 2) (.ref a) (.ref b) := by
  refine .inr (.inr (.inr ⟨a, b, _, _, rfl, rfl, ha, hb, rfl, fun p hp => ?_⟩))
  obtain ⟨q, hq, rfl⟩ := List.mem_map.mp hp
  exact ⟨.int q.2, by rw [valV_dsi, am_mem hn (show (q.1, q.2) ∈ l from hq)]; rfl, eqV_flat rfl⟩
end
end Lp

set_option Elab.async false
set_option linter.all false
set_option maxRecDepth 100000
set_option maxHeartbeats 8000000
namespace Lp
open PySem PySem.Spec PyProof.Rows L2
abbrev sTold : Stmt := top 19
theorem dsi_keysV (l : Am) : (dsi (cn l)).map (fun kv => kV kv.1) = (nms l).map V.str := by
  unfold dsi cn
  rw [List.map_map, List.map_map]
  rfl
theorem dsi_keysW (l : Am) : (dsi l).map (fun kv => kV kv.1) = (l.map (·.1)).map V.str := by
  unfold dsi
  rw [List.map_map, List.map_map]
  rfl
theorem dsi_valsV (l : Am) : (dsi l).map Prod.snd = (l.map (·.2)).map V.int := by
  unfold dsi
  rw [List.map_map, List.map_map]
  rfl
theorem cn_len (l : Am) : (cn l).length = (nms l).length := List.length_map ..
theorem flat_strs (zs : List Str) : ∀ x ∈ zs.map V.str, flatB x = true := fun x hx => by
  obtain ⟨z, _, rfl⟩ := List.mem_map.mp hx
  rfl
theorem flat_ints (zs : List Int) : ∀ x ∈ zs.map V.int, flatB x = true := fun x hx => by
  obtain ⟨z, _, rfl⟩ := List.mem_map.mp hx
  rfl
theorem lc_keysd {te : TE} {d : Addr} {od : Obj} {l : Am} {σ : L2.St} {vs : List Nat} {i : Nat} {H1 : Hp} {D : Addr} {Qd : Hp → Prop} (g : Str → V) (hfz : H1 d = some (.frz od (.dK (dsi l)))) (hD : H1 D = none) (hi : ∀ v, wipe ((wipe σ vs).set i v) vs = wipe σ vs) (hlen : l.length < sizeLine)
    (turn : ∀ p ∈ l, ∀ H (Q : VK), Same H1 H → (∀ H', Same H H' → Q (g p.1) H') → te ((wipe σ vs).set i (some (.str p.1))) H Q)
    (hd : ∀ H, Same H1 H → H D = some (.lst ((l.map (·.1)).map g)) → Qd H) :
    ∃ W : Nat → Nat → Hp → Prop, (∃ m, W 0 m (upd H1 D (.lst []))) ∧ ∀ i' m H, W i' m H →
      ((Itk d od (dsi l)).stop i' H ∧ Qd H) ∨ ((Itk d od (dsi l)).go i' H ∧ ∃ Nx : Hp → Prop, (∀ H', Nx H' → ∃ m', m' < m ∧ W (i' + 1) m' H') ∧ ∀ x H', (Itk d od (dsi l)).yld i' H x H' → gName i x (wipe σ vs) H' fun σ2 H2 => wipe σ2 vs = wipe σ vs ∧ tYes σ2 H2 fun b H3 =>
        if b = true then te σ2 H3 fun y H4 => ∃ acc, H4 D = some (.lst acc) ∧ acc.length < sizeLine ∧ Nx (upd H4 D (.lst (acc ++ [y]))) else Nx H3) := by
  refine lcx walk_keys (fun j => ((l.map (·.1)).take j).map g) hD rfl (fun H s => s _ _ hfz) ?_ ?_
  · intro j y H3 H4 hj p yy
    obtain ⟨rfl, k, v, ek, rfl⟩ := yy
    rw [dsi_len] at hj
    obtain ⟨⟨n, z⟩, hp'⟩ : ∃ p, l[j]? = some p := ⟨_, List.getElem?_eq_getElem hj⟩
    rw [dsi_get hp'] at ek
    cases ek
    have hn : (l.map (·.1))[j]? = some n := by rw [List.getElem?_map, hp']; rfl
    refine ⟨hi _, ?_⟩
    dsimp only [tYes]
    refine iteT ?_
    refine turn (n, z) (List.mem_of_getElem? hp') _ _ p.1 fun H5 s5 => ?_
    refine p.put s5 hD ?_ ?_
    · rw [take_succ' hn, List.map_append]
      rfl
    · rw [List.length_map]
      have h2 := List.length_take_le' j (l.map (·.1))
      rw [List.length_map] at h2
      omega
  · intro H s e
    rw [dsi_len] at e
    rw [List.take_of_length_le (Nat.le_of_eq (List.length_map ..))] at e
    exact hd H s e
theorem keys_vals {l : Am} (hn : (l.map (·.1)).Nodup) (g : Int → V) : (l.map (·.1)).map (fun n => g (am0 l n)) = (l.map (·.2)).map g := by
  rw [List.map_map, List.map_map]
  refine List.map_congr_left fun p hp => ?_
  show g (am0 l p.1) = g p.2
  unfold am0
  rw [am_mem hn (show (p.1, p.2) ∈ l from hp)]
  rfl
theorem zz_out {l : Am} (hl : Drawn5 l) : am0 l "zz" = 0 := by
  unfold am0
  rw [am_none]
  · rfl
  · intro h
    obtain ⟨p, hp, e⟩ := List.mem_map.mp h
    have := (hl.ok p hp).1
    rw [e] at this
    exact absurd this (by decide)
structure Tk (K : PySem.W.Frag) : Prop where
  nonStr : PySem.W.kitOne K (.type "NoneType") (.type "str") = some false
  intStr : PySem.W.kitOne K (.type "int") (.type "str") = some false
  listStr : PySem.W.kitOne K (.type "list") (.type "str") = some false
theorem join_len (sep : Str) (ts : List Str) : (Txt.join sep ts).length = (ts.map (·.length)).sum + (ts.length - 1) * sep.length := size_glued sep ts
theorem small_bound {l : Am} (h : Drawn5 l) (n : Str) : am0 l n < 10 ^ 400 := by
  have h21 : (10 : Int) ^ 21 ≤ 10 ^ 400 := by decide +kernel
  unfold am0
  cases e : am l n with
  | none => exact Int.lt_of_lt_of_le (by decide) h21
  | some v => exact Int.lt_of_lt_of_le (h.ok _ (am_some e)).2.2 h21
theorem am_cn_pos {l : Am} (hf : Fit l) {p : Str × Int} (h : p ∈ cn l) : am (cn l) p.1 = some (am0 l p.1) ∧ p.1 ∈ nms l := by
  unfold cn at h
  obtain ⟨n, hn, rfl⟩ := List.mem_map.mp h
  refine ⟨?_, hn⟩
  show am (cn l) n = _
  rw [am_cn hf, if_pos ((mem_nms hf.nd).mp hn)]
def spTold : Sp := fun vs H Q _ => ∃ (d : Addr) (l : Am), vs = [.ref d] ∧ H d = some (.dK (dsi l)) ∧ Drawn5 l ∧ ∀ H', Same H H' → Q (.bl true) H'
section
variable {P : Program} {w : World} {K : PySem.W.Frag} {mg : Str → Option Value} {base : Heap} {a : Ads} {b : Bds} {aPl pTot : Addr}
theorem scTo : FnScope ["_law_amounts_here", "_law_sizes", "_law_plain_here", "_law_due_here", "_law_name", "_law_odd"] ["_law_amounts_here"] (defScope sTold) := ⟨rfl, rfl, rfl, by decide +kernel, rfl, by decide +kernel, by decide +kernel⟩
theorem ok_told {f : Addr} {fd : FuncData} (F : Fun K "_law_told_right" "_law_told_right" sTold f fd) (T : Tsz K mg a b) (mPl : mg "_law_plain" = some (.ref aPl)) (Gp0 : Ct P w K mg base 1 aPl ["_law_amounts_here"] spPlain) (Gi0 : Ct P w K mg base 4 a.init ["self", "amounts"] (spInit a.C))
    (G1 : Ct P w K mg base 1 b.get ["self", "at"] (spGet K a.C)) (G2 : Ct P w K mg base 3 b.has ["self", "x"] (spHas K a.C)) (G3 : Ct P w K mg base 1 b.len ["self"] (spLen a.C)) (G4 : Ct P w K mg base 1 b.str ["self"] (spStr a.C))
    (Gn0 : Ct P w K mg base 1 b.names ["self"] (spNames a.C)) (Gb0 : Ct P w K mg base 1 b.byName ["self"] (spByName a.C)) (Gt0 : Ct P w K mg base 1 b.total ["self"] (spTotal a.C)) (Pt : PropOf K a.C "total" pTot b.total) (Tk_ : Tk K) : FnOk P w K mg base CX0 6 f fd ["_law_amounts_here"] spTold := by
  refine F.ok scTo (fun vs H Q E h => ?_) (fun cdv A outer s H vs Q E hr h => ?_)
  · obtain ⟨d, l, rfl, _⟩ := h
    rfl
  · obtain ⟨d, l, rfl, hd, hl, q⟩ := h
    obtain ⟨fdi, Gi, ki, bi_⟩ := Gi0
    obtain ⟨fdp, Gp, kp, bp⟩ := Gp0
    obtain ⟨fdn, Gn, kn, bn⟩ := Gn0
    obtain ⟨fdb, Gb, kb, bb⟩ := Gb0
    obtain ⟨fdt, Gt, kt, bt⟩ := Gt0
    have hu := hu_of hr
    have hr5 : Room (4 + 1) (A.deeper (envOfC "_law_told_right" (defScope sTold) s.heap.objs.size f cdv)) := hr.mono (by decide)
    have hr3 : Room 3 (A.deeper (envOfC "_law_told_right" (defScope sTold) s.heap.objs.size f cdv)) := hr.mono (by decide)
    have hr3b : Room (1 + 2) (A.deeper (envOfC "_law_told_right" (defScope sTold) s.heap.objs.size f cdv)) := hr.mono (by decide)
    have hr2 : Room (1 + 1) (A.deeper (envOfC "_law_told_right" (defScope sTold) s.heap.objs.size f cdv)) := hr.mono (by decide)
    have hr1 : Room 1 (A.deeper (envOfC "_law_told_right" (defScope sTold) s.heap.objs.size f cdv)) := hr.mono (by decide)
    refine ⟨_, (pss_cons (ps_asg (pe_tup (pa_cons (pe_make T.mkC Gi hr5 (by rfl) T.z.mC bi_ .nil pass0 (pa_cons (pv 0) pa_nil)) (pa_cons (pe_call Gp hr1 (by rfl) mPl kp bp .nil pass0 (pa_cons (pv 0) pa_nil)) pa_nil))) (pg_tup (n := 2) rfl (pgs_cons (pg_name (i := 1) scTo.nd rfl (Or.inr rfl)) (pgs_cons (pg_name (i := 2) scTo.nd rfl (Or.inr rfl)) pgs_nil))))
      (pss_cons (ps_set (i := 3) scTo.nd rfl (Or.inl rfl) (pe_lst (pa_cons (pe_callTy (call_listD rfl) (by rfl) T.list (by decide +kernel) (pa_cons (pv 2) pa_nil)) (pa_cons (pe_callB call_lenD (by rfl) T.z.bi.len PySem.boot_len (pa_cons (pv 2) pa_nil)) (pa_cons (pe_sumVals rfl (pv 2) (by rfl) T.sum) (pa_cons (pv 2) pa_nil))))))
      (pss_cons (ps_if (pt_cmpR (op_neV hr.units) (pe_lst (pa_cons (pe_meth0 (pv 1) T.z.cls T.names Gn hr1 bn .nil pass0) (pa_cons (pe_callB (id := "len") (cr_lenO (C := a.C) G3.r hr2 pass0 T.len) (by rfl) T.z.bi.len PySem.boot_len (pa_cons (pv 1) pa_nil)) (pa_cons (pe_prop (pv 1) T.z.cls Pt Gt hr2 bt .nil pass0 (by rfl)) (pa_cons (pe_meth0 (pv 1) T.z.cls T.byName Gb hr1 bb .nil pass0) pa_nil))))) (pv 3) (nomark _)) (pss_one (ps_ret pe_bl)) pss_nil)
      (pss_cons (ps_if (pt_cmpR (op_neV hr.units) (pe_lock (pe_lc (own := [("_law_name", 4)]) (g := gName 4) (tt := tYes) (te := tOp (rOwnIx a.C (spGet K a.C) E0) (tVar 1) (tVar 4)) rfl scTo.nd (pi_keys (pv 0)) (blkOk_by (N := ["_law_amounts_here", "_law_sizes", "_law_plain_here", "_law_due_here", "_law_name", "_law_odd"]) (sc := (defScope sTold)) (by decide +kernel))
        (fun _ _ _ _ _ => pg_name (i := 4) scTo.nd rfl (Or.inl rfl)) (fun _ _ _ _ _ => pts_nil) (fun _ _ _ _ _ => (pe_ixO (C := a.C) G1.r hr2 pass0 T.get T.getIn (pv 1) (pv 4))))) (pe_listVals rfl (pv 0) (by rfl) T.list) (nomark _)) (pss_one (ps_ret pe_bl)) pss_nil)
      (pss_cons (ps_if (pt_cmpR (op_neV hr.units) (pe_lc (own := [("_law_odd", 5)]) (g := gName 5) (tt := tYes) (te := tOp (rOwnIx a.C (spGet K a.C) E0) (tVar 1) (tVar 5)) rfl scTo.nd (pi_list (pe_lst (pa_cons pe_str (pa_cons pe_non (pa_cons pe_int (pa_cons (pe_lst pa_nil) pa_nil)))))) (blkOk_by (N := ["_law_amounts_here", "_law_sizes", "_law_plain_here", "_law_due_here", "_law_name", "_law_odd"]) (sc := (defScope sTold)) (by decide +kernel))
        (fun _ _ _ _ _ => pg_name (i := 5) scTo.nd rfl (Or.inl rfl)) (fun _ _ _ _ _ => pts_nil) (fun _ _ _ _ _ => (pe_ixO (C := a.C) G1.r hr2 pass0 T.get T.getIn (pv 1) (pv 5)))) (pe_op op_rep (pe_lst (pa_cons pe_int pa_nil)) pe_int) (nomark _)) (pss_one (ps_ret pe_bl)) pss_nil)
      (pss_cons (ps_if (pt_cmpR (op_neV hr.units) (pe_lock (pe_lc (own := [("_law_name", 4)]) (g := gName 4) (tt := tYes) (te := tOp (rOwnIn a.C (spHas K a.C) E0) (tVar 4) (tVar 1)) rfl scTo.nd (pi_keys (pv 0)) (blkOk_by (N := ["_law_amounts_here", "_law_sizes", "_law_plain_here", "_law_due_here", "_law_name", "_law_odd"]) (sc := (defScope sTold)) (by decide +kernel))
        (fun _ _ _ _ _ => pg_name (i := 4) scTo.nd rfl (Or.inl rfl)) (fun _ _ _ _ _ => pts_nil) (fun _ _ _ _ _ => (pe_cmpR (opo_in (C := a.C) G2.r hr3 pass0 T.has) (pv 4) (pv 1) (by rfl))))) (pe_lock (pe_lc (own := [("_law_name", 4)]) (g := gName 4) (tt := tYes) rfl scTo.nd (pi_keys (pv 0)) (blkOk_by (N := ["_law_amounts_here", "_law_sizes", "_law_plain_here", "_law_due_here", "_law_name", "_law_odd"]) (sc := (defScope sTold)) (by decide +kernel))
        (fun _ _ _ _ _ => pg_name (i := 4) scTo.nd rfl (Or.inl rfl)) (fun _ _ _ _ _ => pts_nil) (fun _ _ _ _ _ => (pe_cmpR op_gt (pe_dget hu (pv 0) (pv 4) (fun _ _ => rfl)) pe_int (nomark _))))) (nomark _)) (pss_one (ps_ret pe_bl)) pss_nil)
      (pss_cons (ps_if (PW.pt (pw_or (pt_cmpR (opo_in (C := a.C) G2.r hr3 pass0 T.has) pe_str (pv 1) (by rfl)) (pw_or1 (pt_cmpR (opo_in (C := a.C) G2.r hr3 pass0 T.has) (pe_lst pa_nil) (pv 1) (by rfl))))) (pss_one (ps_ret pe_bl)) pss_nil)
      (pss_one (ps_ret (pe_cmpR op_eq (pe_callTy (cr_strO (C := a.C) G4.r hr3b pass0 T.str) (by rfl) T.z.str (by decide +kernel) (pa_cons (pv 1) pa_nil)) (pe_orT (pe_join pe_str (pe_lock (pe_lc (own := [("_law_name", 4)]) (g := gName 4) (tt := tYes) rfl scTo.nd (pi_keys (pv 2)) (blkOk_by (N := ["_law_amounts_here", "_law_sizes", "_law_plain_here", "_law_due_here", "_law_name", "_law_odd"]) (sc := (defScope sTold)) (by decide +kernel))
        (fun _ _ _ _ _ => pg_name (i := 4) scTo.nd rfl (Or.inl rfl)) (fun _ _ _ _ _ => pts_nil) (fun _ _ _ _ _ => (pe_op op_add_str (pe_op op_add_str (pv 4) pe_str) (pe_callTy call_str_int (by rfl) T.z.str (by decide +kernel) (pa_cons (pe_dget hu (pv 2) (pv 4) (fun _ _ => rfl)) pa_nil))))))) (pe_one pe_str)) (nomark _))))))))))), ?_⟩
    have hfit := hl.fit
    refine ⟨_, rfl, mk_sz hd hfit fun H1 x s1 n1 z1 => ⟨_, rfl, d, l, rfl, s1 _ _ hd, hl.nd, hfit.len, fun H2 p2 s2 n2 e2 => ⟨(by show 2 ≤ sizeLine; decide), fun t nt => ?_⟩⟩⟩
    refine ⟨t, _, rfl, SqT.of upd_same, rfl, _, _, rfl, _, _, rfl, rfl, ?_⟩
    have sA : Same H (upd H2 t (.tup [.ref x, .ref p2])) := same_upd (same_tr s1 s2) nt
    have z2 := (z1.same s2).same (same_new (o := .tup [.ref x, .ref p2]) nt)
    have e3 := keep (o := .tup [.ref x, .ref p2]) e2 nt
    generalize upd H2 t (.tup [.ref x, .ref p2]) = H3 at sA z2 e3 ⊢
    refine ⟨_, rfl, p2, _, rfl, .inl e3, fun L1 nL1 => ⟨_, rfl, p2, _, rfl, keep e3 nL1, _, rfl, p2, _, rfl, keep e3 nL1, _, dsi_valsV (cn l), _, rfl, (by show 4 ≤ sizeLine; decide), fun D3 nD3 => ?_⟩⟩
    rw [dsi_keysV] at nD3 ⊢
    have sB := same_upd (o := .lst [.ref L1, .int (dsi (cn l)).length, .int ((cn l).map (·.2)).sum, .ref p2]) (same_new (o := .lst ((nms l).map V.str)) nL1) nD3
    have eL1 := keep (o := .lst [.ref L1, .int (dsi (cn l)).length, .int ((cn l).map (·.2)).sum, .ref p2]) (upd_same (H := H3) (o := .lst ((nms l).map V.str))) nD3
    have eD3 : (upd (upd H3 L1 (.lst ((nms l).map V.str))) D3 (.lst [.ref L1, .int (dsi (cn l)).length, .int ((cn l).map (·.2)).sum, .ref p2])) D3 = some (.lst [.ref L1, .int (dsi (cn l)).length, .int ((cn l).map (·.2)).sum, .ref p2]) := upd_same
    generalize (upd (upd H3 L1 (.lst ((nms l).map V.str))) D3 (.lst [.ref L1, .int (dsi (cn l)).length, .int ((cn l).map (·.2)).sum, .ref p2])) = H4 at sB eL1 eD3 ⊢
    have sC := same_tr sA sB
    have z4 := z2.same sB
    have e4 := sB _ _ e3
    obtain ⟨dx, fx, ex, lx⟩ := sz_ins z4
    -- names, len, total, by_name
    refine ⟨_, rfl, x, dx, fx, rfl, ex, lx "names" (by decide) (by decide), x, l, rfl, z4, fun N1 nN1 => ?_⟩
    have sN := same_new (o := .lst ((nms l).map V.str)) nN1
    have h63 := nms_lt hfit
    refine ⟨_, rfl, x, rfl, isIns (z4.same sN), x, l, rfl, z4.same sN, _, rfl, ⟨by omega, by omega⟩, ?_⟩
    refine ⟨_, rfl, x, dx, fx, rfl, sN _ _ ex, x, l, rfl, z4.same sN, fun H5 s5 => ?_⟩
    have sN5 := same_tr sN s5
    refine ⟨_, rfl, x, dx, fx, rfl, sN5 _ _ ex, lx "by_name" (by decide) (by decide), x, l, rfl, z4.same sN5, fun H6 p6 s6 n6 e6 => ⟨(by show 4 ≤ sizeLine; decide), fun M nM => ?_⟩⟩
    have sN6 := same_tr sN5 s6
    have sM := same_upd (o := .lst [.ref N1, .int (nms l).length, .int ((cn l).map (·.2)).sum, .ref p6]) sN6 nM
    have eM : (upd H6 M (.lst [.ref N1, .int (nms l).length, .int ((cn l).map (·.2)).sum, .ref p6])) M = some (.lst [.ref N1, .int (nms l).length, .int ((cn l).map (·.2)).sum, .ref p6]) := upd_same
    have eN1 := keep (o := .lst [.ref N1, .int (nms l).length, .int ((cn l).map (·.2)).sum, .ref p6]) (s6 _ _ (s5 _ _ (upd_same (H := H4) (a := N1) (o := .lst ((nms l).map V.str))))) nM
    have e6' := keep (o := .lst [.ref N1, .int (nms l).length, .int ((cn l).map (·.2)).sum, .ref p6]) e6 nM
    refine ⟨_, rfl, M, D3, _, _, rfl, rfl, SqL.of eM, SqL.of (sM _ _ eD3), .cons (eqV_lists (SqL.of eN1) (SqL.of (sM _ _ eL1)) (flat_strs _)) (.cons ?_ (.cons (eqV_flat rfl) (.cons (eqV_dicts (cn_nodup hl.nd) e6' (sM _ _ e4)) .nil))), _, rfl, iteF ?_⟩
    · rw [dsi_len, cn_len]
      exact eqV_flat rfl
    have sD := same_tr sC sM
    have z7 := z4.same sM
    have e7 := sM _ _ e4
    generalize (upd H6 M (.lst [.ref N1, .int (nms l).length, .int ((cn l).map (·.2)).sum, .ref p6])) = H7 at sD z7 e7 ⊢
    -- each amount by its name
    have len5 := hl.len
    refine ⟨d, _, sD _ _ hd, trivial, fun od => ⟨_, rfl, d, od, rfl, .inl ⟨_, upd_same, fun D4 nD4 => ?_⟩⟩⟩
    refine lc_keysd (fun n => .int (am0 l n)) upd_same nD4 (fun v => rfl) (by rw [sizeLine_eq]; omega) ?_ ?_
    · intro p hp H8 Q8 s8 q8
      have zr := (z7.lock (sD _ _ hd) od).same s8
      exact ⟨_, rfl, _, rfl, x, rfl, isInsR zr, x, l, _, rfl, zr, .inl ⟨p.1, rfl, q8 _ same_refl⟩⟩
    intro H8 s8 e8
    refine ⟨s8 _ _ upd_same, ?_⟩
    have sU := same_unlock (sD _ _ hd) s8
    have eU : (upd H8 d (.dK (dsi l))) D4 = some (.lst ((l.map (·.2)).map V.int)) := by
      rw [keepd e8 (ne_of_none upd_same nD4).symm, keys_vals hl.nd V.int]
    have sE := same_tr sD sU
    have z8 := z7.same sU
    have e8' := sU _ _ e7
    generalize upd H8 d (.dK (dsi l)) = H9 at sE z8 e8' eU ⊢
    refine ⟨_, rfl, d, _, rfl, sE _ _ hd, fun V1 nV1 => ?_⟩
    rw [dsi_valsV]
    refine ⟨D4, V1, _, _, rfl, rfl, SqL.of (keep eU nV1), SqL.of upd_same, paired_same _ (flat_ints _), _, rfl, iteF ?_⟩
    have sF := same_upd (o := .lst ((l.map (·.2)).map V.int)) sE nV1
    have z9 := z8.same (same_new (o := .lst ((l.map (·.2)).map V.int)) nV1)
    have e9 := keep (o := .lst ((l.map (·.2)).map V.int)) e8' nV1
    generalize upd H9 V1 (.lst ((l.map (·.2)).map V.int)) = H10 at sF z9 e9 ⊢
    -- what is no name
    have z10 := zz_out hl
    refine ⟨Nat.zero_le _, fun l0 n0 => ⟨(by show 4 ≤ sizeLine; decide), fun L4 nL4 => ⟨L4, rfl, ⟨_, SqL.of upd_same⟩, fun D5 nD5 => ?_⟩⟩⟩
    have sG := same_upd (o := .lst [.str "zz", .non, .int 1, .ref l0]) (same_new (o := .lst []) n0) nL4
    have el0 := keep (o := .lst [.str "zz", .non, .int 1, .ref l0]) (upd_same (H := H10) (a := l0) (o := .lst [])) nL4
    refine lcx (walk_list (xs := [.str "zz", .non, .int 1, .ref l0])) (fun i => List.replicate i (.int 0)) nD5 rfl (fun H s => SqL.of (s _ _ upd_same)) ?_ ?_
    · intro j y H11 H12 hj p yy
      obtain ⟨rfl, hy⟩ := yy
      have zr := ((z9.same sG).same p.1).r
      have hj4 : j < 4 := hj
      refine ⟨rfl, ?_⟩
      dsimp only [tYes]
      refine iteT ?_
      refine ⟨_, rfl, _, rfl, x, rfl, isInsR zr, x, l, _, rfl, zr, ?_⟩
      have fin := p.put (y := .int 0) same_refl nD5 (List.replicate_succ' ..) (by rw [List.length_replicate, sizeLine_eq]; omega)
      have : j = 0 ∨ j = 1 ∨ j = 2 ∨ j = 3 := by omega
      rcases this with rfl | rfl | rfl | rfl
      · cases hy
        refine .inl ⟨"zz", rfl, ?_⟩
        rw [z10]
        exact fin
      · cases hy
        exact .inr ⟨_, .base .non, Tk_.nonStr, fin⟩
      · cases hy
        exact .inr ⟨_, .base (.int 1), Tk_.intStr, fin⟩
      · cases hy
        exact .inr ⟨_, .base (.lst (p.1 _ _ el0)), Tk_.listStr, fin⟩
    intro H11 s11 e11
    refine ⟨(by show 1 ≤ sizeLine; decide), fun R1 nR1 => ⟨R1, 4, _, rfl, rfl, upd_same, by decide, by decide, (by show 4 ≤ sizeLine; decide), fun W1 nW1 => ?_⟩⟩
    have sH := same_upd (o := .lst (List.replicate (4 : Int).toNat [V.int 0]).flatten) (same_new (o := .lst [.int 0]) nR1) nW1
    refine ⟨D5, W1, _, _, rfl, rfl, SqL.of (sH _ _ e11), SqL.of upd_same, paired_same (List.replicate 4 (.int 0)) (by decide), _, rfl, iteF ?_⟩
    have sI := same_tr (same_tr sG s11) sH
    have sJ := same_tr sF sI
    have z12 := z9.same sI
    have e12 := sI _ _ e9
    generalize upd (upd H11 R1 (.lst [.int 0])) W1 (.lst (List.replicate (4 : Int).toNat [V.int 0]).flatten) = H12 at sJ z12 e12 ⊢
    -- which names are there
    refine ⟨d, _, sJ _ _ hd, trivial, fun od2 => ⟨_, rfl, d, od2, rfl, .inl ⟨_, upd_same, fun D6 nD6 => ?_⟩⟩⟩
    refine lc_keysd (fun n => .bl (decide (0 < am0 l n))) upd_same nD6 (fun v => rfl) (by rw [sizeLine_eq]; omega) ?_ ?_
    · intro p hp H8 Q8 s8 q8
      have zr := (z12.lock (sJ _ _ hd) od2).same s8
      exact ⟨_, rfl, _, rfl, x, rfl, isInsR zr, x, l, _, rfl, zr, .inl ⟨p.1, rfl, _, rfl, q8 _ same_refl⟩⟩
    intro H13 s13 e13
    refine ⟨s13 _ _ upd_same, ?_⟩
    have sK := same_unlock (sJ _ _ hd) s13
    have e13' : (upd H13 d (.dK (dsi l))) D6 = some (.lst ((l.map (·.1)).map fun n => .bl (decide (0 < am0 l n)))) := keepd e13 (ne_of_none upd_same nD6).symm
    have sL := same_tr sJ sK
    have z13 := z12.same sK
    have e14 := sK _ _ e12
    generalize upd H13 d (.dK (dsi l)) = H14 at sL z13 e14 e13' ⊢
    refine ⟨d, _, sL _ _ hd, trivial, fun od3 => ⟨_, rfl, d, od3, rfl, .inl ⟨_, upd_same, fun D7 nD7 => ?_⟩⟩⟩
    refine lc_keysd (fun n => .bl (decide (0 < am0 l n))) upd_same nD7 (fun v => rfl) (by rw [sizeLine_eq]; omega) ?_ ?_
    · intro p hp H8 Q8 s8 q8
      have hm := am_mem hl.nd (show (p.1, p.2) ∈ l from hp)
      have h0 : am0 l p.1 = p.2 := by unfold am0; rw [hm]; rfl
      rw [h0] at q8
      exact ⟨_, rfl, _, rfl, d, .int p.2, rfl, dget_am (.inr ⟨od3, s8 _ _ upd_same⟩) hm, p.2, 0, rfl, rfl, q8 _ same_refl⟩
    intro H15 s15 e15
    refine ⟨s15 _ _ upd_same, ?_⟩
    have sM2 := same_unlock (sL _ _ hd) s15
    have e15' : (upd H15 d (.dK (dsi l))) D7 = some (.lst ((l.map (·.1)).map fun n => .bl (decide (0 < am0 l n)))) := keepd e15 (ne_of_none upd_same nD7).symm
    refine ⟨D6, D7, _, _, rfl, rfl, SqL.of (sM2 _ _ e13'), SqL.of e15', paired_same _ (fun y hy => by obtain ⟨n, _, rfl⟩ := List.mem_map.mp hy; rfl), _, rfl, iteF ?_⟩
    have sN2 := same_tr sL sM2
    have z15 := z13.same sM2
    have e16 := sM2 _ _ e14
    generalize upd H15 d (.dK (dsi l)) = H16 at sN2 z15 e16 ⊢
    -- neither of those
    refine ⟨_, rfl, x, rfl, isIns z15, x, l, _, rfl, z15.r, .inl ⟨"zz", rfl, _, rfl, _, rfl, ?_⟩⟩
    rw [z10]
    refine iteF ?_
    refine ⟨Nat.zero_le _, fun l1 n1 => ?_⟩
    have sO := same_new (o := .lst []) n1
    refine ⟨_, rfl, x, rfl, isIns (z15.same sO), x, l, _, rfl, (z15.same sO).r, .inr ⟨_, .base (.lst upd_same), Tk_.listStr, _, rfl, _, rfl, iteF ?_⟩⟩
    have sP := same_tr sN2 sO
    have z16 := z15.same sO
    have e17 := sO _ _ e16
    generalize upd H16 l1 (.lst []) = H17 at sP z16 e17 ⊢
    -- the text
    refine ⟨_, rfl, x, rfl, isIns z16, x, l, rfl, z16, small_bound hl, fun H18 s18 => ⟨_, rfl, ?_⟩⟩
    have sQ := same_tr sP s18
    have e18 := s18 _ _ e17
    refine ⟨⟨_, rfl⟩, p2, _, e18, trivial, fun od4 => ⟨_, rfl, p2, od4, rfl, .inl ⟨_, upd_same, fun D8 nD8 => ?_⟩⟩⟩
    have bound : ∀ n ∈ nms l, (rowS n (am0 l n)).length ≤ 410 := fun n hn => row_len (wd_nms hfit hn) (am0_nonneg hfit n) (small_bound hl n)
    have rowE : ∀ n, n ++ Str.ofString " " ++ Str.ofString (toString (am0 l n)) = rowS n (am0 l n) := fun n => by
      unfold rowS
      rw [Str.empty_append]
    have keysE : (cn l).map (·.1) = nms l := by
      unfold cn
      rw [List.map_map]
      exact List.map_id'' (fun _ => rfl) _
    refine lc_keysd (fun n => .str (rowS n (am0 l n))) upd_same nD8 (fun v => rfl) (by rw [cn_len, sizeLine_eq]; omega) ?_ ?_
    · intro p hp H8 Q8 s8 q8
      obtain ⟨hget, hn⟩ := am_cn_pos hfit hp
      have b0 := bound _ hn
      have b8 := wd_len8 (wd_nms hfit hn)
      rw [← rowE, str_app_len, str_app_len] at b0
      refine ⟨_, rfl, p.1, Str.ofString " ", rfl, rfl, ?_, _, rfl, _, rfl, p2, .int (am0 l p.1), rfl, dget_am (.inr ⟨od4, s8 _ _ upd_same⟩) hget, am0 l p.1, rfl, log_lt (am0_nonneg hfit _) (small_bound hl _), _, _, rfl, rfl, ?_, ?_⟩
      · rw [sizeLine_eq]
        omega
      · rw [str_app_len, sizeLine_eq]
        omega
      · have := q8 H8 same_refl
        rw [← rowE] at this
        exact this
    intro H19 s19 e19
    refine ⟨s19 _ _ upd_same, ?_⟩
    have sR := same_tr sQ (same_unlock e18 s19)
    have e19' : (upd H19 p2 (.dK (dsi (cn l)))) D8 = some (.lst (((nms l).map fun n => rowS n (am0 l n)).map V.str)) := by
      rw [keepd e19 (ne_of_none upd_same nD8).symm, keysE, List.map_map]
      rfl
    have hsum := sum_le (((nms l).map fun n => rowS n (am0 l n)).map (·.length)) 410 (fun k hk => by
      rw [List.map_map] at hk
      obtain ⟨n, hn, rfl⟩ := List.mem_map.mp hk
      exact bound n hn)
    rw [List.length_map, List.length_map] at hsum
    have hsp : (Str.ofString " ").length = 1 := rfl
    have hjl := join_len (Str.ofString " ") ((nms l).map fun n => rowS n (am0 l n))
    rw [List.length_map, hsp] at hjl
    refine ⟨_, D8, (nms l).map fun n => rowS n (am0 l n), rfl, rfl, .inl (SqL.of e19'), ?_, ?_⟩
    · rw [List.length_map, hsp]
      omega
    by_cases h0 : nms l = []
    · have hj : ((nms l).map fun n => rowS n (am0 l n)) = [] := by rw [h0]; rfl
      have hshw : shw l = Str.ofString "-" := if_pos h0
      rw [hj]
      refine ⟨false, ⟨Nat.zero_le _, rfl⟩, iteF ?_⟩
      refine ⟨rfl, ?_⟩
      rw [hshw, decide_eq_true rfl]
      exact q _ sR
    · have hpos : 0 < (Txt.join (Str.ofString " ") ((nms l).map fun n => rowS n (am0 l n))).length := by
        cases hN : nms l with
        | nil => exact absurd hN h0
        | cons n r =>
          rw [join_len, List.map_cons, List.map_cons, List.sum_cons]
          have : 0 < (rowS n (am0 l n)).length := by
            unfold rowS
            rw [str_app_len, str_app_len, hsp]
            omega
          omega
      have hshw : shw l = Txt.join (Str.ofString " ") ((nms l).map fun n => rowS n (am0 l n)) := if_neg h0
      refine ⟨true, ⟨?_, ?_⟩, iteT ?_⟩
      · rw [hjl, sizeLine_eq]
        omega
      · have : ((Txt.join (Str.ofString " ") ((nms l).map fun n => rowS n (am0 l n))).length : Int) ≠ 0 := by omega
        simpa using this
      · refine ⟨rfl, ?_⟩
        rw [hshw, decide_eq_true rfl]
        exact q _ sR
end
end Lp

set_option Elab.async false
set_option linter.all false
set_option maxRecDepth 100000
set_option maxHeartbeats 4000000
/-! Lists of new tuples; two rules for one operator. -/
namespace Lp
open PySem PySem.Spec PyProof.Rows L2
theorem opr_or {X : Cx} {f : Value → Value → Sem Value} {r r' : R2} (h : OpR X f r) (h' : OpR X f r') : OpR X f (fun x y H Q => r x y H Q ∨ r' x y H Q) := fun pins s σ H x y v u Q I rx ry q =>
  q.elim (fun q => h pins s σ H x y v u Q I rx ry q) fun q => h' pins s σ H x y v u Q I rx ry q
/-- a list of new tuples, one for each of ns -/
def Tps {α : Type} (tf : α → List V) (H : Hp) (D : Addr) (ts : List Addr) (ns : List α) : Prop := Paired (fun t n => t ≠ D ∧ H t = some (.tup (tf n))) ts ns
def TpP {α : Type} (tf : α → List V) (ns : List α) (H1 : Hp) (D : Addr) (i : Nat) (H : Hp) : Prop := Same H1 H ∧ ∃ ts : List Addr, H D = some (.lst (ts.map V.ref)) ∧ Tps tf H D ts (ns.take i)
theorem TpP.put {α : Type} {tf : α → List V} {ns : List α} {H1 H H4 : Hp} {D t : Addr} {i : Nat} {n : α} (p : TpP tf ns H1 D i H) (s : Same H H4) (ht : H4 t = none) (hD : H1 D = none) (hn : ns[i]? = some n) (hz : ns.length < sizeLine) :
    ∃ acc, (upd H4 t (.tup (tf n))) D = some (.lst acc) ∧ acc.length < sizeLine ∧ TpP tf ns H1 D (i + 1) (upd (upd H4 t (.tup (tf n))) D (.lst (acc ++ [.ref t]))) := by
  obtain ⟨s1, ts, h1, h2⟩ := p
  have hD4 := s _ _ h1
  refine ⟨ts.map V.ref, keep hD4 ht, ?_, same_set (same_upd (same_tr s1 s) ht) hD, ts ++ [t], by rw [upd_same, List.map_append]; rfl, ?_⟩
  · rw [List.length_map, Paired.length h2]
    have := List.length_take_le' i ns
    omega
  rw [take_succ' hn]
  refine Paired.snoc (Paired.mono (fun a b h => ⟨h.1, keepd (keep (s _ _ h.2) ht) h.1⟩) h2) ⟨ne_fresh hD4 ht, ?_⟩
  rw [upd_ne (ne_fresh hD4 ht), upd_same]
theorem Tps.same {α : Type} {tf : α → List V} {H H' : Hp} {D : Addr} {ts : List Addr} {ns : List α} (h : Tps tf H D ts ns) (s : Same H H') : Tps tf H' D ts ns := Paired.mono (fun a b h => ⟨h.1, s _ _ h.2⟩) h
theorem tps_len {α : Type} {tf : α → List V} {H : Hp} {D : Addr} {ts : List Addr} {ns : List α} (h : Tps tf H D ts ns) : ts.length = ns.length := Paired.length h
theorem tps_get {α : Type} {tf : α → List V} {H : Hp} {D : Addr} : ∀ {ts : List Addr} {ns : List α}, Tps tf H D ts ns → ∀ {i : Nat} {t : Addr}, ts[i]? = some t → ∃ n, ns[i]? = some n ∧ H t = some (.tup (tf n))
  | _, _, .nil, i, t, h => by cases h
  | _, _, .cons r q, 0, t, h => by
    cases h
    exact ⟨_, rfl, r.2⟩
  | _, _, .cons r q, i + 1, t, h => tps_get q h
theorem TpP.start {α : Type} {tf : α → List V} {ns : List α} {H1 : Hp} {D : Addr} (hD : H1 D = none) : TpP tf ns H1 D 0 (upd H1 D (.lst [])) := ⟨same_new hD, [], upd_same, .nil⟩
end Lp

set_option Elab.async false
set_option linter.all false
set_option maxRecDepth 100000
set_option maxHeartbeats 16000000
namespace Lp
open PySem PySem.Spec PyProof.Rows L2
abbrev sTwo : Stmt := top 20
theorem mrg_mem (n : Str) : ∀ (m a : Am), n ∈ (mrg a m).map (·.1) ↔ n ∈ a.map (·.1) ∨ n ∈ m.map (·.1)
  | [], a => by
    show n ∈ a.map (·.1) ↔ _
    simp
  | p :: m, a => by
    show n ∈ (mrg (put a p.1 p.2) m).map (·.1) ↔ _
    rw [mrg_mem n m, put_keys, List.map_cons, List.mem_cons]
    split
    · rename_i h
      constructor
      · rintro (q | q)
        · exact .inl q
        · exact .inr (.inr q)
      · rintro (q | q | q)
        · exact .inl q
        · rw [q]
          exact .inl h
        · exact .inr q
    · rw [List.mem_append, List.mem_singleton]
      constructor
      · rintro ((q | q) | q)
        · exact .inl q
        · exact .inr (.inl q)
        · exact .inr (.inr q)
      · rintro (q | q | q)
        · exact .inl (.inl q)
        · exact .inl (.inr q)
        · exact .inr q
theorem put_len (l : Am) (n : Str) (z : Int) : (put l n z).length ≤ l.length + 1 := by
  unfold put
  split
  · rw [List.length_map]
    omega
  · rw [List.length_append, List.length_singleton]
    omega
theorem mrg_len : ∀ (m a : Am), (mrg a m).length ≤ a.length + m.length
  | [], a => Nat.le_refl _
  | p :: m, a => by
    show (mrg (put a p.1 p.2) m).length ≤ _
    have h1 := mrg_len m (put a p.1 p.2)
    have h2 := put_len a p.1 p.2
    rw [List.length_cons]
    omega
theorem paired_append {α β : Type} {F : α → β → Prop} : ∀ {a1 : List α} {b1 : List β} {a2 : List α} {b2 : List β}, Paired F a1 b1 → Paired F a2 b2 → Paired F (a1 ++ a2) (b1 ++ b2)
  | _, _, _, _, .nil, h => h
  | _, _, _, _, .cons r q, h => .cons r (paired_append q h)
theorem am0_key {l : Am} {n : Str} (h : am0 l n ≠ 0) : n ∈ l.map (·.1) := by
  unfold am0 at h
  cases e : am l n with
  | none => rw [e] at h; exact absurd rfl h
  | some v => exact List.mem_map.mpr ⟨_, am_some e, rfl⟩
/-- the pairs of the amounts of a name -/
def two (l m : Am) (n : Str) : List V := [.int (am0 l n), .int (am0 m n)]
theorem lc_ab {K : PySem.W.Frag} {te : TE} {l m : Am} {ns : List Str} {ts : List Addr} {P DD : Addr} {σ : L2.St} {vs : List Nat} {H1 : Hp} {D : Addr} {Qd : Hp → Prop} (g : Str → V) (hP : SqL K H1 P (ts.map V.ref)) (hT : Tps (two l m) H1 DD ts ns) (hD : H1 D = none)
    (hi : ∀ v w, wipe (((wipe σ vs).set 10 v).set 11 w) vs = wipe σ vs) (hlen : ns.length < sizeLine)
    (turn : ∀ n ∈ ns, ∀ H (Q : VK), Same H1 H → (∀ H', Same H H' → Q (g n) H') → te (((wipe σ vs).set 10 (some (.int (am0 l n)))).set 11 (some (.int (am0 m n)))) H Q)
    (hd : ∀ H, Same H1 H → H D = some (.lst (ns.map g)) → Qd H) :
    ∃ W : Nat → Nat → Hp → Prop, (∃ m, W 0 m (upd H1 D (.lst []))) ∧ ∀ i' m H, W i' m H →
      ((Itl K P).stop i' H ∧ Qd H) ∨ ((Itl K P).go i' H ∧ ∃ Nx : Hp → Prop, (∀ H', Nx H' → ∃ m', m' < m ∧ W (i' + 1) m' H') ∧ ∀ x H', (Itl K P).yld i' H x H' → gTup K 2 (gCons (gName 10) (gCons (gName 11) gNil)) x (wipe σ vs) H' fun σ2 H2 => wipe σ2 vs = wipe σ vs ∧ tYes σ2 H2 fun b H3 =>
        if b = true then te σ2 H3 fun y H4 => ∃ acc, H4 D = some (.lst acc) ∧ acc.length < sizeLine ∧ Nx (upd H4 D (.lst (acc ++ [y]))) else Nx H3) := by
  refine lcx (walk_list (xs := ts.map V.ref)) (fun j => (ns.take j).map g) hD rfl (fun H s => Same.seq s hP) ?_ ?_
  · intro j y H3 H4 hj p yy
    obtain ⟨rfl, hy⟩ := yy
    rw [List.getElem?_map] at hy
    obtain ⟨t, ht, rfl⟩ := Option.map_eq_some_iff.mp hy
    obtain ⟨n, hn, e⟩ := tps_get hT ht
    refine ⟨t, _, rfl, SqT.of (p.1 _ _ e), rfl, _, _, rfl, _, _, rfl, rfl, hi _ _, ?_⟩
    dsimp only [tYes]
    refine iteT ?_
    refine turn n (List.mem_of_getElem? hn) _ _ p.1 fun H5 s5 => ?_
    refine p.put s5 hD ?_ ?_
    · rw [take_succ' hn, List.map_append]
      rfl
    · rw [List.length_map]
      have h2 := List.length_take_le' j ns
      omega
  · intro H s e
    rw [List.length_map, tps_len hT, List.take_length] at e
    exact hd H s e
/-- a row: sizes and what is due of them -/
def Row3 (C : Addr) (ns : List Str) (f : Str → Int) (H : Hp) (t : Addr) : Prop := ∃ s L li, H t = some (.tup [.ref s, .ref L]) ∧ SzAt C H s li ∧ (∀ n, am0 li n = f n) ∧ H L = some (.lst (ns.map fun n => .int (f n)))
theorem Row3.same {C : Addr} {ns : List Str} {f : Str → Int} {H H' : Hp} {t : Addr} (h : Row3 C ns f H t) (s : Same H H') : Row3 C ns f H' t := by
  obtain ⟨x, L, li, h1, h2, h3, h4⟩ := h
  exact ⟨x, L, li, s _ _ h1, h2.same s, h3, s _ _ h4⟩
theorem Row3.write {C : Addr} {ns : List Str} {f : Str → Int} {H : Hp} {t R u : Addr} {r : List V} {o : HO} (h : Row3 C ns f H t) (hR : H R = some (.lst (.ref u :: r))) : Row3 C ns f (upd H R o) t := by
  obtain ⟨x, L, li, h1, ⟨f1, dx, nl, dl, z1, z2, z3⟩, h3, h4⟩ := h
  have ne : ∀ {b : Addr} {w : HO}, H b = some w → w ≠ .lst (.ref u :: r) → b ≠ R := fun {b w} hb hw e => by
    rw [e, hR] at hb
    exact hw (Option.some.inj hb).symm
  refine ⟨x, L, li, keepd h1 (ne h1 (by intro z; cases z)), ⟨f1, dx, nl, dl, keepd z1 (ne z1 (by intro z; cases z)), keepd z2 (ne z2 ?_), keepd z3 (ne z3 (by intro z; cases z))⟩, h3, keepd h4 (ne h4 ?_)⟩
  · intro z
    have z' := HO.lst.inj z
    cases hn : nms li with
    | nil => rw [hn] at z'; cases z'
    | cons a b => rw [hn] at z'; cases z'
  · intro z
    have z' := HO.lst.inj z
    cases ns with
    | nil => cases z'
    | cons a b => cases z'
theorem in_false (p : Str → Bool) : ∀ ns : List Str, inV (.bl false) (ns.map fun n => .bl (p n)) = !ns.all p
  | [] => rfl
  | n :: r => by
    have ih := in_false p r
    unfold inV at ih ⊢
    rw [List.map_cons, List.any_cons, ih, List.all_cons]
    cases hp : p n <;> rfl

def spTwo : Sp := fun vs H Q _ => ∃ (d1 d2 : Addr) (l m : Am), vs = [.ref d1, .ref d2] ∧ H d1 = some (.dK (dsi l)) ∧ H d2 = some (.dK (dsi m)) ∧ Drawn5 l ∧ Drawn5 m ∧ d1 ≠ d2 ∧ ∀ H', Same H H' → Q (.bl true) H'
section
variable {P : Program} {w : World} {K : PySem.W.Frag} {mg : Str → Option Value} {base : Heap} {a : Ads} {b : Bds} {aPl aMi aDu : Addr}
theorem scTw : FnScope ["_law_one", "_law_other", "_law_names", "_law_first", "_law_second", "_law_pairs", "_law_rows", "_law_found", "_law_due_here", "_law_name", "_law_a", "_law_b", "_law_at"] ["_law_one", "_law_other"] (defScope sTwo) := ⟨rfl, rfl, rfl, by decide +kernel, rfl, by decide +kernel, by decide +kernel⟩
theorem ok_two {f : Addr} {fd : FuncData} (F : Fun K "_law_two_right" "_law_two_right" sTwo f fd) (T : Tsz K mg a b) (range : mg "range" = none) (mPl : mg "_law_plain" = some (.ref aPl)) (mMi : mg "_law_minus" = some (.ref aMi)) (mDu : mg "_law_due" = some (.ref aDu))
    (Gp0 : Ct P w K mg base 1 aPl ["_law_amounts_here"] spPlain) (Gi0 : Ct P w K mg base 4 a.init ["self", "amounts"] (spInit a.C)) (Gadd : Ct P w K mg base 6 b.add ["self", "other"] (spBin a.C (fun i j => i + j)))
    (Gand : Ct P w K mg base 6 b.and ["self", "other"] (spBin a.C (fun i j => if j < i then j else i))) (Gor : Ct P w K mg base 6 b.or ["self", "other"] (spBin a.C (fun i j => if j > i then j else i)))
    (Gb0 : Ct P w K mg base 1 b.byName ["self"] (spByName a.C)) (Gf0 : Ct P w K mg base 3 b.fits ["self", "other"] (spFits a.C)) (Geq : Ct P w K mg base 1 b.eq ["self", "other"] (spEqS a.C))
    (Gmi0 : Ct P w K mg base 7 aMi ["_law_one", "_law_other"] spMinus) (Gdu0 : Ct P w K mg base 2 aDu ["_law_one", "_law_other"] spDue) : FnOk P w K mg base CX0 8 f fd ["_law_one", "_law_other"] spTwo := by
  refine F.ok scTw (fun vs H Q E h => ?_) (fun cdv A outer s H vs Q E hr h => ?_)
  · obtain ⟨d1, d2, l, m, rfl, _⟩ := h
    rfl
  · obtain ⟨d1, d2, l, m, rfl, h1, h2, hl, hm, hne, q⟩ := h
    obtain ⟨fdi, Gi, ki, bi_⟩ := Gi0
    obtain ⟨fdp, Gp, kp, bp⟩ := Gp0
    obtain ⟨fdb, Gb, kb, bb⟩ := Gb0
    obtain ⟨fdf, Gf, kf, bf⟩ := Gf0
    obtain ⟨fdm, Gmi, kmi, bmi⟩ := Gmi0
    obtain ⟨fdd, Gdu, kdu, bdu⟩ := Gdu0
    have hu := hu_of hr
    have hr1 : Room 1 (A.deeper (envOfC "_law_two_right" (defScope sTwo) s.heap.objs.size f cdv)) := hr.mono (by decide)
    have hr2 : Room 2 (A.deeper (envOfC "_law_two_right" (defScope sTwo) s.heap.objs.size f cdv)) := hr.mono (by decide)
    have hr3 : Room 3 (A.deeper (envOfC "_law_two_right" (defScope sTwo) s.heap.objs.size f cdv)) := hr.mono (by decide)
    have hr5 : Room (4 + 1) (A.deeper (envOfC "_law_two_right" (defScope sTwo) s.heap.objs.size f cdv)) := hr.mono (by decide)
    have hr6 : Room 6 (A.deeper (envOfC "_law_two_right" (defScope sTwo) s.heap.objs.size f cdv)) := hr.mono (by decide)
    have hr7 : Room 7 (A.deeper (envOfC "_law_two_right" (defScope sTwo) s.heap.objs.size f cdv)) := hr.mono (by decide)
    refine ⟨_, (pss_cons (ps_set (i := 2) scTw.nd rfl (Or.inr rfl) (pe_callB (id := "sorted") (call_sortedD rfl) (by rfl) T.z.sorted (by decide +kernel) (pa_cons (pe_callTy (call_dictP rfl) (by rfl) T.z.dict (by decide +kernel) (pa_cons (pe_op op_cat (LiI.pe_listItems rfl (pv 0) (by rfl) T.list (by decide +kernel)) (LiI.pe_listItems rfl (pv 1) (by rfl) T.list (by decide +kernel))) pa_nil)) pa_nil)))
      (pss_cons (ps_par (i := 3) (j := 4) rfl scTw.nd rfl rfl (by decide) rfl rfl (pa_cons (pe_make T.mkC Gi hr5 (by rfl) T.z.mC bi_ .nil pass0 (pa_cons (pv 0) pa_nil)) (pa_cons (pe_make T.mkC Gi hr5 (by rfl) T.z.mC bi_ .nil pass0 (pa_cons (pv 1) pa_nil)) pa_nil)) (by rfl))
      (pss_cons (ps_setLc (i := 5) (own := [("_law_name", 9)]) (g := gName 9) (tt := tYes) rfl scTw.nd rfl rfl (by rfl) (pi_list (pv 2)) (blkOk_by (N := ["_law_one", "_law_other", "_law_names", "_law_first", "_law_second", "_law_pairs", "_law_rows", "_law_found", "_law_due_here", "_law_name", "_law_a", "_law_b", "_law_at"]) (sc := (defScope sTwo)) (by decide +kernel))
        (fun _ _ _ _ _ => (pg_name (i := 9) scTw.nd rfl (Or.inl rfl))) (fun _ _ _ _ _ => pts_nil) (fun _ _ _ _ _ => (pe_tup (pa_cons (pe_dget2 hu (pv 0) (pv 9) pe_int ⟨rfl, rfl, rfl, rfl⟩) (pa_cons (pe_dget2 hu (pv 1) (pv 9) pe_int ⟨rfl, rfl, rfl, rfl⟩) pa_nil)))))
      (pss_cons (ps_set (i := 6) scTw.nd rfl (Or.inl rfl) (pe_lst (pa_cons (pe_tup (pa_cons (pe_op (opo_bin (op := .Add) (C := a.C) Gadd.r hr6 pass0 T.first T.add) (pv 3) (pv 4)) (pa_cons (pe_lc (own := [("_law_a", 10), ("_law_b", 11)]) (g := gTup K 2 (gCons (gName 10) (gCons (gName 11) gNil))) (tt := tYes) rfl scTw.nd (pi_list (pv 5)) (blkOk_by (N := ["_law_one", "_law_other", "_law_names", "_law_first", "_law_second", "_law_pairs", "_law_rows", "_law_found", "_law_due_here", "_law_name", "_law_a", "_law_b", "_law_at"]) (sc := (defScope sTwo)) (by decide +kernel))
        (fun _ _ _ _ _ => (pg_tup (n := 2) rfl (pgs_cons (pg_name (i := 10) scTw.nd rfl (Or.inl rfl)) (pgs_cons (pg_name (i := 11) scTw.nd rfl (Or.inl rfl)) pgs_nil)))) (fun _ _ _ _ _ => pts_nil) (fun _ _ _ _ _ => pe_op op_add (pv 10) (pv 11))) pa_nil))) (pa_cons (pe_tup (pa_cons (pe_op (opo_bin (op := .BitAnd) (C := a.C) Gand.r hr6 pass0 T.first T.and) (pv 3) (pv 4)) (pa_cons (pe_lc (own := [("_law_a", 10), ("_law_b", 11)]) (g := gTup K 2 (gCons (gName 10) (gCons (gName 11) gNil))) (tt := tYes) rfl scTw.nd (pi_list (pv 5)) (blkOk_by (N := ["_law_one", "_law_other", "_law_names", "_law_first", "_law_second", "_law_pairs", "_law_rows", "_law_found", "_law_due_here", "_law_name", "_law_a", "_law_b", "_law_at"]) (sc := (defScope sTwo)) (by decide +kernel))
        (fun _ _ _ _ _ => (pg_tup (n := 2) rfl (pgs_cons (pg_name (i := 10) scTw.nd rfl (Or.inl rfl)) (pgs_cons (pg_name (i := 11) scTw.nd rfl (Or.inl rfl)) pgs_nil)))) (fun _ _ _ _ _ => pts_nil) (fun _ _ _ _ _ => (pe_callB (id := "min") (call_min2 rfl) (by rfl) T.min (by decide +kernel) (pa_cons (pv 10) (pa_cons (pv 11) pa_nil))))) pa_nil))) pa_nil))))
      (pss_cons (ps_expr (pe_bm PySem.F.plainAttrs_list PySem.F.slot_list_append PySem.F.type_list_append mt_append (pv 6) (pa_cons (pe_tup (pa_cons (pe_op (opo_bin (op := .BitOr) (C := a.C) Gor.r hr6 pass0 T.first T.or) (pv 3) (pv 4)) (pa_cons (pe_lc (own := [("_law_a", 10), ("_law_b", 11)]) (g := gTup K 2 (gCons (gName 10) (gCons (gName 11) gNil))) (tt := tYes) rfl scTw.nd (pi_list (pv 5)) (blkOk_by (N := ["_law_one", "_law_other", "_law_names", "_law_first", "_law_second", "_law_pairs", "_law_rows", "_law_found", "_law_due_here", "_law_name", "_law_a", "_law_b", "_law_at"]) (sc := (defScope sTwo)) (by decide +kernel))
        (fun _ _ _ _ _ => (pg_tup (n := 2) rfl (pgs_cons (pg_name (i := 10) scTw.nd rfl (Or.inl rfl)) (pgs_cons (pg_name (i := 11) scTw.nd rfl (Or.inl rfl)) pgs_nil)))) (fun _ _ _ _ _ => pts_nil) (fun _ _ _ _ _ => (pe_callB (id := "max") (call_max2 rfl) (by rfl) T.max (by decide +kernel) (pa_cons (pv 10) (pa_cons (pv 11) pa_nil))))) pa_nil))) pa_nil)))
      (pss_cons (ps_for PassesOwn.never rfl (pi_list (pv 6)) (pg_tup (n := 2) rfl (pgs_cons (pg_name (i := 7) scTw.nd rfl (Or.inl rfl)) (pgs_cons (pg_name (i := 8) scTw.nd rfl (Or.inr rfl)) pgs_nil))) (pss_one (ps_if (pt_cmpR (op_neDD (Nat.lt_of_succ_lt hu)) (pe_meth0 (pv 7) T.z.cls T.byName Gb hr1 bb .nil pass0) (pe_call Gp hr1 (by rfl) mPl kp bp .nil pass0 (pa_cons (pe_callTy (call_dictP rfl) (by rfl) T.z.dict (by decide +kernel) (pa_cons (pe_lc (own := [("_law_at", 12)]) (g := gName 12) (tt := tYes) (te := tTup (tCons (tOp (rIxL K) (tVar 2) (tVar 12)) (tCons (tOp (rIxL K) (tVar 8) (tVar 12)) tNil))) rfl scTw.nd (pi_range1 rfl range (pa_cons (pe_callB call_len_seq (by rfl) T.z.bi.len PySem.boot_len (pa_cons (pv 2) pa_nil)) pa_nil)) (blkOk_by (N := ["_law_one", "_law_other", "_law_names", "_law_first", "_law_second", "_law_pairs", "_law_rows", "_law_found", "_law_due_here", "_law_name", "_law_a", "_law_b", "_law_at"]) (sc := (defScope sTwo)) (by decide +kernel))
        (fun _ _ _ _ _ => (pg_name (i := 12) scTw.nd rfl (Or.inl rfl))) (fun _ _ _ _ _ => pts_nil) (fun _ _ _ _ _ => (pe_tup (pa_cons (pe_ix ix_list (pv 2) (pv 12) (fun _ _ => rfl)) (pa_cons (pe_ix ix_list (pv 8) (pv 12) (fun _ _ => rfl)) pa_nil))))) pa_nil)) pa_nil)) (nomark _)) (pss_one (ps_ret pe_bl)) pss_nil)))
      (pss_cons (ps_if (pt_cmpR op_ne (pe_meth (pv 3) T.z.cls T.fits Gf hr3 bf .nil pass0 (pa_cons (pv 4) pa_nil)) (pe_cmpR op_notIn_seq pe_bl (pe_lc (own := [("_law_a", 10), ("_law_b", 11)]) (g := gTup K 2 (gCons (gName 10) (gCons (gName 11) gNil))) (tt := tYes) rfl scTw.nd (pi_list (pv 5)) (blkOk_by (N := ["_law_one", "_law_other", "_law_names", "_law_first", "_law_second", "_law_pairs", "_law_rows", "_law_found", "_law_due_here", "_law_name", "_law_a", "_law_b", "_law_at"]) (sc := (defScope sTwo)) (by decide +kernel))
        (fun _ _ _ _ _ => (pg_tup (n := 2) rfl (pgs_cons (pg_name (i := 10) scTw.nd rfl (Or.inl rfl)) (pgs_cons (pg_name (i := 11) scTw.nd rfl (Or.inl rfl)) pgs_nil)))) (fun _ _ _ _ _ => pts_nil) (fun _ _ _ _ _ => pe_cmpR op_le (pv 10) (pv 11) (nomark _))) (by rfl)) (nomark _)) (pss_one (ps_ret pe_bl)) pss_nil)
      (pss_cons (ps_if (pt_cmpR (opr_or op_ne (op_neDD (Nat.lt_of_succ_lt hu))) (pe_call Gmi hr7 (by rfl) mMi kmi bmi .nil pass0 (pa_cons (pv 0) (pa_cons (pv 1) pa_nil))) (pe_call Gdu hr2 (by rfl) mDu kdu bdu .nil pass0 (pa_cons (pv 0) (pa_cons (pv 1) pa_nil))) (nomark _)) (pss_one (ps_ret pe_bl)) pss_nil)
      (pss_one (ps_ret (pe_cmpR op_eq (pe_cmpR (opo_eq (C := a.C) Geq.r hr1 pass0 T.eq) (pv 3) (pv 4) (nomark _)) (pe_cmpR (op_eqDD (Nat.lt_of_succ_lt hu)) (pe_call Gp hr1 (by rfl) mPl kp bp .nil pass0 (pa_cons (pv 0) pa_nil)) (pe_call Gp hr1 (by rfl) mPl kp bp .nil pass0 (pa_cons (pv 1) pa_nil)) (nomark _)) (nomark _)))))))))))), ?_⟩
    have fl := hl.fit
    have fm := hm.fit
    have l5 := hl.len
    have m5 := hm.len
    refine ⟨_, rfl, d1, _, rfl, h1, fun H1 p1 ts1 s1 n1 f1 ni1 e1 pr1 => ⟨_, rfl, d2, _, rfl, s1 _ _ h2, fun H2 p2 ts2 s2 n2 f2 ni2 e2 pr2 => ⟨p1, p2, _, _, rfl, rfl, s2 _ _ e1, e2, ?_, fun p3 n3 => ?_⟩⟩⟩
    · rw [List.length_map, List.length_map, Paired.length pr1, Paired.length pr2, dsi_len, dsi_len, sizeLine_eq]
      omega
    have s3 := same_upd (o := .lst (ts1.map V.ref ++ ts2.map V.ref)) (same_tr s1 s2) n3
    refine ⟨p3, ts1 ++ ts2, dsi (l ++ m), rfl, SqL.of (by rw [upd_same, List.map_append]), ?_, fun p4 n4 => ?_⟩
    · rw [dsi_append]
      exact paired_append (Paired.mono (fun t q h => SqT.of (keep (s2 _ _ h) n3)) pr1) (Paired.mono (fun t q h => SqT.of (keep h n3)) pr2)
    have em : mergeK [] (dsi (l ++ m)) = dsi (mrg [] (l ++ m)) := mergeK_dsi (l ++ m) []
    rw [em]
    have s4 := same_upd (o := .dK (dsi (mrg [] (l ++ m)))) s3 n4
    have klen : ((mrg [] (l ++ m)).map (·.1)).length ≤ 10 := by
      rw [List.length_map]
      have h1 := mrg_len (l ++ m) []
      rw [List.length_append] at h1
      have h2 : ([] : Am).length = 0 := rfl
      omega
    refine ⟨p4, _, (mrg [] (l ++ m)).map (·.1), rfl, .inl upd_same, by unfold dsi; rw [List.map_map, List.map_map]; rfl, by omega, fun ys pN hp hs np => ?_⟩
    obtain rfl : ys = srt ((mrg [] (l ++ m)).map (·.1)) := sorted_eq hp hs
    have hmem : ∀ n, n ∈ srt ((mrg [] (l ++ m)).map (·.1)) ↔ n ∈ l.map (·.1) ∨ n ∈ m.map (·.1) := fun n => by
      rw [(srt_perm _).mem_iff, mrg_mem, List.map_append, List.mem_append]
      simp
    have hnd : (srt ((mrg [] (l ++ m)).map (·.1))).Nodup := (srt_perm _).nodup_iff.mpr (mrg_nodup _ (by simp))
    have hlen : (srt ((mrg [] (l ++ m)).map (·.1))).length ≤ 10 := by
      rw [(srt_perm _).length_eq]
      exact klen
    have s5 := same_upd (o := .lst ((srt ((mrg [] (l ++ m)).map (·.1))).map V.str)) s4 np
    have e5 := upd_same (H := upd (upd H2 p3 (.lst (ts1.map V.ref ++ ts2.map V.ref))) p4 (.dK (dsi (mrg [] (l ++ m))))) (a := pN) (o := .lst ((srt ((mrg [] (l ++ m)).map (·.1))).map V.str))
    generalize upd (upd (upd H2 p3 (.lst (ts1.map V.ref ++ ts2.map V.ref))) p4 (.dK (dsi (mrg [] (l ++ m))))) pN (.lst ((srt ((mrg [] (l ++ m)).map (·.1))).map V.str)) = H5 at s5 e5 ⊢
    generalize srt ((mrg [] (l ++ m)).map (·.1)) = ns at hmem hnd hlen e5 ⊢
    clear em klen hp hs np s4 s3 n4 n3 pr1 pr2
    have hns : ns.length < sizeLine := by rw [sizeLine_eq]; omega
    refine ⟨_, rfl, mk_sz (s5 _ _ h1) fl fun H6 x s6 n6 zx => ⟨_, rfl, mk_sz (s6 _ _ (s5 _ _ h2)) fm fun H7 y s7 n7 zy => ⟨_, _, rfl, ?_⟩⟩⟩
    have sA := same_tr s5 (same_tr s6 s7)
    have zx7 := zx.same s7
    have eN := same_tr s6 s7 _ _ e5
    clear e5
    -- the pairs
    refine ⟨_, rfl, pN, rfl, ⟨_, SqL.of eN⟩, fun D nD => ?_⟩
    refine lc_it (walk_list (xs := ns.map V.str)) (TpP (two l m) ns H7 D) (TpP.start nD) (fun i H _ q => SqL.of (q.1 _ _ eN)) ?_ ?_
    · intro j w8 H8 H9 hj p yy
      obtain ⟨rfl, hy⟩ := yy
      rw [List.getElem?_map] at hy
      obtain ⟨n, hn, rfl⟩ := Option.map_eq_some_iff.mp hy
      have hA := p.1 _ _ (sA _ _ h1)
      have hB := p.1 _ _ (sA _ _ h2)
      refine ⟨rfl, ?_⟩
      dsimp only [tYes]
      refine iteT ?_
      refine ⟨_, rfl, d1, rfl, .inl ⟨_, .inl hA⟩, _, rfl, _, .inl ⟨dsi l, .inr n, .inl hA, rfl, rfl⟩, _, rfl, d2, rfl, .inl ⟨_, .inl hB⟩, _, rfl, _, .inl ⟨dsi m, .inr n, .inl hB, rfl, rfl⟩, (by show 2 ≤ sizeLine; decide), fun t ht => ?_⟩
      rw [getD_am, getD_am]
      exact p.put same_refl ht nD hn hns
    intro H8 p8
    obtain ⟨s8, ts, eP, hT⟩ := p8
    rw [List.length_map, List.take_length] at hT
    have sB := same_tr sA s8
    have zx8 := zx7.same s8
    have zy8 := zy.same s8
    have eN8 := s8 _ _ eN
    have z64 : (nms l).length + (nms m).length < 64 := by
      have h1 := nms_len l
      have h2 := nms_len m
      omega
    -- the sum
    refine ⟨_, rfl, _, rfl, x, y, rfl, rfl, isIns zx8, isIns zy8, x, y, l, m, rfl, zx8, zy8, z64, fun H9 r1 l1 S9 nr1 fit1 am1 w1 => ⟨_, rfl, D, rfl, ⟨_, SqL.of (S9 _ _ eP)⟩, fun L1 nL1 => ?_⟩⟩
    refine lc_ab (K := K) (fun n => .int (am0 l n + am0 m n)) (SqL.of (S9 _ _ eP)) (hT.same S9) nL1 (fun v w => rfl) hns (fun n hn H Q s q => ⟨_, rfl, _, rfl, _, _, rfl, rfl, q _ same_refl⟩) fun H10 S10 e10 => ⟨(by show 2 ≤ sizeLine; decide), fun t1 nt1 => ?_⟩
    have St1 := same_new (o := .tup [.ref r1, .ref L1]) nt1
    have row1 : Row3 a.C ns (fun n => am0 l n + am0 m n) (upd H10 t1 (.tup [.ref r1, .ref L1])) t1 := ⟨r1, L1, l1, upd_same, (w1.same S10).same St1, am1, St1 _ _ e10⟩
    have SC := same_tr (same_tr S9 S10) St1
    generalize upd H10 t1 (.tup [.ref r1, .ref L1]) = H11 at row1 SC ⊢
    clear St1
    -- the lesser
    refine ⟨_, rfl, _, rfl, x, y, rfl, rfl, isIns (zx8.same SC), isIns (zy8.same SC), x, y, l, m, rfl, zx8.same SC, zy8.same SC, z64, fun H12 r2 l2 S12 nr2 fit2 am2 w2 => ⟨_, rfl, D, rfl, ⟨_, SqL.of (S12 _ _ (SC _ _ eP))⟩, fun L2 nL2 => ?_⟩⟩
    refine lc_ab (K := K) (fun n => .int (if am0 m n < am0 l n then am0 m n else am0 l n)) (SqL.of (S12 _ _ (SC _ _ eP))) ((hT.same SC).same S12) nL2 (fun v w => rfl) hns (fun n hn H Q s q => ⟨_, rfl, _, rfl, _, _, rfl, q _ same_refl⟩) fun H13 S13 e13 => ⟨(by show 2 ≤ sizeLine; decide), fun t2 nt2 => ?_⟩
    have St2 := same_new (o := .tup [.ref r2, .ref L2]) nt2
    have row2 : Row3 a.C ns (fun n => if am0 m n < am0 l n then am0 m n else am0 l n) (upd H13 t2 (.tup [.ref r2, .ref L2])) t2 := ⟨r2, L2, l2, upd_same, (w2.same S13).same St2, am2, St2 _ _ e13⟩
    have SD := same_tr (same_tr S12 S13) St2
    generalize upd H13 t2 (.tup [.ref r2, .ref L2]) = H14 at row2 SD ⊢
    clear St2
    refine ⟨(by show 2 ≤ sizeLine; decide), fun R nR => ?_⟩
    have SE := same_tr SC SD
    have SR := same_new (o := .lst [.ref t1, .ref t2]) nR
    have SF := same_tr SE SR
    -- the greater
    refine ⟨_, rfl, .inl ⟨rfl, _, SqL.of upd_same⟩, _, rfl, _, rfl, x, y, rfl, rfl, isIns (zx8.same SF), isIns (zy8.same SF), x, y, l, m, rfl, zx8.same SF, zy8.same SF, z64, fun H15 r3 l3 S15 nr3 fit3 am3 w3 => ⟨_, rfl, D, rfl, ⟨_, SqL.of (S15 _ _ (SF _ _ eP))⟩, fun L3 nL3 => ?_⟩⟩
    refine lc_ab (K := K) (fun n => .int (if am0 m n > am0 l n then am0 m n else am0 l n)) (SqL.of (S15 _ _ (SF _ _ eP))) ((hT.same SF).same S15) nL3 (fun v w => rfl) hns (fun n hn H Q s q => ⟨_, rfl, _, rfl, _, _, rfl, q _ same_refl⟩) fun H16 S16 e16 => ⟨(by show 2 ≤ sizeLine; decide), fun t3 nt3 => ?_⟩
    have St3 := same_new (o := .tup [.ref r3, .ref L3]) nt3
    have row3 : Row3 a.C ns (fun n => if am0 m n > am0 l n then am0 m n else am0 l n) (upd H16 t3 (.tup [.ref r3, .ref L3])) t3 := ⟨r3, L3, l3, upd_same, (w3.same S16).same St3, am3, St3 _ _ e16⟩
    have SG := same_tr (same_tr S15 S16) St3
    have eR := SG _ _ (upd_same (H := H14) (a := R) (o := .lst [.ref t1, .ref t2]))
    generalize upd H16 t3 (.tup [.ref r3, .ref L3]) = H17 at row3 SG eR ⊢
    refine ⟨R, _, _, rfl, rfl, eR, (by show 2 < sizeLine; decide), ?_⟩
    have SH : Same H14 (upd H17 R (.lst ([.ref t1, .ref t2] ++ [.ref t3]))) := same_set (same_tr SR SG) nR
    have row1' := (row1.same SD).same SH
    have row2' := row2.same SH
    have row3' : Row3 a.C ns (fun n => if am0 m n > am0 l n then am0 m n else am0 l n) (upd H17 R (.lst ([.ref t1, .ref t2] ++ [.ref t3]))) t3 := row3.write eR
    have eR' := upd_same (H := H17) (a := R) (o := .lst ([.ref t1, .ref t2] ++ [.ref t3]))
    have SI := same_tr SE SH
    generalize upd H17 R (.lst ([.ref t1, .ref t2] ++ [.ref t3])) = H18 at row1' row2' row3' eR' SI ⊢
    have sJ := same_tr sB SI
    have out : ∀ n, n ∉ ns → am0 l n = 0 ∧ am0 m n = 0 := fun n hn => by
      rw [hmem, not_or] at hn
      exact ⟨Classical.byContradiction fun z => hn.1 (am0_key z), Classical.byContradiction fun z => hn.2 (am0_key z)⟩
    have rows : ∀ (j : Nat) (t : Addr), [t1, t2, t3][j]? = some t → ∃ f, Row3 a.C ns f H18 t ∧ (∀ n, n ∉ ns → f n = 0) := fun j t ht => by
      have : j = 0 ∨ j = 1 ∨ j = 2 ∨ 3 ≤ j := by omega
      rcases this with rfl | rfl | rfl | h
      · cases ht
        exact ⟨_, row1', fun n hn => by rw [(out n hn).1, (out n hn).2]; rfl⟩
      · cases ht
        exact ⟨_, row2', fun n hn => by rw [(out n hn).1, (out n hn).2]; rfl⟩
      · cases ht
        exact ⟨_, row3', fun n hn => by rw [(out n hn).1, (out n hn).2]; rfl⟩
      · rw [List.getElem?_eq_none (by show 3 ≤ j; exact h)] at ht
        cases ht
    have eN18 := SI _ _ eN8
    have zx18 := zx8.same SI
    have zy18 := zy8.same SI
    have eP18 := SI _ _ eP
    have hT18 := hT.same SI
    have last : ∀ HZ, Same H HZ → SzAt a.C HZ x l → SzAt a.C HZ y m → ∀ {v7 v8 v9 v10 v11 v12 : Option V},
        tRet (tOp rEq (tOp (rOwn2 a.C (spEqS a.C) E0) (tVar 3) (tVar 4)) (tOp rEqDD (tCall spPlain [] E0 (tCons (tVar 0) tNil)) (tCall spPlain [] E0 (tCons (tVar 1) tNil)))) { nx := fun x H' => Q V.non H', rt := Q }
          [some (.ref d1), some (.ref d2), some (.ref pN), some (.ref x), some (.ref y), some (.ref D), some (.ref R), v7, v8, v9, v10, v11, v12] HZ := by
      intro HZ SZ zxZ zyZ v7 v8 v9 v10 v11 v12
      refine ⟨_, rfl, _, rfl, x, y, rfl, rfl, isIns zxZ, isIns zyZ, x, y, l, m, rfl, zxZ, zyZ, ?_⟩
      refine ⟨_, rfl, d1, l, rfl, SZ _ _ h1, hl.nd, fl.len, fun H30 p30 S30 n30 e30 => ⟨_, rfl, d2, m, rfl, S30 _ _ (SZ _ _ h2), hm.nd, fm.len, fun H31 p31 S31 n31 e31 => ?_⟩⟩
      refine ⟨p30, p31, _, _, rfl, rfl, S31 _ _ e30, e31, rfl, ?_⟩
      rw [decide_eq_true rfl]
      exact q _ (same_tr (same_tr SZ S30) S31)
    refine ⟨_, rfl, R, rfl, ⟨_, SqL.of eR'⟩, ?_⟩
    refine for_it (walk_list (K := K) (a := R) (xs := [t1, t2, t3].map V.ref)) (fun i σ H' => ∃ v7 v8, σ = [some (.ref d1), some (.ref d2), some (.ref pN), some (.ref x), some (.ref y), some (.ref D), some (.ref R), v7, v8, none, none, none, none] ∧ Same H18 H') ⟨none, none, rfl, same_refl⟩ (fun i σ H' _ h => by obtain ⟨_, _, _, s⟩ := h; exact SqL.of (s _ _ eR')) ?_ ?_
    · rintro j w0 σ H19 H20 hj ⟨v7, v8, rfl, sl⟩ ⟨rfl, hw⟩
      rw [List.getElem?_map] at hw
      obtain ⟨t, ht, rfl⟩ := Option.map_eq_some_iff.mp hw
      obtain ⟨f, rw0, f0⟩ := rows j t ht
      obtain ⟨s, L, li, et, zs, af, eL⟩ := rw0.same sl
      obtain ⟨dx, fx, ex, lx⟩ := sz_ins zs
      refine ⟨t, _, rfl, SqT.of et, rfl, _, _, rfl, _, _, rfl, rfl, ?_⟩
      refine ⟨_, rfl, s, dx, fx, rfl, ex, lx "by_name" (by decide) (by decide), s, li, rfl, zs, fun H21 p Sb np ep => ?_⟩
      have eN21 := Sb _ _ (sl _ _ eN18)
      have eL21 := Sb _ _ eL
      refine ⟨_, rfl, pN, _, rfl, .inl (SqL.of eN21), _, rfl, by omega, by rw [List.length_map]; omega, fun D2 nD2 => ?_⟩
      have hz : ∀ i, ((ns.take i).map fun n => (n, f n)).length < sizeLine := fun i => by
        rw [List.length_map]
        have := List.length_take_le' i ns
        omega
      refine lc_prs walk_range (fun i => (ns.take i).map fun n => (n, f n)) nD2 rfl (fun _ _ => True.intro) ?_ ?_
      · intro i w1 H22 H23 hi pp yy
        obtain ⟨rfl, rfl⟩ := yy
        have hin : i < ns.length := by
          rw [List.length_map] at hi
          omega
        have hn := List.getElem?_eq_getElem hin
        refine ⟨rfl, ?_⟩
        dsimp only [tYes]
        refine iteT ?_
        refine ⟨_, rfl, _, rfl, pN, _, _, .str ns[i], rfl, rfl, SqL.of (pp.1 _ _ eN21), (by rw [Int.zero_add]; exact atI_nat (by rw [List.getElem?_map, hn]; rfl)), _, rfl, _, rfl, L, _, _, .int (f ns[i]), rfl, rfl, SqL.of (pp.1 _ _ eL21), (by rw [Int.zero_add]; exact atI_nat (by rw [List.getElem?_map, hn]; rfl)), (by show 2 ≤ sizeLine; decide), fun t' ht' => ?_⟩
        refine pp.put same_refl ht' nD2 ?_ (hz i)
        rw [take_succ' hn, List.map_append]
        rfl
      · intro H22 pp
        obtain ⟨s22, ts', e22, pr⟩ := pp
        have hcount : (Int.toNat ((List.map V.str ns).length : Int)) = ns.length := by
          rw [List.length_map]
          omega
        rw [hcount] at pr
        dsimp only at pr
        rw [List.take_length] at pr
        have hknd : ((ns.map fun n => (n, f n)).map (·.1)).Nodup := by
          rw [List.map_map]
          show (ns.map fun n => n).Nodup
          rw [List.map_id']
          exact hnd
        refine ⟨D2, ts', _, rfl, SqL.of e22, prs_sq pr, fun p6 n6 => ?_⟩
        have em : mergeK [] (dsi (ns.map fun n => (n, f n))) = dsi (ns.map fun n => (n, f n)) := by
          have := mergeK_dsi (ns.map fun n => (n, f n)) []
          rw [mrg_self hknd] at this
          exact this
        rw [em]
        have s6' := same_upd (o := .dK (dsi (ns.map fun n => (n, f n)))) s22 n6
        refine ⟨p6, _, rfl, upd_same, hknd, by rw [List.length_map]; omega, fun H24 p7 s24 n7 e7 => ?_⟩
        have ep24 := s24 _ _ (s6' _ _ ep)
        refine ⟨p, p7, _, _, rfl, rfl, ep24, e7, _, rfl, ?_⟩
        have hc : cn li = cn (ns.map fun n => (n, f n)) := cn_congr zs.1.nd hknd fun n => by
          rw [af]
          unfold am0
          rw [am_map]
          split
          · rfl
          · rename_i hno
            exact f0 n hno
        have heq : eqD (cn li) (cn (ns.map fun n => (n, f n))) = true := by
          rw [hc]
          exact (eqD_iff (cn_nodup hknd) (cn_nodup hknd)).mpr fun _ => rfl
        rw [heq]
        refine iteF ?_
        exact ⟨_, _, rfl, same_tr (same_tr (same_tr sl Sb) s6') s24⟩
    · rintro σ H19 ⟨v7, v8, rfl, sl⟩
      have sK := same_tr sJ sl
      have zxK := zx18.same sl
      have zyK := zy18.same sl
      have ePK := sl _ _ eP18
      have hTK := hT18.same sl
      obtain ⟨dx, fx, ex, lx⟩ := sz_ins zxK
      -- fits
      refine ⟨_, rfl, x, dx, fx, rfl, ex, lx "fits" (by decide) (by decide), _, rfl, x, y, l, m, rfl, zxK, zyK, fun H21 S21 => ?_⟩
      refine ⟨_, rfl, D, rfl, ⟨_, SqL.of (S21 _ _ ePK)⟩, fun D9 nD9 => ?_⟩
      refine lc_ab (K := K) (fun n => .bl (decide (am0 l n ≤ am0 m n))) (SqL.of (S21 _ _ ePK)) (hTK.same S21) nD9 (fun v w => rfl) hns (fun n hn H Q s q => ⟨_, rfl, _, rfl, _, _, rfl, rfl, q _ same_refl⟩) fun H22 S22 e22 => ?_
      refine ⟨D9, _, rfl, .inl (SqL.of e22), rfl, by rw [List.all_map]; exact List.all_eq_true.mpr fun _ _ => rfl, rfl, _, rfl, ?_⟩
      have hall : ((nms l).all fun n => decide (am0 l n ≤ am0 m n)) = ns.all fun n => decide (am0 l n ≤ am0 m n) := by
        rw [Bool.eq_iff_iff, List.all_eq_true, List.all_eq_true]
        constructor
        · intro h n _
          by_cases hn : n ∈ nms l
          · exact h n hn
          · have h0 := am0_out fl hn
            have h1 := am0_nonneg fm n
            exact decide_eq_true (by omega)
        · intro h n hn
          have h0 := (mem_nms fl.nd).mp hn
          exact h n ((hmem n).mpr (.inl (am0_key (by omega))))
      have hin := in_false (fun n => decide (am0 l n ≤ am0 m n)) ns
      have hd0 : (!decide (V.bl ((nms l).all fun n => decide (am0 l n ≤ am0 m n)) = V.bl (!inV (.bl false) (ns.map fun n => .bl (decide (am0 l n ≤ am0 m n)))))) = false := by
        rw [hall, hin, Bool.not_not, decide_eq_true rfl]
        rfl
      show if (!decide (V.bl ((nms l).all fun n => decide (am0 l n ≤ am0 m n)) = V.bl (!inV (.bl false) (ns.map fun n => .bl (decide (am0 l n ≤ am0 m n)))))) = true then _ else _
      rw [hd0]
      refine iteF ?_
      have sL := same_tr (same_tr sK S21) S22
      have zxL := (zxK.same S21).same S22
      have zyL := (zyK.same S21).same S22
      -- what is left, both ways
      refine ⟨_, rfl, _, rfl, d1, d2, l, m, rfl, sL _ _ h1, sL _ _ h2, fl, fm, fun n hn H23 S23 => ?_, fun hn H23 p l' S23 np fl' al' ep => ?_⟩
      · refine ⟨_, rfl, _, rfl, d1, d2, l, m, rfl, S23 _ _ (sL _ _ h1), S23 _ _ (sL _ _ h2), fl, fm, hne, fun n' hn' H24 S24 => ?_, fun hn' => by rw [hn] at hn'; cases hn'⟩
        obtain rfl : n = n' := Option.some.inj (hn.symm.trans hn')
        refine .inl ⟨rfl, _, rfl, ?_⟩
        rw [decide_eq_true rfl]
        refine iteF ?_
        exact last H24 (same_tr (same_tr sL S23) S24) ((zxL.same S23).same S24) ((zyL.same S23).same S24)
      · refine ⟨_, rfl, _, rfl, d1, d2, l, m, rfl, S23 _ _ (sL _ _ h1), S23 _ _ (sL _ _ h2), fl, fm, hne, fun n' hn' => (by rw [hn] at hn'; cases hn'), fun _ H24 p' S24 np' ep' => ?_⟩
        refine .inr ⟨p, p', _, _, rfl, rfl, S24 _ _ ep, ep', _, rfl, ?_⟩
        have hln : ((less l m).map (·.1)).Nodup := by
          rw [less_keys]
          exact fl.nd
        have hc : cn l' = cn (less l m) := cn_congr fl'.nd hln fun k => by
          rw [al']
          have e1 := am_less m fl.nd k
          unfold am0
          rw [e1]
          cases e2 : am l k with
          | some v => rfl
          | none =>
            have hk : am0 l k = 0 := by unfold am0; rw [e2]; rfl
            have h3 : am0 m k = 0 := by
              by_cases hkm : k ∈ nms m
              · have := List.find?_eq_none.mp hn k hkm
                have h4 := am0_nonneg fm k
                simp at this
                omega
              · exact am0_out fm hkm
            unfold am0 at h3
            rw [h3]
            rfl
        have heq : eqD (cn l') (cn (less l m)) = true := by
          rw [hc]
          exact (eqD_iff (cn_nodup hln) (cn_nodup hln)).mpr fun _ => rfl
        rw [heq]
        refine iteF ?_
        exact last H24 (same_tr (same_tr sL S23) S24) ((zxL.same S23).same S24) ((zyL.same S23).same S24)
end
end Lp

set_option Elab.async false
set_option linter.all false
set_option maxRecDepth 100000
set_option maxHeartbeats 16000000
namespace Lp
open PySem PySem.Spec PyProof.Rows L2
abbrev sLaw1 : Stmt := top 21
theorem ne_of_none' {H : Hp} {a b : Addr} {o : HO} (h : H b = some o) (n : H a = none) : a ≠ b := fun e => by
  rw [← e, n] at h
  cases h
abbrev shD (l : Am) : Str := (dsiD l).shown
theorem showableKv_dsi : ∀ (l : Am), (∀ p ∈ l, 0 ≤ p.2 ∧ p.2 < 10 ^ 400) → PyData.showableKv (l.map fun p => (PyData.str p.1, PyData.int p.2)) = true
  | [], _ => rfl
  | p :: r, h => by
    obtain ⟨h0, h1⟩ := h p List.mem_cons_self
    rw [List.map_cons]
    simp only [PyData.showableKv, PyData.showable, decide_eq_true (log_lt h0 h1), showableKv_dsi r fun q hq => h q (List.mem_cons_of_mem _ hq), Bool.and_self]
theorem shownKv_len : ∀ (l : Am), (∀ p ∈ l, p.1 ∈ names5 ∧ 0 ≤ p.2 ∧ p.2 < 10 ^ 400) → ∀ x ∈ (PyData.shownKv (l.map fun p => (PyData.str p.1, PyData.int p.2))).map (·.length), x ≤ 500
  | [], _, x, hx => by cases hx
  | p :: r, h, x, hx => by
    obtain ⟨hn, h0, h1⟩ := h p List.mem_cons_self
    rw [List.map_cons, PyData.shownKv, List.map_cons] at hx
    rcases List.mem_cons.mp hx with rfl | hx
    · have a1 : ∀ n ∈ names5, (PyData.str n).shown.length ≤ 12 := by decide +kernel
      have a2 := a1 _ hn
      have a3 : ((PyData.int p.2).shown).length ≤ 401 := by
        show (Str.ofString (toString p.2)).length ≤ 401
        rw [ofS_len]
        exact int_len h0 h1
      have a4 : (": " : Str).length = 2 := by decide
      rw [str_app_len, str_app_len]
      omega
    · exact shownKv_len r (fun q hq => h q (List.mem_cons_of_mem _ hq)) x hx
theorem shownKv_count : ∀ (l : List (PyData × PyData)), (PyData.shownKv l).length = l.length
  | [] => rfl
  | (k, v) :: r => by rw [PyData.shownKv, List.length_cons, List.length_cons, shownKv_count r]
theorem shows_drawn {K : PySem.W.Frag} {H : Hp} {a : Addr} {l : Am} (h : H a = some (.dK (dsi l))) (hl : Drawn5 l) : Shows K H (.ref a) (shD l) := by
  have h21 : (10 : Int) ^ 21 ≤ 10 ^ 400 := by decide +kernel
  refine .dic a l h ?_ ?_
  · exact showableKv_dsi l fun p hp => ⟨(hl.ok p hp).2.1, Int.lt_of_lt_of_le (hl.ok p hp).2.2 h21⟩
  · have e1 : (dsiD l).shown.length = 1 + (Txt.join (", " : Str) (PyData.shownKv (l.map fun p => (PyData.str p.1, PyData.int p.2)))).length + 1 := by
      show (dictText (PyData.shownKv _)).length = _
      unfold dictText
      rw [str_app_len, str_app_len]
      show 1 + _ + 1 = _
      rw [← StrLaws.glued_eq_join]
      rfl
    rw [e1, join_len, shownKv_count, List.length_map]
    have s1 := sum_le _ 500 (shownKv_len l fun p hp => ⟨(hl.ok p hp).1, (hl.ok p hp).2.1, Int.lt_of_lt_of_le (hl.ok p hp).2.2 h21⟩)
    rw [List.length_map, shownKv_count, List.length_map] at s1
    have s2 : (", " : Str).length = 2 := by decide
    have s3 := hl.len
    rw [s2, sizeLine_eq]
    omega
theorem mrg_one {l : Am} (h : (l.map (·.1)).Nodup) (n : Str) (z : Int) : mrg [] (l ++ [(n, z)]) = put l n z := by
  have e := mrg_self h
  unfold mrg at e ⊢
  rw [List.foldl_append, e]
  rfl
theorem am0_put (l : Am) (n k : Str) (z : Int) : am0 (put l n z) k = if k = n then z else am0 l k := by
  unfold am0
  rw [am_put]
  split <;> rfl
def tms (l : Am) (k : Int) : Am := l.map fun p => (p.1, p.2 * k)
theorem tms_keys (l : Am) (k : Int) : (tms l k).map (·.1) = l.map (·.1) := by
  unfold tms
  rw [List.map_map]
  rfl
theorem am0_tms (l : Am) (k : Int) (n : Str) : am0 (tms l k) n = am0 l n * k := by
  unfold am0 am tms
  rw [List.find?_map]
  have e : ((fun p : Str × Int => decide (p.1 = n)) ∘ fun p : Str × Int => (p.1, p.2 * k)) = fun p => decide (p.1 = n) := rfl
  rw [e]
  cases List.find? (fun p => decide (p.1 = n)) l with
  | none => show (0 : Int) = 0 * k; rw [Int.zero_mul]
  | some p => rfl
theorem rev_nodup {l : Am} (h : (l.map (·.1)).Nodup) : (l.reverse.map (·.1)).Nodup := by
  rw [List.map_reverse]
  exact (List.reverse_perm _).nodup_iff.mpr h
theorem am0_rev {l : Am} (h : (l.map (·.1)).Nodup) (n : Str) : am0 l.reverse n = am0 l n := by
  unfold am0
  cases e : am l n with
  | none =>
    have : n ∉ l.map (·.1) := fun q => by
      obtain ⟨p, hp, rfl⟩ := List.mem_map.mp q
      rw [am_mem h (show (p.1, p.2) ∈ l from hp)] at e
      cases e
    rw [am_none (by rw [List.map_reverse, List.mem_reverse]; exact this)]
  | some v => rw [am_mem (rev_nodup h) (List.mem_reverse.mpr (am_some e))]
theorem eqD_refl {l : Am} (h : (l.map (·.1)).Nodup) : eqD l l = true := (eqD_iff h h).mpr fun _ => rfl
theorem paired_rev {α β : Type} {F : α → β → Prop} : ∀ {xs : List α} {ys : List β}, Paired F xs ys → Paired F xs.reverse ys.reverse
  | _, _, .nil => .nil
  | _, _, .cons r q => by
    rw [List.reverse_cons, List.reverse_cons]
    exact paired_append (paired_rev q) (.cons r .nil)
theorem fit_rev {l : Am} (h : Fit l) : Fit l.reverse := ⟨rev_nodup h.nd, fun p hp => h.ok p (List.mem_reverse.mp hp), by rw [List.length_reverse]; exact h.len⟩
theorem fit_cn {l : Am} (h : Fit l) : Fit (cn l) := ⟨cn_nodup h.nd, fun p hp => by
  obtain ⟨n, hn, rfl⟩ := List.mem_map.mp hp
  exact ⟨wd_nms h hn, am0_nonneg h n⟩, by rw [cn_len]; exact nms_lt h⟩
section
variable {P : Program} {w : World} {K : PySem.W.Frag} {mg : Str → Option Value} {base : Heap} {a : Ads} {b : Bds} {aDs aDr aAm aPl aTo aTw fL sA : Addr} {cdv : Value} {s₁ : Shared} {H : Hp} {ns : List Int} {rc fo ro : Option Value}
theorem scLw : FnScope ["_law_script", "_law_k", "_law_draws_here", "_law_one", "_law_other", "_law_kept", "_law_sizes", "_law_many", "_law_due_here", "_law_row", "_law_name"] ["_law_script"] (defScope sLaw1) := ⟨rfl, rfl, rfl, by decide +kernel, rfl, by decide +kernel, by decide +kernel⟩
theorem law_body1 (T : Tsz K mg a b) (nRange : mg "range" = none) (nRepr : mg "repr" = none) (mDs : mg "_law_draws" = some (.ref aDs)) (mDr : mg "_law_draw" = some (.ref aDr)) (mAm : mg "_law_amounts" = some (.ref aAm)) (mPl : mg "_law_plain" = some (.ref aPl))
    (mTo : mg "_law_told_right" = some (.ref aTo)) (mTw : mg "_law_two_right" = some (.ref aTw)) (GDs0 : Ct P w K mg base 1 aDs ["_law_script", "_law_k"] (spDraws K)) (GDr0 : Ct P w K mg base 1 aDr ["_law_draws_here", "_law_upto"] spDraw) (GAm0 : Ct P w K mg base 2 aAm ["_law_draws_here"] spAmounts)
    (Gp0 : Ct P w K mg base 1 aPl ["_law_amounts_here"] spPlain) (GTo0 : Ct P w K mg base 6 aTo ["_law_amounts_here"] spTold) (GTw0 : Ct P w K mg base 8 aTw ["_law_one", "_law_other"] spTwo) (Gi0 : Ct P w K mg base 4 a.init ["self", "amounts"] (spInit a.C)) (G1 : Ct P w K mg base 1 b.get ["self", "at"] (spGet K a.C))
    (Gb0 : Ct P w K mg base 1 b.byName ["self"] (spByName a.C)) (Gn0 : Ct P w K mg base 1 b.names ["self"] (spNames a.C)) (Gmu : Ct P w K mg base 6 b.mul ["self", "other"] (spMul a.C)) (Geq : Ct P w K mg base 1 b.eq ["self", "other"] (spEqS a.C)) (CO_ : StX.CallO K a.C b.call)
    (Gca2 : FnR P w K mg base CX0 7 b.call (spCall a.C)) (Gca1 : FnR P w K mg base CX0 7 b.call (fun vs H Q E => spCall a.C (vs ++ [.int 1]) H Q E))
    (Mx : PySem.W.findIn K (.ref a.C) (dunderR "mul") = some rc ∧ (rc = none ∨ ∃ g : Addr, rc = some (.ref g)) ∧ PySem.W.findIn K (.type "int") (PySem.dunder "mul") = some fo ∧ PySem.W.findIn K (.type "int") (dunderR "mul") = some ro ∧ PySem.W.subIn K (.type "int") (.ref a.C) = some false)
    (neIn : PySem.W.findIn K (.ref a.C) "__ne__" = some (some (.builtin "object.__ne__"))) (obIn : PySem.W.mroIn K a.C (.type "object") = some true) (hS : SqL K H sA (ns.map V.int)) (hn : ns.length ≤ 63) :
    ∃ t, PSs (cxOf CX0 P w K mg base ["_law_script", "_law_k", "_law_draws_here", "_law_one", "_law_other", "_law_kept", "_law_sizes", "_law_many", "_law_due_here", "_law_row", "_law_name"] "law" (defScope sLaw1) fL cdv callerA [] s₁ H E0).nox (defBody sLaw1) t ∧ t { nx := fun _ _ => V.non = V.bl true, rt := fun v _ => v = .bl true } (start ["_law_script", "_law_k", "_law_draws_here", "_law_one", "_law_other", "_law_kept", "_law_sizes", "_law_many", "_law_due_here", "_law_row", "_law_name"] [.ref sA]) H := by
  obtain ⟨fd1, GDs, kDs, bDs⟩ := GDs0
  obtain ⟨fd2, GDr, kDr, bDr⟩ := GDr0
  obtain ⟨fd3, GAm, kAm, bAm⟩ := GAm0
  obtain ⟨fd4, Gp, kp, bp⟩ := Gp0
  obtain ⟨fd5, GTo, kTo, bTo⟩ := GTo0
  obtain ⟨fd6, GTw, kTw, bTw⟩ := GTw0
  obtain ⟨fd7, Gi, ki, bi_⟩ := Gi0
  obtain ⟨fd8, Gb, kb, bb⟩ := Gb0
  obtain ⟨fd9, Gn, kn, bn⟩ := Gn0
  have hr1 : Room 1 (callerA.deeper (envOfC "law" (defScope sLaw1) s₁.heap.objs.size fL cdv)) := ⟨rfl, (by show callerA.depth + 1 + 3 * 1 + 5 < recursionLimit; decide), (by show callerA.units + 3 + 16 * 1 + 200 < cLine; decide)⟩
  have hr2 : Room (1 + 1) (callerA.deeper (envOfC "law" (defScope sLaw1) s₁.heap.objs.size fL cdv)) := ⟨rfl, (by show callerA.depth + 1 + 3 * 2 + 5 < recursionLimit; decide), (by show callerA.units + 3 + 16 * 2 + 200 < cLine; decide)⟩
  have hr5 : Room (4 + 1) (callerA.deeper (envOfC "law" (defScope sLaw1) s₁.heap.objs.size fL cdv)) := ⟨rfl, (by show callerA.depth + 1 + 3 * 5 + 5 < recursionLimit; decide), (by show callerA.units + 3 + 16 * 5 + 200 < cLine; decide)⟩
  have hr6 : Room 6 (callerA.deeper (envOfC "law" (defScope sLaw1) s₁.heap.objs.size fL cdv)) := ⟨rfl, (by show callerA.depth + 1 + 3 * 6 + 5 < recursionLimit; decide), (by show callerA.units + 3 + 16 * 6 + 200 < cLine; decide)⟩
  have hr7 : Room 7 (callerA.deeper (envOfC "law" (defScope sLaw1) s₁.heap.objs.size fL cdv)) := ⟨rfl, (by show callerA.depth + 1 + 3 * 7 + 5 < recursionLimit; decide), (by show callerA.units + 3 + 16 * 7 + 200 < cLine; decide)⟩
  have hr8 : Room 8 (callerA.deeper (envOfC "law" (defScope sLaw1) s₁.heap.objs.size fL cdv)) := ⟨rfl, (by show callerA.depth + 1 + 3 * 8 + 5 < recursionLimit; decide), (by show callerA.units + 3 + 16 * 8 + 200 < cLine; decide)⟩
  have hg : (callerA.deeper (envOfC "law" (defScope sLaw1) s₁.heap.objs.size fL cdv)).guards = some [] := rfl
  have hu : (callerA.deeper (envOfC "law" (defScope sLaw1) s₁.heap.objs.size fL cdv)).units + 100 < cLine := (by show callerA.units + 3 + 100 < cLine; decide)
  have hu64 : (callerA.deeper (envOfC "law" (defScope sLaw1) s₁.heap.objs.size fL cdv)).units + 64 < cLine := by omega
  have hu1 : (callerA.deeper (envOfC "law" (defScope sLaw1) s₁.heap.objs.size fL cdv)).units + 1 < cLine := by omega
  have hu0 : (callerA.deeper (envOfC "law" (defScope sLaw1) s₁.heap.objs.size fL cdv)).units < cLine := by omega
  refine ⟨_, (pss_cons (ps_for PassesOwn.never rfl (pi_range1 rfl nRange (pa_cons (pe_callB (id := "max") (call_max2 rfl) (by rfl) T.max (by decide +kernel) (pa_cons pe_int (pa_cons (pe_callB (id := "min") (call_min2 rfl) (by rfl) T.min (by decide +kernel) (pa_cons pe_int (pa_cons (pe_callB call_len_seq (by rfl) T.z.bi.len PySem.boot_len (pa_cons (pv 0) pa_nil)) pa_nil))) pa_nil))) pa_nil)) (pg_name (i := 1) scLw.nd rfl (Or.inl rfl)) (pss_cons (ps_set (i := 2) scLw.nd rfl (Or.inl rfl) (pe_call GDs hr1 (by rfl) mDs kDs bDs .nil pass0 (pa_cons (pv 0) (pa_cons (pv 1) pa_nil))))
        (pss_cons (ps_asg (pe_tup (pa_cons (pe_call GAm hr2 (by rfl) mAm kAm bAm .nil pass0 (pa_cons (pv 2) pa_nil)) (pa_cons (pe_call GAm hr2 (by rfl) mAm kAm bAm .nil pass0 (pa_cons (pv 2) pa_nil)) pa_nil))) (pg_tup (n := 2) rfl (pgs_cons (pg_name (i := 3) scLw.nd rfl (Or.inr rfl)) (pgs_cons (pg_name (i := 4) scLw.nd rfl (Or.inl rfl)) pgs_nil))))
        (pss_cons (ps_set (i := 5) scLw.nd rfl (Or.inl rfl) (pe_lst (pa_cons (pe_callB (id := "repr") (call_reprK (K := K) rfl rfl hg hu) (by rfl) nRepr (by decide +kernel) (pa_cons (pv 3) pa_nil)) (pa_cons (pe_callB (id := "repr") (call_reprK (K := K) rfl rfl hg hu) (by rfl) nRepr (by decide +kernel) (pa_cons (pv 4) pa_nil)) pa_nil))))
        (pss_cons (ps_if (PW.pt (pw_or (pt_not (pt_val (pe_call GTo hr6 (by rfl) mTo kTo bTo .nil pass0 (pa_cons (pv 3) pa_nil)))) (pw_or (pt_not (pt_val (pe_call GTw hr8 (by rfl) mTw kTw bTw .nil pass0 (pa_cons (pv 3) (pa_cons (pv 4) pa_nil))))) (pw_or1 (pt_not (pt_val (pe_call GTw hr8 (by rfl) mTw kTw bTw .nil pass0 (pa_cons (pv 3) (pa_cons (pe_callTy call_dictD (by rfl) T.z.dict (by decide +kernel) (pa_cons (pv 3) pa_nil)) pa_nil))))))))) (pss_one (ps_ret pe_bl)) pss_nil)
        (pss_cons (ps_asg (pe_tup (pa_cons (pe_make T.mkC Gi hr5 (by rfl) T.z.mC bi_ .nil pass0 (pa_cons (pv 3) pa_nil)) (pa_cons (pe_call GDr hr1 (by rfl) mDr kDr bDr .nil pass0 (pa_cons (pv 2) (pa_cons pe_int pa_nil))) pa_nil))) (pg_tup (n := 2) rfl (pgs_cons (pg_name (i := 6) scLw.nd rfl (Or.inr rfl)) (pgs_cons (pg_name (i := 7) scLw.nd rfl (Or.inr rfl)) pgs_nil))))
        (pss_cons (ps_if (pt_cmpR (op_neDD hu0) (pe_meth0 (pe_op (opo_int (op := .Mult) (C := a.C) Gmu.r hr6 pass0 T.first T.mul Mx.1 Mx.2.1 Mx.2.2.1 Mx.2.2.2.1 Mx.2.2.2.2) (pv 6) (pv 7)) T.z.cls T.byName Gb hr1 bb .nil pass0) (pe_call Gp hr1 (by rfl) mPl kp bp .nil pass0 (pa_cons (pe_callTy (call_dictP rfl) (by rfl) T.z.dict (by decide +kernel) (pa_cons (pe_lock (pe_lc (own := [("_law_name", 10)]) (g := gName 10) (tt := tYes) rfl scLw.nd (pi_keys (pv 3)) (blkOk_by (N := ["_law_script", "_law_k", "_law_draws_here", "_law_one", "_law_other", "_law_kept", "_law_sizes", "_law_many", "_law_due_here", "_law_row", "_law_name"]) (sc := (defScope sLaw1)) (by decide +kernel))
        (fun _ _ _ _ _ => (pg_name (i := 10) scLw.nd rfl (Or.inl rfl))) (fun _ _ _ _ _ => pts_nil) (fun _ _ _ _ _ => (pe_tup (pa_cons (pv 10) (pa_cons (pe_op op_mul (pe_dget hu1 (pv 3) (pv 10) (fun _ _ => rfl)) (pv 7)) pa_nil)))))) pa_nil)) pa_nil)) (nomark _)) (pss_one (ps_ret pe_bl)) pss_nil)
        (pss_cons (ps_set (i := 8) scLw.nd rfl (Or.inl rfl) (pe_call Gp hr1 (by rfl) mPl kp bp .nil pass0 (pa_cons (pe_callTy (call_dictP rfl) (by rfl) T.z.dict (by decide +kernel) (pa_cons (pe_op op_cat (LiI.pe_listItems rfl (pv 3) (by rfl) T.list (by decide +kernel)) (pe_lst (pa_cons (pe_tup (pa_cons pe_str (pa_cons (pe_op op_add (pe_dget2 hu1 (pv 3) pe_str pe_int ⟨rfl, rfl, rfl, rfl⟩) (pv 7)) pa_nil))) pa_nil))) pa_nil)) pa_nil)))
        (pss_cons (ps_if (pt_cmpR (op_neDD hu0) (pe_meth0 (StX.pe_callO (C := a.C) (pv 6) CO_ Gca2 hr7 pass0 (pa_cons pe_str (pa_cons (pv 7) pa_nil))) T.z.cls T.byName Gb hr1 bb .nil pass0) (pv 8) (nomark _)) (pss_one (ps_ret pe_bl)) pss_nil)
        (pss_cons (ps_if (pt_cmpR (op_neDD hu0) (pe_meth0 (StX.pe_callO (C := a.C) (pv 6) CO_ Gca1 hr7 pass0 (pa_cons pe_str pa_nil)) T.z.cls T.byName Gb hr1 bb .nil pass0) (pe_call Gp hr1 (by rfl) mPl kp bp .nil pass0 (pa_cons (pe_callTy (call_dictP rfl) (by rfl) T.z.dict (by decide +kernel) (pa_cons (pe_op op_cat (LiI.pe_listItems rfl (pv 3) (by rfl) T.list (by decide +kernel)) (pe_lst (pa_cons (pe_tup (pa_cons pe_str (pa_cons (pe_op op_add (pe_dget2 hu1 (pv 3) pe_str pe_int ⟨rfl, rfl, rfl, rfl⟩) pe_int) pa_nil))) pa_nil))) pa_nil)) pa_nil)) (nomark _)) (pss_one (ps_ret pe_bl)) pss_nil)
        (pss_cons (ps_set (i := 9) scLw.nd rfl (Or.inl rfl) (pe_meth0 (pv 6) T.z.cls T.byName Gb hr1 bb .nil pass0))
        (pss_cons (ps_dput hu1 (pv 9) pe_str pe_int rfl)
        (pss_cons (ps_expr (pe_bm PySem.F.plainAttrs_list PySem.F.slot_list_append PySem.F.type_list_append mt_append (pe_meth0 (pv 6) T.z.cls T.names Gn hr1 bn .nil pass0) (pa_cons pe_str pa_nil)))
        (pss_cons (ps_if (PW.pt (pw_or (pt_cmpR (op_neV hu64) (pe_lst (pa_cons (pe_callB (id := "repr") (call_reprK (K := K) rfl rfl hg hu) (by rfl) nRepr (by decide +kernel) (pa_cons (pv 3) pa_nil)) (pa_cons (pe_callB (id := "repr") (call_reprK (K := K) rfl rfl hg hu) (by rfl) nRepr (by decide +kernel) (pa_cons (pv 4) pa_nil)) pa_nil))) (pv 5) (nomark _)) (pw_or1 (pt_cmpR (opo_ne (C := a.C) Geq.r hr2 pass0 T.eq neIn obIn) (pv 6) (pe_make T.mkC Gi hr5 (by rfl) T.z.mC bi_ .nil pass0 (pa_cons (pe_callTy (call_dictP rfl) (by rfl) T.z.dict (by decide +kernel) (pa_cons (pe_revL (LiI.pe_listItems rfl (pv 3) (by rfl) T.list (by decide +kernel))) pa_nil)) pa_nil)) (nomark _))))) (pss_one (ps_ret pe_bl)) pss_nil)
        (pss_cons (ps_dput hu1 (pv 3) pe_str pe_int rfl)
        (pss_one (ps_if (pt_cmpR (opo_ne (C := a.C) Geq.r hr2 pass0 T.eq neIn obIn) (pv 6) (pe_make T.mkC Gi hr5 (by rfl) T.z.mC bi_ .nil pass0 (pa_cons (pe_callTy (call_dictP rfl) (by rfl) T.z.dict (by decide +kernel) (pa_cons (pe_lc (own := [("_law_name", 10)]) (g := gName 10) (tt := tYes) (te := tTup (tCons (tVar 10) (tCons (tOp (rOwnIx a.C (spGet K a.C) E0) (tVar 6) (tVar 10)) tNil))) rfl scLw.nd (pi_list (pe_meth0 (pv 6) T.z.cls T.names Gn hr1 bn .nil pass0)) (blkOk_by (N := ["_law_script", "_law_k", "_law_draws_here", "_law_one", "_law_other", "_law_kept", "_law_sizes", "_law_many", "_law_due_here", "_law_row", "_law_name"]) (sc := (defScope sLaw1)) (by decide +kernel))
        (fun _ _ _ _ _ => (pg_name (i := 10) scLw.nd rfl (Or.inl rfl))) (fun _ _ _ _ _ => pts_nil) (fun _ _ _ _ _ => (pe_tup (pa_cons (pv 10) (pa_cons (pe_ixO (C := a.C) G1.r hr2 pass0 T.get T.getIn (pv 6) (pv 10)) pa_nil))))) pa_nil)) pa_nil)) (nomark _)) (pss_one (ps_ret pe_bl)) pss_nil)))))))))))))))))
      (pss_one (ps_ret pe_bl))), ?_⟩
  obtain ⟨mm, hmm⟩ : ∃ m : Int, m = (if (if ((ns.map V.int).length : Int) < 30 then ((ns.map V.int).length : Int) else 30) > 1 then (if ((ns.map V.int).length : Int) < 30 then ((ns.map V.int).length : Int) else 30) else 1) := ⟨_, rfl⟩
  have hb : 1 ≤ mm ∧ mm ≤ 30 := by
    rw [hmm]
    split <;> split <;> omega
  refine ⟨_, rfl, sA, _, rfl, .inl hS, _, _, rfl, _, _, rfl, ?_⟩
  rw [← hmm]
  refine ⟨mm, rfl, by omega, by omega, ?_⟩
  refine for_range (fun i σ H' => ∃ o1 o2 o3 o4 o5 o6 o7 o8 o9 o10 : Option V, σ = [some (.ref sA), o1, o2, o3, o4, o5, o6, o7, o8, o9, o10] ∧ Same H H') ⟨none, none, none, none, none, none, none, none, none, none, rfl, Same.refl H⟩ ?_ ?_
  case refine_2 =>
    rintro σ H' ⟨o1, o2, o3, o4, o5, o6, o7, o8, o9, o10, rfl, s⟩
    rfl
  rintro i σ H1 hi ⟨o1, o2, o3, o4, o5, o6, o7, o8, o9, o10, rfl, s0⟩
  have hi30 : i < 30 := by omega
  -- the draws
  refine ⟨_, rfl, _, rfl, sA, ns, _, rfl, s0.seq hS, hn, by omega, by omega, fun H2 d s2 n2 t2 => ?_⟩
  -- the amounts
  refine ⟨_, rfl, d, rfl, t2, fun H3 p1 l b3 t3 np1 e1 hl => ⟨_, rfl, d, rfl, t3, fun H4 p2 m b4 t4 np2 e2 hm => ⟨(by show 2 ≤ sizeLine; decide), fun t nt => ⟨t, _, rfl, SqT.of upd_same, rfl, _, _, rfl, _, _, rfl, rfl, ?_⟩⟩⟩⟩
  have nd1 : p1 ≠ d := fun e => by
    obtain ⟨c, z, hd, _⟩ := t2
    rw [e] at np1
    rw [np1] at hd
    cases hd
  have nd2 : p2 ≠ d := fun e => by
    obtain ⟨c, z, hd, _⟩ := t3
    rw [e] at np2
    rw [np2] at hd
    cases hd
  have ne12 : p1 ≠ p2 := fun e => by
    rw [e, np2] at e1
    cases e1
  have low : ∀ {b : Addr} {o : HO}, H1 b = some o → b ≠ d := fun {b o} hb e => by
    rw [e, n2] at hb
    cases hb
  have s5 : Same H1 (upd H4 t (.tup [.ref p1, .ref p2])) := fun b o hb => keep (b4 b o (low hb) (b3 b o (low hb) (s2 b o hb))) nt
  have f1 : (upd H4 t (.tup [.ref p1, .ref p2])) p1 = some (.dK (dsi l)) := keep (b4 _ _ nd1 e1) nt
  have f2 : (upd H4 t (.tup [.ref p1, .ref p2])) p2 = some (.dK (dsi m)) := keep e2 nt
  have np1' : H1 p1 = none := by
    cases q : H1 p1 with
    | none => rfl
    | some o =>
      rw [s2 _ _ q] at np1
      cases np1
  have t5 : Two (upd H4 t (.tup [.ref p1, .ref p2])) d := by
    obtain ⟨c, z, hd, r⟩ := t4
    exact ⟨c, z, keep hd nt, r⟩
  generalize upd H4 t (.tup [.ref p1, .ref p2]) = H5 at s5 f1 f2 t5 ⊢
  clear t4 t3 t2 b3 b4 e1 e2 np1 np2 nt s2
  have hz1 := shows_drawn (K := K) f1 hl
  have hz2 := shows_drawn (K := K) f2 hm
  refine ⟨_, rfl, .ref p1, _, rfl, hz1, ⟨_, rfl, .ref p2, _, rfl, hz2, ⟨(by show 2 ≤ sizeLine; decide), fun kp nk => ?_⟩⟩⟩
  have s6 : Same H5 (upd H5 kp (.lst [.str (shD l), .str (shD m)])) := same_new nk
  have ek : (upd H5 kp (.lst [.str (shD l), .str (shD m)])) kp = some (.lst [.str (shD l), .str (shD m)]) := upd_same
  have ndk : kp ≠ d := by
    obtain ⟨c, z, hd, _⟩ := t5
    exact ne_fresh hd nk
  have n1k : kp ≠ p1 := ne_fresh f1 nk
  generalize upd H5 kp (.lst [.str (shD l), .str (shD m)]) = H6 at s6 ek ⊢
  refine ⟨_, rfl, p1, l, rfl, s6 _ _ f1, hl, fun H7 s7 => ⟨true, rfl, iteF ?_⟩⟩
  have s67 := same_tr s6 s7
  refine ⟨_, rfl, _, rfl, p1, p2, l, m, rfl, s67 _ _ f1, s67 _ _ f2, hl, hm, ne12, fun H8 s8 => ⟨true, rfl, iteF ?_⟩⟩
  have s68 := same_tr s67 s8
  refine ⟨_, rfl, _, rfl, p1, dsi l, rfl, .inl (s68 _ _ f1), fun p3 n3 => ⟨p1, p3, l, l, rfl, keep (s68 _ _ f1) n3, upd_same, hl, hl, (ne_fresh (s68 _ _ f1) n3).symm, fun H9 s9 => ⟨true, rfl, ?_⟩⟩⟩
  refine iteF ?_
  have s69 := same_tr (same_tr s68 (same_new n3)) s9
  have sA9 := same_tr s5 s69
  have g1 := s69 _ _ f1
  have g2 := s69 _ _ f2
  have gk : H9 kp = some (.lst [.str (shD l), .str (shD m)]) := (same_tr (same_tr (same_tr s7 s8) (same_new n3)) s9) _ _ ek
  have f1l := hl.fit
  have l5 := hl.len
  obtain ⟨c9, e9, h9, c90, e90, e91⟩ := t5
  have h9' := s69 _ _ h9
  -- sizes and a number
  refine ⟨_, rfl, mk_szN g1 f1l fun H10 x s10 nx z10 => ⟨_, rfl, d, 5, rfl, ⟨c9, e9, s10 _ _ h9', c90, e90, e91⟩, by decide, by decide, fun mn c' z' v0 v1 _ _ _ => ⟨(by show 2 ≤ sizeLine; decide), fun t2 nt2 => ⟨t2, _, rfl, SqT.of upd_same, rfl, _, _, rfl, _, _, rfl, rfl, ?_⟩⟩⟩⟩
  have xd : x ≠ d := ne_of_none' h9' nx
  have zA := (z10.but h9' xd fun b o nb hb => keepd (o := .lst [.int c', .int z']) hb nb).same (same_new (o := .tup [.ref x, .int mn]) nt2)
  have sA : Same H1 (upd (upd H10 d (.lst [.int c', .int z'])) t2 (.tup [.ref x, .int mn])) := fun b o hb => keep (keepd (s10 _ _ (sA9 _ _ hb)) (low hb)) nt2
  have a1 : (upd (upd H10 d (.lst [.int c', .int z'])) t2 (.tup [.ref x, .int mn])) p1 = some (.dK (dsi l)) := keep (keepd (s10 _ _ g1) nd1) nt2
  have a2 : (upd (upd H10 d (.lst [.int c', .int z'])) t2 (.tup [.ref x, .int mn])) p2 = some (.dK (dsi m)) := keep (keepd (s10 _ _ g2) nd2) nt2
  have ak : (upd (upd H10 d (.lst [.int c', .int z'])) t2 (.tup [.ref x, .int mn])) kp = some (.lst [.str (shD l), .str (shD m)]) := keep (keepd (s10 _ _ gk) ndk) nt2
  generalize upd (upd H10 d (.lst [.int c', .int z'])) t2 (.tup [.ref x, .int mn]) = HA at zA sA a1 a2 ak ⊢
  have zAt := zA.at
  have x1 : x ≠ p1 := ne_of_none' g1 nx
  clear s10 z10 nt2 sA9 s69 s68 s67 h9 h9'
  -- times a number
  refine ⟨_, rfl, _, rfl, x, mn, rfl, rfl, isIns zAt, x, l, mn, rfl, zAt, v0, by omega, fun HB xb lb sB nb fb amb zb => ?_⟩
  obtain ⟨dxb, fsb, exb, lxb⟩ := sz_ins zb
  refine ⟨xb, dxb, fsb, rfl, exb, lxb "by_name" (by decide) (by decide), xb, lb, rfl, zb, fun HC pC sC nC eC => ?_⟩
  have sAC := same_tr sB sC
  refine ⟨p1, _, sAC _ _ a1, trivial, fun od => ⟨_, rfl, p1, od, rfl, .inl ⟨_, upd_same, fun D2 hD2 => ?_⟩⟩⟩
  refine lc_prs walk_keys (fun i => (tms l mn).take i) hD2 rfl (fun H s => s _ _ upd_same) ?_ ?_
  · intro i' y H4' H5' hi' pp yy
    obtain ⟨rfl, k, v, ek, rfl⟩ := yy
    rw [dsi_len] at hi'
    obtain ⟨⟨n, z⟩, hp'⟩ : ∃ p, l[i']? = some p := ⟨_, List.getElem?_eq_getElem hi'⟩
    rw [dsi_get hp'] at ek
    cases ek
    have hA := pp.1 _ _ (upd_same (H := HC))
    have hout : (tms l mn)[i']? = some (n, z * mn) := by
      unfold tms
      rw [List.getElem?_map, hp']
      rfl
    refine ⟨rfl, ?_⟩
    dsimp only [tYes]
    refine iteT ?_
    refine ⟨_, rfl, _, rfl, _, rfl, p1, .int z, rfl, dget_am (.inr ⟨od, hA⟩) (am_mem f1l.nd (List.mem_of_getElem? hp')), _, rfl, z, mn, rfl, rfl, .inr (by omega), (by show 2 ≤ sizeLine; decide), fun t ht => ?_⟩
    refine pp.put same_refl ht hD2 (take_succ' hout) ?_
    have h2 := List.length_take_le' i' (tms l mn)
    have h3 : (tms l mn).length = l.length := List.length_map ..
    rw [sizeLine_eq]
    omega
  intro HD pp
  obtain ⟨sD, ts, eD, pr⟩ := pp
  rw [dsi_len] at pr
  dsimp only at pr
  rw [List.take_of_length_le (Nat.le_of_eq (show (tms l mn).length = l.length from List.length_map ..))] at pr
  have hfz := sD _ _ (upd_same (H := HC))
  have nD2 : D2 ≠ p1 := (ne_of_none upd_same hD2).symm
  have sCE := same_unlock (sAC _ _ a1) sD
  have eE : (upd HD p1 (.dK (dsi l))) D2 = some (.lst (ts.map V.ref)) := keepd eD nD2
  have prE : Prs (upd HD p1 (.dK (dsi l))) D2 ts (tms l mn) := Paired.mono (fun t q h => ⟨h.1, keepd h.2 fun e => by
    have := h.2
    rw [e, hfz] at this
    cases this⟩) pr
  have hln : ((tms l mn).map (·.1)).Nodup := by
    rw [tms_keys]
    exact f1l.nd
  refine ⟨hfz, D2, ts, _, rfl, SqL.of eE, prs_sq prE, fun p6 n6 => ?_⟩
  have em : mergeK [] (dsi (tms l mn)) = dsi (tms l mn) := by
    have := mergeK_dsi (tms l mn) []
    rw [mrg_self hln] at this
    exact this
  rw [em]
  have s6E := same_tr sCE (same_new (o := .dK (dsi (tms l mn))) n6)
  have len6 : (tms l mn).length < 64 := by
    have h3 : (tms l mn).length = l.length := List.length_map ..
    omega
  refine ⟨p6, tms l mn, rfl, upd_same, hln, len6, fun HF p7 sF n7 e7 => ⟨pC, p7, _, _, rfl, rfl, sF _ _ (s6E _ _ eC), e7, ?_⟩⟩
  have sAF := same_tr (same_tr sAC s6E) sF
  rw [show cn lb = cn (tms l mn) from cn_congr fb.nd hln fun n => by rw [amb, am0_tms], eqD_refl (cn_nodup hln)]
  refine ⟨false, rfl, iteF ?_⟩
  clear sF s6E n6 em prE eE sCE nD2 hfz pr eD sD eC nC sC zb nb sB e7 n7
  -- what is due of one more
  have hA1 := sAF _ _ a1
  refine ⟨_, rfl, p1, _, rfl, hA1, fun HG1 pG1 ts1 sG1 nG1 ntG1 pniG1 eG1 prG1 => ?_⟩
  have hB1 := sG1 _ _ hA1
  refine ⟨_, rfl, p1, rfl, .inl ⟨_, .inl hB1⟩, _, .inl ⟨dsi l, .inr "conn", .inl hB1, rfl, rfl⟩, _, rfl, am0 l "conn", mn, getD_am l "conn", rfl, (by show 2 ≤ sizeLine; decide), fun tt1 nt1 => ⟨(by show 1 ≤ sizeLine; decide), fun L1 nL1 => ⟨pG1, L1, _, _, rfl, rfl, keep (keep eG1 nt1) nL1, upd_same, ?_, fun p31 n31 => ?_⟩⟩⟩
  · have := Paired.length prG1
    rw [dsi_len] at this
    rw [List.length_map, this, sizeLine_eq]
    show l.length + 1 ≤ _
    omega
  refine ⟨p31, ts1 ++ [tt1], dsi (l ++ [(("conn" : Str), am0 l "conn" + mn)]), rfl, SqL.of (by rw [upd_same, List.map_append]; rfl), ?_, fun p41 n41 => ?_⟩
  · rw [dsi_append]
    exact paired_append (Paired.mono (fun t q h => SqT.of (keep (keep (keep h nt1) nL1) n31)) prG1) (.cons (SqT.of (keep (keep upd_same nL1) n31)) .nil)
  have em1 : mergeK [] (dsi (l ++ [(("conn" : Str), am0 l "conn" + mn)])) = dsi (put l "conn" (am0 l "conn" + mn)) := by
    have := mergeK_dsi (l ++ [(("conn" : Str), am0 l "conn" + mn)]) []
    rw [mrg_one f1l.nd] at this
    exact this
  rw [em1]
  have hnd1 := put_nodup f1l.nd "conn" (am0 l "conn" + mn)
  refine ⟨p41, put l "conn" (am0 l "conn" + mn), rfl, upd_same, hnd1, Nat.lt_of_le_of_lt (put_len _ _ _) (by omega), fun HH1 pH1 sH1 nH1 eH1 => ?_⟩
  have sQ1 := same_tr (same_tr (same_tr (same_tr (same_tr (same_tr sAF sG1) (same_new nt1)) (same_new nL1)) (same_new n31)) (same_new n41)) sH1
  clear em1 prG1 eG1 pniG1 ntG1 nG1 hA1 hB1 sG1 sH1 nt1 nL1 n31 n41 nH1
  -- one more of a name
  have zQ := (zAt.same sQ1)
  obtain ⟨dxq, fsq, exq, lxq⟩ := sz_ins zQ
  refine ⟨_, rfl, x, rfl, _, rfl, .inr ⟨dxq, fsq, exq⟩, x, l, "conn", mn, rfl, zQ, by decide +kernel, v0, Nat.lt_of_le_of_lt (nms_len l) (by omega), fun HI xi li sI nI fi ai zi => ?_⟩
  obtain ⟨dxi, fsi, exi, lxi⟩ := sz_ins zi
  refine ⟨xi, dxi, fsi, rfl, exi, lxi "by_name" (by decide) (by decide), xi, li, rfl, zi, fun HJ pJ sJ nJ eJ => ?_⟩
  refine ⟨_, rfl, pJ, pH1, _, _, rfl, rfl, eJ, sJ _ _ (sI _ _ eH1), ?_⟩
  have sQJ := same_tr sQ1 (same_tr sI sJ)
  rw [show cn li = cn (put l "conn" (am0 l "conn" + mn)) from cn_congr fi.nd hnd1 fun n => by
    rw [ai, am0_put]
    split
    · rename_i h; rw [h]
    · exact Int.add_zero _, eqD_refl (cn_nodup hnd1)]
  refine ⟨false, rfl, iteF ?_⟩
  clear eJ nJ sJ zi exi lxi sI nI exq lxq zQ eH1 sQ1
  have zQ := (zAt.same sQJ)
  obtain ⟨dxq, fsq, exq, lxq⟩ := sz_ins zQ
  refine ⟨_, rfl, x, rfl, .inr ⟨dxq, fsq, exq⟩, x, l, "disk", 1, rfl, zQ, by decide +kernel, by decide, Nat.lt_of_le_of_lt (nms_len l) (by omega), fun HI xi li sI nI fi ai zi => ?_⟩
  obtain ⟨dxi, fsi, exi, lxi⟩ := sz_ins zi
  refine ⟨xi, dxi, fsi, rfl, exi, lxi "by_name" (by decide) (by decide), xi, li, rfl, zi, fun HJ pJ sJ nJ eJ => ?_⟩
  have sQJ2 := same_tr sQJ (same_tr sI sJ)
  have hA2 := sQJ2 _ _ a1
  refine ⟨_, rfl, p1, _, rfl, hA2, fun HG2 pG2 ts2 sG2 nG2 ntG2 pniG2 eG2 prG2 => ?_⟩
  have hB2 := sG2 _ _ hA2
  refine ⟨_, rfl, p1, rfl, .inl ⟨_, .inl hB2⟩, _, .inl ⟨dsi l, .inr "disk", .inl hB2, rfl, rfl⟩, am0 l "disk", 1, getD_am l "disk", rfl, (by show 2 ≤ sizeLine; decide), fun tt2 nt2 => ⟨(by show 1 ≤ sizeLine; decide), fun L2 nL2 => ⟨pG2, L2, _, _, rfl, rfl, keep (keep eG2 nt2) nL2, upd_same, ?_, fun p32 n32 => ?_⟩⟩⟩
  · have := Paired.length prG2
    rw [dsi_len] at this
    rw [List.length_map, this, sizeLine_eq]
    show l.length + 1 ≤ _
    omega
  refine ⟨p32, ts2 ++ [tt2], dsi (l ++ [(("disk" : Str), am0 l "disk" + 1)]), rfl, SqL.of (by rw [upd_same, List.map_append]; rfl), ?_, fun p42 n42 => ?_⟩
  · rw [dsi_append]
    exact paired_append (Paired.mono (fun t q h => SqT.of (keep (keep (keep h nt2) nL2) n32)) prG2) (.cons (SqT.of (keep (keep upd_same nL2) n32)) .nil)
  have em2 : mergeK [] (dsi (l ++ [(("disk" : Str), am0 l "disk" + 1)])) = dsi (put l "disk" (am0 l "disk" + 1)) := by
    have := mergeK_dsi (l ++ [(("disk" : Str), am0 l "disk" + 1)]) []
    rw [mrg_one f1l.nd] at this
    exact this
  rw [em2]
  have hnd2 := put_nodup f1l.nd "disk" (am0 l "disk" + 1)
  refine ⟨p42, put l "disk" (am0 l "disk" + 1), rfl, upd_same, hnd2, Nat.lt_of_le_of_lt (put_len _ _ _) (by omega), fun HH2 pH2 sH2 nH2 eH2 => ?_⟩
  have sQ2 := same_tr (same_tr (same_tr (same_tr (same_tr (same_tr sQJ2 sG2) (same_new nt2)) (same_new nL2)) (same_new n32)) (same_new n42)) sH2
  refine ⟨pJ, pH2, _, _, rfl, rfl, (same_tr (same_tr (same_tr (same_tr (same_tr sG2 (same_new nt2)) (same_new nL2)) (same_new n32)) (same_new n42)) sH2) _ _ eJ, eH2, ?_⟩
  rw [show cn li = cn (put l "disk" (am0 l "disk" + 1)) from cn_congr fi.nd hnd2 fun n => by
    rw [ai, am0_put]
    split
    · rename_i h; rw [h]
    · exact Int.add_zero _, eqD_refl (cn_nodup hnd2)]
  refine ⟨false, rfl, iteF ?_⟩
  clear em2 prG2 eG2 pniG2 ntG2 nG2 hA2 hB2 sG2 sH2 nt2 nL2 n32 n42 nH2 eJ nJ sJ zi exi lxi sI nI exq lxq zQ eH2 sQJ sQJ2
  -- changes of what is told
  have zQ := (zAt.same sQ2)
  obtain ⟨dxq, fsq, exq, lxq⟩ := sz_ins zQ
  refine ⟨_, rfl, x, dxq, fsq, rfl, exq, lxq "by_name" (by decide) (by decide), x, l, rfl, zQ, fun HK pK sK nK eK => ?_⟩
  have hlK : (dsi (cn l)).length < sizeLine := by
    have h1 := nms_lt f1l
    rw [dsi_len, cn_len, sizeLine_eq]
    omega
  refine ⟨_, rfl, pK, _, rfl, DPut.k (k := .inr "zz") eK hlK, ?_⟩
  have sKz : Same HA (upd HK pK (.dK (putK (dsi (cn l)) (.inr "zz") (.int 5)))) := same_tr sQ2 (same_set sK nK)
  generalize upd HK pK (.dK (putK (dsi (cn l)) (.inr "zz") (.int 5))) = HL at sKz ⊢
  clear eK sK exq lxq zQ
  have zQ := (zAt.same sKz)
  obtain ⟨dxq, fsq, exq, lxq⟩ := sz_ins zQ
  refine ⟨_, rfl, x, dxq, fsq, rfl, exq, lxq "names" (by decide) (by decide), x, l, rfl, zQ, fun pN nN => ?_⟩
  refine ⟨.inl ⟨rfl, _, SqL.of upd_same⟩, pN, _, _, rfl, rfl, upd_same, ?_, ?_⟩
  · have h1 := nms_lt f1l
    rw [List.length_map, sizeLine_eq]
    omega
  have sM : Same HA (upd (upd HL pN (.lst ((nms l).map V.str))) pN (.lst ((nms l).map V.str ++ [.str "zz"]))) := same_tr sKz (same_set (same_new nN) nN)
  generalize upd (upd HL pN (.lst ((nms l).map V.str))) pN (.lst ((nms l).map V.str ++ [.str "zz"])) = HM at sM ⊢
  clear nN exq lxq zQ
  -- what was handed in is as it was
  have hM1 := sM _ _ a1
  have hM2 := sM _ _ a2
  have hMk := sM _ _ ak
  refine ⟨_, rfl, .ref p1, _, rfl, shows_drawn hM1 hl, _, rfl, .ref p2, _, rfl, shows_drawn hM2 hm, (by show 2 ≤ sizeLine; decide), fun LL nLL => ?_⟩
  refine ⟨_, rfl, LL, kp, _, _, rfl, rfl, SqL.of upd_same, SqL.of (keep hMk nLL), paired_same _ (fun y hy => by
    rcases List.mem_cons.mp hy with rfl | hy
    · rfl
    · rw [List.mem_singleton.mp hy]
      rfl), false, rfl, iteF ?_⟩
  have sN := same_tr sM (same_new (o := .lst [.str (shD l), .str (shD m)]) nLL)
  generalize upd HM LL (.lst [.str (shD l), .str (shD m)]) = HN at sN ⊢
  have hN1 := sN _ _ a1
  refine ⟨_, rfl, _, rfl, p1, _, rfl, hN1, fun HG pG ts sG nG ntG pniG eG prG => ⟨pG, _, rfl, SqL.of eG, fun pr npr => ?_⟩⟩
  refine ⟨pr, ts.reverse, (dsi l).reverse, rfl, SqL.of (by rw [upd_same, List.map_reverse]), Paired.mono (fun t q h => SqT.of (keep h npr)) (paired_rev prG), fun p4 n4 => ?_⟩
  have er : (dsi l).reverse = dsi l.reverse := (List.map_reverse ..).symm
  have em : mergeK [] (dsi l).reverse = dsi l.reverse := by
    rw [er]
    have := mergeK_dsi l.reverse []
    rw [mrg_self (rev_nodup f1l.nd)] at this
    exact this
  rw [em]
  refine mk_sz upd_same (fit_rev f1l) fun HP x2 sP nP zP => ?_
  have sO := same_tr (same_tr (same_tr (same_tr sN sG) (same_new npr)) (same_new n4)) sP
  clear prG eG pniG ntG nG sG npr n4 em er sP nP
  refine ⟨x, x2, rfl, rfl, isIns (zAt.same sO), isIns zP, x, x2, l, l.reverse, rfl, zAt.same sO, zP, _, rfl, ?_⟩
  rw [show cn l.reverse = cn l from cn_congr (rev_nodup f1l.nd) f1l.nd fun n => am0_rev f1l.nd n, eqD_refl (cn_nodup f1l.nd)]
  refine ⟨false, rfl, ?_⟩
  refine iteF ?_
  -- another amount there
  have hO1 := sO _ _ a1
  have hl1 : (dsi l).length < sizeLine := by
    rw [dsi_len, sizeLine_eq]
    omega
  refine ⟨_, rfl, p1, _, rfl, DPut.k (k := .inr "conn") hO1 hl1, ?_⟩
  have zR := ((zA.same sO).but g1 x1 (fun b o nb hb => keepd (o := .dK (putK (dsi l) (.inr "conn") (.int 77))) hb nb)).at
  have sR : Same H1 (upd HP p1 (.dK (putK (dsi l) (.inr "conn") (.int 77)))) := same_set (same_tr sA sO) np1'
  generalize upd HP p1 (.dK (putK (dsi l) (.inr "conn") (.int 77))) = HR at zR sR ⊢
  clear hO1 hl1 sO sN sM sKz sQ2 zAt zP
  obtain ⟨dxq, fsq, exq, lxq⟩ := sz_ins zR
  refine ⟨_, rfl, _, rfl, x, dxq, fsq, rfl, exq, lxq "names" (by decide) (by decide), x, l, rfl, zR, fun pN2 nN2 => ?_⟩
  have hNm := upd_same (H := HR) (a := pN2) (o := .lst ((nms l).map V.str))
  have zS := zR.same (same_new (o := .lst ((nms l).map V.str)) nN2)
  have sS := same_tr sR (same_new (o := .lst ((nms l).map V.str)) nN2)
  generalize upd HR pN2 (.lst ((nms l).map V.str)) = HS at hNm zS sS ⊢
  refine ⟨pN2, rfl, ⟨_, SqL.of hNm⟩, fun D3 hD3 => ?_⟩
  refine lc_prs (walk_list (xs := (nms l).map V.str)) (fun i => (cn l).take i) hD3 rfl (fun H s => SqL.of (s _ _ hNm)) ?_ ?_
  · intro i' y H4' H5' hi' pp yy
    obtain ⟨rfl, hy⟩ := yy
    rw [List.getElem?_map] at hy
    obtain ⟨n, hn', rfl⟩ := Option.map_eq_some_iff.mp hy
    have hout : (cn l)[i']? = some (n, am0 l n) := by
      unfold cn
      rw [List.getElem?_map, hn']
      rfl
    have zT := zS.same pp.1
    refine ⟨rfl, ?_⟩
    dsimp only [tYes]
    refine iteT ?_
    refine ⟨_, rfl, _, rfl, _, rfl, x, rfl, isIns zT, x, l, _, rfl, zT.r, .inl ⟨n, rfl, (by show 2 ≤ sizeLine; decide), fun t ht => ?_⟩⟩
    refine pp.put same_refl ht hD3 (take_succ' hout) ?_
    have h2 := List.length_take_le' i' (cn l)
    have h3 := nms_lt f1l
    rw [cn_len] at h2
    rw [sizeLine_eq]
    omega
  intro HT pp
  obtain ⟨sT, ts, eT, prT⟩ := pp
  rw [List.length_map] at prT
  dsimp only at prT
  rw [List.take_of_length_le (Nat.le_of_eq (cn_len l))] at prT
  refine ⟨D3, ts, _, rfl, SqL.of eT, prs_sq prT, fun p5 n5 => ?_⟩
  have em : mergeK [] (dsi (cn l)) = dsi (cn l) := by
    have := mergeK_dsi (cn l) []
    rw [mrg_self (cn_nodup f1l.nd)] at this
    exact this
  rw [em]
  refine mk_sz upd_same (fit_cn f1l) fun HU x3 sU nU zU => ?_
  have sV := same_tr (same_tr sT (same_new n5)) sU
  refine ⟨x, x3, rfl, rfl, isIns (zS.same sV), isIns zU, x, x3, l, cn l, rfl, zS.same sV, zU, _, rfl, ?_⟩
  rw [show cn (cn l) = cn l from cn_congr (cn_nodup f1l.nd) f1l.nd fun n => am0_cn f1l n, eqD_refl (cn_nodup f1l.nd)]
  refine ⟨false, rfl, iteF ?_⟩
  exact ⟨_, _, _, _, _, _, _, _, _, _, rfl, same_tr s0 (same_tr sS sV)⟩
end
end Lp

set_option Elab.async false
set_option linter.all false
set_option maxRecDepth 100000
set_option maxHeartbeats 8000000
namespace Lp
open PySem PySem.Spec PyProof.Rows L2
theorem fin {w : World} {K : PySem.W.Frag} {mg mb : Str → Option Value} {s₁ : Shared} {fa a : Addr} {vs : List Value} {ns : List Int} {cS cN fNe pTo tCa fII fWd fAm fAr fDs fDr fLa fPl fMi fDu fTo fTw fLw fIn fGe fHa fLe fEq fSt fTt fNa fBy fFi fAd fSu fAn fOr fMu fCa : Addr}
    {tkL : Tok}
    {odII anII : Option Addr} {slII : Array (Option Value)} {ocII kVII dcII pmII cdII ctII : Value}
    {odWd anWd : Option Addr} {slWd : Array (Option Value)} {ocWd kVWd dcWd pmWd cdWd ctWd : Value}
    {odAm anAm : Option Addr} {slAm : Array (Option Value)} {ocAm kVAm dcAm pmAm cdAm ctAm : Value}
    {odAr anAr : Option Addr} {slAr : Array (Option Value)} {ocAr kVAr dcAr pmAr cdAr ctAr : Value}
    {odDs anDs : Option Addr} {slDs : Array (Option Value)} {ocDs kVDs dcDs pmDs cdDs ctDs : Value}
    {odDr anDr : Option Addr} {slDr : Array (Option Value)} {ocDr kVDr dcDr pmDr cdDr ctDr : Value}
    {odLa anLa : Option Addr} {slLa : Array (Option Value)} {ocLa kVLa dcLa pmLa cdLa ctLa : Value}
    {odPl anPl : Option Addr} {slPl : Array (Option Value)} {ocPl kVPl dcPl pmPl cdPl ctPl : Value}
    {odMi anMi : Option Addr} {slMi : Array (Option Value)} {ocMi kVMi dcMi pmMi cdMi ctMi : Value}
    {odDu anDu : Option Addr} {slDu : Array (Option Value)} {ocDu kVDu dcDu pmDu cdDu ctDu : Value}
    {odTo anTo : Option Addr} {slTo : Array (Option Value)} {ocTo kVTo dcTo pmTo cdTo ctTo : Value}
    {odTw anTw : Option Addr} {slTw : Array (Option Value)} {ocTw kVTw dcTw pmTw cdTw ctTw : Value}
    {odLw anLw : Option Addr} {slLw : Array (Option Value)} {ocLw kVLw dcLw pmLw cdLw ctLw : Value}
    {odIn anIn : Option Addr} {slIn : Array (Option Value)} {ocIn kVIn dcIn pmIn cdIn ctIn : Value}
    {odGe anGe : Option Addr} {slGe : Array (Option Value)} {ocGe kVGe dcGe pmGe cdGe ctGe : Value}
    {odHa anHa : Option Addr} {slHa : Array (Option Value)} {ocHa kVHa dcHa pmHa cdHa ctHa : Value}
    {odLe anLe : Option Addr} {slLe : Array (Option Value)} {ocLe kVLe dcLe pmLe cdLe ctLe : Value}
    {odEq anEq : Option Addr} {slEq : Array (Option Value)} {ocEq kVEq dcEq pmEq cdEq ctEq : Value}
    {odSt anSt : Option Addr} {slSt : Array (Option Value)} {ocSt kVSt dcSt pmSt cdSt ctSt : Value}
    {restP : List Value}
    {odTt anTt : Option Addr} {slTt : Array (Option Value)} {ocTt kVTt dcTt pmTt cdTt ctTt : Value}
    {odNa anNa : Option Addr} {slNa : Array (Option Value)} {ocNa kVNa dcNa pmNa cdNa ctNa : Value}
    {odBy anBy : Option Addr} {slBy : Array (Option Value)} {ocBy kVBy dcBy pmBy cdBy ctBy : Value}
    {odFi anFi : Option Addr} {slFi : Array (Option Value)} {ocFi kVFi dcFi pmFi cdFi ctFi : Value}
    {odAd anAd : Option Addr} {slAd : Array (Option Value)} {ocAd kVAd dcAd pmAd cdAd ctAd : Value}
    {odSu anSu : Option Addr} {slSu : Array (Option Value)} {ocSu kVSu dcSu pmSu cdSu ctSu : Value}
    {odAn anAn : Option Addr} {slAn : Array (Option Value)} {ocAn kVAn dcAn pmAn cdAn ctAn : Value}
    {odOr anOr : Option Addr} {slOr : Array (Option Value)} {ocOr kVOr dcOr pmOr cdOr ctOr : Value}
    {odMu anMu : Option Addr} {slMu : Array (Option Value)} {ocMu kVMu dcMu pmMu cdMu ctMu : Value}
    {odCa anCa : Option Addr} {slCa : Array (Option Value)} {ocCa kVCa dcCa pmCa cdCa ctCa : Value}
    {ocT : Value} {odT : Option Addr} {tkT : Tok} {nT : Nat} {slT : Array (Option Value)}
    {rc fo ro : Option Value}
    {odNe anNe : Option Addr} {slNe : Array (Option Value)} {ocNe kVNe dcNe pmNe cdNe ctNe : Value}
    (KX : K.In s₁.heap) (G : s₁.heap.Ns mainGlobals mg) (Gb : s₁.heap.Ns builtinsNs mb) (hbb : ∀ x : Str, x ≠ "__name__" → mb x = bootBuiltins x) (hlim : s₁.heap.NoLimit) (hg : s₁.gens = #[]) (hmg : mg "law" = some (.ref fa))
    (ha : s₁.heap.get? a = some { cls := .type "list", data := .seq vs.toArray }) (hi : IntsAre vs ns) (hl : ns.length ≤ 63)
    (aS : PySem.W.nsIn K mainGlobals "Sizes" = some (some (.ref cS)))
    (aN : PySem.W.nsIn K mainGlobals "NotEnough" = some (some (.ref cN)))
    (aL : PySem.W.nsIn K mainGlobals "LONGEST" = some (some (.int 8 tkL)))
    (aII : PySem.W.nsIn K mainGlobals "is_integer" = some (some (.ref fII)))
    (lII : K.lookup fII = some ⟨ocII, odII, .func (PySem.W.fnOf "is_integer" "is_integer" (defArgs sIsInt) (defBody sIsInt) (defScope sIsInt) .none kVII dcII pmII anII cdII ctII), slII⟩)
    (gII : PySem.W.codeIn K cdII "is_integer" = true)
    (kII : PySem.W.keepIn K (.ref fII) = true)
    (aWd : PySem.W.nsIn K mainGlobals "is_word" = some (some (.ref fWd)))
    (lWd : K.lookup fWd = some ⟨ocWd, odWd, .func (PySem.W.fnOf "is_word" "is_word" (defArgs sWord) (defBody sWord) (defScope sWord) .none kVWd dcWd pmWd anWd cdWd ctWd), slWd⟩)
    (gWd : PySem.W.codeIn K cdWd "is_word" = true)
    (kWd : PySem.W.keepIn K (.ref fWd) = true)
    (aAm : PySem.W.nsIn K mainGlobals "is_amount" = some (some (.ref fAm)))
    (lAm : K.lookup fAm = some ⟨ocAm, odAm, .func (PySem.W.fnOf "is_amount" "is_amount" (defArgs sAmt) (defBody sAmt) (defScope sAmt) .none kVAm dcAm pmAm anAm cdAm ctAm), slAm⟩)
    (gAm : PySem.W.codeIn K cdAm "is_amount" = true)
    (kAm : PySem.W.keepIn K (.ref fAm) = true)
    (aAr : PySem.W.nsIn K mainGlobals "are_amounts" = some (some (.ref fAr)))
    (lAr : K.lookup fAr = some ⟨ocAr, odAr, .func (PySem.W.fnOf "are_amounts" "are_amounts" (defArgs sAre) (defBody sAre) (defScope sAre) .none kVAr dcAr pmAr anAr cdAr ctAr), slAr⟩)
    (gAr : PySem.W.codeIn K cdAr "are_amounts" = true)
    (kAr : PySem.W.keepIn K (.ref fAr) = true)
    (aDs : PySem.W.nsIn K mainGlobals "_law_draws" = some (some (.ref fDs)))
    (lDs : K.lookup fDs = some ⟨ocDs, odDs, .func (PySem.W.fnOf "_law_draws" "_law_draws" (defArgs sDraws) (defBody sDraws) (defScope sDraws) .none kVDs dcDs pmDs anDs cdDs ctDs), slDs⟩)
    (gDs : PySem.W.codeIn K cdDs "_law_draws" = true)
    (kDs : PySem.W.keepIn K (.ref fDs) = true)
    (aDr : PySem.W.nsIn K mainGlobals "_law_draw" = some (some (.ref fDr)))
    (lDr : K.lookup fDr = some ⟨ocDr, odDr, .func (PySem.W.fnOf "_law_draw" "_law_draw" (defArgs sDraw) (defBody sDraw) (defScope sDraw) .none kVDr dcDr pmDr anDr cdDr ctDr), slDr⟩)
    (gDr : PySem.W.codeIn K cdDr "_law_draw" = true)
    (kDr : PySem.W.keepIn K (.ref fDr) = true)
    (aLa : PySem.W.nsIn K mainGlobals "_law_amounts" = some (some (.ref fLa)))
    (lLa : K.lookup fLa = some ⟨ocLa, odLa, .func (PySem.W.fnOf "_law_amounts" "_law_amounts" (defArgs sAmounts) (defBody sAmounts) (defScope sAmounts) .none kVLa dcLa pmLa anLa cdLa ctLa), slLa⟩)
    (gLa : PySem.W.codeIn K cdLa "_law_amounts" = true)
    (kLa : PySem.W.keepIn K (.ref fLa) = true)
    (aPl : PySem.W.nsIn K mainGlobals "_law_plain" = some (some (.ref fPl)))
    (lPl : K.lookup fPl = some ⟨ocPl, odPl, .func (PySem.W.fnOf "_law_plain" "_law_plain" (defArgs sPlain) (defBody sPlain) (defScope sPlain) .none kVPl dcPl pmPl anPl cdPl ctPl), slPl⟩)
    (gPl : PySem.W.codeIn K cdPl "_law_plain" = true)
    (kPl : PySem.W.keepIn K (.ref fPl) = true)
    (aMi : PySem.W.nsIn K mainGlobals "_law_minus" = some (some (.ref fMi)))
    (lMi : K.lookup fMi = some ⟨ocMi, odMi, .func (PySem.W.fnOf "_law_minus" "_law_minus" (defArgs sMinus) (defBody sMinus) (defScope sMinus) .none kVMi dcMi pmMi anMi cdMi ctMi), slMi⟩)
    (gMi : PySem.W.codeIn K cdMi "_law_minus" = true)
    (kMi : PySem.W.keepIn K (.ref fMi) = true)
    (aDu : PySem.W.nsIn K mainGlobals "_law_due" = some (some (.ref fDu)))
    (lDu : K.lookup fDu = some ⟨ocDu, odDu, .func (PySem.W.fnOf "_law_due" "_law_due" (defArgs sDue) (defBody sDue) (defScope sDue) .none kVDu dcDu pmDu anDu cdDu ctDu), slDu⟩)
    (gDu : PySem.W.codeIn K cdDu "_law_due" = true)
    (kDu : PySem.W.keepIn K (.ref fDu) = true)
    (aTo : PySem.W.nsIn K mainGlobals "_law_told_right" = some (some (.ref fTo)))
    (lTo : K.lookup fTo = some ⟨ocTo, odTo, .func (PySem.W.fnOf "_law_told_right" "_law_told_right" (defArgs sTold) (defBody sTold) (defScope sTold) .none kVTo dcTo pmTo anTo cdTo ctTo), slTo⟩)
    (gTo : PySem.W.codeIn K cdTo "_law_told_right" = true)
    (kTo : PySem.W.keepIn K (.ref fTo) = true)
    (aTw : PySem.W.nsIn K mainGlobals "_law_two_right" = some (some (.ref fTw)))
    (lTw : K.lookup fTw = some ⟨ocTw, odTw, .func (PySem.W.fnOf "_law_two_right" "_law_two_right" (defArgs sTwo) (defBody sTwo) (defScope sTwo) .none kVTw dcTw pmTw anTw cdTw ctTw), slTw⟩)
    (gTw : PySem.W.codeIn K cdTw "_law_two_right" = true)
    (kTw : PySem.W.keepIn K (.ref fTw) = true)
    (aLw : PySem.W.nsIn K mainGlobals "law" = some (some (.ref fLw)))
    (lLw : K.lookup fLw = some ⟨ocLw, odLw, .func (PySem.W.fnOf "law" "law" (defArgs sLaw1) (defBody sLaw1) (defScope sLaw1) .none kVLw dcLw pmLw anLw cdLw ctLw), slLw⟩)
    (gLw : PySem.W.codeIn K cdLw "law" = true)
    (kLw : PySem.W.keepIn K (.ref fLw) = true)
    (aIn : PySem.W.findIn K (.ref cS) "__init__" = some (some (.ref fIn)))
    (iIn : PySem.W.isFn K (.ref fIn) = true)
    (lIn : K.lookup fIn = some ⟨ocIn, odIn, .func (PySem.W.fnOf "__init__" "Sizes.__init__" (defArgs sInit) (defBody sInit) (defScope sInit) .none kVIn dcIn pmIn anIn cdIn ctIn), slIn⟩)
    (gIn : PySem.W.codeIn K cdIn "Sizes.__init__" = true)
    (kIn : PySem.W.keepIn K (.ref fIn) = true)
    (aGe : PySem.W.findIn K (.ref cS) "__getitem__" = some (some (.ref fGe)))
    (iGe : PySem.W.isFn K (.ref fGe) = true)
    (lGe : K.lookup fGe = some ⟨ocGe, odGe, .func (PySem.W.fnOf "__getitem__" "Sizes.__getitem__" (defArgs sGet) (defBody sGet) (defScope sGet) .none kVGe dcGe pmGe anGe cdGe ctGe), slGe⟩)
    (gGe : PySem.W.codeIn K cdGe "Sizes.__getitem__" = true)
    (kGe : PySem.W.keepIn K (.ref fGe) = true)
    (aHa : PySem.W.findIn K (.ref cS) "__contains__" = some (some (.ref fHa)))
    (iHa : PySem.W.isFn K (.ref fHa) = true)
    (lHa : K.lookup fHa = some ⟨ocHa, odHa, .func (PySem.W.fnOf "__contains__" "Sizes.__contains__" (defArgs sHas) (defBody sHas) (defScope sHas) .none kVHa dcHa pmHa anHa cdHa ctHa), slHa⟩)
    (gHa : PySem.W.codeIn K cdHa "Sizes.__contains__" = true)
    (kHa : PySem.W.keepIn K (.ref fHa) = true)
    (aLe : PySem.W.findIn K (.ref cS) "__len__" = some (some (.ref fLe)))
    (iLe : PySem.W.isFn K (.ref fLe) = true)
    (lLe : K.lookup fLe = some ⟨ocLe, odLe, .func (PySem.W.fnOf "__len__" "Sizes.__len__" (defArgs sLen) (defBody sLen) (defScope sLen) .none kVLe dcLe pmLe anLe cdLe ctLe), slLe⟩)
    (gLe : PySem.W.codeIn K cdLe "Sizes.__len__" = true)
    (kLe : PySem.W.keepIn K (.ref fLe) = true)
    (aEq : PySem.W.findIn K (.ref cS) "__eq__" = some (some (.ref fEq)))
    (iEq : PySem.W.isFn K (.ref fEq) = true)
    (lEq : K.lookup fEq = some ⟨ocEq, odEq, .func (PySem.W.fnOf "__eq__" "Sizes.__eq__" (defArgs sEq) (defBody sEq) (defScope sEq) .none kVEq dcEq pmEq anEq cdEq ctEq), slEq⟩)
    (gEq : PySem.W.codeIn K cdEq "Sizes.__eq__" = true)
    (kEq : PySem.W.keepIn K (.ref fEq) = true)
    (aSt : PySem.W.findIn K (.ref cS) "__str__" = some (some (.ref fSt)))
    (iSt : PySem.W.isFn K (.ref fSt) = true)
    (lSt : K.lookup fSt = some ⟨ocSt, odSt, .func (PySem.W.fnOf "__str__" "Sizes.__str__" (defArgs sStr) (defBody sStr) (defScope sStr) .none kVSt dcSt pmSt anSt cdSt ctSt), slSt⟩)
    (gSt : PySem.W.codeIn K cdSt "Sizes.__str__" = true)
    (kSt : PySem.W.keepIn K (.ref fSt) = true)
    (aPt : PySem.W.findIn K (.ref cS) "total" = some (some (.ref pTo)))
    (rPt : PySem.W.recIn K pTo "property" = some (.ref fTt :: restP))
    (sPt : PySem.W.specialIn K (.ref pTo) "__get__" = some (some (.builtin "property.__get__")))
    (tPt : PySem.W.takesIn K (.ref pTo) = some true)
    (lTt : K.lookup fTt = some ⟨ocTt, odTt, .func (PySem.W.fnOf "total" "Sizes.total" (defArgs sTotal) (defBody sTotal) (defScope sTotal) .none kVTt dcTt pmTt anTt cdTt ctTt), slTt⟩)
    (gTt : PySem.W.codeIn K cdTt "Sizes.total" = true)
    (kTt : PySem.W.keepIn K (.ref fTt) = true)
    (aNa : PySem.W.findIn K (.ref cS) "names" = some (some (.ref fNa)))
    (iNa : PySem.W.isFn K (.ref fNa) = true)
    (lNa : K.lookup fNa = some ⟨ocNa, odNa, .func (PySem.W.fnOf "names" "Sizes.names" (defArgs sNames) (defBody sNames) (defScope sNames) .none kVNa dcNa pmNa anNa cdNa ctNa), slNa⟩)
    (gNa : PySem.W.codeIn K cdNa "Sizes.names" = true)
    (kNa : PySem.W.keepIn K (.ref fNa) = true)
    (aBy : PySem.W.findIn K (.ref cS) "by_name" = some (some (.ref fBy)))
    (iBy : PySem.W.isFn K (.ref fBy) = true)
    (lBy : K.lookup fBy = some ⟨ocBy, odBy, .func (PySem.W.fnOf "by_name" "Sizes.by_name" (defArgs sByName) (defBody sByName) (defScope sByName) .none kVBy dcBy pmBy anBy cdBy ctBy), slBy⟩)
    (gBy : PySem.W.codeIn K cdBy "Sizes.by_name" = true)
    (kBy : PySem.W.keepIn K (.ref fBy) = true)
    (aFi : PySem.W.findIn K (.ref cS) "fits" = some (some (.ref fFi)))
    (iFi : PySem.W.isFn K (.ref fFi) = true)
    (lFi : K.lookup fFi = some ⟨ocFi, odFi, .func (PySem.W.fnOf "fits" "Sizes.fits" (defArgs sFits) (defBody sFits) (defScope sFits) .none kVFi dcFi pmFi anFi cdFi ctFi), slFi⟩)
    (gFi : PySem.W.codeIn K cdFi "Sizes.fits" = true)
    (kFi : PySem.W.keepIn K (.ref fFi) = true)
    (aAd : PySem.W.findIn K (.ref cS) "__add__" = some (some (.ref fAd)))
    (iAd : PySem.W.isFn K (.ref fAd) = true)
    (lAd : K.lookup fAd = some ⟨ocAd, odAd, .func (PySem.W.fnOf "__add__" "Sizes.__add__" (defArgs sAdd) (defBody sAdd) (defScope sAdd) .none kVAd dcAd pmAd anAd cdAd ctAd), slAd⟩)
    (gAd : PySem.W.codeIn K cdAd "Sizes.__add__" = true)
    (kAd : PySem.W.keepIn K (.ref fAd) = true)
    (aSu : PySem.W.findIn K (.ref cS) "__sub__" = some (some (.ref fSu)))
    (iSu : PySem.W.isFn K (.ref fSu) = true)
    (lSu : K.lookup fSu = some ⟨ocSu, odSu, .func (PySem.W.fnOf "__sub__" "Sizes.__sub__" (defArgs sSub) (defBody sSub) (defScope sSub) .none kVSu dcSu pmSu anSu cdSu ctSu), slSu⟩)
    (gSu : PySem.W.codeIn K cdSu "Sizes.__sub__" = true)
    (kSu : PySem.W.keepIn K (.ref fSu) = true)
    (aAn : PySem.W.findIn K (.ref cS) "__and__" = some (some (.ref fAn)))
    (iAn : PySem.W.isFn K (.ref fAn) = true)
    (lAn : K.lookup fAn = some ⟨ocAn, odAn, .func (PySem.W.fnOf "__and__" "Sizes.__and__" (defArgs sAnd) (defBody sAnd) (defScope sAnd) .none kVAn dcAn pmAn anAn cdAn ctAn), slAn⟩)
    (gAn : PySem.W.codeIn K cdAn "Sizes.__and__" = true)
    (kAn : PySem.W.keepIn K (.ref fAn) = true)
    (aOr : PySem.W.findIn K (.ref cS) "__or__" = some (some (.ref fOr)))
    (iOr : PySem.W.isFn K (.ref fOr) = true)
    (lOr : K.lookup fOr = some ⟨ocOr, odOr, .func (PySem.W.fnOf "__or__" "Sizes.__or__" (defArgs sOr) (defBody sOr) (defScope sOr) .none kVOr dcOr pmOr anOr cdOr ctOr), slOr⟩)
    (gOr : PySem.W.codeIn K cdOr "Sizes.__or__" = true)
    (kOr : PySem.W.keepIn K (.ref fOr) = true)
    (aMu : PySem.W.findIn K (.ref cS) "__mul__" = some (some (.ref fMu)))
    (iMu : PySem.W.isFn K (.ref fMu) = true)
    (lMu : K.lookup fMu = some ⟨ocMu, odMu, .func (PySem.W.fnOf "__mul__" "Sizes.__mul__" (defArgs sMul) (defBody sMul) (defScope sMul) .none kVMu dcMu pmMu anMu cdMu ctMu), slMu⟩)
    (gMu : PySem.W.codeIn K cdMu "Sizes.__mul__" = true)
    (kMu : PySem.W.keepIn K (.ref fMu) = true)
    (aCa : PySem.W.findIn K (.ref cS) "__call__" = some (some (.ref fCa)))
    (iCa : PySem.W.isFn K (.ref fCa) = true)
    (lCa : K.lookup fCa = some ⟨ocCa, odCa, .func (PySem.W.fnOf "__call__" "Sizes.__call__" (defArgs sCall) (defBody sCall) (defScope sCall) (.ref tCa) kVCa dcCa pmCa anCa cdCa ctCa), slCa⟩)
    (gCa : PySem.W.codeIn K cdCa "Sizes.__call__" = true)
    (kCa : PySem.W.keepIn K (.ref fCa) = true)
    (lT : K.lookup tCa = some ⟨ocT, odT, .seq #[.int 1 tkT] nT, slT⟩)
    (nGe : PySem.W.fnIn K fGe = true)
    (nCa : PySem.W.fnIn K fCa = true)
    (zlen : PySem.W.nsIn K mainGlobals "len" = some none)
    (zint : PySem.W.nsIn K mainGlobals "int" = some none)
    (zisinstance : PySem.W.nsIn K mainGlobals "isinstance" = some none)
    (zbool : PySem.W.nsIn K mainGlobals "bool" = some none)
    (zstr : PySem.W.nsIn K mainGlobals "str" = some none)
    (zdict : PySem.W.nsIn K mainGlobals "dict" = some none)
    (zall : PySem.W.nsIn K mainGlobals "all" = some none)
    (zsorted : PySem.W.nsIn K mainGlobals "sorted" = some none)
    (zmax : PySem.W.nsIn K mainGlobals "max" = some none)
    (zmin : PySem.W.nsIn K mainGlobals "min" = some none)
    (zsum : PySem.W.nsIn K mainGlobals "sum" = some none)
    (zlist : PySem.W.nsIn K mainGlobals "list" = some none)
    (zrange : PySem.W.nsIn K mainGlobals "range" = some none)
    (zrepr : PySem.W.nsIn K mainGlobals "repr" = some none)
    (zArithmeticError : PySem.W.nsIn K mainGlobals "ArithmeticError" = some none)
    (cls : Cls K cS)
    (nN : PySem.W.findIn K (.ref cS) "_names" = some none)
    (nA : PySem.W.findIn K (.ref cS) "_amounts" = some none)
    (jII : PySem.W.kitOne K (.type "int") (.type "int") = some true)
    (jIB : PySem.W.kitOne K (.type "int") (.type "bool") = some false)
    (jSS : PySem.W.kitOne K (.type "str") (.type "str") = some true)
    (jDD : PySem.W.kitOne K (.type "dict") (.type "dict") = some true)
    (jNS : PySem.W.kitOne K (.type "NoneType") (.type "str") = some false)
    (jIS : PySem.W.kitOne K (.type "int") (.type "str") = some false)
    (jLS : PySem.W.kitOne K (.type "list") (.type "str") = some false)
    (mk : PySem.W.makesIn K cS = true)
    (kS : PySem.W.keepIn K (.ref cS) = true)
    (insK : InsK K cS)
    (first : PySem.W.selfFirst K cS = true)
    (x1 : PySem.W.findIn K (.ref cS) (dunderR "mul") = some rc)
    (x2 : (rc = none ∨ ∃ g : Addr, rc = some (.ref g)))
    (x3 : PySem.W.findIn K (.type "int") (PySem.dunder "mul") = some fo)
    (x4 : PySem.W.findIn K (.type "int") (dunderR "mul") = some ro)
    (x5 : PySem.W.subIn K (.type "int") (.ref cS) = some false)
    (neIn : PySem.W.findIn K (.ref cS) "__ne__" = some (some (.builtin "object.__ne__")))
    (obIn : PySem.W.mroIn K cS (.type "object") = some true)
    (oxN : OexB K cN arT "ArithmeticError.__new__")
    (nfN : PySem.W.findIn K (.ref cN) "name" = some none)
    (iCN : PySem.W.findIn K (.ref cN) "__init__" = some (some (.ref fNe)))
    (tIN : PySem.W.typeIn K (.ref fNe) = some (.type "function"))
    (vVN : PySem.W.findCls K (.type "ArithmeticError") (.type "type") "__init__" = some (.val (.builtin "ArithmeticError.__init__")))
    (lNe : K.lookup fNe = some ⟨ocNe, odNe, .func (PySem.W.fnOf "__init__" "NotEnough.__init__" (defArgs sShort) (defBody sShort) (defScope sShort) .none kVNe dcNe pmNe anNe cdNe ctNe), slNe⟩)
    (gNe : PySem.W.codeIn K cdNe "NotEnough.__init__" = true)
    (kNe : PySem.W.keepIn K (.ref fNe) = true)
    (xfN : XfC K cN)
    (teN : PySem.W.exmOne K (.ref cN) (.ref cN) = some true)
    : codeAny (model PySem.Challenge.pw_leastpools_k01_sizes_told w) callerA (.call (.ref fa) ⟨[.ref a], []⟩) (fun r s' => r = .ok (.ret (.bool true)) ∧ OldK s₁.heap s'.heap ∧ s'.os = s₁.os ∧ AllBare s'.gens) s₁ := by
  have e := hmg.symm.trans (PySem.W.mg_of KX G aLw)
  cases e
  let A : Ads := ⟨fII, fWd, fAm, fAr, cS, fIn⟩
  let B : Bds := ⟨fGe, fHa, fLe, fEq, fSt, fTt, fNa, fBy, fFi, fAd, fSu, fAn, fOr, fMu, fCa⟩
  have bi : Bi mg := ⟨PySem.W.mg_none_of KX G zlen, PySem.W.mg_none_of KX G zint⟩
  have tz : Tz K mg A := ⟨bi, PySem.W.mg_none_of KX G zisinstance, PySem.W.mg_none_of KX G zbool, PySem.W.mg_none_of KX G zstr, PySem.W.mg_none_of KX G zdict, PySem.W.mg_none_of KX G zall, PySem.W.mg_none_of KX G zsorted, ⟨_, PySem.W.mg_of KX G aL⟩, PySem.W.mg_of KX G aII, PySem.W.mg_of KX G aWd, PySem.W.mg_of KX G aAm, PySem.W.mg_of KX G aAr, PySem.W.mg_of KX G aS, cls, nN, nA, jII, jIB, jSS, jDD⟩
  have T : Tsz K mg A B := ⟨tz, PySem.W.mg_none_of KX G zmax, PySem.W.mg_none_of KX G zmin, PySem.W.mg_none_of KX G zsum, PySem.W.mg_none_of KX G zlist, ⟨mk, aIn, iIn, kS⟩, insK, first, ⟨aGe, iGe⟩, nGe, ⟨aHa, iHa⟩, ⟨aLe, iLe⟩, ⟨aEq, iEq⟩, ⟨aSt, iSt⟩, ⟨aAd, iAd⟩, ⟨aSu, iSu⟩, ⟨aAn, iAn⟩, ⟨aOr, iOr⟩, ⟨aMu, iMu⟩, ⟨aNa, iNa, kNa⟩, ⟨aBy, iBy, kBy⟩, ⟨aFi, iFi, kFi⟩⟩
  have TN : Tn K mg cN fNe := ⟨PySem.W.mg_of KX G aN, PySem.W.mg_none_of KX G zArithmeticError, oxN, nfN, iCN, tIN, vVN⟩
  have TX : Tx K cN := ⟨xfN, teN⟩
  have TL : Tl mg fDr := ⟨PySem.W.mg_none_of KX G zrange, PySem.W.mg_of KX G aDr⟩
  have TP : Tp mg := ⟨PySem.W.mg_none_of KX G zsorted, PySem.W.mg_none_of KX G zdict⟩
  have TK : Tk K := ⟨jNS, jIS, jLS⟩
  have PT : PropOf K cS "total" pTo fTt := ⟨aPt, sPt, tPt, ⟨_, rPt⟩⟩
  have FII := fun_mk (st := sIsInt) lII gII kII
  have BII := FII.binds (ps := ["thing"]) fun _ _ _ _ _ _ us hl => match us, hl with | [_], _ => rfl
  have FWd := fun_mk (st := sWord) lWd gWd kWd
  have BWd := FWd.binds (ps := ["thing"]) fun _ _ _ _ _ _ us hl => match us, hl with | [_], _ => rfl
  have FAm := fun_mk (st := sAmt) lAm gAm kAm
  have BAm := FAm.binds (ps := ["thing"]) fun _ _ _ _ _ _ us hl => match us, hl with | [_], _ => rfl
  have FAr := fun_mk (st := sAre) lAr gAr kAr
  have BAr := FAr.binds (ps := ["thing"]) fun _ _ _ _ _ _ us hl => match us, hl with | [_], _ => rfl
  have FDs := fun_mk (st := sDraws) lDs gDs kDs
  have BDs := FDs.binds (ps := ["_law_script", "_law_k"]) fun _ _ _ _ _ _ us hl => match us, hl with | [_, _], _ => rfl
  have FDr := fun_mk (st := sDraw) lDr gDr kDr
  have BDr := FDr.binds (ps := ["_law_draws_here", "_law_upto"]) fun _ _ _ _ _ _ us hl => match us, hl with | [_, _], _ => rfl
  have FLa := fun_mk (st := sAmounts) lLa gLa kLa
  have BLa := FLa.binds (ps := ["_law_draws_here"]) fun _ _ _ _ _ _ us hl => match us, hl with | [_], _ => rfl
  have FPl := fun_mk (st := sPlain) lPl gPl kPl
  have BPl := FPl.binds (ps := ["_law_amounts_here"]) fun _ _ _ _ _ _ us hl => match us, hl with | [_], _ => rfl
  have FMi := fun_mk (st := sMinus) lMi gMi kMi
  have BMi := FMi.binds (ps := ["_law_one", "_law_other"]) fun _ _ _ _ _ _ us hl => match us, hl with | [_, _], _ => rfl
  have FDu := fun_mk (st := sDue) lDu gDu kDu
  have BDu := FDu.binds (ps := ["_law_one", "_law_other"]) fun _ _ _ _ _ _ us hl => match us, hl with | [_, _], _ => rfl
  have FTo := fun_mk (st := sTold) lTo gTo kTo
  have BTo := FTo.binds (ps := ["_law_amounts_here"]) fun _ _ _ _ _ _ us hl => match us, hl with | [_], _ => rfl
  have FTw := fun_mk (st := sTwo) lTw gTw kTw
  have BTw := FTw.binds (ps := ["_law_one", "_law_other"]) fun _ _ _ _ _ _ us hl => match us, hl with | [_, _], _ => rfl
  have FLw := fun_mk (st := sLaw1) lLw gLw kLw
  have BLw := FLw.binds (ps := ["_law_script"]) fun _ _ _ _ _ _ us hl => match us, hl with | [_], _ => rfl
  have FIn := fun_mk (st := sInit) lIn gIn kIn
  have BIn := FIn.binds (ps := ["self", "amounts"]) fun _ _ _ _ _ _ us hl => match us, hl with | [_, _], _ => rfl
  have FGe := fun_mk (st := sGet) lGe gGe kGe
  have BGe := FGe.binds (ps := ["self", "at"]) fun _ _ _ _ _ _ us hl => match us, hl with | [_, _], _ => rfl
  have FHa := fun_mk (st := sHas) lHa gHa kHa
  have BHa := FHa.binds (ps := ["self", "x"]) fun _ _ _ _ _ _ us hl => match us, hl with | [_, _], _ => rfl
  have FLe := fun_mk (st := sLen) lLe gLe kLe
  have BLe := FLe.binds (ps := ["self"]) fun _ _ _ _ _ _ us hl => match us, hl with | [_], _ => rfl
  have FEq := fun_mk (st := sEq) lEq gEq kEq
  have BEq := FEq.binds (ps := ["self", "other"]) fun _ _ _ _ _ _ us hl => match us, hl with | [_, _], _ => rfl
  have FSt := fun_mk (st := sStr) lSt gSt kSt
  have BSt := FSt.binds (ps := ["self"]) fun _ _ _ _ _ _ us hl => match us, hl with | [_], _ => rfl
  have FTt := fun_mk (st := sTotal) lTt gTt kTt
  have BTt := FTt.binds (ps := ["self"]) fun _ _ _ _ _ _ us hl => match us, hl with | [_], _ => rfl
  have FNa := fun_mk (st := sNames) lNa gNa kNa
  have BNa := FNa.binds (ps := ["self"]) fun _ _ _ _ _ _ us hl => match us, hl with | [_], _ => rfl
  have FBy := fun_mk (st := sByName) lBy gBy kBy
  have BBy := FBy.binds (ps := ["self"]) fun _ _ _ _ _ _ us hl => match us, hl with | [_], _ => rfl
  have FFi := fun_mk (st := sFits) lFi gFi kFi
  have BFi := FFi.binds (ps := ["self", "other"]) fun _ _ _ _ _ _ us hl => match us, hl with | [_, _], _ => rfl
  have FAd := fun_mk (st := sAdd) lAd gAd kAd
  have BAd := FAd.binds (ps := ["self", "other"]) fun _ _ _ _ _ _ us hl => match us, hl with | [_, _], _ => rfl
  have FSu := fun_mk (st := sSub) lSu gSu kSu
  have BSu := FSu.binds (ps := ["self", "other"]) fun _ _ _ _ _ _ us hl => match us, hl with | [_, _], _ => rfl
  have FAn := fun_mk (st := sAnd) lAn gAn kAn
  have BAn := FAn.binds (ps := ["self", "other"]) fun _ _ _ _ _ _ us hl => match us, hl with | [_, _], _ => rfl
  have FOr := fun_mk (st := sOr) lOr gOr kOr
  have BOr := FOr.binds (ps := ["self", "other"]) fun _ _ _ _ _ _ us hl => match us, hl with | [_, _], _ => rfl
  have FMu := fun_mk (st := sMul) lMu gMu kMu
  have BMu := FMu.binds (ps := ["self", "other"]) fun _ _ _ _ _ _ us hl => match us, hl with | [_, _], _ => rfl
  have FNe := fun_mk (st := sShort) lNe gNe kNe
  have BNe := FNe.binds (ps := ["self", "name"]) fun _ _ _ _ _ _ us hl => match us, hl with | [_, _], _ => rfl
  have FCa : FunD K "__call__" "Sizes.__call__" (defArgs sCall) (defBody sCall) (defScope sCall) [.int 1] [] fCa _ := ⟨⟨_, _, _, _, _, _, _, _, _, _, rfl, lCa, gCa, .inr ⟨List.cons_ne_nil _ _, _, _, [.int 1 tkT], nT, rfl, lT, rfl, .cons ⟨_, rfl⟩ .nil⟩, .inl rfl⟩, kCa⟩
  obtain ⟨ds1, rd1, bd1⟩ := FCa.binds1 (ps := ["self", "name", "by"]) 2 0 (List.cons_ne_nil _ _) rfl fun T kV doc pm an cdv ct us its h1 h2 => match us, its, h1, h2 with | [_, _], [_], _, _ => ⟨_, rfl, rfl⟩
  obtain ⟨ds2, rd2, bd2⟩ := FCa.binds1 (ps := ["self", "name", "by"]) 3 1 (List.cons_ne_nil _ _) rfl fun T kV doc pm an cdv ct us its h1 h2 => match us, its, h1, h2 with | [_, _, _], [_], _, _ => ⟨_, rfl, rfl⟩
  refine law_end KX G Gb hbb hlim hg ha hi (Nat.le_trans hl (by decide)) FLw scLw (fun s v => .of_eq rfl) fun base cdv H _ _ hS => ?_
  have cWd : Ct PySem.Challenge.pw_leastpools_k01_sizes_told w K mg base 1 fWd ["thing"] spWord := ⟨_, ok_word FWd tz, kWd, BWd⟩
  have cAm : Ct PySem.Challenge.pw_leastpools_k01_sizes_told w K mg base 2 fAm ["thing"] spAmt := ⟨_, ok_amt FAm tz FII BII, kAm, BAm⟩
  have cIn : Ct PySem.Challenge.pw_leastpools_k01_sizes_told w K mg base 4 fIn ["self", "amounts"] (spInit cS) := ⟨_, ok_init FIn tz FII BII FAm BAm FWd BWd FAr BAr, kIn, BIn⟩
  have cGe : Ct PySem.Challenge.pw_leastpools_k01_sizes_told w K mg base 1 fGe ["self", "at"] (spGet K cS) := ct_get (b := B) FGe BGe T
  have cHa : Ct PySem.Challenge.pw_leastpools_k01_sizes_told w K mg base 3 fHa ["self", "x"] (spHas K cS) := ⟨_, ok_has (b := B) FHa T cGe, kHa, BHa⟩
  have cLe : Ct PySem.Challenge.pw_leastpools_k01_sizes_told w K mg base 1 fLe ["self"] (spLen cS) := ⟨_, ok_len (b := B) FLe T, kLe, BLe⟩
  have cEq : Ct PySem.Challenge.pw_leastpools_k01_sizes_told w K mg base 1 fEq ["self", "other"] (spEqS cS) := ⟨_, ok_eqS (b := B) FEq T, kEq, BEq⟩
  have cSt : Ct PySem.Challenge.pw_leastpools_k01_sizes_told w K mg base 1 fSt ["self"] (spStr cS) := ⟨_, ok_str (b := B) FSt T, kSt, BSt⟩
  have cTt : Ct PySem.Challenge.pw_leastpools_k01_sizes_told w K mg base 1 fTt ["self"] (spTotal cS) := ⟨_, ok_total (b := B) FTt T, kTt, BTt⟩
  have cNa : Ct PySem.Challenge.pw_leastpools_k01_sizes_told w K mg base 1 fNa ["self"] (spNames cS) := ⟨_, ok_names (b := B) FNa T, kNa, BNa⟩
  have cBy : Ct PySem.Challenge.pw_leastpools_k01_sizes_told w K mg base 1 fBy ["self"] (spByName cS) := ⟨_, ok_byName (b := B) FBy T, kBy, BBy⟩
  have cFi : Ct PySem.Challenge.pw_leastpools_k01_sizes_told w K mg base 3 fFi ["self", "other"] (spFits cS) := ⟨_, ok_fits (b := B) FFi T cGe, kFi, BFi⟩
  have cAd : Ct PySem.Challenge.pw_leastpools_k01_sizes_told w K mg base 6 fAd ["self", "other"] (spBin cS (fun i j => i + j)) := ⟨_, ok_add (b := B) FAd T cIn cGe cNa, kAd, BAd⟩
  have cAn : Ct PySem.Challenge.pw_leastpools_k01_sizes_told w K mg base 6 fAn ["self", "other"] (spBin cS (fun i j => if j < i then j else i)) := ⟨_, ok_and (b := B) FAn T cIn cGe, kAn, BAn⟩
  have cOr : Ct PySem.Challenge.pw_leastpools_k01_sizes_told w K mg base 6 fOr ["self", "other"] (spBin cS (fun i j => if j > i then j else i)) := ⟨_, ok_or (b := B) FOr T cIn cGe cNa, kOr, BOr⟩
  have cMu : Ct PySem.Challenge.pw_leastpools_k01_sizes_told w K mg base 6 fMu ["self", "other"] (spMul cS) := ⟨_, ok_mul (b := B) FMu T cIn cGe cAm, kMu, BMu⟩
  have rSu : FnR PySem.Challenge.pw_leastpools_k01_sizes_told w K mg base (L2.CX PySem.Challenge.pw_leastpools_k01_sizes_told w) 6 fSu (spSub cS cN) := ((ok_sub (b := B) FSu T TN FNe BNe cIn cGe cNa).raw BSu .nil).imp fun vs H Q E h => by rw [List.append_nil]; exact h
  have oCa : FnOk PySem.Challenge.pw_leastpools_k01_sizes_told w K mg base CX0 7 fCa _ ["self", "name", "by"] (spCall cS) := ok_call (b := B) FCa T cIn cWd cAm cAd
  have rC1 : FnR PySem.Challenge.pw_leastpools_k01_sizes_told w K mg base CX0 7 fCa (fun vs H Q E => spCall cS (vs ++ [V.int 1]) H Q E) := oCa.raw bd1 rd1
  have rC2 : FnR PySem.Challenge.pw_leastpools_k01_sizes_told w K mg base CX0 7 fCa (spCall cS) := by
    cases rd2
    exact (oCa.raw bd2 .nil).imp fun vs H Q E h => by rw [List.append_nil]; exact h
  have cDs : Ct PySem.Challenge.pw_leastpools_k01_sizes_told w K mg base 1 fDs ["_law_script", "_law_k"] (spDraws K) := ⟨_, ok_draws FDs bi, kDs, BDs⟩
  have cDr : Ct PySem.Challenge.pw_leastpools_k01_sizes_told w K mg base 1 fDr ["_law_draws_here", "_law_upto"] spDraw := ⟨_, ok_draw FDr bi, kDr, BDr⟩
  have cLa : Ct PySem.Challenge.pw_leastpools_k01_sizes_told w K mg base 2 fLa ["_law_draws_here"] spAmounts := ⟨_, ok_amounts FLa TL cDr, kLa, BLa⟩
  have cPl : Ct PySem.Challenge.pw_leastpools_k01_sizes_told w K mg base 1 fPl ["_law_amounts_here"] spPlain := ⟨_, ok_plain FPl TP, kPl, BPl⟩
  have cMi : Ct PySem.Challenge.pw_leastpools_k01_sizes_told w K mg base 7 fMi ["_law_one", "_law_other"] spMinus := ⟨_, ok_minus (b := B) FMi T TN TX cIn rSu cBy, kMi, BMi⟩
  have cDu : Ct PySem.Challenge.pw_leastpools_k01_sizes_told w K mg base 2 fDu ["_law_one", "_law_other"] spDue := ⟨_, ok_due FDu TP (PySem.W.mg_of KX G aPl) cPl, kDu, BDu⟩
  have cTo : Ct PySem.Challenge.pw_leastpools_k01_sizes_told w K mg base 6 fTo ["_law_amounts_here"] spTold := ⟨_, ok_told (b := B) FTo T (PySem.W.mg_of KX G aPl) cPl cIn cGe cHa cLe cSt cNa cBy cTt PT TK, kTo, BTo⟩
  have cTw : Ct PySem.Challenge.pw_leastpools_k01_sizes_told w K mg base 8 fTw ["_law_one", "_law_other"] spTwo := ⟨_, ok_two (b := B) FTw T (PySem.W.mg_none_of KX G zrange) (PySem.W.mg_of KX G aPl) (PySem.W.mg_of KX G aMi) (PySem.W.mg_of KX G aDu) cPl cIn cAd cAn cOr cBy cFi cEq cMi cDu, kTw, BTw⟩
  exact law_body1 (b := B) (a := A) T (PySem.W.mg_none_of KX G zrange) (PySem.W.mg_none_of KX G zrepr) (PySem.W.mg_of KX G aDs) (PySem.W.mg_of KX G aDr) (PySem.W.mg_of KX G aLa) (PySem.W.mg_of KX G aPl) (PySem.W.mg_of KX G aTo) (PySem.W.mg_of KX G aTw) cDs cDr cLa cPl cTo cTw cIn cGe cBy cNa cMu cEq ⟨aCa, iCa, nCa⟩ rC2 rC1 ⟨x1, x2, x3, x4, x5⟩ neIn obIn hS hl
end Lp

open PySem PySem.W PyProof.Rows
set_option Elab.async false
set_option maxRecDepth 100000 in
set_option maxHeartbeats 0 in
theorem PySem.Challenge.cw_leastpools_k01_sizes_told_holds : PySem.Challenge.rw_leastpools_k01_sizes_told.Holds := by
  w_on; o_law; x_head; (case hw => w_witness2)
  k_fill
  refine Att.attach_call (l := PySem.Challenge.rw_leastpools_k01_sizes_told) (n := 63) rfl rfl fun w s₀ s₁ mg mb fa o pm cd doc a vs ns G Y ho hd hcd hmg hobj hints hlen hg => ?_
  have KX := PySem.W.kIn_of Y
  clear ho hd hcd
  refine' Lp.fin KX G.T.g G.T.b G.T.builtins G.T.nolimit hg hmg hobj hints hlen ?aS ?aN ?aL ?aII ?lII ?gII ?kII ?aWd ?lWd ?gWd ?kWd ?aAm ?lAm ?gAm ?kAm ?aAr ?lAr ?gAr ?kAr ?aDs ?lDs ?gDs ?kDs ?aDr ?lDr ?gDr ?kDr ?aLa ?lLa ?gLa ?kLa ?aPl ?lPl ?gPl ?kPl ?aMi ?lMi ?gMi ?kMi ?aDu ?lDu ?gDu ?kDu ?aTo ?lTo ?gTo ?kTo ?aTw ?lTw ?gTw ?kTw ?aLw ?lLw ?gLw ?kLw ?aIn ?iIn ?lIn ?gIn ?kIn ?aGe ?iGe ?lGe ?gGe ?kGe ?aHa ?iHa ?lHa ?gHa ?kHa ?aLe ?iLe ?lLe ?gLe ?kLe ?aEq ?iEq ?lEq ?gEq ?kEq ?aSt ?iSt ?lSt ?gSt ?kSt ?aPt ?rPt ?sPt ?tPt ?lTt ?gTt ?kTt ?aNa ?iNa ?lNa ?gNa ?kNa ?aBy ?iBy ?lBy ?gBy ?kBy ?aFi ?iFi ?lFi ?gFi ?kFi ?aAd ?iAd ?lAd ?gAd ?kAd ?aSu ?iSu ?lSu ?gSu ?kSu ?aAn ?iAn ?lAn ?gAn ?kAn ?aOr ?iOr ?lOr ?gOr ?kOr ?aMu ?iMu ?lMu ?gMu ?kMu ?aCa ?iCa ?lCa ?gCa ?kCa ?lT ?nGe ?nCa ?zlen ?zint ?zisinstance ?zbool ?zstr ?zdict ?zall ?zsorted ?zmax ?zmin ?zsum ?zlist ?zrange ?zrepr ?zArithmeticError ?cls ?nN ?nA ?jII ?jIB ?jSS ?jDD ?jNS ?jIS ?jLS ?mk ?kS ?insK ?first ?x1 ?x2 ?x3 ?x4 ?x5 ?neIn ?obIn ?oxN ?nfN ?iCN ?tIN ?vVN ?lNe ?gNe ?kNe ?xfN ?teN
  (case aS => k_is)
  (case aN => k_is)
  (case aL => k_is)
  (case aII => k_is)
  (case lII => k_is)
  (case gII => k_is)
  (case kII => k_is)
  (case aWd => k_is)
  (case lWd => k_is)
  (case gWd => k_is)
  (case kWd => k_is)
  (case aAm => k_is)
  (case lAm => k_is)
  (case gAm => k_is)
  (case kAm => k_is)
  (case aAr => k_is)
  (case lAr => k_is)
  (case gAr => k_is)
  (case kAr => k_is)
  (case aDs => k_is)
  (case lDs => k_is)
  (case gDs => k_is)
  (case kDs => k_is)
  (case aDr => k_is)
  (case lDr => k_is)
  (case gDr => k_is)
  (case kDr => k_is)
  (case aLa => k_is)
  (case lLa => k_is)
  (case gLa => k_is)
  (case kLa => k_is)
  (case aPl => k_is)
  (case lPl => k_is)
  (case gPl => k_is)
  (case kPl => k_is)
  (case aMi => k_is)
  (case lMi => k_is)
  (case gMi => k_is)
  (case kMi => k_is)
  (case aDu => k_is)
  (case lDu => k_is)
  (case gDu => k_is)
  (case kDu => k_is)
  (case aTo => k_is)
  (case lTo => k_is)
  (case gTo => k_is)
  (case kTo => k_is)
  (case aTw => k_is)
  (case lTw => k_is)
  (case gTw => k_is)
  (case kTw => k_is)
  (case aLw => k_is)
  (case lLw => k_is)
  (case gLw => k_is)
  (case kLw => k_is)
  (case aIn => k_is)
  (case iIn => k_is)
  (case lIn => k_is)
  (case gIn => k_is)
  (case kIn => k_is)
  (case aGe => k_is)
  (case iGe => k_is)
  (case lGe => k_is)
  (case gGe => k_is)
  (case kGe => k_is)
  (case aHa => k_is)
  (case iHa => k_is)
  (case lHa => k_is)
  (case gHa => k_is)
  (case kHa => k_is)
  (case aLe => k_is)
  (case iLe => k_is)
  (case lLe => k_is)
  (case gLe => k_is)
  (case kLe => k_is)
  (case aEq => k_is)
  (case iEq => k_is)
  (case lEq => k_is)
  (case gEq => k_is)
  (case kEq => k_is)
  (case aSt => k_is)
  (case iSt => k_is)
  (case lSt => k_is)
  (case gSt => k_is)
  (case kSt => k_is)
  (case aPt => k_is)
  (case rPt => k_is)
  (case sPt => k_is)
  (case tPt => k_is)
  (case lTt => k_is)
  (case gTt => k_is)
  (case kTt => k_is)
  (case aNa => k_is)
  (case iNa => k_is)
  (case lNa => k_is)
  (case gNa => k_is)
  (case kNa => k_is)
  (case aBy => k_is)
  (case iBy => k_is)
  (case lBy => k_is)
  (case gBy => k_is)
  (case kBy => k_is)
  (case aFi => k_is)
  (case iFi => k_is)
  (case lFi => k_is)
  (case gFi => k_is)
  (case kFi => k_is)
  (case aAd => k_is)
  (case iAd => k_is)
  (case lAd => k_is)
  (case gAd => k_is)
  (case kAd => k_is)
  (case aSu => k_is)
  (case iSu => k_is)
  (case lSu => k_is)
  (case gSu => k_is)
  (case kSu => k_is)
  (case aAn => k_is)
  (case iAn => k_is)
  (case lAn => k_is)
  (case gAn => k_is)
  (case kAn => k_is)
  (case aOr => k_is)
  (case iOr => k_is)
  (case lOr => k_is)
  (case gOr => k_is)
  (case kOr => k_is)
  (case aMu => k_is)
  (case iMu => k_is)
  (case lMu => k_is)
  (case gMu => k_is)
  (case kMu => k_is)
  (case aCa => k_is)
  (case iCa => k_is)
  (case lCa => k_is)
  (case gCa => k_is)
  (case kCa => k_is)
  (case lT => k_is)
  (case nGe => k_is)
  (case nCa => k_is)
  (case zlen => k_is)
  (case zint => k_is)
  (case zisinstance => k_is)
  (case zbool => k_is)
  (case zstr => k_is)
  (case zdict => k_is)
  (case zall => k_is)
  (case zsorted => k_is)
  (case zmax => k_is)
  (case zmin => k_is)
  (case zsum => k_is)
  (case zlist => k_is)
  (case zrange => k_is)
  (case zrepr => k_is)
  (case zArithmeticError => k_is)
  (case cls => exact ⟨by k_is, by k_is, by k_is, by k_is⟩)
  (case nN => k_is)
  (case nA => k_is)
  (case jII => kernel_rfl)
  (case jIB => kernel_rfl)
  (case jSS => kernel_rfl)
  (case jDD => kernel_rfl)
  (case jNS => kernel_rfl)
  (case jIS => kernel_rfl)
  (case jLS => kernel_rfl)
  (case mk => k_is)
  (case kS => k_is)
  (case insK => exact ⟨by k_is, by k_is, by k_is, by k_is, by kernel_rfl⟩)
  (case first => k_is)
  (case x1 => k_is)
  (case x2 => exact .inl rfl)
  (case x3 => k_is)
  (case x4 => k_is)
  (case x5 => k_is)
  (case neIn => k_is)
  (case obIn => k_is)
  (case oxN => exact ⟨by (show PySem.W.excInitIn _ _ [.type "ArithmeticError", .type "Exception", .type "BaseException", .type "object"] _ = true; kx_is), by k_is, by k_is, by k_is, by k_is, by k_is⟩)
  (case nfN => k_is)
  (case iCN => k_is)
  (case tIN => k_is)
  (case vVN => k_is)
  (case lNe => k_is)
  (case gNe => k_is)
  (case kNe => k_is)
  (case xfN => exact ⟨by k_is, by k_is, by k_is, by k_is⟩)
  (case teN => first | k_is | kernel_rfl)

