import PyProof.Rows.All
import Wide.All
import OpenK.AllK
import Wide.FinOn
import HandS.ForMost
import HandS.ExcOwn
import HandS.ExcValue
import KE.KExcIs
import KE.KExcPX
import PyProof.ReprRoads
import HandS.Walk
import PySem.Challenge.RW_leastpools_k03_errors_and_fields
set_option Elab.async false
set_option linter.all false
set_option maxRecDepth 100000
set_option maxHeartbeats 4000000
/-! Objects that a run of the machine has made, brought under the abstract heap. -/
namespace Lp
open PySem PySem.Spec PyProof.Rows L2
/-- a heap with more rows -/
def add : List (Addr × HO) → Hp → Hp
  | [], H => H
  | (a, o) :: r, H => upd (add r H) a o
theorem add_out : ∀ {rows : List (Addr × HO)} {H : Hp} {b : Addr}, (∀ p ∈ rows, p.1 ≠ b) → add rows H b = H b
  | [], _, _, _ => rfl
  | (a, o) :: r, H, b, h => by
    show upd (add r H) a o b = H b
    rw [upd_ne (fun z => h (a, o) List.mem_cons_self z.symm)]
    exact add_out fun p hp => h p (List.mem_cons_of_mem _ hp)
theorem add_cases : ∀ {rows : List (Addr × HO)} {H : Hp} {b : Addr} {o : HO}, add rows H b = some o → (b, o) ∈ rows ∨ H b = some o
  | [], _, _, _, h => .inr h
  | (a, u) :: r, H, b, o, h => by
    by_cases e : b = a
    · subst e
      have h' : upd (add r H) b u b = some o := h
      rw [upd_same] at h'
      cases h'
      exact .inl List.mem_cons_self
    · have h' : upd (add r H) a u b = some o := h
      rw [upd_ne e] at h'
      rcases add_cases h' with q | q
      · exact .inl (List.mem_cons_of_mem _ q)
      · exact .inr q
section
variable {X : Cx} {pins : List (Addr × Obj)} {σ : L2.St} {H : Hp} {s : Shared} {h' : Heap}
theorem inv_add {rows : List (Addr × HO)} {t' : Nat} (I : Inv X pins σ H s) (k : ∀ b u, s.heap.get? b = some u → h'.get? b = some u) (hf : ∀ p ∈ rows, s.heap.get? p.1 = none)
    (new : ∀ p ∈ rows, ObjOk X.prog X.w (add rows H) h' p.1 p.2) : Inv X pins σ (add rows H) { s with heap := h', toks := t' } := by
  have out : ∀ {b : Addr} {u : Obj}, s.heap.get? b = some u → add rows H b = H b := fun {b u} q => add_out fun p hp z => by
    have := hf p hp
    rw [z, q] at this
    cases this
  have sub : ∀ {b : Addr} {o : HO}, H b = some o → add rows H b = some o := fun {b o} q => by
    rw [add_out, q]
    intro p hp z
    have n := I.hok.gone (hf p hp)
    rw [z, q] at n
    cases n
  refine I.un ⟨fun b u q _ _ _ => k b u q, fun b u q _ _ _ => ⟨u.slots, k b u q⟩, fun b u q n _ => by rw [out q]; exact n, fun b u q _ => ⟨u, k b u q⟩, fun b xs q => sub q, fun b u v q => sub q, fun b ps q => ⟨#[], by rw [sub q]; simp⟩⟩ fun b o q => ?_
  rcases add_cases q with m | m
  · exact new _ m
  · exact (I.hok b o m).stay (fun c v _ z => k c v z) (fun c z => sub z) fun c xs z => sub z
end
/-- what a run left: all old things, the new ones by name -/
structure Left (s : Shared) (h : Heap) (news : List (Addr × Obj)) : Prop where
  keep : ∀ b u, s.heap.get? b = some u → h.get? b = some u
  new : ∀ p ∈ news, h.get? p.1 = some p.2 ∧ s.heap.get? p.1 = none
  ord : (news.map (·.1)).Pairwise (· > ·)
theorem Left.of {s : Shared} {h : Heap} {news : List (Addr × Obj)} (D : PySem.W.X.Mem s.heap h [] news) : Left s h news where
  keep := fun b u q => D.keep b u q (by
    have e : PySem.W.X.away ([] : List (Addr × Obj)) b = true := rfl
    rw [e, Bool.or_true])
  new := D.nw
  ord := D.ord
/-- a call of a def of the text, by what is told of it -/
theorem pe_callF {X : Cx} {x : Str} {p pos : Pos} {f : Addr} {e : Expr} {es : List Expr} {t : TA} {r : List V → Hp → VK → Prop} (hc : CallR X (.ref f) r) (hg : Gl X x) (hm : X.mg x = some (.ref f)) (hk : PySem.W.keepIn X.K (.ref f) = true)
    (ha : PA X (e :: es) t) (hdb : (x == ("__debug__" : Str)) = false := by decide)
    (he : starEach (e :: es) X.env = (false, eval e X.env) :: starEach es X.env := by rfl) (hpl : (backTo pos (starEach es X.env)).any (·.1) = false := by rfl) :
    PE X (.Call (.Name x p) (e :: es) [] pos) (tCB r t) := by
  refine ⟨fun pins s σ H Q I h => wpAny_Call_Name_kw (ld_glob I hg hm ?_ hdb)⟩
  refine PySem.W.callWith_K (h₀ := X.base) I.ok.mod.kin hk (thn (ha.run pos pins s σ H _ I h) fun us s1 z => ?_) he hpl
  obtain ⟨vs, H1, I1, rv, q⟩ := z
  exact ⟨I1.kIn, hc pins s1 σ H1 vs us Q I1 rv q⟩
/-- exact objects -/
def exact (o : Obj) : HO := .frz o (.own 0)
theorem exact_ok {P : Program} {w : World} {H : Hp} {h : Heap} {a : Addr} {o : Obj} (e : h.get? a = some o) : ObjOk P w H h a (exact o) := ⟨e, o, e⟩
theorem exact_at {P : Program} {w : World} {H : Hp} {h : Heap} {a : Addr} {o : Obj} {u : HO} (ok : HOk P w H h) (e : H a = some (.frz o u)) : h.get? a = some o := by
  have z : ObjOk P w H h a (.frz o u) := ok a _ e
  exact z.1
/-! ### a def at one place -/
theorem fn_at {P : Program} {w : World} {K : PySem.W.Frag} {mg : Str → Option Value} {base : Heap} {f : Addr} {fd : FuncData} {x qual : Str} {st : Stmt} {N ps : List Str} {k : Nat} {A : Around} {outer : List Env} {s : Shared} {H : Hp} {vs : List V} {us : List Value} {Q : VK} {E : XK} {args : Args}
    (F : Fun K x qual st f fd) (S : FnScope N ps (defScope st)) (hr : Room k A) (hl : vs.length = ps.length) (e0 : Env0 P w K mg base A outer s H) (hb : BindsTo s fd args (ps.zip us)) (rv : Vals vs us)
    (hbody : ∀ cdv : Value, ∃ t, PSs (cxOf CX0 P w K mg base N qual (defScope st) f cdv A outer s H E).nox (defBody st) t ∧ t { nx := fun _ H' => Q .non H', rt := Q } (start N vs) H) :
    codeAny (model P w) A (.call (.ref f) args) (CR CX0 outer P w H s Q E) s := by
  obtain ⟨oc, od, kV, doc, pm, an, cdv, ct, osl, rfl, lk, hcd⟩ := F.ex
  have KX : K.In s.heap := e0.mod.kin.keeps fun b o e => (e0.bs b o e).1
  have kinds : ∀ y ∈ ps.zip us, (defScope st).names.lookup y.1 = some .local ∨ ((defScope st).names.lookup y.1 = some .cell ∧ ((cellsFrom (s.heap.objs.size + 1) (defScope st).names []).lookup y.1).isSome = true) := by
    rintro ⟨n, v⟩ hy
    refine (S.par n (List.of_mem_zip hy).1).imp id fun q => ⟨q, PySem.W.cellsFrom_some _ _ _ (.inl q)⟩
  refine codeAny_call_function hr.depth (KX _ _ lk) rfl S.co S.gen rfl (PySem.W.codeRec_of KX hcd) (hb _ _ _ _ (wpAny_newFunctionEnv_cells S.kind kinds fun env he s1 x => ?_))
  subst he
  refine ⟨(e0.mod.nolimit.keeps fun b o e => (e0.bs b o e).1).keeps x.toInCall.keep, codeAny_func ?_⟩
  obtain ⟨t, ht, hq⟩ := hbody cdv
  have I : Inv (cxOf CX0 P w K mg base N qual (defScope st) f cdv A outer s H E) [] (start N vs) H s1 := inv_start S hr.hd e0 hl rv x
  refine wpAny_mono (ht.nox.run [] s1 (start N vs) H _ I hq) (fun fl s' hs => ?_) fun e s' z => z
  match fl, hs with
  | .ret u, ⟨v, σ', H', J, r, q⟩ => exact ⟨v, H', J.os, J.bare, J.base, J.hok, r, q⟩
  | .next, ⟨σ', H', J, q⟩ => exact ⟨V.non, H', J.os, J.bare, J.base, J.hok, rfl, q⟩
  | .brk, ⟨_, _, _, q⟩ => exact q.elim
  | .cont, ⟨_, _, _, q⟩ => exact q.elim
/-- the same from a body in which it is called -/
theorem callr_at {X : Cx} {f : Addr} {fd : FuncData} {x qual : Str} {st : Stmt} {N ps : List Str} {k : Nat} {sp : Sp} {dvs : List V} {ds : List Value} (F : Fun X.K x qual st f fd) (S : FnScope N ps (defScope st)) (hr : Room k X.A) (hb : Binds X.K fd ps ds) (hd : Vals dvs ds)
    (len : ∀ vs H Q E, sp vs H Q E → vs.length = ps.length)
    (hbody : ∀ (cdv : Value) (s : Shared) (H : Hp) (vs : List V) (Q : VK), sp vs H Q E0 → ∃ t, PSs (cxOf CX0 X.prog X.w X.K X.mg X.base N qual (defScope st) f cdv X.A X.stack s H E0).nox (defBody st) t ∧ t { nx := fun _ H' => Q .non H', rt := Q } (start N vs) H) :
    CallR X (.ref f) fun vs H Q => sp (vs ++ dvs) H Q E0 := by
  intro pins s σ H vs us Q I r h
  have r2 : Vals (vs ++ dvs) (us ++ ds) := r.append hd
  have hl : (us ++ ds).length = ps.length := by rw [← r2.length]; exact len _ _ _ _ h
  refine wpAny_call (codeAny_mono (fn_at F S hr (len _ _ _ _ h) I.env0 (hb s us I.kIn hl) r2 fun cdv => hbody cdv s H _ Q h) fun r s' hq => ?_)
  match r, hq with
  | .ok (.ret u), hq => exact I.after hq
/-! ### the law's own call -/
section
variable {P : Program} {w : World} {K : PySem.W.Frag} {mg mb : Str → Option Value} {fa a : Addr} {fd : FuncData} {st : Stmt} {qual : Str} {N : List Str} {x : Str} {s₁ : Shared} {vs : List Value} {ns : List Int} {H : Hp}
/-- what the law is asked to do, once the script is tracked -/
theorem law_core (KX : K.In s₁.heap) (hns : s₁.heap.Ns mainGlobals mg) (hb : s₁.heap.Ns builtinsNs mb) (hbb : ∀ x : Str, x ≠ "__name__" → mb x = bootBuiltins x) (hlim : s₁.heap.NoLimit) (hg : s₁.gens = #[])
    (ha : s₁.heap.get? a = some { cls := .type "list", data := .seq vs.toArray }) (only : ∀ b u, H b = some u → b = a ∧ K.lookup a = none ∧ ∃ o xs, u = .frz o (.lst xs)) (hok : HOk P w H s₁.heap)
    (F : Fun K "law" qual st fa fd) (S : FnScope N [x] (defScope st)) (hbind : ∀ (s : Shared) (u : Value), BindsTo s fd ⟨[u], []⟩ [(x, u)])
    (body : ∀ (base : Heap) (cdv : Value), K.In base → base.Ns mainGlobals mg → ∃ t, PSs (cxOf CX0 P w K mg base N qual (defScope st) fa cdv callerA [] s₁ H E0).nox (defBody st) t ∧ t { nx := fun _ _ => V.non = V.bl true, rt := fun v _ => v = .bl true } (start N [.ref a]) H) :
    codeAny (model P w) callerA (.call (.ref fa) ⟨[.ref a], []⟩) (fun r s' => r = .ok (.ret (.bool true)) ∧ OldK s₁.heap s'.heap ∧ s'.os = s₁.os ∧ AllBare s'.gens) s₁ := by
  have hid : ∀ {b : Addr} {o : Obj}, s₁.heap.get? b = some o → b ≠ a → (hidT s₁.heap H).get? b = some o := by
    intro b o e n
    refine hidT_get e ?_
    cases q : H b with
    | none => rfl
    | some u => exact absurd (only b u q).1 n
  have apart : ∀ {b : Addr} {m : Str → Option Value}, s₁.heap.Ns b m → b ≠ a := by
    rintro b m ⟨o, es, ep, e, d, _⟩ rfl
    rw [ha] at e
    cases e
    cases d
  have low : ∀ {b : Addr} {m : Str → Option Value}, s₁.heap.Ns b m → (hidT s₁.heap H).Ns b m := by
    intro b m n
    have nb := apart n
    obtain ⟨o, es, ep, e, r⟩ := n
    exact ⟨o, es, ep, hid e nb, r⟩
  have Kb : K.In (hidT s₁.heap H) := by
    intro b o e
    refine hidT_get (KX b o e) ?_
    cases q : H b with
    | none => rfl
    | some u =>
      obtain ⟨rfl, n, _⟩ := only b u q
      rw [n] at e
      cases e
  obtain ⟨mc, c1, c2⟩ := hlim
  have e0 : Env0 P w K mg (hidT s₁.heap H) callerA [] s₁ H := {
    frames := rfl
    mod := ⟨Kb, low hns, ⟨mb, low hb, hbb⟩, mc, low c1, c2⟩
    bs := fun b o e => of_hidT e
    bsz := Nat.le_of_eq (hidT_size _ _)
    funs := trivial
    frf := fun b z => nomatch z
    hok := hok
    bare := .of_eq hg }
  have room : Room 50 callerA := ⟨rfl, by decide, by decide⟩
  refine codeAny_mono (fn_at (E := E0) (Q := fun v _ => v = .bl true) (us := [.ref a]) (vs := [.ref a]) (ps := [x]) F S room rfl e0 (hbind s₁ (.ref a)) (.cons rfl .nil) fun cdv => ?_) fun r s' h => ?_
  · obtain ⟨t, h1, h2⟩ := body _ cdv Kb (low hns)
    exact ⟨t, h1, h2⟩
  · match r, h with
    | .ok (.ret u), ⟨v, H', os, bare, un, hok', r', q⟩ =>
      subst q
      obtain rfl : u = Value.bool true := r'
      refine ⟨rfl, .of_keep ?_, os, bare⟩
      intro b o e
      cases q : H b with
      | none => exact un.keep b o e q (fun z => nomatch z) (fun z => nomatch z)
      | some u =>
        obtain ⟨_, _, ob, xs, rfl⟩ := only b u q
        have z1 : s₁.heap.get? b = some ob := exact_at hok q
        have z2 : s'.heap.get? b = some ob := exact_at hok' (un.frzs b ob _ q)
        rw [z1] at e
        rw [z2, e]
theorem law_end (KX : K.In s₁.heap) (hns : s₁.heap.Ns mainGlobals mg) (hb : s₁.heap.Ns builtinsNs mb) (hbb : ∀ x : Str, x ≠ "__name__" → mb x = bootBuiltins x) (hlim : s₁.heap.NoLimit) (hg : s₁.gens = #[])
    (ha : s₁.heap.get? a = some { cls := .type "list", data := .seq vs.toArray }) (hi : IntsAre vs ns) (hl : ns.length ≤ sizeLine)
    (F : Fun K "law" qual st fa fd) (S : FnScope N [x] (defScope st)) (hbind : ∀ (s : Shared) (u : Value), BindsTo s fd ⟨[u], []⟩ [(x, u)])
    (body : ∀ (base : Heap) (cdv : Value) (H : Hp), K.In base → base.Ns mainGlobals mg → SqL K H a (ns.map V.int) →
      ∃ t, PSs (cxOf CX0 P w K mg base N qual (defScope st) fa cdv callerA [] s₁ H E0).nox (defBody st) t ∧ t { nx := fun _ _ => V.non = V.bl true, rt := fun v _ => v = .bl true } (start N [.ref a]) H) :
    codeAny (model P w) callerA (.call (.ref fa) ⟨[.ref a], []⟩) (fun r s' => r = .ok (.ret (.bool true)) ∧ OldK s₁.heap s'.heap ∧ s'.os = s₁.os ∧ AllBare s'.gens) s₁ := by
  have rv := vals_ints hi
  cases hk : K.lookup a with
  | some o =>
    have e := KX a o hk
    rw [ha] at e
    cases e
    exact law_core (H := fun _ => none) KX hns hb hbb hlim hg ha (fun b u z => nomatch z) (fun b u z => nomatch z) F S hbind fun base cdv h1 h2 =>
      body base cdv _ h1 h2 (.inr ⟨_, vs.toArray, _, hk, rfl, rfl, rfl, by rw [List.size_toArray, hi.length]; exact hl, by simpa using rv⟩)
  | none =>
    let o : Obj := { cls := .type "list", data := .seq vs.toArray }
    let H : Hp := fun b => if b = a then some (.frz o (.lst (ns.map V.int))) else none
    have hH : H a = some (.frz o (.lst (ns.map V.int))) := if_pos rfl
    have at_a : ∀ {b : Addr} {u : HO}, H b = some u → b = a ∧ u = .frz o (.lst (ns.map V.int)) := by
      intro b u z
      by_cases e : b = a
      · subst e
        rw [hH] at z
        exact ⟨rfl, (Option.some.inj z).symm⟩
      · have : H b = none := if_neg e
        rw [this] at z
        cases z
    refine law_core (H := H) KX hns hb hbb hlim hg ha (fun b u z => ?_) (fun b u z => ?_) F S hbind fun base cdv h1 h2 => body base cdv _ h1 h2 (.inl (.inr ⟨o, hH⟩))
    · obtain ⟨e, rfl⟩ := at_a z
      exact ⟨e, hk, o, _, rfl⟩
    · obtain ⟨rfl, rfl⟩ := at_a z
      exact ⟨ha, by rw [List.length_map]; exact hl, vs, _, rv, ha⟩
end
end Lp

set_option Elab.async false
set_option linter.all false
set_option maxRecDepth 100000
set_option maxHeartbeats 4000000
/-! Exceptions of the text's own classes, held as values. -/
namespace Lp
open PySem PySem.Spec PyProof.Rows L2
/-- what is known of an exception class -/
structure ExK (K : PySem.W.Frag) (C : Addr) : Prop where
  ga : PySem.W.findIn K (.ref C) "__getattribute__" = some (some (.builtin "BaseException.__getattribute__"))
  gt : PySem.W.findIn K (.ref C) "__getattr__" = some none
  bx : PySem.W.subIn K (.ref C) (.type "BaseException") = some true
  dc : PySem.W.hasDictIn K C = true
  ca : PySem.W.findIn K (.ref C) "__class__" = some (some (.builtin "object.__class__"))
  cg : PySem.W.specialIn K (.builtin "object.__class__") "__get__" = some (some (.builtin "getset_descriptor.__get__"))
  ct : PySem.W.takesIn K (.builtin "object.__class__") = some true
  ob : PySem.W.mroIn K C (.type "object") = some true
/-- its object -/
def eobj (C d t : Addr) : Obj := { cls := .ref C, dict := some d, data := .fields #[.ref t, .none, .none, .none, .bool false, .none] }
/-- at e an exception of the class at C, whose field f is x -/
def ExAt (H : Hp) (e C : Addr) (f : Str) (x : V) : Prop := ∃ (t d : Addr) (od : Obj) (u : Value), H e = some (exact (eobj C d t)) ∧ H d = some (exact od) ∧ PySem.W.lookIn f od = some (some u) ∧ RelV x u
theorem ExAt.same {H H' : Hp} {e C : Addr} {f : Str} {x : V} (h : ExAt H e C f x) (s : Same H H') : ExAt H' e C f x := by
  obtain ⟨t, d, od, u, h1, h2, h3⟩ := h
  exact ⟨t, d, od, u, s _ _ h1, s _ _ h2, h3⟩
section
variable {X : Cx} {pins : List (Addr × Obj)} {σ : L2.St} {H : Hp} {s : Shared}
theorem ExAt.inst {e C : Addr} {f : Str} {x : V} (h : ExAt H e C f x) (I : Inv X pins σ H s) : ∃ (ox od : Obj) (u : Value), PySem.W.InstAt s.heap e ox C (some od) ∧ PySem.W.lookIn f od = some (some u) ∧ RelV x u := by
  obtain ⟨t, d, od, u, h1, h2, h3, h4⟩ := h
  exact ⟨eobj C d t, od, u, ⟨exact_at I.hok h1, rfl, rfl, exact_at I.hok h2⟩, h3, h4⟩
/-- e.f -/
def tEf (K : PySem.W.Frag) (te : TE) (f : Str) : TE := fun σ H Q => te σ H fun y H1 => ∃ (e C : Addr) (x : V), y = .ref e ∧ ExAt H1 e C f x ∧ ExK K C ∧ PySem.W.findIn K (.ref C) f = some none ∧ Q x H1
theorem pe_ef {o : Expr} {f : Str} {pos : Pos} {te : TE} (he : PE X o te) (hb : attributeBase o f X.env (eval o X.env) = eval o X.env) : PE X (.Attribute o f pos) (tEf X.K te f) := by
  refine ⟨fun pins s σ H Q I h => attr_of hb (thn (he.run pins s σ H _ I h) ?_)⟩
  rintro u s1 ⟨y, H1, I1, ry, e, C, x, rfl, hE, k, hf, q⟩
  obtain rfl : u = Value.ref e := ry
  obtain ⟨ox, od, z, hi, hl, rx⟩ := hE.inst I1
  exact PySem.PX.exc_get I1.kIn hi k.ga k.gt k.bx (PySem.W.findObj_own k.dc hf rfl hl) (handed_of rx) ⟨x, H1, I1.tok _, rx, q⟩
/-- isinstance(e, c), e such an exception -/
def rIsX (K : PySem.W.Frag) : List V → Hp → VK → Prop := fun xs H Q => ∃ (e C : Addr) (f : Str) (x c : V) (u : Value) (b : Bool), xs = [.ref e, c] ∧ ExAt H e C f x ∧ ExK K C ∧ (∀ z, RelV c z → z = u) ∧ PySem.W.kitOne K (.ref C) u = some b ∧ Q (.bl b) H
theorem call_isx : CallR X (.builtin "isinstance") (rIsX X.K) := by
  rintro pins s σ H xs us Q I r ⟨e, C, f, x, c, u, b, rfl, hE, k, hc, hk, q⟩
  obtain ⟨u1, u2, rfl, r1, r2⟩ := vals2 r
  obtain rfl := hc _ r2
  obtain rfl : u1 = Value.ref e := r1
  obtain ⟨ox, od, z, hi, _, _⟩ := hE.inst I
  exact PySem.W.kia_one (PySem.W.kitx_exc (by obtain ⟨cd, hc, _⟩ := PySem.W.any_some k.dc; rw [hc]; rfl) k.ga k.gt k.bx k.ca k.cg k.ct k.ob) I.kIn hi hk (fun z => nomatch z) fun tk => ⟨.bl b, H, I.tok tk, rfl, q⟩
end
/-- what making an exception leaves -/
abbrev Made (C : Addr) (f : Str) (v : Value) (s : Shared) (u : Value) (s' : Shared) : Prop := ∃ (h : Heap) (tk : Nat) (e d t : Addr) (od : Obj) (news : List (Addr × Obj)), u = .ref e ∧ s' = ⟨h, s.gens, s.drawn, tk, s.os⟩ ∧ PySem.W.X.Mem s.heap h [] news ∧
  (e, eobj C d t) ∈ news ∧ (d, od) ∈ news ∧ PySem.W.lookIn f od = some (some v)
/-- C(x) -/
def rMk (C : Addr) (f : Str) : List V → Hp → VK → Prop := fun xs H Q => ∃ x, xs = [x] ∧ ∀ (e : Addr) (H' : Hp), H e = none → Same H H' → ExAt H' e C f x → Q (.ref e) H'
def Makes (P : Program) (w : World) (K : PySem.W.Frag) (A : Around) (C : Addr) (f : Str) : Prop := ∀ (s : Shared) (v : Value), K.In s.heap → wpAny (model P w) A (PySem.call (.ref C) [v]) (Made C f v s) (fun _ _ => False) s
theorem call_mk {X : Cx} {C : Addr} {f : Str} (h : Makes X.prog X.w X.K X.A C f) : CallR X (.ref C) (rMk C f) := by
  rintro pins s σ H xs us Q I r ⟨x, rfl, q⟩
  cases r with
  | cons rx rr =>
    cases rr
    rename_i v
    refine wpAny_mono (h s v I.kIn) (fun u s' z => ?_) fun _ _ z => z.elim
    obtain ⟨h', tk, e, d, t, od, news, rfl, rfl, D, m1, m2, hl⟩ := z
    have L := Left.of D
    obtain ⟨he, ne0⟩ := L.new _ m1
    obtain ⟨hd, nd0⟩ := L.new _ m2
    have ne : e ≠ d := fun z => by
      dsimp only at he hd
      rw [z, hd] at he
      cases he
      cases hl
    have J : Inv X pins σ (add [(e, exact (eobj C d t)), (d, exact od)] H) { s with heap := h', toks := tk } := inv_add I L.keep (fun p hp => by
      simp only [List.mem_cons, List.not_mem_nil, or_false] at hp
      rcases hp with rfl | rfl
      · exact ne0
      · exact nd0) fun p hp => by
      simp only [List.mem_cons, List.not_mem_nil, or_false] at hp
      rcases hp with rfl | rfl
      · exact exact_ok he
      · exact exact_ok hd
    have z1 : H e = none := I.hok.gone ne0
    have z2 : H d = none := I.hok.gone nd0
    refine ⟨.ref e, _, J, rfl, q e _ z1 (fun b o z => ?_) ⟨t, d, od, v, upd_same, ?_, hl, rx⟩⟩
    · show upd (upd H d _) e _ b = some o
      rw [upd_ne (ne_of_none z z1), upd_ne (ne_of_none z z2)]
      exact z
    · show upd (upd H d _) e _ d = _
      rw [upd_ne ne.symm, upd_same]
end Lp

set_option Elab.async false
set_option linter.all false
set_option maxRecDepth 100000
set_option maxHeartbeats 4000000
/-! repr of plain things -/
namespace Lp
open PySem PySem.Spec PyProof.Rows L2
theorem sqT_same {K : PySem.W.Frag} {H H' : Hp} {a : Addr} {xs : List V} (s : Same H H') (h : SqT K H a xs) : SqT K H' a xs := by
  rcases h with (h | ⟨o, h⟩) | h
  · exact .inl (.inl (s _ _ h))
  · exact .inl (.inr ⟨o, s _ _ h⟩)
  · exact .inr h
mutual
theorem dp_same {K : PySem.W.Frag} {H H' : Hp} (s : Same H H') : ∀ {x : V} {d : PyData}, Dp K H x d → Dp K H' x d
  | _, _, .non => .non
  | _, _, .bl b => .bl b
  | _, _, .int i => .int i
  | _, _, .str z => .str z
  | _, _, .lst h q => .lst (s.seq h) (dpAll_same s q)
  | _, _, .tup h q => .tup (sqT_same s h) (dpAll_same s q)
theorem dpAll_same {K : PySem.W.Frag} {H H' : Hp} (s : Same H H') : ∀ {xs : List V} {ds : List PyData}, DpAll K H xs ds → DpAll K H' xs ds
  | _, _, .nil => .nil
  | _, _, .cons h q => .cons (dp_same s h) (dpAll_same s q)
end
/-- a dict of numbers by texts -/
def dsi (kvs : List (Str × Int)) : List (Key × V) := kvs.map fun p => (Sum.inr p.1, V.int p.2)
def dsiD (kvs : List (Str × Int)) : PyData := .dict (kvs.map fun p => (PyData.str p.1, PyData.int p.2))
/-- x is shown as z -/
inductive Shows (K : PySem.W.Frag) (H : Hp) : V → Str → Prop where
  | non : Shows K H .non "None"
  | bl (b : Bool) : Shows K H (.bl b) (if b then "True" else "False")
  | int (i : Int) (h : i.natAbs.log2 < 1920) : Shows K H (.int i) (toString i)
  | str (y : Str) (h : (reprText y).length ≤ sizeLine) : Shows K H (.str y) (reprText y)
  | dat (a : Addr) (d : PyData) (h : Dp K H (.ref a) d) (hs : d.showable = true) (hd : d.hasDict = false) (hz : d.shown.length ≤ sizeLine) (hp : d.depth ≤ 64) : Shows K H (.ref a) d.shown
  | dic (a : Addr) (kvs : List (Str × Int)) (h : H a = some (.dK (dsi kvs))) (hs : (dsiD kvs).showable = true) (hz : (dsiD kvs).shown.length ≤ sizeLine) : Shows K H (.ref a) (dsiD kvs).shown
theorem Shows.same {K : PySem.W.Frag} {H H' : Hp} {x : V} {z : Str} (h : Shows K H x z) (s : Same H H') : Shows K H' x z := by
  cases h with
  | non => exact .non
  | bl b => exact .bl b
  | int i h => exact .int i h
  | str y h => exact .str y h
  | dat a d h hs hd hz hp => exact .dat a d (dp_same s h) hs hd hz hp
  | dic a kvs h hs hz => exact .dic a kvs (s _ _ h) hs hz
theorem reads_rows {P : Program} {w : World} {h : Heap} : ∀ (kvs : List (Str × Int)) (vs : List (Key × Value)) (es : List DictEntry), KV (dsi kvs) vs → Pairs (mixKind P w) es vs →
    ReadsAll h (es.map (·.key)) (kvs.map fun p => PyData.str p.1) [] ∧ ReadsAll h (es.map (·.val)) (kvs.map fun p => PyData.int p.2) []
  | [], _, _, .nil, .nil => ⟨.nil, .nil⟩
  | (z, n) :: r, (k, v) :: vs, e :: es, .cons ⟨h1, h2⟩ hr, .cons p1 p2 pr => by
    obtain ⟨i1, i2⟩ := reads_rows r vs es hr pr
    dsimp only at h1 h2 p1 p2
    subst h1
    obtain ⟨t, rfl⟩ := h2
    obtain ⟨u, hu⟩ : ∃ u, e.key = Value.str z u := by
      have p1' : keyIs (Sum.inr z) e.key = true := p1
      rcases keyIs_shape p1' with ⟨i, u, q, _⟩ | ⟨y, u, q, hk⟩
      · cases q
      · cases q
        exact ⟨u, hk⟩
    refine ⟨?_, ?_⟩
    · rw [List.map_cons, List.map_cons, hu]
      exact .cons (as := []) (bs := []) (.str z u) i1
    · rw [List.map_cons, List.map_cons, p2]
      exact .cons (as := []) (bs := []) (.int n t) i2
theorem reads_dsi {P : Program} {w : World} {H : Hp} {h : Heap} {a : Addr} {kvs : List (Str × Int)} (x : ObjOk P w H h a (.dK (dsi kvs))) : (a == sysModules) = false ∧ Reads h (.ref a) (dsiD kvs) [a] := by
  obtain ⟨_, na, vs, hk, o, es, ep, e, ex, hd, _, pr, _⟩ := x
  obtain ⟨r1, r2⟩ := reads_rows (h := h) kvs vs es.toList hk pr
  refine ⟨na, .dict (as := []) (bs := []) e ex.1 hd ?_ ?_⟩
  · rw [List.map_map]
    exact r1
  · rw [List.map_map]
    exact r2
/-- repr(x), where nothing is being shown -/
def rRepr (K : PySem.W.Frag) : List V → Hp → VK → Prop := fun xs H Q => ∃ (x : V) (z : Str), xs = [x] ∧ Shows K H x z ∧ Q (.str z) H
theorem call_repr {X : Cx} (hg : X.A.guards = some []) (hu : X.A.units + 100 < cLine) : CallR X (.builtin "repr") (rRepr X.K) := by
  rintro pins s σ H xs us Q I r ⟨x, z, rfl, h, q⟩
  cases r with
  | cons rx rr =>
    cases rr
    rename_i v
    cases h with
    | non =>
      cases (show v = Value.none from rx)
      exact P.repr_of_none ⟨.str _, H, I.tok _, ⟨_, rfl⟩, q⟩
    | bl b =>
      cases (show v = Value.bool b from rx)
      refine P.repr_of_bool ⟨.str _, H, I.tok _, ⟨_, rfl⟩, ?_⟩
      cases b <;> exact q
    | int i h =>
      obtain ⟨t, rfl⟩ := rx
      exact P.repr_of_int h ⟨.str _, H, I.tok _, ⟨_, rfl⟩, q⟩
    | str y h =>
      obtain ⟨t, rfl⟩ := rx
      exact P.repr_of_str ⟨.str _, H, I.tok _, ⟨_, rfl⟩, q⟩ h
    | dat a d h hs hd hz hp =>
      cases (show v = Value.ref a from rx)
      obtain ⟨as, hr⟩ := Dp.reads I d _ _ h rx
      exact repr_of_reads' hr hs (PyData.noDict_hsm hd) hg (by omega) (fun _ _ e => e) (fun h' u tk k => ⟨.str _, H, I.kept k, ⟨_, rfl⟩, q⟩) hz
    | dic a kvs h hs hz =>
      cases (show v = Value.ref a from rx)
      obtain ⟨na, hr⟩ := reads_dsi (show ObjOk X.prog X.w H s.heap a (.dK (dsi kvs)) from I.hok a _ h)
      refine repr_of_reads' hr hs (fun _ m => ?_) hg ?_ (fun _ _ e => e) (fun h' u tk k => ⟨.str _, H, I.kept k, ⟨_, rfl⟩, q⟩) hz
      · rw [List.mem_singleton] at m
        rw [← m] at na
        exact absurd na (by decide)
      · have : (dsiD kvs).depth ≤ 1 := by
          have go : ∀ l : List (Str × Int), PyData.depthKv (l.map fun p => (PyData.str p.1, PyData.int p.2)) = 0 := by
            intro l
            induction l with
            | nil => rfl
            | cons p r ih => simp [PyData.depthKv, PyData.depth, ih]
          simp [dsiD, PyData.depth, go]
        omega
/-- the same in a block -/
theorem call_reprK {X : Cx} {K : PySem.W.Frag} {A : Around} (hK : X.K = K) (hA : X.A = A) (hg : A.guards = some []) (hu : A.units + 100 < cLine) : CallR X (.builtin "repr") (rRepr K) := by
  subst hK hA
  exact call_repr hg hu
end Lp

set_option Elab.async false
set_option linter.all false
set_option maxRecDepth 100000
set_option maxHeartbeats 4000000
/-! small things for readings -/
namespace Lp
open PySem PySem.Spec PyProof.Rows L2
theorem keep {H : Hp} {a b : Addr} {o u : HO} (f : H b = some u) (n : H a = none) : upd H a o b = some u := Eq.trans (upd_ne (ne_of_none f n)) f
theorem keepd {H : Hp} {a b : Addr} {o u : HO} (f : H b = some u) (n : b ≠ a) : upd H a o b = some u := Eq.trans (upd_ne n) f
theorem ne_fresh {H : Hp} {a b : Addr} {u : HO} (f : H b = some u) (n : H a = none) : a ≠ b := (ne_of_none f n).symm
theorem same_upd {H H1 : Hp} {l : Addr} {o : HO} (s : Same H H1) (n : H1 l = none) : Same H (upd H1 l o) := fun b u z => keep (s _ _ z) n
theorem same_set {H H1 : Hp} {d : Addr} {o : HO} (s : Same H H1) (n : H d = none) : Same H (upd H1 d o) := fun b u q => Eq.trans (upd_ne (ne_of_none q n)) (s _ _ q)
section
variable {K : PySem.W.Frag} {H : Hp}
theorem dp_bools : ∀ bs : List Bool, DpAll K H (bs.map V.bl) (bs.map PyData.bool)
  | [] => .nil
  | b :: bs => .cons (.bl b) (dp_bools bs)
theorem dp_strs : ∀ zs : List Str, DpAll K H (zs.map V.str) (zs.map PyData.str)
  | [] => .nil
  | z :: zs => .cons (.str z) (dp_strs zs)
theorem dp_refs : ∀ (ks : List Addr) (ds : List PyData), ks.length = ds.length → (∀ (r : Nat) (k : Addr) (d : PyData), ks[r]? = some k → ds[r]? = some d → Dp K H (.ref k) d) → DpAll K H (ks.map V.ref) ds
  | [], [], _, _ => .nil
  | k :: ks, d :: ds, h, f => .cons (f 0 k d rfl rfl) (dp_refs ks ds (by simpa using h) fun r k' d' h1 h2 => f (r + 1) k' d' (by simpa using h1) (by simpa using h2))
/-- two things of the same data are not unlike -/
theorem same_data {x y : V} {Q : VK} (d : PyData) (hx : Dp K H x d) (hy : Dp K H y d) (hs : SeqAt.shaped d = true) (q : Q (.bl false) H) : rNeD K x y H Q := by
  refine ⟨d, d, hx, hy, hs, hs, ?_⟩
  rw [SeqAt.eqv_refl d (SeqAt.canLay_of_shaped hs)]
  exact q
theorem dp_lists {g : Nat → List Bool} : ∀ (n : Nat) (ks : List Addr), ks.length = n → (∀ (r : Nat) (k : Addr), ks[r]? = some k → H k = some (.lst ((g r).map V.bl))) → DpAll K H (ks.map V.ref) ((List.range n).map fun r => .list ((g r).map PyData.bool)) := by
  intro n ks hk f
  refine dp_refs ks _ (by rw [List.length_map, List.length_range, hk]) fun r k d h1 h2 => ?_
  rw [List.getElem?_map] at h2
  have hr : r < n := by
    rw [← hk]
    exact (List.getElem?_eq_some_iff.mp h1).1
  rw [List.getElem?_range hr] at h2
  cases h2
  exact .lst (SqL.of (f r k h1)) (dp_bools _)
/-- one more object of a list of objects -/
theorem push_refs {H' Hn : Hp} {D k : Addr} {ks : List Addr} {f : Nat → HO} {u o : HO} (fk : ∀ (r : Nat) (k : Addr), ks[r]? = some k → k ≠ D ∧ H' k = some (f r)) (sn : Same H' Hn) (hD : H' D = some u) (nk : H' k = none) (hk : Hn k = some (f ks.length)) :
    ∀ (r : Nat) (k' : Addr), (ks ++ [k])[r]? = some k' → k' ≠ D ∧ upd Hn D o k' = some (f r) := by
  intro r k' h
  by_cases e : r < ks.length
  · rw [List.getElem?_append_left e] at h
    obtain ⟨h1, h2⟩ := fk r k' h
    exact ⟨h1, Eq.trans (upd_ne h1) (sn _ _ h2)⟩
  · have hr := (List.getElem?_eq_some_iff.mp h).1
    rw [List.length_append, List.length_singleton] at hr
    have er : r = ks.length := by omega
    subst er
    rw [List.getElem?_append_right (Nat.le_refl _), Nat.sub_self] at h
    cases h
    have h1 : k ≠ D := (ne_of_none hD nk).symm
    exact ⟨h1, Eq.trans (upd_ne h1) hk⟩
theorem dec_int_nat {a b : Nat} {x y : Int} (hx : x = (a : Int)) (hy : y = (b : Int)) : decide (V.int x = V.int y) = decide (b = a) := by
  subst hx hy
  by_cases e : b = a
  · subst e
    simp
  · rw [decide_eq_false e]
    refine decide_eq_false fun z => e ?_
    injection z with z
    omega
end
end Lp

set_option Elab.async false
set_option linter.all false
set_option maxRecDepth 100000
set_option maxHeartbeats 4000000
namespace Lp
open PySem PySem.Spec PyProof.Rows L2
def top (i : Nat) : Stmt := PySem.Challenge.pw_leastpools_k03_errors_and_fields.main.body.getD i (.Pass ⟨0, 0, 0, 0⟩)
abbrev sDraws : Stmt := top 19
abbrev sDraw : Stmt := top 20
/-- two numbers from which draws are made -/
def Two (H : Hp) (d : Addr) : Prop := ∃ c s : Int, H d = some (.lst [.int c, .int s]) ∧ 0 ≤ c ∧ 0 ≤ s ∧ s < 2147483647
def spDraws (K : PySem.W.Frag) : Sp := fun vs H Q _ => ∃ (a : Addr) (ns : List Int) (k : Int), vs = [.ref a, .int k] ∧ SqL K H a (ns.map V.int) ∧ ns.length ≤ 63 ∧ 0 ≤ k ∧ k ≤ 1000 ∧
  ∀ (H' : Hp) (p : Addr), Same H H' → H p = none → Two H' p → Q (.ref p) H'
def spDraw : Sp := fun vs H Q _ => ∃ (d : Addr) (n : Int), vs = [.ref d, .int n] ∧ Two H d ∧ 0 < n ∧ n ≤ 1000000 ∧
  ∀ (v c s : Int), 0 ≤ v → v < n → 0 ≤ c → 0 ≤ s → s < 2147483647 → Q (.int v) (upd H d (.lst [.int c, .int s]))
structure Bi (mg : Str → Option Value) : Prop where
  len : mg "len" = none
  int : mg "int" = none
theorem dp_ints {K : PySem.W.Frag} {H : Hp} : ∀ ns : List Int, DpAll K H (ns.map V.int) (ns.map PyData.int)
  | [] => .nil
  | n :: ns => .cons (.int n) (dp_ints ns)
theorem eqv_nil (ns : List Int) : PyData.eqv (.list (ns.map PyData.int)) (.list []) = decide (ns = []) := by
  cases ns with
  | nil => rfl
  | cons n ns => simp [PyData.eqv, PyData.eqvAll]
section
variable {P : Program} {w : World} {K : PySem.W.Frag} {mg : Str → Option Value} {base : Heap}
theorem scDs : FnScope ["_law_script", "_law_k", "_law_cell", "_law_seed"] ["_law_script", "_law_k"] (defScope sDraws) := ⟨rfl, rfl, rfl, by decide +kernel, rfl, by decide +kernel, by decide +kernel⟩
theorem ok_draws {f : Addr} {fd : FuncData} (F : Fun K "_law_draws" "_law_draws" sDraws f fd) (T : Bi mg) : FnOk P w K mg base CX0 1 f fd ["_law_script", "_law_k"] (spDraws K) := by
  refine F.ok scDs (fun vs H Q E h => ?_) (fun cdv A outer s H vs Q E hr h => ?_)
  · obtain ⟨a, ns, k, rfl, _⟩ := h
    rfl
  · obtain ⟨a, ns, k, rfl, hS, hn, k0, k1, q⟩ := h
    refine ⟨_, (pss_cons (ps_set (i := 2) scDs.nd rfl (Or.inl rfl) pe_int)
        (pss_cons (ps_if (pt_cmpR (op_neD hr.units) (pv 0) (pe_lst pa_nil) (nomark _)) (pss_one (ps_set (i := 2) scDs.nd rfl (Or.inl rfl) (pe_ix ix_list (pv 0) (pe_op op_mod (pe_callTy call_int1 (by rfl) T.int (by decide +kernel) (pa_cons (pv 1) pa_nil)) (pe_callB call_len_seq (by rfl) T.len PySem.boot_len (pa_cons (pv 0) pa_nil))) (fun _ _ => rfl)))) pss_nil)
        (pss_cons (ps_if (pt_cmpR op_ge (pv 1) (pe_callB call_len_seq (by rfl) T.len PySem.boot_len (pa_cons (pv 0) pa_nil)) (nomark _)) (pss_one (ps_set (i := 2) scDs.nd rfl (Or.inl rfl) (pe_op op_mod (pe_callTy call_int1 (by rfl) T.int (by decide +kernel) (pa_cons (pv 2) pa_nil)) pe_int))) pss_nil)
        (pss_cons (ps_set (i := 3) scDs.nd rfl (Or.inl rfl) (pe_op op_mod (pe_op op_mul (pe_callTy call_int1 (by rfl) T.int (by decide +kernel) (pa_cons (pe_op op_add (pe_op op_add (pe_op op_mod (pe_callTy call_int1 (by rfl) T.int (by decide +kernel) (pa_cons (pv 2) pa_nil)) pe_int) (pe_op op_mul pe_int (pv 1))) pe_int) pa_nil)) pe_int) pe_int))
        (pss_one (ps_ret (pe_lst (pa_cons (pe_op op_mul (pv 2) (pe_callTy call_int1 (by rfl) T.int (by decide +kernel) (pa_cons (pe_cmpR op_ge (pv 2) (pe_op op_pow pe_int pe_int) (nomark _)) pa_nil))) (pa_cons (pv 3) pa_nil))))))))), ?_⟩
    have fin : ∀ (c : Int) (H1 : Hp), Same H H1 → ∀ p : Addr, H1 p = none → Q (.ref p) (upd H1 p (.lst [.int (c * (if decide ((10 : Int) ^ (18 : Int).toNat ≤ c) = true then 1 else 0)), .int ((c % 2147483629 + 104729 * k + 11) * 48271 % 2147483647)])) := by
      intro c H1 hs p hp
      refine q _ p (fun b o z => ?_) (hs.free hp) ⟨_, _, upd_same, ?_, ?_, ?_⟩
      · rw [upd_ne (ne_of_none (hs _ _ z) hp)]
        exact hs _ _ z
      · by_cases z : (10 : Int) ^ (18 : Int).toNat ≤ c
        · rw [decide_eq_true z, if_pos rfl]
          have : (0 : Int) ≤ (10 : Int) ^ (18 : Int).toNat := by decide
          omega
        · rw [decide_eq_false z, if_neg Bool.false_ne_true]
          omega
      · omega
      · omega
    refine ⟨_, rfl, ⟨Nat.zero_le _, fun l hl => ?_⟩⟩
    have hs1 : Same H (upd H l (.lst [])) := fun b o z => by
      rw [upd_ne (ne_of_none z hl)]
      exact z
    refine ⟨_, _, .lst (hs1.seq hS) (dp_ints ns), .lst (SqL.of upd_same) .nil, PySem.W.ke_shaped_ints ns, rfl, _, rfl, ?_⟩
    rw [eqv_nil]
    by_cases e : ns = []
    · subst e
      refine iteF ?_
      refine ⟨_, rfl, _, rfl, a, _, rfl, .inl (hs1.seq hS), _, _, rfl, rfl, _, rfl, ?_⟩
      have ek : decide (((List.map V.int ([] : List Int)).length : Int) ≤ k) = true := decide_eq_true (by simpa using k0)
      rw [ek]
      refine iteT ?_
      refine ⟨_, rfl, .inl ⟨_, rfl, ?_⟩⟩
      refine ⟨_, _, rfl, rfl, (by show (0 : Int) < 1000003; decide), ?_⟩
      refine ⟨_, rfl, .inl ⟨_, rfl, _, _, rfl, rfl, (by show (0 : Int) < 2147483629; decide), _, rfl, _, _, rfl, rfl, .inl ⟨by decide, by decide⟩, _, _, rfl, rfl, _, _, rfl, rfl, .inl ⟨_, rfl, _, _, rfl, rfl, .inr ⟨by decide, by decide⟩, _, _, rfl, rfl, (by show (0 : Int) < 2147483647; decide), ?_⟩⟩⟩
      refine ⟨_, rfl, _, rfl, _, _, rfl, rfl, ⟨by decide, by decide, by decide⟩, _, _, rfl, rfl, .inr ⟨_, rfl, _, _, rfl, rfl, .inr ⟨by split <;> decide, by split <;> decide⟩, _, rfl, (by show 2 ≤ sizeLine; decide), ?_⟩⟩
      exact fin _ _ hs1
    · have len : 0 < ns.length := List.length_pos_iff.mpr e
      rw [decide_eq_false e]
      refine iteT ?_
      refine ⟨_, rfl, _, rfl, .inl ⟨_, rfl, _, rfl, a, _, rfl, .inl (hs1.seq hS), _, _, rfl, rfl, (by rw [List.length_map]; omega), ?_⟩⟩
      have hb : k % ((List.map V.int ns).length : Int) < ns.length ∧ 0 ≤ k % ((List.map V.int ns).length : Int) := by
        rw [List.length_map]
        exact ⟨Int.emod_lt_of_pos _ (by omega), Int.emod_nonneg _ (by omega)⟩
      obtain ⟨j, hj⟩ : ∃ j : Nat, k % ((List.map V.int ns).length : Int) = j := ⟨_, (Int.toNat_of_nonneg hb.2).symm⟩
      have hjn : j < ns.length := by omega
      refine ⟨a, _, _, .int ns[j], rfl, rfl, hs1.seq hS, ?_, ?_⟩
      · rw [hj]
        exact atI_nat (by simp [hjn])
      refine ⟨_, rfl, _, rfl, a, _, rfl, .inl (hs1.seq hS), _, _, rfl, rfl, _, rfl, ?_⟩
      refine ite2 (fun _ => ?_) fun _ => ?_
      · refine ⟨_, rfl, .inl ⟨_, rfl, ?_⟩⟩
        refine ⟨_, _, rfl, rfl, (by show (0 : Int) < 1000003; decide), ?_⟩
        refine ⟨_, rfl, .inl ⟨_, rfl, _, _, rfl, rfl, (by show (0 : Int) < 2147483629; decide), _, rfl, _, _, rfl, rfl, .inl ⟨by decide, by decide⟩, _, _, rfl, rfl, _, _, rfl, rfl, .inl ⟨_, rfl, _, _, rfl, rfl, .inr ⟨by decide, by decide⟩, _, _, rfl, rfl, (by show (0 : Int) < 2147483647; decide), ?_⟩⟩⟩
        refine ⟨_, rfl, _, rfl, _, _, rfl, rfl, ⟨by decide, by decide, by decide⟩, _, _, rfl, rfl, .inr ⟨_, rfl, _, _, rfl, rfl, .inr ⟨by split <;> decide, by split <;> decide⟩, _, rfl, (by show 2 ≤ sizeLine; decide), ?_⟩⟩
        exact fin _ _ hs1
      · skip
        refine ⟨_, rfl, .inl ⟨_, rfl, _, _, rfl, rfl, (by show (0 : Int) < 2147483629; decide), _, rfl, _, _, rfl, rfl, .inl ⟨by decide, by decide⟩, _, _, rfl, rfl, _, _, rfl, rfl, .inl ⟨_, rfl, _, _, rfl, rfl, .inr ⟨by decide, by decide⟩, _, _, rfl, rfl, (by show (0 : Int) < 2147483647; decide), ?_⟩⟩⟩
        refine ⟨_, rfl, _, rfl, _, _, rfl, rfl, ⟨by decide, by decide, by decide⟩, _, _, rfl, rfl, .inr ⟨_, rfl, _, _, rfl, rfl, .inr ⟨by split <;> decide, by split <;> decide⟩, _, rfl, (by show 2 ≤ sizeLine; decide), ?_⟩⟩
        exact fin _ _ hs1
theorem scDr : FnScope ["_law_draws_here", "_law_upto", "_law_digit"] ["_law_draws_here", "_law_upto"] (defScope sDraw) := ⟨rfl, rfl, rfl, by decide +kernel, rfl, by decide +kernel, by decide +kernel⟩
theorem ok_draw {f : Addr} {fd : FuncData} (F : Fun K "_law_draw" "_law_draw" sDraw f fd) (T : Bi mg) : FnOk P w K mg base CX0 1 f fd ["_law_draws_here", "_law_upto"] spDraw := by
  refine F.ok scDr (fun vs H Q E h => ?_) (fun cdv A outer s H vs Q E hr h => ?_)
  · obtain ⟨d, n, rfl, _⟩ := h
    rfl
  · obtain ⟨d, n, rfl, ⟨c, z, hd, c0, z0, z1⟩, n0, n1, q⟩ := h
    refine ⟨_, (pss_cons (ps_if (pt_cmpR op_gt (pe_ix ix_list (pv 0) pe_int (fun _ _ => rfl)) pe_int (nomark _)) (pss_cons (ps_set (i := 2) scDr.nd rfl (Or.inl rfl) (pe_op op_mod (pe_callTy call_int1 (by rfl) T.int (by decide +kernel) (pa_cons (pe_ix ix_list (pv 0) pe_int (fun _ _ => rfl)) pa_nil)) (pv 1)))
        (pss_cons (ps_asg (pe_op op_fdiv (pe_ix ix_list (pv 0) pe_int (fun _ _ => rfl)) (pv 1)) (pg_sub (pv 0) pe_int set_list))
        (pss_one (ps_ret (pv 2))))) pss_nil)
        (pss_cons (ps_asg (pe_op op_mod (pe_callTy call_int1 (by rfl) T.int (by decide +kernel) (pa_cons (pe_op op_add (pe_op op_mul (pe_ix ix_list (pv 0) pe_int (fun _ _ => rfl)) pe_int) pe_int) pa_nil)) pe_int) (pg_sub (pv 0) pe_int set_list))
        (pss_one (ps_ret (pe_op op_mod (pe_callTy call_int1 (by rfl) T.int (by decide +kernel) (pa_cons (pe_op op_fdiv (pe_op op_mod (pe_callTy call_int1 (by rfl) T.int (by decide +kernel) (pa_cons (pe_op op_mul (pe_ix ix_list (pv 0) pe_int (fun _ _ => rfl)) (pe_ix ix_list (pv 0) pe_int (fun _ _ => rfl))) pa_nil)) pe_int) pe_int) pa_nil)) (pv 1)))))), ?_⟩
    have at0 : ∀ {x y : V}, atI [x, y] (0 : Int) = some x := rfl
    have at1 : ∀ {x y : V}, atI [x, y] (1 : Int) = some y := rfl
    refine ⟨_, rfl, d, _, _, _, rfl, rfl, SqL.of hd, at0, _, _, rfl, rfl, _, rfl, ?_⟩
    refine ite2 (fun hc => ?_) fun _ => ?_
    · refine ⟨_, rfl, d, _, _, _, rfl, rfl, SqL.of hd, at0, .inl ⟨_, rfl, _, rfl, _, _, rfl, rfl, n0, ?_⟩⟩
      refine ⟨_, rfl, d, _, _, _, rfl, rfl, SqL.of hd, at0, _, rfl, _, _, rfl, rfl, ⟨n0, by omega⟩, ?_⟩
      refine ⟨_, rfl, d, _, _, 0, rfl, rfl, hd, rfl, ?_⟩
      refine ⟨_, rfl, ?_⟩
      exact q _ _ _ (Int.emod_nonneg _ (by omega)) (Int.emod_lt_of_pos _ n0) (Int.ediv_nonneg c0 (by omega)) z0 z1
    · refine ⟨_, rfl, d, _, _, _, rfl, rfl, SqL.of hd, at1, _, _, rfl, rfl, .inr ⟨by decide, by decide⟩, _, _, rfl, rfl, .inl ⟨_, rfl, _, _, rfl, rfl, (by show (0 : Int) < 2147483647; decide), ?_⟩⟩
      refine ⟨_, rfl, d, _, _, 1, rfl, rfl, hd, rfl, ?_⟩
      have hd2 : upd H d (.lst [.int c, .int ((z * 48271 + 11) % 2147483647)]) d = some (.lst [.int c, .int ((z * 48271 + 11) % 2147483647)]) := upd_same
      have b0 : 0 ≤ (z * 48271 + 11) % 2147483647 := Int.emod_nonneg _ (by decide)
      have b1 : (z * 48271 + 11) % 2147483647 < 2147483647 := Int.emod_lt_of_pos _ (by decide)
      refine ⟨_, rfl, d, _, _, _, rfl, rfl, SqL.of hd2, at1, _, rfl, d, _, _, _, rfl, rfl, SqL.of hd2, at1, _, _, rfl, rfl, .inl ⟨by omega, by omega⟩, ?_⟩
      refine .inl ⟨_, rfl, _, _, rfl, rfl, (by show (0 : Int) < 2147483629; decide), _, _, rfl, rfl, ⟨by decide, by decide⟩, .inl ⟨_, rfl, _, rfl, _, _, rfl, rfl, n0, ?_⟩⟩
      exact q _ _ _ (Int.emod_nonneg _ (by omega)) (Int.emod_lt_of_pos _ n0) c0 b0 b1
end
end Lp


set_option Elab.async false
set_option linter.all false
set_option maxRecDepth 100000
set_option maxHeartbeats 8000000
namespace Lp
open PySem PySem.Spec PyProof.Rows L2
abbrev sPlain : Stmt := top 21
abbrev sKinds : Stmt := top 22
abbrev sBases : Stmt := top 23
abbrev sLaw : Stmt := top 24
def fld (i : Nat) : Str := if i < 14 then "value" else if i = 14 then "name" else "number"
/-- the classes, by number -/
abbrev Cl := Nat → Addr

structure T3 (K : PySem.W.Frag) (mg : Str → Option Value) (cs : Cl) (cP : Addr) : Prop where
  bi : Bi mg
  nisinstance : mg "isinstance" = none
  nrange : mg "range" = none
  nmax : mg "max" = none
  nmin : mg "min" = none
  nenumerate : mg "enumerate" = none
  nrepr : mg "repr" = none
  nKeyError : mg "KeyError" = none
  nValueError : mg "ValueError" = none
  nLookupError : mg "LookupError" = none
  nArithmeticError : mg "ArithmeticError" = none
  nRuntimeError : mg "RuntimeError" = none
  mP : mg "PoolError" = some (.ref cP)
  m0 : mg "InvalidSizes" = some (.ref (cs 0))
  m1 : mg "InvalidProgram" = some (.ref (cs 1))
  m2 : mg "InvalidText" = some (.ref (cs 2))
  m3 : mg "InvalidState" = some (.ref (cs 3))
  m4 : mg "InvalidPosition" = some (.ref (cs 4))
  m5 : mg "InvalidPaper" = some (.ref (cs 5))
  m6 : mg "InvalidRanks" = some (.ref (cs 6))
  m7 : mg "InvalidLimits" = some (.ref (cs 7))
  m8 : mg "InvalidEdit" = some (.ref (cs 8))
  m9 : mg "InvalidLog" = some (.ref (cs 9))
  m10 : mg "InvalidFault" = some (.ref (cs 10))
  m11 : mg "InvalidCommand" = some (.ref (cs 11))
  m12 : mg "NoJob" = some (.ref (cs 12))
  m13 : mg "NoMove" = some (.ref (cs 13))
  m14 : mg "NotEnough" = some (.ref (cs 14))
  m15 : mg "TooMany" = some (.ref (cs 15))
  ex : ∀ i, i < 16 → ExK K (cs i)
  kp : ∀ i, i < 16 → PySem.W.keepIn K (.ref (cs i)) = true
  ff : ∀ i, i < 16 → PySem.W.findIn K (.ref (cs i)) (fld i) = some none
  kk : ∀ i j, i < 16 → j < 16 → PySem.W.kitOne K (.ref (cs i)) (.ref (cs j)) = some (decide (i = j))
  kP : ∀ i, i < 16 → PySem.W.kitOne K (.ref (cs i)) (.ref cP) = some (decide (i < 12))
  kV : ∀ i, i < 16 → PySem.W.kitOne K (.ref (cs i)) (.type "ValueError") = some (decide (i < 12))
  kK : ∀ i, i < 16 → PySem.W.kitOne K (.ref (cs i)) (.type "KeyError") = some (decide (i = 12))
  kL : ∀ i, i < 16 → PySem.W.kitOne K (.ref (cs i)) (.type "LookupError") = some (decide (i = 12 ∨ i = 13))
  kA : ∀ i, i < 16 → PySem.W.kitOne K (.ref (cs i)) (.type "ArithmeticError") = some (decide (i = 14))
  kR : ∀ i, i < 16 → PySem.W.kitOne K (.ref (cs i)) (.type "RuntimeError") = some (decide (i = 15))
/-- an exception of the i-th class -/
def Ex (cs : Cl) (H : Hp) (e : Addr) (i : Nat) (x : V) : Prop := i < 16 ∧ ExAt H e (cs i) (fld i) x
theorem Ex.same {cs : Cl} {H H' : Hp} {e : Addr} {i : Nat} {x : V} (h : Ex cs H e i x) (s : Same H H') : Ex cs H' e i x := ⟨h.1, h.2.same s⟩
def kindsOf (i : Nat) : List V := (List.range 16).map fun j => V.bl (decide (i = j))
def basesOf (i : Nat) : List V := [.bl (decide (i < 12)), .bl (decide (i < 12)), .bl (decide (i = 12)), .bl (decide (i = 12 ∨ i = 13)), .bl (decide (i = 14)), .bl (decide (i = 15))]
def spKinds (cs : Cl) : Sp := fun vs H Q _ => ∃ (e : Addr) (i : Nat) (x : V), vs = [.ref e] ∧ Ex cs H e i x ∧ ∀ (H' : Hp) (p : Addr), Same H H' → H p = none → H' p = some (.lst (kindsOf i)) → Q (.ref p) H'
def spBases (cs : Cl) : Sp := fun vs H Q _ => ∃ (e : Addr) (i : Nat) (x : V), vs = [.ref e] ∧ Ex cs H e i x ∧ ∀ (H' : Hp) (p : Addr), Same H H' → H p = none → H' p = some (.lst (basesOf i)) → Q (.ref p) H'
def spPlain (cs : Cl) : Sp := fun vs H Q _ => ∃ x : V, vs = [x] ∧ ∀ (H' : Hp) (p : Addr) (es : List Addr), Same H H' → H p = none → es.length = 12 → (∀ (i : Nat) (e : Addr), es[i]? = some e → Ex cs H' e i x) → H' p = some (.lst (es.map V.ref)) → Q (.ref p) H'
section
variable {P : Program} {w : World} {K : PySem.W.Frag} {mg : Str → Option Value} {base : Heap} {cs : Cl} {cP : Addr}

theorem scK : FnScope ["_law_error", "_law_kinds_here"] ["_law_error"] (defScope sKinds) := ⟨rfl, rfl, rfl, by decide +kernel, rfl, by decide +kernel, by decide +kernel⟩
theorem ok_kinds {f : Addr} {fd : FuncData} (F : Fun K "_law_kinds" "_law_kinds" sKinds f fd) (T : T3 K mg cs cP) : FnOk P w K mg base CX0 1 f fd ["_law_error"] (spKinds cs) := by
  refine F.ok scK (fun vs H Q E h => ?_) (fun cdv A outer s H vs Q E hr h => ?_)
  · obtain ⟨e, i, x, rfl, _⟩ := h
    rfl
  · obtain ⟨e, i, x, rfl, ⟨hi, hE⟩, q⟩ := h
    have k := T.ex i hi
    refine ⟨_, (pss_cons (ps_set (i := 1) scK.nd rfl (Or.inl rfl) (pe_lst (pa_cons (pe_callB call_isx (by rfl) T.nisinstance (by decide +kernel) (pa_cons (pv 0) (pa_cons (pe_glob (v := .ref (cs 0)) rfl T.m0 rfl) pa_nil))) (pa_cons (pe_callB call_isx (by rfl) T.nisinstance (by decide +kernel) (pa_cons (pv 0) (pa_cons (pe_glob (v := .ref (cs 1)) rfl T.m1 rfl) pa_nil))) (pa_cons (pe_callB call_isx (by rfl) T.nisinstance (by decide +kernel) (pa_cons (pv 0) (pa_cons (pe_glob (v := .ref (cs 2)) rfl T.m2 rfl) pa_nil))) pa_nil)))))
        (pss_cons (ps_set (i := 1) scK.nd rfl (Or.inl rfl) (pe_op op_cat (pv 1) (pe_lst (pa_cons (pe_callB call_isx (by rfl) T.nisinstance (by decide +kernel) (pa_cons (pv 0) (pa_cons (pe_glob (v := .ref (cs 3)) rfl T.m3 rfl) pa_nil))) (pa_cons (pe_callB call_isx (by rfl) T.nisinstance (by decide +kernel) (pa_cons (pv 0) (pa_cons (pe_glob (v := .ref (cs 4)) rfl T.m4 rfl) pa_nil))) pa_nil)))))
        (pss_cons (ps_set (i := 1) scK.nd rfl (Or.inl rfl) (pe_op op_cat (pv 1) (pe_lst (pa_cons (pe_callB call_isx (by rfl) T.nisinstance (by decide +kernel) (pa_cons (pv 0) (pa_cons (pe_glob (v := .ref (cs 5)) rfl T.m5 rfl) pa_nil))) (pa_cons (pe_callB call_isx (by rfl) T.nisinstance (by decide +kernel) (pa_cons (pv 0) (pa_cons (pe_glob (v := .ref (cs 6)) rfl T.m6 rfl) pa_nil))) pa_nil)))))
        (pss_cons (ps_set (i := 1) scK.nd rfl (Or.inl rfl) (pe_op op_cat (pv 1) (pe_lst (pa_cons (pe_callB call_isx (by rfl) T.nisinstance (by decide +kernel) (pa_cons (pv 0) (pa_cons (pe_glob (v := .ref (cs 7)) rfl T.m7 rfl) pa_nil))) (pa_cons (pe_callB call_isx (by rfl) T.nisinstance (by decide +kernel) (pa_cons (pv 0) (pa_cons (pe_glob (v := .ref (cs 8)) rfl T.m8 rfl) pa_nil))) (pa_cons (pe_callB call_isx (by rfl) T.nisinstance (by decide +kernel) (pa_cons (pv 0) (pa_cons (pe_glob (v := .ref (cs 9)) rfl T.m9 rfl) pa_nil))) pa_nil))))))
        (pss_cons (ps_set (i := 1) scK.nd rfl (Or.inl rfl) (pe_op op_cat (pv 1) (pe_lst (pa_cons (pe_callB call_isx (by rfl) T.nisinstance (by decide +kernel) (pa_cons (pv 0) (pa_cons (pe_glob (v := .ref (cs 10)) rfl T.m10 rfl) pa_nil))) (pa_cons (pe_callB call_isx (by rfl) T.nisinstance (by decide +kernel) (pa_cons (pv 0) (pa_cons (pe_glob (v := .ref (cs 11)) rfl T.m11 rfl) pa_nil))) pa_nil)))))
        (pss_cons (ps_set (i := 1) scK.nd rfl (Or.inl rfl) (pe_op op_cat (pv 1) (pe_lst (pa_cons (pe_callB call_isx (by rfl) T.nisinstance (by decide +kernel) (pa_cons (pv 0) (pa_cons (pe_glob (v := .ref (cs 12)) rfl T.m12 rfl) pa_nil))) (pa_cons (pe_callB call_isx (by rfl) T.nisinstance (by decide +kernel) (pa_cons (pv 0) (pa_cons (pe_glob (v := .ref (cs 13)) rfl T.m13 rfl) pa_nil))) pa_nil)))))
        (pss_one (ps_ret (pe_op op_cat (pv 1) (pe_lst (pa_cons (pe_callB call_isx (by rfl) T.nisinstance (by decide +kernel) (pa_cons (pv 0) (pa_cons (pe_glob (v := .ref (cs 14)) rfl T.m14 rfl) pa_nil))) (pa_cons (pe_callB call_isx (by rfl) T.nisinstance (by decide +kernel) (pa_cons (pv 0) (pa_cons (pe_glob (v := .ref (cs 15)) rfl T.m15 rfl) pa_nil))) pa_nil)))))))))))), ?_⟩
    refine ⟨_, rfl, e, cs i, fld i, x, _, _, _, rfl, hE.same (Same.refl H), k, (fun _ r => r), T.kk i 0 hi (by decide), _, rfl, e, cs i, fld i, x, _, _, _, rfl, hE.same (Same.refl H), k, (fun _ r => r), T.kk i 1 hi (by decide), _, rfl, e, cs i, fld i, x, _, _, _, rfl, hE.same (Same.refl H), k, (fun _ r => r), T.kk i 2 hi (by decide), (by show 3 ≤ sizeLine; decide), fun l0 n0 => ?_⟩
    refine ⟨_, rfl, _, rfl, e, cs i, fld i, x, _, _, _, rfl, hE.same (same_upd (Same.refl H) n0), k, (fun _ r => r), T.kk i 3 hi (by decide), _, rfl, e, cs i, fld i, x, _, _, _, rfl, hE.same (same_upd (Same.refl H) n0), k, (fun _ r => r), T.kk i 4 hi (by decide), (by show 2 ≤ sizeLine; decide), fun l1 n1 => ?_⟩
    refine ⟨_, _, _, _, rfl, rfl, Eq.trans (upd_ne (ne_of_none upd_same n1)) upd_same, upd_same, (by show 3+2 ≤ sizeLine; decide), fun l2 n2 => ?_⟩
    refine ⟨_, rfl, _, rfl, e, cs i, fld i, x, _, _, _, rfl, hE.same (same_upd (same_upd (same_upd (Same.refl H) n0) n1) n2), k, (fun _ r => r), T.kk i 5 hi (by decide), _, rfl, e, cs i, fld i, x, _, _, _, rfl, hE.same (same_upd (same_upd (same_upd (Same.refl H) n0) n1) n2), k, (fun _ r => r), T.kk i 6 hi (by decide), (by show 2 ≤ sizeLine; decide), fun l3 n3 => ?_⟩
    refine ⟨_, _, _, _, rfl, rfl, Eq.trans (upd_ne (ne_of_none upd_same n3)) upd_same, upd_same, (by show 5+2 ≤ sizeLine; decide), fun l4 n4 => ?_⟩
    refine ⟨_, rfl, _, rfl, e, cs i, fld i, x, _, _, _, rfl, hE.same (same_upd (same_upd (same_upd (same_upd (same_upd (Same.refl H) n0) n1) n2) n3) n4), k, (fun _ r => r), T.kk i 7 hi (by decide), _, rfl, e, cs i, fld i, x, _, _, _, rfl, hE.same (same_upd (same_upd (same_upd (same_upd (same_upd (Same.refl H) n0) n1) n2) n3) n4), k, (fun _ r => r), T.kk i 8 hi (by decide), _, rfl, e, cs i, fld i, x, _, _, _, rfl, hE.same (same_upd (same_upd (same_upd (same_upd (same_upd (Same.refl H) n0) n1) n2) n3) n4), k, (fun _ r => r), T.kk i 9 hi (by decide), (by show 3 ≤ sizeLine; decide), fun l5 n5 => ?_⟩
    refine ⟨_, _, _, _, rfl, rfl, Eq.trans (upd_ne (ne_of_none upd_same n5)) upd_same, upd_same, (by show 7+3 ≤ sizeLine; decide), fun l6 n6 => ?_⟩
    refine ⟨_, rfl, _, rfl, e, cs i, fld i, x, _, _, _, rfl, hE.same (same_upd (same_upd (same_upd (same_upd (same_upd (same_upd (same_upd (Same.refl H) n0) n1) n2) n3) n4) n5) n6), k, (fun _ r => r), T.kk i 10 hi (by decide), _, rfl, e, cs i, fld i, x, _, _, _, rfl, hE.same (same_upd (same_upd (same_upd (same_upd (same_upd (same_upd (same_upd (Same.refl H) n0) n1) n2) n3) n4) n5) n6), k, (fun _ r => r), T.kk i 11 hi (by decide), (by show 2 ≤ sizeLine; decide), fun l7 n7 => ?_⟩
    refine ⟨_, _, _, _, rfl, rfl, Eq.trans (upd_ne (ne_of_none upd_same n7)) upd_same, upd_same, (by show 10+2 ≤ sizeLine; decide), fun l8 n8 => ?_⟩
    refine ⟨_, rfl, _, rfl, e, cs i, fld i, x, _, _, _, rfl, hE.same (same_upd (same_upd (same_upd (same_upd (same_upd (same_upd (same_upd (same_upd (same_upd (Same.refl H) n0) n1) n2) n3) n4) n5) n6) n7) n8), k, (fun _ r => r), T.kk i 12 hi (by decide), _, rfl, e, cs i, fld i, x, _, _, _, rfl, hE.same (same_upd (same_upd (same_upd (same_upd (same_upd (same_upd (same_upd (same_upd (same_upd (Same.refl H) n0) n1) n2) n3) n4) n5) n6) n7) n8), k, (fun _ r => r), T.kk i 13 hi (by decide), (by show 2 ≤ sizeLine; decide), fun l9 n9 => ?_⟩
    refine ⟨_, _, _, _, rfl, rfl, Eq.trans (upd_ne (ne_of_none upd_same n9)) upd_same, upd_same, (by show 12+2 ≤ sizeLine; decide), fun l10 n10 => ?_⟩
    refine ⟨_, rfl, _, rfl, e, cs i, fld i, x, _, _, _, rfl, hE.same (same_upd (same_upd (same_upd (same_upd (same_upd (same_upd (same_upd (same_upd (same_upd (same_upd (same_upd (Same.refl H) n0) n1) n2) n3) n4) n5) n6) n7) n8) n9) n10), k, (fun _ r => r), T.kk i 14 hi (by decide), _, rfl, e, cs i, fld i, x, _, _, _, rfl, hE.same (same_upd (same_upd (same_upd (same_upd (same_upd (same_upd (same_upd (same_upd (same_upd (same_upd (same_upd (Same.refl H) n0) n1) n2) n3) n4) n5) n6) n7) n8) n9) n10), k, (fun _ r => r), T.kk i 15 hi (by decide), (by show 2 ≤ sizeLine; decide), fun l11 n11 => ?_⟩
    refine ⟨_, _, _, _, rfl, rfl, Eq.trans (upd_ne (ne_of_none upd_same n11)) upd_same, upd_same, (by show 14+2 ≤ sizeLine; decide), fun l12 n12 => ?_⟩
    exact q _ _ (same_upd (same_upd (same_upd (same_upd (same_upd (same_upd (same_upd (same_upd (same_upd (same_upd (same_upd (same_upd (same_upd (Same.refl H) n0) n1) n2) n3) n4) n5) n6) n7) n8) n9) n10) n11) n12) ((same_upd (same_upd (same_upd (same_upd (same_upd (same_upd (same_upd (same_upd (same_upd (same_upd (same_upd (same_upd (Same.refl H) n0) n1) n2) n3) n4) n5) n6) n7) n8) n9) n10) n11).free n12) upd_same
theorem scB : FnScope ["_law_error", "_law_bases_here"] ["_law_error"] (defScope sBases) := ⟨rfl, rfl, rfl, by decide +kernel, rfl, by decide +kernel, by decide +kernel⟩
theorem ok_bases {f : Addr} {fd : FuncData} (F : Fun K "_law_bases" "_law_bases" sBases f fd) (T : T3 K mg cs cP) : FnOk P w K mg base CX0 1 f fd ["_law_error"] (spBases cs) := by
  refine F.ok scB (fun vs H Q E h => ?_) (fun cdv A outer s H vs Q E hr h => ?_)
  · obtain ⟨e, i, x, rfl, _⟩ := h
    rfl
  · obtain ⟨e, i, x, rfl, ⟨hi, hE⟩, q⟩ := h
    have k := T.ex i hi
    refine ⟨_, (pss_cons (ps_set (i := 1) scB.nd rfl (Or.inl rfl) (pe_lst (pa_cons (pe_callB call_isx (by rfl) T.nisinstance (by decide +kernel) (pa_cons (pv 0) (pa_cons (pe_glob (v := .ref cP) rfl T.mP rfl) pa_nil))) (pa_cons (pe_callB call_isx (by rfl) T.nisinstance (by decide +kernel) (pa_cons (pv 0) (pa_cons (pe_bltn (v := .ty "ValueError") rfl T.nValueError (by decide +kernel) rfl) pa_nil))) (pa_cons (pe_callB call_isx (by rfl) T.nisinstance (by decide +kernel) (pa_cons (pv 0) (pa_cons (pe_bltn (v := .ty "KeyError") rfl T.nKeyError (by decide +kernel) rfl) pa_nil))) pa_nil)))))
        (pss_cons (ps_set (i := 1) scB.nd rfl (Or.inl rfl) (pe_op op_cat (pv 1) (pe_lst (pa_cons (pe_callB call_isx (by rfl) T.nisinstance (by decide +kernel) (pa_cons (pv 0) (pa_cons (pe_bltn (v := .ty "LookupError") rfl T.nLookupError (by decide +kernel) rfl) pa_nil))) (pa_cons (pe_callB call_isx (by rfl) T.nisinstance (by decide +kernel) (pa_cons (pv 0) (pa_cons (pe_bltn (v := .ty "ArithmeticError") rfl T.nArithmeticError (by decide +kernel) rfl) pa_nil))) pa_nil)))))
        (pss_one (ps_ret (pe_op op_cat (pv 1) (pe_lst (pa_cons (pe_callB call_isx (by rfl) T.nisinstance (by decide +kernel) (pa_cons (pv 0) (pa_cons (pe_bltn (v := .ty "RuntimeError") rfl T.nRuntimeError (by decide +kernel) rfl) pa_nil))) pa_nil))))))), ?_⟩
    refine ⟨_, rfl, e, cs i, fld i, x, _, _, _, rfl, hE.same (Same.refl H), k, (fun _ r => r), T.kP i hi, _, rfl, e, cs i, fld i, x, _, _, _, rfl, hE.same (Same.refl H), k, (fun _ r => r), T.kV i hi, _, rfl, e, cs i, fld i, x, _, _, _, rfl, hE.same (Same.refl H), k, (fun _ r => r), T.kK i hi, (by show 3 ≤ sizeLine; decide), fun l0 n0 => ?_⟩
    refine ⟨_, rfl, _, rfl, e, cs i, fld i, x, _, _, _, rfl, hE.same (same_upd (Same.refl H) n0), k, (fun _ r => r), T.kL i hi, _, rfl, e, cs i, fld i, x, _, _, _, rfl, hE.same (same_upd (Same.refl H) n0), k, (fun _ r => r), T.kA i hi, (by show 2 ≤ sizeLine; decide), fun l1 n1 => ?_⟩
    refine ⟨_, _, _, _, rfl, rfl, Eq.trans (upd_ne (ne_of_none upd_same n1)) upd_same, upd_same, (by show 3+2 ≤ sizeLine; decide), fun l2 n2 => ?_⟩
    refine ⟨_, rfl, _, rfl, e, cs i, fld i, x, _, _, _, rfl, hE.same (same_upd (same_upd (same_upd (Same.refl H) n0) n1) n2), k, (fun _ r => r), T.kR i hi, (by show 1 ≤ sizeLine; decide), fun l3 n3 => ?_⟩
    refine ⟨_, _, _, _, rfl, rfl, Eq.trans (upd_ne (ne_of_none upd_same n3)) upd_same, upd_same, (by show 5+1 ≤ sizeLine; decide), fun l4 n4 => ?_⟩
    exact q _ _ (same_upd (same_upd (same_upd (same_upd (same_upd (Same.refl H) n0) n1) n2) n3) n4) ((same_upd (same_upd (same_upd (same_upd (Same.refl H) n0) n1) n2) n3).free n4) upd_same
theorem scP : FnScope ["_law_thing", "_law_found"] ["_law_thing"] (defScope sPlain) := ⟨rfl, rfl, rfl, by decide +kernel, rfl, by decide +kernel, by decide +kernel⟩
theorem plain_at {X : Cx} {f : Addr} {fd : FuncData} (F : Fun X.K "_law_plain_ones" "_law_plain_ones" sPlain f fd) (hb : Binds X.K fd ["_law_thing"] []) (T : T3 X.K X.mg cs cP) (hr : Room 1 X.A)
    (hM : ∀ (i : Nat), i < 12 → ∀ env : Env, Makes X.prog X.w X.K (X.A.deeper env) (cs i) (fld i)) : CallR X (.ref f) fun vs H Q => spPlain cs (vs ++ []) H Q E0 := by
  refine callr_at F scP hr hb .nil (fun vs H Q E h => ?_) fun cdv s H vs Q h => ?_
  · obtain ⟨x, rfl, _⟩ := h
    rfl
  · obtain ⟨x, rfl, q⟩ := h
    replace hM := fun i hi => hM i hi (envOfC "_law_plain_ones" (defScope sPlain) s.heap.objs.size f cdv)
    refine ⟨_, (pss_cons (ps_set (i := 1) scP.nd rfl (Or.inl rfl) (pe_lst (pa_cons (pe_callF (call_mk (hM 0 (by decide))) rfl T.m0 (T.kp 0 (by decide)) (pa_cons (pv 0) pa_nil)) (pa_cons (pe_callF (call_mk (hM 1 (by decide))) rfl T.m1 (T.kp 1 (by decide)) (pa_cons (pv 0) pa_nil)) (pa_cons (pe_callF (call_mk (hM 2 (by decide))) rfl T.m2 (T.kp 2 (by decide)) (pa_cons (pv 0) pa_nil)) (pa_cons (pe_callF (call_mk (hM 3 (by decide))) rfl T.m3 (T.kp 3 (by decide)) (pa_cons (pv 0) pa_nil)) pa_nil))))))
        (pss_cons (ps_set (i := 1) scP.nd rfl (Or.inl rfl) (pe_op op_cat (pv 1) (pe_lst (pa_cons (pe_callF (call_mk (hM 4 (by decide))) rfl T.m4 (T.kp 4 (by decide)) (pa_cons (pv 0) pa_nil)) (pa_cons (pe_callF (call_mk (hM 5 (by decide))) rfl T.m5 (T.kp 5 (by decide)) (pa_cons (pv 0) pa_nil)) (pa_cons (pe_callF (call_mk (hM 6 (by decide))) rfl T.m6 (T.kp 6 (by decide)) (pa_cons (pv 0) pa_nil)) (pa_cons (pe_callF (call_mk (hM 7 (by decide))) rfl T.m7 (T.kp 7 (by decide)) (pa_cons (pv 0) pa_nil)) pa_nil)))))))
        (pss_one (ps_ret (pe_op op_cat (pv 1) (pe_lst (pa_cons (pe_callF (call_mk (hM 8 (by decide))) rfl T.m8 (T.kp 8 (by decide)) (pa_cons (pv 0) pa_nil)) (pa_cons (pe_callF (call_mk (hM 9 (by decide))) rfl T.m9 (T.kp 9 (by decide)) (pa_cons (pv 0) pa_nil)) (pa_cons (pe_callF (call_mk (hM 10 (by decide))) rfl T.m10 (T.kp 10 (by decide)) (pa_cons (pv 0) pa_nil)) (pa_cons (pe_callF (call_mk (hM 11 (by decide))) rfl T.m11 (T.kp 11 (by decide)) (pa_cons (pv 0) pa_nil)) pa_nil)))))))))), ?_⟩
    refine ⟨_, rfl, _, rfl, fun e0 H0 n0 t0 x0 => ?_⟩
    have s0 : Same H H0 := (Same.refl H).trans t0
    refine ⟨_, rfl, _, rfl, fun e1 H1 n1 t1 x1 => ?_⟩
    have s1 : Same H H1 := s0.trans t1
    refine ⟨_, rfl, _, rfl, fun e2 H2 n2 t2 x2 => ?_⟩
    have s2 : Same H H2 := s1.trans t2
    refine ⟨_, rfl, _, rfl, fun e3 H3 n3 t3 x3 => ?_⟩
    have s3 : Same H H3 := s2.trans t3
    refine ⟨(by show 4 ≤ sizeLine; decide), fun l0 k0 => ?_⟩
    refine ⟨_, rfl, ?_⟩
    refine ⟨_, rfl, _, rfl, fun e4 H4 n4 t4 x4 => ?_⟩
    have s4 : Same H H4 := (same_upd s3 k0).trans t4
    refine ⟨_, rfl, _, rfl, fun e5 H5 n5 t5 x5 => ?_⟩
    have s5 : Same H H5 := s4.trans t5
    refine ⟨_, rfl, _, rfl, fun e6 H6 n6 t6 x6 => ?_⟩
    have s6 : Same H H6 := s5.trans t6
    refine ⟨_, rfl, _, rfl, fun e7 H7 n7 t7 x7 => ?_⟩
    have s7 : Same H H7 := s6.trans t7
    refine ⟨(by show 4 ≤ sizeLine; decide), fun l1 k1 => ?_⟩
    refine ⟨_, _, _, _, rfl, rfl, Eq.trans (upd_ne (ne_of_none (t7 _ _ (t6 _ _ (t5 _ _ (t4 _ _ upd_same)))) k1)) (t7 _ _ (t6 _ _ (t5 _ _ (t4 _ _ upd_same)))), upd_same, (by show 4 + 4 ≤ sizeLine; decide), fun l2 k2 => ?_⟩
    refine ⟨_, rfl, ?_⟩
    refine ⟨_, rfl, _, rfl, fun e8 H8 n8 t8 x8 => ?_⟩
    have s8 : Same H H8 := (same_upd (same_upd s7 k1) k2).trans t8
    refine ⟨_, rfl, _, rfl, fun e9 H9 n9 t9 x9 => ?_⟩
    have s9 : Same H H9 := s8.trans t9
    refine ⟨_, rfl, _, rfl, fun e10 H10 n10 t10 x10 => ?_⟩
    have s10 : Same H H10 := s9.trans t10
    refine ⟨_, rfl, _, rfl, fun e11 H11 n11 t11 x11 => ?_⟩
    have s11 : Same H H11 := s10.trans t11
    refine ⟨(by show 4 ≤ sizeLine; decide), fun l3 k3 => ?_⟩
    refine ⟨_, _, _, _, rfl, rfl, Eq.trans (upd_ne (ne_of_none (t11 _ _ (t10 _ _ (t9 _ _ (t8 _ _ upd_same)))) k3)) (t11 _ _ (t10 _ _ (t9 _ _ (t8 _ _ upd_same)))), upd_same, (by show 8 + 4 ≤ sizeLine; decide), fun l4 k4 => ?_⟩

    refine q _ l4 [e0, e1, e2, e3, e4, e5, e6, e7, e8, e9, e10, e11] (same_upd (same_upd s11 k3) k4) ((same_upd s11 k3).free k4) rfl (fun i e hi => ?_) upd_same

    match i, hi with
    | 0, hi => exact Option.some.inj hi ▸ ⟨by decide, x0.same (same_upd (same_upd (((((same_upd (same_upd (((((same_upd ((((Same.refl _).trans t1).trans t2).trans t3) k0).trans t4).trans t5).trans t6).trans t7) k1) k2).trans t8).trans t9).trans t10).trans t11) k3) k4)⟩
    | 1, hi => exact Option.some.inj hi ▸ ⟨by decide, x1.same (same_upd (same_upd (((((same_upd (same_upd (((((same_upd (((Same.refl _).trans t2).trans t3) k0).trans t4).trans t5).trans t6).trans t7) k1) k2).trans t8).trans t9).trans t10).trans t11) k3) k4)⟩
    | 2, hi => exact Option.some.inj hi ▸ ⟨by decide, x2.same (same_upd (same_upd (((((same_upd (same_upd (((((same_upd ((Same.refl _).trans t3) k0).trans t4).trans t5).trans t6).trans t7) k1) k2).trans t8).trans t9).trans t10).trans t11) k3) k4)⟩
    | 3, hi => exact Option.some.inj hi ▸ ⟨by decide, x3.same (same_upd (same_upd (((((same_upd (same_upd (((((same_upd (Same.refl _) k0).trans t4).trans t5).trans t6).trans t7) k1) k2).trans t8).trans t9).trans t10).trans t11) k3) k4)⟩
    | 4, hi => exact Option.some.inj hi ▸ ⟨by decide, x4.same (same_upd (same_upd (((((same_upd (same_upd ((((Same.refl _).trans t5).trans t6).trans t7) k1) k2).trans t8).trans t9).trans t10).trans t11) k3) k4)⟩
    | 5, hi => exact Option.some.inj hi ▸ ⟨by decide, x5.same (same_upd (same_upd (((((same_upd (same_upd (((Same.refl _).trans t6).trans t7) k1) k2).trans t8).trans t9).trans t10).trans t11) k3) k4)⟩
    | 6, hi => exact Option.some.inj hi ▸ ⟨by decide, x6.same (same_upd (same_upd (((((same_upd (same_upd ((Same.refl _).trans t7) k1) k2).trans t8).trans t9).trans t10).trans t11) k3) k4)⟩
    | 7, hi => exact Option.some.inj hi ▸ ⟨by decide, x7.same (same_upd (same_upd (((((same_upd (same_upd (Same.refl _) k1) k2).trans t8).trans t9).trans t10).trans t11) k3) k4)⟩
    | 8, hi => exact Option.some.inj hi ▸ ⟨by decide, x8.same (same_upd (same_upd ((((Same.refl _).trans t9).trans t10).trans t11) k3) k4)⟩
    | 9, hi => exact Option.some.inj hi ▸ ⟨by decide, x9.same (same_upd (same_upd (((Same.refl _).trans t10).trans t11) k3) k4)⟩
    | 10, hi => exact Option.some.inj hi ▸ ⟨by decide, x10.same (same_upd (same_upd ((Same.refl _).trans t11) k3) k4)⟩
    | 11, hi => exact Option.some.inj hi ▸ ⟨by decide, x11.same (same_upd (same_upd (Same.refl _) k3) k4)⟩
    | n + 12, hi => nomatch hi
end
end Lp
set_option Elab.async false
set_option linter.all false
set_option maxRecDepth 100000
set_option maxHeartbeats 8000000
namespace Lp
open PySem PySem.Spec PyProof.Rows L2
/-- the facts of the whole text -/
structure T3L (K : PySem.W.Frag) (mg : Str → Option Value) (cs : Cl) (cP fD fR fP fK fB : Addr) : Prop where
  t : T3 K mg cs cP
  mD : mg "_law_draws" = some (.ref fD)
  mR : mg "_law_draw" = some (.ref fR)
  mPl : mg "_law_plain_ones" = some (.ref fP)
  mKi : mg "_law_kinds" = some (.ref fK)
  mBa : mg "_law_bases" = some (.ref fB)
section
variable {P : Program} {w : World} {K : PySem.W.Frag} {mg : Str → Option Value} {base : Heap} {cs : Cl} {cP fD fR fP fK fB fL a : Addr} {fdD fdR fdP fdK fdB : FuncData} {s₁ : Shared} {H : Hp} {cdv : Value} {ns : List Int}
theorem shows_dat {K : PySem.W.Frag} {H : Hp} {b : Addr} {d : PyData} (h : Dp K H (.ref b) d) (hs : d.showable = true := by decide +kernel) (hd : d.hasDict = false := by decide +kernel) (hz : d.shown.length ≤ sizeLine := by decide +kernel) (hp : d.depth ≤ 64 := by decide +kernel) (hl : SeqAt.shaped (.list ((List.replicate 4 d.shown).map PyData.str)) = true := by decide +kernel) : ∃ z, Shows K H (.ref b) z ∧ SeqAt.shaped (.list ((List.replicate 4 z).map PyData.str)) = true := ⟨_, .dat b d h hs hd hz hp, hl⟩
theorem menu_pick {K : PySem.W.Frag} {H : Hp} {L t1 l1 p3 l2 t2 : Addr} {Q : VK} {n : Nat} (fL : H L = some (.lst [.non, .int 5, .str "a", .ref t1, .ref l1, .ref p3, .int (10 ^ (30 : Int).toNat), .bl true, .ref t2])) (f1 : H t1 = some (.tup [.str "a", .int 1])) (f2 : H l1 = some (.lst [.int 1]))
    (f3 : H p3 = some (.dK (mergeK [] [(.inr "a", .int 1)]))) (f4 : H l2 = some (.lst [])) (f5 : H t2 = some (.tup [.non, .ref l2])) (hn : n < 9) (q : ∀ (x : V) (z : Str), Shows K H x z → SeqAt.shaped (.list ((List.replicate 4 z).map PyData.str)) = true → Q x H) : rIxL K (.ref L) (.int (n : Int)) H Q := by
  have go : ∃ (x : V) (z : Str), ([.non, .int 5, .str "a", .ref t1, .ref l1, .ref p3, .int (10 ^ (30 : Int).toNat), .bl true, .ref t2] : List V)[n]? = some x ∧ Shows K H x z ∧ SeqAt.shaped (.list ((List.replicate 4 z).map PyData.str)) = true := by
    match n, hn with
    | 0, _ => exact ⟨_, _, rfl, .non, by decide +kernel⟩
    | 1, _ => exact ⟨_, _, rfl, .int 5 (by decide), by decide +kernel⟩
    | 2, _ => exact ⟨_, _, rfl, .str "a" (by decide +kernel), by decide +kernel⟩
    | 3, _ => exact ⟨_, (shows_dat (d := .tuple [.str "a", .int 1]) (.tup (SqT.of f1) (.cons (.str _) (.cons (.int _) .nil)))).imp fun z h => ⟨rfl, h⟩⟩
    | 4, _ => exact ⟨_, (shows_dat (d := .list [.int 1]) (.lst (SqL.of f2) (.cons (.int _) .nil))).imp fun z h => ⟨rfl, h⟩⟩
    | 5, _ => exact ⟨_, _, rfl, .dic p3 [("a", 1)] f3 (by decide +kernel) (by decide +kernel), by decide +kernel⟩
    | 6, _ => exact ⟨_, _, rfl, .int _ (by decide), by decide +kernel⟩
    | 7, _ => exact ⟨_, _, rfl, .bl true, by decide +kernel⟩
    | 8, _ => exact ⟨_, (shows_dat (d := .tuple [.none, .list []]) (.tup (SqT.of f5) (.cons .non (.cons (.lst (SqL.of f4) .nil) .nil)))).imp fun z h => ⟨rfl, h⟩⟩
  obtain ⟨x, z, hx, hs, hl⟩ := go
  exact ⟨L, _, _, x, rfl, rfl, SqL.of fL, atI_nat hx, q x z hs hl⟩
def bas (r : Nat) : List Bool := [decide (12 + r < 12), decide (12 + r < 12), decide (12 + r = 12), decide (12 + r = 12 ∨ 12 + r = 13), decide (12 + r = 14), decide (12 + r = 15)]
/-- a heap of which five things are known, by a name -/
theorem duel {HD HE : Hp} {b1 b2 b4 b5 b7 D : Addr} {o1 o2 o4 o5 o7 : HO} {Q : Hp → Prop} (s : Same HD HE) (f1 : HE b1 = some o1) (f2 : HE b2 = some o2) (f4 : HE b4 = some o4) (f5 : HE b5 = some o5) (f7 : HE b7 = some o7) (n : HE D = none)
    (q : ∀ H : Hp, Same HD H → H b1 = some o1 → H b2 = some o2 → H b4 = some o4 → H b5 = some o5 → H b7 = some o7 → H D = none → Q H) : Q HE := q HE s f1 f2 f4 f5 f7 n
theorem scL : FnScope ["_law_script", "_law_k", "_law_draws_here", "_law_thing", "_law_some", "_law_at", "_law_one", "_law_more", "_law_due", "_law_held", "_law_place"] ["_law_script"] (defScope sLaw) := ⟨rfl, rfl, rfl, by decide +kernel, rfl, by decide +kernel, by decide +kernel⟩
theorem law_body (T : T3L K mg cs cP fD fR fP fK fB) (FD : Fun K "_law_draws" "_law_draws" sDraws fD fdD) (bD : Binds K fdD ["_law_script", "_law_k"] []) (FR : Fun K "_law_draw" "_law_draw" sDraw fR fdR) (bR : Binds K fdR ["_law_draws_here", "_law_upto"] [])
    (FP : Fun K "_law_plain_ones" "_law_plain_ones" sPlain fP fdP) (bP : Binds K fdP ["_law_thing"] []) (FK : Fun K "_law_kinds" "_law_kinds" sKinds fK fdK) (bK : Binds K fdK ["_law_error"] []) (FB : Fun K "_law_bases" "_law_bases" sBases fB fdB) (bB : Binds K fdB ["_law_error"] [])
    (hM : ∀ (i : Nat), 12 ≤ i → i < 16 → ∀ env : Env, Makes P w K (callerA.deeper env) (cs i) (fld i)) (hM2 : ∀ (i : Nat), i < 12 → ∀ env env2 : Env, Makes P w K ((callerA.deeper env).deeper env2) (cs i) (fld i))
    (hS : SqL K H a (ns.map V.int)) (hn : ns.length ≤ 63) :
    ∃ t, PSs (cxOf CX0 P w K mg base ["_law_script", "_law_k", "_law_draws_here", "_law_thing", "_law_some", "_law_at", "_law_one", "_law_more", "_law_due", "_law_held", "_law_place"] "law" (defScope sLaw) fL cdv callerA [] s₁ H E0).nox (defBody sLaw) t ∧ t { nx := fun _ _ => V.non = V.bl true, rt := fun v _ => v = .bl true } (start ["_law_script", "_law_k", "_law_draws_here", "_law_thing", "_law_some", "_law_at", "_law_one", "_law_more", "_law_due", "_law_held", "_law_place"] [.ref a]) H := by
  have GD : FnOk P w K mg base CX0 1 fD fdD ["_law_script", "_law_k"] (spDraws K) := ok_draws FD T.t.bi
  have GR : FnOk P w K mg base CX0 1 fR fdR ["_law_draws_here", "_law_upto"] spDraw := ok_draw FR T.t.bi
  have GK : FnOk P w K mg base CX0 1 fK fdK ["_law_error"] (spKinds cs) := ok_kinds FK T.t
  have GB : FnOk P w K mg base CX0 1 fB fdB ["_law_error"] (spBases cs) := ok_bases FB T.t
  have hr1 : Room 1 (callerA.deeper (envOfC "law" (defScope sLaw) s₁.heap.objs.size fL cdv)) := ⟨rfl, (by show callerA.depth + 1 + 3 * 1 + 5 < recursionLimit; decide), (by show callerA.units + 3 + 16 * 1 + 200 < cLine; decide)⟩
  have hg : (callerA.deeper (envOfC "law" (defScope sLaw) s₁.heap.objs.size fL cdv)).guards = some [] := rfl
  have hu : (callerA.deeper (envOfC "law" (defScope sLaw) s₁.heap.objs.size fL cdv)).units + 100 < cLine := (by show callerA.units + 3 + 100 < cLine; decide)
  have CP := plain_at (X := (cxOf CX0 P w K mg base ["_law_script", "_law_k", "_law_draws_here", "_law_thing", "_law_some", "_law_at", "_law_one", "_law_more", "_law_due", "_law_held", "_law_place"] "law" (defScope sLaw) fL cdv callerA [] s₁ H E0).nox) (cs := cs) (cP := cP) FP bP T.t hr1 fun i hi env2 => hM2 i hi _ env2
  replace hM := fun i h1 h2 => hM i h1 h2 (envOfC "law" (defScope sLaw) s₁.heap.objs.size fL cdv)
  refine ⟨_, (pss_cons (ps_for PassesOwn.never rfl (pi_range1 rfl T.t.nrange (pa_cons (pe_callB (call_max2 rfl) (by rfl) T.t.nmax (by decide +kernel) (pa_cons pe_int (pa_cons (pe_callB (call_min2 rfl) (by rfl) T.t.nmin (by decide +kernel) (pa_cons pe_int (pa_cons (pe_callB call_len_seq (by rfl) T.t.bi.len PySem.boot_len (pa_cons (pv 0) pa_nil)) pa_nil))) pa_nil))) pa_nil)) (pg_name (i := 1) scL.nd rfl (Or.inl rfl)) (pss_cons (ps_set (i := 2) scL.nd rfl (Or.inl rfl) (pe_call GD hr1 rfl T.mD FD.kp bD .nil pass0 (pa_cons (pv 0) (pa_cons (pv 1) pa_nil))))
        (pss_cons (ps_set (i := 3) scL.nd rfl (Or.inl rfl) (pe_ix ix_list (pe_lst (pa_cons pe_non (pa_cons pe_int (pa_cons pe_str (pa_cons (pe_tup (pa_cons pe_str (pa_cons pe_int pa_nil))) (pa_cons (pe_lst (pa_cons pe_int pa_nil)) (pa_cons (pe_disp (pps_cons pe_str pe_int pps_nil) (by rfl) (by rfl) (fun z => by cases z) (by decide)) (pa_cons (pe_op op_pow pe_int pe_int) (pa_cons pe_bl (pa_cons (pe_tup (pa_cons pe_non (pa_cons (pe_lst pa_nil) pa_nil))) pa_nil)))))))))) (pe_call GR hr1 rfl T.mR FR.kp bR .nil pass0 (pa_cons (pv 2) (pa_cons pe_int pa_nil))) (fun _ _ => rfl)))
        (pss_cons (ps_set (i := 4) scL.nd rfl (Or.inl rfl) (pe_callF CP rfl T.mPl FP.kp (pa_cons (pv 3) pa_nil)))
        (pss_cons (ps_for PassesOwn.never rfl (pi_enum rfl T.t.nenumerate (pa_cons (pv 4) pa_nil)) (pg_tup (by rfl) (pgs_cons (pg_name (i := 5) scL.nd rfl (Or.inr rfl)) (pgs_cons (pg_name (i := 6) scL.nd rfl (Or.inl rfl)) pgs_nil))) (pss_cons (ps_if (PW.pt (pw_or (pt_cmpR op_ne (pe_callB (id := "repr") (call_reprK (K := K) rfl rfl hg hu) (by rfl) T.t.nrepr (by decide +kernel) (pa_cons (pe_ef (pv 6) rfl) pa_nil)) (pe_callB (id := "repr") (call_reprK (K := K) rfl rfl hg hu) (by rfl) T.t.nrepr (by decide +kernel) (pa_cons (pv 3) pa_nil)) (nomark _)) (pw_or1 (pt_cmpR (op_neD hr1.units) (pe_call GK hr1 rfl T.mKi FK.kp bK .nil pass0 (pa_cons (pv 6) pa_nil)) (pe_lc (own := [("_law_place", 10)]) (g := gName 10) (tt := tYes) rfl scL.nd (pi_range1 rfl T.t.nrange (pa_cons pe_int pa_nil)) (blkOk_by (N := ["_law_script", "_law_k", "_law_draws_here", "_law_thing", "_law_some", "_law_at", "_law_one", "_law_more", "_law_due", "_law_held", "_law_place"]) (sc := (defScope sLaw)) (by decide +kernel)) (fun _ _ _ _ _ => pg_name (i := 10) scL.nd rfl (Or.inl rfl)) (fun _ _ _ _ _ => pts_nil) (fun _ _ _ _ _ => (pe_cmpR op_eq (pv 10) (pv 5) (nomark _)))) (nomark _))))) (pss_one (ps_ret pe_bl)) pss_nil)
        (pss_one (ps_if (pt_cmpR (op_neD hr1.units) (pe_call GB hr1 rfl T.mBa FB.kp bB .nil pass0 (pa_cons (pv 6) pa_nil)) (pe_lst (pa_cons pe_bl (pa_cons pe_bl (pa_cons pe_bl (pa_cons pe_bl (pa_cons pe_bl (pa_cons pe_bl pa_nil))))))) (nomark _)) (pss_one (ps_ret pe_bl)) pss_nil))))
        (pss_cons (ps_set (i := 7) scL.nd rfl (Or.inl rfl) (pe_lst (pa_cons (pe_callF (call_mk (hM 12 (by decide) (by decide))) rfl T.t.m12 (T.t.kp 12 (by decide)) (pa_cons (pv 3) pa_nil)) (pa_cons (pe_callF (call_mk (hM 13 (by decide) (by decide))) rfl T.t.m13 (T.t.kp 13 (by decide)) (pa_cons (pv 3) pa_nil)) (pa_cons (pe_callF (call_mk (hM 14 (by decide) (by decide))) rfl T.t.m14 (T.t.kp 14 (by decide)) (pa_cons (pv 3) pa_nil)) (pa_cons (pe_callF (call_mk (hM 15 (by decide) (by decide))) rfl T.t.m15 (T.t.kp 15 (by decide)) (pa_cons (pv 3) pa_nil)) pa_nil))))))
        (pss_cons (ps_if (pt_cmpR (op_neD hr1.units) (pe_lc (own := [("_law_one", 6)]) (g := gName 6) (tt := tYes) rfl scL.nd (pi_list (pv 7)) (blkOk_by (N := ["_law_script", "_law_k", "_law_draws_here", "_law_thing", "_law_some", "_law_at", "_law_one", "_law_more", "_law_due", "_law_held", "_law_place"]) (sc := (defScope sLaw)) (by decide +kernel)) (fun _ _ _ _ _ => pg_name (i := 6) scL.nd rfl (Or.inl rfl)) (fun _ _ _ _ _ => pts_nil) (fun _ _ _ _ _ => (pe_call GK hr1 rfl T.mKi FK.kp bK .nil pass0 (pa_cons (pv 6) pa_nil)))) (pe_lc (own := [("_law_at", 5)]) (g := gName 5) (tt := tYes) rfl scL.nd (pi_range1 rfl T.t.nrange (pa_cons pe_int pa_nil)) (blkOk_by (N := ["_law_script", "_law_k", "_law_draws_here", "_law_thing", "_law_some", "_law_at", "_law_one", "_law_more", "_law_due", "_law_held", "_law_place"]) (sc := (defScope sLaw)) (by decide +kernel)) (fun _ _ _ _ _ => pg_name (i := 5) scL.nd rfl (Or.inr rfl)) (fun _ _ _ _ _ => pts_nil) (fun _ _ _ _ _ => (pe_lc (own := [("_law_place", 10)]) (g := gName 10) (tt := tYes) rfl scL.nd (pi_range1 rfl T.t.nrange (pa_cons pe_int pa_nil)) (blkOk_by (N := ["_law_script", "_law_k", "_law_draws_here", "_law_thing", "_law_some", "_law_at", "_law_one", "_law_more", "_law_due", "_law_held", "_law_place"]) (by rfl)) (fun _ _ _ _ _ => pg_name (i := 10) scL.nd rfl (Or.inl rfl)) (fun _ _ _ _ _ => pts_nil) (fun _ _ _ _ _ => (pe_cmpR op_eq (pv 10) (pe_op op_add pe_int (pv 5)) (nomark _)))))) (nomark _)) (pss_one (ps_ret pe_bl)) pss_nil)
        (pss_cons (ps_set (i := 8) scL.nd rfl (Or.inl rfl) (pe_lst (pa_cons (pe_lst (pa_cons pe_bl (pa_cons pe_bl (pa_cons pe_bl (pa_cons pe_bl (pa_cons pe_bl (pa_cons pe_bl pa_nil))))))) (pa_cons (pe_lst (pa_cons pe_bl (pa_cons pe_bl (pa_cons pe_bl (pa_cons pe_bl (pa_cons pe_bl (pa_cons pe_bl pa_nil))))))) pa_nil))))
        (pss_cons (ps_set (i := 8) scL.nd rfl (Or.inl rfl) (pe_op op_cat (pv 8) (pe_lst (pa_cons (pe_lst (pa_cons pe_bl (pa_cons pe_bl (pa_cons pe_bl (pa_cons pe_bl (pa_cons pe_bl (pa_cons pe_bl pa_nil))))))) (pa_cons (pe_lst (pa_cons pe_bl (pa_cons pe_bl (pa_cons pe_bl (pa_cons pe_bl (pa_cons pe_bl (pa_cons pe_bl pa_nil))))))) pa_nil)))))
        (pss_cons (ps_if (pt_cmpR (op_neD hr1.units) (pe_lc (own := [("_law_one", 6)]) (g := gName 6) (tt := tYes) rfl scL.nd (pi_list (pv 7)) (blkOk_by (N := ["_law_script", "_law_k", "_law_draws_here", "_law_thing", "_law_some", "_law_at", "_law_one", "_law_more", "_law_due", "_law_held", "_law_place"]) (sc := (defScope sLaw)) (by decide +kernel)) (fun _ _ _ _ _ => pg_name (i := 6) scL.nd rfl (Or.inl rfl)) (fun _ _ _ _ _ => pts_nil) (fun _ _ _ _ _ => (pe_call GB hr1 rfl T.mBa FB.kp bB .nil pass0 (pa_cons (pv 6) pa_nil)))) (pv 8) (nomark _)) (pss_one (ps_ret pe_bl)) pss_nil)
        (pss_cons (ps_set (i := 9) scL.nd rfl (Or.inl rfl) (pe_lst (pa_cons (pe_ef (pe_ix ix_list (pv 7) pe_int (fun _ _ => rfl)) rfl) (pa_cons (pe_ef (pe_ix ix_list (pv 7) pe_int (fun _ _ => rfl)) rfl) (pa_cons (pe_ef (pe_ix ix_list (pv 7) pe_int (fun _ _ => rfl)) rfl) (pa_cons (pe_ef (pe_ix ix_list (pv 7) pe_int (fun _ _ => rfl)) rfl) pa_nil))))))
        (pss_one (ps_if (pt_cmpR (op_neD hr1.units) (pe_lc (own := [("_law_one", 6)]) (g := gName 6) (tt := tYes) rfl scL.nd (pi_list (pv 9)) (blkOk_by (N := ["_law_script", "_law_k", "_law_draws_here", "_law_thing", "_law_some", "_law_at", "_law_one", "_law_more", "_law_due", "_law_held", "_law_place"]) (sc := (defScope sLaw)) (by decide +kernel)) (fun _ _ _ _ _ => pg_name (i := 6) scL.nd rfl (Or.inl rfl)) (fun _ _ _ _ _ => pts_nil) (fun _ _ _ _ _ => (pe_callB (id := "repr") (call_reprK (K := K) rfl rfl hg hu) (by rfl) T.t.nrepr (by decide +kernel) (pa_cons (pv 6) pa_nil)))) (pe_op op_rep (pe_lst (pa_cons (pe_callB (id := "repr") (call_reprK (K := K) rfl rfl hg hu) (by rfl) T.t.nrepr (by decide +kernel) (pa_cons (pv 3) pa_nil)) pa_nil)) pe_int) (nomark _)) (pss_one (ps_ret pe_bl)) pss_nil)))))))))))))
        (pss_one (ps_ret pe_bl))), ?_⟩
  obtain ⟨m, hm⟩ : ∃ m : Int, m = (if (if ((ns.map V.int).length : Int) < 20 then ((ns.map V.int).length : Int) else 20) > 1 then (if ((ns.map V.int).length : Int) < 20 then ((ns.map V.int).length : Int) else 20) else 1) := ⟨_, rfl⟩
  have hb : 1 ≤ m ∧ m ≤ 20 := by
    rw [hm]
    split <;> split <;> omega
  refine ⟨_, rfl, a, _, rfl, .inl hS, _, _, rfl, _, _, rfl, ?_⟩
  rw [← hm]
  refine ⟨m, rfl, by omega, by omega, ?_⟩
  refine for_range (fun i σ H' => ∃ o1 o2 o3 o4 o5 o6 o7 o8 o9 o10 : Option V, σ = [some (.ref a), o1, o2, o3, o4, o5, o6, o7, o8, o9, o10] ∧ Same H H') ⟨none, none, none, none, none, none, none, none, none, none, rfl, Same.refl H⟩ ?_ ?_
  case refine_2 =>
    rintro σ H' ⟨o1, o2, o3, o4, o5, o6, o7, o8, o9, o10, rfl, s⟩
    rfl
  rintro i σ H1 hi ⟨o1, o2, o3, o4, o5, o6, o7, o8, o9, o10, rfl, s0⟩
  have hi20 : i < 20 := by omega
  -- the draws
  refine ⟨_, rfl, _, rfl, a, ns, _, rfl, s0.seq hS, hn, by omega, by omega, fun H2 d s2 n2 t2 => ?_⟩
  obtain ⟨c, z, hd, c0, z0, z1⟩ := t2
  -- the menu
  refine ⟨(by show 2 ≤ sizeLine; decide), fun t1 k1 => ⟨(by show 1 ≤ sizeLine; decide), fun l1 k2 => fun p3 k3 => ⟨upd_same, [(.inr "a", .int 1)], rfl, (by decide), ?_⟩⟩⟩
  refine ⟨_, _, rfl, rfl, ⟨by decide, by decide, by decide⟩, Nat.zero_le _, fun l2 k4 => ⟨(by show 2 ≤ sizeLine; decide), fun t2 k5 => ⟨(by show 9 ≤ sizeLine; decide), fun L k6 => ?_⟩⟩⟩

  refine ⟨_, rfl, d, 9, rfl, ⟨c, z, (keep (keep (keep (keepd (keep (keep (keep hd k1) k2) k3) (ne_of_none (keep (keep hd k1) k2) k3)) k4) k5) k6), c0, z0, z1⟩, by decide, by decide, fun v c' z' v0 v1 _ _ _ => ?_⟩
  obtain ⟨n, rfl⟩ : ∃ n : Nat, v = (n : Int) := ⟨v.toNat, by omega⟩
  have hn9 : n < 9 := by omega
  refine menu_pick (keepd upd_same (ne_fresh (keep (keep (keepd (keep (keep (keep hd k1) k2) k3) (ne_of_none (keep (keep hd k1) k2) k3)) k4) k5) k6)) (keepd (keep (keep (keep (keepd (keep (keep upd_same k2) k3) (ne_of_none (keep upd_same k2) k3)) k4) k5) k6) (ne_fresh hd k1)) (keepd (keep (keep (keep (keepd (keep upd_same k3) (ne_of_none upd_same k3)) k4) k5) k6) (ne_fresh (keep hd k1) k2)) (keepd (keep (keep (keep upd_same k4) k5) k6) (ne_fresh (keep (keep hd k1) k2) k3)) (keepd (keep (keep upd_same k5) k6) (ne_fresh (keepd (keep (keep (keep hd k1) k2) k3) (ne_of_none (keep (keep hd k1) k2) k3)) k4)) (keepd (keep upd_same k6) (ne_fresh (keep (keepd (keep (keep (keep hd k1) k2) k3) (ne_of_none (keep (keep hd k1) k2) k3)) k4) k5)) hn9 (fun x zt hz hsh => ?_)
  refine ⟨_, rfl, x, rfl, fun H4 ps es s4 n4 el ee f4 => ?_⟩
  have hz4 : Shows K H4 x zt := hz.same s4
  have hd4 : H4 d ≠ none := by
    rw [s4 _ _ upd_same]
    exact fun q => nomatch q
  have np3 : H1 p3 = none := (same_upd (same_upd s2 k1) k2).free k3
  have s14 : Same H H4 := (s0.trans (Same.trans (same_set (same_upd (same_upd (same_upd (same_set (same_upd (same_upd (same_upd s2 k1) k2) k3) np3) k4) k5) k6) n2) s4))
  refine ⟨_, rfl, ps, _, rfl, SqL.of f4, ?_⟩
  refine for_it (walk_enum (xs := es.map V.ref)) (fun j σ H' => ∃ p5 p6 : Option V, σ = [some (.ref a), some (.int (0 + (i : Int))), some (.ref d), some x, some (.ref ps), p5, p6, o7, o8, o9, o10] ∧ Same H4 H') ⟨_, _, rfl, Same.refl _⟩ (fun j σ H' _ ⟨_, _, _, s⟩ => s.seq (SqL.of f4)) ?_ ?_
  · rintro j y σ H5 H6 hj ⟨p5, p6, rfl, s5⟩ ⟨T6, y1, y2, rfl, n6, rfl, ey1, ey2⟩
    cases ey1
    obtain ⟨e, he, rfl⟩ : ∃ e, es[j]? = some e ∧ y2 = V.ref e := by
      have ey2 : (es.map V.ref)[j]? = some y2 := ey2
      rw [List.getElem?_map] at ey2
      cases q : es[j]? with
      | none => rw [q] at ey2; cases ey2
      | some e => rw [q] at ey2; exact ⟨e, rfl, (Option.some.inj ey2).symm⟩
    have hE := (ee j e he).same (same_upd (o := .tup [.int (j : Nat), .ref e]) s5 n6)
    have hj12 : j < 12 := by
      have q := (List.getElem?_eq_some_iff.mp he).1
      omega
    have fv : fld j = "value" := by
      unfold fld
      rw [if_pos (by omega)]
    refine ⟨T6, _, rfl, SqT.of upd_same, rfl, _, _, rfl, _, _, rfl, rfl, ?_⟩
    have hE2 := hE.2
    rw [fv] at hE2
    have hF := T.t.ff j (by omega)
    rw [fv] at hF
    refine ⟨_, rfl, e, cs j, x, rfl, hE2, T.t.ex j (by omega), hF, x, zt, rfl, hz4.same (same_upd s5 n6), ?_⟩
    refine ⟨_, rfl, x, zt, rfl, hz4.same (same_upd s5 n6), rfl, _, rfl, ?_⟩
    refine iteNS rfl ?_
    refine ⟨_, rfl, e, j, x, rfl, hE, fun H7 l7 s7 n7 f7 => ?_⟩
    refine ⟨16, rfl, by decide, by decide, fun D nD => ?_⟩
    refine lc_range (lo := 0) (n := 16) (fun q H' => H' D = some (.lst ((List.range q).map fun r => V.bl (decide (j = r)))) ∧ Same H7 H') ⟨upd_same, same_upd (Same.refl _) nD⟩ ?_ ?_
    · rintro q H8 hq ⟨f8, s8⟩
      refine ⟨rfl, ?_⟩
      dsimp only [tYes]
      refine iteT ?_
      refine ⟨_, rfl, _, rfl, rfl, ?_⟩
      refine ⟨_, f8, (by rw [List.length_map, List.length_range]; exact Nat.lt_trans hq (by decide)), ?_, ?_⟩
      · rw [upd_same, dec_int_nat (a := q) (b := j) (by omega) rfl, List.range_succ, List.map_append]
        rfl
      · exact same_set s8 nD
    · rintro H8 ⟨f8, s8⟩
      refine same_data (.list ((List.range 16).map fun r => PyData.bool (decide (j = r)))) (.lst (SqL.of (s8 _ _ f7)) ?_) (.lst (SqL.of f8) ?_) ?_ ?_
      · exact dp_bools ((List.range 16).map fun r => decide (j = r))
      · exact dp_bools ((List.range 16).map fun r => decide (j = r))
      · rfl
      refine ⟨_, rfl, ?_⟩
      refine iteF ?_
      refine ⟨_, rfl, e, j, x, rfl, hE.same (s7.trans s8), fun H9 l9 s9 n9 f9 => ?_⟩
      refine ⟨(by show 6 ≤ sizeLine; decide), fun l10 n10 => ?_⟩
      refine same_data (.list ([true, true, false, false, false, false].map PyData.bool)) (.lst (SqL.of (keep f9 n10)) ?_) (.lst (SqL.of upd_same) ?_) rfl ⟨_, rfl, iteF ?_⟩
      · have eb : basesOf j = [true, true, false, false, false, false].map V.bl := by
          have q : (decide (j < 12), decide (j = 12), decide (j = 12 ∨ j = 13), decide (j = 14), decide (j = 15)) = (true, false, false, false, false) := by
            rw [decide_eq_true hj12, decide_eq_false (by omega), decide_eq_false (by omega), decide_eq_false (by omega), decide_eq_false (by omega)]
          simp only [Prod.mk.injEq] at q
          unfold basesOf
          rw [q.1, q.2.1, q.2.2.1, q.2.2.2.1, q.2.2.2.2]
          rfl
        rw [eb]
        exact dp_bools _
      · exact dp_bools [true, true, false, false, false, false]
      exact ⟨_, _, rfl, ((((s5.trans (same_upd (Same.refl _) n6)).trans s7).trans s8).trans s9).trans (same_upd (Same.refl _) n10)⟩
  · rintro σ H5 ⟨p5, p6, rfl, s5⟩
    have hz5 : Shows K H5 x zt := hz4.same s5

    refine ⟨_, rfl, x, rfl, fun e12 H12 n12 t12 x12 => ?_⟩
    refine ⟨_, rfl, x, rfl, fun e13 H13 n13 t13 x13 => ?_⟩
    refine ⟨_, rfl, x, rfl, fun e14 H14 n14 t14 x14 => ?_⟩
    refine ⟨_, rfl, x, rfl, fun e15 H15 n15 t15 x15 => ?_⟩
    refine ⟨(by show 4 ≤ sizeLine; decide), fun l7 k7 => ?_⟩
    have f7 : (upd H15 l7 (.lst [.ref e12, .ref e13, .ref e14, .ref e15])) l7 = some (.lst ([e12, e13, e14, e15].map V.ref)) := upd_same
    have EX : ∀ (r : Nat) (e : Addr), [e12, e13, e14, e15][r]? = some e → Ex cs (upd H15 l7 (.lst [.ref e12, .ref e13, .ref e14, .ref e15])) e (12 + r) x := by
      intro r e h
      match r, h with
      | 0, h => exact Option.some.inj h ▸ ⟨by decide, x12.same (same_upd ((t13.trans t14).trans t15) k7)⟩
      | 1, h => exact Option.some.inj h ▸ ⟨by decide, x13.same (same_upd (t14.trans t15) k7)⟩
      | 2, h => exact Option.some.inj h ▸ ⟨by decide, x14.same (same_upd t15 k7)⟩
      | 3, h => exact Option.some.inj h ▸ ⟨by decide, x15.same (same_upd (Same.refl _) k7)⟩
      | n + 4, h => cases h
    have sB : Same H5 (upd H15 l7 (.lst [.ref e12, .ref e13, .ref e14, .ref e15])) := same_upd (((t12.trans t13).trans t14).trans t15) k7
    generalize upd H15 l7 (.lst [.ref e12, .ref e13, .ref e14, .ref e15]) = HB at f7 EX sB ⊢
    have hzB := hz5.same sB
    -- kinds of the four
    refine ⟨_, rfl, l7, rfl, ⟨_, SqL.of f7⟩, fun D1 nD1 => ?_⟩
    refine lc_list (K := K) (a := l7) (xs := [e12, e13, e14, e15].map V.ref) (fun q H' => ∃ ks : List Addr, ks.length = q ∧ H' D1 = some (.lst (ks.map V.ref)) ∧ (∀ (r : Nat) (k : Addr), ks[r]? = some k → k ≠ D1 ∧ H' k = some (.lst (kindsOf (12 + r)))) ∧ Same HB H')
      ⟨[], rfl, upd_same, (fun r k h => by simp at h), same_upd (Same.refl _) nD1⟩ (fun q H' _ ⟨_, _, _, _, sq⟩ => SqL.of (sq _ _ f7)) ?_ ?_
    · rintro q y H' hq ⟨ks, hk, fD, fk, sq⟩
      obtain ⟨e, he, rfl⟩ : ∃ e, [e12, e13, e14, e15][q]? = some e ∧ y = V.ref e := by
        rw [List.getElem?_map] at hq
        cases z : [e12, e13, e14, e15][q]? with
        | none => rw [z] at hq; cases hq
        | some e => rw [z] at hq; exact ⟨e, rfl, (Option.some.inj hq).symm⟩
      have hq4 : q < 4 := (List.getElem?_eq_some_iff.mp he).1
      refine ⟨rfl, ?_⟩
      dsimp only [tYes]
      refine iteT ?_
      refine ⟨_, rfl, e, 12 + q, x, rfl, (EX q e he).same sq, fun Hn k sn nk fk' => ?_⟩
      refine ⟨_, sn _ _ fD, (by rw [List.length_map, hk]; exact Nat.lt_trans hq4 (by decide)), ks ++ [k], by rw [List.length_append, hk]; rfl, ?_, push_refs fk sn fD nk (by rw [hk]; exact fk'), same_set (sq.trans sn) nD1⟩
      rw [upd_same, List.map_append]
      rfl
    rintro HC ⟨ks1, hk1, fD1, fk1, sC⟩
    -- the table
    refine ⟨4, rfl, by decide, by decide, fun D2 nD2 => ?_⟩
    refine lc_range (lo := 0) (n := 4) (fun q H' => ∃ ks : List Addr, ks.length = q ∧ H' D2 = some (.lst (ks.map V.ref)) ∧ (∀ (r : Nat) (k : Addr), ks[r]? = some k → k ≠ D2 ∧ H' k = some (.lst ((List.range 16).map fun p => V.bl (decide (12 + r = p))))) ∧ Same HC H')
      ⟨[], rfl, upd_same, (fun r k h => by simp at h), same_upd (Same.refl _) nD2⟩ ?_ ?_
    · rintro q H' hq ⟨ks, hk, fD, fk, sq⟩
      refine ⟨rfl, ?_⟩
      dsimp only [tYes]
      refine iteT ?_
      refine ⟨16, rfl, by decide, by decide, fun D3 nD3 => ?_⟩
      refine lc_range (lo := 0) (n := 16) (fun p H'' => H'' D3 = some (.lst ((List.range p).map fun r => V.bl (decide (12 + q = r)))) ∧ Same H' H'') ⟨upd_same, same_upd (Same.refl _) nD3⟩ ?_ ?_
      · rintro p H'' hp ⟨f8, s8⟩
        refine ⟨rfl, ?_⟩
        dsimp only [tYes]
        refine iteT ?_
        refine ⟨_, rfl, _, rfl, _, _, rfl, rfl, rfl, ?_⟩
        refine ⟨_, f8, (by rw [List.length_map, List.length_range]; exact Nat.lt_trans hp (by decide)), ?_, same_set s8 nD3⟩
        rw [upd_same, dec_int_nat (a := p) (b := 12 + q) (by omega) (by omega), List.range_succ, List.map_append]
        rfl
      · rintro H'' ⟨f8, s8⟩
        refine ⟨_, s8 _ _ fD, (by rw [List.length_map, hk]; exact Nat.lt_trans hq (by decide)), ks ++ [D3], by rw [List.length_append, hk]; rfl, ?_, push_refs fk s8 fD nD3 (by rw [hk]; exact f8), same_set (sq.trans s8) nD2⟩
        rw [upd_same, List.map_append]
        rfl
    rintro HD ⟨ks2, hk2, fD2, fk2, sD⟩
    refine same_data (.list ((List.range 4).map fun r => .list (((List.range 16).map fun j => decide (12 + r = j)).map PyData.bool))) (.lst (SqL.of (sD _ _ fD1)) (dp_lists 4 ks1 hk1 fun r k h => sD _ _ (fk1 r k h).2)) (.lst (SqL.of fD2) (dp_lists 4 ks2 hk2 fun r k h => (fk2 r k h).2)) rfl ⟨_, rfl, iteF ?_⟩
    have f7D : HD l7 = some (.lst ([e12, e13, e14, e15].map V.ref)) := sD _ _ (sC _ _ f7)
    replace EX := fun r e h => (EX r e h).same (sC.trans sD)
    have hzD := hzB.same (sC.trans sD)
    have sHD : Same H5 HD := (sB.trans sC).trans sD
    -- what is due
    refine ⟨(by show 6 ≤ sizeLine; decide), fun b1 m1 => ⟨(by show 6 ≤ sizeLine; decide), fun b2 m2 => ⟨(by show 2 ≤ sizeLine; decide), fun b3 m3 => ?_⟩⟩⟩
    refine ⟨_, rfl, (by show 6 ≤ sizeLine; decide), fun b4 m4 => ⟨(by show 6 ≤ sizeLine; decide), fun b5 m5 => ⟨(by show 2 ≤ sizeLine; decide), fun b6 m6 => ?_⟩⟩⟩
    refine ⟨b3, b6, _, _, rfl, rfl, (keep (keep (keep upd_same m4) m5) m6), upd_same, (by show 2 + 2 ≤ sizeLine; decide), fun b7 m7 => ?_⟩
    have sE : Same HD (upd (upd (upd (upd (upd (upd (upd HD b1 (.lst [.bl false, .bl false, .bl true, .bl true, .bl false, .bl false])) b2 (.lst [.bl false, .bl false, .bl false, .bl true, .bl false, .bl false])) b3 (.lst [.ref b1, .ref b2])) b4 (.lst [.bl false, .bl false, .bl false, .bl false, .bl true, .bl false])) b5 (.lst [.bl false, .bl false, .bl false, .bl false, .bl false, .bl true])) b6 (.lst [.ref b4, .ref b5])) b7 (.lst ([.ref b1, .ref b2] ++ [.ref b4, .ref b5]))) := (same_upd (same_upd (same_upd (same_upd (same_upd (same_upd (same_upd (Same.refl HD) m1) m2) m3) m4) m5) m6) m7)
    have g1 : (upd (upd (upd (upd (upd (upd (upd HD b1 (.lst [.bl false, .bl false, .bl true, .bl true, .bl false, .bl false])) b2 (.lst [.bl false, .bl false, .bl false, .bl true, .bl false, .bl false])) b3 (.lst [.ref b1, .ref b2])) b4 (.lst [.bl false, .bl false, .bl false, .bl false, .bl true, .bl false])) b5 (.lst [.bl false, .bl false, .bl false, .bl false, .bl false, .bl true])) b6 (.lst [.ref b4, .ref b5])) b7 (.lst ([.ref b1, .ref b2] ++ [.ref b4, .ref b5]))) b1 = some (.lst [.bl false, .bl false, .bl true, .bl true, .bl false, .bl false]) := (keep (keep (keep (keep (keep (keep upd_same m2) m3) m4) m5) m6) m7)
    have g2 : (upd (upd (upd (upd (upd (upd (upd HD b1 (.lst [.bl false, .bl false, .bl true, .bl true, .bl false, .bl false])) b2 (.lst [.bl false, .bl false, .bl false, .bl true, .bl false, .bl false])) b3 (.lst [.ref b1, .ref b2])) b4 (.lst [.bl false, .bl false, .bl false, .bl false, .bl true, .bl false])) b5 (.lst [.bl false, .bl false, .bl false, .bl false, .bl false, .bl true])) b6 (.lst [.ref b4, .ref b5])) b7 (.lst ([.ref b1, .ref b2] ++ [.ref b4, .ref b5]))) b2 = some (.lst [.bl false, .bl false, .bl false, .bl true, .bl false, .bl false]) := (keep (keep (keep (keep (keep upd_same m3) m4) m5) m6) m7)
    have g4 : (upd (upd (upd (upd (upd (upd (upd HD b1 (.lst [.bl false, .bl false, .bl true, .bl true, .bl false, .bl false])) b2 (.lst [.bl false, .bl false, .bl false, .bl true, .bl false, .bl false])) b3 (.lst [.ref b1, .ref b2])) b4 (.lst [.bl false, .bl false, .bl false, .bl false, .bl true, .bl false])) b5 (.lst [.bl false, .bl false, .bl false, .bl false, .bl false, .bl true])) b6 (.lst [.ref b4, .ref b5])) b7 (.lst ([.ref b1, .ref b2] ++ [.ref b4, .ref b5]))) b4 = some (.lst [.bl false, .bl false, .bl false, .bl false, .bl true, .bl false]) := (keep (keep (keep upd_same m5) m6) m7)
    have g5 : (upd (upd (upd (upd (upd (upd (upd HD b1 (.lst [.bl false, .bl false, .bl true, .bl true, .bl false, .bl false])) b2 (.lst [.bl false, .bl false, .bl false, .bl true, .bl false, .bl false])) b3 (.lst [.ref b1, .ref b2])) b4 (.lst [.bl false, .bl false, .bl false, .bl false, .bl true, .bl false])) b5 (.lst [.bl false, .bl false, .bl false, .bl false, .bl false, .bl true])) b6 (.lst [.ref b4, .ref b5])) b7 (.lst ([.ref b1, .ref b2] ++ [.ref b4, .ref b5]))) b5 = some (.lst [.bl false, .bl false, .bl false, .bl false, .bl false, .bl true]) := (keep (keep upd_same m6) m7)
    have g7 : (upd (upd (upd (upd (upd (upd (upd HD b1 (.lst [.bl false, .bl false, .bl true, .bl true, .bl false, .bl false])) b2 (.lst [.bl false, .bl false, .bl false, .bl true, .bl false, .bl false])) b3 (.lst [.ref b1, .ref b2])) b4 (.lst [.bl false, .bl false, .bl false, .bl false, .bl true, .bl false])) b5 (.lst [.bl false, .bl false, .bl false, .bl false, .bl false, .bl true])) b6 (.lst [.ref b4, .ref b5])) b7 (.lst ([.ref b1, .ref b2] ++ [.ref b4, .ref b5]))) b7 = some (.lst ([.ref b1, .ref b2] ++ [.ref b4, .ref b5])) := upd_same
    generalize (upd (upd (upd (upd (upd (upd (upd HD b1 (.lst [.bl false, .bl false, .bl true, .bl true, .bl false, .bl false])) b2 (.lst [.bl false, .bl false, .bl false, .bl true, .bl false, .bl false])) b3 (.lst [.ref b1, .ref b2])) b4 (.lst [.bl false, .bl false, .bl false, .bl false, .bl true, .bl false])) b5 (.lst [.bl false, .bl false, .bl false, .bl false, .bl false, .bl true])) b6 (.lst [.ref b4, .ref b5])) b7 (.lst ([.ref b1, .ref b2] ++ [.ref b4, .ref b5]))) = HE at sE g1 g2 g4 g5 g7 ⊢
    refine ⟨_, rfl, l7, rfl, ⟨_, SqL.of (sE _ _ f7D)⟩, fun D4 nD4 => ?_⟩
    refine lc_list (K := K) (a := l7) (xs := [e12, e13, e14, e15].map V.ref) (fun q H' => ∃ ks : List Addr, ks.length = q ∧ H' D4 = some (.lst (ks.map V.ref)) ∧ (∀ (r : Nat) (k : Addr), ks[r]? = some k → k ≠ D4 ∧ H' k = some (.lst (basesOf (12 + r)))) ∧ Same HE H')
      ⟨[], rfl, upd_same, (fun r k h => by simp at h), same_upd (Same.refl _) nD4⟩ (fun q H' _ ⟨_, _, _, _, sq⟩ => SqL.of (sq _ _ (sE _ _ f7D))) ?_ ?_
    · rintro q y H' hq ⟨ks, hk, fD, fk, sq⟩
      obtain ⟨e, he, rfl⟩ : ∃ e, [e12, e13, e14, e15][q]? = some e ∧ y = V.ref e := by
        rw [List.getElem?_map] at hq
        cases z : [e12, e13, e14, e15][q]? with
        | none => rw [z] at hq; cases hq
        | some e => rw [z] at hq; exact ⟨e, rfl, (Option.some.inj hq).symm⟩
      have hq4 : q < 4 := (List.getElem?_eq_some_iff.mp he).1
      refine ⟨rfl, ?_⟩
      dsimp only [tYes]
      refine iteT ?_
      refine ⟨_, rfl, e, 12 + q, x, rfl, (EX q e he).same (sE.trans sq), fun Hn k sn nk fk' => ?_⟩
      refine ⟨_, sn _ _ fD, (by rw [List.length_map, hk]; exact Nat.lt_trans hq4 (by decide)), ks ++ [k], by rw [List.length_append, hk]; rfl, ?_, push_refs fk sn fD nk (by rw [hk]; exact fk'), same_set (sq.trans sn) nD4⟩
      rw [upd_same, List.map_append]
      rfl
    rintro HF ⟨ks4, hk4, fD4, fk4, sF⟩
    refine ⟨_, rfl, same_data (.list ((List.range 4).map fun r => .list ((bas r).map PyData.bool))) (.lst (SqL.of fD4) (dp_lists 4 ks4 hk4 fun r k h => (fk4 r k h).2)) (.lst (SqL.of (sF _ _ g7)) (dp_lists (g := bas) 4 [b1, b2, b4, b5] rfl fun r k h => ?_)) rfl ⟨_, rfl, iteF ?_⟩⟩
    · match r, h with
      | 0, h => exact Option.some.inj h ▸ sF _ _ g1
      | 1, h => exact Option.some.inj h ▸ sF _ _ g2
      | 2, h => exact Option.some.inj h ▸ sF _ _ g4
      | 3, h => exact Option.some.inj h ▸ sF _ _ g5
      | n + 4, h => cases h
    have f7F := sF _ _ (sE _ _ f7D)
    replace EX := fun r e h => (EX r e h).same (sE.trans sF)
    have hzF := hzD.same (sE.trans sF)
    have sHF : Same H5 HF := (sHD.trans sE).trans sF
    -- what they hold
    refine ⟨_, rfl, l7, _, _, _, rfl, rfl, SqL.of f7F, rfl, e12, cs 12, x, rfl, (EX 0 e12 rfl).2, T.t.ex 12 (by decide), T.t.ff 12 (by decide), _, rfl, l7, _, _, _, rfl, rfl, SqL.of f7F, rfl, e13, cs 13, x, rfl, (EX 1 e13 rfl).2, T.t.ex 13 (by decide), T.t.ff 13 (by decide), _, rfl, l7, _, _, _, rfl, rfl, SqL.of f7F, rfl, e14, cs 14, x, rfl, (EX 2 e14 rfl).2, T.t.ex 14 (by decide), T.t.ff 14 (by decide), _, rfl, l7, _, _, _, rfl, rfl, SqL.of f7F, rfl, e15, cs 15, x, rfl, (EX 3 e15 rfl).2, T.t.ex 15 (by decide), T.t.ff 15 (by decide), (by show 4 ≤ sizeLine; decide), fun l9 k9 => ?_⟩
    have f9 : upd HF l9 (.lst [x, x, x, x]) l9 = some (.lst [x, x, x, x]) := upd_same
    have s9 : Same HF (upd HF l9 (.lst [x, x, x, x])) := same_upd (Same.refl _) k9
    generalize upd HF l9 (.lst [x, x, x, x]) = HG at f9 s9 ⊢
    have hzG := hzF.same s9
    have sHG := sHF.trans s9
    refine ⟨_, rfl, l9, rfl, ⟨_, SqL.of f9⟩, fun D5 nD5 => ?_⟩
    refine lc_list (K := K) (a := l9) (xs := [x, x, x, x]) (fun q H' => H' D5 = some (.lst ((List.replicate q zt).map V.str)) ∧ Same HG H') ⟨upd_same, same_upd (Same.refl _) nD5⟩ (fun q H' _ h => SqL.of (h.2 _ _ f9)) ?_ ?_
    · rintro q y H' hq ⟨fD, sq⟩
      obtain rfl : y = x := by
        match q, hq with
        | 0, h => exact (Option.some.inj h).symm
        | 1, h => exact (Option.some.inj h).symm
        | 2, h => exact (Option.some.inj h).symm
        | 3, h => exact (Option.some.inj h).symm
        | n + 4, h => cases h
      have hq4 : q < 4 := (List.getElem?_eq_some_iff.mp hq).1
      refine ⟨rfl, ?_⟩
      dsimp only [tYes]
      refine iteT ?_
      refine ⟨_, rfl, y, zt, rfl, hzG.same sq, ?_⟩
      refine ⟨_, fD, (by rw [List.length_map, List.length_replicate]; exact Nat.lt_trans hq4 (by decide)), ?_, same_set sq nD5⟩
      rw [upd_same, List.replicate_succ', List.map_append]
      rfl
    rintro HI ⟨fD5, sI⟩
    refine ⟨_, rfl, x, zt, rfl, hzG.same sI, (by show 1 ≤ sizeLine; decide), fun l12 k12 => ?_⟩
    refine ⟨l12, 4, _, rfl, rfl, upd_same, by decide, by decide, (by show 1 * 4 ≤ sizeLine; decide), fun l13 k13 => ?_⟩
    refine same_data (.list ((List.replicate 4 zt).map PyData.str)) (.lst (SqL.of (keep (keep fD5 k12) k13)) (dp_strs _)) (.lst (SqL.of upd_same) (dp_strs (List.replicate 4 zt))) hsh ⟨_, rfl, iteF ?_⟩
    exact ⟨_, _, _, _, _, _, _, _, _, _, rfl, ((s14.trans (s5.trans sHG)).trans sI).trans (same_upd (same_upd (Same.refl _) k12) k13)⟩
end
end Lp
set_option Elab.async false
set_option linter.all false
set_option maxRecDepth 100000
set_option maxHeartbeats 8000000
namespace Lp
open PySem PySem.Spec PyProof.Rows L2
def cl (c0 c1 c2 c3 c4 c5 c6 c7 c8 c9 c10 c11 c12 c13 c14 c15 : Addr) : Nat → Addr := fun i => [c0, c1, c2, c3, c4, c5, c6, c7, c8, c9, c10, c11, c12, c13, c14, c15].getD i 0
def kitB6 (i j : Nat) : Bool := ([decide (i < 12), decide (i < 12), decide (i = 12), decide (i = 12 ∨ i = 13), decide (i = 14), decide (i = 15)] : List Bool).getD j false
theorem fin {w : World} {K : PySem.W.Frag} {mg mb : Str → Option Value} {s₁ : Shared} {fa a : Addr} {vs : List Value} {ns : List Int} {c0 c1 c2 c3 c4 c5 c6 c7 c8 c9 c10 c11 c12 c13 c14 c15 cP fD fR fP fK fB fL : Addr}
    {odD anD : Option Addr} {slD : Array (Option Value)} {ocD kVD dcD pmD cdD ctD : Value}
    {odR anR : Option Addr} {slR : Array (Option Value)} {ocR kVR dcR pmR cdR ctR : Value}
    {odP anP : Option Addr} {slP : Array (Option Value)} {ocP kVP dcP pmP cdP ctP : Value}
    {odK anK : Option Addr} {slK : Array (Option Value)} {ocK kVK dcK pmK cdK ctK : Value}
    {odB anB : Option Addr} {slB : Array (Option Value)} {ocB kVB dcB pmB cdB ctB : Value}
    {odL anL : Option Addr} {slL : Array (Option Value)} {ocL kVL dcL pmL cdL ctL : Value}
    (KX : K.In s₁.heap) (G : s₁.heap.Ns mainGlobals mg) (Gb : s₁.heap.Ns builtinsNs mb) (hbb : ∀ x : Str, x ≠ "__name__" → mb x = bootBuiltins x) (hlim : s₁.heap.NoLimit) (hg : s₁.gens = #[]) (hmg : mg "law" = some (.ref fa))
    (ha : s₁.heap.get? a = some { cls := .type "list", data := .seq vs.toArray }) (hi : IntsAre vs ns) (hl : ns.length ≤ 63)
    (a0 : PySem.W.nsIn K mainGlobals "InvalidSizes" = some (some (.ref c0)))
    (a1 : PySem.W.nsIn K mainGlobals "InvalidProgram" = some (some (.ref c1)))
    (a2 : PySem.W.nsIn K mainGlobals "InvalidText" = some (some (.ref c2)))
    (a3 : PySem.W.nsIn K mainGlobals "InvalidState" = some (some (.ref c3)))
    (a4 : PySem.W.nsIn K mainGlobals "InvalidPosition" = some (some (.ref c4)))
    (a5 : PySem.W.nsIn K mainGlobals "InvalidPaper" = some (some (.ref c5)))
    (a6 : PySem.W.nsIn K mainGlobals "InvalidRanks" = some (some (.ref c6)))
    (a7 : PySem.W.nsIn K mainGlobals "InvalidLimits" = some (some (.ref c7)))
    (a8 : PySem.W.nsIn K mainGlobals "InvalidEdit" = some (some (.ref c8)))
    (a9 : PySem.W.nsIn K mainGlobals "InvalidLog" = some (some (.ref c9)))
    (a10 : PySem.W.nsIn K mainGlobals "InvalidFault" = some (some (.ref c10)))
    (a11 : PySem.W.nsIn K mainGlobals "InvalidCommand" = some (some (.ref c11)))
    (a12 : PySem.W.nsIn K mainGlobals "NoJob" = some (some (.ref c12)))
    (a13 : PySem.W.nsIn K mainGlobals "NoMove" = some (some (.ref c13)))
    (a14 : PySem.W.nsIn K mainGlobals "NotEnough" = some (some (.ref c14)))
    (a15 : PySem.W.nsIn K mainGlobals "TooMany" = some (some (.ref c15)))
    (aPE : PySem.W.nsIn K mainGlobals "PoolError" = some (some (.ref cP)))
    (aD : PySem.W.nsIn K mainGlobals "_law_draws" = some (some (.ref fD))) (lD : K.lookup fD = some ⟨ocD, odD, .func (PySem.W.fnOf "_law_draws" "_law_draws" (defArgs sDraws) (defBody sDraws) (defScope sDraws) .none kVD dcD pmD anD cdD ctD), slD⟩) (gD : PySem.W.codeIn K cdD "_law_draws" = true) (kD : PySem.W.keepIn K (.ref fD) = true)
    (aR : PySem.W.nsIn K mainGlobals "_law_draw" = some (some (.ref fR))) (lR : K.lookup fR = some ⟨ocR, odR, .func (PySem.W.fnOf "_law_draw" "_law_draw" (defArgs sDraw) (defBody sDraw) (defScope sDraw) .none kVR dcR pmR anR cdR ctR), slR⟩) (gR : PySem.W.codeIn K cdR "_law_draw" = true) (kR : PySem.W.keepIn K (.ref fR) = true)
    (aP : PySem.W.nsIn K mainGlobals "_law_plain_ones" = some (some (.ref fP))) (lP : K.lookup fP = some ⟨ocP, odP, .func (PySem.W.fnOf "_law_plain_ones" "_law_plain_ones" (defArgs sPlain) (defBody sPlain) (defScope sPlain) .none kVP dcP pmP anP cdP ctP), slP⟩) (gP : PySem.W.codeIn K cdP "_law_plain_ones" = true) (kP : PySem.W.keepIn K (.ref fP) = true)
    (aK : PySem.W.nsIn K mainGlobals "_law_kinds" = some (some (.ref fK))) (lK : K.lookup fK = some ⟨ocK, odK, .func (PySem.W.fnOf "_law_kinds" "_law_kinds" (defArgs sKinds) (defBody sKinds) (defScope sKinds) .none kVK dcK pmK anK cdK ctK), slK⟩) (gK : PySem.W.codeIn K cdK "_law_kinds" = true) (kK : PySem.W.keepIn K (.ref fK) = true)
    (aB : PySem.W.nsIn K mainGlobals "_law_bases" = some (some (.ref fB))) (lB : K.lookup fB = some ⟨ocB, odB, .func (PySem.W.fnOf "_law_bases" "_law_bases" (defArgs sBases) (defBody sBases) (defScope sBases) .none kVB dcB pmB anB cdB ctB), slB⟩) (gB : PySem.W.codeIn K cdB "_law_bases" = true) (kB : PySem.W.keepIn K (.ref fB) = true)
    (aL : PySem.W.nsIn K mainGlobals "law" = some (some (.ref fL))) (lL : K.lookup fL = some ⟨ocL, odL, .func (PySem.W.fnOf "law" "law" (defArgs sLaw) (defBody sLaw) (defScope sLaw) .none kVL dcL pmL anL cdL ctL), slL⟩) (gL : PySem.W.codeIn K cdL "law" = true) (kL : PySem.W.keepIn K (.ref fL) = true)
    (zlen : PySem.W.nsIn K mainGlobals "len" = some none)
    (zint : PySem.W.nsIn K mainGlobals "int" = some none)
    (zisinstance : PySem.W.nsIn K mainGlobals "isinstance" = some none)
    (zrange : PySem.W.nsIn K mainGlobals "range" = some none)
    (zmax : PySem.W.nsIn K mainGlobals "max" = some none)
    (zmin : PySem.W.nsIn K mainGlobals "min" = some none)
    (zenumerate : PySem.W.nsIn K mainGlobals "enumerate" = some none)
    (zrepr : PySem.W.nsIn K mainGlobals "repr" = some none)
    (zKeyError : PySem.W.nsIn K mainGlobals "KeyError" = some none)
    (zValueError : PySem.W.nsIn K mainGlobals "ValueError" = some none)
    (zLookupError : PySem.W.nsIn K mainGlobals "LookupError" = some none)
    (zArithmeticError : PySem.W.nsIn K mainGlobals "ArithmeticError" = some none)
    (zRuntimeError : PySem.W.nsIn K mainGlobals "RuntimeError" = some none)
    (e0 : ExK K c0) (q0 : PySem.W.keepIn K (.ref c0) = true) (r0 : PySem.W.findIn K (.ref c0) "value" = some none)
    (e1 : ExK K c1) (q1 : PySem.W.keepIn K (.ref c1) = true) (r1 : PySem.W.findIn K (.ref c1) "value" = some none)
    (e2 : ExK K c2) (q2 : PySem.W.keepIn K (.ref c2) = true) (r2 : PySem.W.findIn K (.ref c2) "value" = some none)
    (e3 : ExK K c3) (q3 : PySem.W.keepIn K (.ref c3) = true) (r3 : PySem.W.findIn K (.ref c3) "value" = some none)
    (e4 : ExK K c4) (q4 : PySem.W.keepIn K (.ref c4) = true) (r4 : PySem.W.findIn K (.ref c4) "value" = some none)
    (e5 : ExK K c5) (q5 : PySem.W.keepIn K (.ref c5) = true) (r5 : PySem.W.findIn K (.ref c5) "value" = some none)
    (e6 : ExK K c6) (q6 : PySem.W.keepIn K (.ref c6) = true) (r6 : PySem.W.findIn K (.ref c6) "value" = some none)
    (e7 : ExK K c7) (q7 : PySem.W.keepIn K (.ref c7) = true) (r7 : PySem.W.findIn K (.ref c7) "value" = some none)
    (e8 : ExK K c8) (q8 : PySem.W.keepIn K (.ref c8) = true) (r8 : PySem.W.findIn K (.ref c8) "value" = some none)
    (e9 : ExK K c9) (q9 : PySem.W.keepIn K (.ref c9) = true) (r9 : PySem.W.findIn K (.ref c9) "value" = some none)
    (e10 : ExK K c10) (q10 : PySem.W.keepIn K (.ref c10) = true) (r10 : PySem.W.findIn K (.ref c10) "value" = some none)
    (e11 : ExK K c11) (q11 : PySem.W.keepIn K (.ref c11) = true) (r11 : PySem.W.findIn K (.ref c11) "value" = some none)
    (e12 : ExK K c12) (q12 : PySem.W.keepIn K (.ref c12) = true) (r12 : PySem.W.findIn K (.ref c12) "value" = some none)
    (e13 : ExK K c13) (q13 : PySem.W.keepIn K (.ref c13) = true) (r13 : PySem.W.findIn K (.ref c13) "value" = some none)
    (e14 : ExK K c14) (q14 : PySem.W.keepIn K (.ref c14) = true) (r14 : PySem.W.findIn K (.ref c14) "name" = some none)
    (e15 : ExK K c15) (q15 : PySem.W.keepIn K (.ref c15) = true) (r15 : PySem.W.findIn K (.ref c15) "number" = some none)
    (hk : ((List.range 16).all fun i => (List.range 16).all fun j => PySem.W.kitOne K (.ref (cl c0 c1 c2 c3 c4 c5 c6 c7 c8 c9 c10 c11 c12 c13 c14 c15 i)) (.ref (cl c0 c1 c2 c3 c4 c5 c6 c7 c8 c9 c10 c11 c12 c13 c14 c15 j)) == some (decide (i = j))) = true)
    (hb : ((List.range 16).all fun i => (List.range 6).all fun j => PySem.W.kitOne K (.ref (cl c0 c1 c2 c3 c4 c5 c6 c7 c8 c9 c10 c11 c12 c13 c14 c15 i)) (([.ref cP, .type "ValueError", .type "KeyError", .type "LookupError", .type "ArithmeticError", .type "RuntimeError"] : List Value).getD j .none) == some (kitB6 i j)) = true)
    (p0 : ∀ env env2 : Env, Makes PySem.Challenge.pw_leastpools_k03_errors_and_fields w K ((callerA.deeper env).deeper env2) c0 "value")
    (p1 : ∀ env env2 : Env, Makes PySem.Challenge.pw_leastpools_k03_errors_and_fields w K ((callerA.deeper env).deeper env2) c1 "value")
    (p2 : ∀ env env2 : Env, Makes PySem.Challenge.pw_leastpools_k03_errors_and_fields w K ((callerA.deeper env).deeper env2) c2 "value")
    (p3 : ∀ env env2 : Env, Makes PySem.Challenge.pw_leastpools_k03_errors_and_fields w K ((callerA.deeper env).deeper env2) c3 "value")
    (p4 : ∀ env env2 : Env, Makes PySem.Challenge.pw_leastpools_k03_errors_and_fields w K ((callerA.deeper env).deeper env2) c4 "value")
    (p5 : ∀ env env2 : Env, Makes PySem.Challenge.pw_leastpools_k03_errors_and_fields w K ((callerA.deeper env).deeper env2) c5 "value")
    (p6 : ∀ env env2 : Env, Makes PySem.Challenge.pw_leastpools_k03_errors_and_fields w K ((callerA.deeper env).deeper env2) c6 "value")
    (p7 : ∀ env env2 : Env, Makes PySem.Challenge.pw_leastpools_k03_errors_and_fields w K ((callerA.deeper env).deeper env2) c7 "value")
    (p8 : ∀ env env2 : Env, Makes PySem.Challenge.pw_leastpools_k03_errors_and_fields w K ((callerA.deeper env).deeper env2) c8 "value")
    (p9 : ∀ env env2 : Env, Makes PySem.Challenge.pw_leastpools_k03_errors_and_fields w K ((callerA.deeper env).deeper env2) c9 "value")
    (p10 : ∀ env env2 : Env, Makes PySem.Challenge.pw_leastpools_k03_errors_and_fields w K ((callerA.deeper env).deeper env2) c10 "value")
    (p11 : ∀ env env2 : Env, Makes PySem.Challenge.pw_leastpools_k03_errors_and_fields w K ((callerA.deeper env).deeper env2) c11 "value")
    (p12 : ∀ env : Env, Makes PySem.Challenge.pw_leastpools_k03_errors_and_fields w K (callerA.deeper env) c12 "value")
    (p13 : ∀ env : Env, Makes PySem.Challenge.pw_leastpools_k03_errors_and_fields w K (callerA.deeper env) c13 "value")
    (p14 : ∀ env : Env, Makes PySem.Challenge.pw_leastpools_k03_errors_and_fields w K (callerA.deeper env) c14 "name")
    (p15 : ∀ env : Env, Makes PySem.Challenge.pw_leastpools_k03_errors_and_fields w K (callerA.deeper env) c15 "number")
    : codeAny (model PySem.Challenge.pw_leastpools_k03_errors_and_fields w) callerA (.call (.ref fa) ⟨[.ref a], []⟩) (fun r s' => r = .ok (.ret (.bool true)) ∧ OldK s₁.heap s'.heap ∧ s'.os = s₁.os ∧ AllBare s'.gens) s₁ := by
  have e := hmg.symm.trans (PySem.W.mg_of KX G aL)
  cases e
  have al : ∀ {n : Nat} {p : Nat → Bool}, (List.range n).all p = true → ∀ i, i < n → p i = true := fun h i hi => List.all_eq_true.mp h i (List.mem_range.mpr hi)
  have kk : ∀ i j, i < 16 → j < 16 → PySem.W.kitOne K (.ref (cl c0 c1 c2 c3 c4 c5 c6 c7 c8 c9 c10 c11 c12 c13 c14 c15 i)) (.ref (cl c0 c1 c2 c3 c4 c5 c6 c7 c8 c9 c10 c11 c12 c13 c14 c15 j)) = some (decide (i = j)) := fun i j h1 h2 => beq_iff_eq.mp (al (al hk i h1) j h2)
  have kb : ∀ i j, i < 16 → j < 6 → PySem.W.kitOne K (.ref (cl c0 c1 c2 c3 c4 c5 c6 c7 c8 c9 c10 c11 c12 c13 c14 c15 i)) (([.ref cP, .type "ValueError", .type "KeyError", .type "LookupError", .type "ArithmeticError", .type "RuntimeError"] : List Value).getD j .none) = some (kitB6 i j) := fun i j h1 h2 => beq_iff_eq.mp (al (al hb i h1) j h2)
  have t : T3 K mg (cl c0 c1 c2 c3 c4 c5 c6 c7 c8 c9 c10 c11 c12 c13 c14 c15) cP := {
    bi := ⟨PySem.W.mg_none_of KX G zlen, PySem.W.mg_none_of KX G zint⟩
    nisinstance := PySem.W.mg_none_of KX G zisinstance
    nrange := PySem.W.mg_none_of KX G zrange
    nmax := PySem.W.mg_none_of KX G zmax
    nmin := PySem.W.mg_none_of KX G zmin
    nenumerate := PySem.W.mg_none_of KX G zenumerate
    nrepr := PySem.W.mg_none_of KX G zrepr
    nKeyError := PySem.W.mg_none_of KX G zKeyError
    nValueError := PySem.W.mg_none_of KX G zValueError
    nLookupError := PySem.W.mg_none_of KX G zLookupError
    nArithmeticError := PySem.W.mg_none_of KX G zArithmeticError
    nRuntimeError := PySem.W.mg_none_of KX G zRuntimeError
    mP := PySem.W.mg_of KX G aPE
    m0 := PySem.W.mg_of KX G a0
    m1 := PySem.W.mg_of KX G a1
    m2 := PySem.W.mg_of KX G a2
    m3 := PySem.W.mg_of KX G a3
    m4 := PySem.W.mg_of KX G a4
    m5 := PySem.W.mg_of KX G a5
    m6 := PySem.W.mg_of KX G a6
    m7 := PySem.W.mg_of KX G a7
    m8 := PySem.W.mg_of KX G a8
    m9 := PySem.W.mg_of KX G a9
    m10 := PySem.W.mg_of KX G a10
    m11 := PySem.W.mg_of KX G a11
    m12 := PySem.W.mg_of KX G a12
    m13 := PySem.W.mg_of KX G a13
    m14 := PySem.W.mg_of KX G a14
    m15 := PySem.W.mg_of KX G a15
    ex := fun i h => match i, h with
      | 0, _ => e0
      | 1, _ => e1
      | 2, _ => e2
      | 3, _ => e3
      | 4, _ => e4
      | 5, _ => e5
      | 6, _ => e6
      | 7, _ => e7
      | 8, _ => e8
      | 9, _ => e9
      | 10, _ => e10
      | 11, _ => e11
      | 12, _ => e12
      | 13, _ => e13
      | 14, _ => e14
      | 15, _ => e15
      | n + 16, h => absurd h (by omega)
    kp := fun i h => match i, h with
      | 0, _ => q0
      | 1, _ => q1
      | 2, _ => q2
      | 3, _ => q3
      | 4, _ => q4
      | 5, _ => q5
      | 6, _ => q6
      | 7, _ => q7
      | 8, _ => q8
      | 9, _ => q9
      | 10, _ => q10
      | 11, _ => q11
      | 12, _ => q12
      | 13, _ => q13
      | 14, _ => q14
      | 15, _ => q15
      | n + 16, h => absurd h (by omega)
    ff := fun i h => match i, h with
      | 0, _ => r0
      | 1, _ => r1
      | 2, _ => r2
      | 3, _ => r3
      | 4, _ => r4
      | 5, _ => r5
      | 6, _ => r6
      | 7, _ => r7
      | 8, _ => r8
      | 9, _ => r9
      | 10, _ => r10
      | 11, _ => r11
      | 12, _ => r12
      | 13, _ => r13
      | 14, _ => r14
      | 15, _ => r15
      | n + 16, h => absurd h (by omega)
    kk := kk
    kP := fun i h => kb i 0 h (by decide)
    kV := fun i h => kb i 1 h (by decide)
    kK := fun i h => kb i 2 h (by decide)
    kL := fun i h => kb i 3 h (by decide)
    kA := fun i h => kb i 4 h (by decide)
    kR := fun i h => kb i 5 h (by decide) }
  have T : T3L K mg (cl c0 c1 c2 c3 c4 c5 c6 c7 c8 c9 c10 c11 c12 c13 c14 c15) cP fD fR fP fK fB := ⟨t, PySem.W.mg_of KX G aD, PySem.W.mg_of KX G aR, PySem.W.mg_of KX G aP, PySem.W.mg_of KX G aK, PySem.W.mg_of KX G aB⟩
  have FD := fun_mk (st := sDraws) lD gD kD
  have FR := fun_mk (st := sDraw) lR gR kR
  have FP := fun_mk (st := sPlain) lP gP kP
  have FK := fun_mk (st := sKinds) lK gK kK
  have FB := fun_mk (st := sBases) lB gB kB
  have FL := fun_mk (st := sLaw) lL gL kL
  have bD := FD.binds (ps := ["_law_script", "_law_k"]) fun _ _ _ _ _ _ us hl => match us, hl with | [_, _], _ => rfl
  have bR := FR.binds (ps := ["_law_draws_here", "_law_upto"]) fun _ _ _ _ _ _ us hl => match us, hl with | [_, _], _ => rfl
  have bP := FP.binds (ps := ["_law_thing"]) fun _ _ _ _ _ _ us hl => match us, hl with | [_], _ => rfl
  have bK := FK.binds (ps := ["_law_error"]) fun _ _ _ _ _ _ us hl => match us, hl with | [_], _ => rfl
  have bB := FB.binds (ps := ["_law_error"]) fun _ _ _ _ _ _ us hl => match us, hl with | [_], _ => rfl
  refine law_end KX G Gb hbb hlim hg ha hi (Nat.le_trans hl (by decide)) FL scL (fun s v => .of_eq rfl) fun base cdv H _ _ hS => ?_
  exact law_body T FD bD FR bR FP bP FK bK FB bB (fun i h1 h2 env => match i, h1, h2, env with
    | 0, h, _, _ => absurd h (by decide)
    | 1, h, _, _ => absurd h (by decide)
    | 2, h, _, _ => absurd h (by decide)
    | 3, h, _, _ => absurd h (by decide)
    | 4, h, _, _ => absurd h (by decide)
    | 5, h, _, _ => absurd h (by decide)
    | 6, h, _, _ => absurd h (by decide)
    | 7, h, _, _ => absurd h (by decide)
    | 8, h, _, _ => absurd h (by decide)
    | 9, h, _, _ => absurd h (by decide)
    | 10, h, _, _ => absurd h (by decide)
    | 11, h, _, _ => absurd h (by decide)
    | 12, _, _, env => p12 env
    | 13, _, _, env => p13 env
    | 14, _, _, env => p14 env
    | 15, _, _, env => p15 env
    | n + 16, _, h, _ => absurd h (by omega)) (fun i h env env2 => match i, h, env, env2 with
    | 0, _, env, env2 => p0 env env2
    | 1, _, env, env2 => p1 env env2
    | 2, _, env, env2 => p2 env env2
    | 3, _, env, env2 => p3 env env2
    | 4, _, env, env2 => p4 env env2
    | 5, _, env, env2 => p5 env env2
    | 6, _, env, env2 => p6 env env2
    | 7, _, env, env2 => p7 env env2
    | 8, _, env, env2 => p8 env env2
    | 9, _, env, env2 => p9 env env2
    | 10, _, env, env2 => p10 env env2
    | 11, _, env, env2 => p11 env env2
    | n + 12, h, _, _ => absurd h (by omega)) hS hl
end Lp

open PySem PySem.W PyProof.Rows
local macro_rules | `(tactic| walk_at "lp_mem") => `(tactic| first | exact List.Mem.head _ | exact List.Mem.tail _ (List.Mem.head _) | exact List.Mem.tail _ (List.Mem.tail _ (List.Mem.head _)) | exact List.Mem.tail _ (List.Mem.tail _ (List.Mem.tail _ (List.Mem.head _))) | exact List.Mem.tail _ (List.Mem.tail _ (List.Mem.tail _ (List.Mem.tail _ (List.Mem.head _)))) | exact List.Mem.tail _ (List.Mem.tail _ (List.Mem.tail _ (List.Mem.tail _ (List.Mem.tail _ (List.Mem.head _))))))
local macro_rules | `(tactic| x_close) => `(tactic| exact ⟨_, _, _, _, _, _, _, rfl, rfl, (by assumption), (by walk_at "lp_mem"), (by walk_at "lp_mem"), rfl⟩)
set_option maxRecDepth 100000 in
set_option maxHeartbeats 0 in
theorem PySem.Challenge.cw_leastpools_k03_errors_and_fields_holds : PySem.Challenge.rw_leastpools_k03_errors_and_fields.Holds := by
  w_on; o_law; x_head; (case hw => w_witness2)
  k_fill
  refine Att.attach_call (l := PySem.Challenge.rw_leastpools_k03_errors_and_fields) (n := 63) rfl rfl fun w s₀ s₁ mg mb fa o pm cd doc a vs ns G Y ho hd hcd hmg hobj hints hlen hg => ?_
  have KX := PySem.W.kIn_of Y
  clear ho hd hcd
  refine' Lp.fin KX G.T.g G.T.b G.T.builtins G.T.nolimit hg hmg hobj hints hlen ?a0 ?a1 ?a2 ?a3 ?a4 ?a5 ?a6 ?a7 ?a8 ?a9 ?a10 ?a11 ?a12 ?a13 ?a14 ?a15 ?aPE ?aD ?lD ?gD ?kD ?aR ?lR ?gR ?kR ?aP ?lP ?gP ?kP ?aK ?lK ?gK ?kK ?aB ?lB ?gB ?kB ?aL ?lL ?gL ?kL ?zlen ?zint ?zisinstance ?zrange ?zmax ?zmin ?zenumerate ?zrepr ?zKeyError ?zValueError ?zLookupError ?zArithmeticError ?zRuntimeError ?e0 ?q0 ?r0 ?e1 ?q1 ?r1 ?e2 ?q2 ?r2 ?e3 ?q3 ?r3 ?e4 ?q4 ?r4 ?e5 ?q5 ?r5 ?e6 ?q6 ?r6 ?e7 ?q7 ?r7 ?e8 ?q8 ?r8 ?e9 ?q9 ?r9 ?e10 ?q10 ?r10 ?e11 ?q11 ?r11 ?e12 ?q12 ?r12 ?e13 ?q13 ?r13 ?e14 ?q14 ?r14 ?e15 ?q15 ?r15 ?hk ?hb ?p0 ?p1 ?p2 ?p3 ?p4 ?p5 ?p6 ?p7 ?p8 ?p9 ?p10 ?p11 ?p12 ?p13 ?p14 ?p15
  (case a0 => k_is)
  (case a1 => k_is)
  (case a2 => k_is)
  (case a3 => k_is)
  (case a4 => k_is)
  (case a5 => k_is)
  (case a6 => k_is)
  (case a7 => k_is)
  (case a8 => k_is)
  (case a9 => k_is)
  (case a10 => k_is)
  (case a11 => k_is)
  (case a12 => k_is)
  (case a13 => k_is)
  (case a14 => k_is)
  (case a15 => k_is)
  (case aPE => k_is)
  (case aD => k_is)
  (case lD => k_is)
  (case gD => k_is)
  (case kD => k_is)
  (case aR => k_is)
  (case lR => k_is)
  (case gR => k_is)
  (case kR => k_is)
  (case aP => k_is)
  (case lP => k_is)
  (case gP => k_is)
  (case kP => k_is)
  (case aK => k_is)
  (case lK => k_is)
  (case gK => k_is)
  (case kK => k_is)
  (case aB => k_is)
  (case lB => k_is)
  (case gB => k_is)
  (case kB => k_is)
  (case aL => k_is)
  (case lL => k_is)
  (case gL => k_is)
  (case kL => k_is)
  (case zlen => k_is)
  (case zint => k_is)
  (case zisinstance => k_is)
  (case zrange => k_is)
  (case zmax => k_is)
  (case zmin => k_is)
  (case zenumerate => k_is)
  (case zrepr => k_is)
  (case zKeyError => k_is)
  (case zValueError => k_is)
  (case zLookupError => k_is)
  (case zArithmeticError => k_is)
  (case zRuntimeError => k_is)
  (case e0 => exact ⟨by k_is, by k_is, by k_is, by k_is, by k_is, by k_is, by k_is, by k_is⟩)
  (case q0 => k_is)
  (case r0 => k_is)
  (case e1 => exact ⟨by k_is, by k_is, by k_is, by k_is, by k_is, by k_is, by k_is, by k_is⟩)
  (case q1 => k_is)
  (case r1 => k_is)
  (case e2 => exact ⟨by k_is, by k_is, by k_is, by k_is, by k_is, by k_is, by k_is, by k_is⟩)
  (case q2 => k_is)
  (case r2 => k_is)
  (case e3 => exact ⟨by k_is, by k_is, by k_is, by k_is, by k_is, by k_is, by k_is, by k_is⟩)
  (case q3 => k_is)
  (case r3 => k_is)
  (case e4 => exact ⟨by k_is, by k_is, by k_is, by k_is, by k_is, by k_is, by k_is, by k_is⟩)
  (case q4 => k_is)
  (case r4 => k_is)
  (case e5 => exact ⟨by k_is, by k_is, by k_is, by k_is, by k_is, by k_is, by k_is, by k_is⟩)
  (case q5 => k_is)
  (case r5 => k_is)
  (case e6 => exact ⟨by k_is, by k_is, by k_is, by k_is, by k_is, by k_is, by k_is, by k_is⟩)
  (case q6 => k_is)
  (case r6 => k_is)
  (case e7 => exact ⟨by k_is, by k_is, by k_is, by k_is, by k_is, by k_is, by k_is, by k_is⟩)
  (case q7 => k_is)
  (case r7 => k_is)
  (case e8 => exact ⟨by k_is, by k_is, by k_is, by k_is, by k_is, by k_is, by k_is, by k_is⟩)
  (case q8 => k_is)
  (case r8 => k_is)
  (case e9 => exact ⟨by k_is, by k_is, by k_is, by k_is, by k_is, by k_is, by k_is, by k_is⟩)
  (case q9 => k_is)
  (case r9 => k_is)
  (case e10 => exact ⟨by k_is, by k_is, by k_is, by k_is, by k_is, by k_is, by k_is, by k_is⟩)
  (case q10 => k_is)
  (case r10 => k_is)
  (case e11 => exact ⟨by k_is, by k_is, by k_is, by k_is, by k_is, by k_is, by k_is, by k_is⟩)
  (case q11 => k_is)
  (case r11 => k_is)
  (case e12 => exact ⟨by k_is, by k_is, by k_is, by k_is, by k_is, by k_is, by k_is, by k_is⟩)
  (case q12 => k_is)
  (case r12 => k_is)
  (case e13 => exact ⟨by k_is, by k_is, by k_is, by k_is, by k_is, by k_is, by k_is, by k_is⟩)
  (case q13 => k_is)
  (case r13 => k_is)
  (case e14 => exact ⟨by k_is, by k_is, by k_is, by k_is, by k_is, by k_is, by k_is, by k_is⟩)
  (case q14 => k_is)
  (case r14 => k_is)
  (case e15 => exact ⟨by k_is, by k_is, by k_is, by k_is, by k_is, by k_is, by k_is, by k_is⟩)
  (case q15 => k_is)
  (case r15 => k_is)
  (case hk => kernel_rfl)
  (case hb => kernel_rfl)
  (case p0 => (clear hobj hints hlen hg hmg KX G Y; intro env env2 s v KX2; x_run))
  (case p1 => (clear hobj hints hlen hg hmg KX G Y; intro env env2 s v KX2; x_run))
  (case p2 => (clear hobj hints hlen hg hmg KX G Y; intro env env2 s v KX2; x_run))
  (case p3 => (clear hobj hints hlen hg hmg KX G Y; intro env env2 s v KX2; x_run))
  (case p4 => (clear hobj hints hlen hg hmg KX G Y; intro env env2 s v KX2; x_run))
  (case p5 => (clear hobj hints hlen hg hmg KX G Y; intro env env2 s v KX2; x_run))
  (case p6 => (clear hobj hints hlen hg hmg KX G Y; intro env env2 s v KX2; x_run))
  (case p7 => (clear hobj hints hlen hg hmg KX G Y; intro env env2 s v KX2; x_run))
  (case p8 => (clear hobj hints hlen hg hmg KX G Y; intro env env2 s v KX2; x_run))
  (case p9 => (clear hobj hints hlen hg hmg KX G Y; intro env env2 s v KX2; x_run))
  (case p10 => (clear hobj hints hlen hg hmg KX G Y; intro env env2 s v KX2; x_run))
  (case p11 => (clear hobj hints hlen hg hmg KX G Y; intro env env2 s v KX2; x_run))
  (case p12 => (clear hobj hints hlen hg hmg KX G Y; intro env s v KX2; x_run))
  (case p13 => (clear hobj hints hlen hg hmg KX G Y; intro env s v KX2; x_run))
  (case p14 => (clear hobj hints hlen hg hmg KX G Y; intro env s v KX2; x_run))
  (case p15 => (clear hobj hints hlen hg hmg KX G Y; intro env s v KX2; x_run))

