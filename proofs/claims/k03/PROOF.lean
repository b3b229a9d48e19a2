import PyProof.Rows.All
import Wide.All
import OpenK.AllK
import Wide.FinOn
import KE.KStateDown
import KE.KExcIs
import HandS.ForMost
import HandS.Exc
import HandS.TryOnly
import HandS.ExcOwn
import HandS.ExcInit
import HandS.IsInst
import HandS.Wide
import HandS.Defaults
import HandS.Flow
import HandS.Conv
import HandS.Style
import HandS.EndBits
import HandS.Head0
import HandS.Head1
import HandS.Head2
import HandS.HeadEnd
import HandS.HeadHook1
import HandS.HeadHook2
import PyProof.ReprRoads
import HandS.Strs
import KE.GoesEnumKw
import HandS.Walk
import HandS.Star
import HandS.ForList
import HandS.WordsExc
import HandS.Lambda
import HandS.EndTab
import HandS.HeadHook3
import HandS.HeadHook4
import HandS.HeadWalk
import PySem.Challenge.RW_metonce_k03_bounds_of_halls
set_option Elab.async false
set_option linter.all false
set_option maxRecDepth 100000
set_option maxHeartbeats 4000000
namespace MX
open PySem PySem.Spec PyProof.Rows L2
/-! the head's facts, with a check of one's own -/
def obsX (fa : List He.Fa) (fn : List He.DefD) (fx : PySem.W.Frag → Bool) (K : PySem.W.Frag) : He.AlD :=
  (((fa.all fun f => f.ok K) && fn.all fun d => d.ok K) && fx K, fn.map fun d => He.fnW K d.at_)
def SaysX (fa : List He.Fa) (fn : List He.DefD) (fx : PySem.W.Frag → Bool) (K : PySem.W.Frag) : Prop := obsX fa fn fx K = He.valD fn
def obsXG (n : Nat) (fa : List He.Fa) (fn : List He.DefD) (fx : PySem.W.Frag → Bool) (g : Addr → Option Obj) : He.AlD := obsX fa fn fx (He.frG g (He.asD g n))
def hookX (n : Nat) (fa : List He.Fa) (fn : List He.DefD) (fx : PySem.W.Frag → Bool) : PySem.W.Hook where
  α := He.AlD
  obs := fun s => obsXG n fa fn fx s.heap.get?
  val := fun _ => He.valD fn
  says := fun _ h => ∃ K : PySem.W.Frag, K.In h ∧ SaysX fa fn fx K
  of := fun _ _ e => ⟨_, He.frG_in, e⟩
  keeps := fun _ _ _ ⟨K, hK, c⟩ k => ⟨K, PySem.W.Frag.In.keeps hK k, c⟩
theorem obsXG_eq {n : Nat} {fa : List He.Fa} {fn : List He.DefD} {fx : PySem.W.Frag → Bool} {g : Addr → Option Obj} {s : Shared} (h : ∀ a, g a = s.heap.get? a) : obsXG n fa fn fx g = (hookX n fa fn fx).obs s := by
  have e : g = s.heap.get? := funext h
  rw [e] <;> rfl
section
variable {fa : List He.Fa} {fn : List He.DefD} {fx : PySem.W.Frag → Bool} {K : PySem.W.Frag}
theorem SaysX.d (c : SaysX fa fn fx K) : He.SaysD fa fn K := by
  have c1 : (((fa.all fun f => f.ok K) && fn.all fun d => d.ok K) && fx K) = true := congrArg (fun z : He.AlD => z.1) c
  have c2 : fn.map (fun d => He.fnW K d.at_) = fn.map He.DefD.val := congrArg (fun z : He.AlD => z.2) c
  show (_, _) = (_, _)
  rw [(He.ba c1).1, c2]
theorem SaysX.x (c : SaysX fa fn fx K) : fx K = true := by
  have c1 : (((fa.all fun f => f.ok K) && fn.all fun d => d.ok K) && fx K) = true := congrArg (fun z : He.AlD => z.1) c
  exact (He.ba c1).2
end
/-! exception classes over ValueError that share one __init__ -/
/-- the class x of the module: what is wanted of K -/
def excB (K : PySem.W.Frag) (C fI : Addr) : Bool :=
  (match K.lookup C with
   | some ⟨.type "type", _, .cls cd, sl⟩ => (match cd.mro, sl.toList with
     | .ref C' :: bm, [_, _, _, _, some (.builtin n), _] => C' == C && n == "ValueError.__new__" && !cd.hasDel && cd.hasDict && PySem.HandSPX.refsVE bm
     | _, _ => false)
   | _ => false)
  && (He.eqO (PySem.W.findIn K (.ref C) "__setattr__") (some (some (.builtin "object.__setattr__")))
  && (decide (PySem.W.subIn K (.ref C) (.type "BaseException") = some true)
  && (decide (PySem.W.typeIn K (.ref C) = some (.type "type"))
  && (PySem.W.keepIn K (.ref C)
  && (He.eqO (PySem.W.findIn K (.ref C) "__getattribute__") (some (some (.builtin "BaseException.__getattribute__")))
  && (He.eqO (PySem.W.findIn K (.ref C) "__getattr__") (some none)
  && (He.eqO (PySem.W.findIn K (.ref C) "__class__") (some (some (.builtin "object.__class__")))
  && (He.eqO (PySem.W.specialIn K (.builtin "object.__class__") "__get__") (some (some (.builtin "getset_descriptor.__get__")))
  && (decide (PySem.W.takesIn K (.builtin "object.__class__") = some true)
  && (decide (PySem.W.mroIn K C (.type "object") = some true)
  && (He.eqO (PySem.W.findIn K (.ref C) "value") (some none)
  && (He.eqO (PySem.W.findIn K (.ref C) "__init__") (some (some (.ref fI)))
  && decide (PySem.W.typeIn K (.ref fI) = some (.type "function"))))))))))))))
structure ExcT (K : PySem.W.Frag) (C fI : Addr) : Prop where
  oex : OexC K C
  ga : PySem.W.findIn K (.ref C) "__getattribute__" = some (some (.builtin "BaseException.__getattribute__"))
  gg : PySem.W.findIn K (.ref C) "__getattr__" = some none
  hd : PySem.W.hasDictIn K C = true
  cl : (PySem.W.clsIn K C).isSome = true
  ha : PySem.W.findIn K (.ref C) "__class__" = some (some (.builtin "object.__class__"))
  hn : PySem.W.specialIn K (.builtin "object.__class__") "__get__" = some (some (.builtin "getset_descriptor.__get__"))
  ht : PySem.W.takesIn K (.builtin "object.__class__") = some true
  hm : PySem.W.mroIn K C (.type "object") = some true
  nv : PySem.W.findIn K (.ref C) "value" = some none
  ic : PySem.W.findIn K (.ref C) "__init__" = some (some (.ref fI))
  ti : PySem.W.typeIn K (.ref fI) = some (.type "function")
theorem excB_ok {K : PySem.W.Frag} {C fI : Addr} (h : excB K C fI = true) : ExcT K C fI := by
  obtain ⟨h1, h⟩ := He.ba h
  obtain ⟨h2, h⟩ := He.ba h
  obtain ⟨h3, h⟩ := He.ba h
  obtain ⟨h4, h⟩ := He.ba h
  obtain ⟨h5, h⟩ := He.ba h
  obtain ⟨h6, h⟩ := He.ba h
  obtain ⟨h7, h⟩ := He.ba h
  obtain ⟨h8, h⟩ := He.ba h
  obtain ⟨h9, h⟩ := He.ba h
  obtain ⟨h10, h⟩ := He.ba h
  obtain ⟨h11, h⟩ := He.ba h
  obtain ⟨h12, h⟩ := He.ba h
  obtain ⟨h13, h14⟩ := He.ba h
  split at h1
  · rename_i dd cd sl ho
    split at h1
    · rename_i C' bm k0 k1 k2 k3 n k5 hm hs
      simp only [Bool.and_eq_true, beq_iff_eq, Bool.not_eq_true'] at h1
      obtain ⟨⟨⟨⟨rfl, rfl⟩, hdel⟩, hdi⟩, ht⟩ := h1
      obtain ⟨nm, bs, mro, ns, qn, hd, sn, sub, ab, col, del⟩ := cd
      dsimp only at hm hdel hdi
      subst hm hdel hdi
      have hsl : sl = #[k0, k1, k2, k3, some (.builtin "ValueError.__new__"), k5] := by
        obtain ⟨l⟩ := sl
        simp only at hs
        rw [hs]
      subst hsl
      have hcl : PySem.W.clsIn K C' = some { name := nm, bases := bs, mro := .ref C' :: bm, ns := ns, qualname := qn, hasDict := true, slotNames := sn, subclasses := sub, abstract := ab, collection := col, hasDel := false } := by unfold PySem.W.clsIn; rw [ho] <;> rfl
      exact ⟨⟨⟨nm, qn, ns, bs, bm, sn, sub, ab, col, dd, k0, k1, k2, k3, k5, ho, ht⟩, He.eqO_ok h2, of_decide_eq_true h3, of_decide_eq_true h4, h5⟩,
        He.eqO_ok h6, He.eqO_ok h7, by unfold PySem.W.hasDictIn; rw [hcl] <;> rfl, by rw [hcl]; rfl, He.eqO_ok h8, He.eqO_ok h9, of_decide_eq_true h10, of_decide_eq_true h11, He.eqO_ok h12, He.eqO_ok h13, of_decide_eq_true h14⟩
    · cases h1
  · cases h1
end MX

set_option Elab.async false
set_option linter.all false
set_option maxRecDepth 100000
set_option maxHeartbeats 4000000
namespace MX
open PySem PySem.Spec PySem.W PySem.Calls PyProof.Rows L2
/-! ### calls where no repr runs around -/
structure RoomG (k : Nat) (A : Around) : Prop where
  r : Room k A
  g : A.guards = some []
theorem RoomG.mono {j k : Nat} {A : Around} (x : RoomG k A) (h : j ≤ k) : RoomG j A := ⟨x.r.mono h, x.g⟩
theorem RoomG.deeper {k : Nat} {A : Around} (x : RoomG (k + 1) A) (env : Env) : RoomG k (A.deeper env) := ⟨x.r.deeper env, x.g⟩
/-- a def's promise, where no repr runs around -/
structure FnG (P : Program) (w : World) (K : PySem.W.Frag) (mg : Str → Option Value) (base : Heap) (CX : CXT) (k : Nat) (f : Addr) (fd : FuncData) (ps : List Str) (sp : Sp) : Prop where
  len : ∀ vs H Q E, sp vs H Q E → vs.length = ps.length
  run : ∀ (A : Around) (out : List Env) (s : Shared) (H : Hp) (gs : Args) (us : List Value) (vs : List V) (Q : VK) (E : XK),
    RoomG k A → Env0 P w K mg base A out s H → BindsTo s fd gs (ps.zip us) → Vals vs us → sp vs H Q E →
    codeAny (model P w) A (.call (.ref f) gs) (CR CX out P w H s Q E) s
section
variable {P : Program} {w : World} {K : PySem.W.Frag} {mg : Str → Option Value} {base : Heap} {CX : CXT} {k : Nat} {f : Addr} {fd : FuncData} {ps : List Str} {sp : Sp}
theorem gOf (F : FnOk P w K mg base CX k f fd ps sp) : FnG P w K mg base CX k f fd ps sp :=
  ⟨F.len, fun A out s H gs us vs Q E h => F.run A out s H gs us vs Q E h.r⟩
/-- a def of the text, its body walked where no repr runs around -/
theorem okG {x qual : Str} {params : Arguments} {body : List Stmt} {scope : Scope} {dvs : List V} {kws : List (Str × V)} {N : List Str}
    (F : FunD K x qual params body scope dvs kws f fd) (S : FnScope N ps scope) (hl : ∀ vs H Q E, sp vs H Q E → vs.length = ps.length)
    (hb : ∀ (cdv : Value) (A : Around) (out : List Env) (s : Shared) (H : Hp) (vs : List V) (Q : VK) (E : XK),
      RoomG k (A.deeper (envOfC qual scope s.heap.objs.size f cdv)) → sp vs H Q E →
      ∃ t, PSs (cxOf CX P w K mg base N qual scope f cdv A out s H E) body t ∧ t { nx := fun _ H' => Q .non H', rt := Q } (start N vs) H) :
    FnG P w K mg base CX (k + 1) f fd ps sp := by
  obtain ⟨oc, od, dV, kV, doc, pm, an, cdv, ct, osl, rfl, lk, hcd, _, _⟩ := F.ex
  constructor
  · exact hl
  intro A out s H gs us vs Q E hr z hbi rv hs
  have hlen := hl vs H Q E hs
  have kIn : K.In s.heap := z.mod.kin.keeps (fun b o e => (z.bs b o e).1)
  have nolim : s.heap.NoLimit := z.mod.nolimit.keeps (fun b o e => (z.bs b o e).1)
  refine codeAny_call_function hr.r.depth (kIn _ _ lk) rfl S.co S.gen rfl (PySem.W.codeRec_of kIn hcd) (hbi _ _ _ _ ?_)
  have kinds : ∀ y, y ∈ ps.zip us → scope.names.lookup y.1 = some .local ∨ (scope.names.lookup y.1 = some .cell ∧ ((cellsFrom (s.heap.objs.size + 1) scope.names []).lookup y.1).isSome = true) := by
    intro y hy
    obtain ⟨n, v⟩ := y
    cases S.par n (List.of_mem_zip hy).1 with
    | inl q => exact Or.inl q
    | inr q => exact Or.inr ⟨q, PySem.W.cellsFrom_some _ _ _ (Or.inl q)⟩
  refine wpAny_newFunctionEnv_cells S.kind kinds (fun env he s1 x => ?_)
  cases he
  refine ⟨nolim.keeps x.toInCall.keep, codeAny_func ?_⟩
  obtain ⟨t, ht, hq⟩ := hb cdv A out s H vs Q E (hr.deeper _) hs
  have J : Inv (cxOf CX P w K mg base N qual scope f cdv A out s H E) [] (start N vs) H s1 := inv_start S hr.r.hd z hlen rv x
  refine wpAny_mono (ht.run [] s1 (start N vs) H _ J hq) ?_ (fun _ _ q => q)
  intro fl s' q
  cases fl with
  | next =>
    obtain ⟨σ', H', J', q'⟩ := q
    exact ⟨V.non, H', J'.os, J'.bare, J'.base, J'.hok, rfl, q'⟩
  | ret u =>
    obtain ⟨v, σ', H', J', rr, q'⟩ := q
    exact ⟨v, H', J'.os, J'.bare, J'.base, J'.hok, rr, q'⟩
  | cont =>
    obtain ⟨_, _, _, q'⟩ := q
    exact q'.elim
  | brk =>
    obtain ⟨_, _, _, q'⟩ := q
    exact q'.elim
end
section
variable {X : Cx} {CX : CXT} {k : Nat} {f : Addr} {fd : FuncData} {ps : List Str} {sp : Sp} {dvs : List V} {ds : List Value} {E : XK} {x : Str} {p pos : Pos} {e : Expr} {es : List Expr} {t : TA}
theorem run_g {pins : List (Addr × Obj)} {σ : L2.St} {H : Hp} {s : Shared} {Q : VK} {us : List Value} {vs : List V} (F : FnG X.prog X.w X.K X.mg X.base CX k f fd ps sp) (hr : RoomG k X.A) (hb : Binds X.K fd ps ds) (hd : Vals dvs ds)
    (hx : Passes CX X E) (I : Inv X pins σ H s) (rv : Vals vs us) (q : sp (vs ++ dvs) H Q E) : wpAny (model X.prog X.w) X.A (call (.ref f) us) (EP X pins σ Q) X.xe s := by
  have rr := Vals.append rv hd
  have hl : (us ++ ds).length = ps.length := (Vals.length rr).symm.trans (F.len _ _ _ _ q)
  refine wpAny_call (codeAny_mono (F.run X.A X.stack s H ⟨us, []⟩ _ _ Q E hr I.env0 (hb s us I.kIn hl) rr q) ?_)
  rintro (er | fl) s' hq
  · exact hx pins σ H s er s' I hq
  · cases fl with
    | ret u => exact I.after hq
    | cont => exact hq.elim
    | brk => exact hq.elim
    | next => exact hq.elim
/-- f(e, ..) of such a def -/
theorem pe_callG (F : FnG X.prog X.w X.K X.mg X.base CX k f fd ps sp) (hr : RoomG k X.A) (hg : Gl X x) (hm : X.mg x = some (.ref f)) (hk : PySem.W.keepIn X.K (.ref f) = true) (hb : Binds X.K fd ps ds) (hd : Vals dvs ds)
    (hx : Passes CX X E) (ha : PA X (e :: es) t) (hdb : (x == ("__debug__" : Str)) = false := by decide)
    (he : starEach (e :: es) X.env = (false, eval e X.env) :: starEach es X.env := by rfl) (hpl : (backTo pos (starEach es X.env)).any (·.1) = false := by rfl) :
    PE X (.Call (.Name x p) (e :: es) [] pos) (tCall sp dvs E t) := by
  constructor
  intro pins s σ H Q I h
  refine wpAny_Call_Name_kw (ld_glob I hg hm ?_ hdb)
  refine PySem.W.callWith_K (h₀ := X.base) I.ok.mod.kin hk ?_ he hpl
  refine thn (ha.run pos pins s σ H _ I h) ?_
  rintro us s1 ⟨vs, H1, J, rv, q⟩
  exact ⟨J.kIn, run_g F hr hb hd hx J rv q⟩
end
/-! ### the law's end -/
theorem law_end {P : Program} {w : World} {K : PySem.W.Frag} {mg mb : Str → Option Value} {k : Nat} {fa a : Addr} {fd : FuncData} {x : Str} {sp : Sp} {s : Shared} {vs : List Value} {ns : List Int}
    (KX : K.In s.heap) (hm : s.heap.Ns mainGlobals mg) (hb : s.heap.Ns builtinsNs mb) (hbb : ∀ x : Str, x ≠ "__name__" → mb x = bootBuiltins x) (nolim : s.heap.NoLimit) (hg : s.gens = #[])
    (ha : s.heap.get? a = some { cls := .type "list", data := .seq vs.toArray }) (hi : IntsAre vs ns) (hl : ns.length ≤ sizeLine) (hr : RoomG k callerA)
    (F : ∀ bs : Heap, K.In bs → bs.Ns mainGlobals mg → FnG P w K mg bs CX0 k fa fd [x] sp) (bind : ∀ (s : Shared) (u : Value), BindsTo s fd ⟨[u], []⟩ [(x, u)])
    (hsp : ∀ H : Hp, Only H → SqL K H a (ns.map V.int) → sp [.ref a] H (fun v _ => v = .bl true) fun _ _ _ => False) :
    codeAny (model P w) callerA (.call (.ref fa) ⟨[.ref a], []⟩) (fun r s' => r = .ok (.ret (.bool true)) ∧ OldK s.heap s'.heap ∧ s'.os = s.os ∧ AllBare s'.gens) s := by
  have hv := vals_ints hi
  have hvl := hi.length
  have main : ∀ H : Hp, Only H → SqL K H a (ns.map V.int) → HOk P w H s.heap → (∀ b, H b ≠ none → b = a) → (H a ≠ none → K.lookup a = none) →
      codeAny (model P w) callerA (.call (.ref fa) ⟨[.ref a], []⟩) (fun r s' => r = .ok (.ret (.bool true)) ∧ OldK s.heap s'.heap ∧ s'.os = s.os ∧ AllBare s'.gens) s := by
    intro H only hS ok only_a off
    have free_of : ∀ {b : Addr} {o : Obj} {es : Array DictEntry} {ep : Nat}, s.heap.get? b = some o → o.data = .dict es ep → H b = none := by
      intro b o es ep e d
      refine Decidable.byContradiction fun q => ?_
      have eb := only_a b q
      rw [eb, ha] at e
      have eo := Option.some.inj e
      rw [← eo] at d
      cases d
    have ns_of : ∀ {b : Addr} {m : Str → Option Value}, s.heap.Ns b m → (hidT s.heap H).Ns b m := by
      rintro b m ⟨o, es, ep, e, d, r⟩
      exact ⟨o, es, ep, hidT_get e (free_of e d), d, r⟩
    have kin : K.In (hidT s.heap H) := by
      intro b o e
      refine hidT_get (KX b o e) (Decidable.byContradiction fun q => ?_)
      have eb := only_a b q
      rw [eb] at q e
      rw [off q] at e
      cases e
    obtain ⟨mc, l1, l2⟩ := nolim
    have md : Mod K mg (hidT s.heap H) := { kin := kin, glob := ns_of hm, blt := ⟨mb, ns_of hb, hbb⟩, nolimit := ⟨mc, ns_of l1, l2⟩ }
    have z : Env0 P w K mg (hidT s.heap H) callerA [] s H := {
      frames := rfl, mod := md, bs := fun b o e => of_hidT e, bsz := Nat.le_of_eq (hidT_size s.heap H), funs := trivial
      frf := (fun b q => absurd (show b ∈ ([] : List Addr) from q) List.not_mem_nil), hok := ok, bare := .of_eq hg }
    refine codeAny_mono ((F _ kin (ns_of hm)).run callerA [] s H ⟨[.ref a], []⟩ [.ref a] [.ref a] _ _ hr z (bind s (.ref a)) (.cons rfl .nil) (hsp H only hS)) ?_
    rintro (er | fl) s' q
    · exact q.elim
    cases fl with
    | next => exact q.elim
    | brk => exact q.elim
    | cont => exact q.elim
    | ret u =>
      obtain ⟨v, H', os, bare, un, ok', rv, ev⟩ := q
      have ev' : v = .bl true := ev
      subst ev'
      cases (show u = Value.bool true from rv)
      refine ⟨rfl, OldK.of_keep (fun b o e => ?_), os, bare⟩
      cases hb0 : H b with
      | none => exact un.keep b o e hb0 (fun q => absurd (show b ∈ ([] : List Addr) from q) List.not_mem_nil) (fun q => absurd q List.not_mem_nil)
      | some u =>
        cases only b with
        | inl n =>
          rw [n] at hb0
          cases hb0
        | inr n =>
          obtain ⟨ob, xs, n⟩ := n
          obtain ⟨c1, _⟩ := ok b _ n
          obtain ⟨c2, _⟩ := ok' b _ (un.frzs b ob _ n)
          rw [c1] at e
          rw [← Option.some.inj e]
          exact c2
  cases hk : K.lookup a with
  | none =>
    let H0 : Hp := fun b => if b = a then some (.frz { cls := .type "list", data := .seq vs.toArray } (.lst (ns.map V.int))) else none
    have at_a : H0 a = some (.frz { cls := .type "list", data := .seq vs.toArray } (.lst (ns.map V.int))) := if_pos rfl
    have off_a : ∀ b, b ≠ a → H0 b = none := fun b h => if_neg h
    refine main H0 (fun b => ?_) (.inl (.inr ⟨_, at_a⟩)) (fun b u q => ?_) (fun b q => ?_) (fun _ => hk)
    · by_cases h : b = a
      · rw [h]
        exact Or.inr ⟨_, _, at_a⟩
      · exact Or.inl (off_a b h)
    · by_cases h : b = a
      · rw [h] at q ⊢
        rw [at_a] at q
        cases q
        exact ⟨ha, (by rw [List.length_map]; exact hl), vs, _, hv, ha⟩
      · rw [off_a b h] at q
        cases q
    · exact Decidable.byContradiction fun h => q (off_a b h)
  | some o =>
    have e := KX a o hk
    rw [ha] at e
    cases e
    refine main (fun _ => none) (fun _ => Or.inl rfl) (Or.inr ⟨_, vs.toArray, _, hk, rfl, rfl, rfl, ?_, by simpa using hv⟩) (fun b u q => ?_) (fun b q => (q rfl).elim) (fun q => (q rfl).elim)
    · rw [List.size_toArray, hvl]
      exact hl
    · cases (show (none : Option HO) = some u from q)
theorem walk_g {l : PySem.W.OpenLaw} {n k : Nat} {q : Program} {loose : List Str} {XP : (Str → Option Value) → Heap → Prop} {YP : World → Heap → Prop} {d : DefRec} {x : Str}
    (hn : l.most = some n) (hn2 : n ≤ sizeLine) (hdf : d.params.defaults = []) (hr : RoomG k callerA)
    (F : ∀ (w : World) (mg : Str → Option Value) (fa : Addr) (h : Heap), YP w h → h.Ns mainGlobals mg → mg d.name = some (.ref fa) →
      ∃ (K : PySem.W.Frag) (fd : FuncData) (sp : Sp), K.In h ∧ (∀ (s : Shared) (u : Value), BindsTo s fd ⟨[u], []⟩ [(x, u)]) ∧
        (∀ (H : Hp) (a : Addr) (ns : List Int), ns.length ≤ n → (∀ z ∈ ns, Builtin.Int.intBits z ≤ 1048576) → SqL K H a (ns.map V.int) → sp [.ref a] H (fun v _ => v = .bl true) fun _ _ _ => False) ∧
        ∀ bs : Heap, K.In bs → bs.Ns mainGlobals mg → FnG l.prog w K mg bs CX0 k fa fd [x] sp) :
    PySem.W.WalkO q loose XP YP l.row.toRowW d [] (fun f vs => PySem.call f vs) := by
  refine Att.attach_callB hn hdf ?_
  intro w s₀ s mg mb fa o pm cd doc a vs ns G Y _ _ _ hmg hobj hints hlen hbits hg
  obtain ⟨K, fd, sp, KX, hb, hsp, hF⟩ := F w mg fa _ Y G.T.g hmg
  exact law_end KX G.T.g G.T.b G.T.builtins G.T.nolimit hg hobj hints (Nat.le_trans hlen hn2) hr hF hb (fun H _ hS => hsp H a ns hlen hbits hS)
end MX

set_option Elab.async false
set_option linter.all false
set_option maxRecDepth 100000
set_option maxHeartbeats 4000000
namespace MX
open PySem PySem.Spec PySem.W PySem.Calls PyProof.Rows L2
/-! ### data, dicts too, as the abstract heap holds them -/
def kD : Key → PyData
  | .inl i => .int i
  | .inr x => .str x
inductive Dq (H : Hp) : V → PyData → Prop
  | non : Dq H .non .none
  | bl (b : Bool) : Dq H (.bl b) (.bool b)
  | int (i : Int) : Dq H (.int i) (.int i)
  | str (x : Str) : Dq H (.str x) (.str x)
  | lst {a : Addr} {xs : List V} {ds : List PyData} : H a = some (.lst xs) → a ≠ sysModules → xs.length = ds.length → (∀ (i : Nat) (x : V) (d : PyData), xs[i]? = some x → ds[i]? = some d → Dq H x d) → Dq H (.ref a) (.list ds)
  | tup {a : Addr} {xs : List V} {ds : List PyData} : H a = some (.tup xs) → xs.length = ds.length → (∀ (i : Nat) (x : V) (d : PyData), xs[i]? = some x → ds[i]? = some d → Dq H x d) → Dq H (.ref a) (.tuple ds)
  | dct {a : Addr} {kvs : List (Key × V)} {ds : List (PyData × PyData)} : H a = some (.dK kvs) → kvs.map (fun p => kD p.1) = ds.map (·.1) → (∀ (i : Nat) (x : V) (d : PyData), (kvs.map (·.2))[i]? = some x → (ds.map (·.2))[i]? = some d → Dq H x d) → Dq H (.ref a) (.dict ds)
theorem Dq.same {H H' : Hp} {v : V} {d : PyData} (h : Dq H v d) (s : Same H H') : Dq H' v d := by
  induction h with
  | non => exact .non
  | bl b => exact .bl b
  | int i => exact .int i
  | str x => exact .str x
  | lst e n l _ ih => exact .lst (s _ _ e) n l ih
  | tup e l _ ih => exact .tup (s _ _ e) l ih
  | dct e l _ ih => exact .dct (s _ _ e) l ih
/-- only what is reached must stay: lists, tuples, dicts -/
theorem Dq.stay {H H' : Hp} {v : V} {d : PyData} (h : Dq H v d) (s : ∀ b o, H b = some o → (∃ xs, o = .lst xs) ∨ (∃ xs, o = .tup xs) ∨ (∃ xs, o = .dK xs) → H' b = some o) : Dq H' v d := by
  induction h with
  | non => exact .non
  | bl b => exact .bl b
  | int i => exact .int i
  | str x => exact .str x
  | lst e n l _ ih => exact .lst (s _ _ e (.inl ⟨_, rfl⟩)) n l ih
  | tup e l _ ih => exact .tup (s _ _ e (.inr (.inl ⟨_, rfl⟩))) l ih
  | dct e l _ ih => exact .dct (s _ _ e (.inr (.inr ⟨_, rfl⟩))) l ih
theorem reads_all {h : Heap} : ∀ (us : List Value) (ds : List PyData), us.length = ds.length → (∀ (i : Nat) u d, us[i]? = some u → ds[i]? = some d → ∃ as, Reads h u d as ∧ sysModules ∉ as) → ∃ as, ReadsAll h us ds as ∧ sysModules ∉ as
  | [], [], _, _ => ⟨[], .nil, List.not_mem_nil⟩
  | [], _ :: _, l, _ => by cases l
  | _ :: _, [], l, _ => by cases l
  | u :: us, d :: ds, l, f => by
    obtain ⟨as, r1, n1⟩ := f 0 u d rfl rfl
    obtain ⟨bs, r2, n2⟩ := reads_all us ds (Nat.succ.inj l) (fun i x e h1 h2 => f (i + 1) x e (by simpa using h1) (by simpa using h2))
    exact ⟨as ++ bs, .cons r1 r2, fun q => (List.mem_append.mp q).elim n1 n2⟩
theorem vals_at {xs : List V} {us : List Value} (r : Vals xs us) {i : Nat} {u : Value} (e : us[i]? = some u) : ∃ x, xs[i]? = some x ∧ RelV x u := by
  cases q : xs[i]? with
  | none =>
    have z := Vals.none_of r q
    rw [z] at e
    cases e
  | some x =>
    obtain ⟨u', e', ru⟩ := Vals.get r q
    rw [e] at e'
    cases e'
    exact ⟨x, rfl, ru⟩
theorem kv_vals {κ : Type} {kvs : List (κ × V)} {vs : List (κ × Value)} (r : KV kvs vs) : Vals (kvs.map (·.2)) (vs.map (·.2)) := by
  induction r with
  | nil => exact .nil
  | cons a _ ih => exact .cons a.2 ih
theorem kv_keys {κ : Type} {kvs : List (κ × V)} {vs : List (κ × Value)} (r : KV kvs vs) : kvs.map (·.1) = vs.map (·.1) := by
  induction r with
  | nil => rfl
  | cons a _ ih => rw [List.map_cons, List.map_cons, a.1, ih]
theorem pairs_vals {P : Program} {w : World} {es : List DictEntry} {vs : List (Key × Value)} (p : Pairs (mixKind P w) es vs) : es.map (·.val) = vs.map (·.2) := by
  induction p with
  | nil => rfl
  | cons _ e _ ih => rw [List.map_cons, List.map_cons, e, ih]
theorem pairs_keys {h : Heap} {P : Program} {w : World} {es : List DictEntry} {vs : List (Key × Value)} (p : Pairs (mixKind P w) es vs) : ReadsAll h (es.map (·.key)) (vs.map fun q => kD q.1) [] := by
  induction p with
  | nil => exact .nil
  | @cons e kv es kvs hk _ _ ih =>
    have r : Reads h e.key (kD kv.1) [] := by
      rcases keyIs_shape (show keyIs kv.1 e.key = true from hk) with ⟨i, t, e1, e2⟩ | ⟨x, t, e1, e2⟩
      · rw [e1, e2]
        exact .int i t
      · rw [e1, e2]
        exact .str x t
    exact ReadsAll.cons r ih
theorem Dq.reads {P : Program} {w : World} {H : Hp} {h : Heap} (ok : HOk P w H h) {v : V} {d : PyData} (q : Dq H v d) : ∀ u, RelV v u → ∃ as, Reads h u d as ∧ sysModules ∉ as := by
  induction q with
  | non =>
    intro u r
    cases r
    exact ⟨_, .none, List.not_mem_nil⟩
  | bl b =>
    intro u r
    cases r
    exact ⟨_, .bool b, List.not_mem_nil⟩
  | int i =>
    intro u r
    obtain ⟨t, rfl⟩ := r
    exact ⟨_, .int i t, List.not_mem_nil⟩
  | str x =>
    intro u r
    obtain ⟨t, rfl⟩ := r
    exact ⟨_, .str x t, List.not_mem_nil⟩
  | @lst a xs ds e n l _ ih =>
    intro u r
    cases r
    obtain ⟨_, its, m, rv, ho⟩ := (show ObjOk P w H h a (.lst xs) from ok a _ e)
    have il : its.length = ds.length := (Vals.length rv).symm.trans l
    obtain ⟨as, ra, na⟩ := reads_all its ds il (fun i u d h1 h2 => by
      obtain ⟨x, hx, rx⟩ := vals_at rv h1
      exact ih i x d hx h2 u rx)
    exact ⟨a :: as, Reads.list ho rfl rfl (by simpa using ra), fun z => (List.mem_cons.mp z).elim (fun z => n z.symm) na⟩
  | @tup a xs ds e l _ ih =>
    intro u r
    cases r
    obtain ⟨_, its, rv, o, ho, hc, m, hd⟩ := (show ObjOk P w H h a (.tup xs) from ok a _ e)
    have il : its.length = ds.length := (Vals.length rv).symm.trans l
    obtain ⟨as, ra, na⟩ := reads_all its ds il (fun i u d h1 h2 => by
      obtain ⟨x, hx, rx⟩ := vals_at rv h1
      exact ih i x d hx h2 u rx)
    exact ⟨as, Reads.tuple ho hc hd (by simpa using ra), na⟩
  | @dct a kvs ds e l _ ih =>
    intro u r
    cases r
    obtain ⟨_, nsm, vs, kv, o, es, ep, ho, hx, hd, _, hp, _⟩ := (show ObjOk P w H h a (.dK kvs) from ok a _ e)
    have rv := kv_vals kv
    have ll : kvs.length = ds.length := by simpa using congrArg List.length l
    have il : (vs.map (·.2)).length = (ds.map (·.2)).length := by
      rw [← Vals.length rv, List.length_map, List.length_map]
      exact ll
    obtain ⟨as, ra, na⟩ := reads_all (vs.map (·.2)) (ds.map (·.2)) il (fun i u d h1 h2 => by
      obtain ⟨x, hx', rx⟩ := vals_at rv h1
      exact ih i x d hx' h2 u rx)
    have rk := pairs_keys (h := h) hp
    have ek : (vs.map fun q => kD q.1) = ds.map (·.1) := by
      rw [← l]
      have z := congrArg (List.map kD) (kv_keys kv)
      rw [List.map_map, List.map_map] at z
      exact z.symm
    rw [ek] at rk
    rw [← pairs_vals hp] at ra
    refine ⟨a :: [] ++ as, Reads.dict ho hx.1 hd rk ra, fun z => ?_⟩
    have z' : sysModules = a ∨ sysModules ∈ as := by simpa using z
    rcases z' with z | z
    · rw [← z] at nsm
      simp at nsm
    · exact na z
/-! ### repr -/
/-- what may be shown -/
structure Shows (d : PyData) : Prop where
  s : d.showable = true
  p : d.depth ≤ 60
  z : d.shown.length ≤ sizeLine
def rRepr : List V → Hp → VK → Prop := fun xs H Q => ∃ v d, xs = [v] ∧ Dq H v d ∧ Shows d ∧ Q (.str d.shown) H
theorem call_repr {X : Cx} (hg : X.A.guards = some []) (hu : X.A.units + 64 < cLine) : CallR X (.builtin "repr") rRepr := by
  intro pins s σ H xs us Q I r h
  obtain ⟨v, d, rfl, hq, sh, q⟩ := h
  obtain ⟨u, rfl, ru⟩ : ∃ u, us = [u] ∧ RelV v u := by
    cases r with
    | cons a b =>
      cases b
      exact ⟨_, rfl, a⟩
  obtain ⟨as, rd, nsm⟩ := hq.reads I.hok u ru
  have hd : X.A.units + (d.depth + 1) < cLine := by have := sh.p; omega
  cases hq with
  | non =>
    cases ru
    exact P.repr_of_none ⟨.str _, H, I.tok _, ⟨_, rfl⟩, by simpa only [PyData.shown] using q⟩
  | bl b =>
    cases ru
    exact P.repr_of_bool ⟨.str _, H, I.tok _, ⟨_, rfl⟩, by simpa only [PyData.shown] using q⟩
  | int i =>
    obtain ⟨t, rfl⟩ := ru
    exact P.repr_of_int (by simpa [PyData.showable] using sh.s) ⟨.str _, H, I.tok _, ⟨_, rfl⟩, by simpa only [PyData.shown] using q⟩
  | str x =>
    obtain ⟨t, rfl⟩ := ru
    exact P.repr_of_str ⟨.str _, H, I.tok _, ⟨_, rfl⟩, by simpa only [PyData.shown] using q⟩ (by simpa only [PyData.shown] using sh.z)
  | lst _ _ _ _ =>
    cases ru
    exact repr_of_reads' rd sh.s (fun _ => nsm) hg hd (fun _ _ e => e) (fun h' u tk k => ⟨.str _, H, I.kept (t' := tk) k, ⟨_, rfl⟩, q⟩) sh.z
  | tup _ _ _ =>
    cases ru
    exact repr_of_reads' rd sh.s (fun _ => nsm) hg hd (fun _ _ e => e) (fun h' u tk k => ⟨.str _, H, I.kept (t' := tk) k, ⟨_, rfl⟩, q⟩) sh.z
  | dct _ _ _ =>
    cases ru
    exact repr_of_reads' rd sh.s (fun _ => nsm) hg hd (fun _ _ e => e) (fun h' u tk k => ⟨.str _, H, I.kept (t' := tk) k, ⟨_, rfl⟩, q⟩) sh.z
/-! ### a new list, and that it is not sys.modules -/
def tLstN (t : TA) : TE := fun σ H Q => t σ H fun xs H1 => xs.length ≤ sizeLine ∧ ∀ p, H1 p = none → p ≠ sysModules → Q (.ref p) (upd H1 p (.lst xs))
theorem pe_lstN {X : Cx} {es : List Expr} {t : TA} {pos : Pos} (h : PA X es t) : PE X (.List es pos) (tLstN t) := by
  constructor
  intro pins s σ H Q I hq
  refine wpAny_List_spliced (thn (h.run pos pins s σ H _ I hq) ?_)
  rintro us s1 ⟨xs, H1, J, rv, z, q⟩
  have n0 : H1 s1.heap.objs.size = none := J.hok.fresh (Nat.le_refl _)
  refine ⟨(Vals.length rv) ▸ z, .ref s1.heap.objs.size, upd H1 s1.heap.objs.size (.lst xs), J.laid (t' := s1.toks) (fun b u e => Heap.get?_push_of_some _ e) (Nat.le_refl _) ⟨z, us, 0, rv, Heap.get?_push_size _ rfl⟩, rfl, q _ n0 ?_⟩
  exact Nat.ne_of_gt J.big
/-! ### exceptions as values -/
/-- at a: an exception of the class at C, made with v -/
def ExcAt (H : Hp) (a C : Addr) (v : V) : Prop := ∃ d, H a = some (exo a C (some d)) ∧ H d = some (exd d [(("value" : Str), v)])
/-- C(e), a value -/
def tMkV (C : Addr) (sp : Sp) (ta : TA) : TE := fun σ H Q => ta σ H fun vs H1 => vs.length ≤ 1000 ∧ ∀ a, H1 a = none → sp (.ref a :: vs) (upd H1 a (exo a C none)) (fun v H2 => v = .non ∧ Q (.ref a) H2) (fun _ _ _ => False)
theorem pe_mkV {X : Cx} {CX : CXT} {C fI : Addr} {k : Nat} {fd : FuncData} {ps : List Str} {sp : Sp} {x : Str} {p pos : Pos} {e : Expr} {es : List Expr} {ta : TA} (T : ExcT X.K C fI)
    (F : FnOk X.prog X.w X.K X.mg X.base CX k fI fd ps sp) (hr : Room (k + 1) X.A) (hb : Binds X.K fd ps []) (hx : Passes CX X (fun _ _ _ => False)) (hg : Gl X x) (hm : X.mg x = some (.ref C)) (ha : PA X (e :: es) ta)
    (hdb : (x == ("__debug__" : Str)) = false := by decide) (he : starEach (e :: es) X.env = (false, eval e X.env) :: starEach es X.env := by rfl) (hpl : (backTo pos (starEach es X.env)).any (·.1) = false := by rfl) :
    PE X (.Call (.Name x p) (e :: es) [] pos) (tMkV C sp ta) := by
  constructor
  intro pins s σ H Q I h
  obtain ⟨nm, qn, N, bs, bm, sn, sub, ab, col, dd, k0, k1, k2, k3, k5, hC, hbm⟩ := T.oex.cls
  refine wpAny_Call_Name_kw (ld_glob I hg hm ?_ hdb)
  refine PySem.W.callWith_K (h₀ := X.base) I.ok.mod.kin T.oex.kC ?_ he hpl
  refine thn (ha.run pos pins s σ H _ I h) ?_
  rintro us ⟨hp, g, dr, tk, os⟩ ⟨vs, H1, J, rv, hz, q⟩
  refine ⟨J.kIn, ?_⟩
  have sz : hp.objs.size ≤ hp.objs.size + 1 := Nat.le_succ _
  have n1 : H1 (hp.objs.size + 1) = none := J.hok.fresh sz
  have q1 := q (hp.objs.size + 1) n1
  have keep : ∀ b o, hp.get? b = some o → ((hp.push (PySem.W.kdv_tup us)).push (PySem.HandSPX.excO C hp.objs.size)).get? b = some o := fun b o e => Heap.get?_push_of_some _ (Heap.get?_push_of_some _ e)
  have got : ((hp.push (PySem.W.kdv_tup us)).push (PySem.HandSPX.excO C hp.objs.size)).get? (hp.objs.size + 1) = some (PySem.HandSPX.excO C hp.objs.size) := by heap_get
  have J2 : Inv X pins σ (upd H1 (hp.objs.size + 1) (exo (hp.objs.size + 1) C none)) ⟨(hp.push (PySem.W.kdv_tup us)).push (PySem.HandSPX.excO C hp.objs.size), g, dr, tk, os⟩ :=
    J.laid (t' := tk) (a := hp.objs.size + 1) keep sz (exo_ok got)
  have rv2 : Vals (V.ref (hp.objs.size + 1) :: vs) (Value.ref (hp.objs.size + 1) :: us) := .cons rfl rv
  have hl : (Value.ref (hp.objs.size + 1) :: us ++ []).length = ps.length := by
    rw [List.append_nil, ← Vals.length rv2]
    exact F.len _ _ _ _ q1
  have hus : us.length ≤ sizeLine := by
    rw [← Vals.length rv, sizeLine_eq]
    omega
  have hbn : ∀ s' : Shared, X.K.In s'.heap → BindsTo s' fd ⟨Value.ref (hp.objs.size + 1) :: us, []⟩ (ps.zip (Value.ref (hp.objs.size + 1) :: us)) := fun s' k => by
    have z := hb s' (Value.ref (hp.objs.size + 1) :: us) k hl
    rw [List.append_nil] at z
    exact z
  show wpAny _ _ (call (.ref C) us) _ _ _
  refine wpAny_call (PySem.HandSPX.call_own PySem.F.excBase_ValueError (fun Y => PySem.HandSPX.refsVE_contains Y bm hbm) (J.kIn _ _ hC) (PySem.W.looks_findIn J.kIn T.ic) (fun self => PySem.W.bind_fn J.kIn self T.ti) hus ?_)
  refine codeAny_mono (F.run _ X.stack _ _ ⟨Value.ref (hp.objs.size + 1) :: us, []⟩ (Value.ref (hp.objs.size + 1) :: us) _ _ (fun _ _ _ => False) (hr.make C us []) (J2.env0.make C us []) (hbn _ J2.kIn) rv2 q1) ?_
  rintro (er | fl) s' hq
  · exact hx pins σ _ _ er s' J2 hq
  cases fl with
  | next => exact hq.elim
  | brk => exact hq.elim
  | cont => exact hq.elim
  | ret u =>
    obtain ⟨v, H2, os2, bare2, un2, ok2, rv', ev, q2⟩ := hq
    rw [ev] at rv'
    obtain rfl : u = Value.none := rv'
    exact ⟨rfl, .ref (hp.objs.size + 1), H2, J2.call' (ch := []) os2 un2 ok2 bare2 (fun b z => absurd z List.not_mem_nil), rfl, q2⟩
/-- MeetError.__init__ -/
def spErr (K : PySem.W.Frag) : Sp := fun vs H Q _ => ∃ (a C fI : Addr) (v : V), vs = [.ref a, v] ∧ ExcT K C fI ∧ H a = some (exo a C none) ∧
  ∀ dx, H dx = none → dx ≠ a → Q .non (upd (upd H dx (exd dx [(("value" : Str), v)])) a (exo a C (some dx)))
theorem inst_of {X : Cx} {pins : List (Addr × Obj)} {σ : L2.St} {H : Hp} {s : Shared} {a C d : Addr} {fs : List (Str × V)} (I : Inv X pins σ H s) (ea : H a = some (exo a C (some d))) (ed : H d = some (exd d fs)) :
    ∃ (t1 : Addr) (oD : Obj) (mA : Str → Option Value), PySem.W.InstAt s.heap a { cls := .ref C, dict := some d, data := .fields #[.ref t1, .none, .none, .none, .bool false, .none] } C (some oD) ∧ (∀ f, PySem.W.lookIn f oD = some (mA f)) ∧ ∀ f, RelO (fs.lookup f) (mA f) := by
  obtain ⟨t1, ho⟩ := exo_at I.hok ea
  obtain ⟨mA, hns, rel⟩ := exd_at I.hok ed
  obtain ⟨oD, hD, hl⟩ := lookIn_ns hns
  exact ⟨t1, oD, mA, ⟨ho, rfl, rfl, hD⟩, hl, rel⟩
/-- e.f of an exception that stands as a value -/
def tXa (K : PySem.W.Frag) (f : Str) (te : TE) : TE := fun σ H Q => te σ H fun x H1 => ∃ a C fI d fs v, x = .ref a ∧ ExcT K C fI ∧ PySem.W.findIn K (.ref C) f = some none ∧ H1 a = some (exo a C (some d)) ∧ H1 d = some (exd d fs) ∧ fs.lookup f = some v ∧ Q v H1
theorem pe_xa {X : Cx} {e : Expr} {te : TE} {pos : Pos} {f : Str} (he : PE X e te) (hb : attributeBase e f X.env (eval e X.env) = eval e X.env := by rfl) : PE X (.Attribute e f pos) (tXa X.K f te) := by
  constructor
  intro pins s σ H Q I h
  refine attr_of hb (thn (he.run pins s σ H _ I h) ?_)
  rintro u s1 ⟨x, H1, J, rx, a, C, fI, d, fs, v, ex, T, hno, ea, ed, el, q⟩
  subst ex
  obtain rfl : u = Value.ref a := rx
  obtain ⟨t1, oD, mA, io, hl, rel⟩ := inst_of J ea ed
  obtain ⟨u, hu, ru⟩ := RelO.some_of (v := v) (o := mA f) (by rw [← el]; exact rel f)
  exact HandSPX.exc_get J.kIn io T.ga T.gg T.oex.exC (PySem.W.findObj_own T.hd hno rfl (by rw [hl, hu])) (handed_of ru) ⟨v, H1, J.tok _, ru, q⟩
/-- isinstance(e, c) of an exception that stands as a value -/
def rIsX (K : PySem.W.Frag) : List V → Hp → VK → Prop := fun xs H Q => ∃ (a C fI d : Addr) (fs : List (Str × V)) (c : V) (cv : Value) (b : Bool), xs = [.ref a, c] ∧ ExcT K C fI ∧ H a = some (exo a C (some d)) ∧ H d = some (exd d fs) ∧
  (∀ u, RelV c u → u = cv) ∧ PySem.W.kitOne K (.ref C) cv = some b ∧ Q (.bl b) H
theorem call_isX {X : Cx} : CallR X (.builtin "isinstance") (rIsX X.K) := by
  intro pins s σ H xs us Q I r h
  obtain ⟨a, C, fI, d, fs, c, cv, b, rfl, T, ea, ed, hc, hk, q⟩ := h
  cases r with
  | cons ra rr =>
    cases rr with
    | cons rc rn =>
      cases rn
      cases ra
      have e := hc _ rc
      subst e
      obtain ⟨t1, oD, mA, io, _, _⟩ := inst_of I ea ed
      exact PySem.W.kia_one (PySem.W.kitx_exc T.cl T.ga T.gg T.oex.exC T.ha T.hn T.ht T.hm) I.kIn io hk (fun z => nomatch z) fun tk => ⟨.bl b, H, I.kept (t' := tk) fun _ _ z => z, rfl, q⟩
end MX

set_option Elab.async false
set_option linter.all false
set_option maxRecDepth 100000
set_option maxHeartbeats 4000000
namespace MX
open PySem PySem.Spec PySem.W PySem.Calls PyProof.Rows L2
theorem pe_weak {X : Cx} {e : Expr} {t t' : TE} (h : PE X e t) (f : ∀ σ H Q, t' σ H Q → t σ H Q) : PE X e t' := ⟨fun pins s σ H Q I q => h.run pins s σ H Q I (f σ H Q q)⟩
theorem pa_weak {X : Cx} {es : List Expr} {t t' : TA} (h : PA X es t) (f : ∀ σ H Q, t' σ H Q → t σ H Q) : PA X es t' := ⟨fun pos pins s σ H Q I q => h.run pos pins s σ H Q I (f σ H Q q)⟩
/-! ### powers of great ints -/
def CPowW (i j : Int) : Prop := 0 ≤ j ∧ (Builtin.Int.intBits i : Int) * j ≤ 2 ^ 27
theorem op_powW {X : Cx} : OpR X (binaryOp .Pow) (rI CPowW fun i j => .int (i ^ j.toNat)) := opI fun _ _ _ _ _ _ _ hc q => pow_int hc.1 hc.2 q
/-! ### heaps -/
/-- what is new in H' -/
def newIn (H H' : Hp) : Hp := fun b => match H b with
  | none => H' b
  | some _ => none
theorem newIn_of {H H' : Hp} {b : Addr} {o : HO} (h : H b = none) (h' : H' b = some o) : newIn H H' b = some o := by
  unfold newIn
  rw [h]
  exact h'
theorem newIn_inv {H H' : Hp} {b : Addr} {o : HO} (h : newIn H H' b = some o) : H b = none ∧ H' b = some o := by
  unfold newIn at h
  cases e : H b with
  | none =>
    rw [e] at h
    exact ⟨rfl, h⟩
  | some u =>
    rw [e] at h
    cases h
theorem newIn_same {H H' : Hp} : Same (newIn H H') H' := fun b o h => (newIn_inv h).2
/-- all but what stands at p stays -/
def Ext (p : Addr) (H H' : Hp) : Prop := ∀ b o, b ≠ p → H b = some o → H' b = some o
theorem Ext.refl {p : Addr} (H : Hp) : Ext p H H := fun _ _ _ h => h
theorem Ext.trans {p : Addr} {H H1 H2 : Hp} (a : Ext p H H1) (b : Ext p H1 H2) : Ext p H H2 := fun c o n h => b c o n (a c o n h)
theorem Ext.of {p : Addr} {H H' : Hp} (s : Same H H') : Ext p H H' := fun b o _ h => s b o h
theorem Ext.upd (p : Addr) (H : Hp) (o : HO) : Ext p H (upd H p o) := fun b u n h => (upd_ne n).trans h
theorem same_new {H : Hp} {p : Addr} {o : HO} (h : H p = none) : Same H (upd H p o) := fun b u e => (upd_ne (ne_of_none e h)).trans e
theorem newIn_ext {p : Addr} {H H1 H2 : Hp} (hp : H p ≠ none) (e : Ext p H1 H2) : Same (newIn H H1) (newIn H H2) := fun b o h => by
  obtain ⟨h0, h1⟩ := newIn_inv h
  exact newIn_of h0 (e b o (fun z => hp (z ▸ h0)) h1)
theorem newIn_mono {H H1 H2 : Hp} (e : Same H1 H2) : Same (newIn H H1) (newIn H H2) := fun b o h => by
  obtain ⟨h0, h1⟩ := newIn_inv h
  exact newIn_of h0 (e b o h1)
theorem newIn_pre {p : Addr} {H H1 H2 : Hp} (hp : H1 p ≠ none) (e : Ext p H H1) : Same (newIn H1 H2) (newIn H H2) := fun b o h => by
  obtain ⟨h0, h1⟩ := newIn_inv h
  refine newIn_of ?_ h1
  cases q : H b with
  | none => rfl
  | some u =>
    by_cases hb : b = p
    · rw [hb] at h0
      exact absurd h0 hp
    · rw [e b u hb q] at h0
      cases h0
theorem newIn_preS {H H1 H2 : Hp} (e : Same H H1) : Same (newIn H1 H2) (newIn H H2) := fun b o h => by
  obtain ⟨h0, h1⟩ := newIn_inv h
  exact newIn_of (e.free h0) h1
/-! ### written data -/
/-- a display that is data, all of it new -/
def tDat (d : PyData) : TE := fun _ H Q => ∀ v H', Same H H' → Dq (newIn H H') v d → Q v H'
inductive Dqs (H : Hp) : List V → List PyData → Prop
  | nil : Dqs H [] []
  | cons {v : V} {d : PyData} {vs : List V} {ds : List PyData} : Dq H v d → Dqs H vs ds → Dqs H (v :: vs) (d :: ds)
theorem Dqs.len {H : Hp} {vs : List V} {ds : List PyData} (h : Dqs H vs ds) : vs.length = ds.length := by
  induction h with
  | nil => rfl
  | cons _ _ ih => rw [List.length_cons, List.length_cons, ih]
theorem Dqs.at_ {H : Hp} {vs : List V} {ds : List PyData} (h : Dqs H vs ds) : ∀ (i : Nat) (x : V) (d : PyData), vs[i]? = some x → ds[i]? = some d → Dq H x d := by
  induction h with
  | nil =>
    intro i x d h1
    simp at h1
  | @cons v d vs ds a _ ih =>
    intro i x e h1 h2
    cases i with
    | zero =>
      simp at h1 h2
      rw [← h1, ← h2]
      exact a
    | succ i => exact ih i x e (by simpa using h1) (by simpa using h2)
theorem Dqs.same {H H' : Hp} {vs : List V} {ds : List PyData} (h : Dqs H vs ds) (s : Same H H') : Dqs H' vs ds := by
  induction h with
  | nil => exact .nil
  | cons a _ ih => exact .cons (a.same s) ih
theorem Dqs.append {H : Hp} {vs ws : List V} {ds es : List PyData} (h : Dqs H vs ds) (k : Dqs H ws es) : Dqs H (vs ++ ws) (ds ++ es) := by
  induction h with
  | nil => exact k
  | cons a _ ih => exact .cons a ih
def tDats (ds : List PyData) : TA := fun _ H Q => ∀ vs H', Same H H' → Dqs (newIn H H') vs ds → Q vs H'
section
variable {X : Cx} {e : Expr} {es : List Expr} {d : PyData} {ds : List PyData} {pos : Pos}
theorem pa_dnil : PA X [] (tDats []) := pa_weak pa_nil fun σ H Q q => q [] H (Same.refl H) .nil
theorem pa_dcons (h : PE X e (tDat d)) (t : PA X es (tDats ds)) (hs : starEach (e :: es) X.env = (false, eval e X.env) :: starEach es X.env := by rfl) : PA X (e :: es) (tDats (d :: ds)) :=
  pa_weak (pa_cons h t hs) fun σ H Q q v H1 s1 d1 vs H2 s2 d2 => q (v :: vs) H2 (s1.trans s2) (.cons (d1.same (newIn_mono s2)) (d2.same (newIn_preS s1)))
theorem pe_dint {i : Int} {k : Nat} : PE X (.Constant (.int i) k pos) (tDat (.int i)) := pe_weak pe_int fun σ H Q q => q (.int i) H (Same.refl H) (.int i)
theorem pe_dstr {x : Str} {k : Nat} : PE X (.Constant (.str x) k pos) (tDat (.str x)) := pe_weak pe_str fun σ H Q q => q (.str x) H (Same.refl H) (.str x)
theorem pe_dbl {b : Bool} {k : Nat} : PE X (.Constant (.bool b) k pos) (tDat (.bool b)) := pe_weak pe_bl fun σ H Q q => q (.bl b) H (Same.refl H) (.bl b)
theorem pe_dnon {k : Nat} : PE X (.Constant .none k pos) (tDat .none) := pe_weak pe_non fun σ H Q q => q .non H (Same.refl H) .non
theorem pe_dtup {x1} (h : PA X es (tDats ds)) (hl : ds.length ≤ 1000 := by decide) : PE X (.Tuple es x1 pos) (tDat (.tuple ds)) :=
  pe_weak (pe_tup h) fun σ H Q q vs H1 s1 d1 => ⟨by rw [d1.len, sizeLine_eq]; omega, fun p hp => q (.ref p) (upd H1 p (.tup vs)) (s1.trans (same_new hp))
    (.tup (newIn_of (s1.free hp) upd_same) d1.len fun i x d h1 h2 => (d1.at_ i x d h1 h2).same (newIn_mono (same_new hp)))⟩
theorem pe_dlst (h : PA X es (tDats ds)) (hl : ds.length ≤ 1000 := by decide) : PE X (.List es pos) (tDat (.list ds)) :=
  pe_weak (pe_lstN h) fun σ H Q q vs H1 s1 d1 => ⟨by rw [d1.len, sizeLine_eq]; omega, fun p hp np => q (.ref p) (upd H1 p (.lst vs)) (s1.trans (same_new hp))
    (.lst (newIn_of (s1.free hp) upd_same) np d1.len fun i x d h1 h2 => (d1.at_ i x d h1 h2).same (newIn_mono (same_new hp)))⟩
theorem pe_dnil : PE X (.Dict [] [] pos) (tDat (.dict [])) :=
  pe_weak pe_dnewK fun σ H Q q p hp => q (.ref p) (upd H p (.dK [])) (same_new hp) (.dct (newIn_of hp upd_same) rfl (fun i x d h => by simp at h))
/-- the same list, its items told -/
def tDatL (ds : List PyData) : TE := fun _ H Q => ∀ p vs H', Same H H' → H p = none → H' p = some (.lst vs) → Dqs (newIn H H') vs ds → Q (.ref p) H'
theorem pe_dlstL (h : PA X es (tDats ds)) (hl : ds.length ≤ 1000 := by decide) : PE X (.List es pos) (tDatL ds) :=
  pe_weak (pe_lst h) fun σ H Q q vs H1 s1 d1 => ⟨by rw [d1.len, sizeLine_eq]; omega, fun p hp => q p vs (upd H1 p (.lst vs)) (s1.trans (same_new hp)) (s1.free hp) upd_same (d1.same (newIn_mono (same_new hp)))⟩
end
/-! ### draws -/
/-- a pot at p from which at most n were drawn by the mixed way -/
def PotO (n : Nat) (o : HO) : Prop := ∃ a s c : Int, o = .lst [.int a, .int s, .int c] ∧ 0 ≤ a ∧ 0 ≤ s ∧ s < 2305843009213693951 ∧ 0 ≤ c ∧ c ≤ n
def Pot (n : Nat) (H : Hp) (p : Addr) : Prop := ∃ o, H p = some o ∧ PotO n o
theorem PotO.mono {m n : Nat} {o : HO} (h : PotO m o) (l : m ≤ n) : PotO n o := by
  obtain ⟨a, s, c, e, h1, h2, h3, h4, h5⟩ := h
  exact ⟨a, s, c, e, h1, h2, h3, h4, by omega⟩
theorem Pot.some {n : Nat} {H : Hp} {p : Addr} (h : Pot n H p) : H p ≠ none := by
  obtain ⟨o, e, _⟩ := h
  rw [e]
  exact fun z => nomatch z
theorem Pot.upd {n : Nat} {H : Hp} {p : Addr} {o : HO} (h : PotO n o) : Pot n (upd H p o) p := ⟨o, upd_same, h⟩
/-- _law_take(pot, upto) -/
def spTake : Sp := fun vs H Q _ => ∃ (p : Addr) (u : Int) (n : Nat), vs = [.ref p, .int u] ∧ Pot n H p ∧ n < 1000000 ∧ 0 < u ∧ u < 1000 ∧
  ∀ (r : Int) (H' : Hp), 0 ≤ r → r < u → Ext p H H' → Pot (n + 1) H' p → Q (.int r) H'
/-- _law_of(pot, some) -/
def spOf : Sp := fun vs H Q _ => ∃ (p l : Addr) (xs : List V) (n : Nat), vs = [.ref p, .ref l] ∧ Pot n H p ∧ n < 1000000 ∧ H l = some (.lst xs) ∧ l ≠ p ∧ 0 < xs.length ∧ xs.length < 1000 ∧
  ∀ (i : Nat) (x : V) (H' : Hp), xs[i]? = some x → Ext p H H' → Pot (n + 1) H' p → Q x H'
/-- _law_pot(script, k) -/
def spPot (K : PySem.W.Frag) : Sp := fun vs H Q _ => ∃ (a : Addr) (ns : List Int) (k : Nat), vs = [.ref a, .int (k : Int)] ∧ SqL K H a (ns.map V.int) ∧ ns.length ≤ 63 ∧ k < 100 ∧
  ∀ (p : Addr) (o : HO), H p = none → PotO 0 o → Q (.ref p) (L2.upd H p o)
/-- _law_places(script, most) -/
def spPlaces (K : PySem.W.Frag) (m : Nat) : Sp := fun vs H Q _ => ∃ (a : Addr) (ns : List Int), vs = [.ref a, .int (m : Int)] ∧ SqL K H a (ns.map V.int) ∧ ns.length ≤ 63 ∧
  ∀ (p : Addr) (H' : Hp) (t : Nat), Same H H' → H p = none → t ≤ max 1 m → H' p = some (.lst ((List.range t).map fun (i : Nat) => V.int (i : Int))) → Q (.ref p) H'
end MX
namespace MX
open PySem PySem.Spec PySem.W PySem.Calls PyProof.Rows L2
theorem pe_ddict1 {X : Cx} {pos p1 : Pos} {k1 : Nat} {x : Str} {e : Expr} {d : PyData} (h : PE X e (tDat d)) : PE X (.Dict [some (.Constant (.str x) k1 p1)] [e] pos) (tDat (.dict [(.str x, d)])) :=
  pe_weak (pe_disp (pps_cons pe_str h pps_nil) rfl rfl (by simp) (by show 1 ≤ 15; omega)) fun σ H Q q p hp => by
    show ∀ v H', Same (upd H p (.dK [])) H' → Dq (newIn (upd H p (.dK [])) H') v d → _
    intro v H' s1 d1
    refine ⟨s1 _ _ upd_same, [(Sum.inr x, v)], rfl, (by show 1 ≤ 15; omega), ?_⟩
    have hs : Same H (upd H' p (.dK (mergeK [] [(Sum.inr x, v)]))) := fun b o e => by
      have nb : b ≠ p := ne_of_none e hp
      rw [upd_ne nb]
      exact s1 b o ((upd_ne nb).trans e)
    refine q (.ref p) _ hs (.dct (kvs := [(Sum.inr x, v)]) (newIn_of hp upd_same) rfl ?_)
    intro i y z h1 h2
    cases i with
    | zero =>
      simp at h1 h2
      rw [← h1, ← h2]
      refine d1.same fun b o e => ?_
      obtain ⟨e0, e1⟩ := newIn_inv e
      have nb : b ≠ p := fun z => by
        rw [z, upd_same] at e0
        cases e0
      rw [upd_ne nb] at e0
      exact newIn_of e0 ((upd_ne nb).trans e1)
    | succ i => simp at h1
theorem pe_dneg {X : Cx} {pos p1 : Pos} {k1 : Nat} {i : Int} : PE X (.UnaryOp .USub (.Constant (.int i) k1 p1) pos) (tDat (.int (-i))) :=
  pe_weak (pe_un un_neg pe_int) fun σ H Q q => ⟨i, rfl, q (.int (-i)) H (Same.refl H) (.int (-i))⟩
theorem pe_dpow {X : Cx} {pos p1 p2 : Pos} {k1 k2 : Nat} {i j : Int} (h : CPow i j) : PE X (.BinOp (.Constant (.int i) k1 p1) .Pow (.Constant (.int j) k2 p2) pos) (tDat (.int (i ^ j.toNat))) :=
  pe_weak (pe_op op_pow pe_int pe_int) fun σ H Q q => ⟨i, j, rfl, rfl, h, q _ H (Same.refl H) (.int _)⟩
def tDatO (q : V → Hp → Prop) : TE := fun _ H Q => ∀ v H', Same H H' → q v H' → Q v H'
/-! ### menus of any kind -/
def oddD : List PyData := [.none, .bool true, .bool false, .int 0, .int 1, .int (-1), .int 2, .int 30, .str "", .str "a", .str "in", .str "out", .str "met", .tuple [], .list [], .dict [], .tuple [.int 0], .tuple [.tuple []], .list [.int 0], .tuple [.str "a"]]
  ++ [.dict [(.str "a", .int 1)], .tuple [.str "a", .str "in"], .tuple [.str "a", .str "b"], .tuple [.tuple [.str "a", .str "in"]], .tuple [.str "met", .str "a", .str "b"], .int 100000000, .list [.str "a"], .tuple [.tuple [.str "a", .str "in"], .str "a"]]
/-- _law_odd(pot) -/
def spOdd : Sp := fun vs H Q _ => ∃ (p : Addr) (n : Nat), vs = [.ref p] ∧ Pot n H p ∧ n < 1000000 ∧
  ∀ v d H', d ∈ oddD → Ext p H H' → Pot (n + 1) H' p → Dq (newIn H H') v d → Q v H'
end MX

set_option Elab.async false
set_option linter.all false
set_option maxRecDepth 100000
set_option maxHeartbeats 4000000
namespace MX
open PySem PySem.Spec PySem.W PySem.Calls PyProof.Rows L2
/-! ### many exceptions, made with one value -/
inductive Excs (H : Hp) (v : V) : List Addr → List Addr → Prop
  | nil : Excs H v [] []
  | cons {a C : Addr} {as Cs : List Addr} : ExcAt H a C v → Excs H v as Cs → Excs H v (a :: as) (C :: Cs)
theorem ExcAt.ext {H H' : Hp} {a C l : Addr} {v : V} {xs : List V} (h : ExcAt H a C v) (hl : H l = some (.lst xs)) (e : Ext l H H') : ExcAt H' a C v := by
  obtain ⟨d, ea, ed⟩ := h
  have na : a ≠ l := fun z => by
    rw [z, hl] at ea
    cases ea
  have nd : d ≠ l := fun z => by
    rw [z, hl] at ed
    cases ed
  exact ⟨d, e a _ na ea, e d _ nd ed⟩
theorem ExcAt.same {H H' : Hp} {a C : Addr} {v : V} (h : ExcAt H a C v) (s : Same H H') : ExcAt H' a C v :=
  let ⟨d, ea, ed⟩ := h
  ⟨d, s _ _ ea, s _ _ ed⟩
theorem Excs.ext {H H' : Hp} {l : Addr} {v : V} {xs : List V} {as Cs : List Addr} (h : Excs H v as Cs) (hl : H l = some (.lst xs)) (e : Ext l H H') : Excs H' v as Cs := by
  induction h with
  | nil => exact .nil
  | cons a _ ih => exact .cons (a.ext hl e) ih
theorem Excs.same {H H' : Hp} {v : V} {as Cs : List Addr} (h : Excs H v as Cs) (s : Same H H') : Excs H' v as Cs := by
  induction h with
  | nil => exact .nil
  | cons a _ ih => exact .cons (a.same s) ih
theorem Excs.append {H : Hp} {v : V} {as Cs bs Ds : List Addr} (h : Excs H v as Cs) (k : Excs H v bs Ds) : Excs H v (as ++ bs) (Cs ++ Ds) := by
  induction h with
  | nil => exact k
  | cons a _ ih => exact .cons a ih
theorem Excs.len {H : Hp} {v : V} {as Cs : List Addr} (h : Excs H v as Cs) : as.length = Cs.length := by
  induction h with
  | nil => rfl
  | cons _ _ ih => rw [List.length_cons, List.length_cons, ih]
theorem Excs.at_ {H : Hp} {v : V} {as Cs : List Addr} (h : Excs H v as Cs) : ∀ (i : Nat) (a : Addr), as[i]? = some a → ∃ C, Cs[i]? = some C ∧ ExcAt H a C v := by
  induction h with
  | nil =>
    intro i a h1
    simp at h1
  | @cons a C as Cs x _ ih =>
    intro i b h1
    cases i with
    | zero =>
      simp at h1
      rw [← h1]
      exact ⟨C, rfl, x⟩
    | succ i => exact ih i b (by simpa using h1)
/-- C(x), x the slot i -/
def tExc (C : Addr) (i : Nat) : TE := fun σ H Q => ∃ v, σ[i]? = some (some v) ∧ ∀ a H', Same H H' → H a = none → ExcAt H' a C v → Q (.ref a) H'
def tExcs (i : Nat) (Cs : List Addr) : TA := fun σ H Q => ∃ v, σ[i]? = some (some v) ∧ ∀ as H', Same H H' → Excs H' v as Cs → Q (as.map V.ref) H'
section
variable {X : Cx} {i : Nat} {e : Expr} {es : List Expr} {C fI : Addr} {Cs : List Addr}
theorem pe_exc {k : Nat} {fd : FuncData} {x y : Str} {p p1 pos : Pos} (T : ExcT X.K C fI) (F : FnOk X.prog X.w X.K X.mg X.base CX0 k fI fd ["self", "value"] (spErr X.K)) (hr : Room (k + 1) X.A) (hb : Binds X.K fd ["self", "value"] [])
    (hm : X.mg x = some (.ref C)) (hg : Gl X x := by rfl) (hN : X.N[i]? = some y := by rfl) (hv : Vis X.env.scope y := by first | exact Or.inl rfl | exact Or.inr (Or.inl rfl) | exact Or.inr (Or.inr rfl))
    (hdb : (x == ("__debug__" : Str)) = false := by decide) (hd : (y == ("__debug__" : Str)) = false := by decide) (hcd : (y == ("__classdict__" : Str)) = false := by decide)
    (he : starEach [.Name y p1] X.env = (false, eval (.Name y p1) X.env) :: starEach [] X.env := by rfl) :
    PE X (.Call (.Name x p) [.Name y p1] [] pos) (tExc C i) :=
  pe_weak (pe_mkV T F hr hb pass0 hg hm (pa_cons (pv i hN hv hd hcd) pa_nil he) hdb he (by rfl)) fun σ H Q q => by
    obtain ⟨v, hs, q⟩ := q
    refine ⟨v, hs, (by show 1 ≤ 1000; decide), fun a ha => ⟨a, C, fI, v, rfl, T, upd_same, fun dx n ne => ⟨rfl, ?_⟩⟩⟩
    have nd : H dx = none := by
      rw [upd_ne ne] at n
      exact n
    refine q a _ (fun b o z => ?_) ha ⟨dx, upd_same, by rw [upd_ne ne, upd_same]⟩
    rw [upd_ne (ne_of_none z ha), upd_ne (ne_of_none z nd), upd_ne (ne_of_none z ha)]
    exact z
theorem pa_enil : PA X [] (tExcs i []) := pa_weak pa_nil fun σ H Q q => let ⟨v, _, q⟩ := q; q [] H (Same.refl H) .nil
theorem pa_econs (h : PE X e (tExc C i)) (t : PA X es (tExcs i Cs)) (hs : starEach (e :: es) X.env = (false, eval e X.env) :: starEach es X.env := by rfl) : PA X (e :: es) (tExcs i (C :: Cs)) :=
  pa_weak (pa_cons h t hs) fun σ H Q q => by
    obtain ⟨v, hv, q⟩ := q
    exact ⟨v, hv, fun a H1 s1 _ e1 => ⟨v, hv, fun as H2 s2 es2 => q (a :: as) H2 (s1.trans s2) (.cons (e1.same s2) es2)⟩⟩
/-! ### what an exception is -/
def kb (K : PySem.W.Frag) (D C : Addr) : Bool := PySem.W.kitOne K (.ref D) (.ref C) == some true
def tIss (K : PySem.W.Frag) (i : Nat) (Cs : List Addr) : TA := fun σ H Q => ∃ (a D fI d : Addr) (fs : List (Str × V)), σ[i]? = some (some (.ref a)) ∧ ExcT K D fI ∧ H a = some (exo a D (some d)) ∧ H d = some (exd d fs) ∧
  (∀ C ∈ Cs, ∃ b, PySem.W.kitOne K (.ref D) (.ref C) = some b) ∧ Q ((Cs.map (kb K D)).map V.bl) H
theorem pa_inil : PA X [] (tIss X.K i []) := pa_weak pa_nil fun σ H Q q => by
  obtain ⟨a, D, fI, d, fs, _, _, _, _, _, q⟩ := q
  exact q
theorem pa_icons {x y z : Str} {p p1 p2 pos : Pos} (t : PA X es (tIss X.K i Cs)) (hmi : X.mg x = none) (hx : x = "isinstance") (hm : X.mg z = some (.ref C)) (hgi : Gl X x := by rfl) (hg : Gl X z := by rfl)
    (hN : X.N[i]? = some y := by rfl) (hv : Vis X.env.scope y := by first | exact Or.inl rfl | exact Or.inr (Or.inl rfl) | exact Or.inr (Or.inr rfl)) (hd : (y == ("__debug__" : Str)) = false := by decide) (hcd : (y == ("__classdict__" : Str)) = false := by decide)
    (hdz : (z == ("__debug__" : Str)) = false := by decide) (hcz : (z == ("__classdict__" : Str)) = false := by decide)
    (hs : starEach ((.Call (.Name x p) [.Name y p1, .Name z p2] [] pos) :: es) X.env = (false, eval (.Call (.Name x p) [.Name y p1, .Name z p2] [] pos) X.env) :: starEach es X.env := by rfl) :
    PA X ((.Call (.Name x p) [.Name y p1, .Name z p2] [] pos) :: es) (tIss X.K i (C :: Cs)) := by
  subst hx
  refine pa_weak (pa_cons (pe_callB call_isX hgi hmi (by decide +kernel) (pa_cons (pv i hN hv hd hcd) (pa_cons (pe_glob hg hm (show RelV (.ref C) (.ref C) from rfl) hdz) pa_nil))) t hs) fun σ H Q q => ?_
  obtain ⟨a, D, fI, d, fs, hs, T, ea, ed, hk, q⟩ := q
  obtain ⟨b, hb⟩ := hk C List.mem_cons_self
  refine ⟨_, hs, a, D, fI, d, fs, .ref C, .ref C, b, rfl, T, ea, ed, fun u r => r, hb, a, D, fI, d, fs, hs, T, ea, ed, fun C' h => hk C' (List.mem_cons_of_mem _ h), ?_⟩
  have e : kb X.K D C = b := by
    unfold kb
    rw [hb]
    cases b <;> rfl
  rw [List.map_cons, List.map_cons, e] at q
  exact q
end
/-- a list being made: at l, new behind H0, of the exceptions of Cs -/
def MadeSt (H0 H : Hp) (l : Addr) (v : V) (Cs : List Addr) : Prop := ∃ as : List Addr, Same H0 H ∧ H0 l = none ∧ H l = some (.lst (as.map V.ref)) ∧ Excs H v as Cs
theorem MadeSt.step {H0 H H1 : Hp} {l b : Addr} {v : V} {Cs Ds as bs : List Addr} (s : Same H0 H) (n : H0 l = none) (hl : H l = some (.lst (as.map V.ref))) (x : Excs H v as Cs) (s1 : Same H H1) (y : Excs H1 v bs Ds) (hb : H1 b = none) :
    MadeSt H0 (upd (upd H1 b (.lst (bs.map V.ref))) l (.lst (as.map V.ref ++ bs.map V.ref))) l v (Cs ++ Ds) := by
  have h1 : (upd H1 b (.lst (bs.map V.ref))) l = some (.lst (as.map V.ref)) := same_new hb _ _ (s1 _ _ hl)
  refine ⟨as ++ bs, fun c o e => ?_, n, by rw [upd_same, List.map_append], ((x.same s1).append y |>.same (same_new hb)).ext h1 (Ext.upd l _ _)⟩
  rw [upd_ne (ne_of_none e n)]
  exact same_new hb _ _ (s1 _ _ (s _ _ e))
def MarkSt (K : PySem.W.Frag) (H0 H : Hp) (l D : Addr) (Cs : List Addr) : Prop := Same H0 H ∧ H0 l = none ∧ H l = some (.lst ((Cs.map (kb K D)).map V.bl))
theorem MarkSt.step {K : PySem.W.Frag} {H0 H : Hp} {l b D : Addr} {Cs Ds : List Addr} (m : MarkSt K H0 H l D Cs) (hb : H b = none) :
    MarkSt K H0 (upd (upd H b (.lst ((Ds.map (kb K D)).map V.bl))) l (.lst ((Cs.map (kb K D)).map V.bl ++ (Ds.map (kb K D)).map V.bl))) l D (Cs ++ Ds) := by
  obtain ⟨s, n, hl⟩ := m
  refine ⟨fun c o e => ?_, n, by rw [upd_same, List.map_append, List.map_append]⟩
  rw [upd_ne (ne_of_none e n)]
  exact same_new hb _ _ (s _ _ e)
end MX

set_option Elab.async false
set_option linter.all false
set_option maxRecDepth 100000
set_option maxHeartbeats 4000000
namespace MX
open PySem PySem.Spec PySem.W PySem.Calls PyProof.Rows L2
/-! ### how many unlike texts -/
def dis (xs : List Str) : Nat → Nat
  | 0 => 0
  | i + 1 => dis xs i + (if xs.getD i Str.empty ∈ xs.take i then 0 else 1)
theorem dis_le (xs : List Str) : ∀ i, dis xs i ≤ i
  | 0 => Nat.le_refl _
  | i + 1 => by
    have h := dis_le xs i
    unfold dis
    split <;> omega
theorem take_snoc {α : Type} {xs : List α} {i : Nat} {d : α} (h : i < xs.length) : xs.take (i + 1) = xs.take i ++ [xs.getD i d] := by
  rw [List.take_succ, List.getElem?_eq_getElem h, List.getD_eq_getElem?_getD, List.getElem?_eq_getElem h]
  rfl
theorem dis_nodup {xs : List Str} : ∀ {i}, i ≤ xs.length → (dis xs i = i ↔ (xs.take i).Nodup)
  | 0, _ => by simp [dis]
  | i + 1, hi => by
    have ih := dis_nodup (xs := xs) (i := i) (by omega)
    have le := dis_le xs i
    rw [take_snoc (d := Str.empty) (by omega), List.nodup_append]
    unfold dis
    constructor
    · intro h
      have a : dis xs i = i ∧ ¬ xs.getD i Str.empty ∈ xs.take i := by
        split at h
        · omega
        · exact ⟨by omega, by assumption⟩
      refine ⟨ih.mp a.1, by simp, fun x hx y hy => ?_⟩
      rw [List.mem_singleton.mp hy]
      intro e
      exact a.2 (e ▸ hx)
    · rintro ⟨h1, _, h3⟩
      have nm : ¬ xs.getD i Str.empty ∈ xs.take i := fun hm => h3 _ hm _ (List.mem_singleton.mpr rfl) rfl
      rw [if_neg nm, ih.mpr h1]
section
variable {pg : Program} {w : World} {A : Around} {R : Result → Shared → Prop} {it : Addr} {fp wr : List Addr} {G : Array GenState → Array GenState → Prop} {n : Nat} {Pv : Nat → Value → Prop} {St : Nat → Shared → Prop}
def SetTx (pg : Program) (w : World) (h : Heap) (a : Addr) (xs : List Str) (i : Nat) : Prop := h.SetOf (PySem.strKind pg w) a (fun k => decide (k ∈ xs.take i)) (dis xs i)
theorem setTx_loop (W : WalksS pg w A.in1 it fp wr G n Pv St) (a : Addr) (out : a ∉ fp) (xs : List Str) (len : xs.length = n) (few : n + 1 < scanBound) (vals : ∀ i v, Pv i v → ∃ t, v = .str (xs.getD i Str.empty) t) :
    ∀ (left i : Nat) (z : Shared), n - i = left → i ≤ n → St i z → SetTx pg w z.heap a xs i → (∀ z', Moved (a :: wr) G z z' → SetTx pg w z'.heap a xs n → R (.ok (.ret .none)) z') →
      codeAny (model pg w) A (.builtin "set.update.loop" ⟨[.ref a, .ref it], []⟩) R z := by
  have away : a ∉ wr := fun q => out (W.sub _ q)
  have more : ∀ b ∈ wr, b ∈ a :: wr := fun b q => List.mem_cons_of_mem _ q
  have carry : ∀ {i : Nat} {z z' : Shared}, Moved wr G z z' → SetTx pg w z.heap a xs i → SetTx pg w z'.heap a xs i := fun m q => by
    obtain ⟨o, es, ep, t, e, q⟩ := q
    exact ⟨o, es, ep, t, m.heap a _ away e, q⟩
  intro left
  induction left with
  | zero =>
    intro i z hl hi st hs done
    obtain rfl : i = n := by omega
    refine codeAny_builtin PyProof.Rows.F.entry_set_update_loop (?_); rw [Around.under_plainId PyProof.Rows.F.plain_set_update_loop _]
    show wpAny _ (Around.in1 A) (pyNext (Value.ref it) >>= _) _ _ z
    exact wpAny_bind (W.done z _ _ st fun z' m => wpAny_pure (done z' (m.mono more) (carry m hs)))
  | succ left ih =>
    intro i z hl hi st hs done
    have lt : i < n := by omega
    refine codeAny_builtin PyProof.Rows.F.entry_set_update_loop (?_); rw [Around.under_plainId PyProof.Rows.F.plain_set_update_loop _]
    show wpAny _ (Around.in1 A) (pyNext (Value.ref it) >>= _) _ _ z
    refine wpAny_bind (W.item i z _ _ lt st ?_)
    intro v z' pv st' m
    obtain ⟨t, rfl⟩ := vals i v pv
    have hs' := carry m hs
    show wpAny _ (Around.in1 A) (holding [Value.str (xs.getD i Str.empty) t] (setAdd a (.str (xs.getD i Str.empty) t)) >>= _) _ _ z'
    refine wpAny_bind (wpAny_holding ?_); unfold setAdd; refine wpAny_holding (wpAny_bind ((PySem.strKind pg w).pyHash (k := xs.getD i Str.empty) (strKind_is _ _ _ _) ?_))
    have room : dis xs i + 1 < scanBound := by
      have := dis_le xs i
      omega
    refine wpAny_setAddHashed_of (knd := PySem.strKind pg w) (s := { z' with toks := z'.toks + 1 }) (strKind_is _ _ _ _) rfl hs' room ?_
    intro h' same hs2
    have hs3 : SetTx pg w h' a xs (i + 1) := by
      refine SetOf_congr hs2 (fun k => ?_) ?_
      · rw [take_snoc (d := Str.empty) (by omega)]
        by_cases q : k = xs.getD i Str.empty <;> simp [q]
      · show (if decide (xs.getD i Str.empty ∈ xs.take i) = true then dis xs i else dis xs i + 1) = dis xs i + (if xs.getD i Str.empty ∈ xs.take i then 0 else 1)
        by_cases q : xs.getD i Str.empty ∈ xs.take i
        · rw [if_pos q, if_pos (decide_eq_true q)]
          rfl
        · rw [if_neg q, if_neg (by rw [decide_eq_false q]; exact Bool.false_ne_true)]
    refine wpAny_pure ⟨plainId_quiet PyProof.Rows.F.plain_set_update_loop _, ih (i + 1) _ (by omega) lt (W.frame _ z' _ _ st' (Nat.le_succ _) ?_) hs3 ?_⟩
    · intro b hb o e
      rw [same.2 b (fun q : b = a => out (q ▸ hb))]
      exact e
    · intro z2 m2 q2
      refine done z2 (Moved.trans W.gtrans ((m.mono more).then_heap (Nat.le_succ _) ?_) m2) q2
      intro b o hb e
      rw [same.2 b (fun q : b = a => hb (q ▸ List.mem_cons_self))]
      exact e
end
section
variable {pg : Program} {w : World} {A : Around} {E : Value → Shared → Prop} {z : Shared}
def setNew (led : Bool) : Obj := { cls := .type "set", dict := none, data := .set #[] 0 (.fresh 0 0 led) }
/-- set(list of texts) -/
theorem call_setTx {l : Addr} {its : Array Value} {xs : List Str} {Q : Value → Shared → Prop} (calm : A.handled = none) (hl : z.heap.IsList l its) (hi : PyProof.Rows.StrsAre its.toList xs) (few : xs.length + 1 < scanBound)
    (h : ∀ (h' : Heap) (tk : Nat), SetTx pg w h' z.heap.objs.size xs xs.length → (∀ b o, b < z.heap.objs.size → z.heap.get? b = some o → h'.get? b = some o) → Q (.ref z.heap.objs.size) { z with heap := h', toks := tk }) :
    wpAny (model pg w) A (call (.type "set") [.ref l]) Q E z := by
  obtain ⟨c0, t0, mro⟩ := PySem.F.called_set.mro
  have k1 := PySem.F.called_set.made
  have k2 := PySem.F.called_set.sub
  refine wpAny_call (codeAny_of_tree (?_)); show wpAny _ _ (callAny (.type "set") _) _ _ _
  refine wpAny_pure ⟨Code.quiet_builtin _ (by decide +kernel), codeAny_builtin PySem.F.entry_type_call (?_)⟩; rw [Around.under_plain (weight_type_call_type "set" [.ref l] []) rfl]
  have k3 := PySem.F.called_set.notType
  have k4 := PySem.F.called_set.canCreate
  have k5 := PySem.F.typeCall_set_1 (.ref l)
  (repeat (any_goals (first | assumption | wp_step)))
  refine codeAny_mono (code_set_new_1 (.ref l) (E := E) (Q₁ := fun obj z1 => ∃ led : Bool, obj = .ref z.heap.objs.size ∧ z1 = { z with heap := z.heap.push (setNew led) }) (fun led => ⟨led, rfl, rfl⟩)) ?_
  rintro (er | fl) z1 hr
  · exact hr
  cases fl with
  | next => exact hr.elim
  | brk => exact hr.elim
  | cont => exact hr.elim
  | ret obj =>
    obtain ⟨led, rfl, rfl⟩ := hr
    have got : (z.heap.push (setNew led)).get? z.heap.objs.size = some (setNew led) := Heap.get?_push_size _ rfl
    have ty : Shared.TypeIs { z with heap := z.heap.push (setNew led) } (.ref z.heap.objs.size) "set" := ⟨_, got, rfl⟩
    have k6 := PySem.F.called_set.init.lookup
    have k7 := PySem.F.called_set.init.bind (.ref z.heap.objs.size)
    (repeat (any_goals (first | assumption | wp_step)))
    refine codeAny_mono (codeAny_call_builtin (R := wants (fun r z2 => r = .none ∧ ∃ h' tk, z2 = { z with heap := h', toks := tk } ∧ SetTx pg w h' z.heap.objs.size xs xs.length ∧
        (∀ b o, b < z.heap.objs.size → z.heap.get? b = some o → h'.get? b = some o)) E) PySem.F.called_set.init.plain PySem.F.entry_set_init (check_set_init_1 ty ?_)) ?_
    · obtain ⟨⟨oc, od, dt, osl⟩, ho, hc, nl, hd⟩ := hl
      simp only at hc hd; subst hc; subst hd
      have ho' : (z.heap.push (setNew led)).get? l = some { cls := .type "list", dict := od, data := .seq its nl, slots := osl } := Heap.get?_push_of_some _ ho
      have k8 := PySem.F.sub_list_set
      have k9 := PySem.F.sub_list_frozenset
      have k10 : (Value.type "list" == Value.type "dict") = false := by decide
      have isl : (z.heap.push (setNew led)).IsList l its := ⟨_, ho', rfl, nl, rfl⟩
      unfold Builtin.«set.__init__» noKeywords Builtin.Frozenset.updateFrom; generalize hPI : pyIter = PI
      wp_walk
      subst hPI
      refine wpAny_pyIter_list isl (wpAny_bind (wpAny_runValue (?_)))
      have hlS : l < z.heap.objs.size := Heap.lt_size ho
      have h3 : A.in1.in1.in1.handled = none := by simp [calm]
      have nI : l ≠ (z.heap.push (setNew led)).objs.size := by
        rw [Heap.size_push]
        exact Nat.ne_of_lt (Nat.lt_succ_of_lt hlS)
      have nS : z.heap.objs.size ∉ [(z.heap.push (setNew led)).objs.size, l] := by
        rw [Heap.size_push]
        intro q
        rcases List.mem_cons.mp q with q | q
        · exact Nat.ne_of_lt (Nat.lt_succ_self _) q
        · exact Nat.ne_of_gt hlS (List.mem_singleton.mp q)
      have len : xs.length = its.size := by rw [← StrsAre.len_eq hi, Array.length_toList]
      have vals : ∀ (i : Nat) (v : Value), its[i]? = some v → ∃ t, v = .str (xs.getD i Str.empty) t := fun i v hv => SS.strs_at hi i v (by rw [Array.getElem?_toList]; exact hv)
      refine setTx_loop ((Walks.list h3 _ l nI its).toS) z.heap.objs.size nS xs len (by omega) vals (its.size - 0) 0 _ (by omega) (Nat.zero_le _) ⟨⟨_, Heap.get?_push_size _ rfl, rfl, rfl⟩, (isl.push _)⟩ ?_ ?_
      · have got2 : ((z.heap.push (setNew led)).push { cls := .type "list_iterator", data := .fields #[.ref l, .int 0 0] }).get? z.heap.objs.size = some (setNew led) := Heap.get?_push_of_some _ got
        exact PyProof.Rows.SetOf_congr ((PyProof.Rows.setObjOf_fresh (knd := PySem.strKind pg w) led).setOf got2 (by unfold scanBound; omega)) (fun _ => by simp) rfl
      · rintro ⟨h', g', d', tk', os'⟩ m q
        obtain rfl : g' = z.gens := m.gens
        obtain rfl : d' = z.drawn := m.drawn
        obtain rfl : os' = z.os := m.os
        show wpAny _ _ _ _ _ _
        refine wpAny_pure (show wpAny _ _ (ret Value.none) _ _ _ from wpAny_pure ⟨rfl, h', tk', rfl, (by rw [len]; exact q), fun b o hb e => ?_⟩)
        refine m.heap b o (fun q => ?_) (Heap.get?_push_of_some _ (Heap.get?_push_of_some _ e))
        rcases List.mem_cons.mp q with q | q
        · exact Nat.ne_of_lt hb q
        · have q2 := List.mem_singleton.mp q
          rw [Heap.size_push] at q2
          exact Nat.ne_of_lt (Nat.lt_succ_of_lt hb) q2
    · rintro (er | fl2) z2 hr2
      · exact hr2
      cases fl2 with
      | next => exact hr2.elim
      | brk => exact hr2.elim
      | cont => exact hr2.elim
      | ret r =>
        obtain ⟨rfl, h', tk, rfl, q, k⟩ := hr2
        (repeat (any_goals (first | assumption | wp_step)))
        exact h _ _ q k
end
/-- len(set(x)), x a list of texts -/
def tLenSetT (K : PySem.W.Frag) (ta : TE) : TE := fun σ H Q => ta σ H fun x H1 => ∃ (l : Addr) (xs : List Str), x = .ref l ∧ SqL K H1 l (xs.map V.str) ∧ xs.length ≤ 1000 ∧ Q (.int ((dis xs xs.length : Nat) : Int)) H1
theorem pe_lenSetT {X : Cx} {a : Expr} {ta : TE} {p p2 q pos : Pos} (hc : X.calm = true) (hg : Gl X "len") (hm : X.mg "len" = none) (hg2 : Gl X "set") (hm2 : X.mg "set" = none) (ha : PE X a ta)
    (na : starEach [a] X.env = (false, eval a X.env) :: starEach [] X.env := by rfl) : PE X (.Call (.Name "len" p) [.Call (.Name "set" p2) [a] [] q] [] pos) (tLenSetT X.K ta) := by
  constructor
  intro pins s σ H Q I h
  refine Call_ (ld_blt I hg hm boot_len (PyProof.Rows.callWith_builtin1 (PyProof.Rows.args_cons ?_ rfl) rfl rfl))
  refine Call_ (ld_blt I hg2 hm2 boot_set (PyProof.Rows.callWith_type1 (PyProof.Rows.args_cons (thn (ha.run pins s σ H _ I h) ?_) na) na rfl))
  rintro v s1 ⟨x, H1, J, rx, l, xs, rfl, hq, few, q1⟩
  refine PyProof.Rows.args_nil ?_
  cases rx
  obtain ⟨its, rv, pl, hz⟩ := J.list hq
  refine call_setTx (J.ok.hd hc) pl.isList (by simpa using strsAre_of rv) (by unfold scanBound; omega) ?_
  intro h' tk hS hk
  refine PyProof.Rows.args_nil ?_
  obtain ⟨o, es, ep, t, ho, hex, hd, _, _, _, hf, hn⟩ := hS
  have J2 : Inv X pins σ H1 { s1 with heap := h', toks := tk } := J.kept fun b o e => hk b o (Heap.lt_size e) e
  have le := dis_le xs xs.length
  refine call_len_set ho hex hd hf (by rw [hn]; omega) ⟨.int ((dis xs xs.length : Nat) : Int), H1, J2.tok _, ⟨_, by rw [hn]⟩, q1⟩
end MX

set_option Elab.async false
set_option linter.all false
set_option maxRecDepth 100000
set_option maxHeartbeats 4000000
namespace MX
open PySem PySem.Spec PySem.W PySem.Calls PyProof.Rows L2
/-! ### x in o, o of an own class with __contains__ -/
section
variable {pg : Program} {w : World} {A : Around} {E : Value → Shared → Prop} {z : Shared} {K : PySem.W.Frag}
theorem contains_own {a C g : Addr} {ox : Obj} {od : Option Obj} {u : Value} {Q : Bool → Shared → Prop} (X : K.In z.heap) (J : PySem.W.InstAt z.heap a ox C od) (hs : PySem.W.findIn K (.ref C) "__contains__" = some (some (.ref g))) (hf : PySem.W.typeIn K (.ref g) = some (.type "function"))
    (h : wpAny (model pg w) A (call (.ref g) [.ref a, u]) (fun r z' => ∃ b, r = .bool b ∧ Q b z') E z) : wpAny (model pg w) A (contains (.ref a) u) Q E z := by
  have L : Looks (model pg w) z.heap (specialOf (.ref a) "__contains__") (some (.ref g)) := (J.type (M := model pg w)).andThen (looks_findIn X hs)
  have B : Looks (model pg w) z.heap (bindSpecial (.ref g) (.ref a)) (.ref g, [.ref a]) := PySem.W.bind_fn X (.ref a) hf
  unfold contains
  refine wpAny_holding ?_
  rw [stdlibNamesSay?_ref]
  refine wpAny_bind (L.here ?_)
  have n1 : (some (Value.ref g) == some Value.none) = false := rfl
  rw [n1]
  show wpAny _ _ (callSpecialUnlessNone? (.ref a) "__contains__" [u] _ >>= _) _ _ _
  unfold callSpecialUnlessNone?
  refine wpAny_bind (wpAny_bind (L.here (wpAny_holding (wpAny_bind (B.here ?_)))))
  have n2 : (Value.ref g == Value.none) = false := rfl
  simp only [n2]
  refine wpAny_bind (thn h ?_)
  rintro r z' ⟨b, rfl, q⟩
  exact wpAny_pure (wpAny_pure q)
end
def rInOwn (C : Addr) (sp : Sp) (neg : Bool) : R2 := fun x y H Q => ∃ a dx fs, y = .ref a ∧ H a = some (.ins C dx fs) ∧ sp [.ref a, x] H (fun v H' => ∃ b, v = .bl b ∧ Q (.bl (if neg then !b else b)) H') (fun _ _ _ => False)
theorem op_inOwn {X : Cx} {CX : CXT} {C g : Addr} {k : Nat} {fd : FuncData} {ps : List Str} {sp : Sp} (hs : PySem.W.findIn X.K (.ref C) "__contains__" = some (some (.ref g))) (hf : PySem.W.typeIn X.K (.ref g) = some (.type "function"))
    (F : FnOk X.prog X.w X.K X.mg X.base CX k g fd ps sp) (hr : Room k X.A) (hb : Binds X.K fd ps []) (hx : Passes CX X (fun _ _ _ => False)) : OpR X (compareOp .In) (rInOwn C sp false) := by
  intro pins s σ H x y v u Q I rx ry h
  obtain ⟨a, dx, fs, rfl, ea, q⟩ := h
  cases (show u = Value.ref a from ry)
  obtain ⟨mA, O, _⟩ := ins_get I.hok ea
  obtain ⟨od, J, _⟩ := O.look
  show wpAny _ _ (do return Value.bool (← contains (.ref a) v) : Sem Value) _ _ _
  refine wpAny_bind (contains_own I.kIn J hs hf ?_)
  refine thn (run_fn F hr hb .nil hx I (us := [.ref a, v]) (vs := [.ref a, x]) (.cons rfl (.cons rx .nil)) q) ?_
  rintro r s' ⟨v', H', J', rv, b, rfl, q'⟩
  cases (show r = Value.bool b from rv)
  exact ⟨b, rfl, wpAny_pure ⟨.bl b, H', J', rfl, q'⟩⟩
theorem op_notInOwn {X : Cx} {CX : CXT} {C g : Addr} {k : Nat} {fd : FuncData} {ps : List Str} {sp : Sp} (hs : PySem.W.findIn X.K (.ref C) "__contains__" = some (some (.ref g))) (hf : PySem.W.typeIn X.K (.ref g) = some (.type "function"))
    (F : FnOk X.prog X.w X.K X.mg X.base CX k g fd ps sp) (hr : Room k X.A) (hb : Binds X.K fd ps []) (hx : Passes CX X (fun _ _ _ => False)) : OpR X (compareOp .NotIn) (rInOwn C sp true) := by
  intro pins s σ H x y v u Q I rx ry h
  obtain ⟨a, dx, fs, rfl, ea, q⟩ := h
  cases (show u = Value.ref a from ry)
  obtain ⟨mA, O, _⟩ := ins_get I.hok ea
  obtain ⟨od, J, _⟩ := O.look
  show wpAny _ _ (do return Value.bool (!(← contains (.ref a) v)) : Sem Value) _ _ _
  refine wpAny_bind (contains_own I.kIn J hs hf ?_)
  refine thn (run_fn F hr hb .nil hx I (us := [.ref a, v]) (vs := [.ref a, x]) (.cons rfl (.cons rx .nil)) q) ?_
  rintro r s' ⟨v', H', J', rv, b, rfl, q'⟩
  cases (show r = Value.bool b from rv)
  exact ⟨b, rfl, wpAny_pure ⟨.bl (!b), H', J', rfl, q'⟩⟩
end MX

set_option Elab.async false
set_option linter.all false
set_option maxRecDepth 100000
set_option maxHeartbeats 4000000
namespace MX
open PySem PySem.Spec PySem.W PySem.Calls PyProof.Rows L2
/-! ### for n, x in enumerate(xs, start=k) -/
def IteS (K : PySem.W.Frag) (a : Addr) (k : Int) : It :=
  ⟨(Ite K a).go, fun i H v H' => ∃ T x, v = .ref T ∧ H T = none ∧ H' = upd H T (.tup [.int (k + (i : Nat)), x]) ∧ ∀ xs, SqL K H a xs → xs[i]? = some x, (Ite K a).stop⟩
theorem turn_enumS {P : Program} {w : World} {K : PySem.W.Frag} {elts : List Expr} {kk : Nat} {tpos : Pos} (a e it : Addr) (k : Int) :
    Turn P w K (.Tuple elts kk tpos) (IteS K a k) [e, it] e (fun i h => (∃ old, IsEnum h e it (k + ((i : Nat) : Int)) old) ∧ h.IsListIter it a i ∧ e ≠ it ∧ a ≠ it) where
  mem := List.mem_cons_self
  obj := by
    rintro i h ⟨⟨old, q⟩, ⟨o, ho, hc, hd⟩, _⟩ b hb
    rcases List.mem_cons.mp hb with z | z
    · refine ⟨_, (by rw [z]; exact q), fun v q => ?_⟩
      cases q
    · exact ⟨o, (by rw [List.mem_singleton.mp z]; exact ho), fun v q => by rw [hd] at q; cases q⟩
  keep := by
    rintro i h h' ⟨⟨old, q⟩, hi, n⟩ kp
    exact ⟨⟨old, kp e (by simp) _ q⟩, hi.at (fun o q => kp it (by simp) o q), n⟩
  self := fun A i s Q E st q => let ⟨⟨_, z⟩, _⟩ := st; wpAny_pyIter_enum z q
  done := by
    intro X e1 e2 e3 calm i pins s σ H E I hf st hg
    subst e1 e2 e3
    obtain ⟨⟨old, he⟩, hit, hne, hai⟩ := st
    obtain ⟨xs, hq, hx⟩ := hg
    obtain ⟨its, rv, p, hz⟩ := I.list hq
    have hl := Vals.length rv
    obtain ⟨f0, f1, f2, f3, f4, f5⟩ := hf it (by simp)
    have D := Draws.list (prog := X.prog) (w := X.w) (A := X.A.in1) (show X.A.in1.handled = none from I.ok.hd calm) it a hai its.toArray
    have hT : s.TypeIs (.ref e) "enumerate" := ⟨_, he, rfl⟩
    unfold pyNext
    refine wpAny_bind (wpAny_attempt (wpAny_callSpecial?_slot (name := Str.ofString "__next__") hT F.slot_enumerate_next (wpAny_call_entry F.slot_enumerate_next hT F.entry_enumerate_next ?_ (F.args_enumerate_next_1 _))))
    show wpAny _ _ (field (Value.ref e) 2 >>= _) _ _ _
    refine wpAny_bind (wpAny_field he rfl (x := .ref it) rfl (wpAny_bind (wpAny_nextOf_list_end (show X.A.in1.handled = none from I.ok.hd calm) hit p.isList (Array.getElem?_eq_none (by simp; omega)) ?_)))
    rintro h' x he' ⟨o, ho, hc⟩
    refine wpAny_bind (wpAny_isInstance (T := "StopIteration") (b := true) ⟨o, ho, hc⟩ isSubtype_stop (wpAny_pure ⟨rfl, ?_⟩))
    exact I.turned (t' := s.toks) (fun b o hb q => he' b o hb q) f0 f1 f3 f4 f5
  item := by
    intro X e1 e2 e3 calm i pins s σ H E I hf st hg
    subst e1 e2 e3
    obtain ⟨⟨old, he⟩, hit, hne, hai⟩ := st
    obtain ⟨xs, x, hq, hx⟩ := hg
    obtain ⟨its, rv, p, hz⟩ := I.list hq
    obtain ⟨u, hu, ru⟩ := Vals.get rv hx
    have le : e < s.heap.objs.size := Heap.lt_size he
    have li : it < s.heap.objs.size := by
      obtain ⟨_, q, _⟩ := hit
      exact Heap.lt_size q
    have D := Draws.list (prog := X.prog) (w := X.w) (A := X.A.in1) (show X.A.in1.handled = none from I.ok.hd calm) it a hai its.toArray
    have nel : e ∉ [it, a] := fun hm => by
      rcases List.mem_cons.mp hm with z | z
      · exact hne z
      · have z := List.mem_singleton.mp z
        obtain ⟨o, ho, hc, _⟩ := p.isList
        rw [← z] at ho
        have q := he.symm.trans ho
        have q2 := Option.some.inj q
        rw [← q2] at hc
        have hc2 : Value.type "enumerate" = Value.type "list" := hc
        exact absurd hc2 (by decide)
    have hii : i < its.toArray.size := by
      have q := (List.getElem?_eq_some_iff.mp hu).1
      simpa using q
    refine wpAny_pyNext_enum_itemC D he ⟨hit, p.isList⟩ hii hne nel ?_
    intro x' h' tk hP ho hs' hT hsz hk
    have eu : x' = u := by
      have q : its.toArray[i]? = some u := by simpa using hu
      exact Option.some.inj (hP.symm.trans q)
    subst eu
    refine ⟨_, rfl, wpAny_letOwnedTupleGo_enum (s := { s with heap := h', toks := tk + 1 }) ho ?_⟩
    intro h2 he2 sb
    have hT2 : h2.get? s.heap.objs.size = some { cls := .type "tuple", data := .seq #[.int (k + ((i : Nat) : Int)) tk, x'] } := (sb.2 _ (Nat.ne_of_gt le)).trans hT
    have new : ObjOk X.prog X.w (upd H s.heap.objs.size (.tup [.int (k + (i : Nat)), x])) h2 s.heap.objs.size (.tup [.int (k + (i : Nat)), x]) :=
      ⟨(by show 2 ≤ sizeLine; decide), [.int (k + ((i : Nat) : Int)) tk, x'], .cons ⟨tk, rfl⟩ (.cons ru .nil), ⟨_, hT2, rfl, _, rfl⟩⟩
    have J : Inv X pins σ (upd H s.heap.objs.size (.tup [.int (k + (i : Nat)), x])) { s with heap := h2, toks := tk + 1 } :=
      I.turnedNew (ch := [e, it]) (fun b ob hb q => (sb.2 b (fun z => hb (by simp [z]))).trans (hk b ob (fun z => hb (by simp [z])) (fun z => hb (by simp [z])) q)) hf (Nat.le_refl _) new
    refine ⟨.ref s.heap.objs.size, _, J, rfl, ⟨_, x, rfl, I.hok.fresh (Nat.le_refl _), rfl, fun ys hy => by rw [I.list_inj hy hq]; exact hx⟩, ⟨⟨x', ?_⟩, hs'.1.at fun o q => (sb.2 it (Ne.symm hne)).trans q, hne, hai⟩, ?_⟩
    · have e1 : k + ((i + 1 : Nat) : Int) = k + (i : Int) + 1 := by omega
      rw [e1]
      exact he2
    · intro b hb
      have hb' : b < s.heap.objs.size := by
        rcases List.mem_cons.mp hb with z | z
        · rw [z]
          exact le
        · rw [List.mem_singleton.mp z]
          exact li
      rw [upd_ne (Nat.ne_of_lt hb')]
      exact (hf b hb).1
section
variable {M : Model} {A : Around} {E : Value → Shared → Prop} {s : Shared} {env : Env}
theorem cw_tyK {pos : Pos} {T : String} {e : Expr} {rest : List Expr} {kws : List Keyword} {Q : Value → Shared → Prop}
    (h : wpAny M A (spliced (backTo pos (starEach (e :: rest) env))) (fun vs s1 => wpAny M A (evalAll ((backToKw pos (keywordEach kws env)).map (·.2)))
      (fun ks s2 => wpAny M A (call (.type T) vs (((backToKw pos (keywordEach kws env)).filterMap (·.1)).zip ks)) Q E s2) E s1) E s)
    (he : backTo pos (starEach (e :: rest) env) = (false, eval e env) :: backTo pos (starEach rest env)) (hpl : (backTo pos (starEach (e :: rest) env)).any (·.1) = false)
    (hall : (backToKw pos (keywordEach kws env)).all (·.1.isSome) = true) (hkw : (backToKw pos (keywordEach kws env)).any (·.1.isNone) = false) :
    wpAny M A (callWith pos (.type T) [] (backTo pos (starEach (e :: rest) env)) (backToKw pos (keywordEach kws env))) Q E s := by
  have g : wpAny M A (evalArgs (.type T) true (backTo pos (starEach (e :: rest) env)) (backToKw pos (keywordEach kws env))) (fun a s1 => wpAny M A (call (.type T) a.pos a.kw) Q E s1) E s := by
    rw [he] at h ⊢
    exact evalArgs_kwB hall h
  unfold callWith
  refine wpAny_bind (wpAny_holding (thn g ?_))
  intro a s1 h1
  refine wpAny_bind (wpAny_standAt ?_)
  simp only [hpl, hkw, Bool.or_false]
  refine wpAny_bind (wpAny_pure (wpAny_bind (thn h1 ?_)))
  intro r s2 hr
  exact wpAny_bind (wpAny_holding (wpAny_point (wpAny_pure hr)))
end
def iEnumS (K : PySem.W.Frag) (ta tk : TA) : TI := fun σ H R => ta σ H fun vs H1 => tk σ H1 fun zs H2 => ∃ a xs k, vs = [.ref a] ∧ zs = [.int k] ∧ -(2 ^ 63) ≤ k ∧ k < 2 ^ 63 ∧ SqL K H2 a xs ∧ R (IteS K a k) H2
theorem pi_enumS {X : Cx} {e : Expr} {kws : List Keyword} {ta tk : TA} {p pos tpos : Pos} {elts : List Expr} {kk : Nat} (hg : Gl X "enumerate") (hm : X.mg "enumerate" = none) (ha : PA X [e] ta) (hk : PK X kws tk)
    (he : backTo pos (starEach [e] X.env) = (false, eval e X.env) :: backTo pos (starEach [] X.env) := by rfl) (hpl : (backTo pos (starEach [e] X.env)).any (·.1) = false := by rfl)
    (hall : (backToKw pos (keywordEach kws X.env)).all (·.1.isSome) = true := by rfl) (hnone : (backToKw pos (keywordEach kws X.env)).any (·.1.isNone) = false := by rfl) (hks : (backToKw pos (keywordEach kws X.env)).filterMap (·.1) = (["start"] : List Str) := by rfl) :
    PI X (.Tuple elts kk tpos) (.Call (.Name "enumerate" p) [e] kws pos) (iEnumS X.K ta tk) := by
  constructor
  intro pins s σ H R I h
  refine wpAny_Call_Name_kw (ld_blt I hg hm PyProof.Rows.boot_enumerate ?_)
  refine cw_tyK (thn (ha.run pos pins s σ H _ I h) ?_) he hpl hall hnone
  rintro us s1 ⟨vs, H1, I1, r1, q1⟩
  refine thn (hk.run pos pins s1 σ H1 _ I1 q1) ?_
  rintro ws s2 ⟨zs, H2, I2, r2, a, xs, k, rfl, rfl, k0, k1, hq, q⟩
  rw [hks]
  cases r1 with
  | cons ra rn =>
    cases rn
    cases ra
    cases r2 with
    | cons rk rn =>
      cases rn
      obtain ⟨t, rfl⟩ := rk
      obtain ⟨its, rv, pl, hz⟩ := I2.list hq
      have la : a < s2.heap.objs.size := by
        obtain ⟨o, ho, _⟩ := pl.isList
        exact Heap.lt_size ho
      refine enum_begins_start (begins_list a its.toArray) pl.isList k0 k1 ?_
      intro h' hen hit hsz hkp
      refine wpAny_pyIter_enum hen ?_
      have I3 : Inv X pins σ H2 { s2 with heap := h' } := I2.kept (t' := s2.toks) hkp
      have ek : k + ((0 : Nat) : Int) = k := by omega
      refine ⟨s2.heap.objs.size + 1, [s2.heap.objs.size + 1, s2.heap.objs.size], _, _, H2, rfl, I3, turn_enumS a (s2.heap.objs.size + 1) s2.heap.objs.size k,
        ⟨⟨.none, by rw [ek]; exact hen⟩, ⟨_, hit, rfl, rfl⟩, Nat.succ_ne_self _, Nat.ne_of_lt la⟩, ?_, q⟩
      intro b hb
      have hle : s2.heap.objs.size ≤ b := by
        rcases List.mem_cons.mp hb with z | z
        · rw [z]
          exact Nat.le_succ _
        · rw [List.mem_singleton.mp z]
          exact Nat.le_refl _
      exact I2.fpOk hle (I2.hok.fresh hle)
theorem walk_enumS {K : PySem.W.Frag} {a : Addr} {xs : List V} {k : Int} : Walk (IteS K a k) xs.length (fun H => SqL K H a xs) (YPair (fun i => some (.int (k + (i : Nat)))) (fun i => xs[i]?)) where
  goes := fun i H hi hs => ⟨xs, xs[i], hs, List.getElem?_eq_getElem hi⟩
  stops := fun H hs => ⟨xs, hs, Nat.le_refl _⟩
  yields := fun i H x H' hi hs y => let ⟨T, x', e1, e2, e3, e4⟩ := y; ⟨T, _, x', e1, e2, e3, rfl, e4 xs hs⟩
end MX

set_option Elab.async false
set_option linter.all false
set_option maxRecDepth 100000
set_option maxHeartbeats 4000000
namespace MX
open PySem PySem.Spec PySem.W PySem.Calls PyProof.Rows L2
/-! ### what the small functions of halls tell -/
def letters : Str := "abcdefghijklmnopqrstuvwxyz"
def nameB (x : Str) : Bool := decide (1 ≤ x.length) && (decide (x.length ≤ 8) && x.cps.toList.all fun c => decide (c ∈ letters.cps.toList))
def amongB (xs ps : List Str) : Bool := decide xs.Nodup && xs.all fun x => decide (x ∈ ps)
def headIs (ws : List Str) (x : Str) : Bool := decide (ws[0]? = some x)
def peopleB (ws : List Str) : Bool := headIs ws "people" && (decide (1 ≤ (ws.drop 1).length) && (decide ((ws.drop 1).length ≤ 9) && (decide (ws.drop 1).Nodup && (ws.drop 1).all nameB)))
def metB (ws ps : List Str) : Bool := headIs ws "met" && (decide (2 ≤ (ws.drop 1).length) && amongB (ws.drop 1) ps)
def keyT (ws : List Str) : List Key := ws.map Sum.inr
def openB (ws ps : List Str) (T : List (List Key × V)) : Bool := headIs ws "open" && (decide ((ws.drop 1).length = 2) && (amongB (ws.drop 1) ps && (valV T (keyT (ws.drop 1))).isNone))
theorem cut1 (ws : List Str) : cutV (ws.map V.str) (some 1) none = (ws.drop 1).map V.str := by
  cases ws with
  | nil => rfl
  | cons w ws =>
    unfold cutV
    have e1 : HT.sIx ((w :: ws).map V.str).length 0 (some 1) = 1 := by
      unfold HT.sIx
      simp
    have e2 : HT.sIx ((w :: ws).map V.str).length ((w :: ws).map V.str).length none = ((w :: ws).map V.str).length := rfl
    rw [e1, e2]
    simp only [List.map_cons, List.drop_succ_cons, List.drop_zero, List.length_cons, List.length_map, Nat.add_sub_cancel]
    rw [← List.length_map (f := V.str), List.take_length]
/-- one turn of a comprehension whose element gives f x and leaves what stood -/
theorem lcStep {α : Type} {H1 H' H2 : Hp} {D : Addr} {xs : List α} {k : Nat} {x : α} {f : α → V} (eD : H' D = some (.lst ((xs.take k).map f))) (hx : xs[k]? = some x) (s : Same H1 H') (nD : H1 D = none) (s2 : Same H' H2) (few : xs.length ≤ 10000) :
    ∃ acc, H2 D = some (.lst acc) ∧ acc.length < sizeLine ∧ ((upd H2 D (.lst (acc ++ [f x]))) D = some (.lst ((xs.take (k + 1)).map f)) ∧ Same H1 (upd H2 D (.lst (acc ++ [f x])))) := by
  refine ⟨_, s2 _ _ eD, ?_, ?_, fun b o e => ?_⟩
  · rw [List.length_map, List.length_take, sizeLine_eq]
    omega
  · rw [upd_same, List.take_succ, hx, List.map_append]
    rfl
  · rw [upd_ne (ne_of_none e nD)]
    exact s2 _ _ (s _ _ e)
theorem all_bl (bs : List Bool) : (bs.map V.bl) = bs.map V.bl := rfl
theorem inV_str (x : Str) (ps : List Str) : inV (.str x) (ps.map V.str) = decide (x ∈ ps) := by
  unfold inV
  induction ps with
  | nil => simp
  | cons p ps ih =>
    rw [List.map_cons, List.any_cons, ih]
    show ((p == x) || decide (x ∈ ps)) = decide (x ∈ p :: ps)
    by_cases h : p = x
    · subst h
      simp
    · have h' : (p == x) = false := by simpa using h
      rw [h']
      have h2 : (x ∈ p :: ps) ↔ x ∈ ps := by
        rw [List.mem_cons]
        exact ⟨fun q => q.elim (fun q => absurd q.symm h) id, Or.inr⟩
      simp [h2]
theorem flat_strs (ps : List Str) : (ps.map V.str).all flatV = true := by
  rw [List.all_eq_true]
  intro x hx
  obtain ⟨p, _, rfl⟩ := List.mem_map.mp hx
  rfl
theorem dis_len {xs : List Str} : decide (V.int ((dis xs xs.length : Nat) : Int) = V.int ((xs.length : Nat) : Int)) = decide xs.Nodup := by
  have h := dis_nodup (xs := xs) (Nat.le_refl xs.length)
  rw [List.take_length] at h
  by_cases q : xs.Nodup
  · rw [decide_eq_true q, h.mpr q]
    simp
  · rw [decide_eq_false q]
    refine decide_eq_false fun z => q (h.mp ?_)
    have z2 := V.int.inj z
    omega
/-! ### their promises -/
def spIsName : Sp := fun vs H Q _ => ∃ x : Str, vs = [.str x] ∧ x.length ≤ 10000 ∧ ∀ H', Same H H' → Q (.bl (nameB x)) H'
def spUnlike (K : PySem.W.Frag) : Sp := fun vs H Q _ => ∃ (l : Addr) (xs : List Str), vs = [.ref l] ∧ SqL K H l (xs.map V.str) ∧ xs.length ≤ 1000 ∧ Q (.bl (decide xs.Nodup)) H
def spAmong (K : PySem.W.Frag) : Sp := fun vs H Q _ => ∃ (l p : Addr) (xs ps : List Str), vs = [.ref l, .ref p] ∧ SqL K H l (xs.map V.str) ∧ xs.length ≤ 1000 ∧ SqT K H p (ps.map V.str) ∧ ∀ H', Same H H' → Q (.bl (amongB xs ps)) H'
def spPeople (K : PySem.W.Frag) : Sp := fun vs H Q _ => ∃ (l : Addr) (ws : List Str), vs = [.ref l] ∧ SqL K H l (ws.map V.str) ∧ 0 < ws.length ∧ ws.length ≤ 1000 ∧ (∀ w ∈ ws, w.length ≤ 10000) ∧ ∀ H', Same H H' → Q (.bl (peopleB ws)) H'
def spMet (K : PySem.W.Frag) : Sp := fun vs H Q _ => ∃ (l p : Addr) (ws ps : List Str), vs = [.ref l, .ref p] ∧ SqL K H l (ws.map V.str) ∧ 0 < ws.length ∧ ws.length ≤ 1000 ∧ SqT K H p (ps.map V.str) ∧ ∀ H', Same H H' → Q (.bl (metB ws ps)) H'
def spOpen (K : PySem.W.Frag) : Sp := fun vs H Q _ => ∃ (l p d : Addr) (ws ps : List Str) (T : List (List Key × V)), vs = [.ref l, .ref p, .ref d] ∧ SqL K H l (ws.map V.str) ∧ 0 < ws.length ∧ ws.length ≤ 1000 ∧ SqT K H p (ps.map V.str) ∧ H d = some (.dT T) ∧
  ∀ H', Same H H' → Q (.bl (openB ws ps T)) H'
end MX

set_option Elab.async false
set_option linter.all false
set_option maxRecDepth 100000
set_option maxHeartbeats 4000000
namespace MX
open PySem PySem.Spec PySem.W PySem.Calls PyProof.Rows L2
/-! ### heaps alike but at some places -/
def But (S : List Addr) (H H' : Hp) : Prop := ∀ b o, H b = some o → b ∉ S → H' b = some o
theorem But.refl {S : List Addr} {H : Hp} : But S H H := fun _ _ e _ => e
theorem But.trans {S : List Addr} {H H1 H2 : Hp} (a : But S H H1) (b : But S H1 H2) : But S H H2 := fun x o e n => b x o (a x o e n) n
theorem But.of {S : List Addr} {H H' : Hp} (s : Same H H') : But S H H' := fun x o e _ => s x o e
theorem But.up {S : List Addr} {H H' : Hp} {a : Addr} {o : HO} (s : But S H H') (h : a ∈ S) : But S H (upd H' a o) := fun b o' e n => by
  have z : b ≠ a := fun z => n (by rw [z]; exact h)
  rw [upd_ne z]
  exact s b o' e n
theorem But.new {S : List Addr} {H H' : Hp} {a : Addr} {o : HO} (s : But S H H') (h : H' a = none) : But S H (upd H' a o) := fun b o' e n => by
  have z := s b o' e n
  rw [upd_ne (ne_of_none z h)]
  exact z
theorem But.mono {S S' : List Addr} {H H' : Hp} (s : But S H H') (h : ∀ a ∈ S, a ∈ S') : But S' H H' := fun b o e n => s b o e fun z => n (h b z)
theorem But.seqL {S : List Addr} {H H' : Hp} {K : PySem.W.Frag} {l : Addr} {xs : List V} (s : But S H H') (h : SqL K H l xs) (n : ∀ a ∈ S, ¬ Rd H a (.lst xs)) : SqL K H' l xs := by
  rcases h with h | h
  · have nl : l ∉ S := fun z => n l z h
    rcases h with h | ⟨o, h⟩
    · exact .inl (.inl (s _ _ h nl))
    · exact .inl (.inr ⟨o, s _ _ h nl⟩)
  · exact .inr h
theorem But.seqT {S : List Addr} {H H' : Hp} {K : PySem.W.Frag} {l : Addr} {xs : List V} (s : But S H H') (h : SqT K H l xs) (n : ∀ a ∈ S, ¬ Rd H a (.tup xs)) : SqT K H' l xs := by
  rcases h with h | h
  · have nl : l ∉ S := fun z => n l z h
    rcases h with h | ⟨o, h⟩
    · exact .inl (.inl (s _ _ h nl))
    · exact .inl (.inr ⟨o, s _ _ h nl⟩)
  · exact .inr h
theorem nrd_t {H : Hp} {d : Addr} {T : List (List Key × V)} {o : HO} (e : H d = some (.dT T)) (n : ∀ T, o ≠ .dT T) (m : ∀ ob x, o ≠ .frz ob x) : ∀ a ∈ [d], ¬ Rd H a o := by
  intro a ha z
  rw [List.mem_singleton.mp ha] at z
  rcases z with z | ⟨ob, z⟩
  · rw [e] at z
    exact n T (Option.some.inj z).symm
  · rw [e] at z
    cases z
/-! ### what is told -/
abbrev Tm := List (List Key × V)
def tell1 (x y : Str) (w : Str) (T : Tm) : Tm := if x = y then T else putK T [Sum.inr x, Sum.inr y] (.str w)
def tellR (x : Str) (w : Str) (ys : List Str) (T : Tm) : Tm := ys.foldl (fun T y => tell1 x y w T) T
def tellA (ys xs : List Str) (w : Str) (T : Tm) : Tm := xs.foldl (fun T x => tellR x w ys T) T
theorem put_len {T : Tm} {k : List Key} {v : V} : (putK T k v).length ≤ T.length + 1 := by
  unfold putK
  split
  · rw [List.length_map]; omega
  · rw [List.length_append]; simp
theorem tell1_len {x y w : Str} {T : Tm} : (tell1 x y w T).length ≤ T.length + 1 := by
  unfold tell1
  split
  · omega
  · exact put_len
theorem tellR_len {x w : Str} : ∀ (ys : List Str) (T : Tm), (tellR x w ys T).length ≤ T.length + ys.length
  | [], T => Nat.le_refl _
  | y :: ys, T => by
    have h := tellR_len (x := x) (w := w) ys (tell1 x y w T)
    have h2 := tell1_len (x := x) (y := y) (w := w) (T := T)
    show (tellR x w ys (tell1 x y w T)).length ≤ T.length + (ys.length + 1)
    omega
theorem tellA_len {w : Str} {ys : List Str} : ∀ (xs : List Str) (T : Tm), (tellA ys xs w T).length ≤ T.length + xs.length * ys.length
  | [], T => by simp [tellA]
  | x :: xs, T => by
    have h := tellA_len (w := w) (ys := ys) xs (tellR x w ys T)
    have h2 := tellR_len (x := x) (w := w) ys T
    show (tellA ys xs w (tellR x w ys T)).length ≤ T.length + (xs.length + 1) * ys.length
    rw [Nat.succ_mul]
    omega
theorem tellA_snoc {w : Str} {ys xs : List Str} {x : Str} {T : Tm} : tellA ys (xs ++ [x]) w T = tellR x w ys (tellA ys xs w T) := by
  unfold tellA
  rw [List.foldl_append]
  rfl
theorem tellR_snoc {w x y : Str} {ys : List Str} {T : Tm} : tellR x w (ys ++ [y]) T = tell1 x y w (tellR x w ys T) := by
  unfold tellR
  rw [List.foldl_append]
  rfl
theorem take_snocE {α : Type} {xs : List α} {i : Nat} {x : α} (h : xs[i]? = some x) : xs.take (i + 1) = xs.take i ++ [x] := by
  rw [List.take_succ, h]
  rfl
/-- self._told is d -/
structure ToldAt (K : PySem.W.Frag) (H : Hp) (p C d : Addr) (T : Tm) : Prop where
  ex : ∃ dx fs, H p = some (.ins C dx fs) ∧ fs.lookup ("_told" : Str) = some (V.ref d)
  t : H d = some (.dT T)
theorem ToldAt.ne {K : PySem.W.Frag} {H : Hp} {p C d : Addr} {T : Tm} (h : ToldAt K H p C d T) : p ≠ d := fun z => by
  obtain ⟨dx, fs, e, _⟩ := h.ex
  have e2 := h.t
  rw [← z, e] at e2
  cases e2
theorem ToldAt.on {K : PySem.W.Frag} {H H' : Hp} {p C d : Addr} {T T' : Tm} (h : ToldAt K H p C d T) (s : But [d] H H') (e : H' d = some (.dT T')) : ToldAt K H' p C d T' := by
  obtain ⟨dx, fs, e1, e2⟩ := h.ex
  exact ⟨⟨dx, fs, s _ _ e1 (by simpa using h.ne), e2⟩, e⟩
def spTell (K : PySem.W.Frag) (C : Addr) : Sp := fun vs H Q _ => ∃ (p l d : Addr) (ns : List Str) (w : Str) (T : Tm), vs = [.ref p, .ref l, .str w] ∧ ToldAt K H p C d T ∧ SqL K H l (ns.map V.str) ∧ T.length + ns.length * ns.length ≤ 10000000 ∧
  ∀ H', But [d] H H' → H' d = some (.dT (tellA ns ns w T)) → Q .non H'
/-! ### what a line behind the first one does -/
abbrev Ops := List (List Str)
def stepT (ps : List Str) (n : Nat) (ws : List Str) (ot : Ops × Tm) : Option (Ops × Tm) :=
  if (decide (n ≤ 21) && (decide (ot.1.length = 0) && metB ws ps)) = true then some (ot.1, tellA (ws.drop 1) (ws.drop 1) "met" ot.2)
  else if (decide (ot.1.length < 4) && openB ws ps ot.2) = true then some (ot.1 ++ [ws.drop 1], tellA (ws.drop 1) (ws.drop 1) "open" ot.2)
  else none
def runT (ps : List Str) : Nat → List (List Str) → Ops × Tm → Nat ⊕ (Ops × Tm)
  | _, [], ot => .inr ot
  | n, ws :: r, ot => match stepT ps n ws ot with
    | none => .inl n
    | some ot' => runT ps (n + 1) r ot'
def hallLines (x : Str) : List (List Str) := (Txt.split x "\n").map fun l => Txt.split l " "
def parseH (x : Str) : Nat ⊕ (Ops × Tm) :=
  match hallLines x with
  | [] => .inl 1
  | ws :: r => if peopleB ws = true then runT (ws.drop 1) 2 r ([], []) else .inl 1
/-- a tuple of tuples of texts -/
def OpsAt (K : PySem.W.Frag) (H : Hp) (o : Addr) (ops : Ops) : Prop := ∃ qs : List Addr, H o = some (.tup (qs.map V.ref)) ∧ qs.length = ops.length ∧ ∀ (i : Nat) (q : Addr) (op : List Str), qs[i]? = some q → ops[i]? = some op → H q = some (.tup (op.map V.str))
theorem dpS (K : PySem.W.Frag) (H : Hp) : ∀ xs : List Str, DpAll K H (xs.map V.str) (xs.map PyData.str)
  | [] => .nil
  | x :: xs => .cons (.str x) (dpS K H xs)
theorem dpOps {K : PySem.W.Frag} {H : Hp} : ∀ (qs : List Addr) (ops : Ops), qs.length = ops.length → (∀ (i : Nat) (q : Addr) (op : List Str), qs[i]? = some q → ops[i]? = some op → H q = some (.tup (op.map V.str))) →
    DpAll K H (qs.map V.ref) (ops.map fun op => .tuple (op.map PyData.str))
  | [], [], _, _ => .nil
  | [], _ :: _, l, _ => by cases l
  | _ :: _, [], l, _ => by cases l
  | q :: qs, op :: ops, l, f => .cons (.tup (SqT.of (f 0 q op rfl rfl)) (dpS K H op)) (dpOps qs ops (Nat.succ.inj l) fun i x y h1 h2 => f (i + 1) x y (by simpa using h1) (by simpa using h2))
theorem OpsAt.dp {K : PySem.W.Frag} {H : Hp} {o : Addr} {ops : Ops} (h : OpsAt K H o ops) : Dp K H (.ref o) (.tuple (ops.map fun op => .tuple (op.map PyData.str))) := by
  obtain ⟨qs, e, l, f⟩ := h
  exact .tup (SqT.of e) (dpOps qs ops l f)
theorem canS : ∀ xs : List Str, (∀ x ∈ xs, PyData.strOk x = true) → PyData.canLayAll0 (xs.map PyData.str) = true
  | [], _ => rfl
  | x :: xs, h => by
    have z := canS xs fun y hy => h y (List.mem_cons_of_mem _ hy)
    simp [PyData.canLayAll0, PyData.canLay0, h x List.mem_cons_self, z]
theorem depS : ∀ xs : List Str, PyData.depthAll (xs.map PyData.str) ≤ 1
  | [] => by simp [PyData.depthAll]
  | x :: xs => by
    have z := depS xs
    simp only [List.map_cons, PyData.depthAll, PyData.depth]
    omega
theorem canOps : ∀ ops : Ops, (∀ op ∈ ops, ∀ x ∈ op, PyData.strOk x = true) → PyData.canLayAll0 (ops.map fun op => .tuple (op.map PyData.str)) = true ∧ PyData.depthAll (ops.map fun op => .tuple (op.map PyData.str)) ≤ 5
  | [], _ => ⟨rfl, by simp [PyData.depthAll]⟩
  | op :: ops, h => by
    obtain ⟨z1, z2⟩ := canOps ops fun y hy => h y (List.mem_cons_of_mem _ hy)
    have z3 := canS op (h op List.mem_cons_self)
    have z4 := depS op
    refine ⟨by simp [PyData.canLayAll0, PyData.canLay0, z1, z3], ?_⟩
    simp only [List.map_cons, PyData.depthAll, PyData.depth]
    omega
theorem shOps {ops : Ops} (h : ∀ op ∈ ops, ∀ x ∈ op, PyData.strOk x = true) : SeqAt.shaped (.tuple (ops.map fun op => .tuple (op.map PyData.str))) = true := by
  obtain ⟨z1, z2⟩ := canOps ops h
  unfold SeqAt.shaped
  rw [Bool.and_eq_true]
  refine ⟨by simpa [PyData.canLay0] using z1, decide_eq_true ?_⟩
  simp only [PyData.depth]
  omega
theorem nameOk {x : Str} (h : nameB x = true) : PyData.strOk x = true := by
  unfold nameB at h
  simp only [Bool.and_eq_true] at h
  obtain ⟨_, _, h3⟩ := h
  unfold PyData.strOk
  rw [← Array.all_toList, List.all_eq_true]
  intro c hc
  have z := of_decide_eq_true (List.all_eq_true.mp h3 c hc)
  have q : ∀ c ∈ letters.cps.toList, decide (c < 1114112) = true := by decide +kernel
  exact q c z
theorem eqv_nil {ds : List PyData} : PyData.eqv (.tuple ds) (.tuple []) = decide (ds.length = 0) := by
  cases ds with
  | nil => rfl
  | cons d ds => rfl
/-! ### a hall as it stands -/
def fsH (x : Str) (pp o d : Addr) : List (Str × V) := [("text", .str x), ("people", .ref pp), ("opens", .ref o), ("_told", .ref d)]
structure HallAt (K : PySem.W.Frag) (H : Hp) (C p : Addr) (x : Str) (pp o d : Addr) (ps : List Str) (ops : Ops) (T : Tm) : Prop where
  ex : ∃ dx, H p = some (.ins C dx (fsH x pp o d))
  pe : H pp = some (.tup (ps.map V.str))
  op : OpsAt K H o ops
  t : H d = some (.dT T)
  ok : ∀ op ∈ ops, ∀ x ∈ op, PyData.strOk x = true
theorem HallAt.told {K : PySem.W.Frag} {H : Hp} {C p : Addr} {x : Str} {pp o d : Addr} {ps : List Str} {ops : Ops} {T : Tm} (h : HallAt K H C p x pp o d ps ops T) : ToldAt K H p C d T := by
  obtain ⟨dx, e⟩ := h.ex
  exact ⟨⟨dx, _, e, rfl⟩, h.t⟩
theorem OpsAt.but {K : PySem.W.Frag} {H H' : Hp} {S : List Addr} {o : Addr} {ops : Ops} (h : OpsAt K H o ops) (s : But S H H') (n : ∀ a ∈ S, ∀ xs, H a ≠ some (.tup xs)) : OpsAt K H' o ops := by
  obtain ⟨qs, e, l, f⟩ := h
  exact ⟨qs, s _ _ e fun z => n _ z _ e, l, fun i q op h1 h2 => s _ _ (f i q op h1 h2) fun z => n _ z _ (f i q op h1 h2)⟩
/-- only the dict of what is told changed -/
theorem HallAt.on {K : PySem.W.Frag} {H H' : Hp} {C p : Addr} {x : Str} {pp o d : Addr} {ps : List Str} {ops : Ops} {T T' : Tm} (h : HallAt K H C p x pp o d ps ops T) (s : But [d] H H') (e : H' d = some (.dT T')) : HallAt K H' C p x pp o d ps ops T' := by
  obtain ⟨dx, e1⟩ := h.ex
  have n : ∀ a ∈ [d], ∀ xs, H a ≠ some (.tup xs) := fun a ha xs z => by
    rw [List.mem_singleton.mp ha, h.t] at z
    cases z
  refine ⟨⟨dx, s _ _ e1 fun z => ?_⟩, s _ _ h.pe fun z => n _ z _ h.pe, h.op.but s n, e, h.ok⟩
  rw [List.mem_singleton.mp z, h.t] at e1
  cases e1
theorem HallAt.same {K : PySem.W.Frag} {H H' : Hp} {C p : Addr} {x : Str} {pp o d : Addr} {ps : List Str} {ops : Ops} {T : Tm} (h : HallAt K H C p x pp o d ps ops T) (s : Same H H') : HallAt K H' C p x pp o d ps ops T :=
  h.on (But.of s) (s _ _ h.t)
theorem HallAt.opened {K : PySem.W.Frag} {H H1 : Hp} {C p : Addr} {x : Str} {pp o d : Addr} {ps : List Str} {ops : Ops} {T : Tm} (h : HallAt K H C p x pp o d ps ops T) {o' : Addr} {ops' : Ops} (h' : OpsAt K H o' ops') (ok : ∀ op ∈ ops', ∀ x ∈ op, PyData.strOk x = true) {dx : Addr}
    (e : H1 = upd H p (.ins C dx (fsH x pp o' d))) : HallAt K H1 C p x pp o' d ps ops' T := by
  subst e
  obtain ⟨dx0, e0⟩ := h.ex
  have s : But [p] H (upd H p (.ins C dx (fsH x pp o' d))) := (But.refl (S := [p])).up (List.mem_singleton.mpr rfl)
  have n : ∀ a ∈ [p], ∀ xs, H a ≠ some (.tup xs) := fun a ha xs z => by
    rw [List.mem_singleton.mp ha, e0] at z
    cases z
  refine ⟨⟨dx, upd_same⟩, s _ _ h.pe fun z => n _ z _ h.pe, h'.but s n, s _ _ h.t fun z => ?_, ok⟩
  have z2 := h.t
  rw [List.mem_singleton.mp z, e0] at z2
  cases z2
def spTakes (K : PySem.W.Frag) (C : Addr) : Sp := fun vs H Q _ => ∃ (p l pp o d : Addr) (n : Nat) (x : Str) (ws ps : List Str) (ops : Ops) (T : Tm), vs = [.ref p, .int (n : Int), .ref l] ∧ HallAt K H C p x pp o d ps ops T ∧ SqL K H l (ws.map V.str) ∧ 0 < ws.length ∧ ws.length ≤ 100 ∧
  (∀ y ∈ ps, PyData.strOk y = true) ∧ ops.length ≤ 1000 ∧ T.length ≤ 9000000 ∧
  (stepT ps n ws (ops, T) = none → ∀ H', Same H H' → Q (.bl false) H') ∧
  (∀ ops' T', stepT ps n ws (ops, T) = some (ops', T') → ∀ H' o', But [p, d] H H' → HallAt K H' C p x pp o' d ps ops' T' → Q (.bl true) H')
theorem OpsAt.snoc {K : PySem.W.Frag} {H H' : Hp} {o o' q : Addr} {ops : Ops} {op : List Str} {ovs : List V} (h : OpsAt K H o ops) (s : Same H H') (ho : H o = some (.tup ovs)) (e : H' o' = some (.tup (ovs ++ [V.ref q]))) (eq : H' q = some (.tup (op.map V.str))) : OpsAt K H' o' (ops ++ [op]) := by
  obtain ⟨qs, e1, l, f⟩ := h
  rw [e1] at ho
  have z : ovs = qs.map V.ref := by
    have := Option.some.inj ho
    cases this
    rfl
  subst z
  refine ⟨qs ++ [q], ?_, by simp [l], fun i a b h1 h2 => ?_⟩
  · rw [e, List.map_append]
    rfl
  · by_cases hi : i < qs.length
    · rw [List.getElem?_append_left hi] at h1
      rw [List.getElem?_append_left (l ▸ hi)] at h2
      exact s _ _ (f i a b h1 h2)
    · rw [List.getElem?_append_right (by omega)] at h1
      rw [List.getElem?_append_right (by omega)] at h2
      have hq : i - qs.length = 0 := by
        cases k : i - qs.length with
        | zero => rfl
        | succ k' =>
          rw [k] at h1
          simp at h1
      rw [hq] at h1
      rw [← l, hq] at h2
      have ha : q = a := by simpa using h1
      have hb : op = b := by simpa using h2
      rw [← ha, ← hb]
      exact eq
theorem amongOk {xs ps : List Str} (h : amongB xs ps = true) (ok : ∀ y ∈ ps, PyData.strOk y = true) : ∀ x ∈ xs, PyData.strOk x = true := by
  unfold amongB at h
  rw [Bool.and_eq_true] at h
  intro x hx
  exact ok x (of_decide_eq_true (List.all_eq_true.mp h.2 x hx))
end MX

set_option Elab.async false
set_option linter.all false
set_option maxRecDepth 100000
set_option maxHeartbeats 4000000
namespace MX
open PySem PySem.Spec PySem.W PySem.Calls PyProof.Rows L2
/-- C(v) made, to be raised -/
theorem mkO_ok {K : PySem.W.Frag} {C fI : Addr} {H1 : Hp} {v : V} {Qx : XK} (T : ExcT K C fI) (h : ∀ dx, H1 dx = none → Qx (.ref C) (some dx) (upd H1 dx (.xd [(("value" : Str), v)]))) :
    ([v] : List V).length ≤ 1000 ∧ ∀ a, H1 a = none → spErr K (.ref a :: ([v] ++ [])) (upd H1 a (exo a C none))
      (fun u H2 => u = .non ∧ ∃ (d : Addr) (fs : List (Str × V)), H2 a = some (exo a C (some d)) ∧ H2 d = some (exd d fs) ∧ H1 d = none ∧ Qx (.ref C) (some d) (upd (del H2 a) d (.xd fs))) (fun _ _ _ => False) := by
  refine ⟨(show 1 ≤ 1000 by decide), fun a ha => ⟨a, C, fI, v, rfl, T, upd_same, fun dx hdx ne => ⟨rfl, dx, [(("value" : Str), v)], upd_same, ?_, ?_, ?_⟩⟩⟩
  · rw [upd_ne ne, upd_same]
  · rw [upd_ne ne] at hdx
    exact hdx
  · have h1 : H1 dx = none := by
      rw [upd_ne ne] at hdx
      exact hdx
    have z := h dx h1
    have e : upd (del (upd (upd (upd H1 a (exo a C none)) dx (exd dx [(("value" : Str), v)])) a (exo a C (some dx))) a) dx (.xd [(("value" : Str), v)]) = upd H1 dx (.xd [(("value" : Str), v)]) := by
      funext b
      by_cases hb : b = dx
      · rw [hb, upd_same, upd_same]
      · rw [upd_ne hb, upd_ne hb]
        by_cases hba : b = a
        · rw [hba, del_same, ha]
        · rw [del_ne hba, upd_ne hba, upd_ne hb, upd_ne hba]
    rw [e]
    exact z
theorem cut1G (xs : List V) : cutV xs (some 1) none = xs.drop 1 := by
  cases xs with
  | nil => rfl
  | cons w ws =>
    unfold cutV
    have e1 : HT.sIx (w :: ws).length 0 (some 1) = 1 := by
      unfold HT.sIx
      simp
    have e2 : HT.sIx (w :: ws).length (w :: ws).length none = (w :: ws).length := rfl
    rw [e1, e2]
    simp only [List.drop_succ_cons, List.drop_zero, List.length_cons, Nat.add_sub_cancel]
    rw [List.take_length]
/-- a list of lists of texts -/
def LinesAt (H : Hp) (L : Addr) (wss : List (List Str)) : Prop := ∃ qs : List Addr, H L = some (.lst (qs.map V.ref)) ∧ qs.length = wss.length ∧ ∀ (i : Nat) (q : Addr) (ws : List Str), qs[i]? = some q → wss[i]? = some ws → H q = some (.lst (ws.map V.str))
theorem LinesAt.but {H H' : Hp} {S : List Addr} {L : Addr} {wss : List (List Str)} (h : LinesAt H L wss) (s : But S H H') (n : ∀ a ∈ S, ∀ xs, H a ≠ some (.lst xs)) : LinesAt H' L wss := by
  obtain ⟨qs, e, l, f⟩ := h
  exact ⟨qs, s _ _ e fun z => n _ z _ e, l, fun i q ws h1 h2 => s _ _ (f i q ws h1 h2) fun z => n _ z _ (f i q ws h1 h2)⟩
theorem LinesAt.same {H H' : Hp} {L : Addr} {wss : List (List Str)} (h : LinesAt H L wss) (s : Same H H') : LinesAt H' L wss := h.but (S := []) (But.of s) fun _ z => by cases z
theorem LinesAt.nil {H : Hp} {L : Addr} (e : H L = some (.lst [])) : LinesAt H L [] := ⟨[], e, rfl, fun i q ws h1 _ => by simp at h1⟩
theorem LinesAt.apart {H : Hp} {L : Addr} {wss : List (List Str)} {qs : List Addr} (e1 : H L = some (.lst (qs.map V.ref))) {i : Nat} {a : Addr} {ws : List Str} (h1 : qs[i]? = some a) (e2 : H a = some (.lst (ws.map V.str))) : a ≠ L := fun z => by
  rw [z, e1] at e2
  have e3 : qs.map V.ref = ws.map V.str := by
    have := Option.some.inj e2
    injection this
  have e4 := congrArg (fun l => l[i]?) e3
  simp only [List.getElem?_map, h1] at e4
  cases q : ws[i]? with
  | none =>
    rw [q] at e4
    cases e4
  | some y =>
    rw [q] at e4
    cases e4
theorem LinesAt.snoc {H H' : Hp} {L q : Addr} {wss : List (List Str)} {ws : List Str} {qs : List Addr} (h : LinesAt H L wss) (e1 : H L = some (.lst (qs.map V.ref))) (s : But [L] H H') (e : H' L = some (.lst (qs.map V.ref ++ [V.ref q]))) (eq : H' q = some (.lst (ws.map V.str))) : LinesAt H' L (wss ++ [ws]) := by
  obtain ⟨qs', e1', l, f⟩ := h
  have z : qs' = qs := by
    rw [e1] at e1'
    have e3 : qs.map V.ref = qs'.map V.ref := by
      have := Option.some.inj e1'
      injection this
    have inj : ∀ (a b : List Addr), a.map V.ref = b.map V.ref → b = a := by
      intro a
      induction a with
      | nil => intro b hb; cases b with
        | nil => rfl
        | cons _ _ => cases hb
      | cons x r ih => intro b hb; cases b with
        | nil => cases hb
        | cons y r2 =>
          rw [List.map_cons, List.map_cons] at hb
          injection hb with h1 h2
          injection h1 with h1
          rw [ih r2 h2, h1]
    exact inj qs qs' e3
  subst z
  refine ⟨qs' ++ [q], ?_, by simp [l], fun i a b h1 h2 => ?_⟩
  · rw [e, List.map_append]
    rfl
  · by_cases hi : i < qs'.length
    · rw [List.getElem?_append_left hi] at h1
      rw [List.getElem?_append_left (l ▸ hi)] at h2
      have e2 := f i a b h1 h2
      exact s _ _ e2 (by simpa using LinesAt.apart (wss := wss) e1 h1 e2)
    · rw [List.getElem?_append_right (by omega)] at h1
      rw [List.getElem?_append_right (by omega)] at h2
      have hq : i - qs'.length = 0 := by
        cases k : i - qs'.length with
        | zero => rfl
        | succ k' =>
          rw [k] at h1
          simp at h1
      rw [hq] at h1
      rw [← l, hq] at h2
      have ha : q = a := by simpa using h1
      have hb : ws = b := by simpa using h2
      rw [← ha, ← hb]
      exact eq
structure TextOk (x : Str) : Prop where
  len : x.length ≤ 10000000
  few : (hallLines x).length ≤ 500
  one : 0 < (hallLines x).length
  sh : ∀ l ∈ Txt.split x "\n", l.length ≤ 100000
  ws : ∀ ws ∈ hallLines x, 0 < ws.length ∧ ws.length ≤ 100 ∧ ∀ w ∈ ws, w.length ≤ 10000
def peopleOf (x : Str) : List Str := ((hallLines x).headD []).drop 1
def spInit (K : PySem.W.Frag) (C cB : Addr) : Sp := fun vs H Q E => ∃ (p dx : Addr) (vt : V), vs = [.ref p, vt] ∧ H p = some (.ins C dx []) ∧
  ((∃ t, TyX K H vt t ∧ PySem.W.kitOne K t (.type "str") = some false ∧ ∀ dd, H dd = none → E (.ref cB) (some dd) (upd H dd (.xd [(("value" : Str), .int 0)]))) ∨
  (∃ x : Str, vt = .str x ∧ TextOk x ∧
    (∀ n : Nat, parseH x = .inl n → ∀ H' dd, But [p] H H' → H' dd = none → E (.ref cB) (some dd) (upd H' dd (.xd [(("value" : Str), .int (n : Int))]))) ∧
    (∀ ops T, parseH x = .inr (ops, T) → ∀ H' pp o d, But [p] H H' → HallAt K H' C p x pp o d (peopleOf x) ops T → Q .non H')))
theorem step_len {ps ws : List Str} {n : Nat} {ops ops' : Ops} {T T' : Tm} (h : MX.stepT ps n ws (ops, T) = some (ops', T')) (hl : ws.length ≤ 100) : ops'.length ≤ ops.length + 1 ∧ T'.length ≤ T.length + 10000 := by
  have z : (ws.drop 1).length ≤ 100 := by rw [List.length_drop]; omega
  have z2 := Nat.mul_le_mul z z
  unfold MX.stepT at h
  split at h
  · cases h
    have := tellA_len (w := "met") (ys := ws.drop 1) (ws.drop 1) T
    dsimp only
    exact ⟨by omega, by omega⟩
  · split at h
    · cases h
      have := tellA_len (w := "open") (ys := ws.drop 1) (ws.drop 1) T
      dsimp only
      exact ⟨by simp, by omega⟩
    · cases h
end MX

set_option Elab.async false
set_option linter.all false
set_option maxRecDepth 100000
set_option maxHeartbeats 4000000
namespace MX
open PySem PySem.Spec PySem.W PySem.Calls PyProof.Rows L2
section
variable {P : Program} {w : World} {K : PySem.W.Frag} {mg : Str → Option Value} {base : Heap} {CX : CXT} {k : Nat} {f : Addr} {fd : FuncData} {ps : List Str} {sp : Sp}
/-- as okG; the def's own code object is told -/
theorem okGC {x qual : Str} {params : Arguments} {body : List Stmt} {scope : Scope} {dvs : List V} {kws : List (Str × V)} {N : List Str}
    (F : FunD K x qual params body scope dvs kws f fd) (S : FnScope N ps scope) (hl : ∀ vs H Q E, sp vs H Q E → vs.length = ps.length)
    (hb : ∀ (cdv : Value), fd.code = cdv → ∀ (A : Around) (out : List Env) (s : Shared) (H : Hp) (vs : List V) (Q : VK) (E : XK),
      RoomG k (A.deeper (envOfC qual scope s.heap.objs.size f cdv)) → sp vs H Q E →
      ∃ t, PSs (cxOf CX P w K mg base N qual scope f cdv A out s H E) body t ∧ t { nx := fun _ H' => Q .non H', rt := Q } (start N vs) H) :
    FnG P w K mg base CX (k + 1) f fd ps sp := by
  obtain ⟨oc, od, dV, kV, doc, pm, an, cdv, ct, osl, rfl, lk, hcd, _, _⟩ := F.ex
  constructor
  · exact hl
  intro A out s H gs us vs Q E hr z hbi rv hs
  have hlen := hl vs H Q E hs
  have kIn : K.In s.heap := z.mod.kin.keeps (fun b o e => (z.bs b o e).1)
  have nolim : s.heap.NoLimit := z.mod.nolimit.keeps (fun b o e => (z.bs b o e).1)
  refine codeAny_call_function hr.r.depth (kIn _ _ lk) rfl S.co S.gen rfl (PySem.W.codeRec_of kIn hcd) (hbi _ _ _ _ ?_)
  have kinds : ∀ y, y ∈ ps.zip us → scope.names.lookup y.1 = some .local ∨ (scope.names.lookup y.1 = some .cell ∧ ((cellsFrom (s.heap.objs.size + 1) scope.names []).lookup y.1).isSome = true) := by
    intro y hy
    obtain ⟨n, v⟩ := y
    cases S.par n (List.of_mem_zip hy).1 with
    | inl q => exact Or.inl q
    | inr q => exact Or.inr ⟨q, PySem.W.cellsFrom_some _ _ _ (Or.inl q)⟩
  refine wpAny_newFunctionEnv_cells S.kind kinds (fun env he s1 x => ?_)
  cases he
  refine ⟨nolim.keeps x.toInCall.keep, codeAny_func ?_⟩
  obtain ⟨t, ht, hq⟩ := hb cdv rfl A out s H vs Q E (hr.deeper _) hs
  have J : Inv (cxOf CX P w K mg base N qual scope f cdv A out s H E) [] (start N vs) H s1 := inv_start S hr.r.hd z hlen rv x
  refine wpAny_mono (ht.run [] s1 (start N vs) H _ J hq) ?_ (fun _ _ q => q)
  intro fl s' q
  cases fl with
  | next =>
    obtain ⟨σ', H', J', q'⟩ := q
    exact ⟨V.non, H', J'.os, J'.bare, J'.base, J'.hok, rfl, q'⟩
  | ret u =>
    obtain ⟨v, σ', H', J', rr, q'⟩ := q
    exact ⟨v, H', J'.os, J'.bare, J'.base, J'.hok, rr, q'⟩
  | cont =>
    obtain ⟨_, _, _, q'⟩ := q
    exact q'.elim
  | brk =>
    obtain ⟨_, _, _, q'⟩ := q
    exact q'.elim
end
end MX

set_option Elab.async false
set_option linter.all false
set_option maxRecDepth 100000
set_option maxHeartbeats 4000000
namespace MX
open PySem PySem.Spec PySem.W PySem.Calls PyProof.Rows L2
/-! ### an exception that is kept behind its except suite -/
def exk (a : Addr) (cls : Value) (d : Option Addr) : HO := .ext fun h => ∃ (oe : Obj) (vs : Array Value), h.get? a = some oe ∧ Zc cls d oe ∧ oe.data = .fields vs
theorem exk_at {P : Program} {w : World} {H : Hp} {h : Heap} {a : Addr} {cls : Value} {d : Option Addr} (k : HOk P w H h) (e : H a = some (exk a cls d)) : ∃ (oe : Obj) (vs : Array Value), h.get? a = some oe ∧ Zc cls d oe ∧ oe.data = .fields vs := by
  have z : ObjOk P w H h a (.ext fun h => ∃ (oe : Obj) (vs : Array Value), h.get? a = some oe ∧ Zc cls d oe ∧ oe.data = .fields vs) := k a _ e
  exact z.1
/-- what stands untracked and new is known from now on -/
theorem Inv.known {X : Cx} {pins : List (Addr × Obj)} {σ : L2.St} {H : Hp} {s : Shared} (J : L2.Inv X pins σ H s) {a : Addr} {cls : Value} {d : Option Addr} {oe : Obj} {vs : Array Value} (na : H a = none) (ea : s.heap.get? a = some oe) (hz : Zc cls d oe) (hd : oe.data = .fields vs)
    (new : X.s_0.heap.get? a = none) (nL : a ≠ X.env.locals) (np : ∀ p ∈ X.pn ++ pins, p.1 ≠ a) : L2.Inv X pins σ (upd H a (exk a cls d)) s := by
  have ne : ∀ b o, H b = some o → b ≠ a := fun b o e => ne_of_none e na
  refine ⟨J.ok, J.os, J.bare, ⟨J.base.keep, J.base.slot, fun b o e n x => ?_, J.base.there, fun b xs e => ?_, fun b o u e => ?_, fun b ps e => ?_⟩, J.loc, J.cell, ?_, fun y c e => ?_, fun p hp => ?_, fun b u e => ?_, J.len⟩
  · have q : b ≠ a := fun z => by rw [z, new] at e; cases e
    rw [upd_ne q]; exact J.base.free b o e n x
  · have q := J.base.tups b xs e
    rw [upd_ne (ne _ _ q)]; exact q
  · have q := J.base.frzs b o u e
    rw [upd_ne (ne _ _ q)]; exact q
  · obtain ⟨more, q⟩ := J.base.tbls b ps e
    exact ⟨more, by rw [upd_ne (ne _ _ q)]; exact q⟩
  · rw [upd_ne (Ne.symm nL)]; exact J.free
  · have q : c ≠ a := fun z => by
      obtain ⟨v, o, ho, hc⟩ := J.cell y c e
      rw [z, ea] at ho
      cases ho
      rw [hd] at hc
      cases hc
    rw [upd_ne q]; exact J.freeC y c e
  · obtain ⟨q1, q2, q3, q4, q5⟩ := J.pin p hp
    exact ⟨q1, by rw [upd_ne (np p hp)]; exact q2, q3, q4, q5⟩
  · by_cases q : b = a
    · rw [q, upd_same] at e
      cases e
      rw [q]
      exact ⟨⟨oe, vs, ea, hz, hd⟩, ⟨oe, ea⟩, fun h1 h2 ⟨o, v, x1, x2, x3⟩ st => ⟨o, v, st _ x1, x2, x3⟩⟩
    · rw [upd_ne q] at e
      exact (J.hok b u e).stay (fun _ _ _ z => z) (fun b' z => by rw [upd_ne (ne _ _ z)]; exact z) fun b' xs z => by rw [upd_ne (ne _ _ z)]; exact z
def wKept (K : PySem.W.Frag) (c : Value) (i : Nat) (ts : Addr → Value → Option Addr → TS) (Wo : WX) (D : Ends) : WX := fun cls d τ G =>
  ∃ b, PySem.W.exmOne K cls c = some b ∧ (b = true → ∀ a, G a = none → ts a cls d { nx := fun τ' G' => D.nx (τ'.set i none) (upd G' a (exk a cls d)), rt := fun _ _ => False, bk := fun _ _ => False, ct := fun _ _ => False } (τ.set i (some (.ref a))) G) ∧
    (b = false → Wo cls d τ G)
section
variable {X : Cx} {x n : Str} {c : Value} {i : Nat} {body rest : List Stmt} {st : Stmt} {q1 q2 q3 : Pos} {tb : WX → TS} {ts : Addr → Value → Option Addr → TS} {Wo : WX}
theorem ps_try_kept (hex : X.ex = []) (hs : X.stack = X.env :: X.outer) (hf : X.env.frame = some X.env.locals) (hN : X.N.Nodup) (hi : X.N[i]? = some n) (hn : X.env.kindOf n = some .local) (hc : Names X x c) (tk : Takes X Wo)
    (hb : ∀ (W : WX) (pn : List (Addr × Obj)) (xe : Value → Shared → Prop), Takes (X.tr pn xe) W → PassesOwn (model X.prog X.w) X.A X.env xe → PSs (X.tr pn xe) body (tb W))
    (hsu : ∀ (a : Addr) (oe : Obj) (cls : Value) (d : Option Addr) (pn : List (Addr × Obj)), Zc cls d oe → (∃ vs, oe.data = .fields vs) → PSs (X.suite a ((a, oe) :: pn)) (st :: rest) (ts a cls d)) :
    PS X (.Try body [.ExceptHandler (some (.Name x q1)) (some n) (st :: rest) q2] [] [] q3) (fun D τ G => tb (wKept X.K c i ts Wo D) D τ G) := by
  constructor
  intro pins s τ G D I h
  have good := I.ok
  have frm : X.A.frames = some (X.env :: X.outer) := by rw [good.frames, hs]
  apply wpAny_Try_except
  have run := (hb (wKept X.K c i ts Wo D) (X.pn ++ pins) (fun e z => wpAny (model X.prog X.w) X.A (noteFrame e X.env) (fun _ z2 => wpAny (model X.prog X.w) X.A (setFlight e none) (fun _ z3 =>
    wpAny (model X.prog X.w) X.A (handleBy e X.env [.ExceptHandler (some (.Name x q1)) (some n) (st :: rest) q2]) (SP X pins D) X.xe z3) X.xe z2) X.xe z) ?_ PassesOwn.looking).run [] s τ G D (I.toTry _) h
  · refine wpAny_mono run ?_ (fun e z he => he)
    intro fl z hz
    match fl, hz with
    | .next, ⟨τ', G', J, w⟩ => exact wpAny_execs_nil ⟨τ', G', J.ofTry good, w⟩
    | .brk, ⟨τ', G', J, w⟩ => exact ⟨τ', G', J.ofTry good, w⟩
    | .cont, ⟨τ', G', J, w⟩ => exact ⟨τ', G', J.ofTry good, w⟩
    | .ret u, ⟨v, τ', G', J, r, w⟩ => exact ⟨v, τ', G', J.ofTry good, r, w⟩
  rintro u z ⟨a, B, zI, pins', τ', G', cls, d, rfl, J0, keepB, up, sky, na, os, bare, b, mt, yes, no⟩
  have J : L2.Inv X pins τ' G' zI := J0.ofTry good
  show wpAny (model X.prog X.w) X.A (noteFrame (.ref a) X.env) _ _ _
  refine Sky.land Zc.steady frm hf (by rw [← hs]; exact sky) ?_
  intro g1 fly1 up1
  have J1 : L2.Inv X pins τ' G' { z with heap := g1 } := J.landed keepB fly1.1 (up.trans up1) os bare
  obtain ⟨o1, v1, at1, zc1, dt1⟩ := fly1.there
  have apart : a ∉ frs (X.env :: X.outer) := fun hm => by
    obtain ⟨_, o, e, hnf⟩ := fly1.2.2.1.mem hm
    rw [at1] at e; cases e; exact hnf _ dt1
  have aL : a ≠ X.env.locals := fun w => apart (List.mem_filterMap.mpr ⟨X.env, List.mem_cons_self, by rw [hf, w]⟩)
  have aF : a ∉ X.fs := fun hm => by
    obtain ⟨e, he, w⟩ := List.mem_filterMap.mp hm
    exact apart (List.mem_filterMap.mpr ⟨e, List.mem_cons_of_mem _ he, w⟩)
  have fresh : zI.heap.get? a = none := by
    cases w : zI.heap.get? a with
    | none => rfl
    | some o =>
      have w2 := keepB a o w (by rw [hs]; exact apart)
      rw [fly1.2.1] at w2
      cases w2
  have fresh0 : X.s_0.heap.get? a = none := by
    cases w : X.s_0.heap.get? a with
    | none => rfl
    | some o =>
      obtain ⟨o', w2⟩ := J.base.there a o w (by rw [hex]; exact List.not_mem_nil)
      rw [fresh] at w2
      cases w2
  have apins : ∀ p ∈ X.pn ++ pins, p.1 ≠ a := fun p hp w => by
    have w2 := (J.pin p hp).1
    rw [w, fresh] at w2
    cases w2
  have S1 := J1.suite at1 dt1 na aL aF
  refine wpAny_handleBy_cons (codeAny_handlers_test ?_) (by intro w; cases w)
  have look : PySem.W.Looks (model X.prog X.w) g1 (typeOf (.ref a)) cls := fun _ _ _ _ k w => wpAny_typeOf_ref (k _ _ at1) (by rw [zc1.1]; exact w)
  have kind := PySem.W.exm_one (M := model X.prog X.w) J1.kIn look mt
  have named : ∀ {Q E : Value → Shared → Prop}, Q c { z with heap := g1 } → wpAny (model X.prog X.w) (X.A.mark (some (.ref a))) (eval (.Name x q1) X.env) Q E { z with heap := g1 } := by
    intro Q E w
    rcases hc with ⟨hg, hdb, hm | ⟨hm, hv, hnn⟩⟩
    · exact ld_glob (X := X.suite a ((a, o1) :: (X.pn ++ pins))) S1 hg hm w hdb
    · exact ld_blt (X := X.suite a ((a, o1) :: (X.pn ++ pins))) S1 hg hm hv w hnn hdb
  refine named (kind.here ?_)
  cases b with
  | false =>
    show wpAny _ X.A (handleBy (.ref a) X.env []) _ _ _
    apply wpAny_handleBy_nil
    obtain ⟨_, _, _, oe, vs, tr, _, _, e1, _, e2, e3, _⟩ := id fly1
    unfold PySem.passOn
    refine wpAny_bind (wpAny_field e1 e2 e3 ?_)
    rw [if_neg (show ¬ ((Value.ref tr == Value.none) = true) from by simp)]
    have out : wpAny (model X.prog X.w) X.A (setFlight (.ref a) X.env.frame) (fun _ z4 => wpAny (model X.prog X.w) X.A (throw (.ref a) : Sem Flow) (SP X pins D) X.xe z4) X.xe { z with heap := g1 } := by
      rw [hf]
      refine HandSPX.setFlight_upZ fly1 ?_
      intro g4 held4 up4
      exact wpAny_throw (tk _ _ ⟨a, B, zI, pins, τ', G', cls, d, rfl, J, keepB, (up.trans up1).trans up4, .inr (.inr (by rw [hs]; exact held4)), na, os, bare, no rfl⟩)
    first
      | exact wpAny_bind (wpAny_pure (wpAny_bind out))
      | exact wpAny_bind out
  | true =>
    apply codeAny_handlers_suite_as
    refine HandSPX.lands_againZ fly1 ?_
    intro g2 fly2 up2
    have J2 : L2.Inv X pins τ' G' { z with heap := g2 } := J.landed keepB fly2.1 ((up.trans up1).trans up2) os bare
    obtain ⟨o2, v2, at2, zc2, dt2⟩ := fly2.there
    have S2 := J2.suite at2 dt2 na aL aF
    refine store_ok (X := X.suite a ((a, o2) :: (X.pn ++ pins))) (v := .ref a) S2 hN hi (.inl hn) rfl ?_ (.inr hn)
    intro z5 S5
    refine wpAny_mono ((hsu a o2 cls d (X.pn ++ pins) zc2 ⟨_, dt2⟩).run [] z5 _ G' _ S5 (yes rfl a na)) ?_ (fun _ _ w => w.elim)
    intro fl z6 hz
    match fl, hz with
    | .next, ⟨τ6, G6, S6, w⟩ =>
      have p6 := S6.pin (a, o2) (List.mem_append_left _ List.mem_cons_self)
      have K6 := Inv.known (cls := cls) (d := d) (S6.unsuite good) p6.2.1 p6.1 zc2 dt2 fresh0 aL apins
      exact gone_ok K6 hN hi hn fun z7 J7 => ⟨_, _, J7, w⟩
    | .brk, ⟨_, _, _, w⟩ => exact w.elim
    | .cont, ⟨_, _, _, w⟩ => exact w.elim
    | .ret u, ⟨_, _, _, _, _, w⟩ => exact w.elim
end
/-- the pair that _law_told gives back, v what came back -/
def toldBack (f : Addr) (Q : VK) (v : V) (G : Hp) : Prop := tRet (tTup (tCons (tVar 1) (tCons (tVar 2) tNil))) { nx := fun _ G => Q .non G, rt := Q } [some (.ref f), some .non, some v, none] G
theorem toldBack.by {f : Addr} {Q : VK} {v : V} {G : Hp} (h : ∀ r, G r = none → Q (.ref r) (upd G r (.tup [.non, v]))) : toldBack f Q v G := ⟨_, rfl, _, rfl, (show 2 ≤ sizeLine by decide), fun r hr => h r hr⟩
/-- what _law_told makes of the lambda's reading: (caught, None) or (None, back) -/
def TKept (K : PySem.W.Frag) (CM : Addr) : (XK → Hp → VK → Prop) → Hp → VK → Prop := fun tl H Q => ∀ f z, H z = none →
  tl (fun cls d G => ∃ b, PySem.W.exmOne K cls (.ref CM) = some b ∧ (b = true → ∀ a, G a = none → ∀ r, (upd G a (exk a cls d)) r = none → Q (.ref r) (upd (upd G a (exk a cls d)) r (.tup [.ref a, .non]))) ∧ (b = false → False))
    (upd H z (.tup [.non, .non])) (toldBack f Q)
/-! ### a lambda handed to a def that calls it, the slots known when it raises -/
section
variable {X : Cx} {pins : List (Addr × Obj)} {σ : L2.St} {H : Hp} {s : Shared}
abbrev gotCx (X : Cx) (Ng : List Str) (x : Str) (sg : Scope) (g : Addr) (cdg : Value) (s : Shared) (H : Hp) : Cx := cxOf C8.CX0 X.prog X.w X.K X.mg X.base Ng x sg g cdg X.A X.stack s H C8.E0
theorem pe_actK {Ng : List Str} {qg : Str} {sg : Scope} {g f c' : Addr} {cdg pm ctv : Value} {ar : Arguments} {body : Expr} {sc : Scope} {k i : Nat} {a : Str} {pn : List (Addr × Obj)} {xe : Value → Shared → Prop} {W : WX} {tb : XK → TE} {p1 p2 : Pos}
    (I : L2.Inv X pins σ H s) (L : LamX.LamS X.env.scope sc) (hf : s.heap.get? f = some (PySem.W.kla_obj "<lambda>" (X.env.qual ++ "<lambda>") ar body sc (cloFrom X.env.cells sc.names []) pm c' ctv)) (nf : H f = none) (ff : f ∉ frs X.stack)
    (hbi : bindArgs (PySem.W.kla_fn "<lambda>" (X.env.qual ++ "<lambda>") ar body sc (cloFrom X.env.cells sc.names []) pm (.ref c') ctv) ⟨[], []⟩ = pure [])
    (tk : Takes ((gotCx X Ng qg sg g cdg s H).tr pn xe) W) (hr : Room (k + 1) (X.A.deeper (envOfC qg sg s.heap.objs.size g cdg)))
    (hbo : ∀ (A : Around) (out : List Env) (z : Shared) (G : Hp) (E : XK), Room k (A.deeper (LamX.lamEnv X sc z.heap.objs.size f c')) → PE (LamX.lamCx X A out z G E sc f c') body (tb E))
    (hN : Ng[i]? = some a) (hv : Vis sg a) (hd : (a == ("__debug__" : Str)) = false) (hcd : (a == ("__classdict__" : Str)) = false) :
    PE ((gotCx X Ng qg sg g cdg s H).tr pn xe) (.Call (.Name a p1) [] [] p2)
      (fun τ G Q => ∃ E : XK, (∀ cls d G', E cls d G' → W cls d τ G') ∧ τ[i]? = some (some (.ref f)) ∧ G c' = some (LamX.CodeO c' (X.env.qual ++ "<lambda>")) ∧ tb E σ G Q) := by
  constructor
  rintro pz sz τ G Q J ⟨E, hE, hs, hc, ht⟩
  refine wpAny_Call_Name_kw (thn ((pe_var (pos := p1) (i := i) hN hv hd hcd).run pz sz τ G (fun v G1 => v = .ref f ∧ G1 = G) J ⟨.ref f, hs, rfl, rfl⟩) ?_)
  rintro u s1 ⟨v, G1, J1, r1, rfl, rfl⟩
  obtain rfl : u = Value.ref f := r1
  have of1 := J1.base.keep f _ hf nf ff List.not_mem_nil
  apply PySem.W.callWith_F0 ⟨_, _, _, _, of1⟩
  have un : Un (frs X.stack) [] H G1 s.heap s1.heap := J1.base
  obtain ⟨⟨co, vs, tt, h1, h2, h3⟩, _, _⟩ := J1.hok c' _ hc
  have go : codeAny (model X.prog X.w) (X.A.deeper (envOfC qg sg s.heap.objs.size g cdg)) (.call (.ref f) ⟨[], []⟩) (CR (L2.CX X.prog X.w) (envOfC qg sg s.heap.objs.size g cdg :: X.stack) X.prog X.w G1 s1 Q E) s1 := by
    refine PySem.W.kla_callFunE hr.depth of1 rfl L.co L.gen rfl ⟨c', co, vs, tt, rfl, h1, h2, h3⟩ ?_
    rw [hbi]
    refine wpAny_pure (wpAny_newFunctionEnv (fun y hy => (L.own y hy).2) (fun y hy => absurd hy List.not_mem_nil) (fun h' hns hsb => ⟨J1.nolimit.fresh _ hsb, ?_⟩) L.kind)
    show codeAny _ _ (.expr body (LamX.lamEnv X sc s1.heap.objs.size f c')) _ _
    have stay : ∀ b o, s1.heap.get? b = some o → h'.get? b = some o := fun b o e => hsb.extBut b o (Nat.ne_of_lt (Heap.lt_size e)) (Heap.get?_push_of_some _ e)
    have In : L2.Inv (LamX.lamCx X (X.A.deeper (envOfC qg sg s.heap.objs.size g cdg)) (envOfC qg sg s.heap.objs.size g cdg :: X.stack) s1 G1 E sc f c') [] σ G1 { s1 with heap := h', toks := s1.toks + ([] : List (Str × Value)).length } :=
      LamX.lam_start2 I L J1.env0 hr.hd un hns stay
    refine PySem.W.kla_codeExpr (wpAny_mono ((hbo _ _ s1 G1 E (hr.deeper _)).run [] _ _ G1 Q In ht) ?_ (fun _ _ z => z))
    rintro v z ⟨w, G', K', rv, q⟩
    exact ⟨w, G', K'.os, K'.bare, K'.base, K'.hok, rv, q⟩
  refine wpAny_call (codeAny_mono go ?_)
  intro r z hq
  match r, hq with
  | .error e, hq => exact tk e z (XE.of_call J1 (fun cls d G' h => hE cls d G' h) hq)
  | .ok (.ret u), hq => exact J1.after hq
  | .ok .next, hq => exact hq.elim
  | .ok .brk, hq => exact hq.elim
  | .ok .cont, hq => exact hq.elim
/-- what the def that got the lambda does with it -/
def GivesK (X : Cx) (Ng : List Str) (x : Str) (sg : Scope) (g : Addr) (cdg : Value) (bg : List Stmt) (a q : Str) (TT : (XK → Hp → VK → Prop) → Hp → VK → Prop) : Prop :=
  ∀ (f c' : Addr) (s : Shared) (H : Hp) (Q : VK) (tl : XK → Hp → VK → Prop),
    (∀ (W : WX) (pn : List (Addr × Obj)) (xe : Value → Shared → Prop) (p1 p2 : Pos), Takes ((gotCx X Ng x sg g cdg s H).tr pn xe) W →
      PE ((gotCx X Ng x sg g cdg s H).tr pn xe) (.Call (.Name a p1) [] [] p2) (fun τ G Q => ∃ E : XK, (∀ cls d G', E cls d G' → W cls d τ G') ∧ τ[0]? = some (some (.ref f)) ∧ G c' = some (LamX.CodeO c' q) ∧ tl E G Q)) →
    H c' = some (LamX.CodeO c' q) → TT tl H Q → ∃ t, PSs (gotCx X Ng x sg g cdg s H).nox bg t ∧ t { nx := fun _ G => Q .non G, rt := Q } (L2.start Ng [.ref f]) H
theorem pe_lamK {T : List (Addr × Str)} {TT : (XK → Hp → VK → Prop) → Hp → VK → Prop} {x a : Str} {g c B : Addr} {k : Nat} {pg : Arguments} {bg : List Stmt} {sg : Scope} {fd : FuncData} {Ng : List Str}
    {ar : Arguments} {body : Expr} {sc : Scope} {t : XK → TE} {p lp pos : Pos} (hg : Gl X x) (hm : X.mg x = some (.ref g)) (F : FunD X.K x x pg bg sg [] [] g fd) (hb : L2.Binds X.K fd [a] []) (Sg : FnScope Ng [a] sg) (h0 : Ng[0]? = some a) (hva : Vis sg a)
    (hG : ∀ cdg, GivesK X Ng x sg g cdg bg a (X.env.qual ++ "<lambda>") TT) (TB : LamX.TabB X.base X.mg c B) (hcode : X.env.code = .ref c) (hmT : (B, X.env.qual ++ "<lambda>") ∈ T) (hu : ∀ p ∈ T, p.1 = B → p.2 = X.env.qual ++ "<lambda>") (hr : Room (k + 2) X.A)
    (L : LamX.LamS X.env.scope sc) (hdef : defaultsOf ar X.env = ([], [])) (hbi : ∀ (q : Str) (cl : List (Str × Addr)) (pm cv ctv : Value), bindArgs (PySem.W.kla_fn "<lambda>" q ar body sc cl pm cv ctv) ⟨[], []⟩ = pure [])
    (hbo : ∀ (A : Around) (out : List Env) (s : Shared) (H : Hp) (E : XK) (f c' : Addr), Room k (A.deeper (LamX.lamEnv X sc s.heap.objs.size f c')) → PE (LamX.lamCx X A out s H E sc f c') body (t E))
    (hdb : (x == ("__debug__" : Str)) = false := by decide) (hd : (a == ("__debug__" : Str)) = false := by decide) (hcd : (a == ("__classdict__" : Str)) = false := by decide) :
    PE X (.Call (.Name x p) [.Lambda ar body sc lp] [] pos) (LamX.tLam T TT t) := by
  constructor
  rintro pins s σ H Q I ⟨hT, h⟩
  obtain ⟨oc, od, dV, kV, doc, pm, an, cdv, ct, osl, rfl, lk, hcd', _, _⟩ := F.ex
  refine wpAny_Call_Name_kw (ld_glob I hg hm ?_ hdb)
  refine PySem.W.callWith_K (h₀ := X.base) I.ok.mod.kin F.kp ?_ (by rfl) (by rfl)
  show wpAny _ _ (spliced ((false, eval (.Lambda ar body sc lp) X.env) :: backTo pos (starEach [] X.env))) _ _ s
  refine Calls.spliced_cons (LamX.lam_make2 I TB hcode hmT hu hT hdef (L.has I.ok) ?_)
  intro f c' pm' ctv H1 s' I1 eN T1 hf nf ff hco
  refine Calls.spliced_nil ⟨I1.kIn, ?_⟩
  have go : codeAny (model X.prog X.w) X.A (.call (.ref g) ⟨[.ref f], []⟩) (CR C8.CX0 X.stack X.prog X.w H1 s' Q C8.E0) s' := by
    refine LamX.run_ofS (N := Ng) (ps := [a]) (us := [.ref f]) (vs := [.ref f]) lk hcd' Sg hr I1.env0 (hb s' [.ref f] I1.kIn rfl) (.cons rfl .nil) rfl ?_
    intro hr'
    obtain ⟨t', ht', hq'⟩ := hG cdv f c' s' H1 Q (fun E G Q' => t E σ G Q') (fun W pn xe p1 p2 tk => pe_actK (i := 0) I1 L hf nf ff (hbi _ _ _ _ _) tk hr' (fun A out z G E hr2 => hbo A out z G E f c' hr2) h0 hva hd hcd) hco (h H1 eN T1)
    exact ⟨t', ht'.nox, hq'⟩
  refine wpAny_call (codeAny_mono go ?_)
  intro r z hq
  match r, hq with
  | .error e, hq => exact (show False from hq).elim
  | .ok (.ret u), hq => exact I1.after hq
  | .ok .next, hq => exact hq.elim
  | .ok .brk, hq => exact hq.elim
  | .ok .cont, hq => exact hq.elim
end
/-! ### reading a kept exception -/
theorem inst_kept {X : Cx} {pins : List (Addr × Obj)} {σ : L2.St} {H : Hp} {s : Shared} {a C d : Addr} {fs : List (Str × V)} (I : L2.Inv X pins σ H s) (ea : H a = some (exk a (.ref C) (some d))) (ed : H d = some (.xd fs)) :
    ∃ (oe oD : Obj) (mA : Str → Option Value), PySem.W.InstAt s.heap a oe C (some oD) ∧ (∀ f, PySem.W.lookIn f oD = some (mA f)) ∧ ∀ f, RelO (fs.lookup f) (mA f) := by
  obtain ⟨oe, vs, h1, ⟨h2, h3⟩, h4⟩ := exk_at I.hok ea
  obtain ⟨mA, hns, rel⟩ := (show ObjOk X.prog X.w H s.heap d (.xd fs) from I.hok d _ ed)
  obtain ⟨oD, hD, hl⟩ := lookIn_ns hns
  refine ⟨oe, oD, mA, ⟨h1, h2, ?_, ?_⟩, hl, rel⟩
  · unfold PySem.W.notCls; rw [h4]
  · rw [h3]
    exact hD
/-- e.f of a kept exception -/
def tXk (K : PySem.W.Frag) (f : Str) (te : TE) : TE := fun σ H Q => te σ H fun x H1 => ∃ a C fI d fs v, x = .ref a ∧ ExcT K C fI ∧ PySem.W.findIn K (.ref C) f = some none ∧ H1 a = some (exk a (.ref C) (some d)) ∧ H1 d = some (.xd fs) ∧ fs.lookup f = some v ∧ Q v H1
theorem pe_xk {X : Cx} {e : Expr} {te : TE} {pos : Pos} {f : Str} (he : PE X e te) (hb : attributeBase e f X.env (eval e X.env) = eval e X.env := by rfl) : PE X (.Attribute e f pos) (tXk X.K f te) := by
  constructor
  intro pins s σ H Q I h
  refine attr_of hb (thn (he.run pins s σ H _ I h) ?_)
  rintro u s1 ⟨x, H1, J, rx, a, C, fI, d, fs, v, rfl, T, hno, ea, ed, el, q⟩
  obtain rfl : u = Value.ref a := rx
  obtain ⟨oe, oD, mA, io, hl, rel⟩ := inst_kept J ea ed
  obtain ⟨u, hu, ru⟩ := RelO.some_of (v := v) (o := mA f) (by rw [← el]; exact rel f)
  exact HandSPX.exc_get J.kIn io T.ga T.gg T.oex.exC (PySem.W.findObj_own T.hd hno rfl (by rw [hl, hu])) (handed_of ru) ⟨v, H1, J.tok _, ru, q⟩
/-- isinstance(e, c) of a kept exception -/
def rIsK (K : PySem.W.Frag) : List V → Hp → VK → Prop := fun xs H Q => ∃ (a C fI d : Addr) (fs : List (Str × V)) (c : V) (cv : Value) (b : Bool), xs = [.ref a, c] ∧ ExcT K C fI ∧ H a = some (exk a (.ref C) (some d)) ∧ H d = some (.xd fs) ∧
  (∀ u, RelV c u → u = cv) ∧ PySem.W.kitOne K (.ref C) cv = some b ∧ Q (.bl b) H
theorem call_isK {X : Cx} : CallR X (.builtin "isinstance") (rIsK X.K) := by
  intro pins s σ H xs us Q I r h
  obtain ⟨a, C, fI, d, fs, c, cv, b, rfl, T, ea, ed, hc, hk, q⟩ := h
  match us, r with
  | [_, u], .cons rfl (.cons rc .nil) =>
    obtain rfl := hc u rc
    obtain ⟨oe, oD, mA, io, _, _⟩ := inst_kept I ea ed
    exact PySem.W.kia_one (PySem.W.kitx_exc T.cl T.ga T.gg T.oex.exC T.ha T.hn T.ht T.hm) I.kIn io hk (fun z => nomatch z) fun tk => ⟨.bl b, H, I.kept (t' := tk) fun _ _ z => z, rfl, q⟩
end MX

set_option Elab.async false
set_option linter.all false
set_option maxRecDepth 100000
set_option maxHeartbeats 4000000
namespace MX
open PySem PySem.Spec PySem.W PySem.Calls PyProof.Rows L2
/-! ### what is told of a pair, by the lines -/
def pk (a b : Str) : List Key := [Sum.inr a, Sum.inr b]
theorem pk_inj {a b c d : Str} (h : pk a b = pk c d) : a = c ∧ b = d := by
  unfold pk at h
  injection h with h1 h2
  injection h2 with h2 _
  exact ⟨Sum.inr.inj h1, Sum.inr.inj h2⟩
theorem val_tell1 (a b x y w : Str) (T : Tm) : valV (tell1 x y w T) (pk a b) = if x = a ∧ y = b ∧ a ≠ b then some (.str w) else valV T (pk a b) := by
  unfold tell1
  by_cases h : x = y
  · rw [if_pos h, if_neg (fun ⟨h1, h2, h3⟩ => h3 (by rw [← h1, ← h2, h]))]
  · rw [if_neg h]
    show valV (putK T (pk x y) (.str w)) (pk a b) = _
    rw [valV_put]
    by_cases h2 : pk a b = pk x y
    · obtain ⟨e1, e2⟩ := pk_inj h2
      rw [if_pos h2, if_pos ⟨e1.symm, e2.symm, by rw [e1, e2]; exact h⟩]
    · rw [if_neg h2, if_neg (fun ⟨h3, h4, _⟩ => h2 (by rw [h3, h4]))]
theorem val_tellR (a b x w : Str) : ∀ (ys : List Str) (T : Tm), valV (tellR x w ys T) (pk a b) = if x = a ∧ b ∈ ys ∧ a ≠ b then some (.str w) else valV T (pk a b)
  | [], T => by
    rw [if_neg (fun z => by cases z.2.1)]
    rfl
  | y :: ys, T => by
    show valV (tellR x w ys (tell1 x y w T)) (pk a b) = _
    rw [val_tellR a b x w ys, val_tell1]
    by_cases h1 : x = a
    · by_cases h2 : a ≠ b
      · by_cases h3 : b ∈ ys
        · rw [if_pos ⟨h1, h3, h2⟩, if_pos ⟨h1, List.mem_cons_of_mem _ h3, h2⟩]
        · rw [if_neg (fun z => h3 z.2.1)]
          by_cases h4 : y = b
          · rw [if_pos ⟨h1, h4, h2⟩, if_pos ⟨h1, by rw [h4]; exact List.mem_cons_self, h2⟩]
          · rw [if_neg (fun z => h4 z.2.1), if_neg (fun z => (List.mem_cons.mp z.2.1).elim (fun q => h4 q.symm) h3)]
      · rw [if_neg (fun z => h2 z.2.2), if_neg (fun z => h2 z.2.2), if_neg (fun z => h2 z.2.2)]
    · rw [if_neg (fun z => h1 z.1), if_neg (fun z => h1 z.1), if_neg (fun z => h1 z.1)]
theorem val_tellA (a b w : Str) (ys : List Str) : ∀ (xs : List Str) (T : Tm), valV (tellA ys xs w T) (pk a b) = if a ∈ xs ∧ b ∈ ys ∧ a ≠ b then some (.str w) else valV T (pk a b)
  | [], T => by
    rw [if_neg (fun z => by cases z.1)]
    rfl
  | x :: xs, T => by
    show valV (tellA ys xs w (tellR x w ys T)) (pk a b) = _
    rw [val_tellA a b w ys xs, val_tellR]
    by_cases h2 : b ∈ ys ∧ a ≠ b
    · by_cases h3 : a ∈ xs
      · rw [if_pos ⟨h3, h2.1, h2.2⟩, if_pos ⟨List.mem_cons_of_mem _ h3, h2.1, h2.2⟩]
      · rw [if_neg (fun z => h3 z.1)]
        by_cases h4 : x = a
        · rw [if_pos ⟨h4, h2.1, h2.2⟩, if_pos ⟨by rw [h4]; exact List.mem_cons_self, h2.1, h2.2⟩]
        · rw [if_neg (fun z => h4 z.1), if_neg (fun z => (List.mem_cons.mp z.1).elim (fun q => h4 q.symm) h3)]
    · rw [if_neg (fun z => h2 z.2), if_neg (fun z => h2 z.2), if_neg (fun z => h2 z.2)]
/-- the lines taken so far tell of the pair -/
def isTold {α : Type} [DecidableEq α] (L : List (List α)) (a b : α) : Bool := L.any fun xs => decide (a ∈ xs) && (decide (b ∈ xs) && decide (a ≠ b))
/-- T is what the lines L told -/
def TellsL (T : Tm) (L : List (List Str)) : Prop := ∀ a b, (valV T (pk a b)).isSome = isTold L a b
theorem TellsL.nil : TellsL [] [] := fun _ _ => rfl
theorem TellsL.add {T : Tm} {L : List (List Str)} (h : TellsL T L) (xs : List Str) (w : Str) : TellsL (tellA xs xs w T) (xs :: L) := fun a b => by
  rw [val_tellA]
  unfold isTold
  rw [List.any_cons]
  by_cases q : a ∈ xs ∧ b ∈ xs ∧ a ≠ b
  · rw [if_pos q, decide_eq_true q.1, decide_eq_true q.2.1, decide_eq_true q.2.2]
    rfl
  · rw [if_neg q]
    have z : (decide (a ∈ xs) && (decide (b ∈ xs) && decide (a ≠ b))) = false := by
      rw [Bool.eq_false_iff]
      intro z
      simp only [Bool.and_eq_true, decide_eq_true_eq] at z
      exact q z
    rw [z]
    exact h a b
/-! ### lines of a word and names; the reading of them over any names -/
def amongA {α : Type} [DecidableEq α] (xs ps : List α) : Bool := decide xs.Nodup && xs.all fun x => decide (x ∈ ps)
def pairNew {α : Type} [DecidableEq α] (L : List (List α)) : List α → Bool
  | [a, b] => !isTold L a b
  | _ => false
/-- a line behind the first one: none, or the number of lines open and all lines then -/
def stepA {α : Type} [DecidableEq α] (ps : List α) (n : Nat) (kw : Str) (xs : List α) (st : Nat × List (List α)) : Option (Nat × List (List α)) :=
  if (decide (n ≤ 21) && (decide (st.1 = 0) && (decide (kw = "met") && (decide (2 ≤ xs.length) && amongA xs ps)))) = true then some (st.1, xs :: st.2)
  else if (decide (st.1 < 4) && (decide (kw = "open") && (decide (xs.length = 2) && (amongA xs ps && pairNew st.2 xs)))) = true then some (st.1 + 1, xs :: st.2)
  else none
def runA {α : Type} [DecidableEq α] (ps : List α) : Nat → List (Str × List α) → Nat × List (List α) → Nat ⊕ Unit
  | _, [], _ => .inr ()
  | n, l :: r, st => match stepA ps n l.1 l.2 st with
    | none => .inl n
    | some st' => runA ps (n + 1) r st'
def wordsOf (l : Str × List Str) : List Str := l.1 :: l.2
theorem openB_eq {kw : Str} {xs ps : List Str} {T : Tm} {L : List (List Str)} (h : TellsL T L) :
    openB (kw :: xs) ps T = (decide (kw = "open") && (decide (xs.length = 2) && (amongA xs ps && pairNew L xs))) := by
  have e1 : headIs (kw :: xs) "open" = decide (kw = "open") := by unfold headIs; simp
  have e2 : (kw :: xs).drop 1 = xs := rfl
  unfold openB
  rw [e1, e2]
  show (decide (kw = "open") && (decide (xs.length = 2) && (amongA xs ps && (valV T (keyT xs)).isNone))) = _
  match xs with
  | [] => simp
  | [a] => simp
  | [a, b] =>
    have z := h a b
    have z2 : (valV T (keyT [a, b])).isNone = !isTold L a b := by
      rw [← z]
      show (valV T (pk a b)).isNone = _
      cases valV T (pk a b) <;> rfl
    rw [z2]; rfl
  | a :: b :: c :: r => simp
theorem metB_eq {kw : Str} {xs ps : List Str} : metB (kw :: xs) ps = (decide (kw = "met") && (decide (2 ≤ xs.length) && amongA xs ps)) := by
  have e1 : headIs (kw :: xs) "met" = decide (kw = "met") := by unfold headIs; simp
  have e2 : (kw :: xs).drop 1 = xs := rfl
  unfold metB
  rw [e1, e2]
  rfl
def bare (r : Nat ⊕ (Ops × MX.Tm)) : Nat ⊕ Unit := match r with
  | .inl m => .inl m
  | .inr _ => .inr ()
theorem runT_cons {ps ws : List Str} {n : Nat} {r : List (List Str)} {ot : Ops × MX.Tm} : runT ps n (ws :: r) ot = (match MX.stepT ps n ws ot with | none => .inl n | some ot' => runT ps (n + 1) r ot') := rfl
theorem runA_cons {α : Type} [DecidableEq α] {ps : List α} {n : Nat} {l : Str × List α} {r : List (Str × List α)} {st : Nat × List (List α)} : runA ps n (l :: r) st = (match stepA ps n l.1 l.2 st with | none => .inl n | some st' => runA ps (n + 1) r st') := rfl
theorem step_eq {ps xs : List Str} {kw : Str} {n : Nat} {ops : Ops} {T : MX.Tm} {L : List (List Str)} (h : TellsL T L) : match MX.stepT ps n (kw :: xs) (ops, T), stepA ps n kw xs (ops.length, L) with
    | none, none => True
    | some (ops', T'), some st' => st'.1 = ops'.length ∧ TellsL T' st'.2
    | _, _ => False := by
  unfold MX.stepT stepA
  rw [metB_eq, openB_eq h]
  dsimp only
  by_cases c1 : (decide (n ≤ 21) && (decide (ops.length = 0) && (decide (kw = "met") && (decide (2 ≤ xs.length) && amongA xs ps)))) = true
  · rw [if_pos c1, if_pos c1]
    exact ⟨rfl, h.add xs "met"⟩
  · rw [if_neg c1, if_neg c1]
    by_cases c2 : (decide (ops.length < 4) && (decide (kw = "open") && (decide (xs.length = 2) && (amongA xs ps && pairNew L xs)))) = true
    · rw [if_pos c2, if_pos c2]
      exact ⟨by simp, h.add xs "open"⟩
    · rw [if_neg c2, if_neg c2]
      trivial
/-- the reading of halls is the reading over names -/
theorem run_eq {ps : List Str} : ∀ (ls : List (Str × List Str)) (n : Nat) (ops : Ops) (T : MX.Tm) (L : List (List Str)), TellsL T L → bare (runT ps n (ls.map wordsOf) (ops, T)) = runA ps n ls (ops.length, L)
  | [], n, ops, T, L, h => rfl
  | (kw, xs) :: r, n, ops, T, L, h => by
    have z := step_eq (ps := ps) (xs := xs) (kw := kw) (n := n) (ops := ops) h
    rw [List.map_cons, runT_cons, runA_cons]
    show bare (match MX.stepT ps n (kw :: xs) (ops, T) with | none => .inl n | some ot' => runT ps (n + 1) (r.map wordsOf) ot') = _
    dsimp only
    cases h1 : MX.stepT ps n (kw :: xs) (ops, T) with
    | none =>
      cases h2 : stepA ps n kw xs (ops.length, L) with
      | none => rfl
      | some st' => rw [h1, h2] at z; exact z.elim
    | some ot' =>
      cases h2 : stepA ps n kw xs (ops.length, L) with
      | none => rw [h1, h2] at z; obtain ⟨a, b⟩ := ot'; exact z.elim
      | some st' =>
        rw [h1, h2] at z
        obtain ⟨ops', T'⟩ := ot'
        obtain ⟨k', L'⟩ := st'
        obtain ⟨z1, z2⟩ := z
        have e := run_eq (ps := ps) r (n + 1) ops' T' L' z2
        have z1' : k' = ops'.length := z1
        rw [z1']
        exact e
/-! ### other names, the same reading -/
section
variable {α β : Type} [DecidableEq α] [DecidableEq β] {g : α → β} {S : α → Prop}
def InjOn (g : α → β) (S : α → Prop) : Prop := ∀ a b, S a → S b → g a = g b → a = b
theorem mem_ren (hg : InjOn g S) {a : α} {xs : List α} (ha : S a) (hx : ∀ x ∈ xs, S x) : decide (g a ∈ xs.map g) = decide (a ∈ xs) := by
  rw [decide_eq_decide]
  constructor
  · intro h
    obtain ⟨b, hb, e⟩ := List.mem_map.mp h
    rw [hg a b ha (hx b hb) e.symm]
    exact hb
  · exact List.mem_map_of_mem
theorem nodup_ren (hg : InjOn g S) : ∀ xs : List α, (∀ x ∈ xs, S x) → decide (xs.map g).Nodup = decide xs.Nodup
  | [], _ => by simp
  | x :: xs, h => by
    have ih := nodup_ren hg xs fun y hy => h y (List.mem_cons_of_mem _ hy)
    have m := mem_ren hg (h x List.mem_cons_self) fun y hy => h y (List.mem_cons_of_mem _ hy)
    rw [decide_eq_decide] at ih m ⊢
    rw [List.map_cons, List.nodup_cons, List.nodup_cons, ih, m]
theorem among_ren (hg : InjOn g S) {xs ps : List α} (hx : ∀ x ∈ xs, S x) (hp : ∀ x ∈ ps, S x) : amongA (xs.map g) (ps.map g) = amongA xs ps := by
  unfold amongA
  rw [nodup_ren hg xs hx, List.all_map]
  congr 1
  rw [Bool.eq_iff_iff, List.all_eq_true, List.all_eq_true]
  constructor
  · intro h x hm
    have z := h x hm
    have z2 : decide (g x ∈ ps.map g) = true := z
    rw [mem_ren hg (hx x hm) hp] at z2
    exact z2
  · intro h x hm
    show decide (g x ∈ ps.map g) = true
    rw [mem_ren hg (hx x hm) hp]
    exact h x hm
theorem told_ren (hg : InjOn g S) {L : List (List α)} (hL : ∀ xs ∈ L, ∀ x ∈ xs, S x) {a b : α} (ha : S a) (hb : S b) : isTold (L.map (List.map g)) (g a) (g b) = isTold L a b := by
  unfold isTold
  rw [List.any_map]
  rw [Bool.eq_iff_iff, List.any_eq_true, List.any_eq_true]
  have key : ∀ xs ∈ L, (decide (g a ∈ xs.map g) && (decide (g b ∈ xs.map g) && decide (g a ≠ g b))) = (decide (a ∈ xs) && (decide (b ∈ xs) && decide (a ≠ b))) := fun xs hm => by
    rw [mem_ren hg ha (hL xs hm), mem_ren hg hb (hL xs hm)]
    have e : decide (g a ≠ g b) = decide (a ≠ b) := by
      rw [decide_eq_decide]
      exact ⟨fun h z => h (by rw [z]), fun h z => h (hg a b ha hb z)⟩
    rw [e]
  constructor
  · rintro ⟨xs, hm, h⟩
    exact ⟨xs, hm, by rw [← key xs hm]; exact h⟩
  · rintro ⟨xs, hm, h⟩
    exact ⟨xs, hm, by rw [← key xs hm] at h; exact h⟩
theorem pair_ren (hg : InjOn g S) {L : List (List α)} (hL : ∀ xs ∈ L, ∀ x ∈ xs, S x) : ∀ {xs : List α}, (∀ x ∈ xs, S x) → pairNew (L.map (List.map g)) (xs.map g) = pairNew L xs
  | [], _ => rfl
  | [_], _ => rfl
  | [a, b], h => by
    show (!isTold (L.map (List.map g)) (g a) (g b)) = !isTold L a b
    rw [told_ren hg hL (h a (by simp)) (h b (by simp))]
  | _ :: _ :: _ :: _, _ => rfl
theorem step_ren (hg : InjOn g S) {ps xs : List α} {n k : Nat} {kw : Str} {L : List (List α)} (hp : ∀ x ∈ ps, S x) (hx : ∀ x ∈ xs, S x) (hL : ∀ ys ∈ L, ∀ x ∈ ys, S x) :
    stepA (ps.map g) n kw (xs.map g) (k, L.map (List.map g)) = (stepA ps n kw xs (k, L)).map fun st => (st.1, st.2.map (List.map g)) := by
  unfold stepA
  dsimp only
  rw [among_ren hg hx hp, pair_ren hg hL hx, List.length_map]
  split
  · rfl
  · split <;> rfl
theorem step_in {ps xs : List α} {n k k' : Nat} {kw : Str} {L L' : List (List α)} (h : stepA ps n kw xs (k, L) = some (k', L')) : L' = xs :: L := by
  unfold stepA at h
  split at h
  · cases h
    rfl
  · split at h
    · cases h
      rfl
    · cases h
theorem run_ren (hg : InjOn g S) {ps : List α} (hp : ∀ x ∈ ps, S x) : ∀ (ls : List (Str × List α)) (n k : Nat) (L : List (List α)), (∀ l ∈ ls, ∀ x ∈ l.2, S x) → (∀ ys ∈ L, ∀ x ∈ ys, S x) →
    runA (ps.map g) n (ls.map fun l => (l.1, l.2.map g)) (k, L.map (List.map g)) = runA ps n ls (k, L)
  | [], n, k, L, _, _ => rfl
  | (kw, xs) :: r, n, k, L, h1, h2 => by
    rw [List.map_cons, runA_cons, runA_cons, step_ren hg hp (h1 (kw, xs) List.mem_cons_self) h2]
    dsimp only
    cases e : stepA ps n kw xs (k, L) with
    | none => rfl
    | some st' =>
      obtain ⟨k', L'⟩ := st'
      have eL := step_in e
      subst eL
      exact run_ren hg hp r (n + 1) k' (xs :: L) (fun l hl => h1 l (List.mem_cons_of_mem _ hl)) fun ys hy => by
        rcases List.mem_cons.mp hy with hy | hy
        · rw [hy]
          exact h1 (kw, xs) List.mem_cons_self
        · exact h2 ys hy
end
end MX

set_option Elab.async false
set_option linter.all false
set_option maxRecDepth 100000
set_option maxHeartbeats 4000000
namespace MX
open PySem PySem.Spec PySem.W PySem.Calls PyProof.Rows L2
/-! ### texts made of lines, lines made of words -/
/-- no blank, no line feed -/
def Clean (x : Str) : Prop := 32 ∉ TL.tl x ∧ 10 ∉ TL.tl x
theorem mem_joinL {c : Nat} {S : List Nat} : ∀ {ps : List (List Nat)}, c ∈ TL.joinL S ps → c ∈ S ∨ ∃ p ∈ ps, c ∈ p
  | [], h => by cases h
  | [p], h => .inr ⟨p, List.mem_cons_self, h⟩
  | p :: q :: r, h => by
    have h' : c ∈ p ++ (S ++ TL.joinL S (q :: r)) := h
    rcases List.mem_append.mp h' with h | h
    · exact .inr ⟨p, List.mem_cons_self, h⟩
    · rcases List.mem_append.mp h with h | h
      · exact .inl h
      · rcases mem_joinL h with h | ⟨y, hy, h⟩
        · exact .inl h
        · exact .inr ⟨y, List.mem_cons_of_mem _ hy, h⟩
theorem row_clean {ws : List Str} (h : ∀ w ∈ ws, Clean w) : 10 ∉ TL.tl (Txt.join " " ws) := by
  rw [TL.join_eq, TL.tl_join]
  intro z
  rcases mem_joinL z with z | ⟨p, hp, z⟩
  · exact absurd z (by decide +kernel)
  · obtain ⟨w, hw, rfl⟩ := List.mem_map.mp hp
    exact (h w hw).2 z
theorem row_split {ws : List Str} (ne : ws ≠ []) (h : ∀ w ∈ ws, Clean w) : Txt.split (Txt.join " " ws) " " = ws :=
  TL.split_join (s := 32) (S := []) (by decide +kernel) (by decide +kernel) ne fun p hp => (h p hp).1
theorem text_split {wss : List (List Str)} (ne : wss ≠ []) (h : ∀ ws ∈ wss, ∀ w ∈ ws, Clean w) : Txt.split (Txt.join "\n" (wss.map (Txt.join " "))) "\n" = wss.map (Txt.join " ") := by
  refine TL.split_join (s := 10) (S := []) (by decide +kernel) (by decide +kernel) (by simpa using ne) fun p hp => ?_
  obtain ⟨ws, hw, rfl⟩ := List.mem_map.mp hp
  exact row_clean (h ws hw)
theorem lines_of {wss : List (List Str)} (ne : wss ≠ []) (ne2 : ∀ ws ∈ wss, ws ≠ []) (h : ∀ ws ∈ wss, ∀ w ∈ ws, Clean w) : hallLines (Txt.join "\n" (wss.map (Txt.join " "))) = wss := by
  unfold hallLines
  rw [text_split ne h, List.map_map]
  conv => rhs; rw [← List.map_id wss]
  exact List.map_congr_left fun ws hw => row_split (ne2 ws hw) (h ws hw)
theorem parse_of {w0 : List Str} {ls : List (Str × List Str)} (ne : w0 ≠ []) (h0 : ∀ w ∈ w0, Clean w) (h : ∀ l ∈ ls, Clean l.1 ∧ ∀ w ∈ l.2, Clean w) :
    bare (parseH (Txt.join "\n" ((w0 :: ls.map wordsOf).map (Txt.join " ")))) = if peopleB w0 = true then runA (w0.drop 1) 2 ls (0, []) else .inl 1 := by
  have e : hallLines (Txt.join "\n" ((w0 :: ls.map wordsOf).map (Txt.join " "))) = w0 :: ls.map wordsOf := by
    refine lines_of (by simp) (fun ws hw => ?_) fun ws hw => ?_
    · rcases List.mem_cons.mp hw with hw | hw
      · rw [hw]; exact ne
      · obtain ⟨l, _, rfl⟩ := List.mem_map.mp hw
        exact fun z => by cases z
    · rcases List.mem_cons.mp hw with hw | hw
      · rw [hw]; exact h0
      · obtain ⟨l, hl, rfl⟩ := List.mem_map.mp hw
        intro w hw
        rcases List.mem_cons.mp hw with hw | hw
        · rw [hw]; exact (h l hl).1
        · exact (h l hl).2 w hw
  have e2 : parseH (Txt.join "\n" ((w0 :: ls.map wordsOf).map (Txt.join " "))) = if peopleB w0 = true then runT (w0.drop 1) 2 (ls.map wordsOf) ([], []) else .inl 1 := by
    unfold parseH
    rw [e]
  rw [e2]
  split
  · exact run_eq ls 2 [] [] [] TellsL.nil
  · rfl
theorem parse_inl {x : Str} {n : Nat} (h : bare (parseH x) = .inl n) : parseH x = .inl n := by
  cases q : parseH x with
  | inl m => rw [q] at h; exact congrArg Sum.inl (Sum.inl.inj h)
  | inr y => rw [q] at h; cases h
theorem parse_inr {x : Str} (h : bare (parseH x) = .inr ()) : ∃ ot, parseH x = .inr ot := by
  cases q : parseH x with
  | inl m => rw [q] at h; cases h
  | inr y => exact ⟨y, rfl⟩
theorem len_tl (x : Str) : x.length = (TL.tl x).length := (Array.length_toList).symm
theorem joinL_len {S : List Nat} : ∀ ps : List (List Nat), (TL.joinL S ps).length ≤ (ps.map List.length).sum + ps.length * S.length
  | [] => by simp [TL.joinL]
  | [p] => by simp [TL.joinL]
  | p :: q :: r => by
    have z := joinL_len (S := S) (q :: r)
    show (p ++ (S ++ TL.joinL S (q :: r))).length ≤ (p.length + ((q :: r).map List.length).sum) + ((q :: r).length + 1) * S.length
    rw [List.length_append, List.length_append, Nat.succ_mul]
    omega
theorem sum_le {α : Type} {f : α → Nat} {m : Nat} : ∀ xs : List α, (∀ x ∈ xs, f x ≤ m) → (xs.map f).sum ≤ xs.length * m
  | [], _ => by simp
  | x :: xs, h => by
    have z := sum_le xs fun y hy => h y (List.mem_cons_of_mem _ hy)
    have z2 := h x List.mem_cons_self
    rw [List.map_cons, List.sum_cons, List.length_cons, Nat.succ_mul]
    omega
theorem join_len {sep : Str} {ps : List Str} {m k : Nat} (h : ∀ p ∈ ps, p.length ≤ m) (hk : sep.length ≤ k) : (Txt.join sep ps).length ≤ ps.length * (m + k) := by
  rw [len_tl, TL.join_eq, TL.tl_join]
  have z := joinL_len (S := TL.tl sep) (ps.map TL.tl)
  have z2 : ((ps.map TL.tl).map List.length).sum ≤ ps.length * m := by
    rw [List.map_map]
    exact sum_le ps fun p hp => by
      have q := h p hp
      rw [len_tl] at q
      exact q
  rw [List.length_map] at z
  have z3 : ps.length * (TL.tl sep).length ≤ ps.length * k := Nat.mul_le_mul_left _ (by rw [← len_tl]; exact hk)
  rw [Nat.mul_add]
  omega
/-- a text of short lines of short clean words may be read -/
theorem text_ok {wss : List (List Str)} (ne : wss ≠ []) (ne2 : ∀ ws ∈ wss, ws ≠ []) (h : ∀ ws ∈ wss, ∀ w ∈ ws, Clean w ∧ w.length ≤ 20) (few : wss.length ≤ 100) (short : ∀ ws ∈ wss, ws.length ≤ 100) :
    TextOk (Txt.join "\n" (wss.map (Txt.join " "))) ∧ ((wss.map (Txt.join " ")).map (·.length)).sum + (wss.map (Txt.join " ")).length * (("\n" : Str)).length ≤ 16777216 := by
  have hc : ∀ ws ∈ wss, ∀ w ∈ ws, Clean w := fun ws hw w hm => (h ws hw w hm).1
  have hl : ∀ ws ∈ wss, (Txt.join " " ws).length ≤ 2100 := fun ws hw => by
    have z := join_len (sep := " ") (k := 1) (fun p hp => (h ws hw p hp).2) (by decide +kernel)
    have z2 := short ws hw
    omega
  have hl2 : ∀ p ∈ wss.map (Txt.join " "), p.length ≤ 2100 := fun p hp => by
    obtain ⟨ws, hw, rfl⟩ := List.mem_map.mp hp
    exact hl ws hw
  have eL := lines_of ne ne2 hc
  have eT := text_split ne hc
  have n1 : (("\n" : Str)).length ≤ 1 := by decide +kernel
  refine ⟨⟨?_, ?_, ?_, ?_, ?_⟩, ?_⟩
  · have z := join_len (sep := "\n") (k := 1) hl2 n1
    rw [List.length_map] at z
    omega
  · rw [eL]; omega
  · rw [eL]
    exact List.length_pos_iff.mpr ne
  · rw [eT]
    intro l hm
    have := hl2 l hm
    omega
  · rw [eL]
    intro ws hw
    refine ⟨List.length_pos_iff.mpr (ne2 ws hw), short ws hw, fun w hm => ?_⟩
    have := (h ws hw w hm).2
    omega
  · have z := sum_le (f := fun x : Str => x.length) (m := 2100) (wss.map (Txt.join " ")) hl2
    have z2 := Nat.mul_le_mul_left (wss.map (Txt.join " ")).length n1
    rw [List.length_map] at z z2 ⊢
    omega
end MX

set_option Elab.async false
set_option linter.all false
set_option maxRecDepth 100000
set_option maxHeartbeats 4000000
namespace MX
open PySem PySem.Spec PySem.W PySem.Calls PyProof.Rows L2
/-- an empty table of code objects -/
abbrev tab0 : Obj := { cls := .none, data := .fields #[] }
/-- the end of a law that makes lambdas: cs, code objects and their tables; no repr runs around -/
theorem law_endT {P : Program} {w : World} {K : PySem.W.Frag} {mg mb : Str → Option Value} {k : Nat} {fa a : Addr} {cs : List (Addr × Addr)} {fd : FuncData} {x : Str} {sp : Sp} {s : Shared} {vs : List Value} {ns : List Int}
    (KX : K.In s.heap) (hm : s.heap.Ns mainGlobals mg) (hb : s.heap.Ns builtinsNs mb) (hbb : ∀ x : Str, x ≠ "__name__" → mb x = bootBuiltins x) (nolim : s.heap.NoLimit) (hg : s.gens = #[])
    (hT : ∀ p ∈ cs, s.heap.get? p.2 = some tab0) (nT : ∀ p ∈ cs, K.lookup p.2 = none) (hC : ∀ p ∈ cs, PySem.W.CodeHd s.heap p.1 p.2)
    (bmain : ∃ (m : Addr) (o : Obj), mg "__builtins__" = some (.ref m) ∧ m ≠ builtinsNs ∧ s.heap.get? m = some o ∧ o.cls = .type "module" ∧ o.dict = some builtinsNs ∧ o.data = .plain)
    (ha : s.heap.get? a = some { cls := .type "list", data := .seq vs.toArray }) (hi : IntsAre vs ns) (hl : ns.length ≤ sizeLine) (hr : RoomG k callerA)
    (F : ∀ bs : Heap, K.In bs → bs.Ns mainGlobals mg → (∀ p ∈ cs, LamX.TabB bs mg p.1 p.2) → FnG P w K mg bs CX0 k fa fd [x] sp) (bind : ∀ (s : Shared) (u : Value), BindsTo s fd ⟨[u], []⟩ [(x, u)])
    (hsp : ∀ H : Hp, (∀ p ∈ cs, H p.2 = some (.tbl #[])) → SqL K H a (ns.map V.int) → sp [.ref a] H (fun v _ => v = .bl true) fun _ _ _ => False) :
    codeAny (model P w) callerA (.call (.ref fa) ⟨[.ref a], []⟩) (fun r s' => r = .ok (.ret (.bool true)) ∧ OldK s.heap s'.heap ∧ s'.os = s.os ∧ AllBare s'.gens) s := by
  have hv := vals_ints hi
  have hvl := hi.length
  obtain ⟨ts, hts⟩ : ∃ ts, ts = cs.map (·.2) := ⟨_, rfl⟩
  have mem : ∀ p ∈ cs, p.2 ∈ ts := fun p hp => by rw [hts]; exact List.mem_map.mpr ⟨p, hp, rfl⟩
  have at_t : ∀ b ∈ ts, s.heap.get? b = some tab0 := fun b hb => by
    rw [hts] at hb
    obtain ⟨p, hp, rfl⟩ := List.mem_map.mp hb
    exact hT p hp
  have a_t : a ∉ ts := fun q => by
    have e := at_t a q
    rw [ha] at e
    have d := congrArg Obj.data (Option.some.inj e)
    cases d
  have main : ∀ H : Hp, (∀ b ∈ ts, H b = some (.tbl #[])) → (∀ b, H b = none ∨ b ∈ ts ∨ ∃ o xs, H b = some (.frz o (.lst xs))) → SqL K H a (ns.map V.int) → HOk P w H s.heap → (∀ b, H b ≠ none → b = a ∨ b ∈ ts) → (H a ≠ none → K.lookup a = none) →
      codeAny (model P w) callerA (.call (.ref fa) ⟨[.ref a], []⟩) (fun r s' => r = .ok (.ret (.bool true)) ∧ OldK s.heap s'.heap ∧ s'.os = s.os ∧ AllBare s'.gens) s := by
    intro H hH only hS ok reach off
    have out_of : ∀ {b : Addr} {o : Obj}, s.heap.get? b = some o → (∀ us n, o.data ≠ .seq us n) → o.data ≠ .fields #[] → H b = none := by
      intro b o e n1 n2
      refine Decidable.byContradiction fun q => ?_
      cases reach b q with
      | inl eb =>
        rw [eb, ha] at e
        have eo := Option.some.inj e
        rw [← eo] at n1
        exact n1 _ _ rfl
      | inr hb =>
        rw [at_t b hb] at e
        have eo := Option.some.inj e
        rw [← eo] at n2
        exact n2 rfl
    have ns_of : ∀ {b : Addr} {m : Str → Option Value}, s.heap.Ns b m → (hidT s.heap H).Ns b m := by
      rintro b m ⟨o, es, ep, e, d, r⟩
      exact ⟨o, es, ep, hidT_get e (out_of e (fun _ _ q => by rw [d] at q; cases q) (fun q => by rw [d] at q; cases q)), d, r⟩
    have kin : K.In (hidT s.heap H) := by
      intro b o e
      refine hidT_get (KX b o e) (Decidable.byContradiction fun q => ?_)
      cases reach b q with
      | inl eb =>
        rw [eb] at q e
        rw [off q] at e
        cases e
      | inr hb =>
        rw [hts] at hb
        obtain ⟨p, hp, rfl⟩ := List.mem_map.mp hb
        rw [nT p hp] at e
        cases e
    obtain ⟨mc, l1, l2⟩ := nolim
    have md : Mod K mg (hidT s.heap H) := { kin := kin, glob := ns_of hm, blt := ⟨mb, ns_of hb, hbb⟩, nolimit := ⟨mc, ns_of l1, l2⟩ }
    have tabs : ∀ p ∈ cs, LamX.TabB (hidT s.heap H) mg p.1 p.2 := by
      intro p hp
      have tp := hT p hp
      constructor
      · obtain ⟨o, us, file, tf, fl, tg, inF, text, tt, e1, r1, r2, r3, r⟩ := hC p hp
        refine ⟨o, us, file, tf, fl, tg, inF, text, tt, hidT_get e1 (out_of e1 (fun _ _ q => by rw [r2] at q; cases q) (fun q => ?_)), r1, r2, r3, r⟩
        rw [r2] at q
        cases q
        simp at r3
      · obtain ⟨m, o, b1, b2, b3, b4, b5, b6⟩ := bmain
        refine ⟨m, o, b1, b2, fun q => ?_, fun q => ?_, hidT_get b3 (out_of b3 (fun _ _ q => by rw [b6] at q; cases q) (fun q => by rw [b6] at q; cases q)), b4, b5, b6⟩
        · obtain ⟨o2, es, ep, e, d, _⟩ := hm
          rw [q, e] at b3
          cases b3
          rw [d] at b6
          cases b6
        · rw [q, tp] at b3
          cases b3
          cases b6
      · intro q
        obtain ⟨o2, es, ep, e, d, _⟩ := hm
        rw [q, tp] at e
        cases e
        cases d
    have z : Env0 P w K mg (hidT s.heap H) callerA [] s H := {
      frames := rfl, mod := md, bs := fun b o e => of_hidT e, bsz := Nat.le_of_eq (hidT_size s.heap H), funs := trivial
      frf := (fun b q => absurd (show b ∈ ([] : List Addr) from q) List.not_mem_nil), hok := ok, bare := .of_eq hg }
    refine codeAny_mono ((F _ kin (ns_of hm) tabs).run callerA [] s H ⟨[.ref a], []⟩ [.ref a] [.ref a] _ _ hr z (bind s (.ref a)) (.cons rfl .nil) (hsp H (fun p hp => hH _ (mem p hp)) hS)) ?_
    rintro (er | fl) s' q
    · exact q.elim
    cases fl with
    | next => exact q.elim
    | brk => exact q.elim
    | cont => exact q.elim
    | ret u =>
      obtain ⟨v, H', os, bare, un, ok', rv, ev⟩ := q
      have ev' : v = .bl true := ev
      subst ev'
      cases (show u = Value.bool true from rv)
      have old : ∀ b o, b ∉ ts → s.heap.get? b = some o → s'.heap.get? b = some o := by
        intro b o nb e
        cases hb0 : H b with
        | none => exact un.keep b o e hb0 (fun q => absurd (show b ∈ ([] : List Addr) from q) List.not_mem_nil) (fun q => absurd q List.not_mem_nil)
        | some u =>
          rcases only b with n | n | ⟨ob, xs, n⟩
          · rw [n] at hb0; cases hb0
          · exact absurd n nb
          · obtain ⟨c1, _⟩ := ok b _ n
            obtain ⟨c2, _⟩ := ok' b _ (un.frzs b ob _ n)
            rw [c1] at e
            rw [← Option.some.inj e]
            exact c2
      have more : ∀ b ∈ ts, ∃ ms : Array Value, s'.heap.get? b = some { cls := .none, data := .fields ms } := by
        intro b hb
        obtain ⟨ms, q⟩ := un.tbls b #[] (hH b hb)
        exact ⟨_, ok' b _ q⟩
      refine ⟨rfl, ⟨fun b o e => ?_, fun b o e => ?_⟩, os, bare⟩ <;> by_cases nb : b ∈ ts
      · obtain ⟨ms, e'⟩ := more b nb
        rw [at_t b nb] at e
        cases e
        have nb' := nb
        rw [hts] at nb'
        obtain ⟨p, hp, rfl⟩ := List.mem_map.mp nb'
        exact .inr (.inl ⟨((hC p hp).tab (hT p hp)).isCodeTable, rfl, #[], ms, rfl, by rw [Array.empty_append]; exact e'⟩)
      · exact .inl (old b o nb e)
      · obtain ⟨ms, e'⟩ := more b nb
        exact ⟨_, e'⟩
      · exact ⟨o, old b o nb e⟩
  let H1 : Hp := fun b => if b ∈ ts then some (.tbl #[]) else none
  have in1 : ∀ b ∈ ts, H1 b = some (.tbl #[]) := fun b h => if_pos h
  have out1 : ∀ b, b ∉ ts → H1 b = none := fun b h => if_neg h
  cases hk : K.lookup a with
  | some o =>
    have e := KX a o hk
    rw [ha] at e
    cases e
    refine main H1 in1 (fun b => ?_) (Or.inr ⟨_, vs.toArray, _, hk, rfl, rfl, rfl, ?_, by simpa using hv⟩) (fun b u q => ?_) (fun b q => Or.inr (Decidable.byContradiction fun h => q (out1 b h))) (fun q => (q (out1 a a_t)).elim)
    · by_cases h : b ∈ ts
      · exact Or.inr (Or.inl h)
      · exact Or.inl (out1 b h)
    · rw [List.size_toArray, hvl]
      exact hl
    · by_cases h : b ∈ ts
      · rw [in1 b h] at q
        cases q
        exact at_t b h
      · rw [out1 b h] at q
        cases q
  | none =>
    let H0 : Hp := fun b => if b = a then some (.frz { cls := .type "list", data := .seq vs.toArray } (.lst (ns.map V.int))) else H1 b
    have at_a : H0 a = some (.frz { cls := .type "list", data := .seq vs.toArray } (.lst (ns.map V.int))) := if_pos rfl
    have off_a : ∀ b, b ≠ a → H0 b = H1 b := fun b h => if_neg h
    have ne_t : ∀ b ∈ ts, b ≠ a := fun b h q => a_t (q ▸ h)
    refine main H0 (fun b h => by rw [off_a b (ne_t b h)]; exact in1 b h) (fun b => ?_) (.inl (.inr ⟨_, at_a⟩)) (fun b u q => ?_) (fun b q => ?_) (fun _ => hk)
    · by_cases h : b = a
      · rw [h]
        exact Or.inr (Or.inr ⟨_, _, at_a⟩)
      · by_cases h2 : b ∈ ts
        · exact Or.inr (Or.inl h2)
        · exact Or.inl ((off_a b h).trans (out1 b h2))
    · by_cases h : b = a
      · rw [h] at q ⊢
        rw [at_a] at q
        cases q
        exact ⟨ha, (by rw [List.length_map]; exact hl), vs, _, hv, ha⟩
      · rw [off_a b h] at q
        by_cases h2 : b ∈ ts
        · rw [in1 b h2] at q
          cases q
          exact at_t b h2
        · rw [out1 b h2] at q
          cases q
    · by_cases h : b = a
      · exact Or.inl h
      · exact Or.inr (Decidable.byContradiction fun h2 => q ((off_a b h).trans (out1 b h2)))
theorem walk_gT {l : PySem.W.OpenLaw} {n k : Nat} {q : Program} {loose : List Str} {XP : (Str → Option Value) → Heap → Prop} {YP : World → Heap → Prop} {d : DefRec} {x : Str}
    (hn : l.most = some n) (hn2 : n ≤ sizeLine) (hdf : d.params.defaults = []) (hr : RoomG k callerA)
    (F : ∀ (w : World) (mg : Str → Option Value) (fa : Addr) (h : Heap), YP w h → h.Ns mainGlobals mg → mg d.name = some (.ref fa) →
      ∃ (K : PySem.W.Frag) (fd : FuncData) (sp : Sp) (cs : List (Addr × Addr)), K.In h ∧ (∀ p ∈ cs, h.get? p.2 = some tab0) ∧ (∀ p ∈ cs, K.lookup p.2 = none) ∧ (∀ p ∈ cs, PySem.W.CodeHd h p.1 p.2) ∧ (∀ (s : Shared) (u : Value), BindsTo s fd ⟨[u], []⟩ [(x, u)]) ∧
        (∀ (H : Hp) (a : Addr) (ns : List Int), ns.length ≤ n → (∀ z ∈ ns, Builtin.Int.intBits z ≤ 1048576) → (∀ p ∈ cs, H p.2 = some (.tbl #[])) → SqL K H a (ns.map V.int) → sp [.ref a] H (fun v _ => v = .bl true) fun _ _ _ => False) ∧
        ∀ bs : Heap, K.In bs → bs.Ns mainGlobals mg → (∀ p ∈ cs, LamX.TabB bs mg p.1 p.2) → FnG l.prog w K mg bs CX0 k fa fd [x] sp) :
    PySem.W.WalkO q loose XP YP l.row.toRowW d [] (fun f vs => PySem.call f vs) := by
  refine Att.attach_callB hn hdf ?_
  intro w s₀ s mg mb fa o pm cd doc a vs ns G Y _ _ _ hmg hobj hints hlen hbits hg
  obtain ⟨K, fd, sp, cs, KX, hT, nT, hC, hb, hsp, hF⟩ := F w mg fa _ Y G.T.g hmg
  exact law_endT KX G.T.g G.T.b G.T.builtins G.T.nolimit hg hT nT hC G.T.bmain hobj hints (Nat.le_trans hlen hn2) hr hF hb (fun H hH hS => hsp H a ns hlen hbits hH hS)
end MX

set_option Elab.async false
set_option linter.all false
set_option maxRecDepth 100000
set_option maxHeartbeats 4000000
namespace K03
open PySem PySem.Spec PySem.W PySem.Calls PyProof.Rows L2 MX
def top (i : Nat) : Stmt := PySem.Challenge.pw_metonce_k03_bounds_of_halls.main.body.getD i (.Pass ⟨0, 0, 0, 0⟩)
abbrev sErr : Stmt := inClass (top 2) 0
abbrev sIsName : Stmt := top 11
abbrev sUnlike : Stmt := top 12
abbrev sAmong : Stmt := top 13
abbrev sPeople : Stmt := top 14
abbrev sMet : Stmt := top 15
abbrev sOpen : Stmt := top 16
abbrev sRequire : Stmt := top 17
abbrev sInit : Stmt := inClass (top 18) 0
abbrev sTakes : Stmt := inClass (top 18) 1
abbrev sTell : Stmt := inClass (top 18) 2
abbrev sTold : Stmt := inClass (top 18) 3
abbrev sLen : Stmt := inClass (top 18) 5
abbrev sIn : Stmt := inClass (top 18) 6
abbrev sEq : Stmt := inClass (top 18) 7
abbrev FnP (K : PySem.W.Frag) (x : Str) (st : Stmt) (f : Addr) (fd : FuncData) : Prop := FunD K x x (defArgs st) (defBody st) (defScope st) [] [] f fd
/-- the built-ins' names that the module leaves alone, its numbers and letters -/
structure Blt (mg : Str → Option Value) : Prop where
  len : mg "len" = none
  set : mg "set" = none
  all : mg "all" = none
  tup : mg "tuple" = none
  isi : mg "isinstance" = none
  enum : mg "enumerate" = none
  str : mg "str" = none
  letters : ∃ t, mg "LETTERS" = some (.str letters t)
  mLetters : ∃ t, mg "MOST_LETTERS" = some (.int 8 t)
  mPeople : ∃ t, mg "MOST_PEOPLE" = some (.int 9 t)
  mMet : ∃ t, mg "MOST_MET" = some (.int 20 t)
  mOpen : ∃ t, mg "MOST_OPEN" = some (.int 4 t)
section
variable {P : Program} {w : World} {K : PySem.W.Frag} {mg : Str → Option Value} {base : Heap} {f : Addr} {fd : FuncData}
theorem scIsName : FnScope ["word", "sign"] ["word"] (defScope sIsName) := ⟨rfl, rfl, rfl, by decide +kernel, rfl, by decide +kernel, by decide +kernel⟩
theorem ok_isName (F : FnP K "is_name" sIsName f fd) (B : Blt mg) : FnOk P w K mg base CX0 1 f fd ["word"] spIsName := by
  refine F.ok scIsName (fun vs H Q E h => ?_) (fun cdv A outer s H vs Q E hr h => ?_)
  · obtain ⟨x, rfl, _⟩ := h
    rfl
  · obtain ⟨x, rfl, hl, q⟩ := h
    obtain ⟨t1, g1⟩ := B.letters
    obtain ⟨t2, g2⟩ := B.mLetters
    refine ⟨_, PSs.nox (pss_one (ps_ret (pe_and (pe_chain op_le op_le pe_int (pe_callB call_len_str (by rfl) B.len PySem.boot_len (pa_cons (pv 0) pa_nil)) (pe_glob (v := .int 8) rfl g2 ⟨_, rfl⟩))
      (pe_one (pe_callB (cr_all rfl) (by rfl) B.all boot_all (pa_cons (pe_lc (own := [("sign", 1)]) (g := gName 1) (tt := tYes) rfl scIsName.nd (pi_str (pv 0)) (blkOk_by (N := ["word", "sign"]) (sc := defScope sIsName) (by decide +kernel))
        (fun _ _ _ _ _ => pg_name (i := 1) scIsName.nd rfl (Or.inl rfl)) (fun _ _ _ _ _ => pts_nil) (fun _ _ _ _ _ => pe_cmpR op_in_sign (pv 1) (pe_glob (v := .str letters) rfl g1 ⟨_, rfl⟩) rfl)) pa_nil)))))), ?_⟩
    refine ⟨_, rfl, x, rfl, (by rw [sizeLine_eq]; omega), _, _, rfl, rfl, _, rfl, ite2 (fun h1 => ?_) (fun h1 => ?_)⟩
    · have h1 := of_decide_eq_true h1
      refine ⟨_, _, rfl, rfl, _, rfl, ite2 (fun h2 => ?_) (fun h2 => ?_)⟩
      · have h2 := of_decide_eq_true h2
        refine ⟨_, rfl, x, rfl, fun D nD => lc_it walk_str (fun k H' => H' D = some (.lst ((x.cps.toList.take k).map fun c => V.bl (decide (c ∈ letters.cps.toList)))) ∧ Same H H') ⟨by rw [upd_same]; rfl, same_new nD⟩ (fun _ _ _ _ => trivial) ?_ ?_⟩
        · rintro k y H' H'' hk ⟨eD, s⟩ ⟨rfl, c, hc, rfl⟩
          have hc' : x.cps.toList[k]? = some c := by rw [Array.getElem?_toList]; exact hc
          obtain ⟨acc, a1, a2, a3, a4⟩ := lcStep (f := fun c => V.bl (decide (c ∈ letters.cps.toList))) eD hc' s nD (Same.refl _) (by rw [Array.length_toList]; exact hl)
          exact ⟨rfl, _, rfl, c, letters, rfl, rfl, acc, a1, a2, a3, a4⟩
        · rintro H' ⟨eD, s⟩
          rw [show x.cps.size = x.cps.toList.length from (Array.length_toList).symm, List.take_length] at eD
          have e2 : (x.cps.toList.map fun c => V.bl (decide (c ∈ letters.cps.toList))) = (x.cps.toList.map fun c => decide (c ∈ letters.cps.toList)).map V.bl := by rw [List.map_map]; rfl
          rw [e2] at eD
          refine ⟨D, _, rfl, SqL.of eD, ?_⟩
          have e3 : ((x.cps.toList.map fun c => decide (c ∈ letters.cps.toList)).all id) = nameB x := by
            unfold nameB
            rw [decide_eq_true (show 1 ≤ x.length by omega), decide_eq_true (show x.length ≤ 8 by omega), List.all_map]
            rfl
          rw [e3]
          exact q H' s
      · have h2 : ¬ ((x.length : Nat) : Int) ≤ 8 := fun z => h2 (decide_eq_true z)
        have e3 : nameB x = false := by
          unfold nameB
          rw [decide_eq_false (show ¬ x.length ≤ 8 by omega)]
          simp
        have z := q H (Same.refl H)
        rw [e3] at z
        exact z
    · have h1 : ¬ (1 : Int) ≤ ((x.length : Nat) : Int) := fun z => h1 (decide_eq_true z)
      have e3 : nameB x = false := by
        unfold nameB
        rw [decide_eq_false (show ¬ 1 ≤ x.length by omega)]
        rfl
      refine ⟨_, rfl, iteF ?_⟩
      have z := q H (Same.refl H)
      rw [e3] at z
      exact z
theorem scUnlike : FnScope ["names"] ["names"] (defScope sUnlike) := ⟨rfl, rfl, rfl, by decide +kernel, rfl, by decide +kernel, by decide +kernel⟩
theorem ok_unlike (F : FnP K "are_unlike" sUnlike f fd) (B : Blt mg) : FnOk P w K mg base CX0 1 f fd ["names"] (spUnlike K) := by
  refine F.ok scUnlike (fun vs H Q E h => ?_) (fun cdv A outer s H vs Q E hr h => ?_)
  · obtain ⟨l, xs, rfl, _⟩ := h
    rfl
  · obtain ⟨l, xs, rfl, hS, hl, q⟩ := h
    refine ⟨_, PSs.nox (pss_one (ps_ret (pe_cmpR op_eq (pe_lenSetT rfl (by rfl) B.len (by rfl) B.set (pv 0)) (pe_callB call_len_seq (by rfl) B.len PySem.boot_len (pa_cons (pv 0) pa_nil)) (nomark _)))), ?_⟩
    refine ⟨_, rfl, l, xs, rfl, hS, hl, _, rfl, l, _, rfl, .inl hS, rfl, ?_⟩
    rw [List.length_map, dis_len]
    exact q
theorem scAmong : FnScope ["names", "people", "name"] ["names", "people"] (defScope sAmong) := ⟨rfl, rfl, rfl, by decide +kernel, rfl, by decide +kernel, by decide +kernel⟩
theorem ok_among {fU : Addr} {fdU : FuncData} (F : FnP K "are_among" sAmong f fd) (B : Blt mg) (FU : FnP K "are_unlike" sUnlike fU fdU) (gU : mg "are_unlike" = some (.ref fU)) : FnOk P w K mg base CX0 2 f fd ["names", "people"] (spAmong K) := by
  have GU : FnOk P w K mg base CX0 1 fU fdU ["names"] (spUnlike K) := ok_unlike FU B
  have bU : Binds K fdU ["names"] [] := FU.bindsN fun _ _ _ _ _ _ us hl => match us, hl with | [_], _ => rfl
  refine F.ok scAmong (fun vs H Q E h => ?_) (fun cdv A outer s H vs Q E hr h => ?_)
  · obtain ⟨l, p, xs, ps, rfl, _⟩ := h
    rfl
  · obtain ⟨l, p, xs, ps, rfl, hS, hl, hT, q⟩ := h
    refine ⟨_, PSs.nox (pss_one (ps_ret (pe_and (pe_call GU hr rfl gU FU.kp bU .nil pass0 (pa_cons (pv 0) pa_nil))
      (pe_one (pe_callB (cr_all rfl) (by rfl) B.all boot_all (pa_cons (pe_lc (own := [("name", 2)]) (g := gName 2) (tt := tYes) rfl scAmong.nd (pi_list (pv 0)) (blkOk_by (N := ["names", "people", "name"]) (sc := defScope sAmong) (by decide +kernel))
        (fun _ _ _ _ _ => pg_name (i := 2) scAmong.nd rfl (Or.inl rfl)) (fun _ _ _ _ _ => pts_nil) (fun _ _ _ _ _ => pe_cmpR (r := rIn K false) op_in_seq (pv 2) (pv 1) rfl)) pa_nil)))))), ?_⟩
    refine ⟨_, rfl, l, xs, rfl, hS, hl, _, rfl, ite2 (fun hn => ?_) (fun hn => ?_)⟩
    · have hn := of_decide_eq_true hn
      refine ⟨_, rfl, l, rfl, ⟨_, hS⟩, fun D nD => lc_list (xs := xs.map V.str) (fun k H' => H' D = some (.lst ((xs.take k).map fun x => V.bl (decide (x ∈ ps)))) ∧ Same H H') ⟨by rw [upd_same]; rfl, same_new nD⟩ (fun k H' _ z => z.2.seq hS) ?_ ?_⟩
      · rintro k y H' hy ⟨eD, s⟩
        rw [List.getElem?_map] at hy
        obtain ⟨x, hx, rfl⟩ := Option.map_eq_some_iff.mp hy
        obtain ⟨acc, a1, a2, a3, a4⟩ := lcStep (f := fun x => V.bl (decide (x ∈ ps))) eD hx s nD (Same.refl _) (by omega)
        refine ⟨rfl, _, rfl, _, rfl, p, ps.map V.str, rfl, .inr ?_, rfl, MX.flat_strs ps, acc, a1, a2, ?_⟩
        · rcases hT with (h | ⟨o, h⟩) | h
          · exact .inl (.inl (s _ _ h))
          · exact .inl (.inr ⟨o, s _ _ h⟩)
          · exact .inr h
        · rw [show (if false = true then !inV (V.str x) (ps.map V.str) else inV (V.str x) (ps.map V.str)) = decide (x ∈ ps) from inV_str x ps]
          exact ⟨a3, a4⟩
      · rintro H' ⟨eD, s⟩
        rw [List.length_map, List.take_length] at eD
        have e2 : (xs.map fun x => V.bl (decide (x ∈ ps))) = (xs.map fun x => decide (x ∈ ps)).map V.bl := by rw [List.map_map]; rfl
        rw [e2] at eD
        refine ⟨D, _, rfl, SqL.of eD, ?_⟩
        have e3 : ((xs.map fun x => decide (x ∈ ps)).all id) = amongB xs ps := by
          unfold amongB
          rw [decide_eq_true hn, List.all_map]
          rfl
        rw [e3]
        exact q H' s
    · have hn : ¬ xs.Nodup := fun z => hn (decide_eq_true z)
      have e3 : amongB xs ps = false := by
        unfold amongB
        rw [decide_eq_false hn]
        rfl
      have z := q H (Same.refl H)
      rw [e3] at z
      exact z
theorem scPeople : FnScope ["words", "names", "name"] ["words"] (defScope sPeople) := ⟨rfl, rfl, rfl, by decide +kernel, rfl, by decide +kernel, by decide +kernel⟩
theorem ok_people {fU fN : Addr} {fdU fdN : FuncData} (F : FnP K "is_people_line" sPeople f fd) (B : Blt mg) (FU : FnP K "are_unlike" sUnlike fU fdU) (gU : mg "are_unlike" = some (.ref fU)) (FN : FnP K "is_name" sIsName fN fdN) (gN : mg "is_name" = some (.ref fN)) :
    FnOk P w K mg base CX0 2 f fd ["words"] (spPeople K) := by
  have GU : FnOk P w K mg base CX0 1 fU fdU ["names"] (spUnlike K) := ok_unlike FU B
  have bU : Binds K fdU ["names"] [] := FU.bindsN fun _ _ _ _ _ _ us hl => match us, hl with | [_], _ => rfl
  have GN : FnOk P w K mg base CX0 1 fN fdN ["word"] spIsName := ok_isName FN B
  have bN : Binds K fdN ["word"] [] := FN.bindsN fun _ _ _ _ _ _ us hl => match us, hl with | [_], _ => rfl
  refine F.ok scPeople (fun vs H Q E h => ?_) (fun cdv A outer s H vs Q E hr h => ?_)
  · obtain ⟨l, ws, rfl, _⟩ := h
    rfl
  · obtain ⟨l, ws, rfl, hS, h0, hl, hw, q⟩ := h
    obtain ⟨t2, g2⟩ := B.mPeople
    refine ⟨_, PSs.nox (pss_cons (ps_set (i := 1) scPeople.nd rfl (Or.inl rfl) (pe_slice sl_list (pv 0) (po_some pe_int) po_none))
      (pss_cons (ps_if (PW.pt (pw_or (pt_cmpR op_ne (pe_ix ix_list (pv 0) pe_int (fun _ _ => rfl)) pe_str (nomark _)) (pw_or1 (pt_not (pt_chain op_le op_le pe_int (pe_callB call_len_seq (by rfl) B.len PySem.boot_len (pa_cons (pv 1) pa_nil)) (pe_glob (v := .int 9) rfl g2 ⟨_, rfl⟩))))))
        (pss_one (ps_ret pe_bl)) pss_nil)
      (pss_one (ps_ret (pe_and (pe_call GU hr rfl gU FU.kp bU .nil pass0 (pa_cons (pv 1) pa_nil))
        (pe_one (pe_callB (cr_all rfl) (by rfl) B.all boot_all (pa_cons (pe_lc (own := [("name", 2)]) (g := gName 2) (tt := tYes) rfl scPeople.nd (pi_list (pv 1)) (blkOk_by (N := ["words", "names", "name"]) (sc := defScope sPeople) (by decide +kernel))
          (fun _ _ _ _ _ => pg_name (i := 2) scPeople.nd rfl (Or.inl rfl)) (fun _ _ _ _ _ => pts_nil) (fun _ _ _ _ _ => pe_call GN hr rfl gN FN.kp bN .nil pass0 (pa_cons (pv 2) pa_nil))) pa_nil)))))))), ?_⟩
    refine ⟨_, rfl, _, rfl, l, _, rfl, hS, fun n hn => ?_⟩
    have sN := same_new (o := .lst (cutV (ws.map V.str) (some 1) none)) hn
    obtain ⟨w0, hw0⟩ : ∃ w0, ws[0]? = some w0 := ⟨ws[0], List.getElem?_eq_getElem h0⟩
    have eN : (L2.upd H n (.lst (cutV (ws.map V.str) (some 1) none))) n = some (.lst ((ws.drop 1).map V.str)) := by rw [upd_same, cut1]
    have bad : peopleB ws = false → Q (.bl false) (L2.upd H n (.lst (cutV (ws.map V.str) (some 1) none))) := fun z => by
      have z2 := q _ sN
      rw [z] at z2
      exact z2
    refine ⟨_, rfl, l, _, _, V.str w0, rfl, rfl, sN.seq hS, atI_nat (by rw [List.getElem?_map, hw0]; rfl), rfl, _, rfl, ?_⟩
    by_cases e0 : w0 = "people"
    · rw [e0, decide_eq_true rfl]
      refine iteF ⟨_, rfl, n, _, rfl, .inl (SqL.of eN), _, _, rfl, rfl, _, rfl, ite2 (fun h1 => ?_) (fun h1 => ?_)⟩
      · have h1 := of_decide_eq_true h1
        refine ⟨_, _, rfl, rfl, _, rfl, ?_⟩
        by_cases h9 : (((ws.drop 1).map V.str).length : Int) ≤ 9
        · rw [decide_eq_true h9]
          rw [List.length_map] at h1 h9
          have hlN : (ws.drop 1).length ≤ 1000 := by omega
          refine iteF ⟨_, rfl, n, ws.drop 1, rfl, SqL.of eN, hlN, _, rfl, ite2 (fun hu => ?_) (fun hu => ?_)⟩
          · have hu := of_decide_eq_true hu
            refine ⟨_, rfl, n, rfl, ⟨_, SqL.of eN⟩, fun D nD => lc_list (xs := (ws.drop 1).map V.str) (fun k H' => H' D = some (.lst (((ws.drop 1).take k).map fun x => V.bl (nameB x))) ∧ Same (L2.upd H n (.lst (cutV (ws.map V.str) (some 1) none))) H')
              ⟨by rw [upd_same]; rfl, same_new nD⟩ (fun k H' _ z => SqL.of (z.2 _ _ eN)) ?_ ?_⟩
            · rintro k y H' hy ⟨eD, s⟩
              rw [List.getElem?_map] at hy
              obtain ⟨x, hx, rfl⟩ := Option.map_eq_some_iff.mp hy
              refine ⟨rfl, _, rfl, x, rfl, hw x (List.mem_of_mem_drop (List.mem_of_getElem? hx)), fun H2 s2 => ?_⟩
              exact lcStep (f := fun x => V.bl (nameB x)) eD hx s nD s2 (by omega)
            · rintro H' ⟨eD, s⟩
              rw [List.length_map, List.take_length] at eD
              have e2 : ((ws.drop 1).map fun x => V.bl (nameB x)) = ((ws.drop 1).map nameB).map V.bl := by rw [List.map_map]; rfl
              rw [e2] at eD
              refine ⟨D, _, rfl, SqL.of eD, ?_⟩
              have e3 : (((ws.drop 1).map nameB).all id) = peopleB ws := by
                unfold peopleB headIs
                rw [decide_eq_true (show ws[0]? = some ("people" : Str) by rw [hw0, e0]), decide_eq_true (show 1 ≤ (ws.drop 1).length by omega), decide_eq_true (show (ws.drop 1).length ≤ 9 by omega), decide_eq_true hu, List.all_map]
                rfl
              rw [e3]
              exact q H' (sN.trans s)
          · have hu : ¬ (ws.drop 1).Nodup := fun z => hu (decide_eq_true z)
            refine bad ?_
            unfold peopleB
            rw [decide_eq_false hu]
            simp
        · rw [decide_eq_false h9]
          refine iteT (bad ?_)
          rw [List.length_map] at h9
          unfold peopleB
          rw [decide_eq_false (show ¬ (ws.drop 1).length ≤ 9 by omega)]
          simp
      · have h1 : ¬ (1 : Int) ≤ (((ws.drop 1).map V.str).length : Int) := fun z => h1 (decide_eq_true z)
        refine ⟨_, rfl, iteT (bad ?_)⟩
        rw [List.length_map] at h1
        unfold peopleB
        rw [decide_eq_false (show ¬ 1 ≤ (ws.drop 1).length by omega)]
        simp
    · have e0' : decide (V.str w0 = V.str "people") = false := decide_eq_false fun z => e0 (V.str.inj z)
      rw [e0']
      refine iteT (bad ?_)
      unfold peopleB headIs
      rw [decide_eq_false (show ¬ ws[0]? = some ("people" : Str) by rw [hw0]; exact fun z => e0 (Option.some.inj z))]
      rfl
theorem scMet : FnScope ["words", "people", "names"] ["words", "people"] (defScope sMet) := ⟨rfl, rfl, rfl, by decide +kernel, rfl, by decide +kernel, by decide +kernel⟩
theorem seqT_same {H H' : Hp} {p : Addr} {xs : List V} (s : Same H H') (h : SqT K H p xs) : SqT K H' p xs := by
  rcases h with (h | ⟨o, h⟩) | h
  · exact .inl (.inl (s _ _ h))
  · exact .inl (.inr ⟨o, s _ _ h⟩)
  · exact .inr h
theorem ok_met {fU fA : Addr} {fdU fdA : FuncData} (F : FnP K "is_met_line" sMet f fd) (B : Blt mg) (FU : FnP K "are_unlike" sUnlike fU fdU) (gU : mg "are_unlike" = some (.ref fU)) (FA : FnP K "are_among" sAmong fA fdA) (gA : mg "are_among" = some (.ref fA)) :
    FnOk P w K mg base CX0 3 f fd ["words", "people"] (spMet K) := by
  have GA : FnOk P w K mg base CX0 2 fA fdA ["names", "people"] (spAmong K) := ok_among FA B FU gU
  have bA : Binds K fdA ["names", "people"] [] := FA.bindsN fun _ _ _ _ _ _ us hl => match us, hl with | [_, _], _ => rfl
  refine F.ok scMet (fun vs H Q E h => ?_) (fun cdv A outer s H vs Q E hr h => ?_)
  · obtain ⟨l, p, ws, ps, rfl, _⟩ := h
    rfl
  · obtain ⟨l, p, ws, ps, rfl, hS, h0, hl, hT, q⟩ := h
    refine ⟨_, PSs.nox (pss_cons (ps_set (i := 2) scMet.nd rfl (Or.inl rfl) (pe_slice sl_list (pv 0) (po_some pe_int) po_none))
      (pss_one (ps_ret (pe_and (pe_cmpR op_eq (pe_ix ix_list (pv 0) pe_int (fun _ _ => rfl)) pe_str (nomark _))
        (pe_and (pe_cmpR op_ge (pe_callB call_len_seq (by rfl) B.len PySem.boot_len (pa_cons (pv 2) pa_nil)) pe_int (nomark _))
        (pe_one (pe_call GA hr rfl gA FA.kp bA .nil pass0 (pa_cons (pv 2) (pa_cons (pv 1) pa_nil))))))))), ?_⟩
    refine ⟨_, rfl, _, rfl, l, _, rfl, hS, fun n hn => ?_⟩
    have sN := same_new (o := .lst (cutV (ws.map V.str) (some 1) none)) hn
    obtain ⟨w0, hw0⟩ : ∃ w0, ws[0]? = some w0 := ⟨ws[0], List.getElem?_eq_getElem h0⟩
    have eN : (L2.upd H n (.lst (cutV (ws.map V.str) (some 1) none))) n = some (.lst ((ws.drop 1).map V.str)) := by rw [upd_same, cut1]
    have bad : metB ws ps = false → Q (.bl false) (L2.upd H n (.lst (cutV (ws.map V.str) (some 1) none))) := fun z => by
      have z2 := q _ sN
      rw [z] at z2
      exact z2
    refine ⟨_, rfl, l, _, _, V.str w0, rfl, rfl, sN.seq hS, atI_nat (by rw [List.getElem?_map, hw0]; rfl), rfl, _, rfl, ?_⟩
    by_cases e0 : w0 = "met"
    · rw [e0, decide_eq_true rfl]
      refine iteT ⟨_, rfl, n, _, rfl, .inl (SqL.of eN), _, _, rfl, rfl, _, rfl, ite2 (fun h2 => ?_) (fun h2 => ?_)⟩
      · have h2 := of_decide_eq_true h2
        rw [List.length_map] at h2
        have hlN : (ws.drop 1).length ≤ 1000 := by
          rw [List.length_drop]
          omega
        refine ⟨_, rfl, _, rfl, n, p, ws.drop 1, ps, rfl, SqL.of eN, hlN, seqT_same sN hT, fun H' s' => ?_⟩
        have e3 : amongB (ws.drop 1) ps = metB ws ps := by
          unfold metB headIs
          rw [decide_eq_true (show ws[0]? = some ("met" : Str) by rw [hw0, e0]), decide_eq_true (show 2 ≤ (ws.drop 1).length by omega)]
          rfl
        rw [e3]
        exact q H' (sN.trans s')
      · have h2 : ¬ (2 : Int) ≤ (((ws.drop 1).map V.str).length : Int) := fun z => h2 (decide_eq_true z)
        rw [List.length_map] at h2
        refine bad ?_
        unfold metB
        rw [decide_eq_false (show ¬ 2 ≤ (ws.drop 1).length by omega)]
        simp
    · have e0' : decide (V.str w0 = V.str "met") = false := decide_eq_false fun z => e0 (V.str.inj z)
      rw [e0']
      refine iteF (bad ?_)
      unfold metB headIs
      rw [decide_eq_false (show ¬ ws[0]? = some ("met" : Str) by rw [hw0]; exact fun z => e0 (Option.some.inj z))]
      rfl
theorem scOpen : FnScope ["words", "people", "told", "names"] ["words", "people", "told"] (defScope sOpen) := ⟨rfl, rfl, rfl, by decide +kernel, rfl, by decide +kernel, by decide +kernel⟩
theorem ok_open {fU fA : Addr} {fdU fdA : FuncData} (F : FnP K "is_open_line" sOpen f fd) (B : Blt mg) (FU : FnP K "are_unlike" sUnlike fU fdU) (gU : mg "are_unlike" = some (.ref fU)) (FA : FnP K "are_among" sAmong fA fdA) (gA : mg "are_among" = some (.ref fA)) :
    FnOk P w K mg base CX0 3 f fd ["words", "people", "told"] (spOpen K) := by
  have GA : FnOk P w K mg base CX0 2 fA fdA ["names", "people"] (spAmong K) := ok_among FA B FU gU
  have bA : Binds K fdA ["names", "people"] [] := FA.bindsN fun _ _ _ _ _ _ us hl => match us, hl with | [_, _], _ => rfl
  refine F.ok scOpen (fun vs H Q E h => ?_) (fun cdv A outer s H vs Q E hr h => ?_)
  · obtain ⟨l, p, d, ws, ps, T, rfl, _⟩ := h
    rfl
  · obtain ⟨l, p, d, ws, ps, T, rfl, hS, h0, hl, hT, hd, q⟩ := h
    have hu := hr.units
    refine ⟨_, PSs.nox (pss_cons (ps_set (i := 3) scOpen.nd rfl (Or.inl rfl) (pe_slice sl_list (pv 0) (po_some pe_int) po_none))
      (pss_one (ps_ret (pe_and (pe_cmpR op_eq (pe_ix ix_list (pv 0) pe_int (fun _ _ => rfl)) pe_str (nomark _))
        (pe_and (pe_cmpR op_eq (pe_callB call_len_seq (by rfl) B.len PySem.boot_len (pa_cons (pv 3) pa_nil)) pe_int (nomark _))
        (pe_and (pe_call GA hr rfl gA FA.kp bA .nil pass0 (pa_cons (pv 3) (pa_cons (pv 1) pa_nil)))
        (pe_one (pe_cmp (pc_dnotin (hu_of hr) (pe_callTy call_tuple_of (by rfl) B.tup boot_tuple (pa_cons (pv 3) pa_nil)) (pv 2)) rfl)))))))), ?_⟩
    refine ⟨_, rfl, _, rfl, l, _, rfl, hS, fun n hn => ?_⟩
    have sN := same_new (o := .lst (cutV (ws.map V.str) (some 1) none)) hn
    obtain ⟨w0, hw0⟩ : ∃ w0, ws[0]? = some w0 := ⟨ws[0], List.getElem?_eq_getElem h0⟩
    have eN : (L2.upd H n (.lst (cutV (ws.map V.str) (some 1) none))) n = some (.lst ((ws.drop 1).map V.str)) := by rw [upd_same, cut1]
    have bad : openB ws ps T = false → ∀ H', Same H H' → Q (.bl false) H' := fun z H' s' => by
      have z2 := q H' s'
      rw [z] at z2
      exact z2
    refine ⟨_, rfl, l, _, _, V.str w0, rfl, rfl, sN.seq hS, atI_nat (by rw [List.getElem?_map, hw0]; rfl), rfl, _, rfl, ?_⟩
    by_cases e0 : w0 = "open"
    · rw [e0, decide_eq_true rfl]
      refine iteT ⟨_, rfl, n, _, rfl, .inl (SqL.of eN), rfl, _, rfl, ite2 (fun h2 => ?_) (fun h2 => ?_)⟩
      · have h2 : (ws.drop 1).length = 2 := by
          have z := V.int.inj (of_decide_eq_true h2)
          rw [List.length_map] at z
          omega
        refine ⟨_, rfl, _, rfl, n, p, ws.drop 1, ps, rfl, SqL.of eN, by omega, seqT_same sN hT, fun H' s' => ⟨_, rfl, ite2 (fun ha => ?_) (fun ha => ?_)⟩⟩
        · refine ⟨_, rfl, n, (ws.drop 1).map V.str, rfl, .inl ⟨SqL.of (s' _ _ eN), fun t ht => ?_⟩⟩
          have s2 := (sN.trans s').trans (same_new (o := .tup ((ws.drop 1).map V.str)) ht)
          have ek : ((ws.drop 1).map V.str) = (keyT (ws.drop 1)).map kV := by
            unfold keyT
            rw [List.map_map]
            rfl
          refine ⟨_, rfl, d, _, rfl, DGet.t (k := keyT (ws.drop 1)) (s2 _ _ hd) (by rw [upd_same, ek]), ?_⟩
          have e3 : (!(valV T (keyT (ws.drop 1))).isSome) = openB ws ps T := by
            unfold openB headIs
            rw [decide_eq_true (show ws[0]? = some ("open" : Str) by rw [hw0, e0]), decide_eq_true h2, ha]
            cases valV T (keyT (ws.drop 1)) <;> rfl
          rw [e3]
          exact q _ s2
        · have ha : amongB (ws.drop 1) ps = false := by
            cases z : amongB (ws.drop 1) ps with
            | true => exact absurd z ha
            | false => rfl
          refine bad ?_ _ (sN.trans s')
          unfold openB
          rw [ha]
          simp
      · have h2 : ¬ (ws.drop 1).length = 2 := fun z => h2 (decide_eq_true (by rw [List.length_map, z]; rfl))
        refine bad ?_ _ sN
        unfold openB
        rw [decide_eq_false h2]
        simp
    · have e0' : decide (V.str w0 = V.str "open") = false := decide_eq_false fun z => e0 (V.str.inj z)
      rw [e0']
      refine iteF (bad ?_ _ sN)
      unfold openB headIs
      rw [decide_eq_false (show ¬ ws[0]? = some ("open" : Str) by rw [hw0]; exact fun z => e0 (Option.some.inj z))]
      rfl
end
end K03

set_option Elab.async false
set_option linter.all false
set_option maxRecDepth 100000
set_option maxHeartbeats 4000000
namespace K03
open PySem PySem.Spec PySem.W PySem.Calls PyProof.Rows L2 MX
/-- what the class must keep -/
structure HallC (K : PySem.W.Frag) (C fT fK : Addr) : Prop where
  cls : Cls K C
  nText : NoAttr K C "text"
  nPeople : NoAttr K C "people"
  nOpens : NoAttr K C "opens"
  nTold : NoAttr K C "_told"
  mTell : Meth K C "_tell" fT
  mTakes : Meth K C "_takes" fK
abbrev FnM (K : PySem.W.Frag) (x q : Str) (st : Stmt) (f : Addr) (fd : FuncData) : Prop := FunD K x q (defArgs st) (defBody st) (defScope st) [] [] f fd
section
variable {P : Program} {w : World} {K : PySem.W.Frag} {mg : Str → Option Value} {base : Heap} {f C fT fK : Addr} {fd : FuncData}
theorem scTell : FnScope ["self", "names", "word", "one", "other"] ["self", "names", "word"] (defScope sTell) := ⟨rfl, rfl, rfl, by decide +kernel, rfl, by decide +kernel, by decide +kernel⟩
theorem ok_tell (F : FnM K "_tell" "Hall._tell" sTell f fd) (Z : HallC K C fT fK) : FnOk P w K mg base CX0 1 f fd ["self", "names", "word"] (spTell K C) := by
  refine F.ok scTell (fun vs H Q E h => ?_) (fun cdv A outer s H vs Q E hr h => ?_)
  · obtain ⟨p, l, d, ns, wd, T, rfl, _⟩ := h
    rfl
  · obtain ⟨p, l, d, ns, wd, T, rfl, hT, hL, hl, q⟩ := h
    have hu := hu_of hr
    refine ⟨_, PSs.nox (pss_one (ps_for PassesOwn.never rfl (pi_list (pv 1)) (pg_name (i := 3) scTell.nd rfl (Or.inl rfl))
      (pss_one (ps_for PassesOwn.never rfl (pi_list (pv 1)) (pg_name (i := 4) scTell.nd rfl (Or.inl rfl))
        (pss_one (ps_if (pt_cmpR op_ne (pv 3) (pv 4) (nomark _))
          (pss_one (ps_dput hu (pe_fld (pv 0) (by rfl)) (pe_tup (pa_cons (pv 3) (pa_cons (pv 4) pa_nil))) (pv 2) (by rfl))) pss_nil)))))), ?_⟩
    have hLL : ∀ H', But [d] H H' → SqL K H' l (ns.map V.str) := fun H' s => s.seqL hL (nrd_t hT.t (fun _ z => by cases z) (fun _ _ z => by cases z))
    refine ⟨_, rfl, l, rfl, ⟨_, hL⟩, for_list (xs := ns.map V.str) (fun i σ H' => (∃ u1 u2, σ = [some (.ref p), some (.ref l), some (.str wd), u1, u2]) ∧ But [d] H H' ∧ H' d = some (.dT (tellA ns (ns.take i) wd T))) ⟨⟨_, _, rfl⟩, But.refl, hT.t⟩ (fun i σ H' _ z => hLL H' z.2.1) ?_ ?_⟩
    · rintro i y σ H1 hy ⟨⟨u1, u2, rfl⟩, s1, e1⟩
      rw [List.getElem?_map] at hy
      obtain ⟨x, hx, rfl⟩ := Option.map_eq_some_iff.mp hy
      refine ⟨_, rfl, l, rfl, ⟨_, hLL H1 s1⟩, for_list (xs := ns.map V.str) (fun j σ H' => (∃ u2, σ = [some (.ref p), some (.ref l), some (.str wd), some (.str x), u2]) ∧ But [d] H H' ∧ H' d = some (.dT (tellR x wd (ns.take j) (tellA ns (ns.take i) wd T)))) ⟨⟨_, rfl⟩, s1, e1⟩ (fun j σ H' _ z => hLL H' z.2.1) ?_ ?_⟩
      · rintro j y σ H2 hy ⟨⟨u2, rfl⟩, s2, e2⟩
        rw [List.getElem?_map] at hy
        obtain ⟨z, hz, rfl⟩ := Option.map_eq_some_iff.mp hy
        have L2' := tellR_len (x := x) (w := wd) (ns.take j) (tellA ns (ns.take i) wd T)
        have hi : i < ns.length := by
          by_cases c : i < ns.length
          · exact c
          · rw [List.getElem?_eq_none (by omega)] at hx; cases hx
        have hj : j < ns.length := by
          by_cases c : j < ns.length
          · exact c
          · rw [List.getElem?_eq_none (by omega)] at hz; cases hz
        have L1' := tellA_len (w := wd) (ys := ns) (ns.take i) T
        rw [List.length_take, Nat.min_eq_left (by omega)] at L1' L2'
        have L3 : i * ns.length + ns.length ≤ ns.length * ns.length := by
          rw [← Nat.succ_mul]
          exact Nat.mul_le_mul_right _ hi
        have eS : tellR x wd (ns.take (j + 1)) (tellA ns (ns.take i) wd T) = tell1 x z wd (tellR x wd (ns.take j) (tellA ns (ns.take i) wd T)) := by rw [take_snocE hz, tellR_snoc]
        refine ⟨_, rfl, _, rfl, rfl, ?_⟩
        by_cases h : x = z
        · subst h
          rw [show (!decide (V.str x = V.str x)) = false by simp]
          refine ⟨_, rfl, iteF ⟨⟨_, rfl⟩, s2, ?_⟩⟩
          rw [eS, e2]
          unfold tell1
          rw [if_pos rfl]
        · rw [show (!decide (V.str x = V.str z)) = true by simpa using h]
          obtain ⟨dx, fs, o1, o2⟩ := (hT.on s2 e2).ex
          refine ⟨_, rfl, iteT ⟨_, rfl, _, rfl, p, C, dx, fs, _, rfl, o1, Z.cls, Z.nTold, o2, _, rfl, _, rfl, (by rw [sizeLine_eq]; show 2 ≤ _; omega), fun t ht => ?_⟩⟩
          have e2' : (L2.upd H2 t (.tup [V.str x, V.str z])) d = some (.dT (tellR x wd (ns.take j) (tellA ns (ns.take i) wd T))) := by
            rw [upd_ne (ne_of_none e2 ht)]
            exact e2
          refine ⟨d, _, rfl, DPut.t (k := [Sum.inr x, Sum.inr z]) e2' upd_same (by rw [sizeLine_eq]; omega), ⟨_, rfl⟩, (s2.new ht).up (List.mem_singleton.mpr rfl), ?_⟩
          rw [upd_same, eS]
          unfold tell1
          rw [if_neg h]
      · rintro σ H2 ⟨⟨u2, rfl⟩, s2, e2⟩
        refine ⟨⟨_, _, rfl⟩, s2, ?_⟩
        rw [e2, List.length_map, List.take_length, take_snocE hx, tellA_snoc]
    · rintro σ H1 ⟨_, s1, e1⟩
      rw [List.length_map, List.take_length] at e1
      exact q H1 s1 e1
theorem scTakes : FnScope ["self", "number", "words"] ["self", "number", "words"] (defScope sTakes) := ⟨rfl, rfl, rfl, by decide +kernel, rfl, by decide +kernel, by decide +kernel⟩
theorem ok_takes {fTe fM fO fU fA : Addr} {fdTe fdM fdO fdU fdA : FuncData} (F : FnM K "_takes" "Hall._takes" sTakes f fd) (Z : HallC K C fTe fK) (B : Blt mg) (FT : FnM K "_tell" "Hall._tell" sTell fTe fdTe)
    (FM : FnP K "is_met_line" sMet fM fdM) (gM : mg "is_met_line" = some (.ref fM)) (FO : FnP K "is_open_line" sOpen fO fdO) (gO : mg "is_open_line" = some (.ref fO))
    (FU : FnP K "are_unlike" sUnlike fU fdU) (gU : mg "are_unlike" = some (.ref fU)) (FA : FnP K "are_among" sAmong fA fdA) (gA : mg "are_among" = some (.ref fA)) :
    FnOk P w K mg base CX0 4 f fd ["self", "number", "words"] (spTakes K C) := by
  have GT : FnOk P w K mg base CX0 1 fTe fdTe ["self", "names", "word"] (spTell K C) := ok_tell FT Z
  have bT : Binds K fdTe ["self", "names", "word"] [] := FT.bindsN fun _ _ _ _ _ _ us hl => match us, hl with | [_, _, _], _ => rfl
  have GM : FnOk P w K mg base CX0 3 fM fdM ["words", "people"] (spMet K) := ok_met FM B FU gU FA gA
  have bM : Binds K fdM ["words", "people"] [] := FM.bindsN fun _ _ _ _ _ _ us hl => match us, hl with | [_, _], _ => rfl
  have GO : FnOk P w K mg base CX0 3 fO fdO ["words", "people", "told"] (spOpen K) := ok_open FO B FU gU FA gA
  have bO : Binds K fdO ["words", "people", "told"] [] := FO.bindsN fun _ _ _ _ _ _ us hl => match us, hl with | [_, _, _], _ => rfl
  obtain ⟨t3, gMet⟩ := B.mMet
  obtain ⟨t4, gOpen⟩ := B.mOpen
  refine F.ok scTakes (fun vs H Q E h => ?_) (fun cdv A outer s H vs Q E hr h => ?_)
  · obtain ⟨p, l, pp, o, d, n, x, ws, ps, ops, T, rfl, _⟩ := h
    rfl
  · obtain ⟨p, l, pp, o, d, n, x, ws, ps, ops, T, rfl, hA, hL, h0, hl, hps, hlo, hlT, qN, qS⟩ := h
    have hu := hr.units
    have hr1 := hr.mono (show 1 ≤ 3 by decide)
    obtain ⟨dx, e0⟩ := hA.ex
    have hlen : T.length + (ws.drop 1).length * (ws.drop 1).length ≤ 10000000 := by
      have z : (ws.drop 1).length ≤ 100 := by rw [List.length_drop]; omega
      have z2 := Nat.mul_le_mul z z
      omega
    have hcut : cutV (ws.map V.str) (some 1) none = (ws.drop 1).map V.str := cut1 ws
    obtain ⟨t2, h2, k2⟩ : ∃ t2, PSs (cxOf CX0 P w K mg base ["self", "number", "words"] "Hall._takes" (defScope sTakes) f cdv A outer s H E).nox ((defBody sTakes).drop 1) t2 ∧
        ∀ H1, Same H H1 → ¬ (decide (n ≤ 21) && (decide (ops.length = 0) && metB ws ps)) = true → t2 { nx := fun _ H' => Q .non H', rt := Q } (start ["self", "number", "words"] [.ref p, .int (n : Int), .ref l]) H1 := by
      refine ⟨_, pss_cons (ps_if (PW.pt (pw_and (pt_cmpR op_lt (pe_callB call_len_seq (by rfl) B.len PySem.boot_len (pa_cons (pe_fld (pv 0) (by rfl)) pa_nil)) (pe_glob (v := .int 4) rfl gOpen ⟨_, rfl⟩) (nomark _))
        (pw_and1 (pt_val (pe_call GO hr rfl gO FO.kp bO .nil pass0 (pa_cons (pv 2) (pa_cons (pe_fld (pv 0) (by rfl)) (pa_cons (pe_fld (pv 0) (by rfl)) pa_nil))))))))
        (pss_cons (ps_expr (pe_meth (pv 0) Z.cls Z.mTell GT hr1 bT .nil pass0 (pa_cons (pe_slice sl_list (pv 2) (po_some pe_int) po_none) (pa_cons pe_str pa_nil))))
          (pss_cons (ps_fld (pv 0) (pe_tup (StX.pa_star (pe_fld (pv 0) (by rfl)) (pa_cons (pe_callTy call_tuple_of (by rfl) B.tup boot_tuple (pa_cons (pe_slice sl_list (pv 2) (po_some pe_int) po_none) pa_nil)) pa_nil))) (by rfl))
          (pss_one (ps_ret pe_bl)))) pss_nil)
        (pss_one (ps_ret pe_bl)), fun H1 s1 hn => ?_⟩
      have A1 := hA.same s1
      obtain ⟨dx1, e1⟩ := A1.ex
      obtain ⟨qs, eo, lo, fo⟩ := id A1.op
      have hn2 : (decide (n ≤ 21) && (decide (ops.length = 0) && metB ws ps)) = false := by simpa using hn
      refine ⟨_, rfl, p, C, dx1, _, _, rfl, e1, Z.cls, Z.nOpens, rfl, o, _, rfl, .inr (SqT.of eo), _, _, rfl, rfl, _, rfl, ite2 (fun h4 => ?_) (fun h4 => ?_)⟩
      · have h4 := of_decide_eq_true h4
        rw [List.length_map] at h4
        refine ⟨_, rfl, _, rfl, p, C, dx1, _, _, rfl, e1, Z.cls, Z.nPeople, rfl, _, rfl, p, C, dx1, _, _, rfl, e1, Z.cls, Z.nTold, rfl, l, pp, d, ws, ps, T, rfl, s1.seq hL, h0, by omega, SqT.of A1.pe, A1.t, fun H2 s2 => ?_⟩
        have s12 := s1.trans s2
        refine ⟨_, rfl, ite2 (fun ho => ?_) (fun ho => ?_)⟩
        · have A2 := hA.same s12
          obtain ⟨dx2, e2⟩ := A2.ex
          refine ⟨_, rfl, p, dx2, _, rfl, e2, rfl, _, rfl, _, rfl, l, _, rfl, s12.seq hL, fun n1 hn1 => ?_⟩
          have s3 := s12.trans (same_new (o := .lst (cutV (ws.map V.str) (some 1) none)) hn1)
          refine ⟨p, n1, d, ws.drop 1, "open", T, rfl, (hA.same s3).told, SqL.of (by rw [upd_same, hcut]), hlen, fun H4 b4 e4 => ?_⟩
          have A4 := (hA.same s3).on b4 e4
          obtain ⟨dx4, e4p⟩ := A4.ex
          obtain ⟨qs4, eo4, lo4, fo4⟩ := id A4.op
          have hL4 : SqL K H4 l (ws.map V.str) := b4.seqL (s3.seq hL) (nrd_t ((hA.same s3).t) (fun _ z => by cases z) (fun _ _ z => by cases z))
          refine ⟨_, rfl, p, C, dx4, _, _, rfl, e4p, Z.cls, Z.nOpens, rfl, o, _, rfl, .inl (SqT.of eo4), _, rfl, _, rfl, l, _, rfl, hL4, fun n5 hn5 => ?_⟩
          have s5 := same_new (o := .lst (cutV (ws.map V.str) (some 1) none)) hn5
          refine ⟨n5, _, rfl, .inl ⟨SqL.of upd_same, fun q hq => ?_⟩⟩
          have s6 := s5.trans (same_new (o := .tup (cutV (ws.map V.str) (some 1) none)) hq)
          refine ⟨?_, fun o' ho' => ?_⟩
          · rw [sizeLine_eq]
            show (qs4.map V.ref ++ [V.ref q]).length ≤ _
            rw [List.length_append, List.length_map, lo4]
            show ops.length + 1 ≤ _
            omega
          have s7 := s6.trans (same_new (o := .tup (qs4.map V.ref ++ [V.ref q])) ho')
          have A7 := A4.same s7
          have hwo : ∀ y ∈ ws.drop 1, PyData.strOk y = true := by
            unfold openB at ho
            simp only [Bool.and_eq_true] at ho
            exact amongOk ho.2.2.1 hps
          have hO : OpsAt K (L2.upd (L2.upd (L2.upd H4 n5 (.lst (cutV (ws.map V.str) (some 1) none))) q (.tup (cutV (ws.map V.str) (some 1) none))) o' (.tup (qs4.map V.ref ++ [V.ref q]))) o' (ops ++ [ws.drop 1]) :=
            A4.op.snoc (q := q) s7 eo4 upd_same (by rw [← hcut]; exact (same_new ho') _ _ upd_same)
          refine ⟨_, rfl, p, C, dx4, _, rfl, s7 _ _ e4p, Z.cls, Z.nOpens, (show 4 < 1000 by decide), ?_⟩
          refine qS _ _ (by unfold MX.stepT; rw [hn2, if_neg (by simp), if_pos (by simp [show ops.length < 4 by omega, ho])]) _ o' ?_ (A7.opened hO (fun op hop => ?_) rfl)
          · have b7 : But [p, d] H (L2.upd (L2.upd (L2.upd H4 n5 (.lst (cutV (ws.map V.str) (some 1) none))) q (.tup (cutV (ws.map V.str) (some 1) none))) o' (.tup (qs4.map V.ref ++ [V.ref q]))) :=
              ((But.of s3).trans (b4.mono fun a ha => by rw [List.mem_singleton.mp ha]; simp)).trans (But.of s7)
            exact b7.up (by simp)
          · rcases List.mem_append.mp hop with hop | hop
            · exact hA.ok op hop
            · rw [List.mem_singleton.mp hop]
              exact hwo
        · refine qN ?_ H2 s12
          unfold MX.stepT
          rw [hn2, if_neg (by simp), if_neg (by simp [ho])]
      · refine qN ?_ H1 s1
        have h4 : ¬ ops.length < 4 := fun z => h4 (decide_eq_true (by rw [List.length_map]; omega))
        unfold MX.stepT
        rw [hn2, if_neg (by simp), if_neg (by simp [h4])]
    refine ⟨_, PSs.nox (pss_cons (ps_if (PW.pt (pw_and (pt_cmpR op_le (pv 1) (pe_op op_add pe_int (pe_glob (v := .int 20) rfl gMet ⟨_, rfl⟩)) (nomark _))
        (pw_and (pt_cmpR (op_eqD hu) (pe_fld (pv 0) (by rfl)) (pe_tup pa_nil) (nomark _))
        (pw_and1 (pt_val (pe_call GM hr rfl gM FM.kp bM .nil pass0 (pa_cons (pv 2) (pa_cons (pe_fld (pv 0) (by rfl)) pa_nil))))))))
        (pss_cons (ps_expr (pe_meth (pv 0) Z.cls Z.mTell GT hr1 bT .nil pass0 (pa_cons (pe_slice sl_list (pv 2) (po_some pe_int) po_none) (pa_cons pe_str pa_nil))))
          (pss_one (ps_ret pe_bl))) pss_nil) h2), ?_⟩
    refine ⟨_, rfl, _, _, rfl, rfl, _, _, rfl, rfl, _, rfl, ite2 (fun hn => ?_) (fun hn => ?_)⟩
    · have hn : n ≤ 21 := by have := of_decide_eq_true hn; omega
      refine ⟨_, rfl, p, C, dx, _, _, rfl, e0, Z.cls, Z.nOpens, rfl, Nat.zero_le _, fun t0 ht0 => ?_⟩
      have s0 := same_new (o := .tup []) ht0
      have A0 := hA.same s0
      refine ⟨_, _, A0.op.dp, .tup (SqT.of upd_same) .nil, shOps hA.ok, (by decide +kernel), ?_⟩
      rw [eqv_nil, List.length_map]
      refine ⟨_, rfl, ite2 (fun hz => ?_) (fun hz => ?_)⟩
      · have hz := of_decide_eq_true hz
        obtain ⟨dx0, e00⟩ := A0.ex
        refine ⟨_, rfl, _, rfl, p, C, dx0, _, _, rfl, e00, Z.cls, Z.nPeople, rfl, l, pp, ws, ps, rfl, s0.seq hL, h0, by omega, SqT.of A0.pe, fun H1 s1 => ?_⟩
        have s01 := s0.trans s1
        refine ⟨_, rfl, ite2 (fun hm => ?_) (fun hm => ?_)⟩
        · have A1 := hA.same s01
          obtain ⟨dx1, e1⟩ := A1.ex
          refine ⟨_, rfl, p, dx1, _, rfl, e1, rfl, _, rfl, _, rfl, l, _, rfl, s01.seq hL, fun n1 hn1 => ?_⟩
          have s2 := s01.trans (same_new (o := .lst (cutV (ws.map V.str) (some 1) none)) hn1)
          refine ⟨p, n1, d, ws.drop 1, "met", T, rfl, (hA.same s2).told, SqL.of (by rw [upd_same, hcut]), hlen, fun H2 b2 e2 => ?_⟩
          refine qS _ _ (by unfold MX.stepT; rw [if_pos (by simp [hn, hz, hm])]) H2 o ((But.of s2).trans (b2.mono fun a ha => by rw [List.mem_singleton.mp ha]; simp)) ((hA.same s2).on b2 ?_)
          have hops : ops = [] := List.length_eq_zero_iff.mp hz
          exact e2
        · exact k2 H1 s01 (by simp [hm])
      · exact k2 _ s0 (by simp [of_decide_eq_false (by simpa using hz)])
    · exact k2 H (Same.refl H) (by simp [show ¬ n ≤ 21 from fun z => hn (decide_eq_true (by omega))])

end
end K03

set_option Elab.async false
set_option linter.all false
set_option maxRecDepth 100000
set_option maxHeartbeats 4000000
namespace K03
open PySem PySem.Spec PySem.W PySem.Calls PyProof.Rows L2 MX
section
variable {P : Program} {w : World} {K : PySem.W.Frag} {mg : Str → Option Value} {base : Heap} {f C fT fK : Addr} {fd : FuncData}
theorem scE : FnScope ["self", "value"] ["self", "value"] (defScope sErr) := ⟨rfl, rfl, rfl, by decide +kernel, rfl, by decide +kernel, by decide +kernel⟩
theorem ok_err (F : FnM K "__init__" "MeetError.__init__" sErr f fd) : FnOk P w K mg base CX0 1 f fd ["self", "value"] (spErr K) := by
  refine F.ok scE (fun vs H Q E h => ?_) (fun cdv A outer s H vs Q E hr h => ?_)
  · obtain ⟨a, C, fI, v, rfl, _⟩ := h; rfl
  · obtain ⟨a, C, fI, v, rfl, T, ea, k⟩ := h
    exact ⟨_, PSs.nox (pss_one (ps_ost (pv 0) (pv 1))), _, rfl, _, rfl, a, C, rfl, T.oex, T.nv, .inl ⟨ea, fun dx n ne => k dx n ne⟩⟩
theorem scInit : FnScope ["self", "text", "lines", "number", "words", "line"] ["self", "text"] (defScope sInit) := ⟨rfl, rfl, rfl, by decide +kernel, rfl, by decide +kernel, by decide +kernel⟩
/-- what the defs of halls find -/
structure HallF (K : PySem.W.Frag) (mg : Str → Option Value) (C cB fE fT fK fN fU fA fP fM fO : Addr) (fdE fdT fdK fdN fdU fdA fdP fdM fdO : FuncData) : Prop where
  B : Blt mg
  Z : HallC K C fT fK
  Er : FnM K "__init__" "MeetError.__init__" sErr fE fdE
  Te : FnM K "_tell" "Hall._tell" sTell fT fdT
  Ks : FnM K "_takes" "Hall._takes" sTakes fK fdK
  Na : FnP K "is_name" sIsName fN fdN
  Un : FnP K "are_unlike" sUnlike fU fdU
  Am : FnP K "are_among" sAmong fA fdA
  Pe : FnP K "is_people_line" sPeople fP fdP
  Me : FnP K "is_met_line" sMet fM fdM
  Op : FnP K "is_open_line" sOpen fO fdO
  gN : mg "is_name" = some (.ref fN)
  gU : mg "are_unlike" = some (.ref fU)
  gA : mg "are_among" = some (.ref fA)
  gP : mg "is_people_line" = some (.ref fP)
  gM : mg "is_met_line" = some (.ref fM)
  gO : mg "is_open_line" = some (.ref fO)
  gB : mg "BadHall" = some (.ref cB)
  tB : ExcT K cB fE
theorem ok_hall {cB fE fN fU fA fP fM fO : Addr} {fdE fdT fdK fdN fdU fdA fdP fdM fdO : FuncData} (F : FnM K "__init__" "Hall.__init__" sInit f fd) (G : HallF K mg C cB fE fT fK fN fU fA fP fM fO fdE fdT fdK fdN fdU fdA fdP fdM fdO) :
    FnOk P w K mg base (L2.CX P w) 5 f fd ["self", "text"] (spInit K C cB) := by
  obtain ⟨B, Z, FE, FT, FK, FN, FU, FA, FP, FM, FO, gN, gU, gA, gP, gM, gO, gB, tB⟩ := G
  have GE : FnOk P w K mg base CX0 1 fE fdE ["self", "value"] (spErr K) := ok_err FE
  have bE : Binds K fdE ["self", "value"] [] := FE.bindsN fun _ _ _ _ _ _ us hl => match us, hl with | [_, _], _ => rfl
  have GP : FnOk P w K mg base CX0 2 fP fdP ["words"] (spPeople K) := ok_people FP B FU gU FN gN
  have bP : Binds K fdP ["words"] [] := FP.bindsN fun _ _ _ _ _ _ us hl => match us, hl with | [_], _ => rfl
  have GK : FnOk P w K mg base CX0 4 fK fdK ["self", "number", "words"] (spTakes K C) := ok_takes FK Z B FT FM gM FO gO FU gU FA gA
  have bK : Binds K fdK ["self", "number", "words"] [] := FK.bindsN fun _ _ _ _ _ _ us hl => match us, hl with | [_, _, _], _ => rfl
  refine F.ok (CX := L2.CX P w) scInit (fun vs H Q E h => ?_) (fun cdv A outer s H vs Q E hr h => ?_)
  · obtain ⟨p, dx, vt, rfl, _⟩ := h
    rfl
  · obtain ⟨p, dx, vt, rfl, e0, hc⟩ := h
    have hr2 := hr.mono (show 2 ≤ 4 by decide)
    refine ⟨_, pss_cons (ps_if (pt_not (pt_val (pe_callB call_isi (by rfl) B.isi (by decide +kernel) (pa_cons (pv 1) (pa_cons (pe_bltn (v := .ty "str") (by rfl) B.str PyProof.Rows.Boot.«str» rfl) pa_nil)))))
        (pss_one (ps_raise rfl (takes_of rfl rfl rfl rfl) (pmk_oex tB.oex tB.ic tB.ti GE hr2 bE .nil pass0 (by rfl) gB (pa_cons pe_int pa_nil)))) pss_nil)
      (pss_cons (ps_setLc (i := 2) (own := [("line", 5)]) (g := gName 5) (tt := tYes) rfl scInit.nd rfl rfl (sw_true rfl rfl rfl (by decide +kernel)) (pi_list (pe_split (pv 1) pe_str)) (blkOk_by (N := ["self", "text", "lines", "number", "words", "line"]) (sc := defScope sInit) (by decide +kernel))
        (fun _ _ _ _ _ => pg_name (i := 5) scInit.nd rfl (Or.inl rfl)) (fun _ _ _ _ _ => pts_nil) (fun _ _ _ _ _ => pe_split (pv 5) pe_str))
      (pss_cons (ps_if (pt_not (pt_val (pe_call GP hr2 rfl gP FP.kp bP .nil pass0 (pa_cons (pe_ix ix_list (pv 2) pe_int (fun _ _ => rfl)) pa_nil))))
        (pss_one (ps_raise rfl (takes_of rfl rfl rfl rfl) (pmk_oex tB.oex tB.ic tB.ti GE hr2 bE .nil pass0 (by rfl) gB (pa_cons pe_int pa_nil)))) pss_nil)
      (pss_cons (ps_fld (pv 0) (pv 1) (by rfl))
      (pss_cons (ps_fld (pv 0) (pe_callTy call_tuple_of (by rfl) B.tup boot_tuple (pa_cons (pe_slice sl_list (pe_ix ix_list (pv 2) pe_int (fun _ _ => rfl)) (po_some pe_int) po_none) pa_nil)) (by rfl))
      (pss_cons (ps_fld (pv 0) (pe_tup pa_nil) (by rfl))
      (pss_cons (ps_fld (pv 0) pe_dnewT (by rfl))
      (pss_one (ps_for (passes_of rfl) rfl (pi_enumS (by rfl) B.enum (pa_cons (pe_slice sl_list (pv 2) (po_some pe_int) po_none) pa_nil) (pk_cons pe_int pk_nil)) (pg_tup rfl (pgs_cons (pg_name (i := 3) scInit.nd rfl (Or.inl rfl)) (pgs_cons (pg_name (i := 4) scInit.nd rfl (Or.inl rfl)) pgs_nil)))
        (pss_one (ps_if (pt_not (pt_val (pe_meth (pv 0) Z.cls Z.mTakes GK hr bK .nil pass0 (pa_cons (pv 3) (pa_cons (pv 4) pa_nil)))))
          (pss_one (ps_raise rfl (takes_of rfl rfl rfl rfl) (pmk_oex tB.oex tB.ic tB.ti GE hr2 bE .nil pass0 (by rfl) gB (pa_cons (pv 3) pa_nil)))) pss_nil)))))))))), ?_⟩
    rcases hc with ⟨t, ty, hk, ke⟩ | ⟨x, rfl, tx, kE, kO⟩
    · exact ⟨_, rfl, vt, _, t, _, false, rfl, .ty _, ty, hk, _, rfl, iteT (mkO_ok tB fun dd hdd => ke dd hdd)⟩
    · obtain ⟨w0, rest, hw⟩ : ∃ w0 rest, hallLines x = w0 :: rest := by
        have z := tx.one
        cases q : hallLines x with
        | nil => rw [q] at z; exact absurd z (Nat.lt_irrefl 0)
        | cons a b => exact ⟨a, b, rfl⟩
      have hpo : peopleOf x = w0.drop 1 := by unfold peopleOf; rw [hw]; rfl
      have hpar : parseH x = if peopleB w0 = true then runT (w0.drop 1) 2 rest ([], []) else .inl 1 := by unfold parseH; rw [hw]
      have hfew := tx.few
      rw [hw] at hfew
      have hw0 := tx.ws w0 (by rw [hw]; exact List.mem_cons_self)
      refine ⟨_, rfl, .str x, _, .type "str", _, true, rfl, .ty _, .base (.str x), rfl, _, rfl, iteF ?_⟩
      have hsl : (hallLines x).length = (Txt.split x "\n").length := by unfold hallLines; rw [List.length_map]
      refine ⟨_, rfl, ⟨_, rfl⟩, _, _, rfl, rfl, rfl, (by rw [sizeLine_eq]; have := tx.len; omega), fun l0 hl0 => ⟨l0, rfl, ⟨_, SqL.of upd_same⟩, fun D nD => lc_list (xs := (Txt.split x "\n").map V.str) (fun i H' => Same (L2.upd H l0 (.lst ((Txt.split x "\n").map V.str))) H' ∧ LinesAt H' D ((hallLines x).take i))
        ⟨same_new nD, LinesAt.nil upd_same⟩ (fun i H' _ z => SqL.of (z.1 _ _ upd_same)) ?_ ?_⟩⟩
      · rintro i y H' hy ⟨s1, hl1⟩
        rw [List.getElem?_map] at hy
        obtain ⟨ln, hx, rfl⟩ := Option.map_eq_some_iff.mp hy
        have hm : (hallLines x)[i]? = some (Txt.split ln " ") := by unfold hallLines; rw [List.getElem?_map, hx]; rfl
        obtain ⟨qs, eq1, lq, fq⟩ := id hl1
        refine ⟨rfl, _, rfl, ⟨_, rfl⟩, _, _, rfl, rfl, rfl, (by rw [sizeLine_eq]; have := tx.sh ln (List.mem_of_getElem? hx); omega), fun q hq => ⟨_, (same_new hq) _ _ eq1, ?_, ?_, ?_⟩⟩
        · rw [List.length_map, lq, List.length_take, sizeLine_eq]
          have := tx.few
          omega
        · intro b o hb
          have z := s1 b o hb
          have nb : b ≠ D := ne_of_none hb nD
          rw [upd_ne nb]
          exact (same_new hq) _ _ z
        · have nqD : q ≠ D := fun z => by rw [z, eq1] at hq; cases hq
          rw [take_snocE hm]
          exact hl1.snoc eq1 ((But.of (same_new hq)).up (List.mem_singleton.mpr rfl)) upd_same (by rw [upd_ne nqD, upd_same])
      · rintro H2 ⟨s2, hL⟩
        rw [List.length_map, ← hsl, List.take_length, hw] at hL
        have sH2 : Same H H2 := (same_new hl0).trans s2
        obtain ⟨qs, eD, lq, fq⟩ := id hL
        obtain ⟨q0, qr, rfl⟩ : ∃ q0 qr, qs = q0 :: qr := by
          cases qs with
          | nil => cases lq
          | cons a b => exact ⟨a, b, rfl⟩
        have f0 := fq 0 q0 w0 rfl rfl
        have bs0 : ∀ b o, H b = some o → b ≠ D := fun b o z => ne_of_none ((same_new hl0) b o z) nD
        refine ⟨_, rfl, D, _, _, V.ref q0, rfl, rfl, SqL.of eD, atI_nat (j := 0) (by rfl), q0, w0, rfl, SqL.of f0, hw0.1, (by have := hw0.2.1; omega), hw0.2.2, fun H3 s3 => ⟨_, rfl, ?_⟩⟩
        have sH3 := sH2.trans s3
        cases hp : peopleB w0 with
        | false =>
          rw [hp, if_neg (by simp)] at hpar
          exact iteT (mkO_ok tB fun dd hdd => kE 1 hpar H3 dd (But.of sH3) hdd)
        | true =>
          rw [hp, if_pos rfl] at hpar
          refine iteF ?_
          have e3 := sH3 _ _ e0
          have L3 : LinesAt H3 D (w0 :: rest) := hL.same s3
          have np : ∀ {H' : Hp} {fs}, H' p = some (.ins C dx fs) → ∀ a ∈ [p], ∀ xs, H' a ≠ some (.lst xs) := fun e a ha xs z => by
            rw [List.mem_singleton.mp ha, e] at z
            cases z
          -- text
          refine ⟨_, rfl, _, rfl, p, C, dx, _, rfl, e3, Z.cls, Z.nText, (show 0 < 1000 by decide), ?_⟩
          obtain ⟨H4, hH4⟩ : ∃ H4, H4 = L2.upd H3 p (.ins C dx [("text", .str x)]) := ⟨_, rfl⟩
          show tSeq _ _ _ _ (L2.upd H3 p (.ins C dx [("text", .str x)]))
          rw [← hH4]
          have e4 : H4 p = some (.ins C dx [("text", .str x)]) := by rw [hH4, upd_same]
          have b34 : But [p] H3 H4 := by rw [hH4]; exact But.refl.up (List.mem_singleton.mpr rfl)
          have b4 : But [p] H H4 := (But.of sH3).trans b34
          have eD4 := b34 _ _ (s3 _ _ eD) (by intro z; rw [List.mem_singleton.mp z] at eD; have := s3 _ _ eD; rw [e3] at this; cases this)
          have f04 := b34 _ _ (s3 _ _ f0) (by intro z; rw [List.mem_singleton.mp z] at f0; have := s3 _ _ f0; rw [e3] at this; cases this)
          have L4 : LinesAt H4 D (w0 :: rest) := L3.but b34 (np e3)
          clear hH4
          -- people
          refine ⟨_, rfl, D, _, _, V.ref q0, rfl, rfl, SqL.of eD4, atI_nat (j := 0) (by rfl), _, rfl, q0, _, rfl, SqL.of f04, fun n5 hn5 => ⟨n5, _, rfl, .inl ⟨SqL.of upd_same, fun pp hpp => ?_⟩⟩⟩
          have s5 := (same_new (o := .lst (cutV (w0.map V.str) (some 1) none)) hn5).trans (same_new (o := .tup (cutV (w0.map V.str) (some 1) none)) hpp)
          obtain ⟨H5, hH5⟩ : ∃ H5, H5 = L2.upd (L2.upd H4 n5 (.lst (cutV (w0.map V.str) (some 1) none))) pp (.tup (cutV (w0.map V.str) (some 1) none)) := ⟨_, rfl⟩
          have epp5 : H5 pp = some (.tup ((w0.drop 1).map V.str)) := by rw [hH5, upd_same, cut1]
          rw [← hH5] at s5 ⊢
          clear hH5
          have e5 := s5 _ _ e4
          refine ⟨_, rfl, p, C, dx, _, rfl, e5, Z.cls, Z.nPeople, (show 1 < 1000 by decide), ?_⟩
          obtain ⟨H6, hH6⟩ : ∃ H6, H6 = L2.upd H5 p (.ins C dx [("text", .str x), ("people", .ref pp)]) := ⟨_, rfl⟩
          show tSeq _ _ _ _ (L2.upd H5 p (.ins C dx [("text", .str x), ("people", .ref pp)]))
          rw [← hH6]
          have e6 : H6 p = some (.ins C dx [("text", .str x), ("people", .ref pp)]) := by rw [hH6, upd_same]
          have b56 : But [p] H5 H6 := by rw [hH6]; exact But.refl.up (List.mem_singleton.mpr rfl)
          have b6 : But [p] H H6 := (b4.trans (But.of s5)).trans b56
          have L6 : LinesAt H6 D (w0 :: rest) := (L4.same s5).but b56 (np e5)
          have epp6 := b56 _ _ epp5 (by intro z; rw [List.mem_singleton.mp z, e5] at epp5; cases epp5)
          clear hH6
          -- opens
          refine ⟨Nat.zero_le _, fun o ho => ?_⟩
          have s7 := same_new (o := .tup []) ho
          refine ⟨_, rfl, p, C, dx, _, rfl, s7 _ _ e6, Z.cls, Z.nOpens, (show 2 < 1000 by decide), ?_⟩
          obtain ⟨H7, hH7⟩ : ∃ H7, H7 = L2.upd (L2.upd H6 o (.tup [])) p (.ins C dx [("text", .str x), ("people", .ref pp), ("opens", .ref o)]) := ⟨_, rfl⟩
          show tSeq _ _ _ _ (L2.upd (L2.upd H6 o (.tup [])) p (.ins C dx [("text", .str x), ("people", .ref pp), ("opens", .ref o)]))
          rw [← hH7]
          have nop : o ≠ p := fun z => by rw [z, e6] at ho; cases ho
          have e7 : H7 p = some (.ins C dx [("text", .str x), ("people", .ref pp), ("opens", .ref o)]) := by rw [hH7, upd_same]
          have eo7 : H7 o = some (.tup []) := by rw [hH7, upd_ne nop, upd_same]
          have b67 : But [p] H6 H7 := by rw [hH7]; exact (But.of s7).up (List.mem_singleton.mpr rfl)
          have L7 : LinesAt H7 D (w0 :: rest) := L6.but b67 (np e6)
          have epp7 := b67 _ _ epp6 (by intro z; rw [List.mem_singleton.mp z, e6] at epp6; cases epp6)
          have b7 := b6.trans b67
          clear hH7 s7
          -- told
          intro d hd
          have s8 := same_new (o := .dT []) hd
          refine ⟨_, rfl, p, C, dx, _, rfl, s8 _ _ e7, Z.cls, Z.nTold, (show 3 < 1000 by decide), ?_⟩
          obtain ⟨H8, hH8⟩ : ∃ H8, H8 = L2.upd (L2.upd H7 d (.dT [])) p (.ins C dx (fsH x pp o d)) := ⟨_, rfl⟩
          have hput : putF "_told" (V.ref d) [("text", V.str x), ("people", V.ref pp), ("opens", V.ref o)] = fsH x pp o d := rfl
          rw [hput, ← hH8]
          have ndp : d ≠ p := fun z => by rw [z, e7] at hd; cases hd
          have e8 : H8 p = some (.ins C dx (fsH x pp o d)) := by rw [hH8, upd_same]
          have ed8 : H8 d = some (.dT []) := by rw [hH8, upd_ne ndp, upd_same]
          have b78 : But [p] H7 H8 := by rw [hH8]; exact (But.of s8).up (List.mem_singleton.mpr rfl)
          have L8 : LinesAt H8 D (w0 :: rest) := L7.but b78 (np e7)
          have epp8 := b78 _ _ epp7 (by intro z; rw [List.mem_singleton.mp z, e7] at epp7; cases epp7)
          have eo8 := b78 _ _ eo7 (by simpa using nop)
          have b8 := b7.trans b78
          have nd : ∀ b ob, H b = some ob → b ∉ [p] → b ≠ d := fun b ob z n => ne_of_none (b7 b ob z n) hd
          have A8 : HallAt K H8 C p x pp o d (w0.drop 1) [] [] := ⟨⟨dx, e8⟩, epp8, ⟨[], eo8, rfl, fun i q op h1 _ => by simp at h1⟩, ed8, fun op z => by cases z⟩
          clear hH8 s8
          obtain ⟨qs8, eD8, lq8, fq8⟩ := id L8
          obtain ⟨q8, qr8, rfl⟩ : ∃ q0 qr, qs8 = q0 :: qr := by
            cases qs8 with
            | nil => cases lq8
            | cons a b => exact ⟨a, b, rfl⟩
          have lr : qr8.length = rest.length := by simpa using lq8
          have hps : ∀ y ∈ w0.drop 1, PyData.strOk y = true := by
            unfold peopleB at hp
            simp only [Bool.and_eq_true] at hp
            exact fun y hy => nameOk (List.all_eq_true.mp hp.2.2.2.2 y hy)
          refine ⟨_, rfl, _, rfl, D, _, rfl, SqL.of eD8, fun n9 hn9 => ?_⟩
          have s9 := same_new (o := .lst (cutV ((q8 :: qr8).map V.ref) (some 1) none)) hn9
          obtain ⟨H9, hH9⟩ : ∃ H9, H9 = L2.upd H8 n9 (.lst (cutV ((q8 :: qr8).map V.ref) (some 1) none)) := ⟨_, rfl⟩
          have en9 : H9 n9 = some (.lst (qr8.map V.ref)) := by rw [hH9, upd_same, cut1G]; rfl
          rw [← hH9] at s9 ⊢
          clear hH9
          have A9 := A8.same s9
          obtain ⟨dx9, e9⟩ := id A9.ex
          have keepL : ∀ H', But [p, d] H9 H' → ∀ b xs, H9 b = some (.lst xs) → H' b = some (.lst xs) := fun H' s b xs z => s b _ z (by
            intro m
            rcases List.mem_cons.mp m with m | m
            · rw [m, e9] at z; cases z
            · rw [List.mem_singleton.mp m, A9.t] at z; cases z)
          have fq9 : ∀ (i : Nat) (q : Addr) (ws : List Str), qr8[i]? = some q → rest[i]? = some ws → H9 q = some (.lst (ws.map V.str)) := fun i q ws h1 h2 => s9 _ _ (fq8 (i + 1) q ws (by simpa using h1) (by simpa using h2))
          have back : ∀ H', But [p, d] H9 H' → But [p] H H' := fun H' s b ob z n => s b ob (s9 _ _ (b8 b ob z n)) (by
            intro m
            rcases List.mem_cons.mp m with m | m
            · exact n (by simp [m])
            · exact nd b ob z n (List.mem_singleton.mp m))
          refine ⟨n9, qr8.map V.ref, 2, rfl, rfl, by decide, by decide, SqL.of en9, for_it walk_enumS (fun i σ H' => ∃ u3 u4 u5 ops T o', σ = [some (.ref p), some (.str x), some (.ref D), u3, u4, u5] ∧ But [p, d] H9 H' ∧ HallAt K H' C p x pp o' d (w0.drop 1) ops T ∧ ops.length ≤ i ∧ T.length ≤ i * 10000 ∧
              runT (w0.drop 1) (2 + i) (rest.drop i) (ops, T) = parseH x) ⟨_, _, _, [], [], o, rfl, But.refl, A9, Nat.le_refl _, Nat.zero_le _, hpar.symm⟩ (fun i σ H' _ ⟨_, _, _, _, _, _, _, b, _⟩ => SqL.of (keepL H' b _ _ en9)) ?_ ?_⟩
          · rintro i y σ H' H'' hi ⟨u3, u4, u5, ops, T, o', rfl, b9, A', lo, lt, hrun⟩ ⟨Tt, a1, a2, rfl, hT, rfl, e1, e2⟩
            have ea : a1 = V.int ((2 + i : Nat) : Int) := by
              have z := Option.some.inj e1
              rw [← z]
              simp
            subst ea
            rw [List.length_map] at hi
            have hi2 : i < rest.length := by omega
            obtain ⟨q, hq⟩ : ∃ q, qr8[i]? = some q := ⟨qr8[i], List.getElem?_eq_getElem hi⟩
            obtain ⟨ws, hws⟩ : ∃ ws, rest[i]? = some ws := ⟨rest[i], List.getElem?_eq_getElem hi2⟩
            have e2' : (qr8.map V.ref)[i]? = some a2 := e2
            rw [List.getElem?_map, hq] at e2'
            obtain rfl : V.ref q = a2 := Option.some.inj e2'
            have hmem : ws ∈ hallLines x := by rw [hw]; exact List.mem_cons_of_mem _ (List.mem_of_getElem? hws)
            have tw := tx.ws ws hmem
            have sT := same_new (o := .tup [V.int ((2 + i : Nat) : Int), V.ref q]) hT
            have AT := A'.same sT
            obtain ⟨dxT, eT⟩ := id AT.ex
            have edrop : rest.drop i = ws :: rest.drop (i + 1) := by
              rw [List.drop_eq_getElem_cons hi2]
              rw [List.getElem?_eq_getElem hi2] at hws
              rw [Option.some.inj hws]
            rw [edrop] at hrun
            have hrun2 : (match MX.stepT (w0.drop 1) (2 + i) ws (ops, T) with
              | none => Sum.inl (2 + i)
              | some ot' => runT (w0.drop 1) (2 + i + 1) (rest.drop (i + 1)) ot') = parseH x := hrun
            have bT : But [p, d] H9 (L2.upd H' Tt (.tup [V.int ((2 + i : Nat) : Int), V.ref q])) := b9.trans (But.of sT)
            have hfew' : i < 500 := by
              have z : (w0 :: rest).length ≤ 500 := hfew
              rw [List.length_cons] at z
              omega
            refine ⟨Tt, _, rfl, SqT.of upd_same, rfl, _, _, rfl, _, _, rfl, rfl, ?_⟩
            refine ⟨_, rfl, p, dxT, _, rfl, eT, rfl, _, rfl, _, rfl, p, q, pp, o', d, 2 + i, x, ws, w0.drop 1, ops, T, rfl, AT, SqL.of (sT _ _ (keepL H' b9 _ _ (fq9 i q ws hq hws))), tw.1, tw.2.1, hps, by omega, by omega, fun hN H3' s3' => ?_, fun ops' T' hS H3' o3 b3 A3 => ?_⟩
            · rw [hN] at hrun2
              exact ⟨_, rfl, iteT ⟨_, rfl, mkO_ok tB fun dd hdd => kE (2 + i) hrun2.symm H3' dd (back H3' (bT.trans (But.of s3'))) hdd⟩⟩
            · rw [hS] at hrun2
              have hl' := step_len hS tw.2.1
              refine ⟨_, rfl, iteF ⟨_, _, _, ops', T', o3, rfl, bT.trans b3, A3, by omega, by omega, ?_⟩⟩
              rw [show 2 + (i + 1) = 2 + i + 1 by omega]
              exact hrun2
          · rintro σ H' ⟨u3, u4, u5, ops, T, o', rfl, b9, A', lo, lt, hrun⟩
            rw [List.length_map, lr, List.drop_length] at hrun
            refine kO ops T hrun.symm H' pp o' d (back H' b9) ?_
            rw [hpo]
            exact A'
end
end K03

set_option Elab.async false
set_option linter.all false
set_option maxRecDepth 100000
set_option maxHeartbeats 4000000
namespace K03
open PySem PySem.Spec PySem.W PySem.Calls PyProof.Rows L2 MX
abbrev sTold1 : Stmt := top 24
abbrev nTold : List Str := ["_law_look", "_law_caught", "_law_back", "error"]
theorem scTold1 : FnScope nTold ["_law_look"] (defScope sTold1) := ⟨rfl, rfl, rfl, by decide +kernel, rfl, by decide +kernel, by decide +kernel⟩
theorem told_gives {X : Cx} {q : Str} {g CM : Addr} {cdg : Value} (hm : X.mg "MeetError" = some (.ref CM)) : GivesK X nTold "_law_told" (defScope sTold1) g cdg (defBody sTold1) "_law_look" q (TKept X.K CM) := by
  intro f c' s H Q tl act hc h
  have hgl : Gl (gotCx X nTold "_law_told" (defScope sTold1) g cdg s H).nox "MeetError" := by rfl
  refine ⟨_, pss_cons (ps_asg (pe_tup (pa_cons pe_non (pa_cons pe_non pa_nil))) (pg_tup rfl (pgs_cons (pg_name (i := 1) scTold1.nd rfl (Or.inl rfl)) (pgs_cons (pg_name (i := 2) scTold1.nd rfl (Or.inl rfl)) pgs_nil))))
    (pss_cons (ps_try_kept (i := 3) (c := .ref CM) (tb := fun W D τ G => ∃ E : XK, (∀ cls d G', E cls d G' → W cls d τ G') ∧ τ[0]? = some (some (.ref f)) ∧ G c' = some (LamX.CodeO c' q) ∧ tl E G (fun v G' => D.nx (τ.set 2 (some v)) G'))
        rfl rfl rfl scTold1.nd rfl rfl ⟨hgl, by decide, .inl hm⟩ LamX.takes0 (fun W pn xe tk _ => ?_) (fun a oe cls d pn _ _ => pss_one (ps_set (i := 1) scTold1.nd rfl (Or.inl rfl) (pv 3))))
      (pss_one (ps_ret (pe_tup (pa_cons (pv 1) (pa_cons (pv 2) pa_nil)))))), ?_⟩
  · have hp := act W pn xe
    refine ⟨fun pins z τ G D I w => ?_⟩
    exact (pss_one (ps_set (i := 2) scTold1.nd rfl (Or.inl rfl) (hp _ _ tk))).run pins z τ G D I w
  · refine ⟨(show 2 ≤ sizeLine by decide), fun z hz => ⟨z, _, rfl, SqT.of upd_same, rfl, _, _, rfl, _, _, rfl, rfl, ?_⟩⟩
    refine ⟨_, ?_, rfl, ?_, h f z hz⟩
    · rintro cls d G' ⟨b, e1, e2, e3⟩
      refine ⟨b, e1, fun hb a na => ⟨_, rfl, ?_⟩, fun hb => e3 hb⟩
      exact ⟨_, rfl, _, rfl, (show 2 ≤ sizeLine by decide), fun r hr => e2 hb a na r hr⟩
    · rw [upd_ne (ne_of_none hc hz)]
      exact hc
end K03

set_option Elab.async false
set_option linter.all false
set_option maxRecDepth 100000
set_option maxHeartbeats 4000000
namespace K03
open PySem PySem.Spec PySem.W PySem.Calls PyProof.Rows L2 MX
abbrev sRefused : Stmt := top 27
abbrev sLet : Stmt := top 28
theorem scRefused : FnScope ["_law_rows", "_law_number", "_law_caught"] ["_law_rows", "_law_number"] (defScope sRefused) := ⟨rfl, rfl, rfl, by decide +kernel, rfl, by decide +kernel, by decide +kernel⟩
theorem scLet : FnScope ["_law_rows", "_law_caught", "_law_hall"] ["_law_rows"] (defScope sLet) := ⟨rfl, rfl, rfl, by decide +kernel, rfl, by decide +kernel, by decide +kernel⟩
def qRef : Str := (envOfC "_law_is_refused" (defScope sRefused) 0 0 .none).qual ++ "<lambda>"
def qLet : Str := (envOfC "_law_is_let" (defScope sLet) 0 0 .none).qual ++ "<lambda>"
def rowsOk (rows : List Str) : Prop := (rows.map (·.length)).sum + rows.length * (("\n" : Str)).length ≤ 16777216 ∧ TextOk (Txt.join "\n" rows)
def spRefused (K : PySem.W.Frag) (T : List (Addr × Str)) : Sp := fun vs H Q _ => ∃ (l : Addr) (rows : List Str) (n : Nat), vs = [.ref l, .int (n : Int)] ∧ SqL K H l (rows.map V.str) ∧ LamX.Tabs T H ∧ rowsOk rows ∧ Shows (.int (n : Int)) ∧ parseH (Txt.join "\n" rows) = .inl n ∧
  ∀ H', LamX.ExtN H H' → LamX.Tabs T H' → Q (.bl true) H'
def jR (K : PySem.W.Frag) : V → List V → Hp → VK → Prop := fun v vs G W => ∃ sep l, ∃ parts : List Str, v = .str sep ∧ vs = [.ref l] ∧ (SqL K G l (parts.map V.str) ∨ SqT K G l (parts.map V.str)) ∧
  (parts.map (·.length)).sum + parts.length * sep.length ≤ 16777216 ∧ W (.str (Txt.join sep parts)) G
structure MadeF (K : PySem.W.Frag) (mg : Str → Option Value) (C cB CM fI fT : Addr) (fdI fdT : FuncData) : Prop where
  mkH : Mk K C fI
  gH : mg "Hall" = some (.ref C)
  I : FnM K "__init__" "Hall.__init__" sInit fI fdI
  gM : mg "MeetError" = some (.ref CM)
  ex : PySem.W.exmOne K (.ref cB) (.ref CM) = some true
  T : FnP K "_law_told" sTold1 fT fdT
  gT : mg "_law_told" = some (.ref fT)
  repr : mg "repr" = none
section
variable {P : Program} {w : World} {K : PySem.W.Frag} {mg : Str → Option Value} {base : Heap} {f C fT fK c B : Addr} {fd : FuncData} {T : List (Addr × Str)}
theorem ok_refused {cB fE fN fU fA fP fM fO CM fI fTo : Addr} {fdE fdT fdK fdN fdU fdA fdP fdM fdO fdI fdTo : FuncData} (F : FnP K "_law_is_refused" sRefused f fd) (G : HallF K mg C cB fE fT fK fN fU fA fP fM fO fdE fdT fdK fdN fdU fdA fdP fdM fdO)
    (M : MadeF K mg C cB CM fI fTo fdI fdTo) (hc : fd.code = .ref c) (TB : LamX.TabB base mg c B) (hmT : (B, qRef) ∈ T) (hu : ∀ p ∈ T, p.1 = B → p.2 = qRef) : FnG P w K mg base CX0 9 f fd ["_law_rows", "_law_number"] (spRefused K T) := by
  have GI : FnOk P w K mg base (L2.CX P w) 5 fI fdI ["self", "text"] (spInit K C cB) := ok_hall M.I G
  have bI : Binds K fdI ["self", "text"] [] := M.I.bindsN fun _ _ _ _ _ _ us hl => match us, hl with | [_, _], _ => rfl
  have bTo : Binds K fdTo ["_law_look"] [] := M.T.bindsN fun _ _ _ _ _ _ us hl => match us, hl with | [_], _ => rfl
  have B' := G.B
  have tB := G.tB
  refine okGC F scRefused (fun vs H Q E h => ?_) (fun cdv hcd A outer s H vs Q E hrg h => ?_)
  · obtain ⟨l, rows, n, rfl, _⟩ := h
    rfl
  · obtain ⟨l, rows, n, rfl, hL, hT, hok, hsn, hp, q⟩ := h
    have hr := hrg.r
    have huu := hr.units
    obtain rfl : cdv = .ref c := by rw [← hcd]; exact hc
    refine ⟨_, PSs.nox (pss_cons (ps_set (i := 2) scRefused.nd rfl (Or.inl rfl) (pe_ix ix_tup (pe_lamK (T := T) (k := 6) (t := fun E => tMake C (spInit K C cB) [] E (tCons (tM1 (jR K) (tC (.str "\n")) (tVar 0)) tNil)) (Ng := nTold) rfl M.gT M.T bTo scTold1 rfl (Or.inl rfl) (fun cdg => told_gives M.gM) TB rfl hmT hu hr (by exact LamX.lamS_by (sc := defScope sRefused) (by decide +kernel)) rfl (fun _ _ _ _ _ => rfl)
        (fun A' out z G' E' f' c' hr' => by
          refine pe_make M.mkH GI hr' rfl M.gH bI .nil (passes_call (takes_of rfl rfl rfl rfl) (fun _ _ _ _ h => h)) ?_
          exact pa_cons (pe_join pe_str (pe_var (i := 0) rfl (Or.inr (Or.inr rfl)) (by decide) (by decide))) pa_nil)) pe_int (fun _ _ => rfl)))
      (pss_one (ps_ret (pe_and (pe_callB call_isK (by rfl) B'.isi (by decide +kernel) (pa_cons (pv 2) (pa_cons (pe_glob rfl G.gB (show RelV (.ref _) (.ref _) from rfl)) pa_nil)))
        (pe_one (pe_cmpR op_eq (pe_callB (call_repr hrg.g huu) (by rfl) M.repr bootS_repr (pa_cons (pe_xk (pv 2)) pa_nil)) (pe_callB (call_repr hrg.g huu) (by rfl) M.repr bootS_repr (pa_cons (pv 1) pa_nil)) (nomark _))))))), ?_⟩
    refine ⟨hT, fun H1 x1 T1 f1 z hz => ?_⟩
    have hL1 : SqL K H1 l (rows.map V.str) := by
      rcases hL with (h | ⟨o, h⟩) | h
      · exact .inl (.inl (x1 _ _ h fun _ z => by cases z))
      · exact .inl (.inr ⟨o, x1 _ _ h fun _ z => by cases z⟩)
      · exact .inr h
    have s2 := same_new (o := .tup [.non, .non]) hz
    refine ⟨⟨_, rfl⟩, _, rfl, _, l, rows, rfl, rfl, .inl (s2.seq hL1), hok.1, fun x dx hx hdx hne => ⟨x, dx, _, rfl, upd_same, .inr ⟨_, rfl, hok.2, fun n' hn' H' dd b hdd => ?_, fun ops T' he => ?_⟩⟩⟩
    · obtain rfl : n = n' := Sum.inl.inj (hp.symm.trans hn')
      refine ⟨true, M.ex, fun _ a na r hr => ?_, fun h => by cases h⟩
      have s3 : Same H1 (L2.upd (L2.upd (L2.upd H1 z (.tup [.non, .non])) dx (.own x)) x (.ins C dx [])) := fun b o e => by
        have e2 := s2 _ _ e
        rw [upd_ne (ne_of_none e2 hx), upd_ne (ne_of_none e2 hdx)]
        exact e2
      have s4 : Same H1 H' := fun b' o e => b b' o (s3 b' o e) (by
        intro m
        have e2 := s2 _ _ e
        rw [List.mem_singleton.mp m, hx] at e2
        cases e2)
      have s5 := ((s4.trans (same_new (o := .xd [(("value" : Str), .int (n : Int))]) hdd)).trans (same_new (o := exk a (.ref cB) (some dd)) na))
      have s6 := s5.trans (same_new (o := .tup [.ref a, .non]) hr)
      have ea : (L2.upd (L2.upd (L2.upd H' dd (.xd [(("value" : Str), .int (n : Int))])) a (exk a (.ref cB) (some dd))) r (.tup [.ref a, .non])) a = some (exk a (.ref cB) (some dd)) := (same_new hr) _ _ upd_same
      have ed : (L2.upd (L2.upd (L2.upd H' dd (.xd [(("value" : Str), .int (n : Int))])) a (exk a (.ref cB) (some dd))) r (.tup [.ref a, .non])) dd = some (.xd [(("value" : Str), .int (n : Int))]) := (same_new hr) _ _ ((same_new na) _ _ upd_same)
      refine ⟨r, _, _, V.ref a, rfl, rfl, SqT.of upd_same, atI_nat (j := 0) (by rfl), ?_⟩
      refine ⟨_, rfl, a, cB, fE, dd, _, .ref cB, .ref cB, true, rfl, tB, ea, ed, (fun u r => r), (by unfold PySem.W.kitOne; simp), ?_⟩
      refine ⟨_, rfl, iteT ⟨_, rfl, a, cB, fE, dd, _, _, rfl, tB, tB.nv, ea, ed, rfl, _, _, rfl, .int _, hsn, _, rfl, _, _, rfl, .int _, hsn, rfl, ?_⟩⟩
      rw [decide_eq_true rfl]
      exact q _ (x1.trans (LamX.ExtN.of s6)) (T1.ext s6)
    · rw [he] at hp
      cases hp
def spLet (K : PySem.W.Frag) (T : List (Addr × Str)) : Sp := fun vs H Q _ => ∃ (l : Addr) (rows : List Str) (ot : Ops × MX.Tm), vs = [.ref l] ∧ SqL K H l (rows.map V.str) ∧ LamX.Tabs T H ∧ rowsOk rows ∧ parseH (Txt.join "\n" rows) = .inr ot ∧
  ∀ H', LamX.ExtN H H' → LamX.Tabs T H' → Q (.bl true) H'
theorem ok_let {cB fE fN fU fA fP fM fO CM fI fTo : Addr} {fdE fdT fdK fdN fdU fdA fdP fdM fdO fdI fdTo : FuncData} (F : FnP K "_law_is_let" sLet f fd) (G : HallF K mg C cB fE fT fK fN fU fA fP fM fO fdE fdT fdK fdN fdU fdA fdP fdM fdO)
    (M : MadeF K mg C cB CM fI fTo fdI fdTo) (hc : fd.code = .ref c) (TB : LamX.TabB base mg c B) (hmT : (B, qLet) ∈ T) (hu : ∀ p ∈ T, p.1 = B → p.2 = qLet) : FnG P w K mg base CX0 9 f fd ["_law_rows"] (spLet K T) := by
  have GI : FnOk P w K mg base (L2.CX P w) 5 fI fdI ["self", "text"] (spInit K C cB) := ok_hall M.I G
  have bI : Binds K fdI ["self", "text"] [] := M.I.bindsN fun _ _ _ _ _ _ us hl => match us, hl with | [_, _], _ => rfl
  have bTo : Binds K fdTo ["_law_look"] [] := M.T.bindsN fun _ _ _ _ _ _ us hl => match us, hl with | [_], _ => rfl
  have B' := G.B
  have tB := G.tB
  refine okGC F scLet (fun vs H Q E h => ?_) (fun cdv hcd A outer s H vs Q E hrg h => ?_)
  · obtain ⟨l, rows, ot, rfl, _⟩ := h
    rfl
  · obtain ⟨l, rows, ot, rfl, hL, hT, hok, hp, q⟩ := h
    have hr := hrg.r
    have huu := hr.units
    obtain rfl : cdv = .ref c := by rw [← hcd]; exact hc
    refine ⟨_, PSs.nox (pss_cons (ps_asg (pe_lamK (T := T) (k := 6) (t := fun E => tMake C (spInit K C cB) [] E (tCons (tM1 (jR K) (tC (.str "\n")) (tVar 0)) tNil)) (Ng := nTold) rfl M.gT M.T bTo scTold1 rfl (Or.inl rfl) (fun cdg => told_gives M.gM) TB rfl hmT hu hr (by exact LamX.lamS_by (sc := defScope sLet) (by decide +kernel)) rfl (fun _ _ _ _ _ => rfl)
        (fun A' out z G' E' f' c' hr' => by
          refine pe_make M.mkH GI hr' rfl M.gH bI .nil (passes_call (takes_of rfl rfl rfl rfl) (fun _ _ _ _ h => h)) ?_
          exact pa_cons (pe_join pe_str (pe_var (i := 0) rfl (Or.inr (Or.inr rfl)) (by decide) (by decide))) pa_nil)) (pg_tup rfl (pgs_cons (pg_name (i := 1) scLet.nd rfl (Or.inl rfl)) (pgs_cons (pg_name (i := 2) scLet.nd rfl (Or.inl rfl)) pgs_nil))))
      (pss_one (ps_ret (pe_and (pe_cmp (pc_isN (pv 1)) rfl)
        (pe_one (pe_cmpR op_eq (pe_fld (pv 2) (by rfl)) (pe_join pe_str (pv 0)) (nomark _))))))), ?_⟩
    refine ⟨hT, fun H1 x1 T1 f1 z hz => ?_⟩
    have hL1 : SqL K H1 l (rows.map V.str) := by
      rcases hL with (h | ⟨o, h⟩) | h
      · exact .inl (.inl (x1 _ _ h fun _ z => by cases z))
      · exact .inl (.inr ⟨o, x1 _ _ h fun _ z => by cases z⟩)
      · exact .inr h
    have s2 := same_new (o := .tup [.non, .non]) hz
    refine ⟨⟨_, rfl⟩, _, rfl, _, l, rows, rfl, rfl, .inl (s2.seq hL1), hok.1, fun x dx hx hdx hne => ⟨x, dx, _, rfl, upd_same, .inr ⟨_, rfl, hok.2, fun n' hn' H' dd b hdd => ?_, fun ops T' he H' pp o d b A' => ⟨rfl, toldBack.by fun r hr => ?_⟩⟩⟩⟩
    · rw [hn'] at hp
      cases hp
    · have s3 : Same H1 (L2.upd (L2.upd (L2.upd H1 z (.tup [.non, .non])) dx (.own x)) x (.ins C dx [])) := fun b o e => by
        have e2 := s2 _ _ e
        rw [upd_ne (ne_of_none e2 hx), upd_ne (ne_of_none e2 hdx)]
        exact e2
      have s4 : Same H1 H' := fun b' o e => b b' o (s3 b' o e) (by
        intro m
        have e2 := s2 _ _ e
        rw [List.mem_singleton.mp m, hx] at e2
        cases e2)
      have s6 := s4.trans (same_new (o := .tup [.non, .ref x]) hr)
      obtain ⟨dx', ex⟩ := A'.ex
      have ex' := (same_new (o := .tup [.non, .ref x]) hr) _ _ ex
      refine ⟨r, _, rfl, SqT.of upd_same, rfl, _, _, rfl, _, _, rfl, rfl, ?_⟩
      refine ⟨_, rfl, _, rfl, ?_⟩
      refine iteT ⟨_, rfl, x, C, dx', _, _, rfl, ex', G.Z.cls, G.Z.nText, rfl, ⟨_, rfl⟩, _, rfl, _, l, rows, rfl, rfl, .inl (s6.seq hL1), hok.1, rfl, ?_⟩
      rw [decide_eq_true rfl]
      exact q _ (x1.trans (LamX.ExtN.of s6)) (T1.ext s6)
end
end K03

set_option Elab.async false
set_option linter.all false
set_option maxRecDepth 100000
set_option maxHeartbeats 4000000
namespace K03
open PySem PySem.Spec PySem.W PySem.Calls PyProof.Rows L2 MX
abbrev sPot : Stmt := top 20
abbrev sTake : Stmt := top 21
abbrev sSome : Stmt := top 22
abbrev sPlaces : Stmt := top 23
abbrev sNames : Stmt := top 25
abbrev sPairs : Stmt := top 26
structure BltD (mg : Str → Option Value) : Prop where
  len : mg "len" = none
  int : mg "int" = none
  abs : mg "abs" = none
  range : mg "range" = none
  max : mg "max" = none
  min : mg "min" = none
  list : mg "list" = none
theorem b01 (b : Bool) : -(2 ^ 64) < (if b = true then (1 : Int) else 0) ∧ (if b = true then (1 : Int) else 0) < 2 ^ 64 := by cases b <;> decide
theorem sq_le {c : Int} (h0 : 0 ≤ c) (h1 : c + 1 ≤ 1000000) : 0 ≤ 95309 * (c + 1) * (c + 1) ∧ 95309 * (c + 1) * (c + 1) ≤ 95309000000000000 := by
  have a : 0 ≤ 95309 * (c + 1) := by omega
  have b : 95309 * (c + 1) ≤ 95309000000 := by omega
  exact ⟨Int.mul_nonneg a (by omega), Int.le_trans (Int.mul_le_mul b h1 (by omega) (by omega)) (by decide)⟩
theorem pot0 (x : Int) {m y : Int} {b : Bool} (hm : 0 < m) : PotO 0 (.lst [.int (x % m * (if b = true then 1 else 0)), .int (y % 2305843009213693921), .int 0]) := by
  refine ⟨_, _, _, rfl, ?_, Int.emod_nonneg _ (by decide), ?_, Int.le_refl _, Int.le_refl _⟩
  · have h := Int.emod_nonneg x (show m ≠ 0 by omega)
    cases b
    · simp
    · simpa using h
  · have h := Int.emod_lt_of_pos y (show (0 : Int) < 2305843009213693921 by decide)
    omega
section
variable {P : Program} {w : World} {K : PySem.W.Frag} {mg : Str → Option Value} {base : Heap} {f : Addr} {fd : FuncData}
theorem scP : FnScope ["_law_script", "_law_k", "_law_cell", "_law_own", "_law_small"] ["_law_script", "_law_k"] (defScope sPot) := ⟨rfl, rfl, rfl, by decide +kernel, rfl, by decide +kernel, by decide +kernel⟩
theorem ok_pot (F : FnP K "_law_pot" sPot f fd) (B : BltD mg) : FnOk P w K mg base CX0 1 f fd ["_law_script", "_law_k"] (spPot K) := by
  refine F.ok scP (fun vs H Q E h => ?_) (fun cdv A outer s H vs Q E hr h => ?_)
  · obtain ⟨a, ns, k, rfl, _⟩ := h
    rfl
  · obtain ⟨a, ns, k, rfl, hS, hn, hk, q⟩ := h
    refine ⟨_, PSs.nox (pss_cons (ps_set (i := 2) scP.nd rfl (Or.inl rfl) (pe_ifExp (pt_cmpR op_lt (pv 1) (pe_callB call_len_seq (by rfl) B.len PySem.boot_len (pa_cons (pv 0) pa_nil)) (nomark _)) (pe_ix ix_list (pv 0) (pv 1) (fun _ _ => rfl)) (pe_op op_add (pe_op op_mul pe_int (pv 1)) pe_int)))
      (pss_cons (ps_set (i := 3) scP.nd rfl (Or.inl rfl) (pe_op op_mul (pe_op op_mod (pe_callTy call_int1 (by rfl) B.int boot_int (pa_cons (pe_callB call_abs (by rfl) B.abs boot_abs (pa_cons (pv 2) pa_nil)) pa_nil)) (pe_op op_powW (pe_op op_powW pe_int pe_int) pe_int))
          (pe_callTy call_int1 (by rfl) B.int boot_int (pa_cons (pe_cmpR op_ge (pe_callB call_abs (by rfl) B.abs boot_abs (pa_cons (pv 2) pa_nil)) (pe_op op_powW pe_int pe_int) (nomark _)) pa_nil))))
      (pss_cons (ps_set (i := 4) scP.nd rfl (Or.inl rfl) (pe_op op_mod (pe_callTy call_int1 (by rfl) B.int boot_int (pa_cons (pv 2) pa_nil)) pe_int))
      (pss_one (ps_ret (pe_lst (pa_cons (pv 3) (pa_cons (pe_op op_mod (pe_callTy call_int1 (by rfl) B.int boot_int (pa_cons (pe_op op_add (pe_op op_add (pe_op op_mul (pv 4) pe_int) (pe_op op_mul (pe_op op_mul pe_int (pv 1)) (pv 1))) pe_int) pa_nil)) pe_int) (pa_cons pe_int pa_nil))))))))), ?_⟩
    have len_eq : (ns.map V.int).length = ns.length := List.length_map _
    refine ⟨_, rfl, _, rfl, _, _, rfl, .inl hS, _, _, rfl, rfl, _, rfl, ite2 (fun hlt => ?_) (fun hlt => ?_)⟩
    · have hlt' : k < ns.length := by have z := of_decide_eq_true hlt; rw [len_eq] at z; omega
      refine ⟨_, rfl, _, rfl, _, _, _, _, rfl, rfl, hS, atI_nat (v := V.int ns[k]) (by rw [List.getElem?_map, List.getElem?_eq_getElem hlt']; rfl), ?_⟩
      generalize ns[k] = c
      exact ⟨_, rfl, c, rfl, .inl ⟨_, rfl, _, _, rfl, rfl, ⟨by decide, by decide +kernel⟩, _, _, rfl, rfl, ⟨by decide, by decide +kernel⟩, _, _, rfl, rfl, (show (0 : Int) < (10 ^ Int.toNat 60) ^ Int.toNat 5 by decide +kernel),
        _, rfl, c, rfl, _, _, rfl, rfl, ⟨by decide, by decide +kernel⟩, _, _, rfl, rfl, .inr ⟨_, rfl, _, _, rfl, rfl, .inr (b01 _),
        _, rfl, .inl ⟨_, rfl, _, _, rfl, rfl, (by decide : (0 : Int) < 2305843009213693951),
        _, rfl, _, rfl, _, _, rfl, rfl, .inr ⟨by decide, by decide⟩, _, rfl, _, _, rfl, rfl, .inl ⟨by decide, by decide⟩, _, rfl, _, _, rfl, rfl, .inr ⟨by omega, by omega⟩, _, _, rfl, rfl, _, _, rfl, rfl,
        .inl ⟨_, rfl, _, _, rfl, rfl, (by decide : (0 : Int) < 2305843009213693921), (by show 3 ≤ sizeLine; decide), fun p hp => q p _ hp (pot0 _ (by decide +kernel))⟩⟩⟩⟩⟩
    · refine ⟨_, rfl, _, _, rfl, rfl, .inl ⟨by decide, by decide⟩, _, _, rfl, rfl, ?_⟩
      exact ⟨_, rfl, _, rfl, .inl ⟨_, rfl, _, _, rfl, rfl, ⟨by decide, by decide +kernel⟩, _, _, rfl, rfl, ⟨by decide, by decide +kernel⟩, _, _, rfl, rfl, (show (0 : Int) < (10 ^ Int.toNat 60) ^ Int.toNat 5 by decide +kernel),
        _, rfl, _, rfl, _, _, rfl, rfl, ⟨by decide, by decide +kernel⟩, _, _, rfl, rfl, .inr ⟨_, rfl, _, _, rfl, rfl, .inr (b01 _),
        _, rfl, .inl ⟨_, rfl, _, _, rfl, rfl, (by decide : (0 : Int) < 2305843009213693951),
        _, rfl, _, rfl, _, _, rfl, rfl, .inr ⟨by decide, by decide⟩, _, rfl, _, _, rfl, rfl, .inl ⟨by decide, by decide⟩, _, rfl, _, _, rfl, rfl, .inr ⟨by omega, by omega⟩, _, _, rfl, rfl, _, _, rfl, rfl,
        .inl ⟨_, rfl, _, _, rfl, rfl, (by decide : (0 : Int) < 2305843009213693921), (by show 3 ≤ sizeLine; decide), fun p hp => q p _ hp (pot0 _ (by decide +kernel))⟩⟩⟩⟩⟩
theorem scT : FnScope ["_law_pot_here", "_law_upto", "_law_digit", "_law_prime", "_law_blend"] ["_law_pot_here", "_law_upto"] (defScope sTake) := ⟨rfl, rfl, rfl, by decide +kernel, rfl, by decide +kernel, by decide +kernel⟩
theorem ok_take (F : FnP K "_law_take" sTake f fd) (B : BltD mg) : FnOk P w K mg base CX0 1 f fd ["_law_pot_here", "_law_upto"] spTake := by
  refine F.ok scT (fun vs H Q E h => ?_) (fun cdv A outer s H vs Q E hr h => ?_)
  · obtain ⟨p, u, n, rfl, _⟩ := h
    rfl
  · obtain ⟨p, u, n, rfl, ⟨o, ho, a, sd, c, rfl, ha, hs0, hs1, hc0, hc1⟩, hn, hu0, hu1, q⟩ := h
    refine ⟨_, PSs.nox (pss_cons (ps_if (pt_cmpR op_gt (pe_ix ix_list (pv 0) pe_int (fun _ _ => rfl)) pe_int (nomark _))
        (pss_cons (ps_set (i := 2) scT.nd rfl (Or.inl rfl) (pe_op op_mod (pe_callTy call_int1 (by rfl) B.int boot_int (pa_cons (pe_ix ix_list (pv 0) pe_int (fun _ _ => rfl)) pa_nil)) (pv 1)))
        (pss_cons (ps_asg (pe_op op_fdiv (pe_ix ix_list (pv 0) pe_int (fun _ _ => rfl)) (pv 1)) (pg_sub (pv 0) pe_int set_list))
        (pss_one (ps_ret (pv 2))))) pss_nil)
      (pss_cons (ps_asg (pe_op op_add (pe_ix ix_list (pv 0) pe_int (fun _ _ => rfl)) pe_int) (pg_sub (pv 0) pe_int set_list))
      (pss_cons (ps_set (i := 3) scT.nd rfl (Or.inl rfl) (pe_ix ix_list (pe_lst (pa_cons pe_int (pa_cons pe_int (pa_cons pe_int (pa_cons pe_int (pa_cons pe_int pa_nil)))))) (pe_op op_mod (pe_callTy call_int1 (by rfl) B.int boot_int (pa_cons (pe_ix ix_list (pv 0) pe_int (fun _ _ => rfl)) pa_nil)) pe_int) (fun _ _ => rfl)))
      (pss_cons (ps_set (i := 4) scT.nd rfl (Or.inl rfl) (pe_op op_mod (pe_callTy call_int1 (by rfl) B.int boot_int (pa_cons (pe_op op_pow (pe_callTy call_int1 (by rfl) B.int boot_int (pa_cons (pe_op op_add (pe_op op_add (pe_ix ix_list (pv 0) pe_int (fun _ _ => rfl))
          (pe_op op_mul (pe_op op_mul pe_int (pe_ix ix_list (pv 0) pe_int (fun _ _ => rfl))) (pe_ix ix_list (pv 0) pe_int (fun _ _ => rfl)))) pe_int) pa_nil)) pe_int) pa_nil)) (pv 3)))
      (pss_one (ps_ret (pe_op op_mod (pe_callTy call_int1 (by rfl) B.int boot_int (pa_cons (pe_op op_fdiv (pe_op op_mul (pv 4) (pe_op op_add (pe_op op_mod (pe_callTy call_int1 (by rfl) B.int boot_int (pa_cons (pv 4) pa_nil)) pe_int)
          (pe_op op_mul pe_int (pe_ix ix_list (pv 0) pe_int (fun _ _ => rfl))))) pe_int) pa_nil)) (pv 1)))))))), ?_⟩
    refine ⟨_, rfl, p, _, _, _, rfl, rfl, SqL.of ho, rfl, _, _, rfl, rfl, _, rfl, ite2 (fun hgt => ?_) (fun hgt => ?_)⟩
    · refine ⟨_, rfl, p, _, _, _, rfl, rfl, SqL.of ho, rfl, .inl ⟨_, rfl, _, rfl, _, _, rfl, rfl, hu0, _, rfl, p, _, _, _, rfl, rfl, SqL.of ho, rfl, _, rfl, _, _, rfl, rfl, ⟨hu0, by omega⟩, _, rfl, p, _, _, _, rfl, rfl, ho, rfl, _, rfl, ?_⟩⟩
      exact q _ _ (Int.emod_nonneg _ (by omega)) (Int.emod_lt_of_pos _ hu0) (Ext.upd p H _) (Pot.upd ⟨_, _, _, rfl, Int.ediv_nonneg ha (by omega), hs0, hs1, hc0, by omega⟩)
    · refine ⟨_, rfl, p, _, _, _, rfl, rfl, SqL.of ho, rfl, _, _, rfl, rfl, _, rfl, p, _, _, _, rfl, rfl, ho, rfl, ?_⟩
      have hc' : c + 1 ≤ 1000000 := by omega
      refine ⟨(by show 5 ≤ sizeLine; decide), fun l hl => ?_⟩
      have npl : p ≠ l := ne_of_none upd_same hl
      have hp2 : (L2.upd (L2.upd H p (HO.lst [V.int a, V.int sd, V.int (c + 1)])) l (HO.lst [V.int 2147483647, V.int 2147483629, V.int 2147483587, V.int 2147483579, V.int 2147483563])) p = some (HO.lst [V.int a, V.int sd, V.int (c + 1)]) := by
        rw [upd_ne npl, upd_same]
      obtain ⟨j, hj, hj5⟩ : ∃ j : Nat, (c + 1) % 5 = (j : Int) ∧ j < 5 := ⟨((c + 1) % 5).toNat, by omega, by omega⟩
      obtain ⟨pr, hpr, hp0, hp1⟩ : ∃ pr : Int, ([V.int 2147483647, V.int 2147483629, V.int 2147483587, V.int 2147483579, V.int 2147483563] : List V)[j]? = some (V.int pr) ∧ 0 < pr ∧ pr < 2147483648 := by
        match j, hj5 with
        | 0, _ => exact ⟨_, rfl, by decide, by decide⟩
        | 1, _ => exact ⟨_, rfl, by decide, by decide⟩
        | 2, _ => exact ⟨_, rfl, by decide, by decide⟩
        | 3, _ => exact ⟨_, rfl, by decide, by decide⟩
        | 4, _ => exact ⟨_, rfl, by decide, by decide⟩
      refine ⟨_, rfl, p, _, _, _, rfl, rfl, SqL.of hp2, rfl, .inl ⟨_, rfl, _, _, rfl, rfl, (by decide : (0 : Int) < 5), l, _, _, V.int pr, rfl, rfl, SqL.of upd_same, (by rw [hj]; exact atI_nat hpr), ?_⟩⟩
      have hsq := sq_le hc0 hc'
      have hpow : CPow (sd + 95309 * (c + 1) * (c + 1) + 149) 3 := ⟨by decide, by decide, by omega⟩
      refine ⟨_, rfl, p, _, _, _, rfl, rfl, SqL.of hp2, rfl, _, rfl, p, _, _, _, rfl, rfl, SqL.of hp2, rfl, _, _, rfl, rfl, .inl ⟨by decide, by decide⟩, _, rfl, p, _, _, _, rfl, rfl, SqL.of hp2, rfl, _, _, rfl, rfl, .inr ⟨by omega, by omega⟩,
        _, _, rfl, rfl, _, _, rfl, rfl, .inl ⟨_, rfl, _, _, rfl, rfl, hpow, .inl ⟨_, rfl, _, rfl, _, _, rfl, rfl, hp0, ?_⟩⟩⟩
      have hb0 := Int.emod_nonneg ((sd + 95309 * (c + 1) * (c + 1) + 149) ^ Int.toNat 3) (show pr ≠ 0 by omega)
      have hb1 := Int.emod_lt_of_pos ((sd + 95309 * (c + 1) * (c + 1) + 149) ^ Int.toNat 3) hp0
      refine ⟨_, rfl, _, rfl, .inl ⟨_, rfl, _, _, rfl, rfl, (by decide : (0 : Int) < 10039), _, rfl, p, _, _, _, rfl, rfl, SqL.of hp2, rfl, _, _, rfl, rfl, .inl ⟨by decide, by decide⟩, _, _, rfl, rfl, _, _, rfl, rfl, .inl ⟨by omega, by omega⟩,
        _, _, rfl, rfl, ⟨by decide, by decide⟩, .inl ⟨_, rfl, _, rfl, _, _, rfl, rfl, hu0, ?_⟩⟩⟩
      refine q _ _ (Int.emod_nonneg _ (by omega)) (Int.emod_lt_of_pos _ hu0) ((Ext.upd p H _).trans (Ext.of (same_new hl))) ⟨_, hp2, _, _, _, rfl, ha, hs0, hs1, by omega, by omega⟩
theorem scL : FnScope ["_law_script", "_law_most"] ["_law_script", "_law_most"] (defScope sPlaces) := ⟨rfl, rfl, rfl, by decide +kernel, rfl, by decide +kernel, by decide +kernel⟩
theorem ok_places (F : FnP K "_law_places" sPlaces f fd) (B : BltD mg) {m : Nat} (hm : m ≤ 60) : FnOk P w K mg base CX0 1 f fd ["_law_script", "_law_most"] (spPlaces K m) := by
  refine F.ok scL (fun vs H Q E h => ?_) (fun cdv A outer s H vs Q E hr h => ?_)
  · obtain ⟨a, ns, rfl, _⟩ := h
    rfl
  · obtain ⟨a, ns, rfl, hS, hn, q⟩ := h
    refine ⟨_, PSs.nox (pss_one (ps_ret (pe_listRg rfl (by rfl) B.list (prg_1 (by rfl) B.range (pe_callB (call_max2 rfl) (by rfl) B.max boot_max (pa_cons pe_int (pa_cons (pe_callB (call_min2 rfl) (by rfl) B.min boot_min (pa_cons (pv 1) (pa_cons (pe_callB call_len_seq (by rfl) B.len PySem.boot_len (pa_cons (pv 0) pa_nil)) pa_nil))) pa_nil))))))), ?_⟩
    refine ⟨_, rfl, _, rfl, a, _, rfl, .inl hS, _, _, rfl, _, _, rfl, _, rfl, ?_⟩
    have key : ∀ N : Int, 0 ≤ N → N ≤ 64 → N.toNat ≤ max 1 m → RgOk 0 N ∧ ∀ p, H p = none → Q (.ref p) (L2.upd H p (.lst (rgV 0 N))) := fun N h0 h1 h2 =>
      ⟨RgOk.of_le (by omega) (by omega) (by omega) h0, fun p hp => q p _ N.toNat (same_new hp) hp h2 (by
        rw [upd_same]
        unfold rgV
        simp)⟩
    refine key _ ?_ ?_ ?_ <;> (repeat' split) <;> omega

theorem erase_perm : ∀ (l : List V) (j : Nat) (h : j < l.length), List.Perm (l[j] :: l.eraseIdx j) l
  | [], _, h => absurd h (Nat.not_lt_zero _)
  | x :: r, 0, _ => List.Perm.refl _
  | x :: r, j + 1, h => (List.Perm.swap _ _ _).trans (List.Perm.cons x (erase_perm r j (Nat.lt_of_succ_lt_succ h)))
/-- _law_some(pot, pool, amount) -/
def spSome : Sp := fun vs H Q _ => ∃ (p l : Addr) (xs : List V) (n m : Nat), vs = [.ref p, .ref l, .int (m : Int)] ∧ Pot n H p ∧ n + m < 1000000 ∧ H l = some (.lst xs) ∧ l ≠ p ∧ m ≤ xs.length ∧ xs.length < 1000 ∧
  ∀ (f : Addr) (H' : Hp) (found rest : List V), H f = none → H' f = some (.lst found) → found.length = m → List.Perm (found ++ rest) xs → Ext p H H' → Pot (n + m) H' p → Q (.ref f) H'
theorem scSome : FnScope ["_law_pot_here", "_law_pool", "_law_amount", "_law_left", "_law_found", "_law_lap"] ["_law_pot_here", "_law_pool", "_law_amount"] (defScope sSome) := ⟨rfl, rfl, rfl, by decide +kernel, rfl, by decide +kernel, by decide +kernel⟩
theorem ok_some {fT : Addr} {fdT : FuncData} (F : FnP K "_law_some" sSome f fd) (B : BltD mg) (FT : FnP K "_law_take" sTake fT fdT) (gT : mg "_law_take" = some (.ref fT)) : FnOk P w K mg base CX0 2 f fd ["_law_pot_here", "_law_pool", "_law_amount"] spSome := by
  have GT : FnOk P w K mg base CX0 1 fT fdT ["_law_pot_here", "_law_upto"] spTake := ok_take FT B
  have bT : Binds K fdT ["_law_pot_here", "_law_upto"] [] := FT.bindsN fun _ _ _ _ _ _ us hl => match us, hl with | [_, _], _ => rfl
  refine F.ok scSome (fun vs H Q E h => ?_) (fun cdv A outer s H vs Q E hr h => ?_)
  · obtain ⟨p, l, xs, n, m, rfl, _⟩ := h
    rfl
  · obtain ⟨p, l, xs, n, m, rfl, hp, hn, hl, nlp, hm, hx, q⟩ := h
    refine ⟨_, PSs.nox (pss_cons (ps_par (i := 3) (j := 4) rfl scSome.nd rfl rfl (by decide) rfl rfl (pa_cons (pe_callTy call_list_of (by rfl) B.list boot_list (pa_cons (pv 1) pa_nil)) (pa_cons (pe_lst pa_nil) pa_nil)) rfl)
      (pss_cons (ps_for PassesOwn.never rfl (pi_range1 rfl B.range (pa_cons (pv 2) pa_nil)) (pg_name (i := 5) scSome.nd rfl (Or.inl rfl))
        (pss_one (ps_expr (pe_bm PySem.F.plainAttrs_list PySem.F.slot_list_append PySem.F.type_list_append mt_append (pv 4) (pa_cons (pe_bm PySem.F.plainAttrs_list PySem.F.slot_list_pop PySem.F.type_list_pop mt_popAt (pv 3)
          (pa_cons (pe_call GT hr rfl gT FT.kp bT .nil pass0 (pa_cons (pv 0) (pa_cons (pe_callB call_len_seq (by rfl) B.len PySem.boot_len (pa_cons (pv 3) pa_nil)) pa_nil))) pa_nil)) pa_nil)))))
      (pss_one (ps_ret (pv 4))))), ?_⟩
    refine ⟨_, rfl, l, xs, rfl, .inl (SqL.of hl), fun a ha => ⟨Nat.zero_le _, fun f hf => ⟨_, _, rfl, ?_⟩⟩⟩
    have np : ∀ {G : Hp}, Pot n H p → True := fun _ => trivial
    have hpn := hp.some
    have nap : a ≠ p := fun z => hpn (by rw [← z]; exact ha)
    have naf : f ≠ a := fun z => by rw [z, upd_same] at hf; cases hf
    have hf0 : H f = none := by rw [upd_ne naf] at hf; exact hf
    have nfp : f ≠ p := fun z => hpn (by rw [← z]; exact hf0)
    have s2 : Ext p H (L2.upd (L2.upd H a (.lst xs)) f (.lst [])) := (Ext.of (same_new ha)).trans (Ext.of (same_new hf))
    obtain ⟨o0, ho0, hpo⟩ := id hp
    refine ⟨_, rfl, _, rfl, ?_, ?_, for_range (fun i σ G => ∃ u found rest, σ = [some (.ref p), some (.ref l), some (.int (m : Int)), some (.ref a), some (.ref f), u] ∧ Ext p H G ∧ G a = some (.lst rest) ∧ G f = some (.lst found) ∧ found.length = i ∧ List.Perm (found ++ rest) xs ∧ Pot (n + i) G p)
      ⟨_, [], xs, rfl, s2, by rw [upd_ne (Ne.symm naf), upd_same], upd_same, rfl, List.Perm.refl _, ⟨o0, by rw [upd_ne (Ne.symm nfp), upd_ne (Ne.symm nap)]; exact ho0, hpo⟩⟩ ?_ ?_⟩
    · omega
    · omega
    · rintro i σ G hi ⟨u, found, rest, rfl, x1, e1, e2, hfl, hpm, hpot⟩
      have hlen := hpm.length_eq
      rw [List.length_append, hfl] at hlen
      have hi' : i < m := by omega
      refine ⟨_, rfl, .inl ⟨rfl, _, SqL.of e2⟩, _, rfl, .inl ⟨rfl, _, SqL.of e1⟩, _, rfl, _, rfl, a, rest, rfl, .inl (SqL.of e1), p, _, n + i, rfl, hpot, by omega, by omega, by omega, fun r G2 r0 r1 x2 hp2 => ?_⟩
      obtain ⟨j, rfl⟩ : ∃ j : Nat, r = (j : Int) := ⟨r.toNat, by omega⟩
      have hj : j < rest.length := by omega
      have e1' := x2 a _ nap e1
      have e2' := x2 f _ nfp e2
      refine ⟨a, rest, (j : Int), j, rest[j], rfl, rfl, e1', by omega, by omega, ?_, List.getElem?_eq_getElem hj, f, found, rest[j], rfl, rfl, ?_, ?_, ?_⟩
      · unfold seqIndex?
        simp
        omega
      · rw [upd_ne naf]
        exact e2'
      · rw [sizeLine_eq]
        omega
      · refine ⟨_, found ++ [rest[j]], rest.eraseIdx j, rfl, ?_, ?_, ?_, ?_, ?_, ?_⟩
        · intro b o nb e
          have nba : b ≠ a := fun z => by rw [z, ha] at e; cases e
          have nbf : b ≠ f := fun z => by rw [z, hf0] at e; cases e
          rw [upd_ne nbf, upd_ne nba]
          exact x2 b o nb (x1 b o nb e)
        · rw [upd_ne (Ne.symm naf), upd_same]
        · rw [upd_same]
        · rw [List.length_append, hfl]; rfl
        · have z : List.Perm (rest[j] :: rest.eraseIdx j) rest := erase_perm rest j hj
          refine List.Perm.trans ?_ hpm
          rw [List.append_assoc]
          exact List.Perm.append_left found z
        · obtain ⟨o, ho, hpo⟩ := hp2
          refine ⟨o, ?_, hpo⟩
          rw [upd_ne (Ne.symm nfp), upd_ne (Ne.symm nap)]
          exact ho
    · rintro σ G ⟨u, found, rest, rfl, x1, e1, e2, hfl, hpm, hpot⟩
      rw [Int.toNat_natCast] at hfl hpot
      exact ⟨_, rfl, q f G found rest hf0 e2 hfl hpm x1 hpot⟩
def pool14 : List Str := ["a", "b", "c", "ann", "bob", "met", "open", "people", "heard", "in", "out", "zzzzzzzz", "x", "not"]
def unS : V → Str
  | .str x => x
  | _ => ""
theorem strs_of {xs : List V} {ps : List Str} (h : ∀ x ∈ xs, x ∈ ps.map V.str) : xs = (xs.map unS).map V.str := by
  rw [List.map_map]
  conv => lhs; rw [← List.map_id xs]
  refine List.map_congr_left fun x hx => ?_
  obtain ⟨y, _, rfl⟩ := List.mem_map.mp (h x hx)
  rfl
/-- _law_names(pot, amount) -/
def spNames : Sp := fun vs H Q _ => ∃ (p : Addr) (n m : Nat), vs = [.ref p, .int (m : Int)] ∧ Pot n H p ∧ n + m < 1000000 ∧ m ≤ 14 ∧
  ∀ (f : Addr) (H' : Hp) (ns rest : List Str), H f = none → H' f = some (.lst (ns.map V.str)) → ns.length = m → List.Perm (ns ++ rest) pool14 → Ext p H H' → Pot (n + m) H' p → Q (.ref f) H'
theorem scNames : FnScope ["_law_pot_here", "_law_amount", "_law_pool"] ["_law_pot_here", "_law_amount"] (defScope sNames) := ⟨rfl, rfl, rfl, by decide +kernel, rfl, by decide +kernel, by decide +kernel⟩
theorem ok_names {fS fT : Addr} {fdS fdT : FuncData} (F : FnP K "_law_names" sNames f fd) (B : BltD mg) (FT : FnP K "_law_take" sTake fT fdT) (gT : mg "_law_take" = some (.ref fT)) (FS : FnP K "_law_some" sSome fS fdS) (gS : mg "_law_some" = some (.ref fS)) :
    FnOk P w K mg base CX0 3 f fd ["_law_pot_here", "_law_amount"] spNames := by
  have GS : FnOk P w K mg base CX0 2 fS fdS ["_law_pot_here", "_law_pool", "_law_amount"] spSome := ok_some FS B FT gT
  have bS : Binds K fdS ["_law_pot_here", "_law_pool", "_law_amount"] [] := FS.bindsN fun _ _ _ _ _ _ us hl => match us, hl with | [_, _, _], _ => rfl
  refine F.ok scNames (fun vs H Q E h => ?_) (fun cdv A outer s H vs Q E hr h => ?_)
  · obtain ⟨p, n, m, rfl, _⟩ := h
    rfl
  · obtain ⟨p, n, m, rfl, hp, hn, hm, q⟩ := h
    refine ⟨_, PSs.nox (pss_cons (ps_set (i := 2) scNames.nd rfl (Or.inl rfl) (pe_lst (pa_cons pe_str (pa_cons pe_str (pa_cons pe_str (pa_cons pe_str (pa_cons pe_str (pa_cons pe_str (pa_cons pe_str (pa_cons pe_str (pa_cons pe_str (pa_cons pe_str (pa_cons pe_str (pa_cons pe_str (pa_cons pe_str (pa_cons pe_str pa_nil))))))))))))))))
      (pss_one (ps_ret (pe_call GS hr rfl gS FS.kp bS .nil pass0 (pa_cons (pv 0) (pa_cons (pv 2) (pa_cons (pv 1) pa_nil))))))), ?_⟩
    refine ⟨(show 14 ≤ sizeLine by decide), fun l hl => ⟨_, rfl, _, rfl, _, rfl, p, l, pool14.map V.str, n, m, rfl, ?_, hn, upd_same, ?_, hm, (show 14 < 1000 by decide), fun f H' found rest hf e hlen hpm x hp' => ?_⟩⟩
    · obtain ⟨o, e, hpo⟩ := hp
      exact ⟨o, (same_new hl) _ _ e, hpo⟩
    · exact fun z => hp.some (by rw [← z]; exact hl)
    · have m1 : ∀ y ∈ found, y ∈ pool14.map V.str := fun y hy => hpm.mem_iff.mp (List.mem_append_left _ hy)
      have m2 : ∀ y ∈ rest, y ∈ pool14.map V.str := fun y hy => hpm.mem_iff.mp (List.mem_append_right _ hy)
      have hf0 : H f = none := by
        by_cases c : f = l
        · rw [c]; exact hl
        · rw [upd_ne c] at hf; exact hf
      refine q f H' (found.map unS) (rest.map unS) hf0 (by rw [← strs_of m1]; exact e) (by rw [List.length_map]; exact hlen) ?_ ((Ext.of (same_new hl)).trans x) hp'
      have z := hpm.map unS
      rw [List.map_append, List.map_map] at z
      have z2 : pool14.map (unS ∘ V.str) = pool14 := by decide +kernel
      rw [z2] at z
      exact z
/-- each two of the names, in their sequence -/
def pairsOf : List Str → List (Str × Str)
  | [] => []
  | x :: r => r.map (fun y => (x, y)) ++ pairsOf r
/-- a list of tuples of two texts -/
def PairsAt (H : Hp) (f : Addr) (ps : List (Str × Str)) : Prop := ∃ qs : List Addr, H f = some (.lst (qs.map V.ref)) ∧ qs.length = ps.length ∧ ∀ (i : Nat) (q : Addr) (p : Str × Str), qs[i]? = some q → ps[i]? = some p → H q = some (.tup [.str p.1, .str p.2])
theorem refs_inj : ∀ {a b : List Addr}, a.map V.ref = b.map V.ref → a = b
  | [], [], _ => rfl
  | [], _ :: _, h => by cases h
  | _ :: _, [], h => by cases h
  | x :: r, y :: r2, h => by
    rw [List.map_cons, List.map_cons] at h
    injection h with h1 h2
    injection h1 with h1
    rw [h1, refs_inj h2]
/-- the list at f becomes longer by what tells the pairs of b -/
theorem PairsAt.app {H H' : Hp} {f : Addr} {a b : List (Str × Str)} {fa : List Addr} {db : List Addr} (h : PairsAt H f a) (e : H f = some (.lst (fa.map V.ref))) (s : Ext f H H') (e' : H' f = some (.lst ((fa ++ db).map V.ref))) (l : db.length = b.length)
    (hb : ∀ (i : Nat) (q : Addr) (p : Str × Str), db[i]? = some q → b[i]? = some p → H' q = some (.tup [.str p.1, .str p.2])) : PairsAt H' f (a ++ b) := by
  obtain ⟨qs, e1, l1, k1⟩ := h
  have z : qs = fa := refs_inj (by
    rw [e] at e1
    have := Option.some.inj e1
    injection this with this
    exact this.symm)
  subst z
  refine ⟨qs ++ db, e', by rw [List.length_append, List.length_append, l1, l], fun i q p h1 h2 => ?_⟩
  by_cases c : i < qs.length
  · rw [List.getElem?_append_left c] at h1
    rw [List.getElem?_append_left (l1 ▸ c)] at h2
    have t := k1 i q p h1 h2
    exact s q _ (fun z => by rw [z, e] at t; cases t) t
  · rw [List.getElem?_append_right (by omega)] at h1
    rw [List.getElem?_append_right (by omega)] at h2
    rw [← l1] at h2
    exact hb _ q p h1 h2
theorem cutK (xs : List V) (k : Nat) (h : k ≤ xs.length) : cutV xs (some (k : Int)) none = xs.drop k := by
  unfold cutV
  have e1 : HT.sIx xs.length 0 (some (k : Int)) = k := by
    rw [HT.sIx_nat]
    omega
  have e2 : HT.sIx xs.length xs.length none = xs.length := rfl
  rw [e1, e2, List.take_of_length_le (by rw [List.length_drop]; omega)]
def spPairs (K : PySem.W.Frag) : Sp := fun vs H Q _ => ∃ (l : Addr) (ns : List Str), vs = [.ref l] ∧ SqL K H l (ns.map V.str) ∧ ns.length ≤ 20 ∧
  ∀ (f : Addr) (H' : Hp), H f = none → Same H H' → PairsAt H' f (pairsOf ns) → Q (.ref f) H'
theorem scPairs : FnScope ["_law_people", "_law_found", "_law_at", "_law_one", "_law_other"] ["_law_people"] (defScope sPairs) := ⟨rfl, rfl, rfl, by decide +kernel, rfl, by decide +kernel, by decide +kernel⟩
theorem ok_pairs (F : FnP K "_law_pairs" sPairs f fd) (B : BltD mg) (he : mg "enumerate" = none) : FnOk P w K mg base CX0 1 f fd ["_law_people"] (spPairs K) := by
  refine F.ok scPairs (fun vs H Q E h => ?_) (fun cdv A outer s H vs Q E hr h => ?_)
  · obtain ⟨l, ns, rfl, _⟩ := h
    rfl
  · obtain ⟨l, ns, rfl, hL, hn, q⟩ := h
    refine ⟨_, PSs.nox (pss_cons (ps_set (i := 1) scPairs.nd rfl (Or.inl rfl) (pe_lst pa_nil))
      (pss_cons (ps_for PassesOwn.never rfl (pi_enum (by rfl) he (pa_cons (pv 0) pa_nil)) (pg_tup rfl (pgs_cons (pg_name (i := 2) scPairs.nd rfl (Or.inl rfl)) (pgs_cons (pg_name (i := 3) scPairs.nd rfl (Or.inr rfl)) pgs_nil)))
        (pss_one (ps_expr (pe_bm PySem.F.plainAttrs_list PySem.F.slot_list_extend PySem.F.type_list_extend mt_extend (pv 1) (pa_cons
          (pe_lc (own := [("_law_other", 4)]) (g := gName 4) (tt := tYes) rfl scPairs.nd (pi_list (pe_slice sl_list (pv 0) (po_some (pe_op op_add (pv 2) pe_int)) po_none)) (blkOk_by (N := ["_law_people", "_law_found", "_law_at", "_law_one", "_law_other"]) (sc := defScope sPairs) (by decide +kernel))
            (fun _ _ _ _ _ => pg_name (i := 4) scPairs.nd rfl (Or.inl rfl)) (fun _ _ _ _ _ => pts_nil) (fun _ _ _ _ _ => pe_tup (pa_cons (pv 3) (pa_cons (pv 4) pa_nil)))) pa_nil)))))
      (pss_one (ps_ret (pv 1))))), ?_⟩
    have F0 : ∀ (b : Addr) (o : HO), H b = some o → True := fun _ _ _ => trivial
    refine ⟨Nat.zero_le _, fun f hf => ?_⟩
    have s1 := same_new (o := .lst []) hf
    refine ⟨_, rfl, l, _, rfl, s1.seq hL, for_it walk_enum (fun i σ G => ∃ u2 u3 u4 dn, σ = [some (.ref l), some (.ref f), u2, u3, u4] ∧ Same H G ∧ PairsAt G f dn ∧ dn ++ pairsOf (ns.drop i) = pairsOf ns ∧ dn.length ≤ i * 20) ⟨_, _, _, [], rfl, s1, ⟨[], upd_same, rfl, fun i q p h _ => by simp at h⟩, rfl, Nat.zero_le _⟩ (fun i σ G _ ⟨_, _, _, _, _, s, _⟩ => s.seq hL) ?_ ?_⟩
    · rintro i y σ G G' hi ⟨u2, u3, u4, dn, rfl, s2, hP, hd, hdl⟩ ⟨T, a1, a2, rfl, hT, rfl, e1, e2⟩
      obtain rfl : V.int (i : Int) = a1 := Option.some.inj e1
      have e2' : (ns.map V.str)[i]? = some a2 := e2
      rw [List.getElem?_map] at e2'
      obtain ⟨x, hx, rfl⟩ := Option.map_eq_some_iff.mp e2'
      rw [List.length_map] at hi
      have sT := same_new (o := .tup [V.int (i : Int), V.str x]) hT
      have s3 := s2.trans sT
      obtain ⟨fa, ef, lf, kf⟩ := id hP
      have ef3 := sT _ _ ef
      refine ⟨T, _, rfl, SqT.of upd_same, rfl, _, _, rfl, _, _, rfl, rfl, ?_⟩
      have hc : cutV (ns.map V.str) (some ((i : Int) + 1)) none = ((ns.drop (i + 1)).map V.str) := by
        have z := cutK (ns.map V.str) (i + 1) (by rw [List.length_map]; omega)
        rw [← List.map_drop] at z
        exact z
      have edrop : ns.drop i = x :: ns.drop (i + 1) := by
        rw [List.drop_eq_getElem_cons hi]
        rw [List.getElem?_eq_getElem hi] at hx
        rw [Option.some.inj hx]
      refine ⟨_, rfl, .inl ⟨rfl, _, SqL.of ef3⟩, _, rfl, _, rfl, _, _, rfl, rfl, _, rfl, l, _, rfl, s3.seq hL, fun n9 hn9 => ⟨n9, rfl, ⟨_, SqL.of upd_same⟩, fun D nD => ?_⟩⟩
      rw [hc] at nD ⊢
      have s9 := s3.trans (same_new (o := .lst ((ns.drop (i + 1)).map V.str)) hn9)
      refine lc_list (xs := (ns.drop (i + 1)).map V.str) (fun j K' => Same (L2.upd (L2.upd G T (.tup [V.int (i : Int), V.str x])) n9 (.lst ((ns.drop (i + 1)).map V.str))) K' ∧ PairsAt K' D (((ns.drop (i + 1)).take j).map fun y => (x, y)))
        ⟨same_new nD, ⟨[], upd_same, rfl, fun i q p h _ => by simp at h⟩⟩ (fun j K' _ z => SqL.of (z.1 _ _ upd_same)) ?_ ?_
      · rintro j y K' hy ⟨sK, hPK⟩
        rw [List.getElem?_map] at hy
        obtain ⟨z, hz, rfl⟩ := Option.map_eq_some_iff.mp hy
        obtain ⟨da, eD, ld, kd⟩ := id hPK
        refine ⟨rfl, _, rfl, _, rfl, (show 2 ≤ sizeLine by decide), fun t ht => ⟨_, (same_new ht) _ _ eD, ?_, ?_, ?_⟩⟩
        · rw [List.length_map, ld, List.length_map, List.length_take, List.length_drop, sizeLine_eq]
          omega
        · intro b o hb
          rw [upd_ne (ne_of_none hb nD)]
          exact (same_new ht) _ _ (sK b o hb)
        · have ntD : t ≠ D := fun q => by rw [q, eD] at ht; cases ht
          rw [take_snocE hz, List.map_append]
          refine hPK.app (fa := da) (db := [t]) eD ?_ ?_ rfl ?_
          · intro b o nb e
            rw [upd_ne nb]
            exact (same_new ht) _ _ e
          · rw [upd_same, List.map_append]
            rfl
          · intro k q p h1 h2
            match k, h1, h2 with
            | 0, h1, h2 =>
              obtain rfl : t = q := by simpa using h1
              obtain rfl : (x, z) = p := by simpa using h2
              rw [upd_ne ntD, upd_same]
      · rintro K' ⟨sK, hPK⟩
        rw [List.length_map, List.take_length] at hPK
        obtain ⟨da, eD, ld, kd⟩ := id hPK
        have efK := sK _ _ ((same_new hn9) _ _ ef3)
        have ldd : da.length ≤ 20 := by
          rw [ld, List.length_map, List.length_drop]
          omega
        refine ⟨f, D, _, _, rfl, rfl, efK, eD, ?_, _, _, _, dn ++ (ns.drop (i + 1)).map (fun y => (x, y)), rfl, ?_, ?_, ?_, ?_⟩
        · rw [List.length_map, List.length_map, lf, sizeLine_eq]
          omega
        · intro b o hb
          have nbf : b ≠ f := ne_of_none hb hf
          rw [upd_ne nbf]
          exact sK _ _ (s9 b o hb)
        · have hPf : PairsAt K' f dn := ⟨fa, efK, lf, fun k q p h1 h2 => sK _ _ ((same_new hn9) _ _ (sT _ _ (kf k q p h1 h2)))⟩
          refine hPf.app (fa := fa) (db := da) efK (Ext.upd f K' _) (by rw [upd_same, List.map_append]) ld ?_
          intro k q p h1 h2
          have e := kd k q p h1 h2
          rw [upd_ne (fun z => by rw [z, efK] at e; cases e)]
          exact e
        · rw [← hd, edrop]
          show (dn ++ (ns.drop (i + 1)).map (fun y => (x, y))) ++ pairsOf (ns.drop (i + 1)) = dn ++ ((ns.drop (i + 1)).map (fun y => (x, y)) ++ pairsOf (ns.drop (i + 1)))
          rw [List.append_assoc]
        · rw [List.length_append, List.length_map, List.length_drop]
          omega
    · rintro σ G ⟨u2, u3, u4, dn, rfl, s2, hP, hd, hdl⟩
      rw [List.length_map, List.drop_length] at hd
      have hd' : dn = pairsOf ns := by rw [← hd]; exact (List.append_nil dn).symm
      rw [hd'] at hP
      exact ⟨_, rfl, q f G hf s2 hP⟩
end
end K03

set_option Elab.async false
set_option linter.all false
set_option maxRecDepth 100000
set_option maxHeartbeats 0
namespace K03
open PySem PySem.Spec PyProof.Rows L2 MX
def mkD (at_ : Str × Option Str) (name qual : Str) (st : Stmt) : He.DefD := ⟨at_, name, qual, defArgs st, defBody st, defScope st, [], []⟩
def mkF (x : Str) (st : Stmt) : He.DefD := mkD (x, none) x x st
abbrev sRight : Stmt := top 29
abbrev sLaw : Stmt := top 30
def fn : List He.DefD := [mkD ("MeetError", some "__init__") "__init__" "MeetError.__init__" sErr, mkF "is_name" sIsName, mkF "are_unlike" sUnlike, mkF "are_among" sAmong, mkF "is_people_line" sPeople, mkF "is_met_line" sMet, mkF "is_open_line" sOpen,
  mkD ("Hall", some "__init__") "__init__" "Hall.__init__" sInit, mkD ("Hall", some "_takes") "_takes" "Hall._takes" sTakes, mkD ("Hall", some "_tell") "_tell" "Hall._tell" sTell] ++
  ([mkF "_law_pot" sPot, mkF "_law_take" sTake, mkF "_law_some" sSome, mkF "_law_places" sPlaces, mkF "_law_told" sTold1, mkF "_law_names" sNames, mkF "_law_pairs" sPairs, mkF "_law_is_refused" sRefused, mkF "_law_is_let" sLet, mkF "_law_right" sRight, mkF "law" sLaw] : List He.DefD)
def blts : List Str := ["len", "int", "abs", "range", "max", "min", "list", "isinstance", "repr", "enumerate", "all", "set", "tuple", "str"]
def glos : List Str := (["MeetError", "BadHall", "Hall", "is_name", "are_unlike", "are_among", "is_people_line", "is_met_line", "is_open_line"] : List Str) ++ (["_law_pot", "_law_take", "_law_some", "_law_places", "_law_told", "_law_names", "_law_pairs", "_law_is_refused", "_law_is_let", "_law_right", "law"] : List Str)
def more : List He.Fa := [.str "LETTERS" letters, .int "MOST_LETTERS" 8, .int "MOST_PEOPLE" 9, .int "MOST_MET" 20, .int "MOST_OPEN" 4, .cls "Hall", .noat "Hall" "text", .noat "Hall" "people", .noat "Hall" "opens", .noat "Hall" "_told", .meth "Hall" "_tell", .meth "Hall" "_takes", .mkr "Hall", .exm "BadHall" "MeetError" true]
def fa : List He.Fa := glos.map He.Fa.glo ++ blts.map He.Fa.free ++ more
def fE (K : PySem.W.Frag) : Addr := He.ma K (He.ga K "MeetError") "__init__"
def fx (K : PySem.W.Frag) : Bool := excB K (He.ga K "BadHall") (fE K) && decide ((He.cT K ("_law_is_refused", none)).2 ≠ (He.cT K ("_law_is_let", none)).2)
def tf : List He.Defn := [("_law_is_refused", none), ("_law_is_let", none)]
abbrev R : PySem.W.OpenRow := PySem.W.OpenLaw.row PySem.Challenge.rw_metonce_k03_bounds_of_halls
abbrev hk : PySem.W.Hook := He.hookX 6 fa fn [] tf fx
def ob (s : PySem.W.SharedT) : He.AlX := He.obsX 6 fa fn [] tf fx (HandSHeadRun.getT s)
theorem ob_eq (s : PySem.W.SharedT) : ob s = hk.obs s.abs := He.obsX_eq (HandSHeadRun.getT_eq s)
def loose : List Str := (["_wall", "MeetError", "BadHall", "NoPerson", "LETTERS", "MOST_LETTERS", "MOST_PEOPLE", "MOST_MET", "MOST_OPEN", "is_name", "are_unlike", "are_among", "is_people_line", "is_met_line", "is_open_line", "require_two", "Hall"] : List Str) ++
  (["_law_pot", "_law_take", "_law_some", "_law_places", "_law_told", "_law_names", "_law_pairs", "_law_is_refused", "_law_is_let", "_law_right"] : List Str)
theorem run (w : World) : HandSHeadRun.RunEq R (PySem.W.view R.prog [30]) hk ob 9000 loose w := by
  intro os
  kernel_rfl
end K03

set_option Elab.async false
set_option linter.all false
set_option maxRecDepth 100000
set_option maxHeartbeats 4000000
namespace K03
open PySem PySem.Spec PySem.W PySem.Calls PyProof.Rows L2 MX
section
variable {P : Program} {w : World} {K : PySem.W.Frag} {h : Heap} {mg : Str → Option Value} {f : Addr}
abbrev Says (w : World) (h : Heap) (K : PySem.W.Frag) : Prop := He.SaysX fa fn [] tf fx w h K
theorem fact_of (c : Says w h K) {x : He.Fa} (hf : x ∈ fa) : x.ok K = true := He.SaysD.facts c.t.d hf
theorem glo_of (X : K.In h) (G : h.Ns mainGlobals mg) (c : Says w h K) {x : Str} (hx : x ∈ glos) : mg x = some (.ref (He.ga K x)) :=
  He.glo_ok X G (fact_of c (List.mem_append_left _ (List.mem_append_left _ (List.mem_map_of_mem hx))))
theorem blt_of (X : K.In h) (G : h.Ns mainGlobals mg) (c : Says w h K) {x : Str} (hx : x ∈ blts) : mg x = none :=
  He.free_ok X G (fact_of c (List.mem_append_left _ (List.mem_append_right _ (List.mem_map_of_mem hx))))
theorem more_of (c : Says w h K) (i : Nat) {x : He.Fa} (hx : more[i]? = some x := by rfl) : x.ok K = true := fact_of c (List.mem_append_right _ (List.mem_of_getElem? hx))
theorem blts_of (X : K.In h) (G : h.Ns mainGlobals mg) (c : Says w h K) : Blt mg where
  len := blt_of X G c (by decide +kernel)
  set := blt_of X G c (by decide +kernel)
  all := blt_of X G c (by decide +kernel)
  tup := blt_of X G c (by decide +kernel)
  isi := blt_of X G c (by decide +kernel)
  enum := blt_of X G c (by decide +kernel)
  str := blt_of X G c (by decide +kernel)
  letters := He.str_ok X G (more_of c 0)
  mLetters := He.int_ok X G (more_of c 1)
  mPeople := He.int_ok X G (more_of c 2)
  mMet := He.int_ok X G (more_of c 3)
  mOpen := He.int_ok X G (more_of c 4)
theorem bltD_of (X : K.In h) (G : h.Ns mainGlobals mg) (c : Says w h K) : BltD mg where
  len := blt_of X G c (by decide +kernel)
  int := blt_of X G c (by decide +kernel)
  abs := blt_of X G c (by decide +kernel)
  range := blt_of X G c (by decide +kernel)
  max := blt_of X G c (by decide +kernel)
  min := blt_of X G c (by decide +kernel)
  list := blt_of X G c (by decide +kernel)
theorem hall_of (c : Says w h K) : HallC K (He.ga K "Hall") (He.ma K (He.ga K "Hall") "_tell") (He.ma K (He.ga K "Hall") "_takes") where
  cls := He.cls_ok (more_of c 5)
  nText := He.noat_ok (more_of c 6)
  nPeople := He.noat_ok (more_of c 7)
  nOpens := He.noat_ok (more_of c 8)
  nTold := He.noat_ok (more_of c 9)
  mTell := He.meth_ok (more_of c 10)
  mTakes := He.meth_ok (more_of c 11)
theorem halls_of (X : K.In h) (G : h.Ns mainGlobals mg) (c : Says w h K) : ∃ (fdE fdT fdK fdN fdU fdA fdP fdM fdO : FuncData),
    HallF K mg (He.ga K "Hall") (He.ga K "BadHall") (fE K) (He.ma K (He.ga K "Hall") "_tell") (He.ma K (He.ga K "Hall") "_takes") (He.ga K "is_name") (He.ga K "are_unlike") (He.ga K "are_among") (He.ga K "is_people_line") (He.ga K "is_met_line") (He.ga K "is_open_line") fdE fdT fdK fdN fdU fdA fdP fdM fdO := by
  obtain ⟨fdE, FE⟩ := c.t.d.def_ 0
  obtain ⟨fdN, FN⟩ := c.t.d.def_ 1
  obtain ⟨fdU, FU⟩ := c.t.d.def_ 2
  obtain ⟨fdA, FA⟩ := c.t.d.def_ 3
  obtain ⟨fdP, FP⟩ := c.t.d.def_ 4
  obtain ⟨fdM, FM⟩ := c.t.d.def_ 5
  obtain ⟨fdO, FO⟩ := c.t.d.def_ 6
  obtain ⟨fdK, FK⟩ := c.t.d.def_ 8
  obtain ⟨fdT, FT⟩ := c.t.d.def_ 9
  exact ⟨fdE, fdT, fdK, fdN, fdU, fdA, fdP, fdM, fdO, blts_of X G c, hall_of c, FE, FT, FK, FN, FU, FA, FP, FM, FO, glo_of X G c (by decide +kernel), glo_of X G c (by decide +kernel), glo_of X G c (by decide +kernel), glo_of X G c (by decide +kernel),
    glo_of X G c (by decide +kernel), glo_of X G c (by decide +kernel), glo_of X G c (by decide +kernel), excB_ok (He.ba c.more).1⟩
theorem made_of (X : K.In h) (G : h.Ns mainGlobals mg) (c : Says w h K) : ∃ (fdI fdT : FuncData), MadeF K mg (He.ga K "Hall") (He.ga K "BadHall") (He.ga K "MeetError") (He.ma K (He.ga K "Hall") "__init__") (He.ga K "_law_told") fdI fdT := by
  obtain ⟨fdI, FI⟩ := c.t.d.def_ 7
  obtain ⟨fdT, FT⟩ := c.t.d.def_ 14
  exact ⟨fdI, fdT, He.mkr_ok (more_of c 12), glo_of X G c (by decide +kernel), FI, glo_of X G c (by decide +kernel), He.exm_ok (more_of c 13), FT, glo_of X G c (by decide +kernel), blt_of X G c (by decide +kernel)⟩
/-- the code object that a def's own table hangs at -/
theorem code_of {x : Str} {st : Stmt} {fd : FuncData} (F : FnP K x st (He.ga K x) fd) : fd.code = .ref (He.codeOf K (x, none)) := by
  obtain ⟨oc, od, dV, kV, doc, pm, an, cdv, ct, osl, rfl, lk, hcd, _, _⟩ := F.ex
  obtain ⟨c, rfl⟩ := He.codeIn_ref hcd
  have e := He.codeOf_eq (p := (x, none)) lk rfl
  rw [e]
end
end K03

set_option Elab.async false
set_option linter.all false
set_option maxRecDepth 100000
set_option maxHeartbeats 4000000
namespace K03
open PySem PySem.Spec PySem.W PySem.Calls PyProof.Rows L2 MX
/-- all but the pot at p and the tables stays -/
def ExtPN (p : Addr) (H H' : Hp) : Prop := ∀ b o, b ≠ p → H b = some o → (∀ ps, o ≠ .tbl ps) → H' b = some o
def spRight (T : List (Addr × Str)) : Sp := fun vs H Q _ => ∃ (p : Addr), vs = [.ref p] ∧ Pot 0 H p ∧ LamX.Tabs T H ∧ ∀ H', ExtPN p H H' → LamX.Tabs T H' → Q (.bl true) H'
def spLaw (K : PySem.W.Frag) (T : List (Addr × Str)) : Sp := fun vs H Q _ => ∃ (a : Addr) (ns : List Int), vs = [.ref a] ∧ SqL K H a (ns.map V.int) ∧ ns.length ≤ 63 ∧ LamX.Tabs T H ∧ ∀ H', Q (.bl true) H'
theorem sqN {K : PySem.W.Frag} {H H' : Hp} {a : Addr} {xs : List V} (x : LamX.ExtN H H') (h : SqL K H a xs) : SqL K H' a xs := by
  rcases h with (h | ⟨o, h⟩) | h
  · exact .inl (.inl (x _ _ h fun _ z => by cases z))
  · exact .inl (.inr ⟨o, x _ _ h fun _ z => by cases z⟩)
  · exact .inr h
section
variable {P : Program} {w : World} {K : PySem.W.Frag} {mg : Str → Option Value} {base : Heap} {f : Addr} {fd : FuncData} {T : List (Addr × Str)}
theorem scW : FnScope ["_law_script", "_law_place"] ["_law_script"] (defScope sLaw) := ⟨rfl, rfl, rfl, by decide +kernel, rfl, by decide +kernel, by decide +kernel⟩
theorem ok_law {fP fL fR : Addr} {fdP fdL fdR : FuncData} (F : FnP K "law" sLaw f fd) (hall : mg "all" = none) (B : BltD mg)
    (FP : FnP K "_law_pot" sPot fP fdP) (gP : mg "_law_pot" = some (.ref fP)) (FL : FnP K "_law_places" sPlaces fL fdL) (gL : mg "_law_places" = some (.ref fL))
    (FR : FnP K "_law_right" sRight fR fdR) (gR : mg "_law_right" = some (.ref fR)) (GR : FnG P w K mg base CX0 10 fR fdR ["_law_pot_here"] (spRight T)) :
    FnG P w K mg base CX0 11 f fd ["_law_script"] (spLaw K T) := by
  have GP : FnOk P w K mg base CX0 1 fP fdP ["_law_script", "_law_k"] (spPot K) := ok_pot FP B
  have GL : FnOk P w K mg base CX0 1 fL fdL ["_law_script", "_law_most"] (spPlaces K 3) := ok_places FL B (by decide)
  have bP : Binds K fdP ["_law_script", "_law_k"] [] := FP.bindsN fun _ _ _ _ _ _ us hl => match us, hl with | [_, _], _ => rfl
  have bL : Binds K fdL ["_law_script", "_law_most"] [] := FL.bindsN fun _ _ _ _ _ _ us hl => match us, hl with | [_, _], _ => rfl
  have bR : Binds K fdR ["_law_pot_here"] [] := FR.bindsN fun _ _ _ _ _ _ us hl => match us, hl with | [_], _ => rfl
  refine okG F scW (fun vs H Q E h => ?_) (fun cdv A outer s H vs Q E hrg h => ?_)
  · obtain ⟨a, ns, rfl, _⟩ := h
    rfl
  · obtain ⟨a, ns, rfl, hS, hn, hT, q⟩ := h
    have hr1 := hrg.r.mono (show 1 ≤ 10 by decide)
    refine ⟨_, PSs.nox (pss_one (ps_ret (pe_callB (cr_all rfl) (by rfl) hall boot_all (pa_cons
      (pe_lc (own := [("_law_place", 1)]) (g := gName 1) (tt := tYes) rfl scW.nd (pi_list (pe_call GL hr1 rfl gL FL.kp bL .nil pass0 (pa_cons (pv 0) (pa_cons pe_int pa_nil))))
        (blkOk_by (N := ["_law_script", "_law_place"]) (sc := defScope sLaw) (by decide +kernel))
        (fun _ _ _ _ _ => pg_name (i := 1) scW.nd rfl (Or.inl rfl)) (fun _ _ _ _ _ => pts_nil)
        (fun _ _ _ _ _ => pe_callG GR hrg rfl gR FR.kp bR .nil pass0 (pa_cons (pe_call GP hr1 rfl gP FP.kp bP .nil pass0 (pa_cons (pv 0) (pa_cons (pv 1) pa_nil))) pa_nil))) pa_nil)))), ?_⟩
    refine ⟨_, rfl, a, ns, rfl, hS, hn, fun pl H1 t s1 n1 ht eP => ⟨pl, rfl, ⟨_, SqL.of eP⟩, fun D nD => lc_list (xs := (List.range t).map fun (i : Nat) => V.int (i : Int))
      (fun k H' => H' D = some (.lst ((List.replicate k true).map V.bl)) ∧ LamX.ExtN H1 H' ∧ LamX.Tabs T H') ⟨upd_same, LamX.ExtN.of (same_new nD), (hT.ext s1).ext (same_new nD)⟩ (fun k H' _ z => sqN z.2.1 (SqL.of eP)) ?_ ?_⟩⟩
    · rintro k x H' hx ⟨eD, xN, tN⟩
      have hk : k < t := by
        have z := (List.getElem?_eq_some_iff.mp hx).1
        rw [List.length_map, List.length_range] at z
        exact z
      obtain rfl : V.int (k : Int) = x := by
        rw [List.getElem?_map, List.getElem?_range hk] at hx
        exact Option.some.inj hx
      refine ⟨rfl, _, rfl, _, rfl, a, ns, k, rfl, sqN xN (s1.seq hS), hn, by omega, fun p o hp ho => ?_⟩
      have sp := same_new (o := o) hp
      refine ⟨p, rfl, ⟨o, upd_same, ho⟩, tN.ext sp, fun H2 e2 t2 => ⟨_, e2 _ _ (ne_of_none eD hp) (sp _ _ eD) (fun _ z => by cases z), ?_, ?_, ?_, ?_⟩⟩
      · rw [List.length_map, List.length_replicate, sizeLine_eq]
        omega
      · rw [upd_same, List.replicate_succ', List.map_append]
        rfl
      · intro b u z nt
        have nb : b ≠ D := ne_of_none z nD
        rw [upd_ne nb]
        exact e2 b u (ne_of_none (xN b u z nt) hp) (sp _ _ (xN b u z nt)) nt
      · have eD2 := e2 _ _ (ne_of_none eD hp) (sp _ _ eD) (fun _ z => by cases z)
        intro pr hpr
        obtain ⟨ps, h1, h2, h3⟩ := t2 pr hpr
        refine ⟨ps, ?_, h2, fun pos cv hcv => ?_⟩
        · rw [upd_ne (fun z => by rw [z, eD2] at h1; cases h1)]
          exact h1
        · obtain ⟨cc, e3, e4⟩ := h3 pos cv hcv
          refine ⟨cc, e3, ?_⟩
          rw [upd_ne (fun z => by rw [z, eD2] at e4; cases e4)]
          exact e4
    · rintro H' ⟨eD, xN, tN⟩
      refine ⟨D, _, rfl, sqN (LamX.ExtN.refl _) (SqL.of eD), ?_⟩
      have e : ∀ n : Nat, ((List.replicate n true).all id) = true := fun n => by
        rw [List.all_eq_true]
        intro b hb
        rw [(List.mem_replicate.mp hb).2]
        rfl
      rw [e]
      exact q _
end
end K03

set_option Elab.async false
set_option linter.all false
set_option maxRecDepth 100000
set_option maxHeartbeats 4000000
namespace K03
open PySem PySem.Spec PySem.W PySem.Calls PyProof.Rows L2 MX
def pRef : He.Defn := ("_law_is_refused", none)
def pLet : He.Defn := ("_law_is_let", none)
/-- the tables of the two defs that make lambdas, and their names -/
def tabs (K : PySem.W.Frag) : List (Addr × Str) := [((He.cT K pRef).2, qRef), ((He.cT K pLet).2, qLet)]
theorem tabs_ne {w : World} {h : Heap} {K : PySem.W.Frag} (c : Says w h K) : (He.cT K pRef).2 ≠ (He.cT K pLet).2 := of_decide_eq_true (He.ba c.more).2
theorem tabs_hR {w : World} {h : Heap} {K : PySem.W.Frag} (c : Says w h K) : ∀ p ∈ tabs K, p.1 = (He.cT K pRef).2 → p.2 = qRef := fun p hp e => by
  unfold tabs at hp
  rcases List.mem_cons.mp hp with hp | hp
  · rw [hp]
  · rw [List.mem_singleton.mp hp] at e
    exact absurd e.symm (tabs_ne c)
theorem tabs_hL {w : World} {h : Heap} {K : PySem.W.Frag} (c : Says w h K) : ∀ p ∈ tabs K, p.1 = (He.cT K pLet).2 → p.2 = qLet := fun p hp e => by
  unfold tabs at hp
  rcases List.mem_cons.mp hp with hp | hp
  · rw [hp] at e
    exact absurd e (tabs_ne c)
  · rw [List.mem_singleton.mp hp]
section
variable {P : Program} {w : World} {K : PySem.W.Frag} {h : Heap} {mg : Str → Option Value} {f : Addr}
/-- both callees of _law_right, over any base -/
theorem lets_of (X : K.In h) (G : h.Ns mainGlobals mg) (c : Says w h K) {base : Heap} (TB : ∀ p ∈ tf.map (He.cT K), LamX.TabB base mg p.1 p.2) : ∃ fdR fdL,
    FnP K "_law_is_refused" sRefused (He.ga K "_law_is_refused") fdR ∧ FnP K "_law_is_let" sLet (He.ga K "_law_is_let") fdL ∧
    FnG P w K mg base CX0 9 (He.ga K "_law_is_refused") fdR ["_law_rows", "_law_number"] (spRefused K (tabs K)) ∧ FnG P w K mg base CX0 9 (He.ga K "_law_is_let") fdL ["_law_rows"] (spLet K (tabs K)) := by
  obtain ⟨fdE, fdT, fdK, fdN, fdU, fdA, fdP, fdM, fdO, HF⟩ := halls_of X G c
  obtain ⟨fdI, fdTo, MF⟩ := made_of X G c
  obtain ⟨fdR, FR⟩ := c.t.d.def_ 17
  obtain ⟨fdL, FL⟩ := c.t.d.def_ 18
  have FR' : FnP K "_law_is_refused" sRefused (He.ga K "_law_is_refused") fdR := FR
  have FL' : FnP K "_law_is_let" sLet (He.ga K "_law_is_let") fdL := FL
  exact ⟨fdR, fdL, FR', FL', ok_refused FR' HF MF (code_of FR') (TB (He.cT K pRef) List.mem_cons_self) List.mem_cons_self (tabs_hR c),
    ok_let FL' HF MF (code_of FL') (TB (He.cT K pLet) (List.mem_cons_of_mem _ List.mem_cons_self)) (List.mem_cons_of_mem _ List.mem_cons_self) (tabs_hL c)⟩
/-- what the end of the law asks, once _law_right keeps its promise -/
theorem facts (X : K.In h) (G : h.Ns mainGlobals mg) (hfa : mg ("law" : Str) = some (.ref f)) (c : Says w h K)
    (hR : ∀ base : Heap, (∀ p ∈ tf.map (He.cT K), LamX.TabB base mg p.1 p.2) → ∃ fdR, FnP K "_law_right" sRight (He.ga K "_law_right") fdR ∧ FnG P w K mg base CX0 10 (He.ga K "_law_right") fdR ["_law_pot_here"] (spRight (tabs K))) :
    ∃ fd : FuncData, (∀ (s : Shared) (v : Value), BindsTo s fd ⟨[v], []⟩ [("_law_script", v)]) ∧
      ∀ base : Heap, K.In base → base.Ns mainGlobals mg → (∀ p ∈ tf.map (He.cT K), LamX.TabB base mg p.1 p.2) → FnG P w K mg base CX0 11 f fd ["_law_script"] (spLaw K (tabs K)) := by
  obtain ⟨fdP, FP⟩ := c.t.d.def_ 10
  obtain ⟨fdL, FL⟩ := c.t.d.def_ 13
  obtain ⟨fdW, FW⟩ := c.t.d.def_ 20
  have e := hfa.symm.trans (glo_of X G c (x := "law") (by decide +kernel))
  cases e
  have b := FunD.bindsA (ps := ["_law_script"]) FW fun _ _ _ _ _ _ us hl => match us, hl with | [_], _ => rfl
  refine ⟨fdW, fun s v => b s [v] rfl, fun base _ _ TB => ?_⟩
  obtain ⟨fdR, FR, GR⟩ := hR base TB
  exact ok_law FW (blt_of X G c (by decide +kernel)) (bltD_of X G c) FP (glo_of X G c (by decide +kernel)) FL (glo_of X G c (by decide +kernel)) FR (glo_of X G c (by decide +kernel)) GR
/-- an empty table tells nothing wrong -/
theorem tabs_nil {H : Hp} (hH : ∀ p ∈ tf.map (He.cT K), H p.2 = some (.tbl #[])) : LamX.Tabs (tabs K) H := fun p hp => by
  unfold tabs at hp
  rcases List.mem_cons.mp hp with hp | hp
  · rw [hp]
    exact LamX.TabS.nil (hH (He.cT K pRef) List.mem_cons_self)
  · rw [List.mem_singleton.mp hp]
    exact LamX.TabS.nil (hH (He.cT K pLet) (List.mem_cons_of_mem _ List.mem_cons_self))
end
end K03

set_option Elab.async false
set_option linter.all false
set_option maxRecDepth 100000
set_option maxHeartbeats 4000000
namespace K03
open PySem PySem.Spec PySem.W PySem.Calls PyProof.Rows L2 MX
abbrev nRight : List Str := ["_law_pot_here", "_law_names_here", "_law_head", "_law_pairs_here", "_law_met", "_law_opens", "_law_fine", "_law_bad", "_law_line", "_law_one", "_law_other", "_law_rows", "_law_number"]
theorem scRight : FnScope nRight ["_law_pot_here"] (defScope sRight) := ⟨rfl, rfl, rfl, by decide +kernel, rfl, by decide +kernel, by decide +kernel⟩
end K03

set_option Elab.async false
set_option linter.all false
set_option maxRecDepth 100000
set_option maxHeartbeats 4000000
namespace K03
open PySem MX
/-! the halls of k03 in numbers: person i is the i-th drawn name -/
abbrev Ln := Str × List Nat
def prN : List Nat → List (Nat × Nat)
  | [] => []
  | x :: r => r.map (fun y => (x, y)) ++ prN r
def nine : List Nat := List.range 9
def prs : List (Nat × Nat) := prN nine
def metN : List Ln := (prs.take 20).map fun p => ("met", [p.1, p.2])
def opensN : List Ln := ((prs.drop 20).take 4).map fun p => ("open", [p.1, p.2])
def revN (i : Nat) : Ln := ("open", [(prs.getD i (0, 0)).2, (prs.getD i (0, 0)).1])
def fineN : List (List Ln) := [metN ++ opensN, [], [("met", nine)], opensN, List.replicate 20 (metN.getD 0 ("", [])), metN.take 1 ++ metN.take 1 ++ opensN.take 1]
def badN : List (List Ln × Nat) := [(metN ++ metN.take 1, 22), (opensN ++ [revN 30], 6), (metN ++ opensN.take 1 ++ opensN.take 1, 23), (opensN.take 1 ++ metN.take 1, 3), (metN.take 1 ++ ([("people", nine)] : List Ln), 3), (metN.take 1 ++ [revN 0], 3), (opensN.take 1 ++ [revN 20], 3),
  ([("met", [0])], 2), ([("met", [0, 9])], 2), ([("met", [0, 0])], 2), ([("met", [])], 2), ([("", [])], 2), ([("open", [0])], 2), ([("open", [0, 0])], 2), ([("open", [0, 1, 2])], 2), ([("Met", [])], 2)]
theorem fine_all : ∀ ls ∈ fineN, runA nine 2 ls (0, []) = .inr () := by decide +kernel
theorem bad_all : ∀ q ∈ badN, runA nine 2 q.1 (0, []) = .inl q.2 := by decide +kernel
theorem fine_one : runA [0] 2 [] (0, []) = .inr () := by decide +kernel
/-- the texts that bear no drawn name -/
theorem fine_z : (∃ ot, parseH "people abcdefgh z" = .inr ot) := parse_inr (by decide +kernel)
theorem bad_own : ∀ x ∈ (["people", "", "people abcdefghi", "people A", "people a a", "people a1", "people  a", "people a ", " people a", "a"] : List Str), bare (parseH x) = .inl 1 := by decide +kernel
end K03

set_option Elab.async false
set_option linter.all false
set_option maxRecDepth 100000
set_option maxHeartbeats 4000000
namespace K03
open PySem MX
/-! from numbers to the drawn names -/
theorem pool_ok : ∀ x ∈ pool14, (32 ∉ TL.tl x ∧ 10 ∉ TL.tl x) ∧ (nameB x = true ∧ x.length ≤ 20) := by decide +kernel
theorem pool_nodup : pool14.Nodup := by decide +kernel
structure Drawn (ns : List Str) : Prop where
  len : ns.length = 10
  nd : ns.Nodup
  ok : ∀ x ∈ ns, Clean x ∧ nameB x = true ∧ x.length ≤ 20
theorem drawn_of {ns rest : List Str} (h : List.Perm (ns ++ rest) pool14) (l : ns.length = 10) : Drawn ns := by
  have nd := h.symm.nodup pool_nodup
  refine ⟨l, (List.nodup_append.mp nd).1, fun x hx => ?_⟩
  obtain ⟨a, b⟩ := pool_ok x (h.mem_iff.mp (List.mem_append_left _ hx))
  exact ⟨a, b.1, b.2⟩
def gN (ns : List Str) (i : Nat) : Str := ns.getD i ""
theorem gN_mem {ns : List Str} (d : Drawn ns) {i : Nat} (h : i < 10) : gN ns i ∈ ns := by
  unfold gN
  rw [List.getD_eq_getElem?_getD, List.getElem?_eq_getElem (by rw [d.len]; exact h)]
  exact List.getElem_mem _
theorem gN_inj {ns : List Str} (d : Drawn ns) : InjOn (gN ns) (fun i => i < 10) := by
  intro a b ha hb e
  unfold gN at e
  rw [List.getD_eq_getElem?_getD, List.getD_eq_getElem?_getD, List.getElem?_eq_getElem (by rw [d.len]; exact ha), List.getElem?_eq_getElem (by rw [d.len]; exact hb)] at e
  exact (List.getElem_inj d.nd).mp e
/-- a line of a word and drawn names -/
def lnS (ns : List Str) (l : Ln) : Str × List Str := (l.1, l.2.map (gN ns))
theorem people_ok {ns : List Str} (d : Drawn ns) {ps : List Nat} (h : ∀ i ∈ ps, i < 10) (n1 : 1 ≤ ps.length) (n9 : ps.length ≤ 9) (nd : ps.Nodup) : peopleB (("people" : Str) :: ps.map (gN ns)) = true := by
  have e1 : headIs (("people" : Str) :: ps.map (gN ns)) "people" = true := by unfold headIs; simp
  have e2 := nodup_ren (gN_inj d) ps h
  unfold peopleB
  rw [e1]
  show (true && (decide (1 ≤ (ps.map (gN ns)).length) && (decide ((ps.map (gN ns)).length ≤ 9) && (decide (ps.map (gN ns)).Nodup && (ps.map (gN ns)).all nameB)))) = true
  rw [List.length_map, decide_eq_true n1, decide_eq_true n9, e2, decide_eq_true nd]
  have e3 : (ps.map (gN ns)).all nameB = true := by
    rw [List.all_eq_true]
    intro x hx
    obtain ⟨i, hi, rfl⟩ := List.mem_map.mp hx
    exact (d.ok _ (gN_mem d (h i hi))).2.1
  rw [e3]
  rfl
def textOf (ns : List Str) (ps : List Nat) (ls : List Ln) : Str := Txt.join "\n" (((("people" : Str) :: ps.map (gN ns)) :: (ls.map (lnS ns)).map MX.wordsOf).map (Txt.join " "))
theorem text_reads {ns : List Str} (d : Drawn ns) {ps : List Nat} {ls : List Ln} (h : ∀ i ∈ ps, i < 10) (n1 : 1 ≤ ps.length) (n9 : ps.length ≤ 9) (nd : ps.Nodup) (hl : ∀ l ∈ ls, Clean l.1 ∧ ∀ i ∈ l.2, i < 10) :
    bare (parseH (textOf ns ps ls)) = runA ps 2 ls (0, []) := by
  have cl : ∀ i, i < 10 → Clean (gN ns i) := fun i hi => (d.ok _ (gN_mem d hi)).1
  unfold textOf
  rw [parse_of (by simp) (fun w hw => ?_) (fun l hm => ?_), if_pos (people_ok d h n1 n9 nd)]
  · show runA (ps.map (gN ns)) 2 (ls.map (lnS ns)) (0, []) = _
    exact run_ren (gN_inj d) h ls 2 0 [] (fun l hm => (hl l hm).2) (fun ys hy => by cases hy)
  · rcases List.mem_cons.mp hw with hw | hw
    · rw [hw]
      exact ⟨by decide +kernel, by decide +kernel⟩
    · obtain ⟨i, hi, rfl⟩ := List.mem_map.mp hw
      exact cl i (h i hi)
  · obtain ⟨l', hm', rfl⟩ := List.mem_map.mp hm
    refine ⟨(hl l' hm').1, fun w hw => ?_⟩
    obtain ⟨i, hi, rfl⟩ := List.mem_map.mp hw
    exact cl i ((hl l' hm').2 i hi)
end K03

set_option Elab.async false
set_option linter.all false
set_option maxRecDepth 100000
set_option maxHeartbeats 4000000
namespace MX
open PySem PySem.Spec PySem.W PySem.Calls PyProof.Rows L2
/-! ### what a value is, told so that it lasts -/
structure Rd where
  R : V → Hp → Prop
  st : ∀ v H H', LamX.ExtN H H' → R v H → R v H'
def All2 : List Rd → List V → Hp → Prop
  | [], [], _ => True
  | r :: rs, v :: vs, H => r.R v H ∧ All2 rs vs H
  | _, _, _ => False
theorem All2.st {H H' : Hp} (x : LamX.ExtN H H') : ∀ {rs : List Rd} {vs : List V}, All2 rs vs H → All2 rs vs H'
  | [], [], _ => trivial
  | r :: rs, v :: vs, h => ⟨r.st v H H' x h.1, All2.st x h.2⟩
  | [], _ :: _, h => h.elim
  | _ :: _, [], h => h.elim
theorem All2.len {H : Hp} : ∀ {rs : List Rd} {vs : List V}, All2 rs vs H → vs.length = rs.length
  | [], [], _ => rfl
  | r :: rs, v :: vs, h => congrArg Nat.succ (All2.len h.2)
  | [], _ :: _, h => h.elim
  | _ :: _, [], h => h.elim
theorem All2.app {H : Hp} : ∀ {rs ss : List Rd} {vs us : List V}, All2 rs vs H → All2 ss us H → All2 (rs ++ ss) (vs ++ us) H
  | [], _, [], _, _, g => g
  | r :: rs, _, v :: vs, _, h, g => ⟨h.1, All2.app h.2 g⟩
  | [], _, _ :: _, _, h, _ => h.elim
  | _ :: _, _, [], _, h, _ => h.elim
theorem All2.at {H : Hp} : ∀ {rs : List Rd} {vs : List V} {k : Nat} {x : V}, All2 rs vs H → vs[k]? = some x → ∃ r, rs[k]? = some r ∧ r.R x H
  | [], [], _, _, _, e => by simp at e
  | r :: rs, v :: vs, 0, x, h, e => ⟨r, rfl, by
    obtain rfl : v = x := by simpa using e
    exact h.1⟩
  | r :: rs, v :: vs, k + 1, x, h, e => All2.at (k := k) h.2 (by simpa using e)
  | [], _ :: _, _, _, h, _ => h.elim
  | _ :: _, [], _, _, h, _ => h.elim
theorem All2.get {H : Hp} : ∀ {rs : List Rd} {vs : List V} {k : Nat} {r : Rd}, All2 rs vs H → rs[k]? = some r → ∃ x, vs[k]? = some x ∧ r.R x H
  | [], [], _, _, _, e => by simp at e
  | r :: rs, v :: vs, 0, x, h, e => ⟨v, rfl, by
    obtain rfl : r = x := by simpa using e
    exact h.1⟩
  | r :: rs, v :: vs, k + 1, x, h, e => All2.get (k := k) h.2 (by simpa using e)
  | [], _ :: _, _, _, h, _ => h.elim
  | _ :: _, [], _, _, h, _ => h.elim
theorem All2.take {H : Hp} : ∀ {rs : List Rd} {vs : List V} (k : Nat), All2 rs vs H → All2 (rs.take k) (vs.take k) H
  | _, _, 0, _ => by simp [All2]
  | [], [], k + 1, _ => by simp [All2]
  | r :: rs, v :: vs, k + 1, h => ⟨h.1, All2.take k h.2⟩
  | [], _ :: _, _, h => h.elim
  | _ :: _, [], _, h => h.elim
theorem All2.drop {H : Hp} : ∀ {rs : List Rd} {vs : List V} (k : Nat), All2 rs vs H → All2 (rs.drop k) (vs.drop k) H
  | _, _, 0, h => h
  | [], [], k + 1, _ => trivial
  | r :: rs, v :: vs, k + 1, h => All2.drop k h.2
  | [], _ :: _, _, h => h.elim
  | _ :: _, [], _, h => h.elim
def oS (x : Str) : Rd := ⟨fun v _ => v = .str x, fun _ _ _ _ h => h⟩
def oI (n : Int) : Rd := ⟨fun v _ => v = .int n, fun _ _ _ _ h => h⟩
def oL (rs : List Rd) : Rd := ⟨fun v H => ∃ a vs, v = .ref a ∧ H a = some (.lst vs) ∧ All2 rs vs H, fun v H H' x h => by
  obtain ⟨a, vs, e, h1, h2⟩ := h
  exact ⟨a, vs, e, x a _ h1 (fun _ z => by cases z), h2.st x⟩⟩
def oT (rs : List Rd) : Rd := ⟨fun v H => ∃ a vs, v = .ref a ∧ H a = some (.tup vs) ∧ All2 rs vs H, fun v H H' x h => by
  obtain ⟨a, vs, e, h1, h2⟩ := h
  exact ⟨a, vs, e, x a _ h1 (fun _ z => by cases z), h2.st x⟩⟩
abbrev oSL (xs : List Str) : Rd := oL (xs.map oS)
theorem all_oS {H : Hp} : ∀ {xs : List Str} {vs : List V}, All2 (xs.map oS) vs H ↔ vs = xs.map V.str
  | [], [] => by simp [All2]
  | x :: xs, v :: vs => by
    show (v = V.str x ∧ All2 (xs.map oS) vs H) ↔ (v :: vs) = V.str x :: xs.map V.str
    rw [all_oS (xs := xs) (vs := vs), List.cons.injEq]
  | [], _ :: _ => by simp [All2]
  | _ :: _, [] => by simp [All2]
theorem oSL_iff {H : Hp} {v : V} {xs : List Str} : (oSL xs).R v H ↔ ∃ a, v = .ref a ∧ H a = some (.lst (xs.map V.str)) := by
  constructor
  · rintro ⟨a, vs, e, h1, h2⟩
    rw [all_oS] at h2
    exact ⟨a, e, h2 ▸ h1⟩
  · rintro ⟨a, e, h1⟩
    exact ⟨a, _, e, h1, all_oS.mpr rfl⟩
/-! ### the heap but for some places -/
def msk (M : List Addr) (H : Hp) : Hp := fun a => if a ∈ M then none else H a
theorem msk_of {M : List Addr} {H : Hp} {a : Addr} {o : HO} (h : msk M H a = some o) : H a = some o ∧ a ∉ M := by
  unfold msk at h
  by_cases c : a ∈ M
  · rw [if_pos c] at h; cases h
  · rw [if_neg c] at h; exact ⟨h, c⟩
theorem msk_in {M : List Addr} {H : Hp} {a : Addr} (h : a ∉ M) : msk M H a = H a := if_neg h
theorem msk_ext {M : List Addr} {H H' : Hp} (x : LamX.ExtN H H') : LamX.ExtN (msk M H) (msk M H') := fun b o h n => by
  obtain ⟨h, c⟩ := msk_of h
  rw [msk_in c]
  exact x b o h n
theorem msk_same {M : List Addr} {H H' : Hp} (x : Same H H') : Same (msk M H) (msk M H') := fun b o h => by
  obtain ⟨h, c⟩ := msk_of h
  rw [msk_in c]
  exact x b o h
theorem msk_sub {M : List Addr} {H : Hp} : Same (msk M H) H := fun _ _ h => (msk_of h).1
theorem msk_nil {H : Hp} : msk [] H = H := funext fun a => by simp [msk]
def Live (M : List Addr) (H : Hp) : Prop := ∀ b ∈ M, ∃ vs, H b = some (.lst vs)
theorem Live.nil {H : Hp} : Live [] H := fun _ h => by cases h
theorem Live.ext {M : List Addr} {H H' : Hp} (h : Live M H) (x : LamX.ExtN H H') : Live M H' := fun b hb => by
  obtain ⟨vs, e⟩ := h b hb
  exact ⟨vs, x b _ e fun _ z => by cases z⟩
theorem Live.free {M : List Addr} {H : Hp} {p : Addr} (h : Live M H) (n : H p = none) : p ∉ M := fun m => by
  obtain ⟨vs, e⟩ := h p m
  rw [n] at e
  cases e
theorem msk_new {M : List Addr} {H : Hp} {p : Addr} {o : HO} (h : Live M H) (n : H p = none) : msk M (L2.upd H p o) p = some o := by
  rw [msk_in (h.free n), upd_same]
theorem msk_upd {M : List Addr} {H : Hp} {p : Addr} {o : HO} (h : p ∈ M) : msk M (L2.upd H p o) = msk M H := funext fun a => by
  unfold msk
  by_cases c : a ∈ M
  · rw [if_pos c, if_pos c]
  · rw [if_neg c, if_neg c, upd_ne (fun z => c (by rw [z]; exact h))]
/-- a new thing at p that may change later -/
theorem msk_one {H : Hp} {p : Addr} {o : HO} (n : H p = none) : msk [p] (L2.upd H p o) = H := funext fun a => by
  unfold msk
  by_cases c : a = p
  · rw [if_pos (by rw [c]; exact List.mem_cons_self), c, n]
  · rw [if_neg (by simpa using c), upd_ne c]
/-! ### readings of plain expressions in a state that new things leave -/
section
variable {ι : Type} {Ev : ι → L2.St → Hp → Prop} {M : ι → List Addr}
/-- new things leave it -/
def Env (Ev : ι → L2.St → Hp → Prop) : Prop := ∀ i σ H H', Same H H' → Ev i σ H → Ev i σ H'
def EOk (Ev : ι → L2.St → Hp → Prop) (M : ι → List Addr) (i : ι) (σ : L2.St) (H : Hp) : Prop := Ev i σ (msk (M i) H) ∧ Live (M i) H
theorem EOk.same (E : Env Ev) {i : ι} {σ : L2.St} {H H' : Hp} (h : EOk Ev M i σ H) (s : Same H H') : EOk Ev M i σ H' := ⟨E i σ _ _ (msk_same s) h.1, h.2.ext (LamX.ExtN.of s)⟩
def tR (Ev : ι → L2.St → Hp → Prop) (M : ι → List Addr) (r : ι → Rd) : TE := fun σ H Q => ∃ i, EOk Ev M i σ H ∧ ∀ v H', Same H H' → (r i).R v (msk (M i) H') → Q v H'
def tRA (Ev : ι → L2.St → Hp → Prop) (M : ι → List Addr) (rs : ι → List Rd) : TA := fun σ H Q => ∃ i, EOk Ev M i σ H ∧ ∀ vs H', Same H H' → All2 (rs i) vs (msk (M i) H') → Q vs H'
section
variable {X : Cx} {a b c e o : Expr} {es : List Expr} {t t' : TE} {ta : TA} {pos : Pos}
theorem pe_mono (h : PE X e t) (m : ∀ σ H Q, t' σ H Q → t σ H Q) : PE X e t' := ⟨fun pins s σ H Q I q => h.run pins s σ H Q I (m σ H Q q)⟩
theorem pa_mono {u u' : TA} (h : PA X es u) (m : ∀ σ H Q, u' σ H Q → u σ H Q) : PA X es u' := ⟨fun pos pins s σ H Q I q => h.run pos pins s σ H Q I (m σ H Q q)⟩
theorem er_str {x : Str} {j} : PE X (.Constant (.str x) j pos) (tR Ev M fun _ => oS x) := pe_mono pe_str fun σ H Q ⟨i, _, k⟩ => k _ _ (Same.refl H) rfl
theorem er_int {n : Int} {j} : PE X (.Constant (.int n) j pos) (tR Ev M fun _ => oI n) := pe_mono pe_int fun σ H Q ⟨i, _, k⟩ => k _ _ (Same.refl H) rfl
theorem er_var {x : Str} {r : ι → Rd} (k : Nat) (h : ∀ i σ H, Ev i σ H → ∃ v, σ[k]? = some (some v) ∧ (r i).R v H) (hN : X.N[k]? = some x := by rfl) (hv : Vis X.env.scope x := by first | exact Or.inl rfl | exact Or.inr (Or.inl rfl) | exact Or.inr (Or.inr rfl)) (hd : (x == ("__debug__" : Str)) = false := by decide)
    (hcd : (x == ("__classdict__" : Str)) = false := by decide) : PE X (.Name x pos) (tR Ev M r) := pe_mono (pe_var hN hv hd hcd) fun σ H Q ⟨i, ok, q⟩ => by
  obtain ⟨v, e, hr⟩ := h i σ _ ok.1
  exact ⟨v, e, q v H (Same.refl H) hr⟩
theorem er_add (E : Env Ev) {x y : ι → Str} (ha : PE X a (tR Ev M fun i => oS (x i))) (hb : PE X b (tR Ev M fun i => oS (y i))) (l : ∀ i σ H, Ev i σ H → (x i).length + (y i).length ≤ sizeLine) : PE X (.BinOp a .Add b pos) (tR Ev M fun i => oS (x i ++ y i)) :=
  pe_mono (pe_op op_add_str ha hb) fun σ H Q ⟨i, ok, q⟩ => ⟨i, ok, fun v H1 s1 e1 => ⟨i, ok.same E s1, fun u H2 s2 e2 => ⟨_, _, e1, e2, l i σ _ ok.1, q _ _ (s1.trans s2) rfl⟩⟩⟩
theorem er_cat (E : Env Ev) {x y : ι → List Rd} (ha : PE X a (tR Ev M fun i => oL (x i))) (hb : PE X b (tR Ev M fun i => oL (y i))) (l : ∀ i σ H, Ev i σ H → (x i).length + (y i).length ≤ sizeLine) : PE X (.BinOp a .Add b pos) (tR Ev M fun i => oL (x i ++ y i)) :=
  pe_mono (pe_op op_cat ha hb) fun σ H Q ⟨i, ok, q⟩ => ⟨i, ok, fun v H1 s1 ⟨p1, v1, e1, h1, a1⟩ => ⟨i, ok.same E s1, fun u H2 s2 ⟨p2, v2, e2, h2, a2⟩ => by
    have a1' := a1.st (msk_ext (M := M i) (LamX.ExtN.of s2))
    refine ⟨p1, p2, v1, v2, e1, e2, s2 _ _ (msk_of h1).1, (msk_of h2).1, ?_, fun p hp => q _ _ ((s1.trans s2).trans (same_new hp)) ⟨p, _, rfl, msk_new ((ok.same E s1).same E s2).2 hp, (a1'.app a2).st (msk_ext (LamX.ExtN.of (same_new hp)))⟩⟩
    rw [a1.len, a2.len]
    exact l i σ _ ok.1⟩⟩
theorem er_catS (E : Env Ev) {x y : ι → List Str} (ha : PE X a (tR Ev M fun i => oSL (x i))) (hb : PE X b (tR Ev M fun i => oSL (y i))) (l : ∀ i σ H, Ev i σ H → (x i).length + (y i).length ≤ sizeLine) : PE X (.BinOp a .Add b pos) (tR Ev M fun i => oSL (x i ++ y i)) := by
  have z := er_cat E ha hb (pos := pos) (fun i σ H h => by rw [List.length_map, List.length_map]; exact l i σ H h)
  simp only [← List.map_append] at z
  exact z
theorem all_rep {H : Hp} {rs : List Rd} {vs : List V} (h : All2 rs vs H) : ∀ k : Nat, All2 (List.replicate k rs).flatten (List.replicate k vs).flatten H
  | 0 => trivial
  | k + 1 => by
    rw [List.replicate_succ, List.replicate_succ, List.flatten_cons, List.flatten_cons]
    exact h.app (all_rep h k)
theorem er_rep (E : Env Ev) {x : ι → List Rd} {k : Nat} (ha : PE X a (tR Ev M fun i => oL (x i))) (hb : PE X b (tR Ev M fun i => oI (k : Int))) (hk : k < 1000) (l : ∀ i σ H, Ev i σ H → (x i).length * k ≤ sizeLine) : PE X (.BinOp a .Mult b pos) (tR Ev M fun i => oL (List.replicate k (x i)).flatten) :=
  pe_mono (pe_op op_rep ha hb) fun σ H Q ⟨i, ok, q⟩ => ⟨i, ok, fun v H1 s1 ⟨p1, v1, e1, h1, a1⟩ => ⟨i, ok.same E s1, fun u H2 s2 e2 => by
    have a1' := a1.st (msk_ext (M := M i) (LamX.ExtN.of s2))
    refine ⟨p1, (k : Int), v1, e1, e2, s2 _ _ (msk_of h1).1, by omega, by omega, ?_, fun p hp => q _ _ ((s1.trans s2).trans (same_new hp)) ⟨p, _, rfl, msk_new ((ok.same E s1).same E s2).2 hp, ?_⟩⟩
    · rw [a1.len]
      exact l i σ _ ok.1
    · exact (all_rep a1' k).st (msk_ext (LamX.ExtN.of (same_new hp)))⟩⟩
theorem rep_map {α β : Type} (f : α → β) (xs : List α) (k : Nat) : (List.replicate k (xs.map f)).flatten = ((List.replicate k xs).flatten).map f := by
  rw [List.map_flatten, List.map_replicate]
theorem er_repS (E : Env Ev) {x : ι → List Str} {k : Nat} (ha : PE X a (tR Ev M fun i => oSL (x i))) (hb : PE X b (tR Ev M fun i => oI (k : Int))) (hk : k < 1000) (l : ∀ i σ H, Ev i σ H → (x i).length * k ≤ sizeLine) : PE X (.BinOp a .Mult b pos) (tR Ev M fun i => oSL (List.replicate k (x i)).flatten) := by
  have z := er_rep E ha hb hk (pos := pos) (fun i σ H h => by rw [List.length_map]; exact l i σ H h)
  simp only [rep_map] at z
  exact z
theorem cut_take (xs : List V) (k : Nat) : cutV xs none (some (k : Int)) = xs.take k := by
  unfold cutV
  rw [HT.sIx_none, HT.sIx_nat]
  show (xs.drop 0).take (min k xs.length - 0) = _
  rw [List.drop_zero, Nat.sub_zero]
  by_cases h : k ≤ xs.length
  · rw [Nat.min_eq_left h]
  · rw [Nat.min_eq_right (by omega), List.take_of_length_le (Nat.le_refl _), List.take_of_length_le (by omega)]
theorem cut_mid (xs : List V) (j k : Nat) (h : k ≤ xs.length) (hj : j ≤ k) : cutV xs (some (j : Int)) (some (k : Int)) = (xs.drop j).take (k - j) := by
  unfold cutV
  rw [HT.sIx_nat, HT.sIx_nat, Nat.min_eq_left h, Nat.min_eq_left (by omega)]
theorem er_take (E : Env Ev) {x : ι → List Rd} {k : Nat} {p2 : Pos} (ha : PE X a (tR Ev M fun i => oL (x i))) (hb : PE X b (tR Ev M fun i => oI (k : Int))) : PE X (.Subscript a (.Slice none (some b) none p2) pos) (tR Ev M fun i => oL ((x i).take k)) :=
  pe_mono (pe_slice sl_list ha po_none (po_some hb)) fun σ H Q ⟨i, ok, q⟩ => ⟨i, ok, fun v H1 s1 ⟨p1, v1, e1, h1, a1⟩ => ⟨i, ok.same E s1, fun u H2 s2 e2 => ⟨(k : Int), e2, p1, v1, e1, SqL.of (s2 _ _ (msk_of h1).1), fun p hp => q _ _ ((s1.trans s2).trans (same_new hp)) ⟨p, _, rfl, msk_new ((ok.same E s1).same E s2).2 hp, by
    rw [cut_take]
    exact ((a1.take k).st (msk_ext (LamX.ExtN.of s2))).st (msk_ext (LamX.ExtN.of (same_new hp)))⟩⟩⟩⟩
theorem er_takeS (E : Env Ev) {x : ι → List Str} {k : Nat} {p2 : Pos} (ha : PE X a (tR Ev M fun i => oSL (x i))) (hb : PE X b (tR Ev M fun i => oI (k : Int))) : PE X (.Subscript a (.Slice none (some b) none p2) pos) (tR Ev M fun i => oSL ((x i).take k)) := by
  have z := er_take E ha hb (pos := pos) (p2 := p2)
  simp only [← List.map_take] at z
  exact z
theorem er_mid (E : Env Ev) {x : ι → List Rd} {j k : Nat} {p2 : Pos} (ha : PE X a (tR Ev M fun i => oL (x i))) (hb : PE X b (tR Ev M fun i => oI (j : Int))) (hc : PE X c (tR Ev M fun i => oI (k : Int))) (l : ∀ i σ H, Ev i σ H → k ≤ (x i).length ∧ j ≤ k) : PE X (.Subscript a (.Slice (some b) (some c) none p2) pos) (tR Ev M fun i => oL (((x i).drop j).take (k - j))) :=
  pe_mono (pe_slice sl_list ha (po_some hb) (po_some hc)) fun σ H Q ⟨i, ok, q⟩ => ⟨i, ok, fun v H1 s1 ⟨p1, v1, e1, h1, a1⟩ => ⟨i, ok.same E s1, fun u H2 s2 e2 => ⟨(j : Int), e2, i, (ok.same E s1).same E s2, fun u3 H3 s3 e3 => ⟨(k : Int), e3, p1, v1, e1, SqL.of (s3 _ _ (s2 _ _ (msk_of h1).1)), fun p hp => q _ _ (((s1.trans s2).trans s3).trans (same_new hp)) ⟨p, _, rfl, msk_new (((ok.same E s1).same E s2).same E s3).2 hp, by
    have z := l i σ _ ok.1
    rw [cut_mid v1 j k (by rw [a1.len]; exact z.1) z.2]
    exact ((((a1.drop j).take (k - j)).st (msk_ext (LamX.ExtN.of s2))).st (msk_ext (LamX.ExtN.of s3))).st (msk_ext (LamX.ExtN.of (same_new hp)))⟩⟩⟩⟩⟩
/-- an item of a list by its number -/
theorem er_ix (E : Env Ev) {x : ι → List Rd} {r : ι → Rd} {k : Nat} (ha : PE X a (tR Ev M fun i => oL (x i))) (hb : PE X b (tR Ev M fun i => oI (k : Int))) (hs : PlainIx b) (h : ∀ i σ H, Ev i σ H → (x i)[k]? = some (r i)) : PE X (.Subscript a b pos) (tR Ev M r) :=
  pe_mono (pe_ix ix_list ha hb hs) fun σ H Q ⟨i, ok, q⟩ => ⟨i, ok, fun v H1 s1 ⟨p1, v1, e1, h1, a1⟩ => ⟨i, ok.same E s1, fun u H2 s2 e2 => by
    obtain ⟨y, hy, ry⟩ := (a1.st (msk_ext (M := M i) (LamX.ExtN.of s2))).get (h i σ _ ok.1)
    exact ⟨p1, v1, (k : Int), y, e1, e2, SqL.of (s2 _ _ (msk_of h1).1), atI_nat hy, q _ _ (s1.trans s2) ry⟩⟩⟩
theorem er_ixT (E : Env Ev) {x : ι → List Rd} {r : ι → Rd} {k : Nat} (ha : PE X a (tR Ev M fun i => oT (x i))) (hb : PE X b (tR Ev M fun i => oI (k : Int))) (hs : PlainIx b) (h : ∀ i σ H, Ev i σ H → (x i)[k]? = some (r i)) : PE X (.Subscript a b pos) (tR Ev M r) :=
  pe_mono (pe_ix ix_tup ha hb hs) fun σ H Q ⟨i, ok, q⟩ => ⟨i, ok, fun v H1 s1 ⟨p1, v1, e1, h1, a1⟩ => ⟨i, ok.same E s1, fun u H2 s2 e2 => by
    obtain ⟨y, hy, ry⟩ := (a1.st (msk_ext (M := M i) (LamX.ExtN.of s2))).get (h i σ _ ok.1)
    exact ⟨p1, v1, (k : Int), y, e1, e2, SqT.of (s2 _ _ (msk_of h1).1), atI_nat hy, q _ _ (s1.trans s2) ry⟩⟩⟩
theorem er_join (E : Env Ev) {x : ι → Str} {ys : ι → List Str} {apos : Pos} (ho : PE X o (tR Ev M fun i => oS (x i))) (he : PE X e (tR Ev M fun i => oSL (ys i))) (l : ∀ i σ H, Ev i σ H → ((ys i).map (·.length)).sum + (ys i).length * (x i).length ≤ 16777216)
    (hs : starEach [e] X.env = [(false, eval e X.env)] := by rfl) (hbase : attributeBase o "join" X.env (eval o X.env) = eval o X.env := by rfl) (hline : (apos.endLine == pos.line) = true := by rfl) :
    PE X (.Call (.Attribute o "join" apos) [e] [] pos) (tR Ev M fun i => oS (Txt.join (x i) (ys i))) :=
  pe_mono (pe_join ho he hs hbase hline) fun σ H Q ⟨i, ok, q⟩ => ⟨i, ok, fun v H1 s1 e1 => ⟨⟨_, e1⟩, i, ok.same E s1, fun u H2 s2 r2 => by
    obtain ⟨p, e2, h2⟩ := oSL_iff.mp r2
    subst e2
    exact ⟨x i, p, ys i, e1, rfl, .inl (SqL.of (msk_of h2).1), l i σ _ ok.1, q _ _ (s1.trans s2) rfl⟩⟩⟩
theorem ea_nil : PA X [] (tRA Ev M fun _ => []) := pa_mono pa_nil fun σ H Q ⟨i, ok, q⟩ => q [] H (Same.refl H) trivial
theorem ea_cons (E : Env Ev) {r : ι → Rd} {rs : ι → List Rd} (he : PE X e (tR Ev M r)) (ht : PA X es (tRA Ev M rs)) (hs : starEach (e :: es) X.env = (false, eval e X.env) :: starEach es X.env := by rfl) : PA X (e :: es) (tRA Ev M fun i => r i :: rs i) :=
  pa_mono (pa_cons he ht hs) fun σ H Q ⟨i, ok, q⟩ => ⟨i, ok, fun v H1 s1 e1 => ⟨i, ok.same E s1, fun vs H2 s2 e2 => q _ _ (s1.trans s2) ⟨(r i).st _ _ _ (msk_ext (LamX.ExtN.of s2)) e1, e2⟩⟩⟩
theorem er_lst (E : Env Ev) {rs : ι → List Rd} (h : PA X es (tRA Ev M rs)) (l : ∀ i σ H, Ev i σ H → (rs i).length ≤ sizeLine) : PE X (.List es pos) (tR Ev M fun i => oL (rs i)) :=
  pe_mono (pe_lst h) fun σ H Q ⟨i, ok, q⟩ => ⟨i, ok, fun vs H1 s1 a1 => ⟨by rw [a1.len]; exact l i σ _ ok.1, fun p hp => q _ _ (s1.trans (same_new hp)) ⟨p, vs, rfl, msk_new (ok.same E s1).2 hp, a1.st (msk_ext (LamX.ExtN.of (same_new hp)))⟩⟩⟩
theorem er_tup (E : Env Ev) {rs : ι → List Rd} {x1} (h : PA X es (tRA Ev M rs)) (l : ∀ i σ H, Ev i σ H → (rs i).length ≤ sizeLine) : PE X (.Tuple es x1 pos) (tR Ev M fun i => oT (rs i)) :=
  pe_mono (pe_tup h) fun σ H Q ⟨i, ok, q⟩ => ⟨i, ok, fun vs H1 s1 a1 => ⟨by rw [a1.len]; exact l i σ _ ok.1, fun p hp => q _ _ (s1.trans (same_new hp)) ⟨p, vs, rfl, msk_new (ok.same E s1).2 hp, a1.st (msk_ext (LamX.ExtN.of (same_new hp)))⟩⟩⟩
end
/-! ### a list that grows -/
def Grow (M : List Addr) (b : Addr) (rs : List Rd) (H : Hp) : Prop := ∃ vs, H b = some (.lst vs) ∧ All2 rs vs (msk M H)
theorem Grow.ext {M : List Addr} {b : Addr} {rs : List Rd} {H H' : Hp} (h : Grow M b rs H) (x : LamX.ExtN H H') : Grow M b rs H' := by
  obtain ⟨vs, e, a⟩ := h
  exact ⟨vs, x b _ e (fun _ z => by cases z), a.st (msk_ext x)⟩
def tGrow (Ev : ι → L2.St → Hp → Prop) (M : ι → List Addr) (k : Nat) (r : ι → List Rd) : TS := fun D σ H => ∃ i b rs, σ[k]? = some (some (.ref b)) ∧ b ∈ M i ∧ EOk Ev M i σ H ∧ Grow (M i) b rs H ∧ rs.length + (r i).length < sizeLine ∧
  ∀ H', EOk Ev M i σ H' → Grow (M i) b (rs ++ r i) H' → LamX.ExtN (msk (M i) H) (msk (M i) H') → D.nx σ H'
theorem Live.upd {M : List Addr} {H : Hp} {b : Addr} {vs : List V} (h : Live M H) : Live M (L2.upd H b (.lst vs)) := fun c hc => by
  by_cases z : c = b
  · rw [z, upd_same]; exact ⟨_, rfl⟩
  · rw [upd_ne z]; exact h c hc
section
variable {X : Cx} {e : Expr} {pos apos pos' : Pos} {y : Str} {py : Pos}
theorem es_append (E : Env Ev) {r : ι → Rd} (k : Nat) (he : PE X e (tR Ev M r)) (hN : X.N[k]? = some y := by rfl) (hv : Vis X.env.scope y := by first | exact Or.inl rfl | exact Or.inr (Or.inl rfl) | exact Or.inr (Or.inr rfl)) (hd : (y == ("__debug__" : Str)) = false := by decide)
    (hcd : (y == ("__classdict__" : Str)) = false := by decide) (hs : swapsWith (.Call (.Attribute (.Name y py) "append" apos) [e] [] pos) none pos'.line X.env = pure false := by rfl)
    (hbase : attributeBase (.Name y py) "append" X.env (eval (.Name y py) X.env) = eval (.Name y py) X.env := by rfl)
    (hfew : ((backTo pos (starEach [e] X.env)).all (fun x => !x.1) && (backToKw pos (keywordEach [] X.env)).all (fun x => x.1.isSome)
      && decide (([e] : List Expr).length + ([] : List Keyword).length + (if ([] : List Keyword).isEmpty then 0 else 1) < 30)) = true := by rfl)
    (hline : (apos.endLine == pos.line) = true := by rfl) (hst : starEach [e] X.env = (false, eval e X.env) :: starEach [] X.env := by rfl) (hplain : (backTo pos (starEach [] X.env)).any (·.1) = false := by rfl) :
    PS X (.Expr (.Call (.Attribute (.Name y py) "append" apos) [e] [] pos) pos') (tGrow Ev M k fun i => [r i]) := by
  refine ⟨fun pins s σ H D I ⟨i, b, rs, hb, hm, ok, ⟨vs, e1, a1⟩, l, q⟩ => ?_⟩
  refine (ps_expr (pe_bm PySem.F.plainAttrs_list PySem.F.slot_list_append PySem.F.type_list_append mt_append (pe_var hN hv hd hcd) (pa_cons he pa_nil hst) hbase hfew hline hst hplain) hs).run pins s σ H D I ?_
  refine ⟨_, hb, .inl ⟨rfl, _, SqL.of e1⟩, i, ok, fun v H1 s1 r1 => ⟨b, vs, v, rfl, rfl, s1 _ _ e1, ?_, ?_⟩⟩
  · rw [a1.len]
    have z : rs.length + 1 < sizeLine := l
    omega
  · have ok1 := ok.same E s1
    refine q _ ⟨?_, ok1.2.upd⟩ ⟨_, upd_same, ?_⟩ ?_
    · rw [msk_upd hm]; exact ok1.1
    · rw [msk_upd hm]
      exact (a1.st (msk_ext (LamX.ExtN.of s1))).app ⟨r1, trivial⟩
    · rw [msk_upd hm]
      exact msk_ext (LamX.ExtN.of s1)
theorem es_extend (E : Env Ev) {r : ι → List Rd} (k : Nat) (he : PE X e (tR Ev M fun i => oL (r i))) (hN : X.N[k]? = some y := by rfl) (hv : Vis X.env.scope y := by first | exact Or.inl rfl | exact Or.inr (Or.inl rfl) | exact Or.inr (Or.inr rfl)) (hd : (y == ("__debug__" : Str)) = false := by decide)
    (hcd : (y == ("__classdict__" : Str)) = false := by decide) (hs : swapsWith (.Call (.Attribute (.Name y py) "extend" apos) [e] [] pos) none pos'.line X.env = pure false := by rfl)
    (hbase : attributeBase (.Name y py) "extend" X.env (eval (.Name y py) X.env) = eval (.Name y py) X.env := by rfl)
    (hfew : ((backTo pos (starEach [e] X.env)).all (fun x => !x.1) && (backToKw pos (keywordEach [] X.env)).all (fun x => x.1.isSome)
      && decide (([e] : List Expr).length + ([] : List Keyword).length + (if ([] : List Keyword).isEmpty then 0 else 1) < 30)) = true := by rfl)
    (hline : (apos.endLine == pos.line) = true := by rfl) (hst : starEach [e] X.env = (false, eval e X.env) :: starEach [] X.env := by rfl) (hplain : (backTo pos (starEach [] X.env)).any (·.1) = false := by rfl) :
    PS X (.Expr (.Call (.Attribute (.Name y py) "extend" apos) [e] [] pos) pos') (tGrow Ev M k r) := by
  refine ⟨fun pins s σ H D I ⟨i, b, rs, hb, hm, ok, ⟨vs, e1, a1⟩, l, q⟩ => ?_⟩
  refine (ps_expr (pe_bm PySem.F.plainAttrs_list PySem.F.slot_list_extend PySem.F.type_list_extend mt_extend (pe_var hN hv hd hcd) (pa_cons he pa_nil hst) hbase hfew hline hst hplain) hs).run pins s σ H D I ?_
  refine ⟨_, hb, .inl ⟨rfl, _, SqL.of e1⟩, i, ok, fun v H1 s1 ⟨c, us, ec, e2, a2⟩ => ?_⟩
  subst ec
  refine ⟨b, c, vs, us, rfl, rfl, s1 _ _ e1, (msk_of e2).1, ?_, ?_⟩
  · rw [a1.len, a2.len]
    omega
  · have ok1 := ok.same E s1
    refine q _ ⟨?_, ok1.2.upd⟩ ⟨_, upd_same, ?_⟩ ?_
    · rw [msk_upd hm]; exact ok1.1
    · rw [msk_upd hm]
      exact (a1.st (msk_ext (LamX.ExtN.of s1))).app a2
    · rw [msk_upd hm]
      exact msk_ext (LamX.ExtN.of s1)
end
end
end MX

set_option Elab.async false
set_option linter.all false
set_option maxRecDepth 100000
set_option maxHeartbeats 4000000
namespace MX
open PySem PySem.Spec PySem.W PySem.Calls PyProof.Rows L2
section
variable {ι : Type} {Ev : ι → L2.St → Hp → Prop} {M : ι → List Addr} {X : Cx} {e : Expr} {pos : Pos}
theorem er_v {k : Nat} (hv : PE X e (tVar k)) {r : ι → Rd} (h : ∀ i σ H, Ev i σ H → ∃ v, σ[k]? = some (some v) ∧ (r i).R v H) : PE X e (tR Ev M r) := pe_mono hv fun σ H Q ⟨i, ok, q⟩ => by
  obtain ⟨v, e, hr⟩ := h i σ _ ok.1
  exact ⟨v, e, q v H (Same.refl H) hr⟩
/-- a state with a line in the slot k -/
def EvL (Ev : ι → L2.St → Hp → Prop) (k : Nat) (j : ι × Str) (σ : L2.St) (H : Hp) : Prop := Ev j.1 σ H ∧ σ[k]? = some (some (.str j.2))
theorem EvL.env (E : Env Ev) (k : Nat) : Env (EvL Ev k) := fun j σ H H' s h => ⟨E j.1 σ H H' s h.1, h.2⟩
/-- for line in (texts): b.append(..) -/
theorem rows_loop (E : Env Ev) {K : PySem.W.Frag} {L : ι → List Str} {row : ι → Str → Rd} {k7 k8 : Nat} (h78 : k8 ≠ k7) (hset : ∀ i σ u H, Ev i σ H → Ev i (σ.set k8 u) H) (hlen : ∀ i σ H, Ev i σ H → k8 < σ.length) {D : Ends} {σ : L2.St} {H : Hp}
    (h : ∃ i b rs, σ[k7]? = some (some (.ref b)) ∧ b ∈ M i ∧ EOk Ev M i σ H ∧ Grow (M i) b rs H ∧ rs.length + (L i).length < sizeLine ∧
      ∀ σ' H', σ'[k7]? = some (some (.ref b)) → EOk Ev M i σ' H' → Grow (M i) b (rs ++ (L i).map (row i)) H' → D.nx σ' H') :
    tFor (iTup K (tR Ev M fun i => oT ((L i).map oS))) (gName k8) (tGrow (EvL Ev k8) (fun j => M j.1) k7 (fun j => [row j.1 j.2])) D σ H := by
  obtain ⟨i, b, rs, hb, hm, ok, gr, hl, q⟩ := h
  refine ⟨i, ok, fun v H1 s1 ⟨a, vs, ev, ea, al⟩ => ?_⟩
  subst ev
  obtain rfl := all_oS.mp al
  refine ⟨a, rfl, ⟨_, SqT.of (msk_of ea).1⟩, for_tup (xs := (L i).map V.str) (fun n σ' H' => σ'[k7]? = some (some (.ref b)) ∧ EOk Ev M i σ' H' ∧ Grow (M i) b (rs ++ ((L i).take n).map (row i)) H' ∧ msk (M i) H' a = some (.tup ((L i).map V.str)))
    ⟨hb, ok.same E s1, by rw [List.take_zero, List.map_nil, List.append_nil]; exact gr.ext (LamX.ExtN.of s1), ea⟩ (fun n σ' H' _ z => SqT.of (msk_of z.2.2.2).1) ?_ ?_⟩
  · rintro n x σ' H' hx ⟨hb', ok', gr', ea'⟩
    rw [List.getElem?_map] at hx
    obtain ⟨y, hy, rfl⟩ := Option.map_eq_some_iff.mp hx
    have hn : n < (L i).length := (List.getElem?_eq_some_iff.mp hy).1
    refine ⟨(i, y), b, _, ?_, hm, ⟨⟨hset i σ' _ _ ok'.1, ?_⟩, ok'.2⟩, gr', ?_, fun H2 ok2 gr2 x2 => ⟨?_, ⟨ok2.1.1, ok2.2⟩, ?_, x2 _ _ ea' (fun _ z => by cases z)⟩⟩
    · rw [List.getElem?_set_ne h78]; exact hb'
    · rw [List.getElem?_set_self (hlen i σ' _ ok'.1)]
    · simp only [List.length_append, List.length_map, List.length_take, List.length_cons, List.length_nil]
      have z := Nat.min_le_left n (L i).length
      omega
    · rw [List.getElem?_set_ne h78]; exact hb'
    · have e1 : (L i).take (n + 1) = (L i).take n ++ [y] := by
        rw [List.take_add_one, hy]
        rfl
      rw [e1, List.map_append, ← List.append_assoc]
      exact gr2
  · rintro σ' H' ⟨hb', ok', gr', _⟩
    rw [List.length_map, List.take_length] at gr'
    exact q σ' H' hb' ok' gr'
end
end MX

set_option Elab.async false
set_option linter.all false
set_option maxRecDepth 100000
set_option maxHeartbeats 4000000
namespace K03
open PySem PySem.Spec PySem.W PySem.Calls PyProof.Rows L2 MX
/-! the lists of rows as the law writes them, and that each reads as it should -/
def headS (ns : List Str) : Str := "people " ++ Txt.join " " (ns.take 9)
def prS (ns : List Str) : List (Str × Str) := pairsOf (ns.take 9)
def ln2 (w : Str) (q : Str × Str) : Str := w ++ q.1 ++ " " ++ q.2
def metS (ns : List Str) : List Str := ((prS ns).take 20).map (ln2 "met ")
def opS (ns : List Str) : List Str := (((prS ns).drop 20).take 4).map (ln2 "open ")
def pP (ns : List Str) (k : Nat) : Str × Str := (prS ns).getD k ("", "")
def rvS (ns : List Str) (k : Nat) : Str := "open " ++ (pP ns k).2 ++ " " ++ (pP ns k).1
def fineS (ns : List Str) : List (List Str) := [[headS ns] ++ metS ns ++ opS ns, [headS ns], ["people " ++ gN ns 0], [headS ns, "met " ++ Txt.join " " (ns.take 9)], [headS ns] ++ opS ns] ++
  [[headS ns] ++ (List.replicate 20 ((metS ns).take 1)).flatten, ["people abcdefgh z"], [headS ns] ++ (metS ns).take 1 ++ (metS ns).take 1 ++ (opS ns).take 1]
def lines1 (ns : List Str) : List Str := ["met " ++ gN ns 0, "met " ++ gN ns 0 ++ " " ++ gN ns 9, "met " ++ gN ns 0 ++ " " ++ gN ns 0, "met", ""]
def lines2 (ns : List Str) : List Str := ["open " ++ gN ns 0, "open " ++ gN ns 0 ++ " " ++ gN ns 0, "open " ++ Txt.join " " (ns.take 3), "Met a b"]
def lines3 : List Str := ["people abcdefghi", "people A", "people a a", "people a1", "people  a", "people a ", " people a", "a"]
abbrev Row := List Str × Nat
def bad1 (ns : List Str) : List Row := [(["people " ++ Txt.join " " ns], 1), ([headS ns] ++ metS ns ++ (metS ns).take 1, 22), (["people"], 1), ([""], 1), (metS ns, 1)]
def bad2 (ns : List Str) : List Row := [([headS ns] ++ opS ns ++ [rvS ns 30], 6)]
def bad3 (ns : List Str) : List Row := [([headS ns] ++ metS ns ++ (List.replicate 2 ((opS ns).take 1)).flatten, 23), ([headS ns] ++ (opS ns).take 1 ++ (metS ns).take 1, 3), ([headS ns] ++ (metS ns).take 1 ++ [headS ns], 3)]
def bad4 (ns : List Str) : List Row := [([headS ns, (metS ns).getD 0 "", rvS ns 0], 3)]
def bad5 (ns : List Str) : List Row := [([headS ns] ++ (opS ns).take 1 ++ [rvS ns 20], 3)]
def badS (ns : List Str) : List Row := bad1 ns ++ bad2 ns ++ bad3 ns ++ bad4 ns ++ bad5 ns ++ (lines1 ns).map (fun x => ([headS ns, x], 2)) ++ (lines2 ns).map (fun x => ([headS ns, x], 2)) ++ lines3.map (fun x => ([x], 1))
/-! ### texts -/
theorem jn2 (w x : Str) : Txt.join " " [w, x] = w ++ " " ++ x := by
  apply TL.ext_tl
  rw [TL.join_eq, TL.tl_join, TL.tl_append, TL.tl_append]
  show TL.tl w ++ (TL.tl " " ++ TL.tl x) = _
  rw [List.append_assoc]
theorem jn_cons (w x : Str) (r : List Str) : Txt.join " " (w :: x :: r) = w ++ " " ++ Txt.join " " (x :: r) := by
  apply TL.ext_tl
  rw [TL.join_eq, TL.tl_join, TL.tl_append, TL.tl_append, TL.join_eq, TL.tl_join]
  show TL.tl w ++ (TL.tl " " ++ TL.joinL (TL.tl " ") ((x :: r).map TL.tl)) = _
  rw [List.append_assoc]
theorem ap3 (a b c : Str) : a ++ b ++ c = a ++ (b ++ c) := by
  apply TL.ext_tl
  simp only [TL.tl_append, List.append_assoc]
theorem jn3 (w x y : Str) : Txt.join " " [w, x, y] = w ++ " " ++ x ++ " " ++ y := by
  rw [jn_cons, jn2]
  simp only [ap3]
theorem w_met : ("met " : Str) = ("met" : Str) ++ " " := by decide +kernel
theorem w_open : ("open " : Str) = ("open" : Str) ++ " " := by decide +kernel
theorem w_people : ("people " : Str) = ("people" : Str) ++ " " := by decide +kernel
def rowOf (ns : List Str) (l : Ln) : Str := Txt.join " " (MX.wordsOf (lnS ns l))
def rowsOf (ns : List Str) (ps : List Nat) (ls : List Ln) : List Str := Txt.join " " (("people" : Str) :: ps.map (gN ns)) :: ls.map (rowOf ns)
theorem text_rows (ns : List Str) (ps : List Nat) (ls : List Ln) : textOf ns ps ls = Txt.join "\n" (rowsOf ns ps ls) := by
  unfold textOf rowsOf
  rw [List.map_cons, List.map_map, List.map_map]
  rfl
theorem pairs_map {g : Nat → Str} : ∀ xs : List Nat, pairsOf (xs.map g) = (prN xs).map fun p => (g p.1, g p.2)
  | [] => rfl
  | x :: r => by
    show (r.map g).map (fun y => (g x, y)) ++ pairsOf (r.map g) = (r.map (fun y => (x, y)) ++ prN r).map _
    rw [pairs_map r, List.map_append, List.map_map, List.map_map]
    rfl
section
variable {ns : List Str}
theorem take_eq (d : Drawn ns) {k : Nat} (h : k ≤ 10) : ns.take k = (List.range k).map (gN ns) := by
  apply List.ext_getElem
  · rw [List.length_take, d.len, List.length_map, List.length_range]
    omega
  · intro i h1 h2
    rw [List.length_map, List.length_range] at h2
    rw [List.getElem_take, List.getElem_map, List.getElem_range]
    unfold gN
    rw [List.getD_eq_getElem?_getD, List.getElem?_eq_getElem (by rw [d.len]; omega)]
    rfl
theorem all_eq (d : Drawn ns) : ns = (List.range 10).map (gN ns) := by
  rw [← take_eq d (Nat.le_refl _), ← d.len, List.take_length]
theorem pr_eq (d : Drawn ns) : prS ns = prs.map fun p => (gN ns p.1, gN ns p.2) := by
  unfold prS
  rw [take_eq d (by decide), pairs_map]
  rfl
theorem head_eq (d : Drawn ns) : headS ns = Txt.join " " (("people" : Str) :: nine.map (gN ns)) := by
  unfold headS
  rw [take_eq d (by decide)]
  show _ = Txt.join " " (("people" : Str) :: gN ns 0 :: ([1, 2, 3, 4, 5, 6, 7, 8] : List Nat).map (gN ns))
  rw [jn_cons, w_people]
  rfl
theorem met_eq (d : Drawn ns) : metS ns = metN.map (rowOf ns) := by
  unfold metS metN
  rw [pr_eq d, ← List.map_take, List.map_map, List.map_map]
  refine List.map_congr_left fun p _ => ?_
  show ("met " : Str) ++ gN ns p.1 ++ " " ++ gN ns p.2 = Txt.join " " [("met" : Str), gN ns p.1, gN ns p.2]
  rw [jn3, w_met]
theorem op_eq (d : Drawn ns) : opS ns = opensN.map (rowOf ns) := by
  unfold opS opensN
  rw [pr_eq d, ← List.map_drop, ← List.map_take, List.map_map, List.map_map]
  refine List.map_congr_left fun p _ => ?_
  show ("open " : Str) ++ gN ns p.1 ++ " " ++ gN ns p.2 = Txt.join " " [("open" : Str), gN ns p.1, gN ns p.2]
  rw [jn3, w_open]
theorem rv_eq (d : Drawn ns) {k : Nat} (h : k < prs.length) : rvS ns k = rowOf ns (revN k) := by
  have e : pP ns k = (gN ns (prs.getD k (0, 0)).1, gN ns (prs.getD k (0, 0)).2) := by
    unfold pP
    rw [pr_eq d, List.getD_eq_getElem?_getD, List.getD_eq_getElem?_getD, List.getElem?_map, List.getElem?_eq_getElem h]
    rfl
  unfold rvS revN
  rw [e]
  show ("open " : Str) ++ _ ++ " " ++ _ = Txt.join " " [("open" : Str), _, _]
  rw [jn3, w_open]
/-- what is asked of lines in numbers, decided -/
def lnB (l : Ln) : Bool := decide (32 ∉ TL.tl l.1) && (decide (10 ∉ TL.tl l.1) && (decide (l.1.length ≤ 20) && (decide (l.2.length ≤ 90) && l.2.all fun i => decide (i < 10))))
def conB (ps : List Nat) (ls : List Ln) : Bool := ps.all (fun i => decide (i < 10)) && (decide (ps.length ≤ 20) && (decide (ls.length ≤ 90) && ls.all lnB))
theorem lnB_ok {l : Ln} (h : lnB l = true) : (Clean l.1 ∧ l.1.length ≤ 20) ∧ l.2.length ≤ 90 ∧ ∀ i ∈ l.2, i < 10 := by
  unfold lnB at h
  simp only [Bool.and_eq_true, decide_eq_true_eq, List.all_eq_true] at h
  obtain ⟨h1, h2, h3, h4, h5⟩ := h
  exact ⟨⟨⟨h1, h2⟩, h3⟩, h4, h5⟩
theorem conB_ok {ps : List Nat} {ls : List Ln} (h : conB ps ls = true) : (∀ i ∈ ps, i < 10) ∧ ps.length ≤ 20 ∧ ls.length ≤ 90 ∧ ∀ l ∈ ls, lnB l = true := by
  unfold conB at h
  simp only [Bool.and_eq_true, decide_eq_true_eq, List.all_eq_true] at h
  exact ⟨h.1, h.2.1, h.2.2.1, h.2.2.2⟩
theorem clean_people : Clean "people" := ⟨by decide +kernel, by decide +kernel⟩
theorem rows_text {ps : List Nat} {ls : List Ln} : rowsOf ns ps ls = ((("people" : Str) :: ps.map (gN ns)) :: (ls.map (lnS ns)).map MX.wordsOf).map (Txt.join " ") := by
  unfold rowsOf
  rw [List.map_cons, List.map_map, List.map_map]
  rfl
theorem lines_ok (d : Drawn ns) {ls : List Ln} (h : ∀ l ∈ ls, lnB l = true) : ∀ ws ∈ (ls.map (lnS ns)).map MX.wordsOf, ws ≠ [] ∧ (∀ w ∈ ws, Clean w ∧ w.length ≤ 20) ∧ ws.length ≤ 100 := by
  intro ws hw
  obtain ⟨l', hl', rfl⟩ := List.mem_map.mp hw
  obtain ⟨l, hl, rfl⟩ := List.mem_map.mp hl'
  obtain ⟨h1, h2, h3⟩ := lnB_ok (h l hl)
  refine ⟨fun z => (by cases z), fun w hm => ?_, ?_⟩
  · rcases List.mem_cons.mp hm with hm | hm
    · rw [hm]; exact h1
    · obtain ⟨i, hi, rfl⟩ := List.mem_map.mp hm
      exact ⟨(d.ok _ (gN_mem d (h3 i hi))).1, (d.ok _ (gN_mem d (h3 i hi))).2.2⟩
  · show ((l.2.map (gN ns)).length + 1) ≤ 100
    rw [List.length_map]
    omega
theorem words_ok (d : Drawn ns) {w0 : Str} (h0 : Clean w0 ∧ w0.length ≤ 20) {ps : List Nat} (h : ∀ i ∈ ps, i < 10) : ∀ w ∈ (w0 :: ps.map (gN ns)), Clean w ∧ w.length ≤ 20 := by
  intro w hm
  rcases List.mem_cons.mp hm with hm | hm
  · rw [hm]; exact h0
  · obtain ⟨i, hi, rfl⟩ := List.mem_map.mp hm
    exact ⟨(d.ok _ (gN_mem d (h i hi))).1, (d.ok _ (gN_mem d (h i hi))).2.2⟩
theorem rows_ok (d : Drawn ns) {ps : List Nat} {ls : List Ln} (h : conB ps ls = true) : rowsOk (rowsOf ns ps ls) := by
  obtain ⟨h1, h2, h3, h4⟩ := conB_ok h
  have z := text_ok (wss := (("people" : Str) :: ps.map (gN ns)) :: (ls.map (lnS ns)).map MX.wordsOf) (by simp) (fun ws hw => ?_) (fun ws hw => ?_) (by simp only [List.length_cons, List.length_map]; omega) (fun ws hw => ?_)
  · rw [rows_text]
    exact ⟨z.2, z.1⟩
  · rcases List.mem_cons.mp hw with hw | hw
    · rw [hw]; exact fun z => by cases z
    · exact (lines_ok d h4 ws hw).1
  · rcases List.mem_cons.mp hw with hw | hw
    · rw [hw]; exact words_ok d ⟨clean_people, by decide +kernel⟩ h1
    · exact (lines_ok d h4 ws hw).2.1
  · rcases List.mem_cons.mp hw with hw | hw
    · rw [hw]; simp only [List.length_cons, List.length_map]; omega
    · exact (lines_ok d h4 ws hw).2.2
def okFirst (ps : List Nat) : Bool := decide (1 ≤ ps.length) && (decide (ps.length ≤ 9) && decide ps.Nodup)
theorem reads (d : Drawn ns) {ps : List Nat} {ls : List Ln} (h : conB ps ls = true) (hf : okFirst ps = true) : bare (parseH (Txt.join "\n" (rowsOf ns ps ls))) = runA ps 2 ls (0, []) := by
  obtain ⟨h1, h2, h3, h4⟩ := conB_ok h
  unfold okFirst at hf
  simp only [Bool.and_eq_true, decide_eq_true_eq] at hf
  rw [← text_rows]
  exact text_reads d h1 hf.1 hf.2.1 hf.2.2 fun l hl => ⟨(lnB_ok (h4 l hl)).1.1, (lnB_ok (h4 l hl)).2.2⟩
def GoodF (rows : List Str) : Prop := rowsOk rows ∧ ∃ ot, parseH (Txt.join "\n" rows) = .inr ot
def GoodB (y : Row) : Prop := rowsOk y.1 ∧ parseH (Txt.join "\n" y.1) = .inl y.2
theorem goodF (d : Drawn ns) {ps : List Nat} {ls : List Ln} (h : (conB ps ls && okFirst ps) = true) (r : runA ps 2 ls (0, []) = .inr ()) : GoodF (rowsOf ns ps ls) := by
  rw [Bool.and_eq_true] at h
  exact ⟨rows_ok d h.1, parse_inr ((reads d h.1 h.2).trans r)⟩
theorem goodB (d : Drawn ns) {ps : List Nat} {ls : List Ln} {n : Nat} (h : (conB ps ls && okFirst ps) = true) (r : runA ps 2 ls (0, []) = .inl n) : GoodB (rowsOf ns ps ls, n) := by
  rw [Bool.and_eq_true] at h
  exact ⟨rows_ok d h.1, parse_inl ((reads d h.1 h.2).trans r)⟩
/-- rows of words written out -/
theorem own_ok (wss : List (List Str)) (h : (wss.all fun ws => decide (0 < ws.length) && (decide (ws.length ≤ 90) && ws.all fun w => decide (32 ∉ TL.tl w) && (decide (10 ∉ TL.tl w) && decide (w.length ≤ 20)))) = true) (l : wss.length ≤ 90) (ne : wss ≠ []) : rowsOk (wss.map (Txt.join " ")) := by
  simp only [Bool.and_eq_true, decide_eq_true_eq, List.all_eq_true] at h
  have z := text_ok (wss := wss) ne (fun ws hw z => ?_) (fun ws hw w hm => ⟨⟨((h ws hw).2.2 w hm).1, ((h ws hw).2.2 w hm).2.1⟩, ((h ws hw).2.2 w hm).2.2⟩) (by omega) (fun ws hw => by have := (h ws hw).2.1; omega)
  · exact ⟨z.2, z.1⟩
  · have := (h ws hw).1
    rw [z] at this
    simp at this
theorem jn1 (x : Str) : Txt.join "\n" [x] = x := by
  rw [TL.join_eq]
  rfl
def owns : List (List Str) := [["people", "abcdefgh", "z"], ["people"], [""], ["people", "abcdefghi"], ["people", "A"], ["people", "a", "a"], ["people", "a1"], ["people", "", "a"], ["people", "a", ""], ["", "people", "a"], ["a"]]
theorem owns_ok : ∀ ws ∈ owns, rowsOk [Txt.join " " ws] := by
  have z : (owns.all fun ws => decide (0 < ws.length) && (decide (ws.length ≤ 90) && ws.all fun w => decide (32 ∉ TL.tl w) && (decide (10 ∉ TL.tl w) && decide (w.length ≤ 20)))) = true := by decide +kernel
  intro ws hw
  refine own_ok [ws] ?_ (Nat.le_of_ble_eq_true rfl) (by simp)
  rw [List.all_cons, List.all_nil, Bool.and_true]
  exact List.all_eq_true.mp z ws hw
theorem owns_tx : owns.map (Txt.join " ") = (["people abcdefgh z", "people", "", "people abcdefghi", "people A", "people a a", "people a1", "people  a", "people a ", " people a", "a"] : List Str) := by decide +kernel
theorem own_row {x : Str} (h : x ∈ (["people abcdefgh z", "people", "", "people abcdefghi", "people A", "people a a", "people a1", "people  a", "people a ", " people a", "a"] : List Str)) : rowsOk [x] := by
  rw [← owns_tx] at h
  obtain ⟨ws, hw, rfl⟩ := List.mem_map.mp h
  exact owns_ok ws hw
theorem goodO {x : Str} (h : x ∈ (["people", "", "people abcdefghi", "people A", "people a a", "people a1", "people  a", "people a ", " people a", "a"] : List Str)) : GoodB ([x], 1) := by
  refine ⟨own_row (List.mem_cons_of_mem _ h), ?_⟩
  show parseH (Txt.join "\n" [x]) = .inl 1
  rw [jn1]
  exact parse_inl (bad_own x h)
theorem goodZ : GoodF ["people abcdefgh z"] := by
  refine ⟨own_row (by decide +kernel), ?_⟩
  rw [jn1]
  exact fine_z
/-- the first line has too many -/
theorem goodTen (d : Drawn ns) : GoodB (["people " ++ Txt.join " " ns], 1) := by
  have e : (["people " ++ Txt.join " " ns] : List Str) = rowsOf ns (List.range 10) [] := by
    unfold rowsOf
    conv => lhs; rw [all_eq d]
    show _ = [Txt.join " " (("people" : Str) :: gN ns 0 :: ([1, 2, 3, 4, 5, 6, 7, 8, 9] : List Nat).map (gN ns))]
    rw [jn_cons, w_people]
    rfl
  have c : conB (List.range 10) [] = true := by decide +kernel
  refine ⟨by rw [e]; exact rows_ok d c, ?_⟩
  show parseH (Txt.join "\n" ["people " ++ Txt.join " " ns]) = .inl 1
  rw [e, rows_text]
  refine parse_inl ((parse_of (by simp) (fun w hw => (words_ok d ⟨clean_people, by decide +kernel⟩ (conB_ok c).1 w hw).1) (ls := []) (fun l hl => by cases hl)).trans (if_neg ?_))
  unfold peopleB
  rw [Bool.and_eq_true, Bool.and_eq_true, Bool.and_eq_true, decide_eq_true_eq]
  rintro ⟨_, _, z, _⟩
  rw [decide_eq_true_eq] at z
  simp at z
/-- the first line is none -/
theorem goodMet (d : Drawn ns) : GoodB (metS ns, 1) := by
  have c : (metN.all lnB) = true := by decide +kernel
  have c' := List.all_eq_true.mp c
  have e : metS ns = ((metN.map (lnS ns)).map MX.wordsOf).map (Txt.join " ") := by
    rw [met_eq d, List.map_map, List.map_map]
    rfl
  have ok : rowsOk (metS ns) := by
    have z := text_ok (wss := (metN.map (lnS ns)).map MX.wordsOf) (by simp [metN]; decide +kernel) (fun ws hw => (lines_ok d c' ws hw).1) (fun ws hw => (lines_ok d c' ws hw).2.1) (by rw [List.length_map, List.length_map]; decide +kernel) (fun ws hw => (lines_ok d c' ws hw).2.2)
    rw [e]
    exact ⟨z.2, z.1⟩
  refine ⟨ok, ?_⟩
  show parseH (Txt.join "\n" (metS ns)) = .inl 1
  obtain ⟨m0, mr, em⟩ : ∃ m0 mr, metN = m0 :: mr := ⟨_, _, rfl⟩
  have h0 : m0.1 = ("met" : Str) := by
    have z : (metN.head?.map (·.1)) = some ("met" : Str) := by decide +kernel
    rw [em] at z
    exact Option.some.inj z
  have k : ∀ l ∈ metN, Clean (lnS ns l).1 ∧ ∀ w ∈ (lnS ns l).2, Clean w := fun l hl => by
    have z := (lines_ok d c' (MX.wordsOf (lnS ns l)) (List.mem_map_of_mem (List.mem_map_of_mem hl))).2.1
    exact ⟨(z _ List.mem_cons_self).1, fun w hw => (z w (List.mem_cons_of_mem _ hw)).1⟩
  rw [e, em, List.map_cons, List.map_cons]
  refine parse_inl ((parse_of (w0 := MX.wordsOf (lnS ns m0)) (ls := mr.map (lnS ns)) (fun z => by cases z) (fun w hw => ?_) (fun l hl => ?_)).trans (if_neg ?_))
  · have z := k m0 (by rw [em]; exact List.mem_cons_self)
    rcases List.mem_cons.mp hw with hw | hw
    · rw [hw]; exact z.1
    · exact z.2 w hw
  · obtain ⟨l', hl', rfl⟩ := List.mem_map.mp hl
    exact k l' (by rw [em]; exact List.mem_cons_of_mem _ hl')
  · unfold peopleB headIs MX.wordsOf
    show ¬ (decide ((m0.1 :: m0.2.map (gN ns))[0]? = some ("people" : Str)) && _) = true
    rw [h0]
    rw [Bool.and_eq_true]
    rintro ⟨z, _⟩
    revert z
    show ¬ decide (some ("met" : Str) = some ("people" : Str)) = true
    decide +kernel
/-- a line with a word that is none -/
theorem goodM (d : Drawn ns) : GoodB ([headS ns, "Met a b"], 2) := by
  have e : ([headS ns, "Met a b"] : List Str) = ((("people" : Str) :: nine.map (gN ns)) :: ([("Met", ["a", "b"])] : List (Str × List Str)).map MX.wordsOf).map (Txt.join " ") := by
    rw [head_eq d]
    show _ = [_, Txt.join " " ["Met", "a", "b"]]
    have z : ("Met a b" : Str) = Txt.join " " ["Met", "a", "b"] := by decide +kernel
    rw [z]
  have cl : ∀ w ∈ (["Met", "a", "b"] : List Str), Clean w ∧ w.length ≤ 20 := by
    have z : ∀ w ∈ (["Met", "a", "b"] : List Str), (32 ∉ TL.tl w ∧ 10 ∉ TL.tl w) ∧ w.length ≤ 20 := by decide +kernel
    exact z
  have c : conB nine [] = true := by decide +kernel
  have ok0 := words_ok d ⟨clean_people, (by decide +kernel : (("people" : Str)).length ≤ 20)⟩ (conB_ok c).1
  have lns : ∀ l ∈ ([("Met", ["a", "b"])] : List (Str × List Str)), Clean l.1 ∧ ∀ w ∈ l.2, Clean w := fun l hl => by
    rw [List.mem_singleton.mp hl]
    exact ⟨(cl _ List.mem_cons_self).1, fun w hw => (cl w (List.mem_cons_of_mem _ hw)).1⟩
  have ok : rowsOk ([headS ns, "Met a b"] : List Str) := by
    have z := text_ok (wss := (("people" : Str) :: nine.map (gN ns)) :: ([("Met", ["a", "b"])] : List (Str × List Str)).map MX.wordsOf) (by simp) (fun ws hw => ?_) (fun ws hw => ?_) (by simp) (fun ws hw => ?_)
    · rw [e]
      exact ⟨z.2, z.1⟩
    · rcases List.mem_cons.mp hw with hw | hw
      · rw [hw]; exact fun z => by cases z
      · rw [List.mem_singleton.mp hw]; exact fun z => by cases z
    · rcases List.mem_cons.mp hw with hw | hw
      · rw [hw]; exact ok0
      · rw [List.mem_singleton.mp hw]; exact cl
    · rcases List.mem_cons.mp hw with hw | hw
      · rw [hw]; simp [nine]
      · rw [List.mem_singleton.mp hw]; decide
  refine ⟨ok, ?_⟩
  show parseH (Txt.join "\n" ([headS ns, "Met a b"] : List Str)) = .inl 2
  rw [e]
  refine parse_inl ((parse_of (by simp) (fun w hw => (ok0 w hw).1) lns).trans ?_)
  rw [if_pos (people_ok d (conB_ok c).1 (by decide) (by decide) (by decide))]
  have z1 : decide (("Met" : Str) = "met") = false := by decide +kernel
  have z2 : decide (("Met" : Str) = "open") = false := by decide +kernel
  show (match stepA ((("people" : Str) :: nine.map (gN ns)).drop 1) 2 ("Met" : Str) (["a", "b"] : List Str) (0, []) with | none => Sum.inl 2 | some st' => runA ((("people" : Str) :: nine.map (gN ns)).drop 1) (2 + 1) [] st') = _
  unfold stepA
  rw [z1, z2]
  simp
end
end K03

set_option Elab.async false
set_option linter.all false
set_option maxRecDepth 100000
set_option maxHeartbeats 4000000
namespace K03
open PySem PySem.Spec PySem.W PySem.Calls PyProof.Rows L2 MX
section
variable {ns : List Str}
theorem row_w {w w' : Str} (h : w' = w ++ " ") (x : Str) (xs : List Str) : w' ++ Txt.join " " (x :: xs) = Txt.join " " (w :: x :: xs) := by rw [jn_cons, h]
theorem row_1 (x : Str) : Txt.join " " [x] = x := by
  rw [TL.join_eq]
  rfl
def m0 : Ln := metN.getD 0 ("", [])
def o0 : Ln := opensN.getD 0 ("", [])
theorem mt1 (d : Drawn ns) : (metS ns).take 1 = [rowOf ns m0] := by
  have e : metN.take 1 = [m0] := by decide +kernel
  rw [met_eq d, ← List.map_take, e]
  rfl
theorem op1 (d : Drawn ns) : (opS ns).take 1 = [rowOf ns o0] := by
  have e : opensN.take 1 = [o0] := by decide +kernel
  rw [op_eq d, ← List.map_take, e]
  rfl
theorem m00 (d : Drawn ns) : (metS ns).getD 0 "" = rowOf ns m0 := by
  have e : metN[0]? = some m0 := by decide +kernel
  rw [met_eq d, List.getD_eq_getElem?_getD, List.getElem?_map, e]
  rfl
theorem rows_c (d : Drawn ns) (ls : List Ln) : headS ns :: ls.map (rowOf ns) = rowsOf ns nine ls := by
  unfold rowsOf
  rw [head_eq d]
theorem fine_good (d : Drawn ns) : ∀ rows ∈ fineS ns, GoodF rows := by
  have F : ∀ ls : List Ln, ls ∈ fineN → (conB nine ls && okFirst nine) = true → GoodF (headS ns :: ls.map (rowOf ns)) := fun ls hl h => by
    rw [rows_c d]
    exact goodF d h (fine_all ls hl)
  intro rows h
  unfold fineS at h
  rw [mt1 d, op1 d, met_eq d, op_eq d] at h
  simp only [List.mem_append, List.mem_cons, List.not_mem_nil, or_false] at h
  rcases h with (h | h | h | h | h) | (h | h | h)
  · rw [h]
    have z := F (metN ++ opensN) (by decide +kernel) (by decide +kernel)
    rw [List.map_append] at z
    exact z
  · rw [h]
    exact F [] (by decide +kernel) (by decide +kernel)
  · rw [h]
    have e : (["people " ++ gN ns 0] : List Str) = rowsOf ns [0] [] := by
      show _ = [Txt.join " " [("people" : Str), gN ns 0]]
      rw [jn2, w_people]
    rw [e]
    exact goodF d (by decide +kernel) fine_one
  · rw [h]
    have z := F [("met", nine)] (by decide +kernel) (by decide +kernel)
    have e : rowOf ns ("met", nine) = "met " ++ Txt.join " " (ns.take 9) := by
      rw [take_eq d (by decide)]
      show Txt.join " " (("met" : Str) :: gN ns 0 :: ([1, 2, 3, 4, 5, 6, 7, 8] : List Nat).map (gN ns)) = _
      rw [← row_w w_met]
      rfl
    rw [← e]
    exact z
  · rw [h]
    exact F opensN (by decide +kernel) (by decide +kernel)
  · rw [h]
    have z := F (List.replicate 20 m0) (by decide +kernel) (by decide +kernel)
    have e : (List.replicate 20 [rowOf ns m0]).flatten = (List.replicate 20 m0).map (rowOf ns) := rfl
    rw [e]
    exact z
  · rw [h]
    exact goodZ
  · rw [h]
    exact F [m0, m0, o0] (by decide +kernel) (by decide +kernel)
theorem bad_good (d : Drawn ns) : ∀ y ∈ badS ns, GoodB y := by
  have F : ∀ (ls : List Ln) (n : Nat), (ls, n) ∈ badN → (conB nine ls && okFirst nine) = true → GoodB (headS ns :: ls.map (rowOf ns), n) := fun ls n hl h => by
    rw [rows_c d]
    exact goodB d h (bad_all (ls, n) hl)
  have F1 : ∀ (l : Ln) (x : Str), x = rowOf ns l → ([l], 2) ∈ badN → (conB nine [l] && okFirst nine) = true → GoodB ([headS ns, x], 2) := fun l x e hl h => by
    rw [e]
    exact F [l] 2 hl h
  intro y h
  unfold badS at h
  simp only [List.mem_append] at h
  rcases h with ((((((h | h) | h) | h) | h) | h) | h) | h
  · unfold bad1 at h
    rw [mt1 d] at h
    simp only [List.mem_cons, List.not_mem_nil, or_false] at h
    rcases h with h | h | h | h | h
    · rw [h]; exact goodTen d
    · rw [h, met_eq d]
      have z := F (metN ++ [m0]) 22 (by decide +kernel) (by decide +kernel)
      rw [List.map_append] at z
      exact z
    · rw [h]; exact goodO (by decide +kernel)
    · rw [h]; exact goodO (by decide +kernel)
    · rw [h]; exact goodMet d
  · unfold bad2 at h
    rw [List.mem_singleton.mp h, op_eq d, rv_eq d (by decide +kernel)]
    have z := F (opensN ++ [revN 30]) 6 (by decide +kernel) (by decide +kernel)
    rw [List.map_append] at z
    exact z
  · unfold bad3 at h
    rw [op1 d, mt1 d] at h
    simp only [List.mem_cons, List.not_mem_nil, or_false] at h
    rcases h with h | h | h
    · rw [h, met_eq d]
      have z := F (metN ++ [o0, o0]) 23 (by decide +kernel) (by decide +kernel)
      rw [List.map_append] at z
      exact z
    · rw [h]; exact F [o0, m0] 3 (by decide +kernel) (by decide +kernel)
    · rw [h]
      have z := F [m0, ("people", nine)] 3 (by decide +kernel) (by decide +kernel)
      have e : rowOf ns ("people", nine) = headS ns := (head_eq d).symm
      have z2 : GoodB ([headS ns, rowOf ns m0, rowOf ns ("people", nine)], 3) := z
      rw [e] at z2
      exact z2
  · unfold bad4 at h
    rw [List.mem_singleton.mp h, m00 d, rv_eq d (by decide +kernel)]
    exact F [m0, revN 0] 3 (by decide +kernel) (by decide +kernel)
  · unfold bad5 at h
    rw [List.mem_singleton.mp h, op1 d, rv_eq d (by decide +kernel)]
    exact F [o0, revN 20] 3 (by decide +kernel) (by decide +kernel)
  · obtain ⟨x, hx, rfl⟩ := List.mem_map.mp h
    unfold lines1 at hx
    simp only [List.mem_cons, List.not_mem_nil, or_false] at hx
    rcases hx with hx | hx | hx | hx | hx
    · refine F1 ("met", [0]) x ?_ (by decide +kernel) (by decide +kernel)
      rw [hx, w_met]
      exact (jn2 _ _).symm
    · refine F1 ("met", [0, 9]) x ?_ (by decide +kernel) (by decide +kernel)
      rw [hx, w_met]
      exact (jn3 _ _ _).symm
    · refine F1 ("met", [0, 0]) x ?_ (by decide +kernel) (by decide +kernel)
      rw [hx, w_met]
      exact (jn3 _ _ _).symm
    · exact F1 ("met", []) x (by rw [hx]; exact (row_1 _).symm) (by decide +kernel) (by decide +kernel)
    · exact F1 ("", []) x (by rw [hx]; exact (row_1 _).symm) (by decide +kernel) (by decide +kernel)
  · obtain ⟨x, hx, rfl⟩ := List.mem_map.mp h
    unfold lines2 at hx
    simp only [List.mem_cons, List.not_mem_nil, or_false] at hx
    rcases hx with hx | hx | hx | hx
    · refine F1 ("open", [0]) x ?_ (by decide +kernel) (by decide +kernel)
      rw [hx, w_open]
      exact (jn2 _ _).symm
    · refine F1 ("open", [0, 0]) x ?_ (by decide +kernel) (by decide +kernel)
      rw [hx, w_open]
      exact (jn3 _ _ _).symm
    · refine F1 ("open", [0, 1, 2]) x ?_ (by decide +kernel) (by decide +kernel)
      rw [hx, take_eq d (by decide)]
      show ("open " : Str) ++ Txt.join " " (gN ns 0 :: ([1, 2] : List Nat).map (gN ns)) = _
      rw [row_w w_open]
      rfl
    · rw [hx]; exact goodM d
  · obtain ⟨x, hx, rfl⟩ := List.mem_map.mp h
    unfold lines3 at hx
    exact goodO (List.mem_cons_of_mem _ (List.mem_cons_of_mem _ hx))
end
end K03

set_option Elab.async false
set_option linter.all false
set_option maxRecDepth 100000
set_option maxHeartbeats 4000000
namespace K03
open PySem PySem.Spec PySem.W PySem.Calls PyProof.Rows L2 MX
structure Ix where
  p : Addr
  n : Addr
  pr : Addr
  me : Addr
  op : Addr
  ns : List Str
  H0 : Hp
  b : Addr
def prR (q : Str × Str) : Rd := oT [oS q.1, oS q.2]
structure EvS (T : List (Addr × Str)) (i : Ix) (σ : L2.St) (H : Hp) : Prop where
  d : Drawn i.ns
  s : ∃ rest, rest.length = 7 ∧ σ = some (.ref i.p) :: some (.ref i.n) :: some (.str (headS i.ns)) :: some (.ref i.pr) :: some (.ref i.me) :: some (.ref i.op) :: rest
  n : (oSL i.ns).R (.ref i.n) H
  pr : (oL ((prS i.ns).map prR)).R (.ref i.pr) H
  me : (oSL (metS i.ns)).R (.ref i.me) H
  op : (oSL (opS i.ns)).R (.ref i.op) H
  x : ExtPN i.p i.H0 H
  t : LamX.Tabs T H
section
variable {T : List (Addr × Str)} {i : Ix} {σ : L2.St} {H H' : Hp}
theorem EvS.on (h : EvS T i σ H) (x : LamX.ExtN H H') (t : LamX.Tabs T H') : EvS T i σ H' :=
  ⟨h.d, h.s, (oSL _).st _ _ _ x h.n, (oL _).st _ _ _ x h.pr, (oSL _).st _ _ _ x h.me, (oSL _).st _ _ _ x h.op, fun b o nb e nt => x b o (h.x b o nb e nt) nt, t⟩
theorem EvS.be (h : EvS T i σ H) (b : Addr) : EvS T { i with b := b } σ H := ⟨h.d, h.s, h.n, h.pr, h.me, h.op, h.x, h.t⟩
theorem ev_lit (h : EvS T i σ H) : ∃ r6 r7 r8 r9 r10 r11 r12, σ = [some (.ref i.p), some (.ref i.n), some (.str (headS i.ns)), some (.ref i.pr), some (.ref i.me), some (.ref i.op), r6, r7, r8, r9, r10, r11, r12] := by
  obtain ⟨rest, hl, e⟩ := h.s
  match rest, hl with
  | [r6, r7, r8, r9, r10, r11, r12], _ => exact ⟨r6, r7, r8, r9, r10, r11, r12, e⟩
theorem evE : Env (EvS T) := fun i σ H H' s h => h.on (LamX.ExtN.of s) (h.t.ext s)
theorem ev_set (j : Nat) (u : Option V) (h : EvS T i σ H) : EvS T i (σ.set (6 + j) u) H := by
  obtain ⟨rest, hl, e⟩ := h.s
  refine { h with s := ⟨rest.set j u, by rw [List.length_set]; exact hl, ?_⟩ }
  rw [e, Nat.add_comm 6 j]
  rfl
theorem ev_len (h : EvS T i σ H) : σ.length = 13 := by
  obtain ⟨rest, hl, e⟩ := h.s
  rw [e]
  simp only [List.length_cons, hl]
theorem ev_at (h : EvS T i σ H) : σ[1]? = some (some (.ref i.n)) ∧ σ[2]? = some (some (.str (headS i.ns))) ∧ σ[3]? = some (some (.ref i.pr)) ∧ σ[4]? = some (some (.ref i.me)) ∧ σ[5]? = some (some (.ref i.op)) := by
  obtain ⟨rest, hl, e⟩ := h.s
  rw [e]
  exact ⟨rfl, rfl, rfl, rfl, rfl⟩
end
/-! ### lengths -/
section
variable {ns : List Str}
theorem nlen (d : Drawn ns) (k : Nat) : (gN ns k).length ≤ 20 := by
  unfold gN
  rw [List.getD_eq_getElem?_getD]
  cases h : ns[k]? with
  | none => exact (by decide +kernel : (("" : Str)).length ≤ 20)
  | some x => exact (d.ok x (List.mem_of_getElem? h)).2.2
theorem jlen (d : Drawn ns) (k : Nat) : (Txt.join " " (ns.take k)).length ≤ 210 := by
  have z := join_len (sep := " ") (m := 20) (k := 1) (ps := ns.take k) (fun p hp => (d.ok p (List.mem_of_mem_take hp)).2.2) (by decide +kernel)
  rw [List.length_take, d.len] at z
  have := Nat.min_le_right k 10
  omega
theorem jlen0 (d : Drawn ns) : (Txt.join " " ns).length ≤ 210 := by
  have z := jlen d 10
  rw [List.take_of_length_le (by rw [d.len]; exact Nat.le_refl _)] at z
  exact z
theorem plen (d : Drawn ns) (k : Nat) : (pP ns k).1.length ≤ 20 ∧ (pP ns k).2.length ≤ 20 := by
  unfold pP
  rw [pr_eq d, List.getD_eq_getElem?_getD, List.getElem?_map]
  cases prs[k]? with
  | none => exact ⟨(by decide +kernel : (("" : Str)).length ≤ 20), (by decide +kernel : (("" : Str)).length ≤ 20)⟩
  | some q => exact ⟨nlen d _, nlen d _⟩
theorem prlen (d : Drawn ns) : (prS ns).length = 36 := by
  rw [pr_eq d, List.length_map]
  decide +kernel
theorem mlen (d : Drawn ns) : (metS ns).length = 20 := by
  rw [met_eq d, List.length_map]
  decide +kernel
theorem olen (d : Drawn ns) : (opS ns).length = 4 := by
  rw [op_eq d, List.length_map]
  decide +kernel
theorem jsum (d : Drawn ns) (k : Nat) : ((ns.take k).map (·.length)).sum + (ns.take k).length * (" " : Str).length ≤ 16777216 := by
  have z := sum_le (f := fun x : Str => x.length) (m := 20) (ns.take k) fun p hp => (d.ok p (List.mem_of_mem_take hp)).2.2
  have l : (ns.take k).length ≤ 10 := by
    rw [List.length_take, d.len]
    exact Nat.min_le_right k 10
  have e : (" " : Str).length = 1 := by decide +kernel
  rw [e]
  omega
theorem jsum0 (d : Drawn ns) : (ns.map (·.length)).sum + ns.length * (" " : Str).length ≤ 16777216 := by
  have z := jsum d 10
  rw [List.take_of_length_le (by rw [d.len]; exact Nat.le_refl _)] at z
  exact z
end
theorem w_len : ("people " : Str).length = 7 ∧ ("met " : Str).length = 4 ∧ ("open " : Str).length = 5 ∧ (" " : Str).length = 1 := by decide +kernel
theorem ap_len (x y : Str) : (x ++ y).length = x.length + y.length := by
  rw [TL.len_tl, TL.len_tl, TL.len_tl, TL.tl_append, List.length_append]
/-! ### the law's expressions -/
/-- the names of the def, readable -/
structure Vars (X : Cx) : Prop where
  v1 : ∀ pos, PE X (.Name "_law_names_here" pos) (tVar 1)
  v2 : ∀ pos, PE X (.Name "_law_head" pos) (tVar 2)
  v3 : ∀ pos, PE X (.Name "_law_pairs_here" pos) (tVar 3)
  v4 : ∀ pos, PE X (.Name "_law_met" pos) (tVar 4)
  v5 : ∀ pos, PE X (.Name "_law_opens" pos) (tVar 5)
def rowR (y : Row) : Rd := oT [oSL y.1, oI (y.2 : Int)]
section
variable {T : List (Addr × Str)} {M : Ix → List Addr} {X : Cx} {pos p1 p2 p3 : Pos} {j j2 x1 : _} {a b c e : Expr}
theorem xN (v : Vars X) : PE X (.Name "_law_names_here" pos) (tR (EvS T) M fun i => oSL i.ns) := er_v (v.v1 pos) fun i σ H h => ⟨_, (ev_at h).1, h.n⟩
theorem xH (v : Vars X) : PE X (.Name "_law_head" pos) (tR (EvS T) M fun i => oS (headS i.ns)) := er_v (v.v2 pos) fun i σ H h => ⟨_, (ev_at h).2.1, rfl⟩
theorem xP (v : Vars X) : PE X (.Name "_law_pairs_here" pos) (tR (EvS T) M fun i => oL ((prS i.ns).map prR)) := er_v (v.v3 pos) fun i σ H h => ⟨_, (ev_at h).2.2.1, h.pr⟩
theorem xM (v : Vars X) : PE X (.Name "_law_met" pos) (tR (EvS T) M fun i => oSL (metS i.ns)) := er_v (v.v4 pos) fun i σ H h => ⟨_, (ev_at h).2.2.2.1, h.me⟩
theorem xO (v : Vars X) : PE X (.Name "_law_opens" pos) (tR (EvS T) M fun i => oSL (opS i.ns)) := er_v (v.v5 pos) fun i σ H h => ⟨_, (ev_at h).2.2.2.2, h.op⟩
theorem xGn (v : Vars X) (k : Nat) (hk : k < 10) : PE X (.Subscript (.Name "_law_names_here" p1) (.Constant (.int (k : Int)) j p2) p3) (tR (EvS T) M fun i => oS (gN i.ns k)) :=
  er_ix evE (x := fun i => i.ns.map oS) (k := k) (xN v) er_int (fun _ _ => rfl) fun i σ H h => by
    have l := h.d.len
    rw [List.getElem?_map]
    unfold gN
    rw [List.getD_eq_getElem?_getD, List.getElem?_eq_getElem (by omega)]
    rfl
theorem xPk (v : Vars X) (k : Nat) (hk : k < 36) : PE X (.Subscript (.Name "_law_pairs_here" p1) (.Constant (.int (k : Int)) j p2) p3) (tR (EvS T) M fun i => prR (pP i.ns k)) :=
  er_ix evE (x := fun i => (prS i.ns).map prR) (k := k) (xP v) er_int (fun _ _ => rfl) fun i σ H h => by
    have l := prlen h.d
    rw [List.getElem?_map]
    unfold pP
    rw [List.getD_eq_getElem?_getD, List.getElem?_eq_getElem (by omega)]
    rfl
/-- "open " + pairs[k][1] + " " + pairs[k][0] -/
theorem xRv (v : Vars X) (k : Nat) (hk : k < 36) {q1 q2 q3 q4 q5 q6 q7 q8 q9 q10 q11 q12 q13 : Pos} {k1 k2 k3 k4 k5 k6} :
    PE X (.BinOp (.BinOp (.BinOp (.Constant (.str "open ") k1 q1) .Add (.Subscript (.Subscript (.Name "_law_pairs_here" q2) (.Constant (.int (k : Int)) k2 q3) q4) (.Constant (.int 1) k3 q5) q6) q7) .Add (.Constant (.str " ") k4 q8) q9) .Add
      (.Subscript (.Subscript (.Name "_law_pairs_here" q10) (.Constant (.int (k : Int)) k5 q11) q12) (.Constant (.int 0) k6 q13) p1) p2) (tR (EvS T) M fun i => oS (rvS i.ns k)) := by
  refine er_add evE (er_add evE (er_add evE er_str (er_ixT evE (k := 1) (x := fun i => [oS (pP i.ns k).1, oS (pP i.ns k).2]) (xPk v k hk) er_int (fun _ _ => rfl) (fun _ _ _ _ => rfl)) ?_) er_str ?_) (er_ixT evE (k := 0) (x := fun i => [oS (pP i.ns k).1, oS (pP i.ns k).2]) (xPk v k hk) er_int (fun _ _ => rfl) (fun _ _ _ _ => rfl)) ?_
  all_goals
    intro i σ H h
    have z := plen h.d k
    have w := w_len
    try simp only [ap_len]
    rw [sizeLine_eq]
    omega
theorem xL1 {x : Ix → Str} (he : PE X e (tR (EvS T) M fun i => oS (x i))) (hs : starEach [e] X.env = (false, eval e X.env) :: starEach [] X.env := by rfl) : PE X (.List [e] pos) (tR (EvS T) M fun i => oSL [x i]) :=
  er_lst evE (ea_cons evE he ea_nil hs) fun i σ H h => by rw [sizeLine_eq]; simp
theorem xL2 {x y : Ix → Str} (he : PE X e (tR (EvS T) M fun i => oS (x i))) (ha : PE X a (tR (EvS T) M fun i => oS (y i))) (hs : starEach [e, a] X.env = (false, eval e X.env) :: starEach [a] X.env := by rfl) (hs2 : starEach [a] X.env = (false, eval a X.env) :: starEach [] X.env := by rfl) : PE X (.List [e, a] pos) (tR (EvS T) M fun i => oSL [x i, y i]) :=
  er_lst evE (ea_cons evE he (ea_cons evE ha ea_nil hs2) hs) fun i σ H h => by rw [sizeLine_eq]; simp
theorem xL3 {x y z : Ix → Str} (he : PE X e (tR (EvS T) M fun i => oS (x i))) (ha : PE X a (tR (EvS T) M fun i => oS (y i))) (hb : PE X b (tR (EvS T) M fun i => oS (z i))) (hs : starEach [e, a, b] X.env = (false, eval e X.env) :: starEach [a, b] X.env := by rfl) (hs2 : starEach [a, b] X.env = (false, eval a X.env) :: starEach [b] X.env := by rfl) (hs3 : starEach [b] X.env = (false, eval b X.env) :: starEach [] X.env := by rfl) : PE X (.List [e, a, b] pos) (tR (EvS T) M fun i => oSL [x i, y i, z i]) :=
  er_lst evE (ea_cons evE he (ea_cons evE ha (ea_cons evE hb ea_nil hs3) hs2) hs) fun i σ H h => by rw [sizeLine_eq]; simp
/-- [head] -/
theorem xHd (v : Vars X) : PE X (.List [.Name "_law_head" p1] pos) (tR (EvS T) M fun i => oSL [headS i.ns]) := xL1 (xH v)
theorem few {n m : Nat} (h : n + m ≤ 1000) : n + m ≤ sizeLine := by rw [sizeLine_eq]; omega
/-- lists put together -/
theorem xC {x y : Ix → List Str} (ha : PE X a (tR (EvS T) M fun i => oSL (x i))) (hb : PE X b (tR (EvS T) M fun i => oSL (y i))) (l : ∀ ns, Drawn ns → ∀ i : Ix, i.ns = ns → (x i).length + (y i).length ≤ 1000) : PE X (.BinOp a .Add b pos) (tR (EvS T) M fun i => oSL (x i ++ y i)) :=
  er_catS evE ha hb fun i σ H h => few (l i.ns h.d i rfl)
/-- (rows, number) -/
theorem xRow {x : Ix → List Str} (n : Nat) (he : PE X e (tR (EvS T) M fun i => oSL (x i))) {x1} (hs : starEach [e, .Constant (.int (n : Int)) j p1] X.env = (false, eval e X.env) :: starEach [.Constant (.int (n : Int)) j p1] X.env := by rfl) : PE X (.Tuple [e, .Constant (.int (n : Int)) j p1] x1 pos) (tR (EvS T) M fun i => rowR (x i, n)) :=
  er_tup evE (ea_cons evE he (ea_cons evE er_int ea_nil) hs) fun i σ H h => by rw [sizeLine_eq]; simp
/-- "word " + " ".join(..) -/
theorem xJ {w : Str} (hw : w.length ≤ 100) {x : Ix → List Str} {apos : Pos} (he : PE X e (tR (EvS T) M fun i => oSL (x i))) (l : ∀ i : Ix, Drawn i.ns → (Txt.join " " (x i)).length ≤ 300 ∧ ((x i).map (·.length)).sum + (x i).length * (" " : Str).length ≤ 16777216) {k1 k2} {q1 q2 : Pos}
    (hs : starEach [e] X.env = [(false, eval e X.env)] := by rfl) (hline : (apos.endLine == p1.line) = true := by rfl) : PE X (.BinOp (.Constant (.str w) k1 q1) .Add (.Call (.Attribute (.Constant (.str " ") k2 q2) "join" apos) [e] [] p1) pos) (tR (EvS T) M fun i => oS (w ++ Txt.join " " (x i))) :=
  er_add evE er_str (er_join evE er_str he (fun i σ H h => (l i h.d).2) hs rfl hline) fun i σ H h => by
    have z := (l i h.d).1
    rw [sizeLine_eq]
    omega
/-- "word " + name -/
theorem xW {w : Str} (hw : w.length ≤ 100) {x : Ix → Str} (he : PE X e (tR (EvS T) M fun i => oS (x i))) (l : ∀ i : Ix, Drawn i.ns → (x i).length ≤ 300) {k1} {q1 : Pos} : PE X (.BinOp (.Constant (.str w) k1 q1) .Add e pos) (tR (EvS T) M fun i => oS (w ++ x i)) :=
  er_add evE er_str he fun i σ H h => by
    have z := l i h.d
    rw [sizeLine_eq]
    omega
/-- .. + " " + name -/
theorem xWW {x y : Ix → Str} (ha : PE X a (tR (EvS T) M fun i => oS (x i))) (he : PE X e (tR (EvS T) M fun i => oS (y i))) (l : ∀ i : Ix, Drawn i.ns → (x i).length ≤ 300 ∧ (y i).length ≤ 300) {k1} {q1 q2 : Pos} : PE X (.BinOp (.BinOp a .Add (.Constant (.str " ") k1 q1) q2) .Add e pos) (tR (EvS T) M fun i => oS (x i ++ " " ++ y i)) := by
  refine er_add evE (er_add evE ha er_str ?_) he ?_
  all_goals
    intro i σ H h
    have z := l i h.d
    have w := w_len
    try simp only [ap_len]
    rw [sizeLine_eq]
    omega
end
end K03

set_option Elab.async false
set_option linter.all false
set_option maxRecDepth 100000
set_option maxHeartbeats 4000000
namespace K03
open PySem PySem.Spec PySem.W PySem.Calls PyProof.Rows L2 MX
section
variable {P : Program} {w : World} {K : PySem.W.Frag} {mg : Str → Option Value} {base : Heap} {f : Addr} {fd : FuncData} {T : List (Addr × Str)}
abbrev cxR (P : Program) (w : World) (K : PySem.W.Frag) (mg : Str → Option Value) (base : Heap) (f : Addr) (cdv : Value) (A : Around) (outer : List Env) (s : Shared) (H : Hp) (E : XK) : Cx := (cxOf CX0 P w K mg base nRight "_law_right" (defScope sRight) f cdv A outer s H E).nox
theorem vars {cdv : Value} {A : Around} {outer : List Env} {s : Shared} {H : Hp} {E : XK} : Vars (cxR P w K mg base f cdv A outer s H E) := ⟨fun _ => pv 1, fun _ => pv 2, fun _ => pv 3, fun _ => pv 4, fun _ => pv 5⟩
abbrev MB : Ix → List Addr := fun i => [i.b]
abbrev M0 : Ix → List Addr := fun _ => []
def row2 (i : Ix) (x : Str) : Rd := rowR ([headS i.ns, x], 2)
def row1 (i : Ix) (x : Str) : Rd := rowR ([x], 1)
theorem bads_eq (ns : List Str) : ((((((((bad1 ns).map rowR ++ (bad2 ns).map rowR) ++ (bad3 ns).map rowR) ++ (bad4 ns).map rowR) ++ (bad5 ns).map rowR) ++ (lines1 ns).map (fun x => rowR ([headS ns, x], 2))) ++ (lines2 ns).map (fun x => rowR ([headS ns, x], 2))) ++ lines3.map (fun x => rowR ([x], 1))) = (badS ns).map rowR := by
  unfold badS
  simp only [List.map_append, List.map_map]
  rfl
theorem shows_nat {n : Nat} (h : n ≤ 30) : Shows (.int (n : Int)) := by
  have z : ∀ m : Fin 31, PyData.showable (.int (m.val : Int)) = true ∧ PyData.depth (.int (m.val : Int)) ≤ 60 ∧ (PyData.shown (.int (m.val : Int))).length ≤ 16777216 := by decide +kernel
  obtain ⟨z1, z2, z3⟩ := z ⟨n, by omega⟩
  exact ⟨z1, z2, by rw [sizeLine_eq]; exact z3⟩
theorem bad_small (ns : List Str) : ∀ y ∈ badS ns, y.2 ≤ 30 := by
  intro y h
  unfold badS at h
  simp only [List.mem_append] at h
  rcases h with ((((((h | h) | h) | h) | h) | h) | h) | h
  · unfold bad1 at h
    simp only [List.mem_cons, List.not_mem_nil, or_false] at h
    rcases h with h | h | h | h | h <;> rw [h] <;> exact Nat.le_of_ble_eq_true rfl
  · rw [List.mem_singleton.mp h]; exact Nat.le_of_ble_eq_true rfl
  · unfold bad3 at h
    simp only [List.mem_cons, List.not_mem_nil, or_false] at h
    rcases h with h | h | h <;> rw [h] <;> exact Nat.le_of_ble_eq_true rfl
  · rw [List.mem_singleton.mp h]; exact Nat.le_of_ble_eq_true rfl
  · rw [List.mem_singleton.mp h]; exact Nat.le_of_ble_eq_true rfl
  · obtain ⟨x, _, rfl⟩ := List.mem_map.mp h; show 2 ≤ 30; decide
  · obtain ⟨x, _, rfl⟩ := List.mem_map.mp h; show 2 ≤ 30; decide
  · obtain ⟨x, _, rfl⟩ := List.mem_map.mp h; show 1 ≤ 30; decide
/-- a tuple of rows and a number -/
theorem rowR_of {v : V} {y : Row} {H : Hp} (h : (rowR y).R v H) : ∃ a l, v = .ref a ∧ H a = some (.tup [.ref l, .int (y.2 : Int)]) ∧ H l = some (.lst (y.1.map V.str)) := by
  obtain ⟨a, vs, e, ha, al⟩ := h
  match vs, al with
  | [v1, v2], ⟨h1, h2, _⟩ =>
    obtain ⟨l, e1, hl⟩ := oSL_iff.mp h1
    have e2 : v2 = .int (y.2 : Int) := h2
    subst e1 e2
    exact ⟨a, l, e, ha, hl⟩
/-- all of the bad lists are refused -/
theorem end3 {cdv : Value} {A : Around} {outer : List Env} {s : Shared} {H : Hp} {E : XK} {fR : Addr} {fdR : FuncData} (hrg : RoomG 9 (A.deeper (envOfC "_law_right" (defScope sRight) s.heap.objs.size f cdv))) (hall : mg "all" = none)
    (FR : FnP K "_law_is_refused" sRefused fR fdR) (gR : mg "_law_is_refused" = some (.ref fR)) (GR : FnG P w K mg base CX0 9 fR fdR ["_law_rows", "_law_number"] (spRefused K T)) {Q : VK} :
    ∃ t, PSs (cxR P w K mg base f cdv A outer s H E) ((defBody sRight).drop 15) t ∧ ∀ (i : Ix) (σ : L2.St) (H1 : Hp), EOk (EvS T) MB i σ H1 → σ[7]? = some (some (.ref i.b)) → Grow [i.b] i.b ((badS i.ns).map rowR) H1 → (∀ H', ExtPN i.p i.H0 H' → LamX.Tabs T H' → Q (.bl true) H') → t { nx := fun _ H' => Q .non H', rt := Q } σ H1 := by
  have bR : Binds K fdR ["_law_rows", "_law_number"] [] := FR.bindsN fun _ _ _ _ _ _ us hl => match us, hl with | [_, _], _ => rfl
  refine ⟨_, pss_one (ps_ret (pe_callB (cr_all rfl) (by rfl) hall boot_all (pa_cons (pe_lc (own := [("_law_rows", 11), ("_law_number", 12)]) (g := gTup K 2 (gCons (gName 11) (gCons (gName 12) gNil))) (tt := tYes) rfl scRight.nd (pi_list (pv 7)) (blkOk_by (N := nRight) (sc := defScope sRight) (by decide +kernel))
      (fun _ _ _ _ _ => by exact pg_tup rfl (pgs_cons (pg_name (i := 11) scRight.nd rfl (Or.inl rfl)) (pgs_cons (pg_name (i := 12) scRight.nd rfl (Or.inl rfl)) pgs_nil))) (fun _ _ _ _ _ => pts_nil)
      (fun _ _ _ _ _ => pe_callG GR hrg rfl gR FR.kp bR .nil pass0 (pa_cons (pv 11) (pa_cons (pv 12) pa_nil)))) pa_nil))), ?_⟩
  intro i σ H1 ok h7 gr q
  obtain ⟨ev, lv⟩ := ok
  obtain ⟨vs, eb, al⟩ := gr
  have sub : Same (msk [i.b] H1) H1 := msk_sub
  have ev1 : EvS T i σ H1 := evE i σ _ _ sub ev
  have al1 := al.st (LamX.ExtN.of sub)
  obtain ⟨r6, r7, r8, r9, r10, r11, r12, rfl⟩ := ev_lit ev1
  have e7 : r7 = some (.ref i.b) := Option.some.inj h7
  subst e7
  have good := bad_good ev1.d
  refine ⟨_, rfl, i.b, rfl, ⟨_, SqL.of eb⟩, fun D nD => lc_list (xs := vs)
      (fun k H' => H' D = some (.lst ((List.replicate k true).map V.bl)) ∧ LamX.ExtN H1 H' ∧ LamX.Tabs T H') ⟨upd_same, LamX.ExtN.of (same_new nD), ev1.t.ext (same_new nD)⟩ (fun k H' _ z => sqN z.2.1 (SqL.of eb)) ?_ ?_⟩
  · rintro k x H' hx ⟨eD, xN, tN⟩
    obtain ⟨r, hr, rx⟩ := al1.at hx
    rw [List.getElem?_map] at hr
    obtain ⟨y, hy, rfl⟩ := Option.map_eq_some_iff.mp hr
    have ym := List.mem_of_getElem? hy
    have hk : k < 100 := by
      have z := (List.getElem?_eq_some_iff.mp hy).1
      have z2 : (badS i.ns).length = 28 := rfl
      omega
    obtain ⟨a, l, rfl, ha, hl⟩ := rowR_of ((rowR y).st _ _ _ xN rx)
    obtain ⟨g1, g2⟩ := good y ym
    refine ⟨a, _, rfl, SqT.of ha, rfl, _, _, rfl, _, _, rfl, rfl, rfl, _, rfl, _, rfl, l, y.1, y.2, rfl, SqL.of hl, tN, g1, shows_nat (bad_small _ y ym), g2, fun H2 x2 t2 => ⟨_, x2 _ _ eD (fun _ z => by cases z), ?_, ?_, ?_, ?_⟩⟩
    · rw [List.length_map, List.length_replicate, sizeLine_eq]
      omega
    · rw [upd_same, List.replicate_succ', List.map_append]
      rfl
    · intro b u z nt
      have nb : b ≠ D := ne_of_none z nD
      rw [upd_ne nb]
      exact x2 b u (xN b u z nt) nt
    · have eD2 := x2 _ _ eD (fun _ z => by cases z)
      intro pr hpr
      obtain ⟨ps, h1, h2, h3⟩ := t2 pr hpr
      refine ⟨ps, ?_, h2, fun pos cv hcv => ?_⟩
      · rw [upd_ne (fun z => by rw [z, eD2] at h1; cases h1)]
        exact h1
      · obtain ⟨cc, e3, e4⟩ := h3 pos cv hcv
        refine ⟨cc, e3, ?_⟩
        rw [upd_ne (fun z => by rw [z, eD2] at e4; cases e4)]
        exact e4
  · rintro H' ⟨eD, xN, tN⟩
    refine ⟨D, _, rfl, sqN (LamX.ExtN.refl _) (SqL.of eD), ?_⟩
    have e : ∀ n : Nat, ((List.replicate n true).all id) = true := fun n => by
      rw [List.all_eq_true]
      intro b hb
      rw [(List.mem_replicate.mp hb).2]
      rfl
    rw [e]
    exact q _ (fun b o nb e nt => xN b o (ev1.x b o nb e nt) nt) tN
end
end K03

set_option Elab.async false
set_option linter.all false
set_option maxRecDepth 100000
set_option maxHeartbeats 8000000
namespace K03
open PySem PySem.Spec PySem.W PySem.Calls PyProof.Rows L2 MX
theorem bl {n m : Nat} (h : Nat.ble n m = true) : n ≤ m := Nat.le_of_ble_eq_true h
theorem big {n : Nat} (h : n ≤ 1000) : n < sizeLine := by rw [sizeLine_eq]; omega
section
variable {P : Program} {w : World} {K : PySem.W.Frag} {mg : Str → Option Value} {base : Heap} {f : Addr} {fd : FuncData} {T : List (Addr × Str)}
theorem cl {n m : Nat} (h : n + m ≤ 1000) : n + m ≤ 1000 := h
theorem lC (x y : Ix → List Str) (hx : ∀ i, Drawn i.ns → (x i).length ≤ 100) (hy : ∀ i, Drawn i.ns → (y i).length ≤ 100) : ∀ ns, Drawn ns → ∀ i : Ix, i.ns = ns → (x i).length + (y i).length ≤ 1000 := fun ns d i e => by
  subst e
  have := hx i d
  have := hy i d
  omega
theorem xM0' {M : Ix → List Addr} {X : Cx} {p1 p2 p3 : Pos} {j} (v : Vars X) : PE X (.Subscript (.Name "_law_met" p1) (.Constant (.int 0) j p2) p3) (tR (EvS T) M fun i => oS ((metS i.ns).getD 0 "")) :=
  er_ix evE (x := fun i => (metS i.ns).map oS) (k := 0) (xM v) er_int (fun _ _ => rfl) fun i σ H h => by
    have l := mlen h.d
    rw [List.getElem?_map, List.getD_eq_getElem?_getD, List.getElem?_eq_getElem (by omega)]
    rfl
/-- "word " + name + " " + name -/
theorem lW (k : Nat) (w : Str) (hw : w.length ≤ 100) : ∀ i : Ix, Drawn i.ns → (w ++ gN i.ns k).length ≤ 300 := fun i d => by
  have := nlen d k
  rw [ap_len]
  omega
theorem lN (k : Nat) : ∀ i : Ix, Drawn i.ns → (gN i.ns k).length ≤ 300 := fun i d => by
  have := nlen d k
  omega
theorem mt_le {ns : List Str} (d : Drawn ns) (k : Nat) : ((metS ns).take k).length ≤ 20 ∧ ((opS ns).take k).length ≤ 4 := by
  have h1 := mlen d
  have h2 := olen d
  rw [List.length_take, List.length_take]
  omega
abbrev EL (T : List (Addr × Str)) : Ix × Str → L2.St → Hp → Prop := EvL (EvS T) 8
abbrev ML : Ix × Str → List Addr := fun j => [j.1.b]
theorem xLn2 {X : Cx} {p1 p2 p3 p4 pos : Pos} {j x1} (v : Vars X) (v8 : ∀ pos, PE X (.Name "_law_line" pos) (tVar 8)) : PE X (.Tuple [.List [.Name "_law_head" p1, .Name "_law_line" p2] p3, .Constant (.int 2) j p4] x1 pos) (tR (EL T) ML fun j => row2 j.1 j.2) := by
  have h1 : PE X (.Name "_law_head" p1) (tR (EL T) ML fun j => oS (headS j.1.ns)) := er_v (v.v2 p1) fun j σ H h => ⟨_, (ev_at h.1).2.1, rfl⟩
  have h2 : PE X (.Name "_law_line" p2) (tR (EL T) ML fun j => oS j.2) := er_v (v8 p2) fun j σ H h => ⟨_, h.2, rfl⟩
  have h3 : PE X (.List [.Name "_law_head" p1, .Name "_law_line" p2] p3) (tR (EL T) ML fun j => oSL [headS j.1.ns, j.2]) := er_lst (EvL.env evE 8) (ea_cons (EvL.env evE 8) h1 (ea_cons (EvL.env evE 8) h2 ea_nil)) (fun i σ H h => by rw [sizeLine_eq]; exact bl rfl)
  exact er_tup (EvL.env evE 8) (ea_cons (EvL.env evE 8) h3 (ea_cons (EvL.env evE 8) (er_int (n := 2)) ea_nil)) (fun i σ H h => by rw [sizeLine_eq]; exact bl rfl)
theorem xLn1 {X : Cx} {p2 p3 p4 pos : Pos} {j x1} (v8 : ∀ pos, PE X (.Name "_law_line" pos) (tVar 8)) : PE X (.Tuple [.List [.Name "_law_line" p2] p3, .Constant (.int 1) j p4] x1 pos) (tR (EL T) ML fun j => row1 j.1 j.2) := by
  have h2 : PE X (.Name "_law_line" p2) (tR (EL T) ML fun j => oS j.2) := er_v (v8 p2) fun j σ H h => ⟨_, h.2, rfl⟩
  have h3 : PE X (.List [.Name "_law_line" p2] p3) (tR (EL T) ML fun j => oSL [j.2]) := er_lst (EvL.env evE 8) (ea_cons (EvL.env evE 8) h2 ea_nil) (fun i σ H h => by rw [sizeLine_eq]; exact bl rfl)
  exact er_tup (EvL.env evE 8) (ea_cons (EvL.env evE 8) h3 (ea_cons (EvL.env evE 8) (er_int (n := 1)) ea_nil)) (fun i σ H h => by rw [sizeLine_eq]; exact bl rfl)
theorem mid3 {cdv : Value} {A : Around} {outer : List Env} {s : Shared} {H : Hp} {E : XK} {fR : Addr} {fdR : FuncData} (hrg : RoomG 9 (A.deeper (envOfC "_law_right" (defScope sRight) s.heap.objs.size f cdv))) (hall : mg "all" = none)
    (FR : FnP K "_law_is_refused" sRefused fR fdR) (gR : mg "_law_is_refused" = some (.ref fR)) (GR : FnG P w K mg base CX0 9 fR fdR ["_law_rows", "_law_number"] (spRefused K T)) {Q : VK} :
    ∃ t, PSs (cxR P w K mg base f cdv A outer s H E) ((defBody sRight).drop 7) t ∧ ∀ (i : Ix) (σ : L2.St) (H1 : Hp), EvS T i σ H1 → (∀ H', ExtPN i.p i.H0 H' → LamX.Tabs T H' → Q (.bl true) H') → t { nx := fun _ H' => Q .non H', rt := Q } σ H1 := by
  obtain ⟨t15, h15, k15⟩ := end3 (P := P) (w := w) (base := base) (f := f) (T := T) (outer := outer) (s := s) (H := H) (E := E) (Q := Q) hrg hall FR gR GR
  have v : Vars (cxR P w K mg base f cdv A outer s H E) := vars
  refine ⟨_, pss_cons (ps_set (i := 7) scRight.nd rfl (Or.inl rfl) (pe_lst (t := tRA (EvS T) M0 fun i => (bad1 i.ns).map rowR)
      (ea_cons evE (xRow 1 (xL1 (xJ (bl rfl) (xN v) (fun i d => ⟨Nat.le_trans (jlen0 d) (bl rfl), jsum0 d⟩))))
      (ea_cons evE (xRow 22 (xC (xC (xHd v) (xM v) (lC _ _ (fun i d => bl rfl) (fun i d => by rw [mlen d]; exact bl rfl))) (er_takeS evE (xM v) er_int) (lC _ _ (fun i d => by rw [List.length_append, mlen d]; exact bl rfl) (fun i d => Nat.le_trans (mt_le d 1).1 (bl rfl)))))
      (ea_cons evE (xRow 1 (xL1 er_str)) (ea_cons evE (xRow 1 (xL1 er_str)) (ea_cons evE (xRow 1 (xM v)) ea_nil)))))))
    (pss_cons (es_append (Ev := EvS T) (M := MB) evE 7 (r := fun i => rowR ([headS i.ns] ++ opS i.ns ++ [rvS i.ns 30], 6)) (xRow 6 (xC (xC (xHd v) (xO v) (lC _ _ (fun i d => bl rfl) (fun i d => by rw [olen d]; exact bl rfl))) (xL1 (xRv v 30 (by decide))) (lC _ _ (fun i d => by rw [List.length_append, olen d]; exact bl rfl) (fun i d => bl rfl)))))
    (pss_cons (es_extend (Ev := EvS T) (M := MB) evE 7 (r := fun i => (bad3 i.ns).map rowR) (er_lst evE
      (ea_cons evE (xRow 23 (xC (xC (xHd v) (xM v) (lC _ _ (fun i d => bl rfl) (fun i d => by rw [mlen d]; exact bl rfl))) (er_repS evE (k := 2) (er_takeS evE (xO v) er_int) er_int (by decide) (fun i σ H h => by have := (mt_le h.d 1).2; show ((opS i.ns).take 1).length * 2 ≤ sizeLine; rw [sizeLine_eq]; omega)) (lC _ _ (fun i d => by rw [List.length_append, mlen d]; exact bl rfl) (fun i d => by
          have := (mt_le d 1).2
          simp only [List.length_flatten, List.map_replicate, List.sum_replicate_nat]
          omega))))
      (ea_cons evE (xRow 3 (xC (xC (xHd v) (er_takeS evE (xO v) er_int) (lC _ _ (fun i d => bl rfl) (fun i d => Nat.le_trans (mt_le d 1).2 (bl rfl)))) (er_takeS evE (xM v) er_int) (lC _ _ (fun i d => by have := (mt_le d 1).2; rw [List.length_append, List.length_singleton]; omega) (fun i d => Nat.le_trans (mt_le d 1).1 (bl rfl)))))
      (ea_cons evE (xRow 3 (xC (xC (xHd v) (er_takeS evE (xM v) er_int) (lC _ _ (fun i d => bl rfl) (fun i d => Nat.le_trans (mt_le d 1).1 (bl rfl)))) (xHd v) (lC _ _ (fun i d => by have := (mt_le d 1).1; rw [List.length_append, List.length_singleton]; omega) (fun i d => bl rfl)))) ea_nil)))
      (fun i σ H h => by rw [sizeLine_eq]; exact bl rfl)))
    (pss_cons (es_append (Ev := EvS T) (M := MB) evE 7 (r := fun i => rowR ([headS i.ns, (metS i.ns).getD 0 "", rvS i.ns 0], 3)) (xRow 3 (xL3 (xH v) (xM0' v) (xRv v 0 (by decide)))))
    (pss_cons (es_append (Ev := EvS T) (M := MB) evE 7 (r := fun i => rowR ([headS i.ns] ++ (opS i.ns).take 1 ++ [rvS i.ns 20], 3)) (xRow 3 (xC (xC (xHd v) (er_takeS evE (xO v) er_int) (lC _ _ (fun i d => bl rfl) (fun i d => Nat.le_trans (mt_le d 1).2 (bl rfl)))) (xL1 (xRv v 20 (by decide))) (lC _ _ (fun i d => by have := (mt_le d 1).2; rw [List.length_append, List.length_singleton]; omega) (fun i d => bl rfl)))))
    (pss_cons (ps_for PassesOwn.never rfl (pi_tup (tl := tR (EvS T) MB fun i => oT ((lines1 i.ns).map oS)) (er_tup evE (ea_cons evE (xW (bl rfl) (xGn v 0 (by decide)) (lN 0)) (ea_cons evE (xWW (xW (bl rfl) (xGn v 0 (by decide)) (lN 0)) (xGn v 9 (by decide)) (fun i d => ⟨lW 0 _ (bl rfl) i d, lN 9 i d⟩)) (ea_cons evE (xWW (xW (bl rfl) (xGn v 0 (by decide)) (lN 0)) (xGn v 0 (by decide)) (fun i d => ⟨lW 0 _ (bl rfl) i d, lN 0 i d⟩)) (ea_cons evE er_str (ea_cons evE er_str ea_nil))))) (fun i σ H h => by rw [sizeLine_eq]; exact bl rfl)))
      (pg_name (i := 8) scRight.nd rfl (Or.inl rfl)) (pss_one (es_append (Ev := EvL (EvS T) 8) (M := fun j => [j.1.b]) (EvL.env evE 8) 7 (r := fun j => row2 j.1 j.2) (xLn2 v (fun _ => pv 8)))))
    (pss_cons (ps_for PassesOwn.never rfl (pi_tup (tl := tR (EvS T) MB fun i => oT ((lines2 i.ns).map oS)) (er_tup evE (ea_cons evE (xW (bl rfl) (xGn v 0 (by decide)) (lN 0)) (ea_cons evE (xWW (xW (bl rfl) (xGn v 0 (by decide)) (lN 0)) (xGn v 0 (by decide)) (fun i d => ⟨lW 0 _ (bl rfl) i d, lN 0 i d⟩)) (ea_cons evE (xJ (bl rfl) (er_takeS evE (xN v) er_int) (fun i d => ⟨Nat.le_trans (jlen d 3) (bl rfl), jsum d 3⟩)) (ea_cons evE er_str ea_nil)))) (fun i σ H h => by rw [sizeLine_eq]; exact bl rfl)))
      (pg_name (i := 8) scRight.nd rfl (Or.inl rfl)) (pss_one (es_append (Ev := EvL (EvS T) 8) (M := fun j => [j.1.b]) (EvL.env evE 8) 7 (r := fun j => row2 j.1 j.2) (xLn2 v (fun _ => pv 8)))))
    (pss_cons (ps_for PassesOwn.never rfl (pi_tup (tl := tR (EvS T) MB fun i => oT (lines3.map oS)) (er_tup evE (ea_cons evE er_str (ea_cons evE er_str (ea_cons evE er_str (ea_cons evE er_str (ea_cons evE er_str (ea_cons evE er_str (ea_cons evE er_str (ea_cons evE er_str ea_nil)))))))) (fun i σ H h => by rw [sizeLine_eq]; exact bl rfl)))
      (pg_name (i := 8) scRight.nd rfl (Or.inl rfl)) (pss_one (es_append (Ev := EvL (EvS T) 8) (M := fun j => [j.1.b]) (EvL.env evE 8) 7 (r := fun j => row1 j.1 j.2) (xLn1 (fun _ => pv 8)))))
    h15))))))), ?_⟩
  intro i σ H1 ev q
  refine ⟨i, ⟨by rw [msk_nil]; exact ev, Live.nil⟩, fun vs H2 s2 a2 => ⟨by rw [a2.len, sizeLine_eq]; exact bl rfl, fun b hb => ?_⟩⟩
  rw [msk_nil] at a2
  have ev2 := (evE i σ _ _ s2 ev).be b
  have ok : EOk (EvS T) MB { i with b := b } (σ.set 7 (some (.ref b))) (L2.upd H2 b (.lst vs)) := ⟨by
    show EvS T _ _ (msk [b] _)
    rw [msk_one hb]
    exact ev_set 1 _ ev2, fun c hc => ⟨vs, by rw [List.mem_singleton.mp hc, upd_same]⟩⟩
  have gr : Grow [b] b ((bad1 i.ns).map rowR) (L2.upd H2 b (.lst vs)) := ⟨vs, upd_same, by rw [msk_one hb]; exact a2⟩
  have h7 : (σ.set 7 (some (.ref b)))[7]? = some (some (.ref b)) := by rw [List.getElem?_set_self (by rw [ev_len ev]; decide)]
  have m : b ∈ MB { i with b := b } := List.mem_singleton.mpr rfl
  refine ⟨{ i with b := b }, b, _, h7, m, ok, gr, big (bl rfl), fun H4 ok gr _ => ?_⟩
  refine ⟨{ i with b := b }, b, _, h7, m, ok, gr, big (bl rfl), fun H5 ok gr _ => ?_⟩
  refine ⟨{ i with b := b }, b, _, h7, m, ok, gr, big (bl rfl), fun H6 ok gr _ => ?_⟩
  refine ⟨{ i with b := b }, b, _, h7, m, ok, gr, big (bl rfl), fun H7 ok gr _ => ?_⟩
  refine rows_loop evE (row := row2) (L := fun i => lines1 i.ns) (by decide) (fun i σ u H h => ev_set 2 u h) (fun i σ H h => by rw [ev_len h]; decide) ⟨{ i with b := b }, b, _, h7, m, ok, gr, big (bl rfl), fun σ8 H8 h7 ok gr => ?_⟩
  refine rows_loop evE (row := row2) (L := fun i => lines2 i.ns) (by decide) (fun i σ u H h => ev_set 2 u h) (fun i σ H h => by rw [ev_len h]; decide) ⟨{ i with b := b }, b, _, h7, m, ok, gr, big (bl rfl), fun σ9 H9 h7 ok gr => ?_⟩
  refine rows_loop evE (row := row1) (L := fun i => lines3) (by decide) (fun i σ u H h => ev_set 2 u h) (fun i σ H h => by rw [ev_len h]; decide) ⟨{ i with b := b }, b, _, h7, m, ok, gr, big (bl rfl), fun σ10 H10 h7 ok gr => ?_⟩
  exact k15 _ _ _ ok h7 (by rw [← bads_eq]; exact gr) q
end
end K03

set_option Elab.async false
set_option linter.all false
set_option maxRecDepth 100000
set_option maxHeartbeats 8000000
namespace K03
open PySem PySem.Spec PySem.W PySem.Calls PyProof.Rows L2 MX
section
variable {P : Program} {w : World} {K : PySem.W.Frag} {mg : Str → Option Value} {base : Heap} {f : Addr} {fd : FuncData} {T : List (Addr × Str)}
def fine1 (ns : List Str) : List (List Str) := [[headS ns] ++ metS ns ++ opS ns, [headS ns], ["people " ++ gN ns 0], [headS ns, "met " ++ Txt.join " " (ns.take 9)], [headS ns] ++ opS ns]
def fine2 (ns : List Str) : List (List Str) := [[headS ns] ++ (List.replicate 20 ((metS ns).take 1)).flatten, ["people abcdefgh z"], [headS ns] ++ (metS ns).take 1 ++ (metS ns).take 1 ++ (opS ns).take 1]
def lR (xs : List Str) : Rd := oSL xs
theorem mid2 {cdv : Value} {A : Around} {outer : List Env} {s : Shared} {H : Hp} {E : XK} {fR fL : Addr} {fdR fdL : FuncData} (hrg : RoomG 9 (A.deeper (envOfC "_law_right" (defScope sRight) s.heap.objs.size f cdv))) (hall : mg "all" = none)
    (FL : FnP K "_law_is_let" sLet fL fdL) (gL : mg "_law_is_let" = some (.ref fL)) (GL : FnG P w K mg base CX0 9 fL fdL ["_law_rows"] (spLet K T))
    (FR : FnP K "_law_is_refused" sRefused fR fdR) (gR : mg "_law_is_refused" = some (.ref fR)) (GR : FnG P w K mg base CX0 9 fR fdR ["_law_rows", "_law_number"] (spRefused K T)) {Q : VK} :
    ∃ t, PSs (cxR P w K mg base f cdv A outer s H E) ((defBody sRight).drop 4) t ∧ ∀ (i : Ix) (σ : L2.St) (H1 : Hp), EvS T i σ H1 → (∀ H', ExtPN i.p i.H0 H' → LamX.Tabs T H' → Q (.bl true) H') → t { nx := fun _ H' => Q .non H', rt := Q } σ H1 := by
  obtain ⟨t7, h7, k7⟩ := mid3 (P := P) (w := w) (base := base) (f := f) (T := T) (outer := outer) (s := s) (H := H) (E := E) (Q := Q) hrg hall FR gR GR
  have v : Vars (cxR P w K mg base f cdv A outer s H E) := vars
  have bL : Binds K fdL ["_law_rows"] [] := FL.bindsN fun _ _ _ _ _ _ us hl => match us, hl with | [_], _ => rfl
  refine ⟨_, pss_cons (ps_set (i := 6) scRight.nd rfl (Or.inl rfl) (pe_lst (t := tRA (EvS T) M0 fun i => (fine1 i.ns).map lR)
      (ea_cons evE (xC (xC (xHd v) (xM v) (lC _ _ (fun i d => bl rfl) (fun i d => by rw [mlen d]; exact bl rfl))) (xO v) (lC _ _ (fun i d => by rw [List.length_append, mlen d]; exact bl rfl) (fun i d => by rw [olen d]; exact bl rfl)))
      (ea_cons evE (xHd v)
      (ea_cons evE (xL1 (xW (bl rfl) (xGn v 0 (by decide)) (lN 0)))
      (ea_cons evE (xL2 (xH v) (xJ (bl rfl) (er_takeS evE (xN v) er_int) (fun i d => ⟨Nat.le_trans (jlen d 9) (bl rfl), jsum d 9⟩)))
      (ea_cons evE (xC (xHd v) (xO v) (lC _ _ (fun i d => bl rfl) (fun i d => by rw [olen d]; exact bl rfl))) ea_nil)))))))
    (pss_cons (es_extend (Ev := EvS T) (M := MB) evE 6 (r := fun i => (fine2 i.ns).map lR) (er_lst evE
      (ea_cons evE (xC (xHd v) (er_repS evE (k := 20) (er_takeS evE (xM v) er_int) er_int (by decide) (fun i σ H h => by have := (mt_le h.d 1).1; show ((metS i.ns).take 1).length * 20 ≤ sizeLine; rw [sizeLine_eq]; omega)) (fun ns d i e => by
          subst e
          have z := (mt_le d 1).1
          have z1 : ((metS i.ns).take 1).length ≤ 1 := by rw [List.length_take]; omega
          simp only [List.length_flatten, List.map_replicate, List.sum_replicate_nat, List.length_singleton]
          omega))
      (ea_cons evE (xL1 er_str)
      (ea_cons evE (xC (xC (xC (xHd v) (er_takeS evE (xM v) er_int) (lC _ _ (fun i d => bl rfl) (fun i d => Nat.le_trans (mt_le d 1).1 (bl rfl)))) (er_takeS evE (xM v) er_int) (lC _ _ (fun i d => by have := (mt_le d 1).1; rw [List.length_append, List.length_singleton]; omega) (fun i d => Nat.le_trans (mt_le d 1).1 (bl rfl)))) (er_takeS evE (xO v) er_int)
        (lC _ _ (fun i d => by have := (mt_le d 1).1; rw [List.length_append, List.length_append, List.length_singleton]; omega) (fun i d => Nat.le_trans (mt_le d 1).2 (bl rfl)))) ea_nil)))
      (fun i σ H h => by rw [sizeLine_eq]; exact bl rfl)))
    (pss_cons (ps_if (pt_not (pt_val (pe_callB (cr_all rfl) (by rfl) hall boot_all (pa_cons (pe_lc (own := [("_law_rows", 11)]) (g := gName 11) (tt := tYes) rfl scRight.nd (pi_list (pv 6)) (blkOk_by (N := nRight) (sc := defScope sRight) (by decide +kernel))
      (fun _ _ _ _ _ => pg_name (i := 11) scRight.nd rfl (Or.inl rfl)) (fun _ _ _ _ _ => pts_nil) (fun _ _ _ _ _ => pe_callG GL hrg rfl gL FL.kp bL .nil pass0 (pa_cons (pv 11) pa_nil))) pa_nil)))) (pss_one (ps_ret pe_bl)) pss_nil) h7)), ?_⟩
  intro i σ H1 ev q
  refine ⟨i, ⟨by rw [msk_nil]; exact ev, Live.nil⟩, fun vs H2 s2 a2 => ⟨by rw [a2.len, sizeLine_eq]; exact bl rfl, fun b hb => ?_⟩⟩
  rw [msk_nil] at a2
  have ev2 := (evE i σ _ _ s2 ev).be b
  have ok : EOk (EvS T) MB { i with b := b } (σ.set 6 (some (.ref b))) (L2.upd H2 b (.lst vs)) := ⟨by
    show EvS T _ _ (msk [b] _)
    rw [msk_one hb]
    exact ev_set 0 _ ev2, fun c hc => ⟨vs, by rw [List.mem_singleton.mp hc, upd_same]⟩⟩
  have gr : Grow [b] b ((fine1 i.ns).map lR) (L2.upd H2 b (.lst vs)) := ⟨vs, upd_same, by rw [msk_one hb]; exact a2⟩
  have h6 : (σ.set 6 (some (.ref b)))[6]? = some (some (.ref b)) := by rw [List.getElem?_set_self (by rw [ev_len ev]; decide)]
  have m : b ∈ MB { i with b := b } := List.mem_singleton.mpr rfl
  refine ⟨{ i with b := b }, b, _, h6, m, ok, gr, big (bl rfl), fun H4 ok gr _ => ?_⟩
  obtain ⟨ev3, lv⟩ := ok
  obtain ⟨us, eb, al⟩ := gr
  have sub : Same (msk [b] H4) H4 := msk_sub
  have ev1 : EvS T { i with b := b } (σ.set 6 (some (.ref b))) H4 := evE _ _ _ _ sub ev3
  have al1 := al.st (LamX.ExtN.of sub)
  generalize σ.set 6 (some (.ref b)) = σ6 at *
  obtain ⟨r6, r7, r8, r9, r10, r11, r12, rfl⟩ := ev_lit ev1
  have e6 : r6 = some (.ref b) := Option.some.inj h6
  subst e6
  have good := fine_good ev1.d
  have ef : (fine1 i.ns).map lR ++ (fine2 i.ns).map lR = (fineS i.ns).map lR := rfl
  refine ⟨_, rfl, b, rfl, ⟨_, SqL.of eb⟩, fun D nD => lc_list (xs := us)
      (fun k H' => H' D = some (.lst ((List.replicate k true).map V.bl)) ∧ LamX.ExtN H4 H' ∧ LamX.Tabs T H') ⟨upd_same, LamX.ExtN.of (same_new nD), ev1.t.ext (same_new nD)⟩ (fun k H' _ z => sqN z.2.1 (SqL.of eb)) ?_ ?_⟩
  · rintro k x H' hx ⟨eD, xN, tN⟩
    obtain ⟨r, hr, rx⟩ := al1.at hx
    have hr' : ((fineS i.ns).map lR)[k]? = some r := hr
    rw [List.getElem?_map] at hr'
    obtain ⟨y, hy, rfl⟩ := Option.map_eq_some_iff.mp hr'
    have ym := List.mem_of_getElem? hy
    have hk : k < 100 := by
      have z := (List.getElem?_eq_some_iff.mp hy).1
      have z2 : (fineS i.ns).length = 8 := rfl
      omega
    obtain ⟨a, rfl, ha⟩ := oSL_iff.mp ((lR y).st _ _ _ xN rx)
    obtain ⟨g1, ot, g2⟩ := good y ym
    refine ⟨rfl, _, rfl, a, y, ot, rfl, SqL.of ha, tN, g1, g2, fun H2 x2 t2 => ⟨_, x2 _ _ eD (fun _ z => by cases z), ?_, ?_, ?_, ?_⟩⟩
    · rw [List.length_map, List.length_replicate, sizeLine_eq]
      omega
    · rw [upd_same, List.replicate_succ', List.map_append]
      rfl
    · intro b u z nt
      have nb : b ≠ D := ne_of_none z nD
      rw [upd_ne nb]
      exact x2 b u (xN b u z nt) nt
    · have eD2 := x2 _ _ eD (fun _ z => by cases z)
      intro pr hpr
      obtain ⟨ps, h1, h2, h3⟩ := t2 pr hpr
      refine ⟨ps, ?_, h2, fun pos cv hcv => ?_⟩
      · rw [upd_ne (fun z => by rw [z, eD2] at h1; cases h1)]
        exact h1
      · obtain ⟨cc, e3, e4⟩ := h3 pos cv hcv
        refine ⟨cc, e3, ?_⟩
        rw [upd_ne (fun z => by rw [z, eD2] at e4; cases e4)]
        exact e4
  · rintro H' ⟨eD, xN, tN⟩
    have e : ∀ n : Nat, ((List.replicate n true).all id) = true := fun n => by
      rw [List.all_eq_true]
      intro b hb
      rw [(List.mem_replicate.mp hb).2]
      rfl
    refine ⟨D, _, rfl, sqN (LamX.ExtN.refl _) (SqL.of eD), _, rfl, ?_⟩
    rw [e]
    exact k7 _ _ _ (ev1.on xN tN) q
/-! ### the first statements -/
structure EvP (i : Ix) (σ : L2.St) (H : Hp) : Prop where
  d : Drawn i.ns
  s : σ[3]? = some (some (.ref i.pr))
  pr : (oL ((prS i.ns).map prR)).R (.ref i.pr) H
theorem evPE : Env EvP := fun i σ H H' s h => ⟨h.d, h.s, (oL _).st _ _ _ (LamX.ExtN.of s) h.pr⟩
theorem prR_of {v : V} {y : Str × Str} {H : Hp} (h : (prR y).R v H) : ∃ a, v = .ref a ∧ H a = some (.tup [.str y.1, .str y.2]) := by
  obtain ⟨a, vs, e, ha, al⟩ := h
  match vs, al with
  | [v1, v2], ⟨h1, h2, _⟩ =>
    have e1 : v1 = .str y.1 := h1
    have e2 : v2 = .str y.2 := h2
    subst e1 e2
    exact ⟨a, e, ha⟩
theorem pairs_rd {H : Hp} {f : Addr} {ps : List (Str × Str)} (h : PairsAt H f ps) : (oL (ps.map prR)).R (.ref f) H := by
  obtain ⟨qs, e, l, k⟩ := h
  refine ⟨f, _, rfl, e, ?_⟩
  clear e
  induction qs generalizing ps with
  | nil =>
    have : ps = [] := List.length_eq_zero_iff.mp l.symm
    subst this
    trivial
  | cons q qs ih =>
    match ps, l with
    | p :: ps, l =>
      refine ⟨⟨q, _, rfl, k 0 q p rfl rfl, rfl, rfl, trivial⟩, ih (ps := ps) (by simpa using l) fun i q p h1 h2 => k (i + 1) q p (by simpa using h1) (by simpa using h2)⟩
/-- [w + one + " " + other for one, other in ..] -/
theorem lines_lc {L : Ix → List (Str × Str)} {wd : Str} (hw : wd.length ≤ 100) {a0 a1 a2 a3 r4 r5 r6 r7 r8 r9 r10 r11 r12 : Option V} {H : Hp} {Q : VK}
    (h : ∃ i, EOk EvP M0 i [a0, a1, a2, a3, r4, r5, r6, r7, r8, r9, r10, r11, r12] H ∧ (∀ q ∈ L i, q.1.length ≤ 20 ∧ q.2.length ≤ 20) ∧ (L i).length ≤ 100 ∧ ∀ D H', Same H H' → H' D = some (.lst (((L i).map (ln2 wd)).map V.str)) → Q (.ref D) H') :
    tLc (iList K (tR EvP M0 fun i => oL ((L i).map prR))) (gTup K 2 (gCons (gName 9) (gCons (gName 10) gNil))) tYes
      (tOp (fun x y H Q => ∃ i j, x = .str i ∧ y = .str j ∧ i.length + j.length ≤ sizeLine ∧ Q (.str (i ++ j)) H) (tOp (fun x y H Q => ∃ i j, x = .str i ∧ y = .str j ∧ i.length + j.length ≤ sizeLine ∧ Q (.str (i ++ j)) H) (tOp (fun x y H Q => ∃ i j, x = .str i ∧ y = .str j ∧ i.length + j.length ≤ sizeLine ∧ Q (.str (i ++ j)) H) (tC (.str wd)) (tVar 9)) (tC (.str " "))) (tVar 10)) [9, 10]
      [a0, a1, a2, a3, r4, r5, r6, r7, r8, r9, r10, r11, r12] H Q := by
  obtain ⟨i, ok, hs, hl, q⟩ := h
  refine ⟨i, ok, fun v H1 s1 ⟨a, vs, ev, ea, al⟩ => ⟨a, ev, ⟨_, SqL.of (msk_of ea).1⟩, fun D nD => lc_list (xs := vs) (fun k H' => Same H1 H' ∧ H' D = some (.lst ((((L i).take k).map (ln2 wd)).map V.str)))
    ⟨same_new nD, upd_same⟩ (fun k H' _ z => SqL.of (z.1 _ _ (msk_of ea).1)) ?_ ?_⟩⟩
  · rintro k x H' hx ⟨sK, eD⟩
    obtain ⟨r, hr, rx⟩ := al.at hx
    rw [List.getElem?_map] at hr
    obtain ⟨y, hy, rfl⟩ := Option.map_eq_some_iff.mp hr
    obtain ⟨t, rfl, ht⟩ := prR_of rx
    have ht' := sK _ _ (msk_of ht).1
    have hy2 := hs y (List.mem_of_getElem? hy)
    have wl := w_len
    have hk := (List.getElem?_eq_some_iff.mp hy).1
    refine ⟨t, _, rfl, SqT.of ht', rfl, _, _, rfl, _, _, rfl, rfl, rfl, _, rfl, _, _, rfl, rfl, ?_, _, _, rfl, rfl, ?_, _, rfl, _, _, rfl, rfl, ?_, _, eD, ?_, ?_, ?_⟩
    · rw [sizeLine_eq]; omega
    · rw [sizeLine_eq, ap_len]; omega
    · rw [sizeLine_eq, ap_len, ap_len]; omega
    · rw [List.length_map, List.length_map, List.length_take, sizeLine_eq]; omega
    · exact fun b o e => by
        rw [upd_ne (ne_of_none e nD)]
        exact sK b o e
    · have e1 : (L i).take (k + 1) = (L i).take k ++ [y] := by
        rw [List.take_add_one, hy]
        rfl
      rw [upd_same, e1, List.map_append, List.map_append]
      rfl
  · rintro H' ⟨sK, eD⟩
    rw [al.len, List.length_map, List.take_length] at eD
    exact q D H' (s1.trans sK) eD
end
end K03

set_option Elab.async false
set_option linter.all false
set_option maxRecDepth 100000
set_option maxHeartbeats 8000000
namespace K03
open PySem PySem.Spec PySem.W PySem.Calls PyProof.Rows L2 MX
section
variable {P : Program} {w : World} {K : PySem.W.Frag} {mg : Str → Option Value} {base : Heap} {f : Addr} {fd : FuncData} {T : List (Addr × Str)}
theorem tabs_ext {H H1 : Hp} {p : Addr} (hp : ∃ xs, H p = some (.lst xs)) (x : Ext p H H1) (t : LamX.Tabs T H) : LamX.Tabs T H1 := by
  obtain ⟨xs, e⟩ := hp
  intro pr hpr
  obtain ⟨ps, h1, h2, h3⟩ := t pr hpr
  refine ⟨ps, x _ _ (fun z => by rw [z, e] at h1; cases h1) h1, h2, fun pos cv hcv => ?_⟩
  obtain ⟨cc, e3, e4⟩ := h3 pos cv hcv
  exact ⟨cc, e3, x _ _ (fun z => by rw [z, e] at e4; cases e4) e4⟩
theorem xPp {X : Cx} {p1 : Pos} (v : Vars X) : PE X (.Name "_law_pairs_here" p1) (tR EvP M0 fun i => oL ((prS i.ns).map prR)) := er_v (v.v3 p1) fun i σ H h => ⟨_, h.s, h.pr⟩
theorem xTk {X : Cx} {p1 p2 p3 pos : Pos} {j} (v : Vars X) : PE X (.Subscript (.Name "_law_pairs_here" p1) (.Slice none (some (.Constant (.int 20) j p2)) none p3) pos) (tR EvP M0 fun i => oL (((prS i.ns).take 20).map prR)) := by
  have z2 : PE X (.Subscript (.Name "_law_pairs_here" p1) (.Slice none (some (.Constant (.int 20) j p2)) none p3) pos) _ := er_take evPE (k := 20) (xPp v) er_int
  simp only [← List.map_take] at z2
  exact z2
theorem xMd {X : Cx} {p1 p2 p3 p4 pos : Pos} {j j2} (v : Vars X) : PE X (.Subscript (.Name "_law_pairs_here" p1) (.Slice (some (.Constant (.int 20) j p2)) (some (.Constant (.int 24) j2 p3)) none p4) pos) (tR EvP M0 fun i => oL ((((prS i.ns).drop 20).take 4).map prR)) := by
  have z2 : PE X (.Subscript (.Name "_law_pairs_here" p1) (.Slice (some (.Constant (.int 20) j p2)) (some (.Constant (.int 24) j2 p3)) none p4) pos) _ := er_mid evPE (j := 20) (k := 24) (xPp v) er_int er_int (fun i σ H h => by rw [List.length_map, prlen h.d]; decide)
  simp only [← List.map_take, ← List.map_drop] at z2
  exact z2
def iN (p n : Addr) (ns : List Str) (pr : Addr) (H : Hp) : Ix := ⟨p, n, pr, p, p, ns, H, p⟩
theorem ok_right {fN fP fR fL : Addr} {fdN fdP fdR fdL : FuncData} (F : FnP K "_law_right" sRight f fd) (hall : mg "all" = none)
    (FN : FnP K "_law_names" sNames fN fdN) (gN : mg "_law_names" = some (.ref fN)) (GN : FnOk P w K mg base CX0 3 fN fdN ["_law_pot_here", "_law_amount"] spNames)
    (FP : FnP K "_law_pairs" sPairs fP fdP) (gP : mg "_law_pairs" = some (.ref fP)) (GP : FnOk P w K mg base CX0 1 fP fdP ["_law_people"] (spPairs K))
    (FL : FnP K "_law_is_let" sLet fL fdL) (gL : mg "_law_is_let" = some (.ref fL)) (GL : FnG P w K mg base CX0 9 fL fdL ["_law_rows"] (spLet K T))
    (FR : FnP K "_law_is_refused" sRefused fR fdR) (gR : mg "_law_is_refused" = some (.ref fR)) (GR : FnG P w K mg base CX0 9 fR fdR ["_law_rows", "_law_number"] (spRefused K T)) :
    FnG P w K mg base CX0 10 f fd ["_law_pot_here"] (spRight T) := by
  have bN : Binds K fdN ["_law_pot_here", "_law_amount"] [] := FN.bindsN fun _ _ _ _ _ _ us hl => match us, hl with | [_, _], _ => rfl
  have bP : Binds K fdP ["_law_people"] [] := FP.bindsN fun _ _ _ _ _ _ us hl => match us, hl with | [_], _ => rfl
  refine okG F scRight (fun vs H Q E h => ?_) (fun cdv A outer s H vs Q E hrg h => ?_)
  · obtain ⟨p, rfl, _⟩ := h
    rfl
  · obtain ⟨p, rfl, hp, hT, q⟩ := h
    have hr3 := hrg.r.mono (show 3 ≤ 9 by decide)
    have hr1 := hrg.r.mono (show 1 ≤ 9 by decide)
    obtain ⟨t4, h4, k4⟩ := mid2 (P := P) (w := w) (base := base) (f := f) (T := T) (outer := outer) (s := s) (H := H) (E := E) (Q := Q) hrg hall FL gL GL FR gR GR
    refine ⟨_, PSs.nox (pss_cons (ps_set (i := 1) scRight.nd rfl (Or.inl rfl) (pe_call GN hr3 rfl gN FN.kp bN .nil pass0 (pa_cons (pv 0) (pa_cons pe_int pa_nil))))
      (pss_cons (ps_par (i := 2) (j := 3) rfl scRight.nd rfl rfl (by decide) rfl rfl (pa_cons (pe_op op_add_str pe_str (pe_join pe_str (pe_slice sl_list (pv 1) po_none (po_some pe_int)))) (pa_cons (pe_call GP hr1 rfl gP FP.kp bP .nil pass0 (pa_cons (pe_slice sl_list (pv 1) po_none (po_some pe_int)) pa_nil)) pa_nil)) rfl)
      (pss_cons (ps_setLc (i := 4) (own := [("_law_one", 9), ("_law_other", 10)]) (g := gTup K 2 (gCons (gName 9) (gCons (gName 10) gNil))) (tt := tYes) rfl scRight.nd rfl rfl (sw_true rfl rfl rfl (by decide +kernel))
          (pi_list (xTk vars)) (blkOk_by (N := nRight) (sc := defScope sRight) (by decide +kernel))
        (fun _ _ _ _ _ => by exact pg_tup rfl (pgs_cons (pg_name (i := 9) scRight.nd rfl (Or.inl rfl)) (pgs_cons (pg_name (i := 10) scRight.nd rfl (Or.inl rfl)) pgs_nil))) (fun _ _ _ _ _ => pts_nil)
        (fun _ _ _ _ _ => pe_op op_add_str (pe_op op_add_str (pe_op op_add_str pe_str (pv 9)) pe_str) (pv 10)))
      (pss_cons (ps_setLc (i := 5) (own := [("_law_one", 9), ("_law_other", 10)]) (g := gTup K 2 (gCons (gName 9) (gCons (gName 10) gNil))) (tt := tYes) rfl scRight.nd rfl rfl (sw_true rfl rfl rfl (by decide +kernel))
          (pi_list (xMd vars)) (blkOk_by (N := nRight) (sc := defScope sRight) (by decide +kernel))
        (fun _ _ _ _ _ => by exact pg_tup rfl (pgs_cons (pg_name (i := 9) scRight.nd rfl (Or.inl rfl)) (pgs_cons (pg_name (i := 10) scRight.nd rfl (Or.inl rfl)) pgs_nil))) (fun _ _ _ _ _ => pts_nil)
        (fun _ _ _ _ _ => pe_op op_add_str (pe_op op_add_str (pe_op op_add_str pe_str (pv 9)) pe_str) (pv 10)))
      h4)))), ?_⟩
    refine ⟨_, rfl, p, 0, 10, rfl, hp, by decide, by decide, fun n H1 ns rest hn e1 len perm x1 hp1 => ?_⟩
    have d := drawn_of perm len
    have hl : ∃ xs, H p = some (.lst xs) := by
      obtain ⟨o, e, a, b, c, rfl, _⟩ := id hp
      exact ⟨_, e⟩
    have hT1 := tabs_ext hl x1 hT
    have l9 : (ns.take 9).length = 9 := by rw [List.length_take, d.len]; rfl
    have j9 := jlen d 9
    have wl := w_len
    refine ⟨⟨_, rfl⟩, _, rfl, 9, rfl, n, ns.map V.str, rfl, SqL.of e1, fun q1 hq1 => ⟨" ", q1, ns.take 9, rfl, rfl, .inl (SqL.of (by rw [upd_same, List.map_take]; exact congrArg (fun z => some (HO.lst z)) (cut_take _ 9))), jsum d 9, _, _, rfl, rfl, by rw [sizeLine_eq]; omega, ?_⟩⟩
    have s1 := same_new (o := .lst (cutV (ns.map V.str) none (some 9))) hq1
    refine ⟨_, rfl, 9, rfl, n, ns.map V.str, rfl, SqL.of (s1 _ _ e1), fun q2 hq2 => ⟨q2, ns.take 9, rfl, SqL.of (by rw [upd_same, List.map_take]; exact congrArg (fun z => some (HO.lst z)) (cut_take _ 9)), by omega, fun pr H3 hpr s3 hP => ⟨_, _, rfl, ?_⟩⟩⟩
    have s2 := same_new (o := .lst (cutV (ns.map V.str) none (some 9))) hq2
    have s13 := (s1.trans s2).trans s3
    have evP : ∀ {G : Hp} (u4 : Option V), Same H3 G → EOk EvP M0 (iN p n ns pr H) [some (.ref p), some (.ref n), some (.str (headS ns)), some (.ref pr), u4, none, none, none, none, none, none, none, none] G := fun u4 s => ⟨by
      rw [msk_nil]
      exact ⟨d, rfl, (oL _).st _ _ _ (LamX.ExtN.of s) (pairs_rd hP)⟩, Live.nil⟩
    have pl : ∀ q ∈ prS ns, q.1.length ≤ 20 ∧ q.2.length ≤ 20 := fun q hq => by
      rw [pr_eq d] at hq
      obtain ⟨z, _, rfl⟩ := List.mem_map.mp hq
      exact ⟨nlen d _, nlen d _⟩
    dsimp only [tSeq, tAsg]
    refine lines_lc (wd := "met ") (L := fun i => (prS i.ns).take 20) (by rw [wl.2.1]; decide) ⟨iN p n ns pr H, evP _ (Same.refl _), fun q hq => pl q (List.mem_of_mem_take hq), by
      show ((prS ns).take 20).length ≤ 100
      rw [List.length_take]
      omega, fun me H4 s4 eme => ?_⟩
    dsimp only [gName, tSeq, tAsg]
    refine lines_lc (wd := "open ") (L := fun i => ((prS i.ns).drop 20).take 4) (by rw [wl.2.2.1]; decide) ⟨iN p n ns pr H, evP _ s4, fun q hq => pl q (List.mem_of_mem_drop (List.mem_of_mem_take hq)), by
      show (((prS ns).drop 20).take 4).length ≤ 100
      rw [List.length_take]
      omega, fun op H5 s5 eop => ?_⟩
    refine k4 ⟨p, n, pr, me, op, ns, H, p⟩ _ H5 ⟨d, ⟨[none, none, none, none, none, none, none], rfl, rfl⟩, oSL_iff.mpr ⟨n, rfl, s5 _ _ (s4 _ _ (s13 _ _ e1))⟩, (oL _).st _ _ _ (LamX.ExtN.of (s4.trans s5)) (pairs_rd hP), oSL_iff.mpr ⟨me, rfl, s5 _ _ eme⟩, oSL_iff.mpr ⟨op, rfl, eop⟩,
      fun b o nb e _ => s5 _ _ (s4 _ _ (s13 _ _ (x1 b o nb e))), hT1.ext ((s13.trans s4).trans s5)⟩ (fun H' x t => q H' x t)
end
end K03

set_option Elab.async false
set_option linter.all false
set_option maxRecDepth 100000
set_option maxHeartbeats 4000000
namespace K03
open PySem PySem.Spec PySem.W PySem.Calls PyProof.Rows L2 MX
section
variable {P : Program} {w : World} {K : PySem.W.Frag} {h : Heap} {mg : Str → Option Value} {f : Addr}
theorem right_of (X : K.In h) (G : h.Ns mainGlobals mg) (c : Says w h K) {base : Heap} (TB : ∀ p ∈ tf.map (He.cT K), LamX.TabB base mg p.1 p.2) : ∃ fdR, FnP K "_law_right" sRight (He.ga K "_law_right") fdR ∧ FnG P w K mg base CX0 10 (He.ga K "_law_right") fdR ["_law_pot_here"] (spRight (tabs K)) := by
  obtain ⟨fdR, fdL, FR, FL, GR, GL⟩ := lets_of (P := P) X G c TB
  obtain ⟨fdT, FT⟩ := c.t.d.def_ 11
  obtain ⟨fdS, FS⟩ := c.t.d.def_ 12
  obtain ⟨fdN, FN⟩ := c.t.d.def_ 15
  obtain ⟨fdP, FP⟩ := c.t.d.def_ 16
  obtain ⟨fdG, FG⟩ := c.t.d.def_ 19
  have B := bltD_of X G c
  have g : ∀ {x : Str}, x ∈ glos → mg x = some (.ref (He.ga K x)) := fun hx => glo_of X G c hx
  exact ⟨fdG, FG, ok_right FG (blt_of X G c (by decide +kernel)) FN (g (by decide +kernel)) (ok_names FN B FT (g (by decide +kernel)) FS (g (by decide +kernel))) FP (g (by decide +kernel)) (ok_pairs FP B (blt_of X G c (by decide +kernel)))
    FL (g (by decide +kernel)) GL FR (g (by decide +kernel)) GR⟩
end
end K03
open PySem PySem.W PySem.Calls PyProof.Rows
set_option maxRecDepth 100000 in
set_option maxHeartbeats 0 in
theorem PySem.Challenge.cw_metonce_k03_bounds_of_halls_holds : PySem.Challenge.rw_metonce_k03_bounds_of_halls.Holds := by
  w_on; o_law
  refine HandSHeadRun.head_any (r := OpenLaw.row PySem.Challenge.rw_metonce_k03_bounds_of_halls) (q := view (OpenLaw.row PySem.Challenge.rw_metonce_k03_bounds_of_halls).prog [30]) (H := K03.hk) (ob := K03.ob) (M := 9000) (loose := K03.loose) (d := HandSHeadRun.topDef (OpenLaw.row PySem.Challenge.rw_metonce_k03_bounds_of_halls).prog 30) (kwd := []) K03.ob_eq
    (by kernel_rfl) (fun s => by kernel_rfl) K03.run (by kernel_rfl) (by kernel_rfl) (by kernel_rfl) (by rfl) (by first | assumption | decide +kernel) (by decide +kernel) ⟨rfl, rfl, rfl, rfl, rfl, by decide +kernel⟩ ?hw ?hc
  case hw => w_witness2
  case hc =>
    refine MX.walk_gT (l := PySem.Challenge.rw_metonce_k03_bounds_of_halls) (n := 63) (k := 11) (x := "_law_script") rfl (by decide) (by kernel_rfl) ⟨⟨rfl, by decide, by decide⟩, rfl⟩ ?F
    intro w mg fa h Y G hmg0
    obtain ⟨K, KX, c⟩ := Y
    have hmg : mg ("law" : PySem.Str) = some (.ref fa) := by
      have e : (HandSHeadRun.topDef (OpenLaw.row PySem.Challenge.rw_metonce_k03_bounds_of_halls).prog 30).name = ("law" : PySem.Str) := by kernel_rfl
      rw [← e]
      exact hmg0
    obtain ⟨fd, hb, hF⟩ := K03.facts (P := (PySem.Challenge.rw_metonce_k03_bounds_of_halls).prog) (w := w) KX G hmg c (fun base TB => K03.right_of KX G c TB)
    refine ⟨K, fd, K03.spLaw K (K03.tabs K), K03.tf.map (He.cT K), KX, fun p hp => ?_, fun p hp => ?_, fun p hp => ?_, hb, fun H a ns hl _ hH hS => ⟨a, ns, rfl, hS, hl, K03.tabs_nil hH, fun _ => rfl⟩, hF⟩
    · obtain ⟨q, hq, rfl⟩ := List.mem_map.mp hp
      exact c.empty q hq
    · obtain ⟨q, hq, rfl⟩ := List.mem_map.mp hp
      exact c.out q hq
    · obtain ⟨q, hq, rfl⟩ := List.mem_map.mp hp
      exact PySem.W.codeHd_of_K KX (c.hd q hq)
#print axioms PySem.Challenge.cw_metonce_k03_bounds_of_halls_holds
