import PyProof.Rows.All
import Wide.All
import OpenK.AllK
import Wide.FinOn
import KE.KStateDown
import KE.KExcIs
import HandS.ForMost
import HandS.Exc
import HandS.TryOnly
import HandS.ExcOwn
import HandS.ExcInit
import HandS.IsInst
import HandS.Wide
import HandS.Defaults
import HandS.Flow
import HandS.Conv
import HandS.Style
import HandS.EndBits
import HandS.Head0
import HandS.Head1
import HandS.Head2
import HandS.HeadEnd
import HandS.HeadHook1
import HandS.HeadHook2
import PyProof.ReprRoads
import HandS.Strs
import KE.GoesEnumKw
import HandS.Walk
import HandS.Star
import HandS.ForList
import HandS.WordsExc
import HandS.Lambda
import HandS.DictComp
import HandS.NamedTupGet
import HandS.TupLen
import HandS.Zip
import KE.GoesMore
import HandS.Rev
import HandS.TupSets
import KE.KSortTupG
import HandS.Codes
import HandS.Deep
import PyProof.ReprLen
import HandS.HeadHook3
import HandS.HeadHook4
import HandS.HeadWalk
import HandS.EndTab
import PySem.Challenge.RW_metonce_k14_timelines_by_hand
set_option Elab.async false
set_option linter.all false
set_option maxRecDepth 100000
set_option maxHeartbeats 4000000
namespace MX
open PySem PySem.Spec PyProof.Rows L2
/-! the head's facts, with a check of one's own -/
def obsX (fa : List He.Fa) (fn : List He.DefD) (fx : PySem.W.Frag → Bool) (K : PySem.W.Frag) : He.AlD :=
  (((fa.all fun f => f.ok K) && fn.all fun d => d.ok K) && fx K, fn.map fun d => He.fnW K d.at_)
def SaysX (fa : List He.Fa) (fn : List He.DefD) (fx : PySem.W.Frag → Bool) (K : PySem.W.Frag) : Prop := obsX fa fn fx K = He.valD fn
def obsXG (n : Nat) (fa : List He.Fa) (fn : List He.DefD) (fx : PySem.W.Frag → Bool) (g : Addr → Option Obj) : He.AlD := obsX fa fn fx (He.frG g (He.asD g n))
def hookX (n : Nat) (fa : List He.Fa) (fn : List He.DefD) (fx : PySem.W.Frag → Bool) : PySem.W.Hook where
  α := He.AlD
  obs := fun s => obsXG n fa fn fx s.heap.get?
  val := fun _ => He.valD fn
  says := fun _ h => ∃ K : PySem.W.Frag, K.In h ∧ SaysX fa fn fx K
  of := fun _ _ e => ⟨_, He.frG_in, e⟩
  keeps := fun _ _ _ ⟨K, hK, c⟩ k => ⟨K, PySem.W.Frag.In.keeps hK k, c⟩
theorem obsXG_eq {n : Nat} {fa : List He.Fa} {fn : List He.DefD} {fx : PySem.W.Frag → Bool} {g : Addr → Option Obj} {s : Shared} (h : ∀ a, g a = s.heap.get? a) : obsXG n fa fn fx g = (hookX n fa fn fx).obs s := by
  have e : g = s.heap.get? := funext h
  rw [e] <;> rfl
section
variable {fa : List He.Fa} {fn : List He.DefD} {fx : PySem.W.Frag → Bool} {K : PySem.W.Frag}
theorem SaysX.d (c : SaysX fa fn fx K) : He.SaysD fa fn K := by
  have c1 : (((fa.all fun f => f.ok K) && fn.all fun d => d.ok K) && fx K) = true := congrArg (fun z : He.AlD => z.1) c
  have c2 : fn.map (fun d => He.fnW K d.at_) = fn.map He.DefD.val := congrArg (fun z : He.AlD => z.2) c
  show (_, _) = (_, _)
  rw [(He.ba c1).1, c2]
theorem SaysX.x (c : SaysX fa fn fx K) : fx K = true := by
  have c1 : (((fa.all fun f => f.ok K) && fn.all fun d => d.ok K) && fx K) = true := congrArg (fun z : He.AlD => z.1) c
  exact (He.ba c1).2
end
/-! exception classes over ValueError that share one __init__ -/
/-- the class x of the module: what is wanted of K -/
def excB (K : PySem.W.Frag) (C fI : Addr) : Bool :=
  (match K.lookup C with
   | some ⟨.type "type", _, .cls cd, sl⟩ => (match cd.mro, sl.toList with
     | .ref C' :: bm, [_, _, _, _, some (.builtin n), _] => C' == C && n == "ValueError.__new__" && !cd.hasDel && cd.hasDict && PySem.HandSPX.refsVE bm
     | _, _ => false)
   | _ => false)
  && (He.eqO (PySem.W.findIn K (.ref C) "__setattr__") (some (some (.builtin "object.__setattr__")))
  && (decide (PySem.W.subIn K (.ref C) (.type "BaseException") = some true)
  && (decide (PySem.W.typeIn K (.ref C) = some (.type "type"))
  && (PySem.W.keepIn K (.ref C)
  && (He.eqO (PySem.W.findIn K (.ref C) "__getattribute__") (some (some (.builtin "BaseException.__getattribute__")))
  && (He.eqO (PySem.W.findIn K (.ref C) "__getattr__") (some none)
  && (He.eqO (PySem.W.findIn K (.ref C) "__class__") (some (some (.builtin "object.__class__")))
  && (He.eqO (PySem.W.specialIn K (.builtin "object.__class__") "__get__") (some (some (.builtin "getset_descriptor.__get__")))
  && (decide (PySem.W.takesIn K (.builtin "object.__class__") = some true)
  && (decide (PySem.W.mroIn K C (.type "object") = some true)
  && (He.eqO (PySem.W.findIn K (.ref C) "value") (some none)
  && (He.eqO (PySem.W.findIn K (.ref C) "__init__") (some (some (.ref fI)))
  && decide (PySem.W.typeIn K (.ref fI) = some (.type "function"))))))))))))))
structure ExcT (K : PySem.W.Frag) (C fI : Addr) : Prop where
  oex : OexC K C
  ga : PySem.W.findIn K (.ref C) "__getattribute__" = some (some (.builtin "BaseException.__getattribute__"))
  gg : PySem.W.findIn K (.ref C) "__getattr__" = some none
  hd : PySem.W.hasDictIn K C = true
  cl : (PySem.W.clsIn K C).isSome = true
  ha : PySem.W.findIn K (.ref C) "__class__" = some (some (.builtin "object.__class__"))
  hn : PySem.W.specialIn K (.builtin "object.__class__") "__get__" = some (some (.builtin "getset_descriptor.__get__"))
  ht : PySem.W.takesIn K (.builtin "object.__class__") = some true
  hm : PySem.W.mroIn K C (.type "object") = some true
  nv : PySem.W.findIn K (.ref C) "value" = some none
  ic : PySem.W.findIn K (.ref C) "__init__" = some (some (.ref fI))
  ti : PySem.W.typeIn K (.ref fI) = some (.type "function")
theorem excB_ok {K : PySem.W.Frag} {C fI : Addr} (h : excB K C fI = true) : ExcT K C fI := by
  obtain ⟨h1, h⟩ := He.ba h
  obtain ⟨h2, h⟩ := He.ba h
  obtain ⟨h3, h⟩ := He.ba h
  obtain ⟨h4, h⟩ := He.ba h
  obtain ⟨h5, h⟩ := He.ba h
  obtain ⟨h6, h⟩ := He.ba h
  obtain ⟨h7, h⟩ := He.ba h
  obtain ⟨h8, h⟩ := He.ba h
  obtain ⟨h9, h⟩ := He.ba h
  obtain ⟨h10, h⟩ := He.ba h
  obtain ⟨h11, h⟩ := He.ba h
  obtain ⟨h12, h⟩ := He.ba h
  obtain ⟨h13, h14⟩ := He.ba h
  split at h1
  · rename_i dd cd sl ho
    split at h1
    · rename_i C' bm k0 k1 k2 k3 n k5 hm hs
      simp only [Bool.and_eq_true, beq_iff_eq, Bool.not_eq_true'] at h1
      obtain ⟨⟨⟨⟨rfl, rfl⟩, hdel⟩, hdi⟩, ht⟩ := h1
      obtain ⟨nm, bs, mro, ns, qn, hd, sn, sub, ab, col, del⟩ := cd
      dsimp only at hm hdel hdi
      subst hm hdel hdi
      have hsl : sl = #[k0, k1, k2, k3, some (.builtin "ValueError.__new__"), k5] := by
        obtain ⟨l⟩ := sl
        simp only at hs
        rw [hs]
      subst hsl
      have hcl : PySem.W.clsIn K C' = some { name := nm, bases := bs, mro := .ref C' :: bm, ns := ns, qualname := qn, hasDict := true, slotNames := sn, subclasses := sub, abstract := ab, collection := col, hasDel := false } := by unfold PySem.W.clsIn; rw [ho] <;> rfl
      exact ⟨⟨⟨nm, qn, ns, bs, bm, sn, sub, ab, col, dd, k0, k1, k2, k3, k5, ho, ht⟩, He.eqO_ok h2, of_decide_eq_true h3, of_decide_eq_true h4, h5⟩,
        He.eqO_ok h6, He.eqO_ok h7, by unfold PySem.W.hasDictIn; rw [hcl] <;> rfl, by rw [hcl]; rfl, He.eqO_ok h8, He.eqO_ok h9, of_decide_eq_true h10, of_decide_eq_true h11, He.eqO_ok h12, He.eqO_ok h13, of_decide_eq_true h14⟩
    · cases h1
  · cases h1
end MX

set_option Elab.async false
set_option linter.all false
set_option maxRecDepth 100000
set_option maxHeartbeats 4000000
namespace MX
open PySem PySem.Spec PySem.W PySem.Calls PyProof.Rows L2
/-! ### calls where no repr runs around -/
structure RoomG (k : Nat) (A : Around) : Prop where
  r : Room k A
  g : A.guards = some []
theorem RoomG.mono {j k : Nat} {A : Around} (x : RoomG k A) (h : j ≤ k) : RoomG j A := ⟨x.r.mono h, x.g⟩
theorem RoomG.deeper {k : Nat} {A : Around} (x : RoomG (k + 1) A) (env : Env) : RoomG k (A.deeper env) := ⟨x.r.deeper env, x.g⟩
/-- a def's promise, where no repr runs around -/
structure FnG (P : Program) (w : World) (K : PySem.W.Frag) (mg : Str → Option Value) (base : Heap) (CX : CXT) (k : Nat) (f : Addr) (fd : FuncData) (ps : List Str) (sp : Sp) : Prop where
  len : ∀ vs H Q E, sp vs H Q E → vs.length = ps.length
  run : ∀ (A : Around) (out : List Env) (s : Shared) (H : Hp) (gs : Args) (us : List Value) (vs : List V) (Q : VK) (E : XK),
    RoomG k A → Env0 P w K mg base A out s H → BindsTo s fd gs (ps.zip us) → Vals vs us → sp vs H Q E →
    codeAny (model P w) A (.call (.ref f) gs) (CR CX out P w H s Q E) s
section
variable {P : Program} {w : World} {K : PySem.W.Frag} {mg : Str → Option Value} {base : Heap} {CX : CXT} {k : Nat} {f : Addr} {fd : FuncData} {ps : List Str} {sp : Sp}
theorem gOf (F : FnOk P w K mg base CX k f fd ps sp) : FnG P w K mg base CX k f fd ps sp :=
  ⟨F.len, fun A out s H gs us vs Q E h => F.run A out s H gs us vs Q E h.r⟩
/-- a def of the text, its body walked where no repr runs around -/
theorem okG {x qual : Str} {params : Arguments} {body : List Stmt} {scope : Scope} {dvs : List V} {kws : List (Str × V)} {N : List Str}
    (F : FunD K x qual params body scope dvs kws f fd) (S : FnScope N ps scope) (hl : ∀ vs H Q E, sp vs H Q E → vs.length = ps.length)
    (hb : ∀ (cdv : Value) (A : Around) (out : List Env) (s : Shared) (H : Hp) (vs : List V) (Q : VK) (E : XK),
      RoomG k (A.deeper (envOfC qual scope s.heap.objs.size f cdv)) → sp vs H Q E →
      ∃ t, PSs (cxOf CX P w K mg base N qual scope f cdv A out s H E) body t ∧ t { nx := fun _ H' => Q .non H', rt := Q } (start N vs) H) :
    FnG P w K mg base CX (k + 1) f fd ps sp := by
  obtain ⟨oc, od, dV, kV, doc, pm, an, cdv, ct, osl, rfl, lk, hcd, _, _⟩ := F.ex
  constructor
  · exact hl
  intro A out s H gs us vs Q E hr z hbi rv hs
  have hlen := hl vs H Q E hs
  have kIn : K.In s.heap := z.mod.kin.keeps (fun b o e => (z.bs b o e).1)
  have nolim : s.heap.NoLimit := z.mod.nolimit.keeps (fun b o e => (z.bs b o e).1)
  refine codeAny_call_function hr.r.depth (kIn _ _ lk) rfl S.co S.gen rfl (PySem.W.codeRec_of kIn hcd) (hbi _ _ _ _ ?_)
  have kinds : ∀ y, y ∈ ps.zip us → scope.names.lookup y.1 = some .local ∨ (scope.names.lookup y.1 = some .cell ∧ ((cellsFrom (s.heap.objs.size + 1) scope.names []).lookup y.1).isSome = true) := by
    intro y hy
    obtain ⟨n, v⟩ := y
    cases S.par n (List.of_mem_zip hy).1 with
    | inl q => exact Or.inl q
    | inr q => exact Or.inr ⟨q, PySem.W.cellsFrom_some _ _ _ (Or.inl q)⟩
  refine wpAny_newFunctionEnv_cells S.kind kinds (fun env he s1 x => ?_)
  cases he
  refine ⟨nolim.keeps x.toInCall.keep, codeAny_func ?_⟩
  obtain ⟨t, ht, hq⟩ := hb cdv A out s H vs Q E (hr.deeper _) hs
  have J : Inv (cxOf CX P w K mg base N qual scope f cdv A out s H E) [] (start N vs) H s1 := inv_start S hr.r.hd z hlen rv x
  refine wpAny_mono (ht.run [] s1 (start N vs) H _ J hq) ?_ (fun _ _ q => q)
  intro fl s' q
  cases fl with
  | next =>
    obtain ⟨σ', H', J', q'⟩ := q
    exact ⟨V.non, H', J'.os, J'.bare, J'.base, J'.hok, rfl, q'⟩
  | ret u =>
    obtain ⟨v, σ', H', J', rr, q'⟩ := q
    exact ⟨v, H', J'.os, J'.bare, J'.base, J'.hok, rr, q'⟩
  | cont =>
    obtain ⟨_, _, _, q'⟩ := q
    exact q'.elim
  | brk =>
    obtain ⟨_, _, _, q'⟩ := q
    exact q'.elim
end
section
variable {X : Cx} {CX : CXT} {k : Nat} {f : Addr} {fd : FuncData} {ps : List Str} {sp : Sp} {dvs : List V} {ds : List Value} {E : XK} {x : Str} {p pos : Pos} {e : Expr} {es : List Expr} {t : TA}
theorem run_g {pins : List (Addr × Obj)} {σ : L2.St} {H : Hp} {s : Shared} {Q : VK} {us : List Value} {vs : List V} (F : FnG X.prog X.w X.K X.mg X.base CX k f fd ps sp) (hr : RoomG k X.A) (hb : Binds X.K fd ps ds) (hd : Vals dvs ds)
    (hx : Passes CX X E) (I : Inv X pins σ H s) (rv : Vals vs us) (q : sp (vs ++ dvs) H Q E) : wpAny (model X.prog X.w) X.A (call (.ref f) us) (EP X pins σ Q) X.xe s := by
  have rr := Vals.append rv hd
  have hl : (us ++ ds).length = ps.length := (Vals.length rr).symm.trans (F.len _ _ _ _ q)
  refine wpAny_call (codeAny_mono (F.run X.A X.stack s H ⟨us, []⟩ _ _ Q E hr I.env0 (hb s us I.kIn hl) rr q) ?_)
  rintro (er | fl) s' hq
  · exact hx pins σ H s er s' I hq
  · cases fl with
    | ret u => exact I.after hq
    | cont => exact hq.elim
    | brk => exact hq.elim
    | next => exact hq.elim
/-- f(e, ..) of such a def -/
theorem pe_callG (F : FnG X.prog X.w X.K X.mg X.base CX k f fd ps sp) (hr : RoomG k X.A) (hg : Gl X x) (hm : X.mg x = some (.ref f)) (hk : PySem.W.keepIn X.K (.ref f) = true) (hb : Binds X.K fd ps ds) (hd : Vals dvs ds)
    (hx : Passes CX X E) (ha : PA X (e :: es) t) (hdb : (x == ("__debug__" : Str)) = false := by decide)
    (he : starEach (e :: es) X.env = (false, eval e X.env) :: starEach es X.env := by rfl) (hpl : (backTo pos (starEach es X.env)).any (·.1) = false := by rfl) :
    PE X (.Call (.Name x p) (e :: es) [] pos) (tCall sp dvs E t) := by
  constructor
  intro pins s σ H Q I h
  refine wpAny_Call_Name_kw (ld_glob I hg hm ?_ hdb)
  refine PySem.W.callWith_K (h₀ := X.base) I.ok.mod.kin hk ?_ he hpl
  refine thn (ha.run pos pins s σ H _ I h) ?_
  rintro us s1 ⟨vs, H1, J, rv, q⟩
  exact ⟨J.kIn, run_g F hr hb hd hx J rv q⟩
end
/-! ### the law's end -/
theorem law_end {P : Program} {w : World} {K : PySem.W.Frag} {mg mb : Str → Option Value} {k : Nat} {fa a : Addr} {fd : FuncData} {x : Str} {sp : Sp} {s : Shared} {vs : List Value} {ns : List Int}
    (KX : K.In s.heap) (hm : s.heap.Ns mainGlobals mg) (hb : s.heap.Ns builtinsNs mb) (hbb : ∀ x : Str, x ≠ "__name__" → mb x = bootBuiltins x) (nolim : s.heap.NoLimit) (hg : s.gens = #[])
    (ha : s.heap.get? a = some { cls := .type "list", data := .seq vs.toArray }) (hi : IntsAre vs ns) (hl : ns.length ≤ sizeLine) (hr : RoomG k callerA)
    (F : ∀ bs : Heap, K.In bs → bs.Ns mainGlobals mg → FnG P w K mg bs CX0 k fa fd [x] sp) (bind : ∀ (s : Shared) (u : Value), BindsTo s fd ⟨[u], []⟩ [(x, u)])
    (hsp : ∀ H : Hp, Only H → SqL K H a (ns.map V.int) → sp [.ref a] H (fun v _ => v = .bl true) fun _ _ _ => False) :
    codeAny (model P w) callerA (.call (.ref fa) ⟨[.ref a], []⟩) (fun r s' => r = .ok (.ret (.bool true)) ∧ OldK s.heap s'.heap ∧ s'.os = s.os ∧ AllBare s'.gens) s := by
  have hv := vals_ints hi
  have hvl := hi.length
  have main : ∀ H : Hp, Only H → SqL K H a (ns.map V.int) → HOk P w H s.heap → (∀ b, H b ≠ none → b = a) → (H a ≠ none → K.lookup a = none) →
      codeAny (model P w) callerA (.call (.ref fa) ⟨[.ref a], []⟩) (fun r s' => r = .ok (.ret (.bool true)) ∧ OldK s.heap s'.heap ∧ s'.os = s.os ∧ AllBare s'.gens) s := by
    intro H only hS ok only_a off
    have free_of : ∀ {b : Addr} {o : Obj} {es : Array DictEntry} {ep : Nat}, s.heap.get? b = some o → o.data = .dict es ep → H b = none := by
      intro b o es ep e d
      refine Decidable.byContradiction fun q => ?_
      have eb := only_a b q
      rw [eb, ha] at e
      have eo := Option.some.inj e
      rw [← eo] at d
      cases d
    have ns_of : ∀ {b : Addr} {m : Str → Option Value}, s.heap.Ns b m → (hidT s.heap H).Ns b m := by
      rintro b m ⟨o, es, ep, e, d, r⟩
      exact ⟨o, es, ep, hidT_get e (free_of e d), d, r⟩
    have kin : K.In (hidT s.heap H) := by
      intro b o e
      refine hidT_get (KX b o e) (Decidable.byContradiction fun q => ?_)
      have eb := only_a b q
      rw [eb] at q e
      rw [off q] at e
      cases e
    obtain ⟨mc, l1, l2⟩ := nolim
    have md : Mod K mg (hidT s.heap H) := { kin := kin, glob := ns_of hm, blt := ⟨mb, ns_of hb, hbb⟩, nolimit := ⟨mc, ns_of l1, l2⟩ }
    have z : Env0 P w K mg (hidT s.heap H) callerA [] s H := {
      frames := rfl, mod := md, bs := fun b o e => of_hidT e, bsz := Nat.le_of_eq (hidT_size s.heap H), funs := trivial
      frf := (fun b q => absurd (show b ∈ ([] : List Addr) from q) List.not_mem_nil), hok := ok, bare := .of_eq hg }
    refine codeAny_mono ((F _ kin (ns_of hm)).run callerA [] s H ⟨[.ref a], []⟩ [.ref a] [.ref a] _ _ hr z (bind s (.ref a)) (.cons rfl .nil) (hsp H only hS)) ?_
    rintro (er | fl) s' q
    · exact q.elim
    cases fl with
    | next => exact q.elim
    | brk => exact q.elim
    | cont => exact q.elim
    | ret u =>
      obtain ⟨v, H', os, bare, un, ok', rv, ev⟩ := q
      have ev' : v = .bl true := ev
      subst ev'
      cases (show u = Value.bool true from rv)
      refine ⟨rfl, OldK.of_keep (fun b o e => ?_), os, bare⟩
      cases hb0 : H b with
      | none => exact un.keep b o e hb0 (fun q => absurd (show b ∈ ([] : List Addr) from q) List.not_mem_nil) (fun q => absurd q List.not_mem_nil)
      | some u =>
        cases only b with
        | inl n =>
          rw [n] at hb0
          cases hb0
        | inr n =>
          obtain ⟨ob, xs, n⟩ := n
          obtain ⟨c1, _⟩ := ok b _ n
          obtain ⟨c2, _⟩ := ok' b _ (un.frzs b ob _ n)
          rw [c1] at e
          rw [← Option.some.inj e]
          exact c2
  cases hk : K.lookup a with
  | none =>
    let H0 : Hp := fun b => if b = a then some (.frz { cls := .type "list", data := .seq vs.toArray } (.lst (ns.map V.int))) else none
    have at_a : H0 a = some (.frz { cls := .type "list", data := .seq vs.toArray } (.lst (ns.map V.int))) := if_pos rfl
    have off_a : ∀ b, b ≠ a → H0 b = none := fun b h => if_neg h
    refine main H0 (fun b => ?_) (.inl (.inr ⟨_, at_a⟩)) (fun b u q => ?_) (fun b q => ?_) (fun _ => hk)
    · by_cases h : b = a
      · rw [h]
        exact Or.inr ⟨_, _, at_a⟩
      · exact Or.inl (off_a b h)
    · by_cases h : b = a
      · rw [h] at q ⊢
        rw [at_a] at q
        cases q
        exact ⟨ha, (by rw [List.length_map]; exact hl), vs, _, hv, ha⟩
      · rw [off_a b h] at q
        cases q
    · exact Decidable.byContradiction fun h => q (off_a b h)
  | some o =>
    have e := KX a o hk
    rw [ha] at e
    cases e
    refine main (fun _ => none) (fun _ => Or.inl rfl) (Or.inr ⟨_, vs.toArray, _, hk, rfl, rfl, rfl, ?_, by simpa using hv⟩) (fun b u q => ?_) (fun b q => (q rfl).elim) (fun q => (q rfl).elim)
    · rw [List.size_toArray, hvl]
      exact hl
    · cases (show (none : Option HO) = some u from q)
theorem walk_g {l : PySem.W.OpenLaw} {n k : Nat} {q : Program} {loose : List Str} {XP : (Str → Option Value) → Heap → Prop} {YP : World → Heap → Prop} {d : DefRec} {x : Str}
    (hn : l.most = some n) (hn2 : n ≤ sizeLine) (hdf : d.params.defaults = []) (hr : RoomG k callerA)
    (F : ∀ (w : World) (mg : Str → Option Value) (fa : Addr) (h : Heap), YP w h → h.Ns mainGlobals mg → mg d.name = some (.ref fa) →
      ∃ (K : PySem.W.Frag) (fd : FuncData) (sp : Sp), K.In h ∧ (∀ (s : Shared) (u : Value), BindsTo s fd ⟨[u], []⟩ [(x, u)]) ∧
        (∀ (H : Hp) (a : Addr) (ns : List Int), ns.length ≤ n → (∀ z ∈ ns, Builtin.Int.intBits z ≤ 1048576) → SqL K H a (ns.map V.int) → sp [.ref a] H (fun v _ => v = .bl true) fun _ _ _ => False) ∧
        ∀ bs : Heap, K.In bs → bs.Ns mainGlobals mg → FnG l.prog w K mg bs CX0 k fa fd [x] sp) :
    PySem.W.WalkO q loose XP YP l.row.toRowW d [] (fun f vs => PySem.call f vs) := by
  refine Att.attach_callB hn hdf ?_
  intro w s₀ s mg mb fa o pm cd doc a vs ns G Y _ _ _ hmg hobj hints hlen hbits hg
  obtain ⟨K, fd, sp, KX, hb, hsp, hF⟩ := F w mg fa _ Y G.T.g hmg
  exact law_end KX G.T.g G.T.b G.T.builtins G.T.nolimit hg hobj hints (Nat.le_trans hlen hn2) hr hF hb (fun H _ hS => hsp H a ns hlen hbits hS)
end MX

set_option Elab.async false
set_option linter.all false
set_option maxRecDepth 100000
set_option maxHeartbeats 4000000
namespace MX
open PySem PySem.Spec PySem.W PySem.Calls PyProof.Rows L2
/-! ### data, dicts too, as the abstract heap holds them -/
def kD : Key → PyData
  | .inl i => .int i
  | .inr x => .str x
inductive Dq (H : Hp) : V → PyData → Prop
  | non : Dq H .non .none
  | bl (b : Bool) : Dq H (.bl b) (.bool b)
  | int (i : Int) : Dq H (.int i) (.int i)
  | str (x : Str) : Dq H (.str x) (.str x)
  | lst {a : Addr} {xs : List V} {ds : List PyData} : H a = some (.lst xs) → a ≠ sysModules → xs.length = ds.length → (∀ (i : Nat) (x : V) (d : PyData), xs[i]? = some x → ds[i]? = some d → Dq H x d) → Dq H (.ref a) (.list ds)
  | tup {a : Addr} {xs : List V} {ds : List PyData} : H a = some (.tup xs) → xs.length = ds.length → (∀ (i : Nat) (x : V) (d : PyData), xs[i]? = some x → ds[i]? = some d → Dq H x d) → Dq H (.ref a) (.tuple ds)
  | dct {a : Addr} {kvs : List (Key × V)} {ds : List (PyData × PyData)} : H a = some (.dK kvs) → kvs.map (fun p => kD p.1) = ds.map (·.1) → (∀ (i : Nat) (x : V) (d : PyData), (kvs.map (·.2))[i]? = some x → (ds.map (·.2))[i]? = some d → Dq H x d) → Dq H (.ref a) (.dict ds)
theorem Dq.same {H H' : Hp} {v : V} {d : PyData} (h : Dq H v d) (s : Same H H') : Dq H' v d := by
  induction h with
  | non => exact .non
  | bl b => exact .bl b
  | int i => exact .int i
  | str x => exact .str x
  | lst e n l _ ih => exact .lst (s _ _ e) n l ih
  | tup e l _ ih => exact .tup (s _ _ e) l ih
  | dct e l _ ih => exact .dct (s _ _ e) l ih
/-- only what is reached must stay: lists, tuples, dicts -/
theorem Dq.stay {H H' : Hp} {v : V} {d : PyData} (h : Dq H v d) (s : ∀ b o, H b = some o → (∃ xs, o = .lst xs) ∨ (∃ xs, o = .tup xs) ∨ (∃ xs, o = .dK xs) → H' b = some o) : Dq H' v d := by
  induction h with
  | non => exact .non
  | bl b => exact .bl b
  | int i => exact .int i
  | str x => exact .str x
  | lst e n l _ ih => exact .lst (s _ _ e (.inl ⟨_, rfl⟩)) n l ih
  | tup e l _ ih => exact .tup (s _ _ e (.inr (.inl ⟨_, rfl⟩))) l ih
  | dct e l _ ih => exact .dct (s _ _ e (.inr (.inr ⟨_, rfl⟩))) l ih
theorem reads_all {h : Heap} : ∀ (us : List Value) (ds : List PyData), us.length = ds.length → (∀ (i : Nat) u d, us[i]? = some u → ds[i]? = some d → ∃ as, Reads h u d as ∧ sysModules ∉ as) → ∃ as, ReadsAll h us ds as ∧ sysModules ∉ as
  | [], [], _, _ => ⟨[], .nil, List.not_mem_nil⟩
  | [], _ :: _, l, _ => by cases l
  | _ :: _, [], l, _ => by cases l
  | u :: us, d :: ds, l, f => by
    obtain ⟨as, r1, n1⟩ := f 0 u d rfl rfl
    obtain ⟨bs, r2, n2⟩ := reads_all us ds (Nat.succ.inj l) (fun i x e h1 h2 => f (i + 1) x e (by simpa using h1) (by simpa using h2))
    exact ⟨as ++ bs, .cons r1 r2, fun q => (List.mem_append.mp q).elim n1 n2⟩
theorem vals_at {xs : List V} {us : List Value} (r : Vals xs us) {i : Nat} {u : Value} (e : us[i]? = some u) : ∃ x, xs[i]? = some x ∧ RelV x u := by
  cases q : xs[i]? with
  | none =>
    have z := Vals.none_of r q
    rw [z] at e
    cases e
  | some x =>
    obtain ⟨u', e', ru⟩ := Vals.get r q
    rw [e] at e'
    cases e'
    exact ⟨x, rfl, ru⟩
theorem kv_vals {κ : Type} {kvs : List (κ × V)} {vs : List (κ × Value)} (r : KV kvs vs) : Vals (kvs.map (·.2)) (vs.map (·.2)) := by
  induction r with
  | nil => exact .nil
  | cons a _ ih => exact .cons a.2 ih
theorem kv_keys {κ : Type} {kvs : List (κ × V)} {vs : List (κ × Value)} (r : KV kvs vs) : kvs.map (·.1) = vs.map (·.1) := by
  induction r with
  | nil => rfl
  | cons a _ ih => rw [List.map_cons, List.map_cons, a.1, ih]
theorem pairs_vals {P : Program} {w : World} {es : List DictEntry} {vs : List (Key × Value)} (p : Pairs (mixKind P w) es vs) : es.map (·.val) = vs.map (·.2) := by
  induction p with
  | nil => rfl
  | cons _ e _ ih => rw [List.map_cons, List.map_cons, e, ih]
theorem pairs_keys {h : Heap} {P : Program} {w : World} {es : List DictEntry} {vs : List (Key × Value)} (p : Pairs (mixKind P w) es vs) : ReadsAll h (es.map (·.key)) (vs.map fun q => kD q.1) [] := by
  induction p with
  | nil => exact .nil
  | @cons e kv es kvs hk _ _ ih =>
    have r : Reads h e.key (kD kv.1) [] := by
      rcases keyIs_shape (show keyIs kv.1 e.key = true from hk) with ⟨i, t, e1, e2⟩ | ⟨x, t, e1, e2⟩
      · rw [e1, e2]
        exact .int i t
      · rw [e1, e2]
        exact .str x t
    exact ReadsAll.cons r ih
theorem Dq.reads {P : Program} {w : World} {H : Hp} {h : Heap} (ok : HOk P w H h) {v : V} {d : PyData} (q : Dq H v d) : ∀ u, RelV v u → ∃ as, Reads h u d as ∧ sysModules ∉ as := by
  induction q with
  | non =>
    intro u r
    cases r
    exact ⟨_, .none, List.not_mem_nil⟩
  | bl b =>
    intro u r
    cases r
    exact ⟨_, .bool b, List.not_mem_nil⟩
  | int i =>
    intro u r
    obtain ⟨t, rfl⟩ := r
    exact ⟨_, .int i t, List.not_mem_nil⟩
  | str x =>
    intro u r
    obtain ⟨t, rfl⟩ := r
    exact ⟨_, .str x t, List.not_mem_nil⟩
  | @lst a xs ds e n l _ ih =>
    intro u r
    cases r
    obtain ⟨_, its, m, rv, ho⟩ := (show ObjOk P w H h a (.lst xs) from ok a _ e)
    have il : its.length = ds.length := (Vals.length rv).symm.trans l
    obtain ⟨as, ra, na⟩ := reads_all its ds il (fun i u d h1 h2 => by
      obtain ⟨x, hx, rx⟩ := vals_at rv h1
      exact ih i x d hx h2 u rx)
    exact ⟨a :: as, Reads.list ho rfl rfl (by simpa using ra), fun z => (List.mem_cons.mp z).elim (fun z => n z.symm) na⟩
  | @tup a xs ds e l _ ih =>
    intro u r
    cases r
    obtain ⟨_, its, rv, o, ho, hc, m, hd⟩ := (show ObjOk P w H h a (.tup xs) from ok a _ e)
    have il : its.length = ds.length := (Vals.length rv).symm.trans l
    obtain ⟨as, ra, na⟩ := reads_all its ds il (fun i u d h1 h2 => by
      obtain ⟨x, hx, rx⟩ := vals_at rv h1
      exact ih i x d hx h2 u rx)
    exact ⟨as, Reads.tuple ho hc hd (by simpa using ra), na⟩
  | @dct a kvs ds e l _ ih =>
    intro u r
    cases r
    obtain ⟨_, nsm, vs, kv, o, es, ep, ho, hx, hd, _, hp, _⟩ := (show ObjOk P w H h a (.dK kvs) from ok a _ e)
    have rv := kv_vals kv
    have ll : kvs.length = ds.length := by simpa using congrArg List.length l
    have il : (vs.map (·.2)).length = (ds.map (·.2)).length := by
      rw [← Vals.length rv, List.length_map, List.length_map]
      exact ll
    obtain ⟨as, ra, na⟩ := reads_all (vs.map (·.2)) (ds.map (·.2)) il (fun i u d h1 h2 => by
      obtain ⟨x, hx', rx⟩ := vals_at rv h1
      exact ih i x d hx' h2 u rx)
    have rk := pairs_keys (h := h) hp
    have ek : (vs.map fun q => kD q.1) = ds.map (·.1) := by
      rw [← l]
      have z := congrArg (List.map kD) (kv_keys kv)
      rw [List.map_map, List.map_map] at z
      exact z.symm
    rw [ek] at rk
    rw [← pairs_vals hp] at ra
    refine ⟨a :: [] ++ as, Reads.dict ho hx.1 hd rk ra, fun z => ?_⟩
    have z' : sysModules = a ∨ sysModules ∈ as := by simpa using z
    rcases z' with z | z
    · rw [← z] at nsm
      simp at nsm
    · exact na z
/-! ### repr -/
/-- what may be shown -/
structure Shows (d : PyData) : Prop where
  s : d.showable = true
  p : d.depth ≤ 60
  z : d.shown.length ≤ sizeLine
def rRepr : List V → Hp → VK → Prop := fun xs H Q => ∃ v d, xs = [v] ∧ Dq H v d ∧ Shows d ∧ Q (.str d.shown) H
theorem call_repr {X : Cx} (hg : X.A.guards = some []) (hu : X.A.units + 64 < cLine) : CallR X (.builtin "repr") rRepr := by
  intro pins s σ H xs us Q I r h
  obtain ⟨v, d, rfl, hq, sh, q⟩ := h
  obtain ⟨u, rfl, ru⟩ : ∃ u, us = [u] ∧ RelV v u := by
    cases r with
    | cons a b =>
      cases b
      exact ⟨_, rfl, a⟩
  obtain ⟨as, rd, nsm⟩ := hq.reads I.hok u ru
  have hd : X.A.units + (d.depth + 1) < cLine := by have := sh.p; omega
  cases hq with
  | non =>
    cases ru
    exact P.repr_of_none ⟨.str _, H, I.tok _, ⟨_, rfl⟩, by simpa only [PyData.shown] using q⟩
  | bl b =>
    cases ru
    exact P.repr_of_bool ⟨.str _, H, I.tok _, ⟨_, rfl⟩, by simpa only [PyData.shown] using q⟩
  | int i =>
    obtain ⟨t, rfl⟩ := ru
    exact P.repr_of_int (by simpa [PyData.showable] using sh.s) ⟨.str _, H, I.tok _, ⟨_, rfl⟩, by simpa only [PyData.shown] using q⟩
  | str x =>
    obtain ⟨t, rfl⟩ := ru
    exact P.repr_of_str ⟨.str _, H, I.tok _, ⟨_, rfl⟩, by simpa only [PyData.shown] using q⟩ (by simpa only [PyData.shown] using sh.z)
  | lst _ _ _ _ =>
    cases ru
    exact repr_of_reads' rd sh.s (fun _ => nsm) hg hd (fun _ _ e => e) (fun h' u tk k => ⟨.str _, H, I.kept (t' := tk) k, ⟨_, rfl⟩, q⟩) sh.z
  | tup _ _ _ =>
    cases ru
    exact repr_of_reads' rd sh.s (fun _ => nsm) hg hd (fun _ _ e => e) (fun h' u tk k => ⟨.str _, H, I.kept (t' := tk) k, ⟨_, rfl⟩, q⟩) sh.z
  | dct _ _ _ =>
    cases ru
    exact repr_of_reads' rd sh.s (fun _ => nsm) hg hd (fun _ _ e => e) (fun h' u tk k => ⟨.str _, H, I.kept (t' := tk) k, ⟨_, rfl⟩, q⟩) sh.z
/-! ### a new list, and that it is not sys.modules -/
def tLstN (t : TA) : TE := fun σ H Q => t σ H fun xs H1 => xs.length ≤ sizeLine ∧ ∀ p, H1 p = none → p ≠ sysModules → Q (.ref p) (upd H1 p (.lst xs))
theorem pe_lstN {X : Cx} {es : List Expr} {t : TA} {pos : Pos} (h : PA X es t) : PE X (.List es pos) (tLstN t) := by
  constructor
  intro pins s σ H Q I hq
  refine wpAny_List_spliced (thn (h.run pos pins s σ H _ I hq) ?_)
  rintro us s1 ⟨xs, H1, J, rv, z, q⟩
  have n0 : H1 s1.heap.objs.size = none := J.hok.fresh (Nat.le_refl _)
  refine ⟨(Vals.length rv) ▸ z, .ref s1.heap.objs.size, upd H1 s1.heap.objs.size (.lst xs), J.laid (t' := s1.toks) (fun b u e => Heap.get?_push_of_some _ e) (Nat.le_refl _) ⟨z, us, 0, rv, Heap.get?_push_size _ rfl⟩, rfl, q _ n0 ?_⟩
  exact Nat.ne_of_gt J.big
/-! ### exceptions as values -/
/-- at a: an exception of the class at C, made with v -/
def ExcAt (H : Hp) (a C : Addr) (v : V) : Prop := ∃ d, H a = some (exo a C (some d)) ∧ H d = some (exd d [(("value" : Str), v)])
/-- C(e), a value -/
def tMkV (C : Addr) (sp : Sp) (ta : TA) : TE := fun σ H Q => ta σ H fun vs H1 => vs.length ≤ 1000 ∧ ∀ a, H1 a = none → sp (.ref a :: vs) (upd H1 a (exo a C none)) (fun v H2 => v = .non ∧ Q (.ref a) H2) (fun _ _ _ => False)
theorem pe_mkV {X : Cx} {CX : CXT} {C fI : Addr} {k : Nat} {fd : FuncData} {ps : List Str} {sp : Sp} {x : Str} {p pos : Pos} {e : Expr} {es : List Expr} {ta : TA} (T : ExcT X.K C fI)
    (F : FnOk X.prog X.w X.K X.mg X.base CX k fI fd ps sp) (hr : Room (k + 1) X.A) (hb : Binds X.K fd ps []) (hx : Passes CX X (fun _ _ _ => False)) (hg : Gl X x) (hm : X.mg x = some (.ref C)) (ha : PA X (e :: es) ta)
    (hdb : (x == ("__debug__" : Str)) = false := by decide) (he : starEach (e :: es) X.env = (false, eval e X.env) :: starEach es X.env := by rfl) (hpl : (backTo pos (starEach es X.env)).any (·.1) = false := by rfl) :
    PE X (.Call (.Name x p) (e :: es) [] pos) (tMkV C sp ta) := by
  constructor
  intro pins s σ H Q I h
  obtain ⟨nm, qn, N, bs, bm, sn, sub, ab, col, dd, k0, k1, k2, k3, k5, hC, hbm⟩ := T.oex.cls
  refine wpAny_Call_Name_kw (ld_glob I hg hm ?_ hdb)
  refine PySem.W.callWith_K (h₀ := X.base) I.ok.mod.kin T.oex.kC ?_ he hpl
  refine thn (ha.run pos pins s σ H _ I h) ?_
  rintro us ⟨hp, g, dr, tk, os⟩ ⟨vs, H1, J, rv, hz, q⟩
  refine ⟨J.kIn, ?_⟩
  have sz : hp.objs.size ≤ hp.objs.size + 1 := Nat.le_succ _
  have n1 : H1 (hp.objs.size + 1) = none := J.hok.fresh sz
  have q1 := q (hp.objs.size + 1) n1
  have keep : ∀ b o, hp.get? b = some o → ((hp.push (PySem.W.kdv_tup us)).push (PySem.HandSPX.excO C hp.objs.size)).get? b = some o := fun b o e => Heap.get?_push_of_some _ (Heap.get?_push_of_some _ e)
  have got : ((hp.push (PySem.W.kdv_tup us)).push (PySem.HandSPX.excO C hp.objs.size)).get? (hp.objs.size + 1) = some (PySem.HandSPX.excO C hp.objs.size) := by heap_get
  have J2 : Inv X pins σ (upd H1 (hp.objs.size + 1) (exo (hp.objs.size + 1) C none)) ⟨(hp.push (PySem.W.kdv_tup us)).push (PySem.HandSPX.excO C hp.objs.size), g, dr, tk, os⟩ :=
    J.laid (t' := tk) (a := hp.objs.size + 1) keep sz (exo_ok got)
  have rv2 : Vals (V.ref (hp.objs.size + 1) :: vs) (Value.ref (hp.objs.size + 1) :: us) := .cons rfl rv
  have hl : (Value.ref (hp.objs.size + 1) :: us ++ []).length = ps.length := by
    rw [List.append_nil, ← Vals.length rv2]
    exact F.len _ _ _ _ q1
  have hus : us.length ≤ sizeLine := by
    rw [← Vals.length rv, sizeLine_eq]
    omega
  have hbn : ∀ s' : Shared, X.K.In s'.heap → BindsTo s' fd ⟨Value.ref (hp.objs.size + 1) :: us, []⟩ (ps.zip (Value.ref (hp.objs.size + 1) :: us)) := fun s' k => by
    have z := hb s' (Value.ref (hp.objs.size + 1) :: us) k hl
    rw [List.append_nil] at z
    exact z
  show wpAny _ _ (call (.ref C) us) _ _ _
  refine wpAny_call (PySem.HandSPX.call_own PySem.F.excBase_ValueError (fun Y => PySem.HandSPX.refsVE_contains Y bm hbm) (J.kIn _ _ hC) (PySem.W.looks_findIn J.kIn T.ic) (fun self => PySem.W.bind_fn J.kIn self T.ti) hus ?_)
  refine codeAny_mono (F.run _ X.stack _ _ ⟨Value.ref (hp.objs.size + 1) :: us, []⟩ (Value.ref (hp.objs.size + 1) :: us) _ _ (fun _ _ _ => False) (hr.make C us []) (J2.env0.make C us []) (hbn _ J2.kIn) rv2 q1) ?_
  rintro (er | fl) s' hq
  · exact hx pins σ _ _ er s' J2 hq
  cases fl with
  | next => exact hq.elim
  | brk => exact hq.elim
  | cont => exact hq.elim
  | ret u =>
    obtain ⟨v, H2, os2, bare2, un2, ok2, rv', ev, q2⟩ := hq
    rw [ev] at rv'
    obtain rfl : u = Value.none := rv'
    exact ⟨rfl, .ref (hp.objs.size + 1), H2, J2.call' (ch := []) os2 un2 ok2 bare2 (fun b z => absurd z List.not_mem_nil), rfl, q2⟩
/-- MeetError.__init__ -/
def spErr (K : PySem.W.Frag) : Sp := fun vs H Q _ => ∃ (a C fI : Addr) (v : V), vs = [.ref a, v] ∧ ExcT K C fI ∧ H a = some (exo a C none) ∧
  ∀ dx, H dx = none → dx ≠ a → Q .non (upd (upd H dx (exd dx [(("value" : Str), v)])) a (exo a C (some dx)))
theorem inst_of {X : Cx} {pins : List (Addr × Obj)} {σ : L2.St} {H : Hp} {s : Shared} {a C d : Addr} {fs : List (Str × V)} (I : Inv X pins σ H s) (ea : H a = some (exo a C (some d))) (ed : H d = some (exd d fs)) :
    ∃ (t1 : Addr) (oD : Obj) (mA : Str → Option Value), PySem.W.InstAt s.heap a { cls := .ref C, dict := some d, data := .fields #[.ref t1, .none, .none, .none, .bool false, .none] } C (some oD) ∧ (∀ f, PySem.W.lookIn f oD = some (mA f)) ∧ ∀ f, RelO (fs.lookup f) (mA f) := by
  obtain ⟨t1, ho⟩ := exo_at I.hok ea
  obtain ⟨mA, hns, rel⟩ := exd_at I.hok ed
  obtain ⟨oD, hD, hl⟩ := lookIn_ns hns
  exact ⟨t1, oD, mA, ⟨ho, rfl, rfl, hD⟩, hl, rel⟩
/-- e.f of an exception that stands as a value -/
def tXa (K : PySem.W.Frag) (f : Str) (te : TE) : TE := fun σ H Q => te σ H fun x H1 => ∃ a C fI d fs v, x = .ref a ∧ ExcT K C fI ∧ PySem.W.findIn K (.ref C) f = some none ∧ H1 a = some (exo a C (some d)) ∧ H1 d = some (exd d fs) ∧ fs.lookup f = some v ∧ Q v H1
theorem pe_xa {X : Cx} {e : Expr} {te : TE} {pos : Pos} {f : Str} (he : PE X e te) (hb : attributeBase e f X.env (eval e X.env) = eval e X.env := by rfl) : PE X (.Attribute e f pos) (tXa X.K f te) := by
  constructor
  intro pins s σ H Q I h
  refine attr_of hb (thn (he.run pins s σ H _ I h) ?_)
  rintro u s1 ⟨x, H1, J, rx, a, C, fI, d, fs, v, ex, T, hno, ea, ed, el, q⟩
  subst ex
  obtain rfl : u = Value.ref a := rx
  obtain ⟨t1, oD, mA, io, hl, rel⟩ := inst_of J ea ed
  obtain ⟨u, hu, ru⟩ := RelO.some_of (v := v) (o := mA f) (by rw [← el]; exact rel f)
  exact HandSPX.exc_get J.kIn io T.ga T.gg T.oex.exC (PySem.W.findObj_own T.hd hno rfl (by rw [hl, hu])) (handed_of ru) ⟨v, H1, J.tok _, ru, q⟩
/-- isinstance(e, c) of an exception that stands as a value -/
def rIsX (K : PySem.W.Frag) : List V → Hp → VK → Prop := fun xs H Q => ∃ (a C fI d : Addr) (fs : List (Str × V)) (c : V) (cv : Value) (b : Bool), xs = [.ref a, c] ∧ ExcT K C fI ∧ H a = some (exo a C (some d)) ∧ H d = some (exd d fs) ∧
  (∀ u, RelV c u → u = cv) ∧ PySem.W.kitOne K (.ref C) cv = some b ∧ Q (.bl b) H
theorem call_isX {X : Cx} : CallR X (.builtin "isinstance") (rIsX X.K) := by
  intro pins s σ H xs us Q I r h
  obtain ⟨a, C, fI, d, fs, c, cv, b, rfl, T, ea, ed, hc, hk, q⟩ := h
  cases r with
  | cons ra rr =>
    cases rr with
    | cons rc rn =>
      cases rn
      cases ra
      have e := hc _ rc
      subst e
      obtain ⟨t1, oD, mA, io, _, _⟩ := inst_of I ea ed
      exact PySem.W.kia_one (PySem.W.kitx_exc T.cl T.ga T.gg T.oex.exC T.ha T.hn T.ht T.hm) I.kIn io hk (fun z => nomatch z) fun tk => ⟨.bl b, H, I.kept (t' := tk) fun _ _ z => z, rfl, q⟩
end MX

set_option Elab.async false
set_option linter.all false
set_option maxRecDepth 100000
set_option maxHeartbeats 4000000
namespace MX
open PySem PySem.Spec PySem.W PySem.Calls PyProof.Rows L2
theorem pe_weak {X : Cx} {e : Expr} {t t' : TE} (h : PE X e t) (f : ∀ σ H Q, t' σ H Q → t σ H Q) : PE X e t' := ⟨fun pins s σ H Q I q => h.run pins s σ H Q I (f σ H Q q)⟩
theorem pa_weak {X : Cx} {es : List Expr} {t t' : TA} (h : PA X es t) (f : ∀ σ H Q, t' σ H Q → t σ H Q) : PA X es t' := ⟨fun pos pins s σ H Q I q => h.run pos pins s σ H Q I (f σ H Q q)⟩
/-! ### powers of great ints -/
def CPowW (i j : Int) : Prop := 0 ≤ j ∧ (Builtin.Int.intBits i : Int) * j ≤ 2 ^ 27
theorem op_powW {X : Cx} : OpR X (binaryOp .Pow) (rI CPowW fun i j => .int (i ^ j.toNat)) := opI fun _ _ _ _ _ _ _ hc q => pow_int hc.1 hc.2 q
/-! ### heaps -/
/-- what is new in H' -/
def newIn (H H' : Hp) : Hp := fun b => match H b with
  | none => H' b
  | some _ => none
theorem newIn_of {H H' : Hp} {b : Addr} {o : HO} (h : H b = none) (h' : H' b = some o) : newIn H H' b = some o := by
  unfold newIn
  rw [h]
  exact h'
theorem newIn_inv {H H' : Hp} {b : Addr} {o : HO} (h : newIn H H' b = some o) : H b = none ∧ H' b = some o := by
  unfold newIn at h
  cases e : H b with
  | none =>
    rw [e] at h
    exact ⟨rfl, h⟩
  | some u =>
    rw [e] at h
    cases h
theorem newIn_same {H H' : Hp} : Same (newIn H H') H' := fun b o h => (newIn_inv h).2
/-- all but what stands at p stays -/
def Ext (p : Addr) (H H' : Hp) : Prop := ∀ b o, b ≠ p → H b = some o → H' b = some o
theorem Ext.refl {p : Addr} (H : Hp) : Ext p H H := fun _ _ _ h => h
theorem Ext.trans {p : Addr} {H H1 H2 : Hp} (a : Ext p H H1) (b : Ext p H1 H2) : Ext p H H2 := fun c o n h => b c o n (a c o n h)
theorem Ext.of {p : Addr} {H H' : Hp} (s : Same H H') : Ext p H H' := fun b o _ h => s b o h
theorem Ext.upd (p : Addr) (H : Hp) (o : HO) : Ext p H (upd H p o) := fun b u n h => (upd_ne n).trans h
theorem same_new {H : Hp} {p : Addr} {o : HO} (h : H p = none) : Same H (upd H p o) := fun b u e => (upd_ne (ne_of_none e h)).trans e
theorem newIn_ext {p : Addr} {H H1 H2 : Hp} (hp : H p ≠ none) (e : Ext p H1 H2) : Same (newIn H H1) (newIn H H2) := fun b o h => by
  obtain ⟨h0, h1⟩ := newIn_inv h
  exact newIn_of h0 (e b o (fun z => hp (z ▸ h0)) h1)
theorem newIn_mono {H H1 H2 : Hp} (e : Same H1 H2) : Same (newIn H H1) (newIn H H2) := fun b o h => by
  obtain ⟨h0, h1⟩ := newIn_inv h
  exact newIn_of h0 (e b o h1)
theorem newIn_pre {p : Addr} {H H1 H2 : Hp} (hp : H1 p ≠ none) (e : Ext p H H1) : Same (newIn H1 H2) (newIn H H2) := fun b o h => by
  obtain ⟨h0, h1⟩ := newIn_inv h
  refine newIn_of ?_ h1
  cases q : H b with
  | none => rfl
  | some u =>
    by_cases hb : b = p
    · rw [hb] at h0
      exact absurd h0 hp
    · rw [e b u hb q] at h0
      cases h0
theorem newIn_preS {H H1 H2 : Hp} (e : Same H H1) : Same (newIn H1 H2) (newIn H H2) := fun b o h => by
  obtain ⟨h0, h1⟩ := newIn_inv h
  exact newIn_of (e.free h0) h1
/-! ### written data -/
/-- a display that is data, all of it new -/
def tDat (d : PyData) : TE := fun _ H Q => ∀ v H', Same H H' → Dq (newIn H H') v d → Q v H'
inductive Dqs (H : Hp) : List V → List PyData → Prop
  | nil : Dqs H [] []
  | cons {v : V} {d : PyData} {vs : List V} {ds : List PyData} : Dq H v d → Dqs H vs ds → Dqs H (v :: vs) (d :: ds)
theorem Dqs.len {H : Hp} {vs : List V} {ds : List PyData} (h : Dqs H vs ds) : vs.length = ds.length := by
  induction h with
  | nil => rfl
  | cons _ _ ih => rw [List.length_cons, List.length_cons, ih]
theorem Dqs.at_ {H : Hp} {vs : List V} {ds : List PyData} (h : Dqs H vs ds) : ∀ (i : Nat) (x : V) (d : PyData), vs[i]? = some x → ds[i]? = some d → Dq H x d := by
  induction h with
  | nil =>
    intro i x d h1
    simp at h1
  | @cons v d vs ds a _ ih =>
    intro i x e h1 h2
    cases i with
    | zero =>
      simp at h1 h2
      rw [← h1, ← h2]
      exact a
    | succ i => exact ih i x e (by simpa using h1) (by simpa using h2)
theorem Dqs.same {H H' : Hp} {vs : List V} {ds : List PyData} (h : Dqs H vs ds) (s : Same H H') : Dqs H' vs ds := by
  induction h with
  | nil => exact .nil
  | cons a _ ih => exact .cons (a.same s) ih
theorem Dqs.append {H : Hp} {vs ws : List V} {ds es : List PyData} (h : Dqs H vs ds) (k : Dqs H ws es) : Dqs H (vs ++ ws) (ds ++ es) := by
  induction h with
  | nil => exact k
  | cons a _ ih => exact .cons a ih
def tDats (ds : List PyData) : TA := fun _ H Q => ∀ vs H', Same H H' → Dqs (newIn H H') vs ds → Q vs H'
section
variable {X : Cx} {e : Expr} {es : List Expr} {d : PyData} {ds : List PyData} {pos : Pos}
theorem pa_dnil : PA X [] (tDats []) := pa_weak pa_nil fun σ H Q q => q [] H (Same.refl H) .nil
theorem pa_dcons (h : PE X e (tDat d)) (t : PA X es (tDats ds)) (hs : starEach (e :: es) X.env = (false, eval e X.env) :: starEach es X.env := by rfl) : PA X (e :: es) (tDats (d :: ds)) :=
  pa_weak (pa_cons h t hs) fun σ H Q q v H1 s1 d1 vs H2 s2 d2 => q (v :: vs) H2 (s1.trans s2) (.cons (d1.same (newIn_mono s2)) (d2.same (newIn_preS s1)))
theorem pe_dint {i : Int} {k : Nat} : PE X (.Constant (.int i) k pos) (tDat (.int i)) := pe_weak pe_int fun σ H Q q => q (.int i) H (Same.refl H) (.int i)
theorem pe_dstr {x : Str} {k : Nat} : PE X (.Constant (.str x) k pos) (tDat (.str x)) := pe_weak pe_str fun σ H Q q => q (.str x) H (Same.refl H) (.str x)
theorem pe_dbl {b : Bool} {k : Nat} : PE X (.Constant (.bool b) k pos) (tDat (.bool b)) := pe_weak pe_bl fun σ H Q q => q (.bl b) H (Same.refl H) (.bl b)
theorem pe_dnon {k : Nat} : PE X (.Constant .none k pos) (tDat .none) := pe_weak pe_non fun σ H Q q => q .non H (Same.refl H) .non
theorem pe_dtup {x1} (h : PA X es (tDats ds)) (hl : ds.length ≤ 1000 := by decide) : PE X (.Tuple es x1 pos) (tDat (.tuple ds)) :=
  pe_weak (pe_tup h) fun σ H Q q vs H1 s1 d1 => ⟨by rw [d1.len, sizeLine_eq]; omega, fun p hp => q (.ref p) (upd H1 p (.tup vs)) (s1.trans (same_new hp))
    (.tup (newIn_of (s1.free hp) upd_same) d1.len fun i x d h1 h2 => (d1.at_ i x d h1 h2).same (newIn_mono (same_new hp)))⟩
theorem pe_dlst (h : PA X es (tDats ds)) (hl : ds.length ≤ 1000 := by decide) : PE X (.List es pos) (tDat (.list ds)) :=
  pe_weak (pe_lstN h) fun σ H Q q vs H1 s1 d1 => ⟨by rw [d1.len, sizeLine_eq]; omega, fun p hp np => q (.ref p) (upd H1 p (.lst vs)) (s1.trans (same_new hp))
    (.lst (newIn_of (s1.free hp) upd_same) np d1.len fun i x d h1 h2 => (d1.at_ i x d h1 h2).same (newIn_mono (same_new hp)))⟩
theorem pe_dnil : PE X (.Dict [] [] pos) (tDat (.dict [])) :=
  pe_weak pe_dnewK fun σ H Q q p hp => q (.ref p) (upd H p (.dK [])) (same_new hp) (.dct (newIn_of hp upd_same) rfl (fun i x d h => by simp at h))
/-- the same list, its items told -/
def tDatL (ds : List PyData) : TE := fun _ H Q => ∀ p vs H', Same H H' → H p = none → H' p = some (.lst vs) → Dqs (newIn H H') vs ds → Q (.ref p) H'
theorem pe_dlstL (h : PA X es (tDats ds)) (hl : ds.length ≤ 1000 := by decide) : PE X (.List es pos) (tDatL ds) :=
  pe_weak (pe_lst h) fun σ H Q q vs H1 s1 d1 => ⟨by rw [d1.len, sizeLine_eq]; omega, fun p hp => q p vs (upd H1 p (.lst vs)) (s1.trans (same_new hp)) (s1.free hp) upd_same (d1.same (newIn_mono (same_new hp)))⟩
end
/-! ### draws -/
/-- a pot at p from which at most n were drawn by the mixed way -/
def PotO (n : Nat) (o : HO) : Prop := ∃ a s c : Int, o = .lst [.int a, .int s, .int c] ∧ 0 ≤ a ∧ 0 ≤ s ∧ s < 2305843009213693951 ∧ 0 ≤ c ∧ c ≤ n
def Pot (n : Nat) (H : Hp) (p : Addr) : Prop := ∃ o, H p = some o ∧ PotO n o
theorem PotO.mono {m n : Nat} {o : HO} (h : PotO m o) (l : m ≤ n) : PotO n o := by
  obtain ⟨a, s, c, e, h1, h2, h3, h4, h5⟩ := h
  exact ⟨a, s, c, e, h1, h2, h3, h4, by omega⟩
theorem Pot.some {n : Nat} {H : Hp} {p : Addr} (h : Pot n H p) : H p ≠ none := by
  obtain ⟨o, e, _⟩ := h
  rw [e]
  exact fun z => nomatch z
theorem Pot.upd {n : Nat} {H : Hp} {p : Addr} {o : HO} (h : PotO n o) : Pot n (upd H p o) p := ⟨o, upd_same, h⟩
/-- _law_take(pot, upto) -/
def spTake : Sp := fun vs H Q _ => ∃ (p : Addr) (u : Int) (n : Nat), vs = [.ref p, .int u] ∧ Pot n H p ∧ n < 1000000 ∧ 0 < u ∧ u < 1000 ∧
  ∀ (r : Int) (H' : Hp), 0 ≤ r → r < u → Ext p H H' → Pot (n + 1) H' p → Q (.int r) H'
/-- _law_of(pot, some) -/
def spOf : Sp := fun vs H Q _ => ∃ (p l : Addr) (xs : List V) (n : Nat), vs = [.ref p, .ref l] ∧ Pot n H p ∧ n < 1000000 ∧ H l = some (.lst xs) ∧ l ≠ p ∧ 0 < xs.length ∧ xs.length < 1000 ∧
  ∀ (i : Nat) (x : V) (H' : Hp), xs[i]? = some x → Ext p H H' → Pot (n + 1) H' p → Q x H'
/-- _law_pot(script, k) -/
def spPot (K : PySem.W.Frag) : Sp := fun vs H Q _ => ∃ (a : Addr) (ns : List Int) (k : Nat), vs = [.ref a, .int (k : Int)] ∧ SqL K H a (ns.map V.int) ∧ ns.length ≤ 63 ∧ k < 100 ∧
  ∀ (p : Addr) (o : HO), H p = none → PotO 0 o → Q (.ref p) (L2.upd H p o)
/-- _law_places(script, most) -/
def spPlaces (K : PySem.W.Frag) (m : Nat) : Sp := fun vs H Q _ => ∃ (a : Addr) (ns : List Int), vs = [.ref a, .int (m : Int)] ∧ SqL K H a (ns.map V.int) ∧ ns.length ≤ 63 ∧
  ∀ (p : Addr) (H' : Hp) (t : Nat), Same H H' → H p = none → t ≤ max 1 m → H' p = some (.lst ((List.range t).map fun (i : Nat) => V.int (i : Int))) → Q (.ref p) H'
end MX
namespace MX
open PySem PySem.Spec PySem.W PySem.Calls PyProof.Rows L2
theorem pe_ddict1 {X : Cx} {pos p1 : Pos} {k1 : Nat} {x : Str} {e : Expr} {d : PyData} (h : PE X e (tDat d)) : PE X (.Dict [some (.Constant (.str x) k1 p1)] [e] pos) (tDat (.dict [(.str x, d)])) :=
  pe_weak (pe_disp (pps_cons pe_str h pps_nil) rfl rfl (by simp) (by show 1 ≤ 15; omega)) fun σ H Q q p hp => by
    show ∀ v H', Same (upd H p (.dK [])) H' → Dq (newIn (upd H p (.dK [])) H') v d → _
    intro v H' s1 d1
    refine ⟨s1 _ _ upd_same, [(Sum.inr x, v)], rfl, (by show 1 ≤ 15; omega), ?_⟩
    have hs : Same H (upd H' p (.dK (mergeK [] [(Sum.inr x, v)]))) := fun b o e => by
      have nb : b ≠ p := ne_of_none e hp
      rw [upd_ne nb]
      exact s1 b o ((upd_ne nb).trans e)
    refine q (.ref p) _ hs (.dct (kvs := [(Sum.inr x, v)]) (newIn_of hp upd_same) rfl ?_)
    intro i y z h1 h2
    cases i with
    | zero =>
      simp at h1 h2
      rw [← h1, ← h2]
      refine d1.same fun b o e => ?_
      obtain ⟨e0, e1⟩ := newIn_inv e
      have nb : b ≠ p := fun z => by
        rw [z, upd_same] at e0
        cases e0
      rw [upd_ne nb] at e0
      exact newIn_of e0 ((upd_ne nb).trans e1)
    | succ i => simp at h1
theorem pe_dneg {X : Cx} {pos p1 : Pos} {k1 : Nat} {i : Int} : PE X (.UnaryOp .USub (.Constant (.int i) k1 p1) pos) (tDat (.int (-i))) :=
  pe_weak (pe_un un_neg pe_int) fun σ H Q q => ⟨i, rfl, q (.int (-i)) H (Same.refl H) (.int (-i))⟩
theorem pe_dpow {X : Cx} {pos p1 p2 : Pos} {k1 k2 : Nat} {i j : Int} (h : CPow i j) : PE X (.BinOp (.Constant (.int i) k1 p1) .Pow (.Constant (.int j) k2 p2) pos) (tDat (.int (i ^ j.toNat))) :=
  pe_weak (pe_op op_pow pe_int pe_int) fun σ H Q q => ⟨i, j, rfl, rfl, h, q _ H (Same.refl H) (.int _)⟩
def tDatO (q : V → Hp → Prop) : TE := fun _ H Q => ∀ v H', Same H H' → q v H' → Q v H'
/-! ### menus of any kind -/
def oddD : List PyData := [.none, .bool true, .bool false, .int 0, .int 1, .int (-1), .int 2, .int 30, .str "", .str "a", .str "in", .str "out", .str "met", .tuple [], .list [], .dict [], .tuple [.int 0], .tuple [.tuple []], .list [.int 0], .tuple [.str "a"]]
  ++ [.dict [(.str "a", .int 1)], .tuple [.str "a", .str "in"], .tuple [.str "a", .str "b"], .tuple [.tuple [.str "a", .str "in"]], .tuple [.str "met", .str "a", .str "b"], .int 100000000, .list [.str "a"], .tuple [.tuple [.str "a", .str "in"], .str "a"]]
/-- _law_odd(pot) -/
def spOdd : Sp := fun vs H Q _ => ∃ (p : Addr) (n : Nat), vs = [.ref p] ∧ Pot n H p ∧ n < 1000000 ∧
  ∀ v d H', d ∈ oddD → Ext p H H' → Pot (n + 1) H' p → Dq (newIn H H') v d → Q v H'
end MX

set_option Elab.async false
set_option linter.all false
set_option maxRecDepth 100000
set_option maxHeartbeats 4000000
namespace MX
open PySem PySem.Spec PySem.W PySem.Calls PyProof.Rows L2
/-! ### many exceptions, made with one value -/
inductive Excs (H : Hp) (v : V) : List Addr → List Addr → Prop
  | nil : Excs H v [] []
  | cons {a C : Addr} {as Cs : List Addr} : ExcAt H a C v → Excs H v as Cs → Excs H v (a :: as) (C :: Cs)
theorem ExcAt.ext {H H' : Hp} {a C l : Addr} {v : V} {xs : List V} (h : ExcAt H a C v) (hl : H l = some (.lst xs)) (e : Ext l H H') : ExcAt H' a C v := by
  obtain ⟨d, ea, ed⟩ := h
  have na : a ≠ l := fun z => by
    rw [z, hl] at ea
    cases ea
  have nd : d ≠ l := fun z => by
    rw [z, hl] at ed
    cases ed
  exact ⟨d, e a _ na ea, e d _ nd ed⟩
theorem ExcAt.same {H H' : Hp} {a C : Addr} {v : V} (h : ExcAt H a C v) (s : Same H H') : ExcAt H' a C v :=
  let ⟨d, ea, ed⟩ := h
  ⟨d, s _ _ ea, s _ _ ed⟩
theorem Excs.ext {H H' : Hp} {l : Addr} {v : V} {xs : List V} {as Cs : List Addr} (h : Excs H v as Cs) (hl : H l = some (.lst xs)) (e : Ext l H H') : Excs H' v as Cs := by
  induction h with
  | nil => exact .nil
  | cons a _ ih => exact .cons (a.ext hl e) ih
theorem Excs.same {H H' : Hp} {v : V} {as Cs : List Addr} (h : Excs H v as Cs) (s : Same H H') : Excs H' v as Cs := by
  induction h with
  | nil => exact .nil
  | cons a _ ih => exact .cons (a.same s) ih
theorem Excs.append {H : Hp} {v : V} {as Cs bs Ds : List Addr} (h : Excs H v as Cs) (k : Excs H v bs Ds) : Excs H v (as ++ bs) (Cs ++ Ds) := by
  induction h with
  | nil => exact k
  | cons a _ ih => exact .cons a ih
theorem Excs.len {H : Hp} {v : V} {as Cs : List Addr} (h : Excs H v as Cs) : as.length = Cs.length := by
  induction h with
  | nil => rfl
  | cons _ _ ih => rw [List.length_cons, List.length_cons, ih]
theorem Excs.at_ {H : Hp} {v : V} {as Cs : List Addr} (h : Excs H v as Cs) : ∀ (i : Nat) (a : Addr), as[i]? = some a → ∃ C, Cs[i]? = some C ∧ ExcAt H a C v := by
  induction h with
  | nil =>
    intro i a h1
    simp at h1
  | @cons a C as Cs x _ ih =>
    intro i b h1
    cases i with
    | zero =>
      simp at h1
      rw [← h1]
      exact ⟨C, rfl, x⟩
    | succ i => exact ih i b (by simpa using h1)
/-- C(x), x the slot i -/
def tExc (C : Addr) (i : Nat) : TE := fun σ H Q => ∃ v, σ[i]? = some (some v) ∧ ∀ a H', Same H H' → H a = none → ExcAt H' a C v → Q (.ref a) H'
def tExcs (i : Nat) (Cs : List Addr) : TA := fun σ H Q => ∃ v, σ[i]? = some (some v) ∧ ∀ as H', Same H H' → Excs H' v as Cs → Q (as.map V.ref) H'
section
variable {X : Cx} {i : Nat} {e : Expr} {es : List Expr} {C fI : Addr} {Cs : List Addr}
theorem pe_exc {k : Nat} {fd : FuncData} {x y : Str} {p p1 pos : Pos} (T : ExcT X.K C fI) (F : FnOk X.prog X.w X.K X.mg X.base CX0 k fI fd ["self", "value"] (spErr X.K)) (hr : Room (k + 1) X.A) (hb : Binds X.K fd ["self", "value"] [])
    (hm : X.mg x = some (.ref C)) (hg : Gl X x := by rfl) (hN : X.N[i]? = some y := by rfl) (hv : Vis X.env.scope y := by first | exact Or.inl rfl | exact Or.inr (Or.inl rfl) | exact Or.inr (Or.inr rfl))
    (hdb : (x == ("__debug__" : Str)) = false := by decide) (hd : (y == ("__debug__" : Str)) = false := by decide) (hcd : (y == ("__classdict__" : Str)) = false := by decide)
    (he : starEach [.Name y p1] X.env = (false, eval (.Name y p1) X.env) :: starEach [] X.env := by rfl) :
    PE X (.Call (.Name x p) [.Name y p1] [] pos) (tExc C i) :=
  pe_weak (pe_mkV T F hr hb pass0 hg hm (pa_cons (pv i hN hv hd hcd) pa_nil he) hdb he (by rfl)) fun σ H Q q => by
    obtain ⟨v, hs, q⟩ := q
    refine ⟨v, hs, (by show 1 ≤ 1000; decide), fun a ha => ⟨a, C, fI, v, rfl, T, upd_same, fun dx n ne => ⟨rfl, ?_⟩⟩⟩
    have nd : H dx = none := by
      rw [upd_ne ne] at n
      exact n
    refine q a _ (fun b o z => ?_) ha ⟨dx, upd_same, by rw [upd_ne ne, upd_same]⟩
    rw [upd_ne (ne_of_none z ha), upd_ne (ne_of_none z nd), upd_ne (ne_of_none z ha)]
    exact z
theorem pa_enil : PA X [] (tExcs i []) := pa_weak pa_nil fun σ H Q q => let ⟨v, _, q⟩ := q; q [] H (Same.refl H) .nil
theorem pa_econs (h : PE X e (tExc C i)) (t : PA X es (tExcs i Cs)) (hs : starEach (e :: es) X.env = (false, eval e X.env) :: starEach es X.env := by rfl) : PA X (e :: es) (tExcs i (C :: Cs)) :=
  pa_weak (pa_cons h t hs) fun σ H Q q => by
    obtain ⟨v, hv, q⟩ := q
    exact ⟨v, hv, fun a H1 s1 _ e1 => ⟨v, hv, fun as H2 s2 es2 => q (a :: as) H2 (s1.trans s2) (.cons (e1.same s2) es2)⟩⟩
/-! ### what an exception is -/
def kb (K : PySem.W.Frag) (D C : Addr) : Bool := PySem.W.kitOne K (.ref D) (.ref C) == some true
def tIss (K : PySem.W.Frag) (i : Nat) (Cs : List Addr) : TA := fun σ H Q => ∃ (a D fI d : Addr) (fs : List (Str × V)), σ[i]? = some (some (.ref a)) ∧ ExcT K D fI ∧ H a = some (exo a D (some d)) ∧ H d = some (exd d fs) ∧
  (∀ C ∈ Cs, ∃ b, PySem.W.kitOne K (.ref D) (.ref C) = some b) ∧ Q ((Cs.map (kb K D)).map V.bl) H
theorem pa_inil : PA X [] (tIss X.K i []) := pa_weak pa_nil fun σ H Q q => by
  obtain ⟨a, D, fI, d, fs, _, _, _, _, _, q⟩ := q
  exact q
theorem pa_icons {x y z : Str} {p p1 p2 pos : Pos} (t : PA X es (tIss X.K i Cs)) (hmi : X.mg x = none) (hx : x = "isinstance") (hm : X.mg z = some (.ref C)) (hgi : Gl X x := by rfl) (hg : Gl X z := by rfl)
    (hN : X.N[i]? = some y := by rfl) (hv : Vis X.env.scope y := by first | exact Or.inl rfl | exact Or.inr (Or.inl rfl) | exact Or.inr (Or.inr rfl)) (hd : (y == ("__debug__" : Str)) = false := by decide) (hcd : (y == ("__classdict__" : Str)) = false := by decide)
    (hdz : (z == ("__debug__" : Str)) = false := by decide) (hcz : (z == ("__classdict__" : Str)) = false := by decide)
    (hs : starEach ((.Call (.Name x p) [.Name y p1, .Name z p2] [] pos) :: es) X.env = (false, eval (.Call (.Name x p) [.Name y p1, .Name z p2] [] pos) X.env) :: starEach es X.env := by rfl) :
    PA X ((.Call (.Name x p) [.Name y p1, .Name z p2] [] pos) :: es) (tIss X.K i (C :: Cs)) := by
  subst hx
  refine pa_weak (pa_cons (pe_callB call_isX hgi hmi (by decide +kernel) (pa_cons (pv i hN hv hd hcd) (pa_cons (pe_glob hg hm (show RelV (.ref C) (.ref C) from rfl) hdz) pa_nil))) t hs) fun σ H Q q => ?_
  obtain ⟨a, D, fI, d, fs, hs, T, ea, ed, hk, q⟩ := q
  obtain ⟨b, hb⟩ := hk C List.mem_cons_self
  refine ⟨_, hs, a, D, fI, d, fs, .ref C, .ref C, b, rfl, T, ea, ed, fun u r => r, hb, a, D, fI, d, fs, hs, T, ea, ed, fun C' h => hk C' (List.mem_cons_of_mem _ h), ?_⟩
  have e : kb X.K D C = b := by
    unfold kb
    rw [hb]
    cases b <;> rfl
  rw [List.map_cons, List.map_cons, e] at q
  exact q
end
/-- a list being made: at l, new behind H0, of the exceptions of Cs -/
def MadeSt (H0 H : Hp) (l : Addr) (v : V) (Cs : List Addr) : Prop := ∃ as : List Addr, Same H0 H ∧ H0 l = none ∧ H l = some (.lst (as.map V.ref)) ∧ Excs H v as Cs
theorem MadeSt.step {H0 H H1 : Hp} {l b : Addr} {v : V} {Cs Ds as bs : List Addr} (s : Same H0 H) (n : H0 l = none) (hl : H l = some (.lst (as.map V.ref))) (x : Excs H v as Cs) (s1 : Same H H1) (y : Excs H1 v bs Ds) (hb : H1 b = none) :
    MadeSt H0 (upd (upd H1 b (.lst (bs.map V.ref))) l (.lst (as.map V.ref ++ bs.map V.ref))) l v (Cs ++ Ds) := by
  have h1 : (upd H1 b (.lst (bs.map V.ref))) l = some (.lst (as.map V.ref)) := same_new hb _ _ (s1 _ _ hl)
  refine ⟨as ++ bs, fun c o e => ?_, n, by rw [upd_same, List.map_append], ((x.same s1).append y |>.same (same_new hb)).ext h1 (Ext.upd l _ _)⟩
  rw [upd_ne (ne_of_none e n)]
  exact same_new hb _ _ (s1 _ _ (s _ _ e))
def MarkSt (K : PySem.W.Frag) (H0 H : Hp) (l D : Addr) (Cs : List Addr) : Prop := Same H0 H ∧ H0 l = none ∧ H l = some (.lst ((Cs.map (kb K D)).map V.bl))
theorem MarkSt.step {K : PySem.W.Frag} {H0 H : Hp} {l b D : Addr} {Cs Ds : List Addr} (m : MarkSt K H0 H l D Cs) (hb : H b = none) :
    MarkSt K H0 (upd (upd H b (.lst ((Ds.map (kb K D)).map V.bl))) l (.lst ((Cs.map (kb K D)).map V.bl ++ (Ds.map (kb K D)).map V.bl))) l D (Cs ++ Ds) := by
  obtain ⟨s, n, hl⟩ := m
  refine ⟨fun c o e => ?_, n, by rw [upd_same, List.map_append, List.map_append]⟩
  rw [upd_ne (ne_of_none e n)]
  exact same_new hb _ _ (s _ _ e)
end MX

set_option Elab.async false
set_option linter.all false
set_option maxRecDepth 100000
set_option maxHeartbeats 4000000
namespace MX
open PySem PySem.Spec PySem.W PySem.Calls PyProof.Rows L2
/-! ### how many unlike texts -/
def dis (xs : List Str) : Nat → Nat
  | 0 => 0
  | i + 1 => dis xs i + (if xs.getD i Str.empty ∈ xs.take i then 0 else 1)
theorem dis_le (xs : List Str) : ∀ i, dis xs i ≤ i
  | 0 => Nat.le_refl _
  | i + 1 => by
    have h := dis_le xs i
    unfold dis
    split <;> omega
theorem take_snoc {α : Type} {xs : List α} {i : Nat} {d : α} (h : i < xs.length) : xs.take (i + 1) = xs.take i ++ [xs.getD i d] := by
  rw [List.take_succ, List.getElem?_eq_getElem h, List.getD_eq_getElem?_getD, List.getElem?_eq_getElem h]
  rfl
theorem dis_nodup {xs : List Str} : ∀ {i}, i ≤ xs.length → (dis xs i = i ↔ (xs.take i).Nodup)
  | 0, _ => by simp [dis]
  | i + 1, hi => by
    have ih := dis_nodup (xs := xs) (i := i) (by omega)
    have le := dis_le xs i
    rw [take_snoc (d := Str.empty) (by omega), List.nodup_append]
    unfold dis
    constructor
    · intro h
      have a : dis xs i = i ∧ ¬ xs.getD i Str.empty ∈ xs.take i := by
        split at h
        · omega
        · exact ⟨by omega, by assumption⟩
      refine ⟨ih.mp a.1, by simp, fun x hx y hy => ?_⟩
      rw [List.mem_singleton.mp hy]
      intro e
      exact a.2 (e ▸ hx)
    · rintro ⟨h1, _, h3⟩
      have nm : ¬ xs.getD i Str.empty ∈ xs.take i := fun hm => h3 _ hm _ (List.mem_singleton.mpr rfl) rfl
      rw [if_neg nm, ih.mpr h1]
section
variable {pg : Program} {w : World} {A : Around} {R : Result → Shared → Prop} {it : Addr} {fp wr : List Addr} {G : Array GenState → Array GenState → Prop} {n : Nat} {Pv : Nat → Value → Prop} {St : Nat → Shared → Prop}
def SetTx (pg : Program) (w : World) (h : Heap) (a : Addr) (xs : List Str) (i : Nat) : Prop := h.SetOf (PySem.strKind pg w) a (fun k => decide (k ∈ xs.take i)) (dis xs i)
theorem setTx_loop (W : WalksS pg w A.in1 it fp wr G n Pv St) (a : Addr) (out : a ∉ fp) (xs : List Str) (len : xs.length = n) (few : n + 1 < scanBound) (vals : ∀ i v, Pv i v → ∃ t, v = .str (xs.getD i Str.empty) t) :
    ∀ (left i : Nat) (z : Shared), n - i = left → i ≤ n → St i z → SetTx pg w z.heap a xs i → (∀ z', Moved (a :: wr) G z z' → SetTx pg w z'.heap a xs n → R (.ok (.ret .none)) z') →
      codeAny (model pg w) A (.builtin "set.update.loop" ⟨[.ref a, .ref it], []⟩) R z := by
  have away : a ∉ wr := fun q => out (W.sub _ q)
  have more : ∀ b ∈ wr, b ∈ a :: wr := fun b q => List.mem_cons_of_mem _ q
  have carry : ∀ {i : Nat} {z z' : Shared}, Moved wr G z z' → SetTx pg w z.heap a xs i → SetTx pg w z'.heap a xs i := fun m q => by
    obtain ⟨o, es, ep, t, e, q⟩ := q
    exact ⟨o, es, ep, t, m.heap a _ away e, q⟩
  intro left
  induction left with
  | zero =>
    intro i z hl hi st hs done
    obtain rfl : i = n := by omega
    refine codeAny_builtin PyProof.Rows.F.entry_set_update_loop (?_); rw [Around.under_plainId PyProof.Rows.F.plain_set_update_loop _]
    show wpAny _ (Around.in1 A) (pyNext (Value.ref it) >>= _) _ _ z
    exact wpAny_bind (W.done z _ _ st fun z' m => wpAny_pure (done z' (m.mono more) (carry m hs)))
  | succ left ih =>
    intro i z hl hi st hs done
    have lt : i < n := by omega
    refine codeAny_builtin PyProof.Rows.F.entry_set_update_loop (?_); rw [Around.under_plainId PyProof.Rows.F.plain_set_update_loop _]
    show wpAny _ (Around.in1 A) (pyNext (Value.ref it) >>= _) _ _ z
    refine wpAny_bind (W.item i z _ _ lt st ?_)
    intro v z' pv st' m
    obtain ⟨t, rfl⟩ := vals i v pv
    have hs' := carry m hs
    show wpAny _ (Around.in1 A) (holding [Value.str (xs.getD i Str.empty) t] (setAdd a (.str (xs.getD i Str.empty) t)) >>= _) _ _ z'
    refine wpAny_bind (wpAny_holding ?_); unfold setAdd; refine wpAny_holding (wpAny_bind ((PySem.strKind pg w).pyHash (k := xs.getD i Str.empty) (strKind_is _ _ _ _) ?_))
    have room : dis xs i + 1 < scanBound := by
      have := dis_le xs i
      omega
    refine wpAny_setAddHashed_of (knd := PySem.strKind pg w) (s := { z' with toks := z'.toks + 1 }) (strKind_is _ _ _ _) rfl hs' room ?_
    intro h' same hs2
    have hs3 : SetTx pg w h' a xs (i + 1) := by
      refine SetOf_congr hs2 (fun k => ?_) ?_
      · rw [take_snoc (d := Str.empty) (by omega)]
        by_cases q : k = xs.getD i Str.empty <;> simp [q]
      · show (if decide (xs.getD i Str.empty ∈ xs.take i) = true then dis xs i else dis xs i + 1) = dis xs i + (if xs.getD i Str.empty ∈ xs.take i then 0 else 1)
        by_cases q : xs.getD i Str.empty ∈ xs.take i
        · rw [if_pos q, if_pos (decide_eq_true q)]
          rfl
        · rw [if_neg q, if_neg (by rw [decide_eq_false q]; exact Bool.false_ne_true)]
    refine wpAny_pure ⟨plainId_quiet PyProof.Rows.F.plain_set_update_loop _, ih (i + 1) _ (by omega) lt (W.frame _ z' _ _ st' (Nat.le_succ _) ?_) hs3 ?_⟩
    · intro b hb o e
      rw [same.2 b (fun q : b = a => out (q ▸ hb))]
      exact e
    · intro z2 m2 q2
      refine done z2 (Moved.trans W.gtrans ((m.mono more).then_heap (Nat.le_succ _) ?_) m2) q2
      intro b o hb e
      rw [same.2 b (fun q : b = a => hb (q ▸ List.mem_cons_self))]
      exact e
end
section
variable {pg : Program} {w : World} {A : Around} {E : Value → Shared → Prop} {z : Shared}
def setNew (led : Bool) : Obj := { cls := .type "set", dict := none, data := .set #[] 0 (.fresh 0 0 led) }
/-- set(list of texts) -/
theorem call_setTx {l : Addr} {its : Array Value} {xs : List Str} {Q : Value → Shared → Prop} (calm : A.handled = none) (hl : z.heap.IsList l its) (hi : PyProof.Rows.StrsAre its.toList xs) (few : xs.length + 1 < scanBound)
    (h : ∀ (h' : Heap) (tk : Nat), SetTx pg w h' z.heap.objs.size xs xs.length → (∀ b o, b < z.heap.objs.size → z.heap.get? b = some o → h'.get? b = some o) → Q (.ref z.heap.objs.size) { z with heap := h', toks := tk }) :
    wpAny (model pg w) A (call (.type "set") [.ref l]) Q E z := by
  obtain ⟨c0, t0, mro⟩ := PySem.F.called_set.mro
  have k1 := PySem.F.called_set.made
  have k2 := PySem.F.called_set.sub
  refine wpAny_call (codeAny_of_tree (?_)); show wpAny _ _ (callAny (.type "set") _) _ _ _
  refine wpAny_pure ⟨Code.quiet_builtin _ (by decide +kernel), codeAny_builtin PySem.F.entry_type_call (?_)⟩; rw [Around.under_plain (weight_type_call_type "set" [.ref l] []) rfl]
  have k3 := PySem.F.called_set.notType
  have k4 := PySem.F.called_set.canCreate
  have k5 := PySem.F.typeCall_set_1 (.ref l)
  (repeat (any_goals (first | assumption | wp_step)))
  refine codeAny_mono (code_set_new_1 (.ref l) (E := E) (Q₁ := fun obj z1 => ∃ led : Bool, obj = .ref z.heap.objs.size ∧ z1 = { z with heap := z.heap.push (setNew led) }) (fun led => ⟨led, rfl, rfl⟩)) ?_
  rintro (er | fl) z1 hr
  · exact hr
  cases fl with
  | next => exact hr.elim
  | brk => exact hr.elim
  | cont => exact hr.elim
  | ret obj =>
    obtain ⟨led, rfl, rfl⟩ := hr
    have got : (z.heap.push (setNew led)).get? z.heap.objs.size = some (setNew led) := Heap.get?_push_size _ rfl
    have ty : Shared.TypeIs { z with heap := z.heap.push (setNew led) } (.ref z.heap.objs.size) "set" := ⟨_, got, rfl⟩
    have k6 := PySem.F.called_set.init.lookup
    have k7 := PySem.F.called_set.init.bind (.ref z.heap.objs.size)
    (repeat (any_goals (first | assumption | wp_step)))
    refine codeAny_mono (codeAny_call_builtin (R := wants (fun r z2 => r = .none ∧ ∃ h' tk, z2 = { z with heap := h', toks := tk } ∧ SetTx pg w h' z.heap.objs.size xs xs.length ∧
        (∀ b o, b < z.heap.objs.size → z.heap.get? b = some o → h'.get? b = some o)) E) PySem.F.called_set.init.plain PySem.F.entry_set_init (check_set_init_1 ty ?_)) ?_
    · obtain ⟨⟨oc, od, dt, osl⟩, ho, hc, nl, hd⟩ := hl
      simp only at hc hd; subst hc; subst hd
      have ho' : (z.heap.push (setNew led)).get? l = some { cls := .type "list", dict := od, data := .seq its nl, slots := osl } := Heap.get?_push_of_some _ ho
      have k8 := PySem.F.sub_list_set
      have k9 := PySem.F.sub_list_frozenset
      have k10 : (Value.type "list" == Value.type "dict") = false := by decide
      have isl : (z.heap.push (setNew led)).IsList l its := ⟨_, ho', rfl, nl, rfl⟩
      unfold Builtin.«set.__init__» noKeywords Builtin.Frozenset.updateFrom; generalize hPI : pyIter = PI
      wp_walk
      subst hPI
      refine wpAny_pyIter_list isl (wpAny_bind (wpAny_runValue (?_)))
      have hlS : l < z.heap.objs.size := Heap.lt_size ho
      have h3 : A.in1.in1.in1.handled = none := by simp [calm]
      have nI : l ≠ (z.heap.push (setNew led)).objs.size := by
        rw [Heap.size_push]
        exact Nat.ne_of_lt (Nat.lt_succ_of_lt hlS)
      have nS : z.heap.objs.size ∉ [(z.heap.push (setNew led)).objs.size, l] := by
        rw [Heap.size_push]
        intro q
        rcases List.mem_cons.mp q with q | q
        · exact Nat.ne_of_lt (Nat.lt_succ_self _) q
        · exact Nat.ne_of_gt hlS (List.mem_singleton.mp q)
      have len : xs.length = its.size := by rw [← StrsAre.len_eq hi, Array.length_toList]
      have vals : ∀ (i : Nat) (v : Value), its[i]? = some v → ∃ t, v = .str (xs.getD i Str.empty) t := fun i v hv => SS.strs_at hi i v (by rw [Array.getElem?_toList]; exact hv)
      refine setTx_loop ((Walks.list h3 _ l nI its).toS) z.heap.objs.size nS xs len (by omega) vals (its.size - 0) 0 _ (by omega) (Nat.zero_le _) ⟨⟨_, Heap.get?_push_size _ rfl, rfl, rfl⟩, (isl.push _)⟩ ?_ ?_
      · have got2 : ((z.heap.push (setNew led)).push { cls := .type "list_iterator", data := .fields #[.ref l, .int 0 0] }).get? z.heap.objs.size = some (setNew led) := Heap.get?_push_of_some _ got
        exact PyProof.Rows.SetOf_congr ((PyProof.Rows.setObjOf_fresh (knd := PySem.strKind pg w) led).setOf got2 (by unfold scanBound; omega)) (fun _ => by simp) rfl
      · rintro ⟨h', g', d', tk', os'⟩ m q
        obtain rfl : g' = z.gens := m.gens
        obtain rfl : d' = z.drawn := m.drawn
        obtain rfl : os' = z.os := m.os
        show wpAny _ _ _ _ _ _
        refine wpAny_pure (show wpAny _ _ (ret Value.none) _ _ _ from wpAny_pure ⟨rfl, h', tk', rfl, (by rw [len]; exact q), fun b o hb e => ?_⟩)
        refine m.heap b o (fun q => ?_) (Heap.get?_push_of_some _ (Heap.get?_push_of_some _ e))
        rcases List.mem_cons.mp q with q | q
        · exact Nat.ne_of_lt hb q
        · have q2 := List.mem_singleton.mp q
          rw [Heap.size_push] at q2
          exact Nat.ne_of_lt (Nat.lt_succ_of_lt hb) q2
    · rintro (er | fl2) z2 hr2
      · exact hr2
      cases fl2 with
      | next => exact hr2.elim
      | brk => exact hr2.elim
      | cont => exact hr2.elim
      | ret r =>
        obtain ⟨rfl, h', tk, rfl, q, k⟩ := hr2
        (repeat (any_goals (first | assumption | wp_step)))
        exact h _ _ q k
end
/-- len(set(x)), x a list of texts -/
def tLenSetT (K : PySem.W.Frag) (ta : TE) : TE := fun σ H Q => ta σ H fun x H1 => ∃ (l : Addr) (xs : List Str), x = .ref l ∧ SqL K H1 l (xs.map V.str) ∧ xs.length ≤ 1000 ∧ Q (.int ((dis xs xs.length : Nat) : Int)) H1
theorem pe_lenSetT {X : Cx} {a : Expr} {ta : TE} {p p2 q pos : Pos} (hc : X.calm = true) (hg : Gl X "len") (hm : X.mg "len" = none) (hg2 : Gl X "set") (hm2 : X.mg "set" = none) (ha : PE X a ta)
    (na : starEach [a] X.env = (false, eval a X.env) :: starEach [] X.env := by rfl) : PE X (.Call (.Name "len" p) [.Call (.Name "set" p2) [a] [] q] [] pos) (tLenSetT X.K ta) := by
  constructor
  intro pins s σ H Q I h
  refine Call_ (ld_blt I hg hm boot_len (PyProof.Rows.callWith_builtin1 (PyProof.Rows.args_cons ?_ rfl) rfl rfl))
  refine Call_ (ld_blt I hg2 hm2 boot_set (PyProof.Rows.callWith_type1 (PyProof.Rows.args_cons (thn (ha.run pins s σ H _ I h) ?_) na) na rfl))
  rintro v s1 ⟨x, H1, J, rx, l, xs, rfl, hq, few, q1⟩
  refine PyProof.Rows.args_nil ?_
  cases rx
  obtain ⟨its, rv, pl, hz⟩ := J.list hq
  refine call_setTx (J.ok.hd hc) pl.isList (by simpa using strsAre_of rv) (by unfold scanBound; omega) ?_
  intro h' tk hS hk
  refine PyProof.Rows.args_nil ?_
  obtain ⟨o, es, ep, t, ho, hex, hd, _, _, _, hf, hn⟩ := hS
  have J2 : Inv X pins σ H1 { s1 with heap := h', toks := tk } := J.kept fun b o e => hk b o (Heap.lt_size e) e
  have le := dis_le xs xs.length
  refine call_len_set ho hex hd hf (by rw [hn]; omega) ⟨.int ((dis xs xs.length : Nat) : Int), H1, J2.tok _, ⟨_, by rw [hn]⟩, q1⟩
end MX

set_option Elab.async false
set_option linter.all false
set_option maxRecDepth 100000
set_option maxHeartbeats 4000000
namespace MX
open PySem PySem.Spec PySem.W PySem.Calls PyProof.Rows L2
/-! ### x in o, o of an own class with __contains__ -/
section
variable {pg : Program} {w : World} {A : Around} {E : Value → Shared → Prop} {z : Shared} {K : PySem.W.Frag}
theorem contains_own {a C g : Addr} {ox : Obj} {od : Option Obj} {u : Value} {Q : Bool → Shared → Prop} (X : K.In z.heap) (J : PySem.W.InstAt z.heap a ox C od) (hs : PySem.W.findIn K (.ref C) "__contains__" = some (some (.ref g))) (hf : PySem.W.typeIn K (.ref g) = some (.type "function"))
    (h : wpAny (model pg w) A (call (.ref g) [.ref a, u]) (fun r z' => ∃ b, r = .bool b ∧ Q b z') E z) : wpAny (model pg w) A (contains (.ref a) u) Q E z := by
  have L : Looks (model pg w) z.heap (specialOf (.ref a) "__contains__") (some (.ref g)) := (J.type (M := model pg w)).andThen (looks_findIn X hs)
  have B : Looks (model pg w) z.heap (bindSpecial (.ref g) (.ref a)) (.ref g, [.ref a]) := PySem.W.bind_fn X (.ref a) hf
  unfold contains
  refine wpAny_holding ?_
  rw [stdlibNamesSay?_ref]
  refine wpAny_bind (L.here ?_)
  have n1 : (some (Value.ref g) == some Value.none) = false := rfl
  rw [n1]
  show wpAny _ _ (callSpecialUnlessNone? (.ref a) "__contains__" [u] _ >>= _) _ _ _
  unfold callSpecialUnlessNone?
  refine wpAny_bind (wpAny_bind (L.here (wpAny_holding (wpAny_bind (B.here ?_)))))
  have n2 : (Value.ref g == Value.none) = false := rfl
  simp only [n2]
  refine wpAny_bind (thn h ?_)
  rintro r z' ⟨b, rfl, q⟩
  exact wpAny_pure (wpAny_pure q)
end
def rInOwn (C : Addr) (sp : Sp) (neg : Bool) : R2 := fun x y H Q => ∃ a dx fs, y = .ref a ∧ H a = some (.ins C dx fs) ∧ sp [.ref a, x] H (fun v H' => ∃ b, v = .bl b ∧ Q (.bl (if neg then !b else b)) H') (fun _ _ _ => False)
theorem op_inOwn {X : Cx} {CX : CXT} {C g : Addr} {k : Nat} {fd : FuncData} {ps : List Str} {sp : Sp} (hs : PySem.W.findIn X.K (.ref C) "__contains__" = some (some (.ref g))) (hf : PySem.W.typeIn X.K (.ref g) = some (.type "function"))
    (F : FnOk X.prog X.w X.K X.mg X.base CX k g fd ps sp) (hr : Room k X.A) (hb : Binds X.K fd ps []) (hx : Passes CX X (fun _ _ _ => False)) : OpR X (compareOp .In) (rInOwn C sp false) := by
  intro pins s σ H x y v u Q I rx ry h
  obtain ⟨a, dx, fs, rfl, ea, q⟩ := h
  cases (show u = Value.ref a from ry)
  obtain ⟨mA, O, _⟩ := ins_get I.hok ea
  obtain ⟨od, J, _⟩ := O.look
  show wpAny _ _ (do return Value.bool (← contains (.ref a) v) : Sem Value) _ _ _
  refine wpAny_bind (contains_own I.kIn J hs hf ?_)
  refine thn (run_fn F hr hb .nil hx I (us := [.ref a, v]) (vs := [.ref a, x]) (.cons rfl (.cons rx .nil)) q) ?_
  rintro r s' ⟨v', H', J', rv, b, rfl, q'⟩
  cases (show r = Value.bool b from rv)
  exact ⟨b, rfl, wpAny_pure ⟨.bl b, H', J', rfl, q'⟩⟩
theorem op_notInOwn {X : Cx} {CX : CXT} {C g : Addr} {k : Nat} {fd : FuncData} {ps : List Str} {sp : Sp} (hs : PySem.W.findIn X.K (.ref C) "__contains__" = some (some (.ref g))) (hf : PySem.W.typeIn X.K (.ref g) = some (.type "function"))
    (F : FnOk X.prog X.w X.K X.mg X.base CX k g fd ps sp) (hr : Room k X.A) (hb : Binds X.K fd ps []) (hx : Passes CX X (fun _ _ _ => False)) : OpR X (compareOp .NotIn) (rInOwn C sp true) := by
  intro pins s σ H x y v u Q I rx ry h
  obtain ⟨a, dx, fs, rfl, ea, q⟩ := h
  cases (show u = Value.ref a from ry)
  obtain ⟨mA, O, _⟩ := ins_get I.hok ea
  obtain ⟨od, J, _⟩ := O.look
  show wpAny _ _ (do return Value.bool (!(← contains (.ref a) v)) : Sem Value) _ _ _
  refine wpAny_bind (contains_own I.kIn J hs hf ?_)
  refine thn (run_fn F hr hb .nil hx I (us := [.ref a, v]) (vs := [.ref a, x]) (.cons rfl (.cons rx .nil)) q) ?_
  rintro r s' ⟨v', H', J', rv, b, rfl, q'⟩
  cases (show r = Value.bool b from rv)
  exact ⟨b, rfl, wpAny_pure ⟨.bl (!b), H', J', rfl, q'⟩⟩
end MX

set_option Elab.async false
set_option linter.all false
set_option maxRecDepth 100000
set_option maxHeartbeats 4000000
namespace MX
open PySem PySem.Spec PySem.W PySem.Calls PyProof.Rows L2
/-! ### for n, x in enumerate(xs, start=k) -/
def IteS (K : PySem.W.Frag) (a : Addr) (k : Int) : It :=
  ⟨(Ite K a).go, fun i H v H' => ∃ T x, v = .ref T ∧ H T = none ∧ H' = upd H T (.tup [.int (k + (i : Nat)), x]) ∧ ∀ xs, SqL K H a xs → xs[i]? = some x, (Ite K a).stop⟩
theorem turn_enumS {P : Program} {w : World} {K : PySem.W.Frag} {elts : List Expr} {kk : Nat} {tpos : Pos} (a e it : Addr) (k : Int) :
    Turn P w K (.Tuple elts kk tpos) (IteS K a k) [e, it] e (fun i h => (∃ old, IsEnum h e it (k + ((i : Nat) : Int)) old) ∧ h.IsListIter it a i ∧ e ≠ it ∧ a ≠ it) where
  mem := List.mem_cons_self
  obj := by
    rintro i h ⟨⟨old, q⟩, ⟨o, ho, hc, hd⟩, _⟩ b hb
    rcases List.mem_cons.mp hb with z | z
    · refine ⟨_, (by rw [z]; exact q), fun v q => ?_⟩
      cases q
    · exact ⟨o, (by rw [List.mem_singleton.mp z]; exact ho), fun v q => by rw [hd] at q; cases q⟩
  keep := by
    rintro i h h' ⟨⟨old, q⟩, hi, n⟩ kp
    exact ⟨⟨old, kp e (by simp) _ q⟩, hi.at (fun o q => kp it (by simp) o q), n⟩
  self := fun A i s Q E st q => let ⟨⟨_, z⟩, _⟩ := st; wpAny_pyIter_enum z q
  done := by
    intro X e1 e2 e3 calm i pins s σ H E I hf st hg
    subst e1 e2 e3
    obtain ⟨⟨old, he⟩, hit, hne, hai⟩ := st
    obtain ⟨xs, hq, hx⟩ := hg
    obtain ⟨its, rv, p, hz⟩ := I.list hq
    have hl := Vals.length rv
    obtain ⟨f0, f1, f2, f3, f4, f5⟩ := hf it (by simp)
    have D := Draws.list (prog := X.prog) (w := X.w) (A := X.A.in1) (show X.A.in1.handled = none from I.ok.hd calm) it a hai its.toArray
    have hT : s.TypeIs (.ref e) "enumerate" := ⟨_, he, rfl⟩
    unfold pyNext
    refine wpAny_bind (wpAny_attempt (wpAny_callSpecial?_slot (name := Str.ofString "__next__") hT F.slot_enumerate_next (wpAny_call_entry F.slot_enumerate_next hT F.entry_enumerate_next ?_ (F.args_enumerate_next_1 _))))
    show wpAny _ _ (field (Value.ref e) 2 >>= _) _ _ _
    refine wpAny_bind (wpAny_field he rfl (x := .ref it) rfl (wpAny_bind (wpAny_nextOf_list_end (show X.A.in1.handled = none from I.ok.hd calm) hit p.isList (Array.getElem?_eq_none (by simp; omega)) ?_)))
    rintro h' x he' ⟨o, ho, hc⟩
    refine wpAny_bind (wpAny_isInstance (T := "StopIteration") (b := true) ⟨o, ho, hc⟩ isSubtype_stop (wpAny_pure ⟨rfl, ?_⟩))
    exact I.turned (t' := s.toks) (fun b o hb q => he' b o hb q) f0 f1 f3 f4 f5
  item := by
    intro X e1 e2 e3 calm i pins s σ H E I hf st hg
    subst e1 e2 e3
    obtain ⟨⟨old, he⟩, hit, hne, hai⟩ := st
    obtain ⟨xs, x, hq, hx⟩ := hg
    obtain ⟨its, rv, p, hz⟩ := I.list hq
    obtain ⟨u, hu, ru⟩ := Vals.get rv hx
    have le : e < s.heap.objs.size := Heap.lt_size he
    have li : it < s.heap.objs.size := by
      obtain ⟨_, q, _⟩ := hit
      exact Heap.lt_size q
    have D := Draws.list (prog := X.prog) (w := X.w) (A := X.A.in1) (show X.A.in1.handled = none from I.ok.hd calm) it a hai its.toArray
    have nel : e ∉ [it, a] := fun hm => by
      rcases List.mem_cons.mp hm with z | z
      · exact hne z
      · have z := List.mem_singleton.mp z
        obtain ⟨o, ho, hc, _⟩ := p.isList
        rw [← z] at ho
        have q := he.symm.trans ho
        have q2 := Option.some.inj q
        rw [← q2] at hc
        have hc2 : Value.type "enumerate" = Value.type "list" := hc
        exact absurd hc2 (by decide)
    have hii : i < its.toArray.size := by
      have q := (List.getElem?_eq_some_iff.mp hu).1
      simpa using q
    refine wpAny_pyNext_enum_itemC D he ⟨hit, p.isList⟩ hii hne nel ?_
    intro x' h' tk hP ho hs' hT hsz hk
    have eu : x' = u := by
      have q : its.toArray[i]? = some u := by simpa using hu
      exact Option.some.inj (hP.symm.trans q)
    subst eu
    refine ⟨_, rfl, wpAny_letOwnedTupleGo_enum (s := { s with heap := h', toks := tk + 1 }) ho ?_⟩
    intro h2 he2 sb
    have hT2 : h2.get? s.heap.objs.size = some { cls := .type "tuple", data := .seq #[.int (k + ((i : Nat) : Int)) tk, x'] } := (sb.2 _ (Nat.ne_of_gt le)).trans hT
    have new : ObjOk X.prog X.w (upd H s.heap.objs.size (.tup [.int (k + (i : Nat)), x])) h2 s.heap.objs.size (.tup [.int (k + (i : Nat)), x]) :=
      ⟨(by show 2 ≤ sizeLine; decide), [.int (k + ((i : Nat) : Int)) tk, x'], .cons ⟨tk, rfl⟩ (.cons ru .nil), ⟨_, hT2, rfl, _, rfl⟩⟩
    have J : Inv X pins σ (upd H s.heap.objs.size (.tup [.int (k + (i : Nat)), x])) { s with heap := h2, toks := tk + 1 } :=
      I.turnedNew (ch := [e, it]) (fun b ob hb q => (sb.2 b (fun z => hb (by simp [z]))).trans (hk b ob (fun z => hb (by simp [z])) (fun z => hb (by simp [z])) q)) hf (Nat.le_refl _) new
    refine ⟨.ref s.heap.objs.size, _, J, rfl, ⟨_, x, rfl, I.hok.fresh (Nat.le_refl _), rfl, fun ys hy => by rw [I.list_inj hy hq]; exact hx⟩, ⟨⟨x', ?_⟩, hs'.1.at fun o q => (sb.2 it (Ne.symm hne)).trans q, hne, hai⟩, ?_⟩
    · have e1 : k + ((i + 1 : Nat) : Int) = k + (i : Int) + 1 := by omega
      rw [e1]
      exact he2
    · intro b hb
      have hb' : b < s.heap.objs.size := by
        rcases List.mem_cons.mp hb with z | z
        · rw [z]
          exact le
        · rw [List.mem_singleton.mp z]
          exact li
      rw [upd_ne (Nat.ne_of_lt hb')]
      exact (hf b hb).1
section
variable {M : Model} {A : Around} {E : Value → Shared → Prop} {s : Shared} {env : Env}
theorem cw_tyK {pos : Pos} {T : String} {e : Expr} {rest : List Expr} {kws : List Keyword} {Q : Value → Shared → Prop}
    (h : wpAny M A (spliced (backTo pos (starEach (e :: rest) env))) (fun vs s1 => wpAny M A (evalAll ((backToKw pos (keywordEach kws env)).map (·.2)))
      (fun ks s2 => wpAny M A (call (.type T) vs (((backToKw pos (keywordEach kws env)).filterMap (·.1)).zip ks)) Q E s2) E s1) E s)
    (he : backTo pos (starEach (e :: rest) env) = (false, eval e env) :: backTo pos (starEach rest env)) (hpl : (backTo pos (starEach (e :: rest) env)).any (·.1) = false)
    (hall : (backToKw pos (keywordEach kws env)).all (·.1.isSome) = true) (hkw : (backToKw pos (keywordEach kws env)).any (·.1.isNone) = false) :
    wpAny M A (callWith pos (.type T) [] (backTo pos (starEach (e :: rest) env)) (backToKw pos (keywordEach kws env))) Q E s := by
  have g : wpAny M A (evalArgs (.type T) true (backTo pos (starEach (e :: rest) env)) (backToKw pos (keywordEach kws env))) (fun a s1 => wpAny M A (call (.type T) a.pos a.kw) Q E s1) E s := by
    rw [he] at h ⊢
    exact evalArgs_kwB hall h
  unfold callWith
  refine wpAny_bind (wpAny_holding (thn g ?_))
  intro a s1 h1
  refine wpAny_bind (wpAny_standAt ?_)
  simp only [hpl, hkw, Bool.or_false]
  refine wpAny_bind (wpAny_pure (wpAny_bind (thn h1 ?_)))
  intro r s2 hr
  exact wpAny_bind (wpAny_holding (wpAny_point (wpAny_pure hr)))
end
def iEnumS (K : PySem.W.Frag) (ta tk : TA) : TI := fun σ H R => ta σ H fun vs H1 => tk σ H1 fun zs H2 => ∃ a xs k, vs = [.ref a] ∧ zs = [.int k] ∧ -(2 ^ 63) ≤ k ∧ k < 2 ^ 63 ∧ SqL K H2 a xs ∧ R (IteS K a k) H2
theorem pi_enumS {X : Cx} {e : Expr} {kws : List Keyword} {ta tk : TA} {p pos tpos : Pos} {elts : List Expr} {kk : Nat} (hg : Gl X "enumerate") (hm : X.mg "enumerate" = none) (ha : PA X [e] ta) (hk : PK X kws tk)
    (he : backTo pos (starEach [e] X.env) = (false, eval e X.env) :: backTo pos (starEach [] X.env) := by rfl) (hpl : (backTo pos (starEach [e] X.env)).any (·.1) = false := by rfl)
    (hall : (backToKw pos (keywordEach kws X.env)).all (·.1.isSome) = true := by rfl) (hnone : (backToKw pos (keywordEach kws X.env)).any (·.1.isNone) = false := by rfl) (hks : (backToKw pos (keywordEach kws X.env)).filterMap (·.1) = (["start"] : List Str) := by rfl) :
    PI X (.Tuple elts kk tpos) (.Call (.Name "enumerate" p) [e] kws pos) (iEnumS X.K ta tk) := by
  constructor
  intro pins s σ H R I h
  refine wpAny_Call_Name_kw (ld_blt I hg hm PyProof.Rows.boot_enumerate ?_)
  refine cw_tyK (thn (ha.run pos pins s σ H _ I h) ?_) he hpl hall hnone
  rintro us s1 ⟨vs, H1, I1, r1, q1⟩
  refine thn (hk.run pos pins s1 σ H1 _ I1 q1) ?_
  rintro ws s2 ⟨zs, H2, I2, r2, a, xs, k, rfl, rfl, k0, k1, hq, q⟩
  rw [hks]
  cases r1 with
  | cons ra rn =>
    cases rn
    cases ra
    cases r2 with
    | cons rk rn =>
      cases rn
      obtain ⟨t, rfl⟩ := rk
      obtain ⟨its, rv, pl, hz⟩ := I2.list hq
      have la : a < s2.heap.objs.size := by
        obtain ⟨o, ho, _⟩ := pl.isList
        exact Heap.lt_size ho
      refine enum_begins_start (begins_list a its.toArray) pl.isList k0 k1 ?_
      intro h' hen hit hsz hkp
      refine wpAny_pyIter_enum hen ?_
      have I3 : Inv X pins σ H2 { s2 with heap := h' } := I2.kept (t' := s2.toks) hkp
      have ek : k + ((0 : Nat) : Int) = k := by omega
      refine ⟨s2.heap.objs.size + 1, [s2.heap.objs.size + 1, s2.heap.objs.size], _, _, H2, rfl, I3, turn_enumS a (s2.heap.objs.size + 1) s2.heap.objs.size k,
        ⟨⟨.none, by rw [ek]; exact hen⟩, ⟨_, hit, rfl, rfl⟩, Nat.succ_ne_self _, Nat.ne_of_lt la⟩, ?_, q⟩
      intro b hb
      have hle : s2.heap.objs.size ≤ b := by
        rcases List.mem_cons.mp hb with z | z
        · rw [z]
          exact Nat.le_succ _
        · rw [List.mem_singleton.mp z]
          exact Nat.le_refl _
      exact I2.fpOk hle (I2.hok.fresh hle)
theorem walk_enumS {K : PySem.W.Frag} {a : Addr} {xs : List V} {k : Int} : Walk (IteS K a k) xs.length (fun H => SqL K H a xs) (YPair (fun i => some (.int (k + (i : Nat)))) (fun i => xs[i]?)) where
  goes := fun i H hi hs => ⟨xs, xs[i], hs, List.getElem?_eq_getElem hi⟩
  stops := fun H hs => ⟨xs, hs, Nat.le_refl _⟩
  yields := fun i H x H' hi hs y => let ⟨T, x', e1, e2, e3, e4⟩ := y; ⟨T, _, x', e1, e2, e3, rfl, e4 xs hs⟩
end MX

set_option Elab.async false
set_option linter.all false
set_option maxRecDepth 100000
set_option maxHeartbeats 4000000
namespace MX
open PySem PySem.Spec PySem.W PySem.Calls PyProof.Rows L2
/-! ### what the small functions of halls tell -/
def letters : Str := "abcdefghijklmnopqrstuvwxyz"
def nameB (x : Str) : Bool := decide (1 ≤ x.length) && (decide (x.length ≤ 8) && x.cps.toList.all fun c => decide (c ∈ letters.cps.toList))
def amongB (xs ps : List Str) : Bool := decide xs.Nodup && xs.all fun x => decide (x ∈ ps)
def headIs (ws : List Str) (x : Str) : Bool := decide (ws[0]? = some x)
def peopleB (ws : List Str) : Bool := headIs ws "people" && (decide (1 ≤ (ws.drop 1).length) && (decide ((ws.drop 1).length ≤ 9) && (decide (ws.drop 1).Nodup && (ws.drop 1).all nameB)))
def metB (ws ps : List Str) : Bool := headIs ws "met" && (decide (2 ≤ (ws.drop 1).length) && amongB (ws.drop 1) ps)
def keyT (ws : List Str) : List Key := ws.map Sum.inr
def openB (ws ps : List Str) (T : List (List Key × V)) : Bool := headIs ws "open" && (decide ((ws.drop 1).length = 2) && (amongB (ws.drop 1) ps && (valV T (keyT (ws.drop 1))).isNone))
theorem cut1 (ws : List Str) : cutV (ws.map V.str) (some 1) none = (ws.drop 1).map V.str := by
  cases ws with
  | nil => rfl
  | cons w ws =>
    unfold cutV
    have e1 : HT.sIx ((w :: ws).map V.str).length 0 (some 1) = 1 := by
      unfold HT.sIx
      simp
    have e2 : HT.sIx ((w :: ws).map V.str).length ((w :: ws).map V.str).length none = ((w :: ws).map V.str).length := rfl
    rw [e1, e2]
    simp only [List.map_cons, List.drop_succ_cons, List.drop_zero, List.length_cons, List.length_map, Nat.add_sub_cancel]
    rw [← List.length_map (f := V.str), List.take_length]
/-- one turn of a comprehension whose element gives f x and leaves what stood -/
theorem lcStep {α : Type} {H1 H' H2 : Hp} {D : Addr} {xs : List α} {k : Nat} {x : α} {f : α → V} (eD : H' D = some (.lst ((xs.take k).map f))) (hx : xs[k]? = some x) (s : Same H1 H') (nD : H1 D = none) (s2 : Same H' H2) (few : xs.length ≤ 10000) :
    ∃ acc, H2 D = some (.lst acc) ∧ acc.length < sizeLine ∧ ((upd H2 D (.lst (acc ++ [f x]))) D = some (.lst ((xs.take (k + 1)).map f)) ∧ Same H1 (upd H2 D (.lst (acc ++ [f x])))) := by
  refine ⟨_, s2 _ _ eD, ?_, ?_, fun b o e => ?_⟩
  · rw [List.length_map, List.length_take, sizeLine_eq]
    omega
  · rw [upd_same, List.take_succ, hx, List.map_append]
    rfl
  · rw [upd_ne (ne_of_none e nD)]
    exact s2 _ _ (s _ _ e)
theorem all_bl (bs : List Bool) : (bs.map V.bl) = bs.map V.bl := rfl
theorem inV_str (x : Str) (ps : List Str) : inV (.str x) (ps.map V.str) = decide (x ∈ ps) := by
  unfold inV
  induction ps with
  | nil => simp
  | cons p ps ih =>
    rw [List.map_cons, List.any_cons, ih]
    show ((p == x) || decide (x ∈ ps)) = decide (x ∈ p :: ps)
    by_cases h : p = x
    · subst h
      simp
    · have h' : (p == x) = false := by simpa using h
      rw [h']
      have h2 : (x ∈ p :: ps) ↔ x ∈ ps := by
        rw [List.mem_cons]
        exact ⟨fun q => q.elim (fun q => absurd q.symm h) id, Or.inr⟩
      simp [h2]
theorem flat_strs (ps : List Str) : (ps.map V.str).all flatV = true := by
  rw [List.all_eq_true]
  intro x hx
  obtain ⟨p, _, rfl⟩ := List.mem_map.mp hx
  rfl
theorem dis_len {xs : List Str} : decide (V.int ((dis xs xs.length : Nat) : Int) = V.int ((xs.length : Nat) : Int)) = decide xs.Nodup := by
  have h := dis_nodup (xs := xs) (Nat.le_refl xs.length)
  rw [List.take_length] at h
  by_cases q : xs.Nodup
  · rw [decide_eq_true q, h.mpr q]
    simp
  · rw [decide_eq_false q]
    refine decide_eq_false fun z => q (h.mp ?_)
    have z2 := V.int.inj z
    omega
/-! ### their promises -/
def spIsName : Sp := fun vs H Q _ => ∃ x : Str, vs = [.str x] ∧ x.length ≤ 10000 ∧ ∀ H', Same H H' → Q (.bl (nameB x)) H'
def spUnlike (K : PySem.W.Frag) : Sp := fun vs H Q _ => ∃ (l : Addr) (xs : List Str), vs = [.ref l] ∧ SqL K H l (xs.map V.str) ∧ xs.length ≤ 1000 ∧ Q (.bl (decide xs.Nodup)) H
def spAmong (K : PySem.W.Frag) : Sp := fun vs H Q _ => ∃ (l p : Addr) (xs ps : List Str), vs = [.ref l, .ref p] ∧ SqL K H l (xs.map V.str) ∧ xs.length ≤ 1000 ∧ SqT K H p (ps.map V.str) ∧ ∀ H', Same H H' → Q (.bl (amongB xs ps)) H'
def spPeople (K : PySem.W.Frag) : Sp := fun vs H Q _ => ∃ (l : Addr) (ws : List Str), vs = [.ref l] ∧ SqL K H l (ws.map V.str) ∧ 0 < ws.length ∧ ws.length ≤ 1000 ∧ (∀ w ∈ ws, w.length ≤ 10000) ∧ ∀ H', Same H H' → Q (.bl (peopleB ws)) H'
def spMet (K : PySem.W.Frag) : Sp := fun vs H Q _ => ∃ (l p : Addr) (ws ps : List Str), vs = [.ref l, .ref p] ∧ SqL K H l (ws.map V.str) ∧ 0 < ws.length ∧ ws.length ≤ 1000 ∧ SqT K H p (ps.map V.str) ∧ ∀ H', Same H H' → Q (.bl (metB ws ps)) H'
def spOpen (K : PySem.W.Frag) : Sp := fun vs H Q _ => ∃ (l p d : Addr) (ws ps : List Str) (T : List (List Key × V)), vs = [.ref l, .ref p, .ref d] ∧ SqL K H l (ws.map V.str) ∧ 0 < ws.length ∧ ws.length ≤ 1000 ∧ SqT K H p (ps.map V.str) ∧ H d = some (.dT T) ∧
  ∀ H', Same H H' → Q (.bl (openB ws ps T)) H'
end MX

set_option Elab.async false
set_option linter.all false
set_option maxRecDepth 100000
set_option maxHeartbeats 4000000
namespace MX
open PySem PySem.Spec PySem.W PySem.Calls PyProof.Rows L2
/-! ### heaps alike but at some places -/
def But (S : List Addr) (H H' : Hp) : Prop := ∀ b o, H b = some o → b ∉ S → H' b = some o
theorem But.refl {S : List Addr} {H : Hp} : But S H H := fun _ _ e _ => e
theorem But.trans {S : List Addr} {H H1 H2 : Hp} (a : But S H H1) (b : But S H1 H2) : But S H H2 := fun x o e n => b x o (a x o e n) n
theorem But.of {S : List Addr} {H H' : Hp} (s : Same H H') : But S H H' := fun x o e _ => s x o e
theorem But.up {S : List Addr} {H H' : Hp} {a : Addr} {o : HO} (s : But S H H') (h : a ∈ S) : But S H (upd H' a o) := fun b o' e n => by
  have z : b ≠ a := fun z => n (by rw [z]; exact h)
  rw [upd_ne z]
  exact s b o' e n
theorem But.new {S : List Addr} {H H' : Hp} {a : Addr} {o : HO} (s : But S H H') (h : H' a = none) : But S H (upd H' a o) := fun b o' e n => by
  have z := s b o' e n
  rw [upd_ne (ne_of_none z h)]
  exact z
theorem But.mono {S S' : List Addr} {H H' : Hp} (s : But S H H') (h : ∀ a ∈ S, a ∈ S') : But S' H H' := fun b o e n => s b o e fun z => n (h b z)
theorem But.seqL {S : List Addr} {H H' : Hp} {K : PySem.W.Frag} {l : Addr} {xs : List V} (s : But S H H') (h : SqL K H l xs) (n : ∀ a ∈ S, ¬ Rd H a (.lst xs)) : SqL K H' l xs := by
  rcases h with h | h
  · have nl : l ∉ S := fun z => n l z h
    rcases h with h | ⟨o, h⟩
    · exact .inl (.inl (s _ _ h nl))
    · exact .inl (.inr ⟨o, s _ _ h nl⟩)
  · exact .inr h
theorem But.seqT {S : List Addr} {H H' : Hp} {K : PySem.W.Frag} {l : Addr} {xs : List V} (s : But S H H') (h : SqT K H l xs) (n : ∀ a ∈ S, ¬ Rd H a (.tup xs)) : SqT K H' l xs := by
  rcases h with h | h
  · have nl : l ∉ S := fun z => n l z h
    rcases h with h | ⟨o, h⟩
    · exact .inl (.inl (s _ _ h nl))
    · exact .inl (.inr ⟨o, s _ _ h nl⟩)
  · exact .inr h
theorem nrd_t {H : Hp} {d : Addr} {T : List (List Key × V)} {o : HO} (e : H d = some (.dT T)) (n : ∀ T, o ≠ .dT T) (m : ∀ ob x, o ≠ .frz ob x) : ∀ a ∈ [d], ¬ Rd H a o := by
  intro a ha z
  rw [List.mem_singleton.mp ha] at z
  rcases z with z | ⟨ob, z⟩
  · rw [e] at z
    exact n T (Option.some.inj z).symm
  · rw [e] at z
    cases z
/-! ### what is told -/
abbrev Tm := List (List Key × V)
def tell1 (x y : Str) (w : Str) (T : Tm) : Tm := if x = y then T else putK T [Sum.inr x, Sum.inr y] (.str w)
def tellR (x : Str) (w : Str) (ys : List Str) (T : Tm) : Tm := ys.foldl (fun T y => tell1 x y w T) T
def tellA (ys xs : List Str) (w : Str) (T : Tm) : Tm := xs.foldl (fun T x => tellR x w ys T) T
theorem put_len {T : Tm} {k : List Key} {v : V} : (putK T k v).length ≤ T.length + 1 := by
  unfold putK
  split
  · rw [List.length_map]; omega
  · rw [List.length_append]; simp
theorem tell1_len {x y w : Str} {T : Tm} : (tell1 x y w T).length ≤ T.length + 1 := by
  unfold tell1
  split
  · omega
  · exact put_len
theorem tellR_len {x w : Str} : ∀ (ys : List Str) (T : Tm), (tellR x w ys T).length ≤ T.length + ys.length
  | [], T => Nat.le_refl _
  | y :: ys, T => by
    have h := tellR_len (x := x) (w := w) ys (tell1 x y w T)
    have h2 := tell1_len (x := x) (y := y) (w := w) (T := T)
    show (tellR x w ys (tell1 x y w T)).length ≤ T.length + (ys.length + 1)
    omega
theorem tellA_len {w : Str} {ys : List Str} : ∀ (xs : List Str) (T : Tm), (tellA ys xs w T).length ≤ T.length + xs.length * ys.length
  | [], T => by simp [tellA]
  | x :: xs, T => by
    have h := tellA_len (w := w) (ys := ys) xs (tellR x w ys T)
    have h2 := tellR_len (x := x) (w := w) ys T
    show (tellA ys xs w (tellR x w ys T)).length ≤ T.length + (xs.length + 1) * ys.length
    rw [Nat.succ_mul]
    omega
theorem tellA_snoc {w : Str} {ys xs : List Str} {x : Str} {T : Tm} : tellA ys (xs ++ [x]) w T = tellR x w ys (tellA ys xs w T) := by
  unfold tellA
  rw [List.foldl_append]
  rfl
theorem tellR_snoc {w x y : Str} {ys : List Str} {T : Tm} : tellR x w (ys ++ [y]) T = tell1 x y w (tellR x w ys T) := by
  unfold tellR
  rw [List.foldl_append]
  rfl
theorem take_snocE {α : Type} {xs : List α} {i : Nat} {x : α} (h : xs[i]? = some x) : xs.take (i + 1) = xs.take i ++ [x] := by
  rw [List.take_succ, h]
  rfl
/-- self._told is d -/
structure ToldAt (K : PySem.W.Frag) (H : Hp) (p C d : Addr) (T : Tm) : Prop where
  ex : ∃ dx fs, H p = some (.ins C dx fs) ∧ fs.lookup ("_told" : Str) = some (V.ref d)
  t : H d = some (.dT T)
theorem ToldAt.ne {K : PySem.W.Frag} {H : Hp} {p C d : Addr} {T : Tm} (h : ToldAt K H p C d T) : p ≠ d := fun z => by
  obtain ⟨dx, fs, e, _⟩ := h.ex
  have e2 := h.t
  rw [← z, e] at e2
  cases e2
theorem ToldAt.on {K : PySem.W.Frag} {H H' : Hp} {p C d : Addr} {T T' : Tm} (h : ToldAt K H p C d T) (s : But [d] H H') (e : H' d = some (.dT T')) : ToldAt K H' p C d T' := by
  obtain ⟨dx, fs, e1, e2⟩ := h.ex
  exact ⟨⟨dx, fs, s _ _ e1 (by simpa using h.ne), e2⟩, e⟩
def spTell (K : PySem.W.Frag) (C : Addr) : Sp := fun vs H Q _ => ∃ (p l d : Addr) (ns : List Str) (w : Str) (T : Tm), vs = [.ref p, .ref l, .str w] ∧ ToldAt K H p C d T ∧ SqL K H l (ns.map V.str) ∧ T.length + ns.length * ns.length ≤ 10000000 ∧
  ∀ H', But [d] H H' → H' d = some (.dT (tellA ns ns w T)) → Q .non H'
/-! ### what a line behind the first one does -/
abbrev Ops := List (List Str)
def stepT (ps : List Str) (n : Nat) (ws : List Str) (ot : Ops × Tm) : Option (Ops × Tm) :=
  if (decide (n ≤ 21) && (decide (ot.1.length = 0) && metB ws ps)) = true then some (ot.1, tellA (ws.drop 1) (ws.drop 1) "met" ot.2)
  else if (decide (ot.1.length < 4) && openB ws ps ot.2) = true then some (ot.1 ++ [ws.drop 1], tellA (ws.drop 1) (ws.drop 1) "open" ot.2)
  else none
def runT (ps : List Str) : Nat → List (List Str) → Ops × Tm → Nat ⊕ (Ops × Tm)
  | _, [], ot => .inr ot
  | n, ws :: r, ot => match stepT ps n ws ot with
    | none => .inl n
    | some ot' => runT ps (n + 1) r ot'
def hallLines (x : Str) : List (List Str) := (Txt.split x "\n").map fun l => Txt.split l " "
def parseH (x : Str) : Nat ⊕ (Ops × Tm) :=
  match hallLines x with
  | [] => .inl 1
  | ws :: r => if peopleB ws = true then runT (ws.drop 1) 2 r ([], []) else .inl 1
/-- a tuple of tuples of texts -/
def OpsAt (K : PySem.W.Frag) (H : Hp) (o : Addr) (ops : Ops) : Prop := ∃ qs : List Addr, H o = some (.tup (qs.map V.ref)) ∧ qs.length = ops.length ∧ ∀ (i : Nat) (q : Addr) (op : List Str), qs[i]? = some q → ops[i]? = some op → H q = some (.tup (op.map V.str))
theorem dpS (K : PySem.W.Frag) (H : Hp) : ∀ xs : List Str, DpAll K H (xs.map V.str) (xs.map PyData.str)
  | [] => .nil
  | x :: xs => .cons (.str x) (dpS K H xs)
theorem dpOps {K : PySem.W.Frag} {H : Hp} : ∀ (qs : List Addr) (ops : Ops), qs.length = ops.length → (∀ (i : Nat) (q : Addr) (op : List Str), qs[i]? = some q → ops[i]? = some op → H q = some (.tup (op.map V.str))) →
    DpAll K H (qs.map V.ref) (ops.map fun op => .tuple (op.map PyData.str))
  | [], [], _, _ => .nil
  | [], _ :: _, l, _ => by cases l
  | _ :: _, [], l, _ => by cases l
  | q :: qs, op :: ops, l, f => .cons (.tup (SqT.of (f 0 q op rfl rfl)) (dpS K H op)) (dpOps qs ops (Nat.succ.inj l) fun i x y h1 h2 => f (i + 1) x y (by simpa using h1) (by simpa using h2))
theorem OpsAt.dp {K : PySem.W.Frag} {H : Hp} {o : Addr} {ops : Ops} (h : OpsAt K H o ops) : Dp K H (.ref o) (.tuple (ops.map fun op => .tuple (op.map PyData.str))) := by
  obtain ⟨qs, e, l, f⟩ := h
  exact .tup (SqT.of e) (dpOps qs ops l f)
theorem canS : ∀ xs : List Str, (∀ x ∈ xs, PyData.strOk x = true) → PyData.canLayAll0 (xs.map PyData.str) = true
  | [], _ => rfl
  | x :: xs, h => by
    have z := canS xs fun y hy => h y (List.mem_cons_of_mem _ hy)
    simp [PyData.canLayAll0, PyData.canLay0, h x List.mem_cons_self, z]
theorem depS : ∀ xs : List Str, PyData.depthAll (xs.map PyData.str) ≤ 1
  | [] => by simp [PyData.depthAll]
  | x :: xs => by
    have z := depS xs
    simp only [List.map_cons, PyData.depthAll, PyData.depth]
    omega
theorem canOps : ∀ ops : Ops, (∀ op ∈ ops, ∀ x ∈ op, PyData.strOk x = true) → PyData.canLayAll0 (ops.map fun op => .tuple (op.map PyData.str)) = true ∧ PyData.depthAll (ops.map fun op => .tuple (op.map PyData.str)) ≤ 5
  | [], _ => ⟨rfl, by simp [PyData.depthAll]⟩
  | op :: ops, h => by
    obtain ⟨z1, z2⟩ := canOps ops fun y hy => h y (List.mem_cons_of_mem _ hy)
    have z3 := canS op (h op List.mem_cons_self)
    have z4 := depS op
    refine ⟨by simp [PyData.canLayAll0, PyData.canLay0, z1, z3], ?_⟩
    simp only [List.map_cons, PyData.depthAll, PyData.depth]
    omega
theorem shOps {ops : Ops} (h : ∀ op ∈ ops, ∀ x ∈ op, PyData.strOk x = true) : SeqAt.shaped (.tuple (ops.map fun op => .tuple (op.map PyData.str))) = true := by
  obtain ⟨z1, z2⟩ := canOps ops h
  unfold SeqAt.shaped
  rw [Bool.and_eq_true]
  refine ⟨by simpa [PyData.canLay0] using z1, decide_eq_true ?_⟩
  simp only [PyData.depth]
  omega
theorem nameOk {x : Str} (h : nameB x = true) : PyData.strOk x = true := by
  unfold nameB at h
  simp only [Bool.and_eq_true] at h
  obtain ⟨_, _, h3⟩ := h
  unfold PyData.strOk
  rw [← Array.all_toList, List.all_eq_true]
  intro c hc
  have z := of_decide_eq_true (List.all_eq_true.mp h3 c hc)
  have q : ∀ c ∈ letters.cps.toList, decide (c < 1114112) = true := by decide +kernel
  exact q c z
theorem eqv_nil {ds : List PyData} : PyData.eqv (.tuple ds) (.tuple []) = decide (ds.length = 0) := by
  cases ds with
  | nil => rfl
  | cons d ds => rfl
/-! ### a hall as it stands -/
def fsH (x : Str) (pp o d : Addr) : List (Str × V) := [("text", .str x), ("people", .ref pp), ("opens", .ref o), ("_told", .ref d)]
structure HallAt (K : PySem.W.Frag) (H : Hp) (C p : Addr) (x : Str) (pp o d : Addr) (ps : List Str) (ops : Ops) (T : Tm) : Prop where
  ex : ∃ dx, H p = some (.ins C dx (fsH x pp o d))
  pe : H pp = some (.tup (ps.map V.str))
  op : OpsAt K H o ops
  t : H d = some (.dT T)
  ok : ∀ op ∈ ops, ∀ x ∈ op, PyData.strOk x = true
theorem HallAt.told {K : PySem.W.Frag} {H : Hp} {C p : Addr} {x : Str} {pp o d : Addr} {ps : List Str} {ops : Ops} {T : Tm} (h : HallAt K H C p x pp o d ps ops T) : ToldAt K H p C d T := by
  obtain ⟨dx, e⟩ := h.ex
  exact ⟨⟨dx, _, e, rfl⟩, h.t⟩
theorem OpsAt.but {K : PySem.W.Frag} {H H' : Hp} {S : List Addr} {o : Addr} {ops : Ops} (h : OpsAt K H o ops) (s : But S H H') (n : ∀ a ∈ S, ∀ xs, H a ≠ some (.tup xs)) : OpsAt K H' o ops := by
  obtain ⟨qs, e, l, f⟩ := h
  exact ⟨qs, s _ _ e fun z => n _ z _ e, l, fun i q op h1 h2 => s _ _ (f i q op h1 h2) fun z => n _ z _ (f i q op h1 h2)⟩
/-- only the dict of what is told changed -/
theorem HallAt.on {K : PySem.W.Frag} {H H' : Hp} {C p : Addr} {x : Str} {pp o d : Addr} {ps : List Str} {ops : Ops} {T T' : Tm} (h : HallAt K H C p x pp o d ps ops T) (s : But [d] H H') (e : H' d = some (.dT T')) : HallAt K H' C p x pp o d ps ops T' := by
  obtain ⟨dx, e1⟩ := h.ex
  have n : ∀ a ∈ [d], ∀ xs, H a ≠ some (.tup xs) := fun a ha xs z => by
    rw [List.mem_singleton.mp ha, h.t] at z
    cases z
  refine ⟨⟨dx, s _ _ e1 fun z => ?_⟩, s _ _ h.pe fun z => n _ z _ h.pe, h.op.but s n, e, h.ok⟩
  rw [List.mem_singleton.mp z, h.t] at e1
  cases e1
theorem HallAt.same {K : PySem.W.Frag} {H H' : Hp} {C p : Addr} {x : Str} {pp o d : Addr} {ps : List Str} {ops : Ops} {T : Tm} (h : HallAt K H C p x pp o d ps ops T) (s : Same H H') : HallAt K H' C p x pp o d ps ops T :=
  h.on (But.of s) (s _ _ h.t)
theorem HallAt.opened {K : PySem.W.Frag} {H H1 : Hp} {C p : Addr} {x : Str} {pp o d : Addr} {ps : List Str} {ops : Ops} {T : Tm} (h : HallAt K H C p x pp o d ps ops T) {o' : Addr} {ops' : Ops} (h' : OpsAt K H o' ops') (ok : ∀ op ∈ ops', ∀ x ∈ op, PyData.strOk x = true) {dx : Addr}
    (e : H1 = upd H p (.ins C dx (fsH x pp o' d))) : HallAt K H1 C p x pp o' d ps ops' T := by
  subst e
  obtain ⟨dx0, e0⟩ := h.ex
  have s : But [p] H (upd H p (.ins C dx (fsH x pp o' d))) := (But.refl (S := [p])).up (List.mem_singleton.mpr rfl)
  have n : ∀ a ∈ [p], ∀ xs, H a ≠ some (.tup xs) := fun a ha xs z => by
    rw [List.mem_singleton.mp ha, e0] at z
    cases z
  refine ⟨⟨dx, upd_same⟩, s _ _ h.pe fun z => n _ z _ h.pe, h'.but s n, s _ _ h.t fun z => ?_, ok⟩
  have z2 := h.t
  rw [List.mem_singleton.mp z, e0] at z2
  cases z2
def spTakes (K : PySem.W.Frag) (C : Addr) : Sp := fun vs H Q _ => ∃ (p l pp o d : Addr) (n : Nat) (x : Str) (ws ps : List Str) (ops : Ops) (T : Tm), vs = [.ref p, .int (n : Int), .ref l] ∧ HallAt K H C p x pp o d ps ops T ∧ SqL K H l (ws.map V.str) ∧ 0 < ws.length ∧ ws.length ≤ 100 ∧
  (∀ y ∈ ps, PyData.strOk y = true) ∧ ops.length ≤ 1000 ∧ T.length ≤ 9000000 ∧
  (stepT ps n ws (ops, T) = none → ∀ H', Same H H' → Q (.bl false) H') ∧
  (∀ ops' T', stepT ps n ws (ops, T) = some (ops', T') → ∀ H' o', But [p, d] H H' → HallAt K H' C p x pp o' d ps ops' T' → Q (.bl true) H')
theorem OpsAt.snoc {K : PySem.W.Frag} {H H' : Hp} {o o' q : Addr} {ops : Ops} {op : List Str} {ovs : List V} (h : OpsAt K H o ops) (s : Same H H') (ho : H o = some (.tup ovs)) (e : H' o' = some (.tup (ovs ++ [V.ref q]))) (eq : H' q = some (.tup (op.map V.str))) : OpsAt K H' o' (ops ++ [op]) := by
  obtain ⟨qs, e1, l, f⟩ := h
  rw [e1] at ho
  have z : ovs = qs.map V.ref := by
    have := Option.some.inj ho
    cases this
    rfl
  subst z
  refine ⟨qs ++ [q], ?_, by simp [l], fun i a b h1 h2 => ?_⟩
  · rw [e, List.map_append]
    rfl
  · by_cases hi : i < qs.length
    · rw [List.getElem?_append_left hi] at h1
      rw [List.getElem?_append_left (l ▸ hi)] at h2
      exact s _ _ (f i a b h1 h2)
    · rw [List.getElem?_append_right (by omega)] at h1
      rw [List.getElem?_append_right (by omega)] at h2
      have hq : i - qs.length = 0 := by
        cases k : i - qs.length with
        | zero => rfl
        | succ k' =>
          rw [k] at h1
          simp at h1
      rw [hq] at h1
      rw [← l, hq] at h2
      have ha : q = a := by simpa using h1
      have hb : op = b := by simpa using h2
      rw [← ha, ← hb]
      exact eq
theorem amongOk {xs ps : List Str} (h : amongB xs ps = true) (ok : ∀ y ∈ ps, PyData.strOk y = true) : ∀ x ∈ xs, PyData.strOk x = true := by
  unfold amongB at h
  rw [Bool.and_eq_true] at h
  intro x hx
  exact ok x (of_decide_eq_true (List.all_eq_true.mp h.2 x hx))
end MX

set_option Elab.async false
set_option linter.all false
set_option maxRecDepth 100000
set_option maxHeartbeats 4000000
namespace MX
open PySem PySem.Spec PySem.W PySem.Calls PyProof.Rows L2
/-- C(v) made, to be raised -/
theorem mkO_ok {K : PySem.W.Frag} {C fI : Addr} {H1 : Hp} {v : V} {Qx : XK} (T : ExcT K C fI) (h : ∀ dx, H1 dx = none → Qx (.ref C) (some dx) (upd H1 dx (.xd [(("value" : Str), v)]))) :
    ([v] : List V).length ≤ 1000 ∧ ∀ a, H1 a = none → spErr K (.ref a :: ([v] ++ [])) (upd H1 a (exo a C none))
      (fun u H2 => u = .non ∧ ∃ (d : Addr) (fs : List (Str × V)), H2 a = some (exo a C (some d)) ∧ H2 d = some (exd d fs) ∧ H1 d = none ∧ Qx (.ref C) (some d) (upd (del H2 a) d (.xd fs))) (fun _ _ _ => False) := by
  refine ⟨(show 1 ≤ 1000 by decide), fun a ha => ⟨a, C, fI, v, rfl, T, upd_same, fun dx hdx ne => ⟨rfl, dx, [(("value" : Str), v)], upd_same, ?_, ?_, ?_⟩⟩⟩
  · rw [upd_ne ne, upd_same]
  · rw [upd_ne ne] at hdx
    exact hdx
  · have h1 : H1 dx = none := by
      rw [upd_ne ne] at hdx
      exact hdx
    have z := h dx h1
    have e : upd (del (upd (upd (upd H1 a (exo a C none)) dx (exd dx [(("value" : Str), v)])) a (exo a C (some dx))) a) dx (.xd [(("value" : Str), v)]) = upd H1 dx (.xd [(("value" : Str), v)]) := by
      funext b
      by_cases hb : b = dx
      · rw [hb, upd_same, upd_same]
      · rw [upd_ne hb, upd_ne hb]
        by_cases hba : b = a
        · rw [hba, del_same, ha]
        · rw [del_ne hba, upd_ne hba, upd_ne hb, upd_ne hba]
    rw [e]
    exact z
theorem cut1G (xs : List V) : cutV xs (some 1) none = xs.drop 1 := by
  cases xs with
  | nil => rfl
  | cons w ws =>
    unfold cutV
    have e1 : HT.sIx (w :: ws).length 0 (some 1) = 1 := by
      unfold HT.sIx
      simp
    have e2 : HT.sIx (w :: ws).length (w :: ws).length none = (w :: ws).length := rfl
    rw [e1, e2]
    simp only [List.drop_succ_cons, List.drop_zero, List.length_cons, Nat.add_sub_cancel]
    rw [List.take_length]
/-- a list of lists of texts -/
def LinesAt (H : Hp) (L : Addr) (wss : List (List Str)) : Prop := ∃ qs : List Addr, H L = some (.lst (qs.map V.ref)) ∧ qs.length = wss.length ∧ ∀ (i : Nat) (q : Addr) (ws : List Str), qs[i]? = some q → wss[i]? = some ws → H q = some (.lst (ws.map V.str))
theorem LinesAt.but {H H' : Hp} {S : List Addr} {L : Addr} {wss : List (List Str)} (h : LinesAt H L wss) (s : But S H H') (n : ∀ a ∈ S, ∀ xs, H a ≠ some (.lst xs)) : LinesAt H' L wss := by
  obtain ⟨qs, e, l, f⟩ := h
  exact ⟨qs, s _ _ e fun z => n _ z _ e, l, fun i q ws h1 h2 => s _ _ (f i q ws h1 h2) fun z => n _ z _ (f i q ws h1 h2)⟩
theorem LinesAt.same {H H' : Hp} {L : Addr} {wss : List (List Str)} (h : LinesAt H L wss) (s : Same H H') : LinesAt H' L wss := h.but (S := []) (But.of s) fun _ z => by cases z
theorem LinesAt.nil {H : Hp} {L : Addr} (e : H L = some (.lst [])) : LinesAt H L [] := ⟨[], e, rfl, fun i q ws h1 _ => by simp at h1⟩
theorem LinesAt.apart {H : Hp} {L : Addr} {wss : List (List Str)} {qs : List Addr} (e1 : H L = some (.lst (qs.map V.ref))) {i : Nat} {a : Addr} {ws : List Str} (h1 : qs[i]? = some a) (e2 : H a = some (.lst (ws.map V.str))) : a ≠ L := fun z => by
  rw [z, e1] at e2
  have e3 : qs.map V.ref = ws.map V.str := by
    have := Option.some.inj e2
    injection this
  have e4 := congrArg (fun l => l[i]?) e3
  simp only [List.getElem?_map, h1] at e4
  cases q : ws[i]? with
  | none =>
    rw [q] at e4
    cases e4
  | some y =>
    rw [q] at e4
    cases e4
theorem LinesAt.snoc {H H' : Hp} {L q : Addr} {wss : List (List Str)} {ws : List Str} {qs : List Addr} (h : LinesAt H L wss) (e1 : H L = some (.lst (qs.map V.ref))) (s : But [L] H H') (e : H' L = some (.lst (qs.map V.ref ++ [V.ref q]))) (eq : H' q = some (.lst (ws.map V.str))) : LinesAt H' L (wss ++ [ws]) := by
  obtain ⟨qs', e1', l, f⟩ := h
  have z : qs' = qs := by
    rw [e1] at e1'
    have e3 : qs.map V.ref = qs'.map V.ref := by
      have := Option.some.inj e1'
      injection this
    have inj : ∀ (a b : List Addr), a.map V.ref = b.map V.ref → b = a := by
      intro a
      induction a with
      | nil => intro b hb; cases b with
        | nil => rfl
        | cons _ _ => cases hb
      | cons x r ih => intro b hb; cases b with
        | nil => cases hb
        | cons y r2 =>
          rw [List.map_cons, List.map_cons] at hb
          injection hb with h1 h2
          injection h1 with h1
          rw [ih r2 h2, h1]
    exact inj qs qs' e3
  subst z
  refine ⟨qs' ++ [q], ?_, by simp [l], fun i a b h1 h2 => ?_⟩
  · rw [e, List.map_append]
    rfl
  · by_cases hi : i < qs'.length
    · rw [List.getElem?_append_left hi] at h1
      rw [List.getElem?_append_left (l ▸ hi)] at h2
      have e2 := f i a b h1 h2
      exact s _ _ e2 (by simpa using LinesAt.apart (wss := wss) e1 h1 e2)
    · rw [List.getElem?_append_right (by omega)] at h1
      rw [List.getElem?_append_right (by omega)] at h2
      have hq : i - qs'.length = 0 := by
        cases k : i - qs'.length with
        | zero => rfl
        | succ k' =>
          rw [k] at h1
          simp at h1
      rw [hq] at h1
      rw [← l, hq] at h2
      have ha : q = a := by simpa using h1
      have hb : ws = b := by simpa using h2
      rw [← ha, ← hb]
      exact eq
structure TextOk (x : Str) : Prop where
  len : x.length ≤ 10000000
  few : (hallLines x).length ≤ 500
  one : 0 < (hallLines x).length
  sh : ∀ l ∈ Txt.split x "\n", l.length ≤ 100000
  ws : ∀ ws ∈ hallLines x, 0 < ws.length ∧ ws.length ≤ 100 ∧ ∀ w ∈ ws, w.length ≤ 10000
def peopleOf (x : Str) : List Str := ((hallLines x).headD []).drop 1
def spInit (K : PySem.W.Frag) (C cB : Addr) : Sp := fun vs H Q E => ∃ (p dx : Addr) (vt : V), vs = [.ref p, vt] ∧ H p = some (.ins C dx []) ∧
  ((∃ t, TyX K H vt t ∧ PySem.W.kitOne K t (.type "str") = some false ∧ ∀ dd, H dd = none → E (.ref cB) (some dd) (upd H dd (.xd [(("value" : Str), .int 0)]))) ∨
  (∃ x : Str, vt = .str x ∧ TextOk x ∧
    (∀ n : Nat, parseH x = .inl n → ∀ H' dd, But [p] H H' → H' dd = none → E (.ref cB) (some dd) (upd H' dd (.xd [(("value" : Str), .int (n : Int))]))) ∧
    (∀ ops T, parseH x = .inr (ops, T) → ∀ H' pp o d, But [p] H H' → HallAt K H' C p x pp o d (peopleOf x) ops T → Q .non H')))
theorem step_len {ps ws : List Str} {n : Nat} {ops ops' : Ops} {T T' : Tm} (h : MX.stepT ps n ws (ops, T) = some (ops', T')) (hl : ws.length ≤ 100) : ops'.length ≤ ops.length + 1 ∧ T'.length ≤ T.length + 10000 := by
  have z : (ws.drop 1).length ≤ 100 := by rw [List.length_drop]; omega
  have z2 := Nat.mul_le_mul z z
  unfold MX.stepT at h
  split at h
  · cases h
    have := tellA_len (w := "met") (ys := ws.drop 1) (ws.drop 1) T
    dsimp only
    exact ⟨by omega, by omega⟩
  · split at h
    · cases h
      have := tellA_len (w := "open") (ys := ws.drop 1) (ws.drop 1) T
      dsimp only
      exact ⟨by simp, by omega⟩
    · cases h
end MX

set_option Elab.async false
set_option linter.all false
set_option maxRecDepth 100000
set_option maxHeartbeats 4000000
namespace MX
open PySem PySem.Spec PySem.W PySem.Calls PyProof.Rows L2
/-! ### an exception that is kept behind its except suite -/
def exk (a : Addr) (cls : Value) (d : Option Addr) : HO := .ext fun h => ∃ (oe : Obj) (vs : Array Value), h.get? a = some oe ∧ Zc cls d oe ∧ oe.data = .fields vs
theorem exk_at {P : Program} {w : World} {H : Hp} {h : Heap} {a : Addr} {cls : Value} {d : Option Addr} (k : HOk P w H h) (e : H a = some (exk a cls d)) : ∃ (oe : Obj) (vs : Array Value), h.get? a = some oe ∧ Zc cls d oe ∧ oe.data = .fields vs := by
  have z : ObjOk P w H h a (.ext fun h => ∃ (oe : Obj) (vs : Array Value), h.get? a = some oe ∧ Zc cls d oe ∧ oe.data = .fields vs) := k a _ e
  exact z.1
/-- what stands untracked and new is known from now on -/
theorem Inv.known {X : Cx} {pins : List (Addr × Obj)} {σ : L2.St} {H : Hp} {s : Shared} (J : L2.Inv X pins σ H s) {a : Addr} {cls : Value} {d : Option Addr} {oe : Obj} {vs : Array Value} (na : H a = none) (ea : s.heap.get? a = some oe) (hz : Zc cls d oe) (hd : oe.data = .fields vs)
    (new : X.s_0.heap.get? a = none) (nL : a ≠ X.env.locals) (np : ∀ p ∈ X.pn ++ pins, p.1 ≠ a) : L2.Inv X pins σ (upd H a (exk a cls d)) s := by
  have ne : ∀ b o, H b = some o → b ≠ a := fun b o e => ne_of_none e na
  refine ⟨J.ok, J.os, J.bare, ⟨J.base.keep, J.base.slot, fun b o e n x => ?_, J.base.there, fun b xs e => ?_, fun b o u e => ?_, fun b ps e => ?_⟩, J.loc, J.cell, ?_, fun y c e => ?_, fun p hp => ?_, fun b u e => ?_, J.len⟩
  · have q : b ≠ a := fun z => by rw [z, new] at e; cases e
    rw [upd_ne q]; exact J.base.free b o e n x
  · have q := J.base.tups b xs e
    rw [upd_ne (ne _ _ q)]; exact q
  · have q := J.base.frzs b o u e
    rw [upd_ne (ne _ _ q)]; exact q
  · obtain ⟨more, q⟩ := J.base.tbls b ps e
    exact ⟨more, by rw [upd_ne (ne _ _ q)]; exact q⟩
  · rw [upd_ne (Ne.symm nL)]; exact J.free
  · have q : c ≠ a := fun z => by
      obtain ⟨v, o, ho, hc⟩ := J.cell y c e
      rw [z, ea] at ho
      cases ho
      rw [hd] at hc
      cases hc
    rw [upd_ne q]; exact J.freeC y c e
  · obtain ⟨q1, q2, q3, q4, q5⟩ := J.pin p hp
    exact ⟨q1, by rw [upd_ne (np p hp)]; exact q2, q3, q4, q5⟩
  · by_cases q : b = a
    · rw [q, upd_same] at e
      cases e
      rw [q]
      exact ⟨⟨oe, vs, ea, hz, hd⟩, ⟨oe, ea⟩, fun h1 h2 ⟨o, v, x1, x2, x3⟩ st => ⟨o, v, st _ x1, x2, x3⟩⟩
    · rw [upd_ne q] at e
      exact (J.hok b u e).stay (fun _ _ _ z => z) (fun b' z => by rw [upd_ne (ne _ _ z)]; exact z) fun b' xs z => by rw [upd_ne (ne _ _ z)]; exact z
def wKept (K : PySem.W.Frag) (c : Value) (i : Nat) (ts : Addr → Value → Option Addr → TS) (Wo : WX) (D : Ends) : WX := fun cls d τ G =>
  ∃ b, PySem.W.exmOne K cls c = some b ∧ (b = true → ∀ a, G a = none → ts a cls d { nx := fun τ' G' => D.nx (τ'.set i none) (upd G' a (exk a cls d)), rt := fun _ _ => False, bk := fun _ _ => False, ct := fun _ _ => False } (τ.set i (some (.ref a))) G) ∧
    (b = false → Wo cls d τ G)
section
variable {X : Cx} {x n : Str} {c : Value} {i : Nat} {body rest : List Stmt} {st : Stmt} {q1 q2 q3 : Pos} {tb : WX → TS} {ts : Addr → Value → Option Addr → TS} {Wo : WX}
theorem ps_try_kept (hex : X.ex = []) (hs : X.stack = X.env :: X.outer) (hf : X.env.frame = some X.env.locals) (hN : X.N.Nodup) (hi : X.N[i]? = some n) (hn : X.env.kindOf n = some .local) (hc : Names X x c) (tk : Takes X Wo)
    (hb : ∀ (W : WX) (pn : List (Addr × Obj)) (xe : Value → Shared → Prop), Takes (X.tr pn xe) W → PassesOwn (model X.prog X.w) X.A X.env xe → PSs (X.tr pn xe) body (tb W))
    (hsu : ∀ (a : Addr) (oe : Obj) (cls : Value) (d : Option Addr) (pn : List (Addr × Obj)), Zc cls d oe → (∃ vs, oe.data = .fields vs) → PSs (X.suite a ((a, oe) :: pn)) (st :: rest) (ts a cls d)) :
    PS X (.Try body [.ExceptHandler (some (.Name x q1)) (some n) (st :: rest) q2] [] [] q3) (fun D τ G => tb (wKept X.K c i ts Wo D) D τ G) := by
  constructor
  intro pins s τ G D I h
  have good := I.ok
  have frm : X.A.frames = some (X.env :: X.outer) := by rw [good.frames, hs]
  apply wpAny_Try_except
  have run := (hb (wKept X.K c i ts Wo D) (X.pn ++ pins) (fun e z => wpAny (model X.prog X.w) X.A (noteFrame e X.env) (fun _ z2 => wpAny (model X.prog X.w) X.A (setFlight e none) (fun _ z3 =>
    wpAny (model X.prog X.w) X.A (handleBy e X.env [.ExceptHandler (some (.Name x q1)) (some n) (st :: rest) q2]) (SP X pins D) X.xe z3) X.xe z2) X.xe z) ?_ PassesOwn.looking).run [] s τ G D (I.toTry _) h
  · refine wpAny_mono run ?_ (fun e z he => he)
    intro fl z hz
    match fl, hz with
    | .next, ⟨τ', G', J, w⟩ => exact wpAny_execs_nil ⟨τ', G', J.ofTry good, w⟩
    | .brk, ⟨τ', G', J, w⟩ => exact ⟨τ', G', J.ofTry good, w⟩
    | .cont, ⟨τ', G', J, w⟩ => exact ⟨τ', G', J.ofTry good, w⟩
    | .ret u, ⟨v, τ', G', J, r, w⟩ => exact ⟨v, τ', G', J.ofTry good, r, w⟩
  rintro u z ⟨a, B, zI, pins', τ', G', cls, d, rfl, J0, keepB, up, sky, na, os, bare, b, mt, yes, no⟩
  have J : L2.Inv X pins τ' G' zI := J0.ofTry good
  show wpAny (model X.prog X.w) X.A (noteFrame (.ref a) X.env) _ _ _
  refine Sky.land Zc.steady frm hf (by rw [← hs]; exact sky) ?_
  intro g1 fly1 up1
  have J1 : L2.Inv X pins τ' G' { z with heap := g1 } := J.landed keepB fly1.1 (up.trans up1) os bare
  obtain ⟨o1, v1, at1, zc1, dt1⟩ := fly1.there
  have apart : a ∉ frs (X.env :: X.outer) := fun hm => by
    obtain ⟨_, o, e, hnf⟩ := fly1.2.2.1.mem hm
    rw [at1] at e; cases e; exact hnf _ dt1
  have aL : a ≠ X.env.locals := fun w => apart (List.mem_filterMap.mpr ⟨X.env, List.mem_cons_self, by rw [hf, w]⟩)
  have aF : a ∉ X.fs := fun hm => by
    obtain ⟨e, he, w⟩ := List.mem_filterMap.mp hm
    exact apart (List.mem_filterMap.mpr ⟨e, List.mem_cons_of_mem _ he, w⟩)
  have fresh : zI.heap.get? a = none := by
    cases w : zI.heap.get? a with
    | none => rfl
    | some o =>
      have w2 := keepB a o w (by rw [hs]; exact apart)
      rw [fly1.2.1] at w2
      cases w2
  have fresh0 : X.s_0.heap.get? a = none := by
    cases w : X.s_0.heap.get? a with
    | none => rfl
    | some o =>
      obtain ⟨o', w2⟩ := J.base.there a o w (by rw [hex]; exact List.not_mem_nil)
      rw [fresh] at w2
      cases w2
  have apins : ∀ p ∈ X.pn ++ pins, p.1 ≠ a := fun p hp w => by
    have w2 := (J.pin p hp).1
    rw [w, fresh] at w2
    cases w2
  have S1 := J1.suite at1 dt1 na aL aF
  refine wpAny_handleBy_cons (codeAny_handlers_test ?_) (by intro w; cases w)
  have look : PySem.W.Looks (model X.prog X.w) g1 (typeOf (.ref a)) cls := fun _ _ _ _ k w => wpAny_typeOf_ref (k _ _ at1) (by rw [zc1.1]; exact w)
  have kind := PySem.W.exm_one (M := model X.prog X.w) J1.kIn look mt
  have named : ∀ {Q E : Value → Shared → Prop}, Q c { z with heap := g1 } → wpAny (model X.prog X.w) (X.A.mark (some (.ref a))) (eval (.Name x q1) X.env) Q E { z with heap := g1 } := by
    intro Q E w
    rcases hc with ⟨hg, hdb, hm | ⟨hm, hv, hnn⟩⟩
    · exact ld_glob (X := X.suite a ((a, o1) :: (X.pn ++ pins))) S1 hg hm w hdb
    · exact ld_blt (X := X.suite a ((a, o1) :: (X.pn ++ pins))) S1 hg hm hv w hnn hdb
  refine named (kind.here ?_)
  cases b with
  | false =>
    show wpAny _ X.A (handleBy (.ref a) X.env []) _ _ _
    apply wpAny_handleBy_nil
    obtain ⟨_, _, _, oe, vs, tr, _, _, e1, _, e2, e3, _⟩ := id fly1
    unfold PySem.passOn
    refine wpAny_bind (wpAny_field e1 e2 e3 ?_)
    rw [if_neg (show ¬ ((Value.ref tr == Value.none) = true) from by simp)]
    have out : wpAny (model X.prog X.w) X.A (setFlight (.ref a) X.env.frame) (fun _ z4 => wpAny (model X.prog X.w) X.A (throw (.ref a) : Sem Flow) (SP X pins D) X.xe z4) X.xe { z with heap := g1 } := by
      rw [hf]
      refine HandSPX.setFlight_upZ fly1 ?_
      intro g4 held4 up4
      exact wpAny_throw (tk _ _ ⟨a, B, zI, pins, τ', G', cls, d, rfl, J, keepB, (up.trans up1).trans up4, .inr (.inr (by rw [hs]; exact held4)), na, os, bare, no rfl⟩)
    first
      | exact wpAny_bind (wpAny_pure (wpAny_bind out))
      | exact wpAny_bind out
  | true =>
    apply codeAny_handlers_suite_as
    refine HandSPX.lands_againZ fly1 ?_
    intro g2 fly2 up2
    have J2 : L2.Inv X pins τ' G' { z with heap := g2 } := J.landed keepB fly2.1 ((up.trans up1).trans up2) os bare
    obtain ⟨o2, v2, at2, zc2, dt2⟩ := fly2.there
    have S2 := J2.suite at2 dt2 na aL aF
    refine store_ok (X := X.suite a ((a, o2) :: (X.pn ++ pins))) (v := .ref a) S2 hN hi (.inl hn) rfl ?_ (.inr hn)
    intro z5 S5
    refine wpAny_mono ((hsu a o2 cls d (X.pn ++ pins) zc2 ⟨_, dt2⟩).run [] z5 _ G' _ S5 (yes rfl a na)) ?_ (fun _ _ w => w.elim)
    intro fl z6 hz
    match fl, hz with
    | .next, ⟨τ6, G6, S6, w⟩ =>
      have p6 := S6.pin (a, o2) (List.mem_append_left _ List.mem_cons_self)
      have K6 := Inv.known (cls := cls) (d := d) (S6.unsuite good) p6.2.1 p6.1 zc2 dt2 fresh0 aL apins
      exact gone_ok K6 hN hi hn fun z7 J7 => ⟨_, _, J7, w⟩
    | .brk, ⟨_, _, _, w⟩ => exact w.elim
    | .cont, ⟨_, _, _, w⟩ => exact w.elim
    | .ret u, ⟨_, _, _, _, _, w⟩ => exact w.elim
end
/-- the pair that _law_told gives back, v what came back -/
def toldBack (f : Addr) (Q : VK) (v : V) (G : Hp) : Prop := tRet (tTup (tCons (tVar 1) (tCons (tVar 2) tNil))) { nx := fun _ G => Q .non G, rt := Q } [some (.ref f), some .non, some v, none] G
theorem toldBack.by {f : Addr} {Q : VK} {v : V} {G : Hp} (h : ∀ r, G r = none → Q (.ref r) (upd G r (.tup [.non, v]))) : toldBack f Q v G := ⟨_, rfl, _, rfl, (show 2 ≤ sizeLine by decide), fun r hr => h r hr⟩
/-- what _law_told makes of the lambda's reading: (caught, None) or (None, back) -/
def TKept (K : PySem.W.Frag) (CM : Addr) : (XK → Hp → VK → Prop) → Hp → VK → Prop := fun tl H Q => ∀ f z, H z = none →
  tl (fun cls d G => ∃ b, PySem.W.exmOne K cls (.ref CM) = some b ∧ (b = true → ∀ a, G a = none → ∀ r, (upd G a (exk a cls d)) r = none → Q (.ref r) (upd (upd G a (exk a cls d)) r (.tup [.ref a, .non]))) ∧ (b = false → False))
    (upd H z (.tup [.non, .non])) (toldBack f Q)
/-! ### a lambda handed to a def that calls it, the slots known when it raises -/
section
variable {X : Cx} {pins : List (Addr × Obj)} {σ : L2.St} {H : Hp} {s : Shared}
abbrev gotCx (X : Cx) (Ng : List Str) (x : Str) (sg : Scope) (g : Addr) (cdg : Value) (s : Shared) (H : Hp) : Cx := cxOf C8.CX0 X.prog X.w X.K X.mg X.base Ng x sg g cdg X.A X.stack s H C8.E0
theorem pe_actK {Ng : List Str} {qg : Str} {sg : Scope} {g f c' : Addr} {cdg pm ctv : Value} {ar : Arguments} {body : Expr} {sc : Scope} {k i : Nat} {a : Str} {pn : List (Addr × Obj)} {xe : Value → Shared → Prop} {W : WX} {tb : XK → TE} {p1 p2 : Pos}
    (I : L2.Inv X pins σ H s) (L : LamX.LamS X.env.scope sc) (hf : s.heap.get? f = some (PySem.W.kla_obj "<lambda>" (X.env.qual ++ "<lambda>") ar body sc (cloFrom X.env.cells sc.names []) pm c' ctv)) (nf : H f = none) (ff : f ∉ frs X.stack)
    (hbi : bindArgs (PySem.W.kla_fn "<lambda>" (X.env.qual ++ "<lambda>") ar body sc (cloFrom X.env.cells sc.names []) pm (.ref c') ctv) ⟨[], []⟩ = pure [])
    (tk : Takes ((gotCx X Ng qg sg g cdg s H).tr pn xe) W) (hr : Room (k + 1) (X.A.deeper (envOfC qg sg s.heap.objs.size g cdg)))
    (hbo : ∀ (A : Around) (out : List Env) (z : Shared) (G : Hp) (E : XK), Room k (A.deeper (LamX.lamEnv X sc z.heap.objs.size f c')) → PE (LamX.lamCx X A out z G E sc f c') body (tb E))
    (hN : Ng[i]? = some a) (hv : Vis sg a) (hd : (a == ("__debug__" : Str)) = false) (hcd : (a == ("__classdict__" : Str)) = false) :
    PE ((gotCx X Ng qg sg g cdg s H).tr pn xe) (.Call (.Name a p1) [] [] p2)
      (fun τ G Q => ∃ E : XK, (∀ cls d G', E cls d G' → W cls d τ G') ∧ τ[i]? = some (some (.ref f)) ∧ G c' = some (LamX.CodeO c' (X.env.qual ++ "<lambda>")) ∧ tb E σ G Q) := by
  constructor
  rintro pz sz τ G Q J ⟨E, hE, hs, hc, ht⟩
  refine wpAny_Call_Name_kw (thn ((pe_var (pos := p1) (i := i) hN hv hd hcd).run pz sz τ G (fun v G1 => v = .ref f ∧ G1 = G) J ⟨.ref f, hs, rfl, rfl⟩) ?_)
  rintro u s1 ⟨v, G1, J1, r1, rfl, rfl⟩
  obtain rfl : u = Value.ref f := r1
  have of1 := J1.base.keep f _ hf nf ff List.not_mem_nil
  apply PySem.W.callWith_F0 ⟨_, _, _, _, of1⟩
  have un : Un (frs X.stack) [] H G1 s.heap s1.heap := J1.base
  obtain ⟨⟨co, vs, tt, h1, h2, h3⟩, _, _⟩ := J1.hok c' _ hc
  have go : codeAny (model X.prog X.w) (X.A.deeper (envOfC qg sg s.heap.objs.size g cdg)) (.call (.ref f) ⟨[], []⟩) (CR (L2.CX X.prog X.w) (envOfC qg sg s.heap.objs.size g cdg :: X.stack) X.prog X.w G1 s1 Q E) s1 := by
    refine PySem.W.kla_callFunE hr.depth of1 rfl L.co L.gen rfl ⟨c', co, vs, tt, rfl, h1, h2, h3⟩ ?_
    rw [hbi]
    refine wpAny_pure (wpAny_newFunctionEnv (fun y hy => (L.own y hy).2) (fun y hy => absurd hy List.not_mem_nil) (fun h' hns hsb => ⟨J1.nolimit.fresh _ hsb, ?_⟩) L.kind)
    show codeAny _ _ (.expr body (LamX.lamEnv X sc s1.heap.objs.size f c')) _ _
    have stay : ∀ b o, s1.heap.get? b = some o → h'.get? b = some o := fun b o e => hsb.extBut b o (Nat.ne_of_lt (Heap.lt_size e)) (Heap.get?_push_of_some _ e)
    have In : L2.Inv (LamX.lamCx X (X.A.deeper (envOfC qg sg s.heap.objs.size g cdg)) (envOfC qg sg s.heap.objs.size g cdg :: X.stack) s1 G1 E sc f c') [] σ G1 { s1 with heap := h', toks := s1.toks + ([] : List (Str × Value)).length } :=
      LamX.lam_start2 I L J1.env0 hr.hd un hns stay
    refine PySem.W.kla_codeExpr (wpAny_mono ((hbo _ _ s1 G1 E (hr.deeper _)).run [] _ _ G1 Q In ht) ?_ (fun _ _ z => z))
    rintro v z ⟨w, G', K', rv, q⟩
    exact ⟨w, G', K'.os, K'.bare, K'.base, K'.hok, rv, q⟩
  refine wpAny_call (codeAny_mono go ?_)
  intro r z hq
  match r, hq with
  | .error e, hq => exact tk e z (XE.of_call J1 (fun cls d G' h => hE cls d G' h) hq)
  | .ok (.ret u), hq => exact J1.after hq
  | .ok .next, hq => exact hq.elim
  | .ok .brk, hq => exact hq.elim
  | .ok .cont, hq => exact hq.elim
/-- what the def that got the lambda does with it -/
def GivesK (X : Cx) (Ng : List Str) (x : Str) (sg : Scope) (g : Addr) (cdg : Value) (bg : List Stmt) (a q : Str) (TT : (XK → Hp → VK → Prop) → Hp → VK → Prop) : Prop :=
  ∀ (f c' : Addr) (s : Shared) (H : Hp) (Q : VK) (tl : XK → Hp → VK → Prop),
    (∀ (W : WX) (pn : List (Addr × Obj)) (xe : Value → Shared → Prop) (p1 p2 : Pos), Takes ((gotCx X Ng x sg g cdg s H).tr pn xe) W →
      PE ((gotCx X Ng x sg g cdg s H).tr pn xe) (.Call (.Name a p1) [] [] p2) (fun τ G Q => ∃ E : XK, (∀ cls d G', E cls d G' → W cls d τ G') ∧ τ[0]? = some (some (.ref f)) ∧ G c' = some (LamX.CodeO c' q) ∧ tl E G Q)) →
    H c' = some (LamX.CodeO c' q) → TT tl H Q → ∃ t, PSs (gotCx X Ng x sg g cdg s H).nox bg t ∧ t { nx := fun _ G => Q .non G, rt := Q } (L2.start Ng [.ref f]) H
theorem pe_lamK {T : List (Addr × Str)} {TT : (XK → Hp → VK → Prop) → Hp → VK → Prop} {x a : Str} {g c B : Addr} {k : Nat} {pg : Arguments} {bg : List Stmt} {sg : Scope} {fd : FuncData} {Ng : List Str}
    {ar : Arguments} {body : Expr} {sc : Scope} {t : XK → TE} {p lp pos : Pos} (hg : Gl X x) (hm : X.mg x = some (.ref g)) (F : FunD X.K x x pg bg sg [] [] g fd) (hb : L2.Binds X.K fd [a] []) (Sg : FnScope Ng [a] sg) (h0 : Ng[0]? = some a) (hva : Vis sg a)
    (hG : ∀ cdg, GivesK X Ng x sg g cdg bg a (X.env.qual ++ "<lambda>") TT) (TB : LamX.TabB X.base X.mg c B) (hcode : X.env.code = .ref c) (hmT : (B, X.env.qual ++ "<lambda>") ∈ T) (hu : ∀ p ∈ T, p.1 = B → p.2 = X.env.qual ++ "<lambda>") (hr : Room (k + 2) X.A)
    (L : LamX.LamS X.env.scope sc) (hdef : defaultsOf ar X.env = ([], [])) (hbi : ∀ (q : Str) (cl : List (Str × Addr)) (pm cv ctv : Value), bindArgs (PySem.W.kla_fn "<lambda>" q ar body sc cl pm cv ctv) ⟨[], []⟩ = pure [])
    (hbo : ∀ (A : Around) (out : List Env) (s : Shared) (H : Hp) (E : XK) (f c' : Addr), Room k (A.deeper (LamX.lamEnv X sc s.heap.objs.size f c')) → PE (LamX.lamCx X A out s H E sc f c') body (t E))
    (hdb : (x == ("__debug__" : Str)) = false := by decide) (hd : (a == ("__debug__" : Str)) = false := by decide) (hcd : (a == ("__classdict__" : Str)) = false := by decide) :
    PE X (.Call (.Name x p) [.Lambda ar body sc lp] [] pos) (LamX.tLam T TT t) := by
  constructor
  rintro pins s σ H Q I ⟨hT, h⟩
  obtain ⟨oc, od, dV, kV, doc, pm, an, cdv, ct, osl, rfl, lk, hcd', _, _⟩ := F.ex
  refine wpAny_Call_Name_kw (ld_glob I hg hm ?_ hdb)
  refine PySem.W.callWith_K (h₀ := X.base) I.ok.mod.kin F.kp ?_ (by rfl) (by rfl)
  show wpAny _ _ (spliced ((false, eval (.Lambda ar body sc lp) X.env) :: backTo pos (starEach [] X.env))) _ _ s
  refine Calls.spliced_cons (LamX.lam_make2 I TB hcode hmT hu hT hdef (L.has I.ok) ?_)
  intro f c' pm' ctv H1 s' I1 eN T1 hf nf ff hco
  refine Calls.spliced_nil ⟨I1.kIn, ?_⟩
  have go : codeAny (model X.prog X.w) X.A (.call (.ref g) ⟨[.ref f], []⟩) (CR C8.CX0 X.stack X.prog X.w H1 s' Q C8.E0) s' := by
    refine LamX.run_ofS (N := Ng) (ps := [a]) (us := [.ref f]) (vs := [.ref f]) lk hcd' Sg hr I1.env0 (hb s' [.ref f] I1.kIn rfl) (.cons rfl .nil) rfl ?_
    intro hr'
    obtain ⟨t', ht', hq'⟩ := hG cdv f c' s' H1 Q (fun E G Q' => t E σ G Q') (fun W pn xe p1 p2 tk => pe_actK (i := 0) I1 L hf nf ff (hbi _ _ _ _ _) tk hr' (fun A out z G E hr2 => hbo A out z G E f c' hr2) h0 hva hd hcd) hco (h H1 eN T1)
    exact ⟨t', ht'.nox, hq'⟩
  refine wpAny_call (codeAny_mono go ?_)
  intro r z hq
  match r, hq with
  | .error e, hq => exact (show False from hq).elim
  | .ok (.ret u), hq => exact I1.after hq
  | .ok .next, hq => exact hq.elim
  | .ok .brk, hq => exact hq.elim
  | .ok .cont, hq => exact hq.elim
end
/-! ### reading a kept exception -/
theorem inst_kept {X : Cx} {pins : List (Addr × Obj)} {σ : L2.St} {H : Hp} {s : Shared} {a C d : Addr} {fs : List (Str × V)} (I : L2.Inv X pins σ H s) (ea : H a = some (exk a (.ref C) (some d))) (ed : H d = some (.xd fs)) :
    ∃ (oe oD : Obj) (mA : Str → Option Value), PySem.W.InstAt s.heap a oe C (some oD) ∧ (∀ f, PySem.W.lookIn f oD = some (mA f)) ∧ ∀ f, RelO (fs.lookup f) (mA f) := by
  obtain ⟨oe, vs, h1, ⟨h2, h3⟩, h4⟩ := exk_at I.hok ea
  obtain ⟨mA, hns, rel⟩ := (show ObjOk X.prog X.w H s.heap d (.xd fs) from I.hok d _ ed)
  obtain ⟨oD, hD, hl⟩ := lookIn_ns hns
  refine ⟨oe, oD, mA, ⟨h1, h2, ?_, ?_⟩, hl, rel⟩
  · unfold PySem.W.notCls; rw [h4]
  · rw [h3]
    exact hD
/-- e.f of a kept exception -/
def tXk (K : PySem.W.Frag) (f : Str) (te : TE) : TE := fun σ H Q => te σ H fun x H1 => ∃ a C fI d fs v, x = .ref a ∧ ExcT K C fI ∧ PySem.W.findIn K (.ref C) f = some none ∧ H1 a = some (exk a (.ref C) (some d)) ∧ H1 d = some (.xd fs) ∧ fs.lookup f = some v ∧ Q v H1
theorem pe_xk {X : Cx} {e : Expr} {te : TE} {pos : Pos} {f : Str} (he : PE X e te) (hb : attributeBase e f X.env (eval e X.env) = eval e X.env := by rfl) : PE X (.Attribute e f pos) (tXk X.K f te) := by
  constructor
  intro pins s σ H Q I h
  refine attr_of hb (thn (he.run pins s σ H _ I h) ?_)
  rintro u s1 ⟨x, H1, J, rx, a, C, fI, d, fs, v, rfl, T, hno, ea, ed, el, q⟩
  obtain rfl : u = Value.ref a := rx
  obtain ⟨oe, oD, mA, io, hl, rel⟩ := inst_kept J ea ed
  obtain ⟨u, hu, ru⟩ := RelO.some_of (v := v) (o := mA f) (by rw [← el]; exact rel f)
  exact HandSPX.exc_get J.kIn io T.ga T.gg T.oex.exC (PySem.W.findObj_own T.hd hno rfl (by rw [hl, hu])) (handed_of ru) ⟨v, H1, J.tok _, ru, q⟩
/-- isinstance(e, c) of a kept exception -/
def rIsK (K : PySem.W.Frag) : List V → Hp → VK → Prop := fun xs H Q => ∃ (a C fI d : Addr) (fs : List (Str × V)) (c : V) (cv : Value) (b : Bool), xs = [.ref a, c] ∧ ExcT K C fI ∧ H a = some (exk a (.ref C) (some d)) ∧ H d = some (.xd fs) ∧
  (∀ u, RelV c u → u = cv) ∧ PySem.W.kitOne K (.ref C) cv = some b ∧ Q (.bl b) H
theorem call_isK {X : Cx} : CallR X (.builtin "isinstance") (rIsK X.K) := by
  intro pins s σ H xs us Q I r h
  obtain ⟨a, C, fI, d, fs, c, cv, b, rfl, T, ea, ed, hc, hk, q⟩ := h
  match us, r with
  | [_, u], .cons rfl (.cons rc .nil) =>
    obtain rfl := hc u rc
    obtain ⟨oe, oD, mA, io, _, _⟩ := inst_kept I ea ed
    exact PySem.W.kia_one (PySem.W.kitx_exc T.cl T.ga T.gg T.oex.exC T.ha T.hn T.ht T.hm) I.kIn io hk (fun z => nomatch z) fun tk => ⟨.bl b, H, I.kept (t' := tk) fun _ _ z => z, rfl, q⟩
end MX

set_option Elab.async false
set_option linter.all false
set_option maxRecDepth 100000
set_option maxHeartbeats 4000000
namespace MX
open PySem PySem.Spec PySem.W PySem.Calls PyProof.Rows L2
/-! ### what a value is, told so that it lasts -/
structure Rd where
  R : V → Hp → Prop
  st : ∀ v H H', LamX.ExtN H H' → R v H → R v H'
def All2 : List Rd → List V → Hp → Prop
  | [], [], _ => True
  | r :: rs, v :: vs, H => r.R v H ∧ All2 rs vs H
  | _, _, _ => False
theorem All2.st {H H' : Hp} (x : LamX.ExtN H H') : ∀ {rs : List Rd} {vs : List V}, All2 rs vs H → All2 rs vs H'
  | [], [], _ => trivial
  | r :: rs, v :: vs, h => ⟨r.st v H H' x h.1, All2.st x h.2⟩
  | [], _ :: _, h => h.elim
  | _ :: _, [], h => h.elim
theorem All2.len {H : Hp} : ∀ {rs : List Rd} {vs : List V}, All2 rs vs H → vs.length = rs.length
  | [], [], _ => rfl
  | r :: rs, v :: vs, h => congrArg Nat.succ (All2.len h.2)
  | [], _ :: _, h => h.elim
  | _ :: _, [], h => h.elim
theorem All2.app {H : Hp} : ∀ {rs ss : List Rd} {vs us : List V}, All2 rs vs H → All2 ss us H → All2 (rs ++ ss) (vs ++ us) H
  | [], _, [], _, _, g => g
  | r :: rs, _, v :: vs, _, h, g => ⟨h.1, All2.app h.2 g⟩
  | [], _, _ :: _, _, h, _ => h.elim
  | _ :: _, _, [], _, h, _ => h.elim
theorem All2.at {H : Hp} : ∀ {rs : List Rd} {vs : List V} {k : Nat} {x : V}, All2 rs vs H → vs[k]? = some x → ∃ r, rs[k]? = some r ∧ r.R x H
  | [], [], _, _, _, e => by simp at e
  | r :: rs, v :: vs, 0, x, h, e => ⟨r, rfl, by
    obtain rfl : v = x := by simpa using e
    exact h.1⟩
  | r :: rs, v :: vs, k + 1, x, h, e => All2.at (k := k) h.2 (by simpa using e)
  | [], _ :: _, _, _, h, _ => h.elim
  | _ :: _, [], _, _, h, _ => h.elim
theorem All2.get {H : Hp} : ∀ {rs : List Rd} {vs : List V} {k : Nat} {r : Rd}, All2 rs vs H → rs[k]? = some r → ∃ x, vs[k]? = some x ∧ r.R x H
  | [], [], _, _, _, e => by simp at e
  | r :: rs, v :: vs, 0, x, h, e => ⟨v, rfl, by
    obtain rfl : r = x := by simpa using e
    exact h.1⟩
  | r :: rs, v :: vs, k + 1, x, h, e => All2.get (k := k) h.2 (by simpa using e)
  | [], _ :: _, _, _, h, _ => h.elim
  | _ :: _, [], _, _, h, _ => h.elim
theorem All2.take {H : Hp} : ∀ {rs : List Rd} {vs : List V} (k : Nat), All2 rs vs H → All2 (rs.take k) (vs.take k) H
  | _, _, 0, _ => by simp [All2]
  | [], [], k + 1, _ => by simp [All2]
  | r :: rs, v :: vs, k + 1, h => ⟨h.1, All2.take k h.2⟩
  | [], _ :: _, _, h => h.elim
  | _ :: _, [], _, h => h.elim
theorem All2.drop {H : Hp} : ∀ {rs : List Rd} {vs : List V} (k : Nat), All2 rs vs H → All2 (rs.drop k) (vs.drop k) H
  | _, _, 0, h => h
  | [], [], k + 1, _ => trivial
  | r :: rs, v :: vs, k + 1, h => All2.drop k h.2
  | [], _ :: _, _, h => h.elim
  | _ :: _, [], _, h => h.elim
def oS (x : Str) : Rd := ⟨fun v _ => v = .str x, fun _ _ _ _ h => h⟩
def oI (n : Int) : Rd := ⟨fun v _ => v = .int n, fun _ _ _ _ h => h⟩
def oL (rs : List Rd) : Rd := ⟨fun v H => ∃ a vs, v = .ref a ∧ H a = some (.lst vs) ∧ All2 rs vs H, fun v H H' x h => by
  obtain ⟨a, vs, e, h1, h2⟩ := h
  exact ⟨a, vs, e, x a _ h1 (fun _ z => by cases z), h2.st x⟩⟩
def oT (rs : List Rd) : Rd := ⟨fun v H => ∃ a vs, v = .ref a ∧ H a = some (.tup vs) ∧ All2 rs vs H, fun v H H' x h => by
  obtain ⟨a, vs, e, h1, h2⟩ := h
  exact ⟨a, vs, e, x a _ h1 (fun _ z => by cases z), h2.st x⟩⟩
abbrev oSL (xs : List Str) : Rd := oL (xs.map oS)
theorem all_oS {H : Hp} : ∀ {xs : List Str} {vs : List V}, All2 (xs.map oS) vs H ↔ vs = xs.map V.str
  | [], [] => by simp [All2]
  | x :: xs, v :: vs => by
    show (v = V.str x ∧ All2 (xs.map oS) vs H) ↔ (v :: vs) = V.str x :: xs.map V.str
    rw [all_oS (xs := xs) (vs := vs), List.cons.injEq]
  | [], _ :: _ => by simp [All2]
  | _ :: _, [] => by simp [All2]
theorem oSL_iff {H : Hp} {v : V} {xs : List Str} : (oSL xs).R v H ↔ ∃ a, v = .ref a ∧ H a = some (.lst (xs.map V.str)) := by
  constructor
  · rintro ⟨a, vs, e, h1, h2⟩
    rw [all_oS] at h2
    exact ⟨a, e, h2 ▸ h1⟩
  · rintro ⟨a, e, h1⟩
    exact ⟨a, _, e, h1, all_oS.mpr rfl⟩
/-! ### the heap but for some places -/
def msk (M : List Addr) (H : Hp) : Hp := fun a => if a ∈ M then none else H a
theorem msk_of {M : List Addr} {H : Hp} {a : Addr} {o : HO} (h : msk M H a = some o) : H a = some o ∧ a ∉ M := by
  unfold msk at h
  by_cases c : a ∈ M
  · rw [if_pos c] at h; cases h
  · rw [if_neg c] at h; exact ⟨h, c⟩
theorem msk_in {M : List Addr} {H : Hp} {a : Addr} (h : a ∉ M) : msk M H a = H a := if_neg h
theorem msk_ext {M : List Addr} {H H' : Hp} (x : LamX.ExtN H H') : LamX.ExtN (msk M H) (msk M H') := fun b o h n => by
  obtain ⟨h, c⟩ := msk_of h
  rw [msk_in c]
  exact x b o h n
theorem msk_same {M : List Addr} {H H' : Hp} (x : Same H H') : Same (msk M H) (msk M H') := fun b o h => by
  obtain ⟨h, c⟩ := msk_of h
  rw [msk_in c]
  exact x b o h
theorem msk_sub {M : List Addr} {H : Hp} : Same (msk M H) H := fun _ _ h => (msk_of h).1
theorem msk_nil {H : Hp} : msk [] H = H := funext fun a => by simp [msk]
def Live (M : List Addr) (H : Hp) : Prop := ∀ b ∈ M, ∃ vs, H b = some (.lst vs)
theorem Live.nil {H : Hp} : Live [] H := fun _ h => by cases h
theorem Live.ext {M : List Addr} {H H' : Hp} (h : Live M H) (x : LamX.ExtN H H') : Live M H' := fun b hb => by
  obtain ⟨vs, e⟩ := h b hb
  exact ⟨vs, x b _ e fun _ z => by cases z⟩
theorem Live.free {M : List Addr} {H : Hp} {p : Addr} (h : Live M H) (n : H p = none) : p ∉ M := fun m => by
  obtain ⟨vs, e⟩ := h p m
  rw [n] at e
  cases e
theorem msk_new {M : List Addr} {H : Hp} {p : Addr} {o : HO} (h : Live M H) (n : H p = none) : msk M (L2.upd H p o) p = some o := by
  rw [msk_in (h.free n), upd_same]
theorem msk_upd {M : List Addr} {H : Hp} {p : Addr} {o : HO} (h : p ∈ M) : msk M (L2.upd H p o) = msk M H := funext fun a => by
  unfold msk
  by_cases c : a ∈ M
  · rw [if_pos c, if_pos c]
  · rw [if_neg c, if_neg c, upd_ne (fun z => c (by rw [z]; exact h))]
/-- a new thing at p that may change later -/
theorem msk_one {H : Hp} {p : Addr} {o : HO} (n : H p = none) : msk [p] (L2.upd H p o) = H := funext fun a => by
  unfold msk
  by_cases c : a = p
  · rw [if_pos (by rw [c]; exact List.mem_cons_self), c, n]
  · rw [if_neg (by simpa using c), upd_ne c]
/-! ### readings of plain expressions in a state that new things leave -/
section
variable {ι : Type} {Ev : ι → L2.St → Hp → Prop} {M : ι → List Addr}
/-- new things leave it -/
def Env (Ev : ι → L2.St → Hp → Prop) : Prop := ∀ i σ H H', Same H H' → Ev i σ H → Ev i σ H'
def EOk (Ev : ι → L2.St → Hp → Prop) (M : ι → List Addr) (i : ι) (σ : L2.St) (H : Hp) : Prop := Ev i σ (msk (M i) H) ∧ Live (M i) H
theorem EOk.same (E : Env Ev) {i : ι} {σ : L2.St} {H H' : Hp} (h : EOk Ev M i σ H) (s : Same H H') : EOk Ev M i σ H' := ⟨E i σ _ _ (msk_same s) h.1, h.2.ext (LamX.ExtN.of s)⟩
def tR (Ev : ι → L2.St → Hp → Prop) (M : ι → List Addr) (r : ι → Rd) : TE := fun σ H Q => ∃ i, EOk Ev M i σ H ∧ ∀ v H', Same H H' → (r i).R v (msk (M i) H') → Q v H'
def tRA (Ev : ι → L2.St → Hp → Prop) (M : ι → List Addr) (rs : ι → List Rd) : TA := fun σ H Q => ∃ i, EOk Ev M i σ H ∧ ∀ vs H', Same H H' → All2 (rs i) vs (msk (M i) H') → Q vs H'
section
variable {X : Cx} {a b c e o : Expr} {es : List Expr} {t t' : TE} {ta : TA} {pos : Pos}
theorem pe_mono (h : PE X e t) (m : ∀ σ H Q, t' σ H Q → t σ H Q) : PE X e t' := ⟨fun pins s σ H Q I q => h.run pins s σ H Q I (m σ H Q q)⟩
theorem pa_mono {u u' : TA} (h : PA X es u) (m : ∀ σ H Q, u' σ H Q → u σ H Q) : PA X es u' := ⟨fun pos pins s σ H Q I q => h.run pos pins s σ H Q I (m σ H Q q)⟩
theorem er_str {x : Str} {j} : PE X (.Constant (.str x) j pos) (tR Ev M fun _ => oS x) := pe_mono pe_str fun σ H Q ⟨i, _, k⟩ => k _ _ (Same.refl H) rfl
theorem er_int {n : Int} {j} : PE X (.Constant (.int n) j pos) (tR Ev M fun _ => oI n) := pe_mono pe_int fun σ H Q ⟨i, _, k⟩ => k _ _ (Same.refl H) rfl
theorem er_var {x : Str} {r : ι → Rd} (k : Nat) (h : ∀ i σ H, Ev i σ H → ∃ v, σ[k]? = some (some v) ∧ (r i).R v H) (hN : X.N[k]? = some x := by rfl) (hv : Vis X.env.scope x := by first | exact Or.inl rfl | exact Or.inr (Or.inl rfl) | exact Or.inr (Or.inr rfl)) (hd : (x == ("__debug__" : Str)) = false := by decide)
    (hcd : (x == ("__classdict__" : Str)) = false := by decide) : PE X (.Name x pos) (tR Ev M r) := pe_mono (pe_var hN hv hd hcd) fun σ H Q ⟨i, ok, q⟩ => by
  obtain ⟨v, e, hr⟩ := h i σ _ ok.1
  exact ⟨v, e, q v H (Same.refl H) hr⟩
theorem er_add (E : Env Ev) {x y : ι → Str} (ha : PE X a (tR Ev M fun i => oS (x i))) (hb : PE X b (tR Ev M fun i => oS (y i))) (l : ∀ i σ H, Ev i σ H → (x i).length + (y i).length ≤ sizeLine) : PE X (.BinOp a .Add b pos) (tR Ev M fun i => oS (x i ++ y i)) :=
  pe_mono (pe_op op_add_str ha hb) fun σ H Q ⟨i, ok, q⟩ => ⟨i, ok, fun v H1 s1 e1 => ⟨i, ok.same E s1, fun u H2 s2 e2 => ⟨_, _, e1, e2, l i σ _ ok.1, q _ _ (s1.trans s2) rfl⟩⟩⟩
theorem er_cat (E : Env Ev) {x y : ι → List Rd} (ha : PE X a (tR Ev M fun i => oL (x i))) (hb : PE X b (tR Ev M fun i => oL (y i))) (l : ∀ i σ H, Ev i σ H → (x i).length + (y i).length ≤ sizeLine) : PE X (.BinOp a .Add b pos) (tR Ev M fun i => oL (x i ++ y i)) :=
  pe_mono (pe_op op_cat ha hb) fun σ H Q ⟨i, ok, q⟩ => ⟨i, ok, fun v H1 s1 ⟨p1, v1, e1, h1, a1⟩ => ⟨i, ok.same E s1, fun u H2 s2 ⟨p2, v2, e2, h2, a2⟩ => by
    have a1' := a1.st (msk_ext (M := M i) (LamX.ExtN.of s2))
    refine ⟨p1, p2, v1, v2, e1, e2, s2 _ _ (msk_of h1).1, (msk_of h2).1, ?_, fun p hp => q _ _ ((s1.trans s2).trans (same_new hp)) ⟨p, _, rfl, msk_new ((ok.same E s1).same E s2).2 hp, (a1'.app a2).st (msk_ext (LamX.ExtN.of (same_new hp)))⟩⟩
    rw [a1.len, a2.len]
    exact l i σ _ ok.1⟩⟩
theorem er_catS (E : Env Ev) {x y : ι → List Str} (ha : PE X a (tR Ev M fun i => oSL (x i))) (hb : PE X b (tR Ev M fun i => oSL (y i))) (l : ∀ i σ H, Ev i σ H → (x i).length + (y i).length ≤ sizeLine) : PE X (.BinOp a .Add b pos) (tR Ev M fun i => oSL (x i ++ y i)) := by
  have z := er_cat E ha hb (pos := pos) (fun i σ H h => by rw [List.length_map, List.length_map]; exact l i σ H h)
  simp only [← List.map_append] at z
  exact z
theorem all_rep {H : Hp} {rs : List Rd} {vs : List V} (h : All2 rs vs H) : ∀ k : Nat, All2 (List.replicate k rs).flatten (List.replicate k vs).flatten H
  | 0 => trivial
  | k + 1 => by
    rw [List.replicate_succ, List.replicate_succ, List.flatten_cons, List.flatten_cons]
    exact h.app (all_rep h k)
theorem er_rep (E : Env Ev) {x : ι → List Rd} {k : Nat} (ha : PE X a (tR Ev M fun i => oL (x i))) (hb : PE X b (tR Ev M fun i => oI (k : Int))) (hk : k < 1000) (l : ∀ i σ H, Ev i σ H → (x i).length * k ≤ sizeLine) : PE X (.BinOp a .Mult b pos) (tR Ev M fun i => oL (List.replicate k (x i)).flatten) :=
  pe_mono (pe_op op_rep ha hb) fun σ H Q ⟨i, ok, q⟩ => ⟨i, ok, fun v H1 s1 ⟨p1, v1, e1, h1, a1⟩ => ⟨i, ok.same E s1, fun u H2 s2 e2 => by
    have a1' := a1.st (msk_ext (M := M i) (LamX.ExtN.of s2))
    refine ⟨p1, (k : Int), v1, e1, e2, s2 _ _ (msk_of h1).1, by omega, by omega, ?_, fun p hp => q _ _ ((s1.trans s2).trans (same_new hp)) ⟨p, _, rfl, msk_new ((ok.same E s1).same E s2).2 hp, ?_⟩⟩
    · rw [a1.len]
      exact l i σ _ ok.1
    · exact (all_rep a1' k).st (msk_ext (LamX.ExtN.of (same_new hp)))⟩⟩
theorem rep_map {α β : Type} (f : α → β) (xs : List α) (k : Nat) : (List.replicate k (xs.map f)).flatten = ((List.replicate k xs).flatten).map f := by
  rw [List.map_flatten, List.map_replicate]
theorem er_repS (E : Env Ev) {x : ι → List Str} {k : Nat} (ha : PE X a (tR Ev M fun i => oSL (x i))) (hb : PE X b (tR Ev M fun i => oI (k : Int))) (hk : k < 1000) (l : ∀ i σ H, Ev i σ H → (x i).length * k ≤ sizeLine) : PE X (.BinOp a .Mult b pos) (tR Ev M fun i => oSL (List.replicate k (x i)).flatten) := by
  have z := er_rep E ha hb hk (pos := pos) (fun i σ H h => by rw [List.length_map]; exact l i σ H h)
  simp only [rep_map] at z
  exact z
theorem cut_take (xs : List V) (k : Nat) : cutV xs none (some (k : Int)) = xs.take k := by
  unfold cutV
  rw [HT.sIx_none, HT.sIx_nat]
  show (xs.drop 0).take (min k xs.length - 0) = _
  rw [List.drop_zero, Nat.sub_zero]
  by_cases h : k ≤ xs.length
  · rw [Nat.min_eq_left h]
  · rw [Nat.min_eq_right (by omega), List.take_of_length_le (Nat.le_refl _), List.take_of_length_le (by omega)]
theorem cut_mid (xs : List V) (j k : Nat) (h : k ≤ xs.length) (hj : j ≤ k) : cutV xs (some (j : Int)) (some (k : Int)) = (xs.drop j).take (k - j) := by
  unfold cutV
  rw [HT.sIx_nat, HT.sIx_nat, Nat.min_eq_left h, Nat.min_eq_left (by omega)]
theorem er_take (E : Env Ev) {x : ι → List Rd} {k : Nat} {p2 : Pos} (ha : PE X a (tR Ev M fun i => oL (x i))) (hb : PE X b (tR Ev M fun i => oI (k : Int))) : PE X (.Subscript a (.Slice none (some b) none p2) pos) (tR Ev M fun i => oL ((x i).take k)) :=
  pe_mono (pe_slice sl_list ha po_none (po_some hb)) fun σ H Q ⟨i, ok, q⟩ => ⟨i, ok, fun v H1 s1 ⟨p1, v1, e1, h1, a1⟩ => ⟨i, ok.same E s1, fun u H2 s2 e2 => ⟨(k : Int), e2, p1, v1, e1, SqL.of (s2 _ _ (msk_of h1).1), fun p hp => q _ _ ((s1.trans s2).trans (same_new hp)) ⟨p, _, rfl, msk_new ((ok.same E s1).same E s2).2 hp, by
    rw [cut_take]
    exact ((a1.take k).st (msk_ext (LamX.ExtN.of s2))).st (msk_ext (LamX.ExtN.of (same_new hp)))⟩⟩⟩⟩
theorem er_takeS (E : Env Ev) {x : ι → List Str} {k : Nat} {p2 : Pos} (ha : PE X a (tR Ev M fun i => oSL (x i))) (hb : PE X b (tR Ev M fun i => oI (k : Int))) : PE X (.Subscript a (.Slice none (some b) none p2) pos) (tR Ev M fun i => oSL ((x i).take k)) := by
  have z := er_take E ha hb (pos := pos) (p2 := p2)
  simp only [← List.map_take] at z
  exact z
theorem er_mid (E : Env Ev) {x : ι → List Rd} {j k : Nat} {p2 : Pos} (ha : PE X a (tR Ev M fun i => oL (x i))) (hb : PE X b (tR Ev M fun i => oI (j : Int))) (hc : PE X c (tR Ev M fun i => oI (k : Int))) (l : ∀ i σ H, Ev i σ H → k ≤ (x i).length ∧ j ≤ k) : PE X (.Subscript a (.Slice (some b) (some c) none p2) pos) (tR Ev M fun i => oL (((x i).drop j).take (k - j))) :=
  pe_mono (pe_slice sl_list ha (po_some hb) (po_some hc)) fun σ H Q ⟨i, ok, q⟩ => ⟨i, ok, fun v H1 s1 ⟨p1, v1, e1, h1, a1⟩ => ⟨i, ok.same E s1, fun u H2 s2 e2 => ⟨(j : Int), e2, i, (ok.same E s1).same E s2, fun u3 H3 s3 e3 => ⟨(k : Int), e3, p1, v1, e1, SqL.of (s3 _ _ (s2 _ _ (msk_of h1).1)), fun p hp => q _ _ (((s1.trans s2).trans s3).trans (same_new hp)) ⟨p, _, rfl, msk_new (((ok.same E s1).same E s2).same E s3).2 hp, by
    have z := l i σ _ ok.1
    rw [cut_mid v1 j k (by rw [a1.len]; exact z.1) z.2]
    exact ((((a1.drop j).take (k - j)).st (msk_ext (LamX.ExtN.of s2))).st (msk_ext (LamX.ExtN.of s3))).st (msk_ext (LamX.ExtN.of (same_new hp)))⟩⟩⟩⟩⟩
/-- an item of a list by its number -/
theorem er_ix (E : Env Ev) {x : ι → List Rd} {r : ι → Rd} {k : Nat} (ha : PE X a (tR Ev M fun i => oL (x i))) (hb : PE X b (tR Ev M fun i => oI (k : Int))) (hs : PlainIx b) (h : ∀ i σ H, Ev i σ H → (x i)[k]? = some (r i)) : PE X (.Subscript a b pos) (tR Ev M r) :=
  pe_mono (pe_ix ix_list ha hb hs) fun σ H Q ⟨i, ok, q⟩ => ⟨i, ok, fun v H1 s1 ⟨p1, v1, e1, h1, a1⟩ => ⟨i, ok.same E s1, fun u H2 s2 e2 => by
    obtain ⟨y, hy, ry⟩ := (a1.st (msk_ext (M := M i) (LamX.ExtN.of s2))).get (h i σ _ ok.1)
    exact ⟨p1, v1, (k : Int), y, e1, e2, SqL.of (s2 _ _ (msk_of h1).1), atI_nat hy, q _ _ (s1.trans s2) ry⟩⟩⟩
theorem er_ixT (E : Env Ev) {x : ι → List Rd} {r : ι → Rd} {k : Nat} (ha : PE X a (tR Ev M fun i => oT (x i))) (hb : PE X b (tR Ev M fun i => oI (k : Int))) (hs : PlainIx b) (h : ∀ i σ H, Ev i σ H → (x i)[k]? = some (r i)) : PE X (.Subscript a b pos) (tR Ev M r) :=
  pe_mono (pe_ix ix_tup ha hb hs) fun σ H Q ⟨i, ok, q⟩ => ⟨i, ok, fun v H1 s1 ⟨p1, v1, e1, h1, a1⟩ => ⟨i, ok.same E s1, fun u H2 s2 e2 => by
    obtain ⟨y, hy, ry⟩ := (a1.st (msk_ext (M := M i) (LamX.ExtN.of s2))).get (h i σ _ ok.1)
    exact ⟨p1, v1, (k : Int), y, e1, e2, SqT.of (s2 _ _ (msk_of h1).1), atI_nat hy, q _ _ (s1.trans s2) ry⟩⟩⟩
theorem er_join (E : Env Ev) {x : ι → Str} {ys : ι → List Str} {apos : Pos} (ho : PE X o (tR Ev M fun i => oS (x i))) (he : PE X e (tR Ev M fun i => oSL (ys i))) (l : ∀ i σ H, Ev i σ H → ((ys i).map (·.length)).sum + (ys i).length * (x i).length ≤ 16777216)
    (hs : starEach [e] X.env = [(false, eval e X.env)] := by rfl) (hbase : attributeBase o "join" X.env (eval o X.env) = eval o X.env := by rfl) (hline : (apos.endLine == pos.line) = true := by rfl) :
    PE X (.Call (.Attribute o "join" apos) [e] [] pos) (tR Ev M fun i => oS (Txt.join (x i) (ys i))) :=
  pe_mono (pe_join ho he hs hbase hline) fun σ H Q ⟨i, ok, q⟩ => ⟨i, ok, fun v H1 s1 e1 => ⟨⟨_, e1⟩, i, ok.same E s1, fun u H2 s2 r2 => by
    obtain ⟨p, e2, h2⟩ := oSL_iff.mp r2
    subst e2
    exact ⟨x i, p, ys i, e1, rfl, .inl (SqL.of (msk_of h2).1), l i σ _ ok.1, q _ _ (s1.trans s2) rfl⟩⟩⟩
theorem ea_nil : PA X [] (tRA Ev M fun _ => []) := pa_mono pa_nil fun σ H Q ⟨i, ok, q⟩ => q [] H (Same.refl H) trivial
theorem ea_cons (E : Env Ev) {r : ι → Rd} {rs : ι → List Rd} (he : PE X e (tR Ev M r)) (ht : PA X es (tRA Ev M rs)) (hs : starEach (e :: es) X.env = (false, eval e X.env) :: starEach es X.env := by rfl) : PA X (e :: es) (tRA Ev M fun i => r i :: rs i) :=
  pa_mono (pa_cons he ht hs) fun σ H Q ⟨i, ok, q⟩ => ⟨i, ok, fun v H1 s1 e1 => ⟨i, ok.same E s1, fun vs H2 s2 e2 => q _ _ (s1.trans s2) ⟨(r i).st _ _ _ (msk_ext (LamX.ExtN.of s2)) e1, e2⟩⟩⟩
theorem er_lst (E : Env Ev) {rs : ι → List Rd} (h : PA X es (tRA Ev M rs)) (l : ∀ i σ H, Ev i σ H → (rs i).length ≤ sizeLine) : PE X (.List es pos) (tR Ev M fun i => oL (rs i)) :=
  pe_mono (pe_lst h) fun σ H Q ⟨i, ok, q⟩ => ⟨i, ok, fun vs H1 s1 a1 => ⟨by rw [a1.len]; exact l i σ _ ok.1, fun p hp => q _ _ (s1.trans (same_new hp)) ⟨p, vs, rfl, msk_new (ok.same E s1).2 hp, a1.st (msk_ext (LamX.ExtN.of (same_new hp)))⟩⟩⟩
theorem er_tup (E : Env Ev) {rs : ι → List Rd} {x1} (h : PA X es (tRA Ev M rs)) (l : ∀ i σ H, Ev i σ H → (rs i).length ≤ sizeLine) : PE X (.Tuple es x1 pos) (tR Ev M fun i => oT (rs i)) :=
  pe_mono (pe_tup h) fun σ H Q ⟨i, ok, q⟩ => ⟨i, ok, fun vs H1 s1 a1 => ⟨by rw [a1.len]; exact l i σ _ ok.1, fun p hp => q _ _ (s1.trans (same_new hp)) ⟨p, vs, rfl, msk_new (ok.same E s1).2 hp, a1.st (msk_ext (LamX.ExtN.of (same_new hp)))⟩⟩⟩
end
/-! ### a list that grows -/
def Grow (M : List Addr) (b : Addr) (rs : List Rd) (H : Hp) : Prop := ∃ vs, H b = some (.lst vs) ∧ All2 rs vs (msk M H)
theorem Grow.ext {M : List Addr} {b : Addr} {rs : List Rd} {H H' : Hp} (h : Grow M b rs H) (x : LamX.ExtN H H') : Grow M b rs H' := by
  obtain ⟨vs, e, a⟩ := h
  exact ⟨vs, x b _ e (fun _ z => by cases z), a.st (msk_ext x)⟩
def tGrow (Ev : ι → L2.St → Hp → Prop) (M : ι → List Addr) (k : Nat) (r : ι → List Rd) : TS := fun D σ H => ∃ i b rs, σ[k]? = some (some (.ref b)) ∧ b ∈ M i ∧ EOk Ev M i σ H ∧ Grow (M i) b rs H ∧ rs.length + (r i).length < sizeLine ∧
  ∀ H', EOk Ev M i σ H' → Grow (M i) b (rs ++ r i) H' → LamX.ExtN (msk (M i) H) (msk (M i) H') → D.nx σ H'
theorem Live.upd {M : List Addr} {H : Hp} {b : Addr} {vs : List V} (h : Live M H) : Live M (L2.upd H b (.lst vs)) := fun c hc => by
  by_cases z : c = b
  · rw [z, upd_same]; exact ⟨_, rfl⟩
  · rw [upd_ne z]; exact h c hc
section
variable {X : Cx} {e : Expr} {pos apos pos' : Pos} {y : Str} {py : Pos}
theorem es_append (E : Env Ev) {r : ι → Rd} (k : Nat) (he : PE X e (tR Ev M r)) (hN : X.N[k]? = some y := by rfl) (hv : Vis X.env.scope y := by first | exact Or.inl rfl | exact Or.inr (Or.inl rfl) | exact Or.inr (Or.inr rfl)) (hd : (y == ("__debug__" : Str)) = false := by decide)
    (hcd : (y == ("__classdict__" : Str)) = false := by decide) (hs : swapsWith (.Call (.Attribute (.Name y py) "append" apos) [e] [] pos) none pos'.line X.env = pure false := by rfl)
    (hbase : attributeBase (.Name y py) "append" X.env (eval (.Name y py) X.env) = eval (.Name y py) X.env := by rfl)
    (hfew : ((backTo pos (starEach [e] X.env)).all (fun x => !x.1) && (backToKw pos (keywordEach [] X.env)).all (fun x => x.1.isSome)
      && decide (([e] : List Expr).length + ([] : List Keyword).length + (if ([] : List Keyword).isEmpty then 0 else 1) < 30)) = true := by rfl)
    (hline : (apos.endLine == pos.line) = true := by rfl) (hst : starEach [e] X.env = (false, eval e X.env) :: starEach [] X.env := by rfl) (hplain : (backTo pos (starEach [] X.env)).any (·.1) = false := by rfl) :
    PS X (.Expr (.Call (.Attribute (.Name y py) "append" apos) [e] [] pos) pos') (tGrow Ev M k fun i => [r i]) := by
  refine ⟨fun pins s σ H D I ⟨i, b, rs, hb, hm, ok, ⟨vs, e1, a1⟩, l, q⟩ => ?_⟩
  refine (ps_expr (pe_bm PySem.F.plainAttrs_list PySem.F.slot_list_append PySem.F.type_list_append mt_append (pe_var hN hv hd hcd) (pa_cons he pa_nil hst) hbase hfew hline hst hplain) hs).run pins s σ H D I ?_
  refine ⟨_, hb, .inl ⟨rfl, _, SqL.of e1⟩, i, ok, fun v H1 s1 r1 => ⟨b, vs, v, rfl, rfl, s1 _ _ e1, ?_, ?_⟩⟩
  · rw [a1.len]
    have z : rs.length + 1 < sizeLine := l
    omega
  · have ok1 := ok.same E s1
    refine q _ ⟨?_, ok1.2.upd⟩ ⟨_, upd_same, ?_⟩ ?_
    · rw [msk_upd hm]; exact ok1.1
    · rw [msk_upd hm]
      exact (a1.st (msk_ext (LamX.ExtN.of s1))).app ⟨r1, trivial⟩
    · rw [msk_upd hm]
      exact msk_ext (LamX.ExtN.of s1)
theorem es_extend (E : Env Ev) {r : ι → List Rd} (k : Nat) (he : PE X e (tR Ev M fun i => oL (r i))) (hN : X.N[k]? = some y := by rfl) (hv : Vis X.env.scope y := by first | exact Or.inl rfl | exact Or.inr (Or.inl rfl) | exact Or.inr (Or.inr rfl)) (hd : (y == ("__debug__" : Str)) = false := by decide)
    (hcd : (y == ("__classdict__" : Str)) = false := by decide) (hs : swapsWith (.Call (.Attribute (.Name y py) "extend" apos) [e] [] pos) none pos'.line X.env = pure false := by rfl)
    (hbase : attributeBase (.Name y py) "extend" X.env (eval (.Name y py) X.env) = eval (.Name y py) X.env := by rfl)
    (hfew : ((backTo pos (starEach [e] X.env)).all (fun x => !x.1) && (backToKw pos (keywordEach [] X.env)).all (fun x => x.1.isSome)
      && decide (([e] : List Expr).length + ([] : List Keyword).length + (if ([] : List Keyword).isEmpty then 0 else 1) < 30)) = true := by rfl)
    (hline : (apos.endLine == pos.line) = true := by rfl) (hst : starEach [e] X.env = (false, eval e X.env) :: starEach [] X.env := by rfl) (hplain : (backTo pos (starEach [] X.env)).any (·.1) = false := by rfl) :
    PS X (.Expr (.Call (.Attribute (.Name y py) "extend" apos) [e] [] pos) pos') (tGrow Ev M k r) := by
  refine ⟨fun pins s σ H D I ⟨i, b, rs, hb, hm, ok, ⟨vs, e1, a1⟩, l, q⟩ => ?_⟩
  refine (ps_expr (pe_bm PySem.F.plainAttrs_list PySem.F.slot_list_extend PySem.F.type_list_extend mt_extend (pe_var hN hv hd hcd) (pa_cons he pa_nil hst) hbase hfew hline hst hplain) hs).run pins s σ H D I ?_
  refine ⟨_, hb, .inl ⟨rfl, _, SqL.of e1⟩, i, ok, fun v H1 s1 ⟨c, us, ec, e2, a2⟩ => ?_⟩
  subst ec
  refine ⟨b, c, vs, us, rfl, rfl, s1 _ _ e1, (msk_of e2).1, ?_, ?_⟩
  · rw [a1.len, a2.len]
    omega
  · have ok1 := ok.same E s1
    refine q _ ⟨?_, ok1.2.upd⟩ ⟨_, upd_same, ?_⟩ ?_
    · rw [msk_upd hm]; exact ok1.1
    · rw [msk_upd hm]
      exact (a1.st (msk_ext (LamX.ExtN.of s1))).app a2
    · rw [msk_upd hm]
      exact msk_ext (LamX.ExtN.of s1)
end
end
end MX

set_option Elab.async false
set_option linter.all false
set_option maxRecDepth 100000
set_option maxHeartbeats 4000000
namespace MX
open PySem PySem.Spec PySem.W PySem.Calls PyProof.Rows L2
section
variable {ι : Type} {Ev : ι → L2.St → Hp → Prop} {M : ι → List Addr} {X : Cx} {e : Expr} {pos : Pos}
theorem er_v {k : Nat} (hv : PE X e (tVar k)) {r : ι → Rd} (h : ∀ i σ H, Ev i σ H → ∃ v, σ[k]? = some (some v) ∧ (r i).R v H) : PE X e (tR Ev M r) := pe_mono hv fun σ H Q ⟨i, ok, q⟩ => by
  obtain ⟨v, e, hr⟩ := h i σ _ ok.1
  exact ⟨v, e, q v H (Same.refl H) hr⟩
/-- a state with a line in the slot k -/
def EvL (Ev : ι → L2.St → Hp → Prop) (k : Nat) (j : ι × Str) (σ : L2.St) (H : Hp) : Prop := Ev j.1 σ H ∧ σ[k]? = some (some (.str j.2))
theorem EvL.env (E : Env Ev) (k : Nat) : Env (EvL Ev k) := fun j σ H H' s h => ⟨E j.1 σ H H' s h.1, h.2⟩
/-- for line in (texts): b.append(..) -/
theorem rows_loop (E : Env Ev) {K : PySem.W.Frag} {L : ι → List Str} {row : ι → Str → Rd} {k7 k8 : Nat} (h78 : k8 ≠ k7) (hset : ∀ i σ u H, Ev i σ H → Ev i (σ.set k8 u) H) (hlen : ∀ i σ H, Ev i σ H → k8 < σ.length) {D : Ends} {σ : L2.St} {H : Hp}
    (h : ∃ i b rs, σ[k7]? = some (some (.ref b)) ∧ b ∈ M i ∧ EOk Ev M i σ H ∧ Grow (M i) b rs H ∧ rs.length + (L i).length < sizeLine ∧
      ∀ σ' H', σ'[k7]? = some (some (.ref b)) → EOk Ev M i σ' H' → Grow (M i) b (rs ++ (L i).map (row i)) H' → D.nx σ' H') :
    tFor (iTup K (tR Ev M fun i => oT ((L i).map oS))) (gName k8) (tGrow (EvL Ev k8) (fun j => M j.1) k7 (fun j => [row j.1 j.2])) D σ H := by
  obtain ⟨i, b, rs, hb, hm, ok, gr, hl, q⟩ := h
  refine ⟨i, ok, fun v H1 s1 ⟨a, vs, ev, ea, al⟩ => ?_⟩
  subst ev
  obtain rfl := all_oS.mp al
  refine ⟨a, rfl, ⟨_, SqT.of (msk_of ea).1⟩, for_tup (xs := (L i).map V.str) (fun n σ' H' => σ'[k7]? = some (some (.ref b)) ∧ EOk Ev M i σ' H' ∧ Grow (M i) b (rs ++ ((L i).take n).map (row i)) H' ∧ msk (M i) H' a = some (.tup ((L i).map V.str)))
    ⟨hb, ok.same E s1, by rw [List.take_zero, List.map_nil, List.append_nil]; exact gr.ext (LamX.ExtN.of s1), ea⟩ (fun n σ' H' _ z => SqT.of (msk_of z.2.2.2).1) ?_ ?_⟩
  · rintro n x σ' H' hx ⟨hb', ok', gr', ea'⟩
    rw [List.getElem?_map] at hx
    obtain ⟨y, hy, rfl⟩ := Option.map_eq_some_iff.mp hx
    have hn : n < (L i).length := (List.getElem?_eq_some_iff.mp hy).1
    refine ⟨(i, y), b, _, ?_, hm, ⟨⟨hset i σ' _ _ ok'.1, ?_⟩, ok'.2⟩, gr', ?_, fun H2 ok2 gr2 x2 => ⟨?_, ⟨ok2.1.1, ok2.2⟩, ?_, x2 _ _ ea' (fun _ z => by cases z)⟩⟩
    · rw [List.getElem?_set_ne h78]; exact hb'
    · rw [List.getElem?_set_self (hlen i σ' _ ok'.1)]
    · simp only [List.length_append, List.length_map, List.length_take, List.length_cons, List.length_nil]
      have z := Nat.min_le_left n (L i).length
      omega
    · rw [List.getElem?_set_ne h78]; exact hb'
    · have e1 : (L i).take (n + 1) = (L i).take n ++ [y] := by
        rw [List.take_add_one, hy]
        rfl
      rw [e1, List.map_append, ← List.append_assoc]
      exact gr2
  · rintro σ' H' ⟨hb', ok', gr', _⟩
    rw [List.length_map, List.take_length] at gr'
    exact q σ' H' hb' ok' gr'
end
end MX

set_option Elab.async false
set_option linter.all false
set_option maxRecDepth 100000
set_option maxHeartbeats 4000000
namespace MX
open PySem PySem.Spec PySem.W PySem.Calls PyProof.Rows L2
/-! ### states told slot by slot -/
section
variable {ι : Type} {P : ι → Prop} {Γ : ι → List (Option Rd)} {M : ι → List Addr} {X : Cx}
abbrev Gm := List (Option Rd)
structure EvT (P : ι → Prop) (Γ : ι → Gm) (i : ι) (σ : L2.St) (H : Hp) : Prop where
  p : P i
  l : σ.length = (Γ i).length
  at_ : ∀ (k : Nat) (r : Rd), (Γ i)[k]? = some (some r) → ∃ v, σ[k]? = some (some v) ∧ r.R v H
theorem evT : Env (EvT P Γ) := fun i σ H H' s h => ⟨h.p, h.l, fun k r e => by
  obtain ⟨v, e1, e2⟩ := h.at_ k r e
  exact ⟨v, e1, r.st _ _ _ (LamX.ExtN.of s) e2⟩⟩
/-- another telling of the same state -/
theorem EvT.as {ι' : Type} {P' : ι' → Prop} {Γ' : ι' → Gm} {i : ι} {i' : ι'} {σ : L2.St} {H : Hp} (h : EvT P Γ i σ H) (p : P' i') (l : (Γ' i').length = (Γ i).length) (g : ∀ (k : Nat) (r : Rd), (Γ' i')[k]? = some (some r) → (Γ i)[k]? = some (some r)) : EvT P' Γ' i' σ H :=
  ⟨p, h.l.trans l.symm, fun k r e => h.at_ k r (g k r e)⟩
theorem EvT.set {i : ι} {σ : L2.St} {H : Hp} (h : EvT P Γ i σ H) (k : Nat) {r : Rd} {v : V} (hr : r.R v H) {Γ' : ι → Gm} (hΓ : Γ' i = (Γ i).set k (some r)) : EvT P Γ' i (σ.set k (some v)) H :=
  ⟨h.p, by rw [hΓ, List.length_set, List.length_set]; exact h.l, fun j q e => by
    rw [hΓ] at e
    by_cases c : k = j
    · subst c
      have hk : k < (Γ i).length := by
        by_cases z : k < (Γ i).length
        · exact z
        · rw [List.getElem?_eq_none (by rw [List.length_set]; omega)] at e; cases e
      rw [List.getElem?_set_self hk] at e
      have e' : r = q := Option.some.inj (Option.some.inj e)
      subst e'
      exact ⟨v, by rw [List.getElem?_set_self (by rw [h.l]; exact hk)], hr⟩
    · rw [List.getElem?_set_ne c] at e ⊢
      exact h.at_ j q e⟩
theorem EvT.wipe {i : ι} {σ : L2.St} {H : Hp} (h : EvT P Γ i σ H) : ∀ (vs : List Nat), (∀ k ∈ vs, (Γ i)[k]? = some none) → EvT P Γ i (L2.wipe σ vs) H
  | [], _ => h
  | k :: vs, hv => by
    have z := EvT.wipe h vs fun j hj => hv j (List.mem_cons_of_mem _ hj)
    have hk := hv k List.mem_cons_self
    refine ⟨z.p, by rw [wipe_length]; exact h.l, fun j q e => ?_⟩
    have c : k ≠ j := fun c => by rw [← c, hk] at e; cases e
    show ∃ v, ((L2.wipe σ vs).set k none)[j]? = some (some v) ∧ q.R v H
    rw [List.getElem?_set_ne c]
    exact z.at_ j q e
theorem et_var {x : Str} {r : ι → Rd} {pos : Pos} (k : Nat) (h : ∀ i, (Γ i)[k]? = some (some (r i)) := by intro _; rfl) (hN : X.N[k]? = some x := by rfl) (hv : Vis X.env.scope x := by first | exact Or.inl rfl | exact Or.inr (Or.inl rfl) | exact Or.inr (Or.inr rfl)) (hd : (x == ("__debug__" : Str)) = false := by decide)
    (hcd : (x == ("__classdict__" : Str)) = false := by decide) : PE X (.Name x pos) (tR (EvT P Γ) M r) := er_v (pe_var hN hv hd hcd) fun i σ H e => e.at_ k (r i) (h i)
/-! ### bodies -/
/-- the body gives back what r tells -/
def tRt (M : ι → List Addr) (P : ι → Prop) (Γ : ι → Gm) (r : ι → Rd) : TS := fun D σ H => ∃ i, EOk (EvT P Γ) M i σ H ∧ ∀ v H', Same H H' → (r i).R v (msk (M i) H') → D.rt v H'
variable {r res : ι → Rd} {e c : Expr} {a : List Stmt} {rest : List Stmt} {pos pos' : Pos}
theorem pss_mono {X : Cx} {st : List Stmt} {t t' : TS} (h : PSs X st t) (m : ∀ D σ H, t' D σ H → t D σ H) : PSs X st t' := ⟨fun pins s σ H D I q => h.run pins s σ H D I (m D σ H q)⟩
theorem bd_ret (he : PE X e (tR (EvT P Γ) M res)) : PSs X [.Return (some e) pos] (tRt M P Γ res) := pss_mono (pss_one (ps_ret he)) fun D σ H ⟨i, ok, q⟩ => ⟨i, ok, q⟩
theorem bd_set {k : Nat} {x : Str} (hN : X.N.Nodup) (he : PE X e (tR (EvT P Γ) M r)) (hr : PSs X rest (tRt M P (fun i => (Γ i).set k (some (r i))) res)) (hi : X.N[k]? = some x := by rfl) (hx : Loc X.env.scope x := by first | exact Or.inl rfl | exact Or.inr rfl) (hs : swapsWith e (some (.Name x pos')) pos.line X.env = pure false := by rfl)
    (hf : X.fn x = true ∨ X.env.scope.names.lookup x = some .local := by first | exact .inl rfl | exact .inr rfl) : PSs X (.Assign [.Name x pos'] e pos :: rest) (tRt M P Γ res) :=
  pss_mono (pss_cons (ps_set hN hi hx he hs hf) hr) fun D σ H ⟨i, ok, q⟩ => ⟨i, ok, fun v H1 s1 rv => ⟨i, ⟨(ok.same evT s1).1.set k rv rfl, (ok.same evT s1).2⟩, fun u H2 s2 ru => q u H2 (s1.trans s2) ru⟩⟩
/-- if c: .., c being false here -/
theorem bd_skip (hc : PE X c (tR (EvT P Γ) M fun _ => ⟨fun v _ => v = .bl false, fun _ _ _ _ h => h⟩)) (hr : PSs X rest (tRt M P Γ res)) (hw : ∀ whole, isTrue c X.env whole = (do let v ← whole; standAt c.pos; holding [v] (truthy v)) := by intro _; rfl) : PSs X (.If c a [] pos :: rest) (tRt M P Γ res) :=
  pss_mono (pss_cons (ps_if (pt_val hc hw) pss_never pss_nil) hr) fun D σ H ⟨i, ok, q⟩ => ⟨i, ok, fun v H1 s1 rv => ⟨false, rv, by
    show if false = true then _ else _
    exact iteF ⟨i, ok.same evT s1, fun u H2 s2 ru => q u H2 (s1.trans s2) ru⟩⟩⟩
/-! ### bools -/
def oB (b : Bool) : Rd := ⟨fun v _ => v = .bl b, fun _ _ _ _ h => h⟩
def oN : Rd := ⟨fun v _ => v = .non, fun _ _ _ _ h => h⟩
/-- the same, P known further -/
def andP (P Q : ι → Prop) : ι → Prop := fun i => P i ∧ Q i
theorem bd_skipF (hc : PE X c (tR (EvT P Γ) M fun _ => oB false)) (hr : PSs X rest (tRt M P Γ res)) (hw : ∀ whole, isTrue c X.env whole = (do let v ← whole; standAt c.pos; holding [v] (truthy v)) := by intro _; rfl) : PSs X (.If c a [] pos :: rest) (tRt M P Γ res) := bd_skip hc hr hw
/-- if c: a return; what follows else -/
theorem bd_if {b : ι → Bool} (hc : PE X c (tR (EvT P Γ) M fun i => oB (b i))) (h1 : PSs X a (tRt M (fun i => P i ∧ b i = true) Γ res)) (h2 : PSs X rest (tRt M (fun i => P i ∧ b i = false) Γ res)) (hw : ∀ whole, isTrue c X.env whole = (do let v ← whole; standAt c.pos; holding [v] (truthy v)) := by intro _; rfl) :
    PSs X (.If c a [] pos :: rest) (tRt M P Γ res) :=
  pss_mono (pss_cons (ps_if (pt_val hc hw) h1 pss_nil) h2) fun D σ H ⟨i, ok, q⟩ => ⟨i, ok, fun v H1 s1 rv => ⟨b i, rv, by
    have ok1 := ok.same evT s1
    cases hb : b i with
    | true => exact iteT ⟨i, ⟨ok1.1.as ⟨ok.1.p, hb⟩ rfl fun _ _ e => e, ok1.2⟩, fun u H2 s2 ru => q u H2 (s1.trans s2) ru⟩
    | false => exact iteF ⟨i, ⟨ok1.1.as ⟨ok.1.p, hb⟩ rfl fun _ _ e => e, ok1.2⟩, fun u H2 s2 ru => q u H2 (s1.trans s2) ru⟩⟩⟩
theorem er_bl {Ev : ι → L2.St → Hp → Prop} {b : Bool} {j} : PE X (.Constant (.bool b) j pos) (tR Ev M fun _ => oB b) := pe_mono pe_bl fun σ H Q ⟨i, _, k⟩ => k _ _ (Same.refl H) rfl
theorem er_to {Ev : ι → L2.St → Hp → Prop} {r' : ι → Rd} (h : PE X e (tR Ev M r)) (m : ∀ i σ H, Ev i σ H → ∀ v H', (r i).R v H' → (r' i).R v H') : PE X e (tR Ev M r') := pe_mono h fun σ H Q ⟨i, ok, q⟩ => ⟨i, ok, fun v H1 s1 rv => q v H1 s1 (m i σ _ ok.1 v _ rv)⟩
theorem et_to {r' : ι → Rd} (h : PE X e (tR (EvT P Γ) M r)) (m : ∀ i, P i → r i = r' i) : PE X e (tR (EvT P Γ) M r') := er_to h fun i σ H ev v H' q => by rw [← m i ev.p]; exact q
/-- a and b -/
theorem et_and {p q : ι → Bool} {a b : Expr} {more : List Expr} (ha : PE X a (tR (EvT P Γ) M fun i => oB (p i))) (hb : PE X (.BoolOp .And (b :: more) pos) (tR (EvT (fun i => P i ∧ p i = true) Γ) M fun i => oB (q i))) : PE X (.BoolOp .And (a :: b :: more) pos) (tR (EvT P Γ) M fun i => oB (p i && q i)) :=
  pe_mono (pe_and ha hb) fun σ H Q ⟨i, ok, k⟩ => ⟨i, ok, fun v H1 s1 rv => ⟨p i, rv, by
    have ok1 := ok.same evT s1
    cases hp : p i with
    | true => exact iteT ⟨i, ⟨ok1.1.as ⟨ok.1.p, hp⟩ rfl fun _ _ e => e, ok1.2⟩, fun u H2 s2 ru => k u H2 (s1.trans s2) (by show u = V.bl _; rw [hp]; exact ru)⟩
    | false => exact iteF (k _ _ s1 (by show V.bl _ = V.bl _; rw [hp]; rfl))⟩⟩
theorem et_or {p q : ι → Bool} {a b : Expr} {more : List Expr} (ha : PE X a (tR (EvT P Γ) M fun i => oB (p i))) (hb : PE X (.BoolOp .Or (b :: more) pos) (tR (EvT (fun i => P i ∧ p i = false) Γ) M fun i => oB (q i))) : PE X (.BoolOp .Or (a :: b :: more) pos) (tR (EvT P Γ) M fun i => oB (p i || q i)) :=
  pe_mono (pe_or ha hb) fun σ H Q ⟨i, ok, k⟩ => ⟨i, ok, fun v H1 s1 rv => ⟨p i, rv, by
    have ok1 := ok.same evT s1
    cases hp : p i with
    | true => exact iteT (k _ _ s1 (by show V.bl _ = V.bl _; rw [hp]; rfl))
    | false => exact iteF ⟨i, ⟨ok1.1.as ⟨ok.1.p, hp⟩ rfl fun _ _ e => e, ok1.2⟩, fun u H2 s2 ru => k u H2 (s1.trans s2) (by show u = V.bl _; rw [hp]; exact ru)⟩⟩⟩
theorem et_one {op} {a : Expr} (h : PE X a (tR (EvT P Γ) M r)) : PE X (.BoolOp op [a] pos) (tR (EvT P Γ) M r) := pe_one h
section
variable {Ev : ι → L2.St → Hp → Prop}
theorem er_not {p : ι → Bool} {a : Expr} (ha : PE X a (tR Ev M fun i => oB (p i))) : PE X (.UnaryOp .Not a pos) (tR Ev M fun i => oB (!p i)) :=
  pe_mono (pe_not ha) fun σ H Q ⟨i, ok, k⟩ => ⟨i, ok, fun v H1 s1 rv => ⟨p i, rv, k _ _ s1 rfl⟩⟩
/-- a comparison of what both sides tell -/
theorem er_cmp (E : Env Ev) {op : CmpOp} {rr : R2} {a b : Expr} {x y : ι → Rd} {res : ι → Rd} (ho : OpR X (compareOp op) rr) (ha : PE X a (tR Ev M x)) (hb : PE X b (tR Ev M y)) (h1 : behindInMarks op b = false)
    (h : ∀ i σ H, Ev i σ (msk (M i) H) → ∀ v u, (x i).R v (msk (M i) H) → (y i).R u (msk (M i) H) → ∀ Q : VK, (∀ w, (res i).R w (msk (M i) H) → Q w H) → rr v u H Q) : PE X (.Compare a [op] [b] pos) (tR Ev M res) :=
  pe_mono (pe_cmpR ho ha hb h1) fun σ H Q ⟨i, ok, k⟩ => ⟨i, ok, fun v H1 s1 rv => ⟨i, ok.same E s1, fun u H2 s2 ru => h i σ H2 ((ok.same E s1).same E s2).1 v u ((x i).st _ _ _ (msk_ext (LamX.ExtN.of s2)) rv) ru Q fun w rw' => k w H2 (s1.trans s2) rw'⟩⟩
/-- texts -/
theorem er_eqS (E : Env Ev) {a b : Expr} {x y : ι → Str} (ha : PE X a (tR Ev M fun i => oS (x i))) (hb : PE X b (tR Ev M fun i => oS (y i))) (h1 : behindInMarks .Eq b = false := by first | exact nobehind _ (by decide) (by decide) | rfl) : PE X (.Compare a [.Eq] [b] pos) (tR Ev M fun i => oB (decide (x i = y i))) :=
  er_cmp E op_eq ha hb h1 fun i σ H ev v u rv ru Q q => by
    have e1 : v = .str (x i) := rv
    have e2 : u = .str (y i) := ru
    subst e1 e2
    refine ⟨rfl, q _ ?_⟩
    show V.bl _ = V.bl _
    congr 1
    exact decide_eq_decide.mpr ⟨V.str.inj, congrArg V.str⟩
theorem er_neS (E : Env Ev) {a b : Expr} {x y : ι → Str} (ha : PE X a (tR Ev M fun i => oS (x i))) (hb : PE X b (tR Ev M fun i => oS (y i))) (h1 : behindInMarks .NotEq b = false := by first | exact nobehind _ (by decide) (by decide) | rfl) : PE X (.Compare a [.NotEq] [b] pos) (tR Ev M fun i => oB (!decide (x i = y i))) :=
  er_cmp E op_ne ha hb h1 fun i σ H ev v u rv ru Q q => by
    have e1 : v = .str (x i) := rv
    have e2 : u = .str (y i) := ru
    subst e1 e2
    refine ⟨rfl, q _ ?_⟩
    show V.bl _ = V.bl _
    congr 2
    exact decide_eq_decide.mpr ⟨V.str.inj, congrArg V.str⟩
end
end
end MX

set_option Elab.async false
set_option linter.all false
set_option maxRecDepth 100000
set_option maxHeartbeats 4000000
namespace MX
open PySem PySem.Spec PySem.W PySem.Calls PyProof.Rows L2
theorem msk_cons {M : List Addr} {H H' : Hp} {D : Addr} (s : Same H H') (n : H D = none) : Same (msk M H) (msk (D :: M) H') := fun b o e => by
  obtain ⟨e, c⟩ := msk_of e
  rw [msk_in (fun z => (List.mem_cons.mp z).elim (fun z => by rw [z, n] at e; cases e) c)]
  exact s b o e
theorem msk_less {M : List Addr} {H : Hp} {D : Addr} : Same (msk (D :: M) H) (msk M H) := fun b o e => by
  obtain ⟨e, c⟩ := msk_of e
  rw [msk_in (fun z => c (List.mem_cons_of_mem _ z))]
  exact e
theorem all_map {α : Type} {f g : α → Rd} {xs : List α} {vs : List V} {H : Hp} (h : All2 (xs.map f) vs H) (m : ∀ x ∈ xs, ∀ v, (f x).R v H → (g x).R v H) : All2 (xs.map g) vs H := by
  induction xs generalizing vs with
  | nil => exact h
  | cons x xs ih =>
    match vs, h with
    | v :: vs, h => exact ⟨m x List.mem_cons_self v h.1, ih h.2 fun y hy => m y (List.mem_cons_of_mem _ hy)⟩
section
variable {ι : Type} {Ev : ι → L2.St → Hp → Prop} {M : ι → List Addr} {X : Cx}
/-- [elt for target in a list], whatever the target -/
theorem er_lcG {α : Type} (E : Env Ev) {EvE : ι × α × Addr → L2.St → Hp → Prop} {xs : ι → List α} {r res : ι → α → Rd} {elt tg iter : Expr} {scope : Scope} {own : List (Str × Nat)} {pos : Pos} {g : TG} (hc : X.calm = true) (hN : X.N.Nodup)
    (hi : PE X iter (tR Ev M fun i => oL ((xs i).map (r i)))) (ok : BlkOk X.N X.env.scope scope own)
    (hg : ∀ (s : Shared) (H : Hp) (C : Addr) (cl : List (Str × Addr)) (fp : List Addr), PG (X.blk s H scope (compEnvC scope cl C X.env) fp) tg g)
    (he : ∀ (s : Shared) (H : Hp) (C : Addr) (cl : List (Str × Addr)) (fp : List Addr), PE (X.blk s H scope (compEnvC scope cl C X.env) fp) elt (tR EvE (fun j => j.2.2 :: M j.1) fun j => res j.1 j.2.1))
    (htg : ∀ (j : ι × α × Addr) σ v Hm H (Q : L2.St → Hp → Prop), Ev j.1 σ Hm → j.2.1 ∈ xs j.1 → (r j.1 j.2.1).R v Hm → Same Hm H → (∀ σ', wipe σ' (own.map (·.2)) = wipe σ (own.map (·.2)) → EvE j σ' Hm → Q σ' H) → g v (wipe σ (own.map (·.2))) H Q)
    (few : ∀ i σ H, Ev i σ H → (xs i).length ≤ 1000000) (hs : ∀ x, foldedSetIterable iter X.env x = pure x := by intro _; rfl) :
    PE X (.ListComp elt [⟨tg, iter, [], 0⟩] scope pos) (tR Ev M fun i => oL ((xs i).map (res i))) := by
  refine pe_mono (pe_lc (tt := tYes) hc hN (pi_list hi) ok hg (fun _ _ _ _ _ => pts_nil) he hs) fun σ H Q ⟨i, okE, q⟩ => ?_
  refine ⟨i, okE, fun v H1 s1 ⟨a, vs, ev, ea, al⟩ => ⟨a, ev, ⟨_, SqL.of (msk_of ea).1⟩, fun D nD => lc_list (xs := vs)
    (fun n H' => ∃ ws, H' D = some (.lst ws) ∧ All2 (((xs i).take n).map (res i)) ws (msk (D :: M i) H') ∧ Same H1 H') ⟨[], upd_same, by rw [List.take_zero]; trivial, same_new nD⟩ (fun n H' _ ⟨_, _, _, z⟩ => SqL.of (z _ _ (msk_of ea).1)) ?_ ?_⟩⟩
  · rintro n x H' hx ⟨ws, eD, aw, sK⟩
    obtain ⟨rd, hr, rx⟩ := al.at hx
    rw [List.getElem?_map] at hr
    obtain ⟨y, hy, rfl⟩ := Option.map_eq_some_iff.mp hr
    have ok1 := okE.same E s1
    have sm : Same (msk (M i) H1) (msk (D :: M i) H') := msk_cons sK nD
    refine htg (i, y, D) σ x (msk (D :: M i) H') H' _ (E i σ _ _ sm ok1.1) (List.mem_of_getElem? hy) ((r i y).st _ _ _ (LamX.ExtN.of sm) rx) msk_sub fun σ' hw evE => ⟨hw, (i, y, D), ⟨evE, fun b hb => ?_⟩, fun yv H4 s4 ry => ?_⟩
    · rcases List.mem_cons.mp hb with hb | hb
      · rw [hb]; exact ⟨ws, eD⟩
      · obtain ⟨us, e⟩ := ok1.2 b hb
        exact ⟨us, sK _ _ e⟩
    · have hk := (List.getElem?_eq_some_iff.mp hy).1
      have hf := few i σ _ ok1.1
      refine ⟨ws, s4 _ _ eD, ?_, ws ++ [yv], upd_same, ?_, ?_⟩
      · rw [aw.len, List.length_map, List.length_take, sizeLine_eq]
        omega
      · rw [msk_upd List.mem_cons_self, take_snocE hy, List.map_append]
        exact (aw.st (msk_ext (LamX.ExtN.of s4))).app ⟨ry, trivial⟩
      · exact fun b o e => by
          rw [upd_ne (ne_of_none e nD)]
          exact s4 _ _ (sK b o e)
  · rintro H' ⟨ws, eD, aw, sK⟩
    rw [al.len, List.length_map, List.take_length] at aw
    have nM : D ∉ M i := (okE.same E s1).2.free nD
    exact q _ _ (s1.trans sK) ⟨D, ws, rfl, by rw [msk_in nM]; exact eD, aw.st (LamX.ExtN.of msk_less)⟩
/-- .. in a tuple -/
theorem er_lcT {α : Type} (E : Env Ev) {EvE : ι × α × Addr → L2.St → Hp → Prop} {xs : ι → List α} {r res : ι → α → Rd} {elt tg iter : Expr} {scope : Scope} {own : List (Str × Nat)} {pos : Pos} {g : TG} (hc : X.calm = true) (hN : X.N.Nodup)
    (hi : PE X iter (tR Ev M fun i => oT ((xs i).map (r i)))) (ok : BlkOk X.N X.env.scope scope own)
    (hg : ∀ (s : Shared) (H : Hp) (C : Addr) (cl : List (Str × Addr)) (fp : List Addr), PG (X.blk s H scope (compEnvC scope cl C X.env) fp) tg g)
    (he : ∀ (s : Shared) (H : Hp) (C : Addr) (cl : List (Str × Addr)) (fp : List Addr), PE (X.blk s H scope (compEnvC scope cl C X.env) fp) elt (tR EvE (fun j => j.2.2 :: M j.1) fun j => res j.1 j.2.1))
    (htg : ∀ (j : ι × α × Addr) σ v Hm H (Q : L2.St → Hp → Prop), Ev j.1 σ Hm → j.2.1 ∈ xs j.1 → (r j.1 j.2.1).R v Hm → Same Hm H → (∀ σ', wipe σ' (own.map (·.2)) = wipe σ (own.map (·.2)) → EvE j σ' Hm → Q σ' H) → g v (wipe σ (own.map (·.2))) H Q)
    (few : ∀ i σ H, Ev i σ H → (xs i).length ≤ 1000000) (hs : ∀ x, foldedSetIterable iter X.env x = pure x := by intro _; rfl) :
    PE X (.ListComp elt [⟨tg, iter, [], 0⟩] scope pos) (tR Ev M fun i => oL ((xs i).map (res i))) := by
  refine pe_mono (pe_lc (tt := tYes) hc hN (pi_tup hi) ok hg (fun _ _ _ _ _ => pts_nil) he hs) fun σ H Q ⟨i, okE, q⟩ => ?_
  refine ⟨i, okE, fun v H1 s1 ⟨a, vs, ev, ea, al⟩ => ⟨a, ev, ⟨_, SqT.of (msk_of ea).1⟩, fun D nD => lc_tup (xs := vs)
    (fun n H' => ∃ ws, H' D = some (.lst ws) ∧ All2 (((xs i).take n).map (res i)) ws (msk (D :: M i) H') ∧ Same H1 H') ⟨[], upd_same, by rw [List.take_zero]; trivial, same_new nD⟩ (fun n H' _ ⟨_, _, _, z⟩ => SqT.of (z _ _ (msk_of ea).1)) ?_ ?_⟩⟩
  · rintro n x H' hx ⟨ws, eD, aw, sK⟩
    obtain ⟨rd, hr, rx⟩ := al.at hx
    rw [List.getElem?_map] at hr
    obtain ⟨y, hy, rfl⟩ := Option.map_eq_some_iff.mp hr
    have ok1 := okE.same E s1
    have sm : Same (msk (M i) H1) (msk (D :: M i) H') := msk_cons sK nD
    refine htg (i, y, D) σ x (msk (D :: M i) H') H' _ (E i σ _ _ sm ok1.1) (List.mem_of_getElem? hy) ((r i y).st _ _ _ (LamX.ExtN.of sm) rx) msk_sub fun σ' hw evE => ⟨hw, (i, y, D), ⟨evE, fun b hb => ?_⟩, fun yv H4 s4 ry => ?_⟩
    · rcases List.mem_cons.mp hb with hb | hb
      · rw [hb]; exact ⟨ws, eD⟩
      · obtain ⟨us, e⟩ := ok1.2 b hb
        exact ⟨us, sK _ _ e⟩
    · have hk := (List.getElem?_eq_some_iff.mp hy).1
      have hf := few i σ _ ok1.1
      refine ⟨ws, s4 _ _ eD, ?_, ws ++ [yv], upd_same, ?_, ?_⟩
      · rw [aw.len, List.length_map, List.length_take, sizeLine_eq]
        omega
      · rw [msk_upd List.mem_cons_self, take_snocE hy, List.map_append]
        exact (aw.st (msk_ext (LamX.ExtN.of s4))).app ⟨ry, trivial⟩
      · exact fun b o e => by
          rw [upd_ne (ne_of_none e nD)]
          exact s4 _ _ (sK b o e)
  · rintro H' ⟨ws, eD, aw, sK⟩
    rw [al.len, List.length_map, List.take_length] at aw
    have nM : D ∉ M i := (okE.same E s1).2.free nD
    exact q _ _ (s1.trans sK) ⟨D, ws, rfl, by rw [msk_in nM]; exact eD, aw.st (LamX.ExtN.of msk_less)⟩
/-- all([..]) -/
theorem all_oB {H : Hp} : ∀ {bs : List Bool} {vs : List V}, All2 (bs.map oB) vs H → vs = bs.map V.bl
  | [], [], _ => rfl
  | b :: bs, v :: vs, h => by
    have e : v = .bl b := h.1
    rw [e, all_oB h.2]
    rfl
  | [], _ :: _, h => h.elim
  | _ :: _, [], h => h.elim
theorem er_all {x : Str} {e : Expr} {pos p : Pos} {bs : ι → List Bool} (hc : X.calm = true) (hg : Gl X x) (hm : X.mg x = none) (hv : bootBuiltins x = some (.builtin "all")) (h : PE X e (tR Ev M fun i => oL ((bs i).map oB))) (hn : x ≠ "__name__" := by decide) (hdb : (x == ("__debug__" : Str)) = false := by decide)
    (he : starEach [e] X.env = (false, eval e X.env) :: starEach [] X.env := by rfl) : PE X (.Call (.Name x p) [e] [] pos) (tR Ev M fun i => oB ((bs i).all id)) :=
  pe_mono (pe_callB (cr_all hc) hg hm hv (pa_cons h pa_nil he) hn hdb he rfl) fun σ H Q ⟨i, ok, q⟩ => ⟨i, ok, fun v H1 s1 ⟨a, vs, ev, ea, al⟩ => by
    obtain rfl := all_oB al
    exact ⟨a, bs i, by rw [ev], SqL.of (msk_of ea).1, q _ _ s1 rfl⟩⟩
/-- len(..) of a list, a tuple -/
theorem er_lenL {x : Str} {e : Expr} {pos p : Pos} {rs : ι → List Rd} (hg : Gl X x) (hm : X.mg x = none) (hv : bootBuiltins x = some (.builtin "len")) (h : PE X e (tR Ev M fun i => oL (rs i))) (hn : x ≠ "__name__" := by decide) (hdb : (x == ("__debug__" : Str)) = false := by decide)
    (he : starEach [e] X.env = (false, eval e X.env) :: starEach [] X.env := by rfl) : PE X (.Call (.Name x p) [e] [] pos) (tR Ev M fun i => oI ((rs i).length : Int)) :=
  pe_mono (pe_callB call_len_seq hg hm hv (pa_cons h pa_nil he) hn hdb he rfl) fun σ H Q ⟨i, ok, q⟩ => ⟨i, ok, fun v H1 s1 ⟨a, vs, ev, ea, al⟩ => ⟨a, vs, by rw [ev], .inl (SqL.of (msk_of ea).1), q _ _ s1 (by
    show V.int _ = V.int _
    rw [al.len])⟩⟩
theorem er_lenT {x : Str} {e : Expr} {pos p : Pos} {rs : ι → List Rd} (hg : Gl X x) (hm : X.mg x = none) (hv : bootBuiltins x = some (.builtin "len")) (h : PE X e (tR Ev M fun i => oT (rs i))) (hn : x ≠ "__name__" := by decide) (hdb : (x == ("__debug__" : Str)) = false := by decide)
    (he : starEach [e] X.env = (false, eval e X.env) :: starEach [] X.env := by rfl) : PE X (.Call (.Name x p) [e] [] pos) (tR Ev M fun i => oI ((rs i).length : Int)) :=
  pe_mono (pe_callB call_len_seq hg hm hv (pa_cons h pa_nil he) hn hdb he rfl) fun σ H Q ⟨i, ok, q⟩ => ⟨i, ok, fun v H1 s1 ⟨a, vs, ev, ea, al⟩ => ⟨a, vs, by rw [ev], .inr (SqT.of (msk_of ea).1), q _ _ s1 (by
    show V.int _ = V.int _
    rw [al.len])⟩⟩
/-- ints compared -/
theorem er_eqI (E : Env Ev) {a b : Expr} {pos : Pos} {x y : ι → Int} (ha : PE X a (tR Ev M fun i => oI (x i))) (hb : PE X b (tR Ev M fun i => oI (y i))) (h1 : behindInMarks .Eq b = false := by first | exact nobehind _ (by decide) (by decide) | rfl) : PE X (.Compare a [.Eq] [b] pos) (tR Ev M fun i => oB (decide (x i = y i))) :=
  er_cmp E op_eq ha hb h1 fun i σ H ev v u rv ru Q q => by
    have e1 : v = .int (x i) := rv
    have e2 : u = .int (y i) := ru
    subst e1 e2
    refine ⟨rfl, q _ ?_⟩
    show V.bl _ = V.bl _
    congr 1
    exact decide_eq_decide.mpr ⟨V.int.inj, congrArg V.int⟩
theorem er_neI (E : Env Ev) {a b : Expr} {pos : Pos} {x y : ι → Int} (ha : PE X a (tR Ev M fun i => oI (x i))) (hb : PE X b (tR Ev M fun i => oI (y i))) (h1 : behindInMarks .NotEq b = false := by first | exact nobehind _ (by decide) (by decide) | rfl) : PE X (.Compare a [.NotEq] [b] pos) (tR Ev M fun i => oB (!decide (x i = y i))) :=
  er_cmp E op_ne ha hb h1 fun i σ H ev v u rv ru Q q => by
    have e1 : v = .int (x i) := rv
    have e2 : u = .int (y i) := ru
    subst e1 e2
    refine ⟨rfl, q _ ?_⟩
    show V.bl _ = V.bl _
    congr 2
    exact decide_eq_decide.mpr ⟨V.int.inj, congrArg V.int⟩
theorem er_ltI (E : Env Ev) {a b : Expr} {pos : Pos} {x y : ι → Int} (ha : PE X a (tR Ev M fun i => oI (x i))) (hb : PE X b (tR Ev M fun i => oI (y i))) (h1 : behindInMarks .Lt b = false := by first | exact nobehind _ (by decide) (by decide) | rfl) : PE X (.Compare a [.Lt] [b] pos) (tR Ev M fun i => oB (decide (x i < y i))) :=
  er_cmp E op_lt ha hb h1 fun i σ H ev v u rv ru Q q => by
    have e1 : v = .int (x i) := rv
    have e2 : u = .int (y i) := ru
    subst e1 e2
    exact ⟨_, _, rfl, rfl, q _ rfl⟩
/-- bools compared -/
theorem er_eqB (E : Env Ev) {a b : Expr} {pos : Pos} {x y : ι → Bool} (ha : PE X a (tR Ev M fun i => oB (x i))) (hb : PE X b (tR Ev M fun i => oB (y i))) (h1 : behindInMarks .Eq b = false := by first | exact nobehind _ (by decide) (by decide) | rfl) : PE X (.Compare a [.Eq] [b] pos) (tR Ev M fun i => oB (decide (x i = y i))) :=
  er_cmp E op_eq ha hb h1 fun i σ H ev v u rv ru Q q => by
    have e1 : v = .bl (x i) := rv
    have e2 : u = .bl (y i) := ru
    subst e1 e2
    refine ⟨rfl, q _ ?_⟩
    show V.bl _ = V.bl _
    congr 1
    exact decide_eq_decide.mpr ⟨V.bl.inj, congrArg V.bl⟩
/-! ### calls of pure functions -/
def spE {κ : Type} (as : κ → List Rd) (res : κ → Rd) : Sp := fun vs H Q _ => ∃ i, All2 (as i) vs H ∧ ∀ v H', Same H H' → (res i).R v H' → Q v H'
theorem er_call {κ : Type} {k : Nat} {f : Addr} {fd : FuncData} {ps : List Str} {as : κ → List Rd} {rs : κ → Rd} {x : Str} {p pos : Pos} {e : Expr} {es : List Expr} (F : FnOk X.prog X.w X.K X.mg X.base CX0 k f fd ps (spE as rs)) (hr : Room k X.A) (hg : Gl X x) (hm : X.mg x = some (.ref f))
    (hk : PySem.W.keepIn X.K (.ref f) = true) (hb : Binds X.K fd ps []) (φ : ι → κ) (ha : PA X (e :: es) (tRA Ev (fun _ => []) fun i => as (φ i))) (hdb : (x == ("__debug__" : Str)) = false := by decide)
    (he : starEach (e :: es) X.env = (false, eval e X.env) :: starEach es X.env := by rfl) (hpl : (backTo pos (starEach es X.env)).any (·.1) = false := by rfl) :
    PE X (.Call (.Name x p) (e :: es) [] pos) (tR Ev (fun _ => []) fun i => rs (φ i)) :=
  pe_mono (pe_call F hr hg hm hk hb .nil pass0 ha hdb he hpl) fun σ H Q ⟨i, ok, q⟩ => ⟨i, ok, fun vs H1 s1 al => by
    show spE as rs (vs ++ []) H1 Q E0
    rw [List.append_nil]
    rw [msk_nil] at al
    exact ⟨φ i, al, fun v H2 s2 rv => q v H2 (s1.trans s2) (by rw [msk_nil]; exact rv)⟩⟩
end
end MX

set_option Elab.async false
set_option linter.all false
set_option maxRecDepth 100000
set_option maxHeartbeats 4000000
namespace MX
open PySem PySem.Spec PySem.W PySem.Calls PyProof.Rows L2
/-! ### dict comprehensions whose keys are tuples -/
theorem d_dictSetT {X : Cx} {pins : List (Addr × Obj)} {σ : L2.St} {H : Hp} {s : Shared} {E : Value → Shared → Prop} {D b : Addr} {kvs : List (List Key × V)} {k : List Key} {v : V} {u r : Value} {Q : Unit → Shared → Prop} (hu : X.A.units + 1 < cLine) (I : Inv X pins σ H s) (hD : H D = some (.dT kvs)) (eb : H b = some (.tup (k.map kV)))
    (hz : kvs.length < sizeLine) (ry : RelV (.ref b) u) (rv : RelV v r) (h : ∀ s', Inv X pins σ (L2.upd H D (.dT (putK kvs k v))) s' → Q () s') : wpAny (model X.prog X.w) X.A (dictSet D u r) Q E s := by
  cases (show u = Value.ref b from ry); obtain ⟨z, hd, xs, rel, dd⟩ := dt_of I.hok hD
  have z1 : xs.length ≤ sizeLine := by rw [← Paired.length rel]; exact z
  have z2 : (putK kvs k v).length ≤ sizeLine := by have := length_putK kvs k v; omega
  refine wpAny_dictSet_heap (hsz := z1) (knd := tupleKind (mixKind X.prog X.w)) (Nat.lt_of_succ_lt hu) (key_of I.hok eb) dd fun h' dd' sb => h _ ?_
  obtain ⟨q, es, ep, e1, e2, e3, e4, _, e5⟩ := dd'
  refine d_write I (by rw [hD]; exact True.intro) sb ⟨q, e1⟩ ⟨z2, hd, _, (rel.put k eb rv).keeps fun c ys ec => ?_, q, es, ep, e1, e2, e3, e4, e5⟩
  rw [L2.upd_ne (fun y => by rw [y, hD] at ec; cases ec)]; exact ec
section
variable {X : Cx}
def tDcT (wi : TI) (g : TG) (tt : TT) (tk tv : TE) (vs : List Nat) : TE := fun σ H Q => wi σ H fun J H1 => ∀ D, H1 D = none → ∃ W : Nat → Nat → Hp → Prop, (∃ m, W 0 m (L2.upd H1 D (.dT []))) ∧ ∀ i m H, W i m H →
  (J.stop i H ∧ Q (.ref D) H) ∨ (J.go i H ∧ ∃ Nx : Hp → Prop, (∀ H', Nx H' → ∃ m', m' < m ∧ W (i + 1) m' H') ∧ ∀ x H', J.yld i H x H' → g x (wipe σ vs) H' fun σ2 G2 => wipe σ2 vs = wipe σ vs ∧ tt σ2 G2 fun b G3 =>
    if b = true then tk σ2 G3 fun y H4 => tv σ2 H4 fun z G5 => ∃ kvs k b, y = .ref b ∧ G5 D = some (.dT kvs) ∧ G5 b = some (.tup (k.map kV)) ∧ kvs.length < sizeLine ∧ Nx (L2.upd G5 D (.dT (putK kvs k z))) else Nx G3)
theorem dcT_core {pins : List (Addr × Obj)} {s : Shared} {σ : L2.St} {H : Hp} {Q : VK} {kx vx tg iter : Expr} {ifs : List Expr} {scope : Scope} {own : List (Str × Nat)} {pos posx : Pos} {wi : TI} {g : TG} {tt : TT} {tk tv : TE} {use : Option (Value → Sem Unit)} {Qf : Value → Shared → Prop}
    (unit_ : X.A.units + 1 < cLine) (calm : X.calm = true) (nd : X.N.Nodup) (I : Inv X pins σ H s) (it_ : PI X tg iter wi) (bk : BlkOk X.N X.env.scope scope own)
    (tg_ : ∀ (s : Shared) (H : Hp) (C : Addr) (cl : List (Str × Addr)) (fps : List Addr), PG (X.blk s H scope (compEnvC scope cl C X.env) fps) tg g) (ts_ : ∀ (s : Shared) (H : Hp) (C : Addr) (cl : List (Str × Addr)) (fps : List Addr), PTs (X.blk s H scope (compEnvC scope cl C X.env) fps) ifs tt)
    (kk_ : ∀ (s : Shared) (H : Hp) (C : Addr) (cl : List (Str × Addr)) (fps : List Addr), PE (X.blk s H scope (compEnvC scope cl C X.env) fps) kx tk)
    (vv_ : ∀ (s : Shared) (H : Hp) (C : Addr) (cl : List (Str × Addr)) (fps : List Addr), PE (X.blk s H scope (compEnvC scope cl C X.env) fps) vx tv) (fold_ : ∀ x, foldedSetIterable iter X.env x = pure x)
    (h : tDcT wi g tt tk tv (own.map (·.2)) σ H Q)
    (fin_ : ∀ D C s' m H', Inv X pins σ H' s' → Q (.ref D) H' → s'.heap.Ns C m → FpOk X pins H' C → compPost (model X.prog X.w) X.A X.xe use Qf (.ref D) C (.ok .next) s') :
    wpAny (model X.prog X.w) X.A (comprehension (.DictComp kx vx [⟨tg, iter, ifs, 0⟩] scope pos) scope X.env posx newDict false (eval iter X.env) use) Qf X.xe s := by
  have free_ : ∀ y ∈ scope.names, y.2 = .free → ∃ c, X.env.cells.lookup y.1 = some c := fun y hy e => by
    rcases bk.free y hy e with k | k
    · exact I.ok.has _ (.inl k)
    · exact I.ok.has _ (.inr k)
  refine wpAny_comprehension_free (use := use) rfl fold_ (closure_ok free_) bk.kind (fun y hy e => by rw [bk.uniq y hy, e])
    (thn (it_.run pins s σ H _ I h) fun xv z1 hx => thn hx fun itv z2 h2 => ?_)
  obtain ⟨it, fps, turnAt, J, G2, e, J2, T, a2, f2_, q⟩ := h2
  subst e
  refine wpAny_newObj_type (newEnv_comp ?_); generalize eD_ : z2.heap.objs.size = D
  have nD_ : G2 D = none := J2.hok.fresh (Nat.le_of_eq eD_)
  obtain ⟨W, ⟨m0, w0⟩, turn_⟩ := q D nD_
  -- the new list
  generalize hz3 : ({ z2 with heap := z2.heap.push { cls := .type "dict", data := .dict #[] } } : Shared) = z3
  have J3 : Inv X pins σ (L2.upd G2 D (.dT [])) z3 := by
    rw [← hz3]
    refine J2.laid (t' := z2.toks) (fun b o e => Heap.get?_push_of_some _ e) (Nat.le_of_eq eD_) ?_
    rw [← eD_]
    exact dt_empty z2.heap J2.big
  have h3_ : z3.heap = z2.heap.push { cls := .type "dict", data := .dict #[] } := by rw [← hz3]
  have sz_ : ∀ b ∈ fps, b < z2.heap.objs.size := fun b hb => by
    obtain ⟨o, e, _⟩ := T.obj _ _ a2 b hb
    exact Heap.lt_size e
  have f3_ : ∀ b ∈ fps, FpOk X pins (L2.upd G2 D (.dT [])) b ∧ b < z3.heap.objs.size := fun b hb => by
    have hlt := sz_ b hb
    refine ⟨⟨?_, (f2_ b hb).2⟩, by rw [h3_, Heap.size_push]; exact Nat.lt_succ_of_lt hlt⟩
    rw [L2.upd_ne (by rw [← eD_]; exact Nat.ne_of_lt hlt)]
    exact (f2_ b hb).1
  have a3 : turnAt 0 z3.heap := T.keep _ _ _ a2 fun b _ o e => by rw [h3_]; exact Heap.get?_push_of_some _ e
  have J4 := block_start J3 bk nd f3_
  have pg_ := tg_ z3 (L2.upd G2 D (.dT [])) z3.heap.objs.size (cellsFrom (z3.heap.objs.size + 1) scope.names (cloFrom X.env.cells scope.names [])) fps
  have pt_ := ts_ z3 (L2.upd G2 D (.dT [])) z3.heap.objs.size (cellsFrom (z3.heap.objs.size + 1) scope.names (cloFrom X.env.cells scope.names [])) fps
  have pk_ := kk_ z3 (L2.upd G2 D (.dT [])) z3.heap.objs.size (cellsFrom (z3.heap.objs.size + 1) scope.names (cloFrom X.env.cells scope.names [])) fps
  have pe_ := vv_ z3 (L2.upd G2 D (.dT [])) z3.heap.objs.size (cellsFrom (z3.heap.objs.size + 1) scope.names (cloFrom X.env.cells scope.names [])) fps
  show codeAny _ _ (.compStart (.DictComp kx vx [⟨tg, iter, ifs, 0⟩] scope pos) 0 (.ref it) (.ref D) (compEnvC scope (cellsFrom (z3.heap.objs.size + 1) scope.names (cloFrom X.env.cells scope.names [])) z3.heap.objs.size X.env)) (compPost (model X.prog X.w) X.A X.xe use Qf (.ref D) z3.heap.objs.size) { z3 with heap := pushCells (z3.heap.push { cls := .type "dict", data := .dict #[] }) scope.names }
  have nfps : ∀ b ∈ fps, (L2.upd G2 D (.dT [])) b = none := fun b hb => (f3_ b hb).1.1
  generalize hce_ : compEnvC scope (cellsFrom (z3.heap.objs.size + 1) scope.names (cloFrom X.env.cells scope.names [])) z3.heap.objs.size X.env = ce_ at J4 pg_ pt_ pk_ pe_ ⊢
  have cL_ : ce_.locals = z3.heap.objs.size := by subst hce_; rfl
  generalize hG3 : L2.upd G2 D (.dT []) = G3 at J3 J4 pg_ pt_ pk_ pe_ w0 nfps f3_
  generalize hz4 : ({ z3 with heap := pushCells (z3.heap.push { cls := .type "dict", data := .dict #[] }) scope.names } : Shared) = z4 at J4 ⊢
  have a4 : turnAt 0 z4.heap := T.keep _ _ _ a3 fun b _ o e => by rw [← hz4]; exact pushCells_keeps _ _ _ _ (Heap.get?_push_of_some _ e)
  have stay : ∀ {σ' : L2.St} {H' : Hp} {s' : Shared}, Inv (X.blk z3 G3 scope ce_ fps) [] σ' H' s' → (∀ b ∈ fps, H' b = none) → ∀ b ∈ fps, FpOk (X.blk z3 G3 scope ce_ fps) [] H' b := fun {σ' H' s'} J' hn b hb =>
    ⟨hn b hb, (J'.ok.exf b hb).1, J'.ok.exfs b hb, .inl hb, fun x c e => (J'.ok.exf b hb).2 x c e, fun p hp => absurd (show p ∈ ([] : List (Addr × Obj)) ++ [] from hp) (by simp)⟩
  have loop_ : codeAny (model X.prog X.w) X.A (.compLoop (.DictComp kx vx [⟨tg, iter, ifs, 0⟩] scope pos) 0 (.ref it) (.ref D) ce_) (compPost (model X.prog X.w) X.A X.xe use Qf (.ref D) z3.heap.objs.size) z4 := by
    refine compLoop_anyD (fun n s' => ∃ i H', Inv (X.blk z3 G3 scope ce_ fps) [] (wipe σ (own.map (·.2))) H' s' ∧ turnAt i s'.heap ∧ (∀ b ∈ fps, H' b = none) ∧ W i n H') ?_ m0 ⟨0, G3, J4, a4, nfps, w0⟩
    rintro n z5 ⟨i, G5, J5, a5, f5_, w5_⟩
    rcases turn_ i n G5 w5_ with ⟨stop_, qq⟩ | ⟨go_, Nx, hNx_, step_⟩
    · have td_ := T.done (X.blk z3 G3 scope ce_ fps) rfl rfl rfl calm i [] z5 _ G5 (fun _ _ => False) J5 (stay J5 f5_) a5 stop_
      refine thnF td_ fun r z6 ⟨hr, J6⟩ => ?_
      subst hr
      -- back in the def's context
      have J7 : Inv X pins σ G5 z6 := J3.call' (ch := fps) J6.os J6.base J6.hok J6.bare fun b hb => ⟨(f3_ b hb).1.2.2.2.1, (f3_ b hb).1.2.1, (f3_ b hb).1.2.2.2.2.1, (f3_ b hb).1.2.2.2.2.2⟩
      have nC_ : G5 z3.heap.objs.size = none := by
        have z : G5 ce_.locals = none := J6.free
        rw [cL_] at z
        exact z
      obtain ⟨m, hn, _⟩ := J6.loc
      have hn : z6.heap.Ns ce_.locals m := hn
      rw [cL_] at hn
      exact fin_ D z3.heap.objs.size z6 m G5 J7 qq hn (J3.fpOk (Nat.le_refl _) nC_)
    · have ti_ := T.item (X.blk z3 G3 scope ce_ fps) rfl rfl rfl calm i [] z5 _ G5 (fun _ _ => False) J5 (stay J5 f5_) a5 go_
      refine thnF ti_ fun r z6 ⟨u, hr, h6⟩ => ?_
      subst hr
      refine thnF h6 fun _ z7 ⟨x, G7, J7, r7, y7, a7, f7_⟩ => ?_
      have I7' := J7.pinned (stay J7 f7_) (T.obj _ _ a7)
      refine thnF (pg_.run _ z7 _ G7 x u _ I7' r7 (step_ x G7 y7)) fun _ z8 ⟨σ8, G8, J8, hw8, q8⟩ => ?_
      refine thnF (pt_.run _ z8 σ8 G8 _ J8 q8) fun b z9 ⟨G9, J9, q9⟩ => ?_
      -- the turn's end
      have fin : ∀ {s' : Shared} {H' : Hp}, Inv (X.blk z3 G3 scope ce_ fps) ([] ++ pinsAt fps z7.heap) σ8 H' s' → Nx H' → ∃ m, m < n ∧ ∃ i H', Inv (X.blk z3 G3 scope ce_ fps) [] (wipe σ (own.map (·.2))) H' s' ∧ turnAt i s'.heap ∧ (∀ b ∈ fps, H' b = none) ∧ W i m H' := fun {s' H'} J' nx_ => by
        obtain ⟨m', hm_, w'⟩ := hNx_ H' nx_
        have pins_ : ∀ b ∈ fps, ∀ o, z7.heap.get? b = some o → s'.heap.get? b = some o ∧ H' b = none := fun b hb o e =>
          let z := J'.pin (b, o) (List.mem_append_right _ (List.mem_append_right _ (mem_pinsAt hb e)))
          ⟨z.1, z.2.1⟩
        have hl_ : (wipe σ (own.map (·.2))).length = σ8.length := by rw [← hw8, wipe_length]
        refine ⟨m', hm_, i + 1, H', (J'.unpinned (pins := [])).weak hl_ (fun j v e => ?_), T.keep _ _ _ a7 fun b hb o e => (pins_ b hb o e).1, fun b hb => ?_, w'⟩
        · rw [← hw8] at e
          exact (wipe_some e).1
        · obtain ⟨o, e, _⟩ := T.obj _ _ a7 b hb
          exact (pins_ b hb o e).2
      cases b with
      | false =>
        simp only [Bool.false_eq_true, if_false] at q9 ⊢; exact fin J9 q9
      | true =>
        simp only [if_true] at q9 ⊢
        refine thnF (pk_.run _ z9 σ8 G9 _ J9 q9) fun z z10 ⟨yk, G10, J10, r10, q10⟩ => ?_
        refine thnF (pe_.run _ z10 σ8 G10 _ J10 q10) fun z2 z11 ⟨yv, G11, J11, r11, kvs, k, kb, ek, hD11, hkb, hz11, nx_⟩ => ?_
        subst ek
        exact d_dictSetT (X := X.blk z3 G3 scope ce_ fps) unit_ J11 hD11 hkb hz11 r10 r11 fun z12 J12 => fin J12 nx_
  exact codeAny_compStart_dict loop_ (T.self X.A 0 _ _ _ a4 loop_)
/-- as a value -/
theorem pe_dcT {kx vx tg iter : Expr} {ifs : List Expr} {scope : Scope} {own : List (Str × Nat)} {pos : Pos} {wi : TI} {g : TG} {tt : TT} {tk tv : TE} (unit_ : X.A.units + 1 < cLine) (calm : X.calm = true) (nd : X.N.Nodup) (it_ : PI X tg iter wi) (bk : BlkOk X.N X.env.scope scope own)
    (tg_ : ∀ (s : Shared) (H : Hp) (C : Addr) (cl : List (Str × Addr)) (fps : List Addr), PG (X.blk s H scope (compEnvC scope cl C X.env) fps) tg g) (ts_ : ∀ (s : Shared) (H : Hp) (C : Addr) (cl : List (Str × Addr)) (fps : List Addr), PTs (X.blk s H scope (compEnvC scope cl C X.env) fps) ifs tt)
    (kk_ : ∀ (s : Shared) (H : Hp) (C : Addr) (cl : List (Str × Addr)) (fps : List Addr), PE (X.blk s H scope (compEnvC scope cl C X.env) fps) kx tk)
    (vv_ : ∀ (s : Shared) (H : Hp) (C : Addr) (cl : List (Str × Addr)) (fps : List Addr), PE (X.blk s H scope (compEnvC scope cl C X.env) fps) vx tv) (fold_ : ∀ x, foldedSetIterable iter X.env x = pure x := by intro _; rfl) :
    PE X (.DictComp kx vx [⟨tg, iter, ifs, 0⟩] scope pos) (tDcT wi g tt tk tv (own.map (·.2))) := by
  refine ⟨fun pins s σ H Q I h => ?_⟩; rw [arm_eval_DictComp]
  refine dcT_core unit_ calm nd I it_ bk tg_ ts_ kk_ vv_ fold_ h fun D C s' m H' J' q hn f => ⟨m, hn, fun h'' sb => ?_⟩
  obtain ⟨f0, f1, f2_, f3_, f4, f5⟩ := f
  exact ⟨.ref D, H', J'.turned (t' := s'.toks) (fun b o hb e => (sb.2 b hb).trans e) f0 f1 f3_ f4 f5, rfl, q⟩
end
end MX

set_option Elab.async false
set_option linter.all false
set_option maxRecDepth 100000
set_option maxHeartbeats 4000000
namespace MX
open PySem PySem.Spec PySem.W PySem.Calls PyProof.Rows L2
/-! ### len(o), o of an own class with __len__ -/
section
variable {pg : Program} {w : World} {A : Around} {E : Value → Shared → Prop} {z : Shared} {K : PySem.W.Frag}
theorem len_own {a C g : Addr} {ox : Obj} {od : Option Obj} {Q : Value → Shared → Prop} (X : K.In z.heap) (J : PySem.W.InstAt z.heap a ox C od) (hs : PySem.W.findIn K (.ref C) "__len__" = some (some (.ref g))) (hf : PySem.W.typeIn K (.ref g) = some (.type "function"))
    (h : wpAny (model pg w) A.in1 (call (.ref g) [.ref a]) (fun r z' => ∃ (n : Nat) (t : Tok), r = .int (n : Int) t ∧ n < 2 ^ 62 ∧ Q (.int (n : Int) z'.toks) { z' with toks := z'.toks + 1 }) E z) : wpAny (model pg w) A (call (.builtin "len") [.ref a]) Q E z := by
  have L : Looks (model pg w) z.heap (specialOf (.ref a) "__len__") (some (.ref g)) := (J.type (M := model pg w)).andThen (looks_findIn X hs)
  have B : Looks (model pg w) z.heap (bindSpecial (.ref g) (.ref a)) (.ref g, [.ref a]) := PySem.W.bind_fn X (.ref a) hf
  refine Calls.call_function_entry kind_len plain_len entry_len (args_len1 _) ?_
  unfold Builtin.«len»
  refine wpAny_bind (m := oneArg "len" _) (wpAny_pure ?_)
  refine wpAny_bind (m := callSpecial? (.ref a) (PySem.Str.ofString "__len__")) ?_
  simp only [callSpecial?]
  refine wpAny_bind (L.here (wpAny_holding (wpAny_bind (B.here ?_))))
  show wpAny _ _ (do return some (← call (.ref g) [.ref a])) _ _ _
  refine wpAny_bind (thn h ?_)
  rintro r z' ⟨n, t, rfl, hn, q⟩
  refine wpAny_pure ?_
  refine wpAny_bind (wpAny_holding (wpAny_pure ?_)); refine wpAny_bind (wpAny_letGo ?_)
  show wpAny _ _ (if ((n : Nat) : Int) < 0 then _ else _) _ _ _
  rw [if_neg (by omega)]
  show wpAny _ _ (if ((n : Nat) : Int) ≥ 2 ^ 63 then _ else _) _ _ _
  rw [if_neg (by omega)]
  exact wpAny_bind (wpAny_mkInt (wpAny_pure ⟨_, rfl, q⟩))
end
theorem run_in1 {X : Cx} {CX : CXT} {k : Nat} {f : Addr} {fd : FuncData} {ps : List Str} {sp : Sp} {pins : List (Addr × Obj)} {σ : L2.St} {H : Hp} {s : Shared} {Q : VK} {us : List Value} {vs : List V} (F : FnOk X.prog X.w X.K X.mg X.base CX k f fd ps sp) (hr : Room (k + 1) X.A) (hb : Binds X.K fd ps [])
    (hx : Passes CX X (fun _ _ _ => False)) (I : Inv X pins σ H s) (rv : Vals vs us) (q : sp vs H Q (fun _ _ _ => False)) : wpAny (model X.prog X.w) X.A.in1 (call (.ref f) us) (EP X pins σ Q) X.xe s := by
  have hl : us.length = ps.length := (Vals.length rv).symm.trans (F.len _ _ _ _ q)
  refine wpAny_call (codeAny_mono (F.run X.A.in1 X.stack s H ⟨us, []⟩ _ _ Q _ hr.in1 I.env0.in1 (by simpa using hb s us I.kIn (by simpa using hl)) rv q) ?_)
  rintro (er | fl) s' hq
  · exact hx pins σ H s er s' I hq
  · cases fl with
    | ret u => exact I.after hq
    | cont => exact hq.elim
    | brk => exact hq.elim
    | next => exact hq.elim
def rLenOwn (C : Addr) (sp : Sp) : List V → Hp → VK → Prop := fun xs H Q => ∃ a dx fs, xs = [.ref a] ∧ H a = some (.ins C dx fs) ∧ sp [.ref a] H (fun v H' => ∃ n : Nat, v = .int (n : Int) ∧ n < 2 ^ 62 ∧ Q (.int (n : Int)) H') (fun _ _ _ => False)
theorem call_lenOwn {X : Cx} {CX : CXT} {C g : Addr} {k : Nat} {fd : FuncData} {ps : List Str} {sp : Sp} (hs : PySem.W.findIn X.K (.ref C) "__len__" = some (some (.ref g))) (hf : PySem.W.typeIn X.K (.ref g) = some (.type "function"))
    (F : FnOk X.prog X.w X.K X.mg X.base CX k g fd ps sp) (hr : Room (k + 1) X.A) (hb : Binds X.K fd ps []) (hx : Passes CX X (fun _ _ _ => False)) : CallR X (.builtin "len") (rLenOwn C sp) := by
  intro pins s σ H xs us Q I r h
  obtain ⟨a, dx, fs, rfl, ea, q⟩ := h
  obtain ⟨u, rfl, ru⟩ := vals1 r
  obtain rfl : u = Value.ref a := ru
  obtain ⟨mA, O, _⟩ := ins_get I.hok ea
  obtain ⟨od, J, _⟩ := O.look
  refine len_own I.kIn J hs hf ?_
  refine thn (run_in1 F hr hb hx I (us := [.ref a]) (vs := [.ref a]) (.cons rfl .nil) q) ?_
  rintro r' s' ⟨v', H', J', rv, n, rfl, hn, q'⟩
  obtain ⟨t, rfl⟩ := (show ∃ t, r' = Value.int (n : Int) t from rv)
  exact ⟨n, t, rfl, hn, .int (n : Int), H', J'.tok _, ⟨_, rfl⟩, q'⟩
end MX

set_option Elab.async false
set_option linter.all false
set_option maxRecDepth 100000
set_option maxHeartbeats 4000000
namespace MX
open PySem PySem.Spec PySem.W PySem.Calls PyProof.Rows L2
/-! ### readings of halls, events, timelines, dicts of places -/
structure HI where
  x : Str
  ps : List Str
  ops : Ops
  T : Tm
theorem OpsAt.ext {K : PySem.W.Frag} {H H' : Hp} {o : Addr} {ops : Ops} (h : OpsAt K H o ops) (x : LamX.ExtN H H') : OpsAt K H' o ops := by
  obtain ⟨qs, e, l, f⟩ := h
  exact ⟨qs, x _ _ e (fun _ z => by cases z), l, fun i q op h1 h2 => x _ _ (f i q op h1 h2) (fun _ z => by cases z)⟩
theorem HallAt.ext {K : PySem.W.Frag} {H H' : Hp} {C p : Addr} {x : Str} {pp o d : Addr} {ps : List Str} {ops : Ops} {T : Tm} (h : HallAt K H C p x pp o d ps ops T) (e : LamX.ExtN H H') : HallAt K H' C p x pp o d ps ops T := by
  obtain ⟨dx, e1⟩ := h.ex
  exact ⟨⟨dx, e _ _ e1 (fun _ z => by cases z)⟩, e _ _ h.pe (fun _ z => by cases z), h.op.ext e, e _ _ h.t (fun _ z => by cases z), h.ok⟩
def hR (K : PySem.W.Frag) (C : Addr) (h : HI) : Rd := ⟨fun v H => ∃ p pp o d, v = .ref p ∧ HallAt K H C p h.x pp o d h.ps h.ops h.T, fun v H H' x hh => by
  obtain ⟨p, pp, o, d, e, A⟩ := hh
  exact ⟨p, pp, o, d, e, A.ext x⟩⟩
abbrev Evt := Str × Str
def evR (e : Evt) : Rd := oT [oS e.1, oS e.2]
def tlR (es : List Evt) : Rd := oT (es.map evR)
def ek (e : Evt) : List Key := [Sum.inr e.1, Sum.inr e.2]
theorem ek_inj {e f : Evt} (h : ek e = ek f) : e = f := by
  unfold ek at h
  injection h with h1 h2
  injection h2 with h2 _
  exact Prod.ext (Sum.inr.inj h1) (Sum.inr.inj h2)
def oD (kvs : Tm) : Rd := ⟨fun v H => ∃ d, v = .ref d ∧ H d = some (.dT kvs), fun v H H' x h => by
  obtain ⟨d, e, h⟩ := h
  exact ⟨d, e, x _ _ h (fun _ z => by cases z)⟩⟩
/-- the places of events, told from n on -/
def plN : Nat → List Evt → Tm → Tm
  | _, [], T => T
  | n, e :: r, T => plN (n + 1) r (putK T (ek e) (.int (n : Int)))
def plT (es : List Evt) : Tm := plN 0 es []
theorem plN_snoc : ∀ (es : List Evt) (n : Nat) (e : Evt) (T : Tm), plN n (es ++ [e]) T = putK (plN n es T) (ek e) (.int ((n + es.length : Nat) : Int))
  | [], n, e, T => rfl
  | x :: r, n, e, T => by
    show plN (n + 1) (r ++ [e]) _ = putK (plN (n + 1) r _) (ek e) (.int ((n + (r.length + 1) : Nat) : Int))
    rw [plN_snoc r (n + 1) e]
    congr 3
    omega
theorem val_plN : ∀ (es : List Evt) (n : Nat) (T : Tm) (e : Evt), es.Nodup → valV (plN n es T) (ek e) = if e ∈ es then some (.int ((n + es.idxOf e : Nat) : Int)) else valV T (ek e)
  | [], n, T, e, _ => by simp [plN]
  | x :: r, n, T, e, nd => by
    have nd' := List.nodup_cons.mp nd
    show valV (plN (n + 1) r (putK T (ek x) (.int (n : Int)))) (ek e) = _
    rw [val_plN r (n + 1) _ e nd'.2, valV_put]
    by_cases c : e = x
    · subst c
      rw [if_neg nd'.1, if_pos rfl, if_pos List.mem_cons_self]
      congr 2
      rw [List.idxOf_cons_self]
      rfl
    · have c' : ek e ≠ ek x := fun z => c (ek_inj z)
      rw [if_neg c']
      by_cases m : e ∈ r
      · rw [if_pos m, if_pos (List.mem_cons_of_mem _ m)]
        congr 2
        rw [List.idxOf_cons, show (x == e) = false from beq_eq_false_iff_ne.mpr (fun z => c z.symm)]
        show ((n + 1 + List.idxOf e r : Nat) : Int) = ((n + (List.idxOf e r + 1) : Nat) : Int)
        congr 1
        omega
      · rw [if_neg m, if_neg (fun z => (List.mem_cons.mp z).elim c m)]
theorem val_pl {es : List Evt} {e : Evt} (nd : es.Nodup) (m : e ∈ es) : valV (plT es) (ek e) = some (.int ((es.idxOf e : Nat) : Int)) := by
  unfold plT
  rw [val_plN es 0 [] e nd, if_pos m, Nat.zero_add]
theorem put_new {T : Tm} {k : List Key} {v : V} (h : valV T k = none) : (putK T k v).length = T.length + 1 := by
  unfold putK
  have z : (T.any fun kv => decide (kv.1 = k)) = false := by
    rw [List.any_eq_false]
    intro kv hkv c
    have c := of_decide_eq_true c
    unfold valV at h
    cases q : T.find? (fun p => decide (p.1 = k)) with
    | none =>
      have := List.find?_eq_none.mp q kv hkv
      simp [c] at this
    | some y =>
      first
        | (rw [q] at h; cases h)
        | (simp [q] at h)
  rw [if_neg (by rw [z]; simp), List.length_append]
  rfl
theorem pl_len : ∀ (es : List Evt) (n : Nat) (T : Tm), es.Nodup → (∀ e ∈ es, valV T (ek e) = none) → (plN n es T).length = T.length + es.length
  | [], n, T, _, _ => rfl
  | x :: r, n, T, nd, h => by
    have nd' := List.nodup_cons.mp nd
    show (plN (n + 1) r (putK T (ek x) (.int (n : Int)))).length = _
    rw [pl_len r (n + 1) _ nd'.2 (fun e he => by
      rw [valV_put, if_neg (fun z => nd'.1 (by rw [← ek_inj z]; exact he))]
      exact h e (List.mem_cons_of_mem _ he)), put_new (h x List.mem_cons_self), List.length_cons]
    omega
theorem plN_le : ∀ (es : List Evt) (n : Nat) (T : Tm), (plN n es T).length ≤ T.length + es.length
  | [], n, T => Nat.le_refl _
  | x :: r, n, T => by
    have h := plN_le r (n + 1) (putK T (ek x) (.int (n : Int)))
    have h2 := put_len (T := T) (k := ek x) (v := .int (n : Int))
    show (plN (n + 1) r _).length ≤ T.length + (r.length + 1)
    omega
theorem plT_len {es : List Evt} (nd : es.Nodup) : (plT es).length = es.length := by
  unfold plT
  rw [pl_len es 0 [] nd (fun _ _ => rfl), List.length_nil, Nat.zero_add]
section
variable {ι : Type} {Ev : ι → L2.St → Hp → Prop} {M : ι → List Addr} {X : Cx}
/-- o.f of a hall -/
theorem er_people (E : Env Ev) {K : PySem.W.Frag} {C : Addr} {h : ι → HI} {e : Expr} {pos : Pos} (hK : X.K = K) (c : Cls K C) (n : NoAttr K C "people") (he : PE X e (tR Ev M fun i => hR K C (h i))) (hb : attributeBase e "people" X.env (eval e X.env) = eval e X.env := by rfl) :
    PE X (.Attribute e "people" pos) (tR Ev M fun i => oT ((h i).ps.map oS)) := by
  subst hK
  refine pe_mono (pe_fld he hb) fun σ H Q ⟨i, ok, q⟩ => ⟨i, ok, fun v H1 s1 ⟨p, pp, o, d, ev, A⟩ => ?_⟩
  obtain ⟨dx, e1⟩ := A.ex
  exact ⟨p, C, dx, _, V.ref pp, ev, (msk_of e1).1, c, n, rfl, q _ _ s1 ⟨pp, _, rfl, A.pe, all_oS.mpr rfl⟩⟩
/-- isinstance(.., tuple) -/
theorem er_isTup {x y : Str} {e : Expr} {pos p p2 : Pos} {rs : ι → List Rd} (hg : Gl X x) (hm : X.mg x = none) (hv : bootBuiltins x = some (.builtin "isinstance")) (hg2 : Gl X y) (hm2 : X.mg y = none) (hv2 : bootBuiltins y = some (.type "tuple")) (h : PE X e (tR Ev M fun i => oT (rs i))) (hn : x ≠ "__name__" := by decide) (hdb : (x == ("__debug__" : Str)) = false := by decide)
    (hn2 : y ≠ "__name__" := by decide) (hdb2 : (y == ("__debug__" : Str)) = false := by decide) (he : starEach [e, .Name y p2] X.env = (false, eval e X.env) :: starEach [.Name y p2] X.env := by rfl) (hpl : (backTo pos (starEach [.Name y p2] X.env)).any (·.1) = false := by rfl) : PE X (.Call (.Name x p) [e, .Name y p2] [] pos) (tR Ev M fun _ => oB true) :=
  pe_mono (pe_callB RZ.call_isTy hg hm hv (pa_cons h (pa_cons (pe_bltn (v := .ty "tuple") hg2 hm2 hv2 rfl hn2 hdb2) pa_nil) he) hn hdb he hpl) fun σ H Q ⟨i, ok, q⟩ => ⟨i, ok, fun v H1 s1 ⟨a, vs, ev, ea, al⟩ => ⟨v, "tuple", rfl, by rw [ev]; exact .tup (msk_of ea).1, q _ _ s1 rfl⟩⟩
/-- a text in a tuple of texts -/
theorem er_inS (E : Env Ev) {a b : Expr} {pos : Pos} {x : ι → Str} {ys : ι → List Str} (ha : PE X a (tR Ev M fun i => oS (x i))) (hb : PE X b (tR Ev M fun i => oT ((ys i).map oS))) (h1 : behindInMarks .In b = false) : PE X (.Compare a [.In] [b] pos) (tR Ev M fun i => oB (decide (x i ∈ ys i))) :=
  er_cmp E op_in_seq ha hb h1 fun i σ H ev v u rv ru Q q => by
    have e1 : v = .str (x i) := rv
    obtain ⟨p, vs, eu, ep, al⟩ := ru
    obtain rfl := all_oS.mp al
    subst e1 eu
    refine ⟨p, _, rfl, .inr (SqT.of (msk_of ep).1), rfl, MX.flat_strs _, q _ ?_⟩
    show V.bl (inV (V.str (x i)) ((ys i).map V.str)) = V.bl _
    rw [inV_str]
/-- d[key], the key an event -/
theorem er_dkey (E : Env Ev) {d k : Expr} {pos : Pos} {kvs : ι → Tm} {e : ι → Evt} {n : ι → Int} (hu : X.A.units + 1 < cLine) (hd : PE X d (tR Ev M fun i => oD (kvs i))) (hk : PE X k (tR Ev M fun i => evR (e i))) (hs : NoSl k) (hv : ∀ i σ H, Ev i σ H → valV (kvs i) (ek (e i)) = some (.int (n i))) : PE X (.Subscript d k pos) (tR Ev M fun i => oI (n i)) :=
  pe_mono (pe_dget hu hd hk hs) fun σ H Q ⟨i, ok, q⟩ => ⟨i, ok, fun v H1 s1 ⟨a, ev, ea⟩ => ⟨i, ok.same E s1, fun u H2 s2 ⟨b, vs, eu, eb, al⟩ => by
    have e1 : vs = [V.str (e i).1, V.str (e i).2] := all_oS (xs := [(e i).1, (e i).2]).mp al
    subst eu e1
    refine ⟨a, V.int (n i), ev, ?_, q _ _ (s1.trans s2) rfl⟩
    rw [← hv i σ _ ok.1]
    exact DGet.t (k := ek (e i)) (s2 _ _ (msk_of ea).1) (msk_of eb).1⟩⟩
/-- len of such a dict -/
theorem er_lenD {x : Str} {e : Expr} {pos p : Pos} {kvs : ι → Tm} (hg : Gl X x) (hm : X.mg x = none) (hv : bootBuiltins x = some (.builtin "len")) (h : PE X e (tR Ev M fun i => oD (kvs i))) (hn : x ≠ "__name__" := by decide) (hdb : (x == ("__debug__" : Str)) = false := by decide)
    (he : starEach [e] X.env = (false, eval e X.env) :: starEach [] X.env := by rfl) : PE X (.Call (.Name x p) [e] [] pos) (tR Ev M fun i => oI ((kvs i).length : Int)) :=
  pe_mono (pe_callB call_len_dT hg hm hv (pa_cons h pa_nil he) hn hdb he rfl) fun σ H Q ⟨i, ok, q⟩ => ⟨i, ok, fun v H1 s1 ⟨d, ev, ed⟩ => ⟨d, kvs i, by rw [ev], (msk_of ed).1, q _ _ s1 rfl⟩⟩
/-- name in hall, len(hall) -/
theorem er_inH (E : Env Ev) {K : PySem.W.Frag} {C g : Addr} {k : Nat} {fd : FuncData} {κ : Type} {as : κ → List Rd} {rs : κ → Rd} {h : ι → HI} {x : ι → Str} {b : ι → Bool} {a e : Expr} {pos : Pos} {CX : CXT} (hK : X.K = K) (hs : PySem.W.findIn X.K (.ref C) "__contains__" = some (some (.ref g))) (hf : PySem.W.typeIn X.K (.ref g) = some (.type "function"))
    (F : FnOk X.prog X.w X.K X.mg X.base CX k g fd ["self", "value"] (spE as rs)) (hr : Room k X.A) (hb : Binds X.K fd ["self", "value"] []) (hx : Passes CX X (fun _ _ _ => False)) (φ : ι → κ) (has : ∀ i, as (φ i) = [hR K C (h i), oS (x i)]) (hrs : ∀ i, rs (φ i) = oB (b i))
    (ha : PE X a (tR Ev M fun i => oS (x i))) (he : PE X e (tR Ev M fun i => hR K C (h i))) (h1 : behindInMarks .In e = false) : PE X (.Compare a [.In] [e] pos) (tR Ev M fun i => oB (b i)) := by
  subst hK
  refine pe_mono (pe_cmpR (op_inOwn hs hf F hr hb hx) ha he h1) fun σ H Q ⟨i, ok, q⟩ => ⟨i, ok, fun v H1 s1 rv => ⟨i, ok.same E s1, fun u H2 s2 ⟨p, pp, o, d, eu, A⟩ => ?_⟩⟩
  have e1 : v = .str (x i) := rv
  obtain ⟨dx, e2⟩ := A.ex
  have A2 := A.ext (LamX.ExtN.of (msk_sub (M := M i) (H := H2)))
  refine ⟨p, dx, _, eu, (msk_of e2).1, φ i, ?_, fun w H3 s3 rw' => ?_⟩
  · rw [has i]
    exact ⟨⟨p, pp, o, d, rfl, A2⟩, e1, trivial⟩
  · rw [hrs i] at rw'
    exact ⟨b i, rw', q _ _ ((s1.trans s2).trans s3) rfl⟩
theorem er_lenH {K : PySem.W.Frag} {C g : Addr} {k : Nat} {fd : FuncData} {κ : Type} {as : κ → List Rd} {rs : κ → Rd} {h : ι → HI} {n : ι → Nat} {x : Str} {e : Expr} {pos p : Pos} {CX : CXT} (hK : X.K = K) (hs : PySem.W.findIn X.K (.ref C) "__len__" = some (some (.ref g))) (hf : PySem.W.typeIn X.K (.ref g) = some (.type "function"))
    (F : FnOk X.prog X.w X.K X.mg X.base CX k g fd ["self"] (spE as rs)) (hr : Room (k + 1) X.A) (hb : Binds X.K fd ["self"] []) (hx : Passes CX X (fun _ _ _ => False)) (φ : ι → κ) (has : ∀ i, as (φ i) = [hR K C (h i)]) (hrs : ∀ i, rs (φ i) = oI (n i : Int)) (hn62 : ∀ i σ H, Ev i σ H → n i < 2 ^ 62)
    (hg : Gl X x) (hm : X.mg x = none) (hv : bootBuiltins x = some (.builtin "len")) (he' : PE X e (tR Ev M fun i => hR K C (h i))) (hn : x ≠ "__name__" := by decide) (hdb : (x == ("__debug__" : Str)) = false := by decide)
    (he : starEach [e] X.env = (false, eval e X.env) :: starEach [] X.env := by rfl) : PE X (.Call (.Name x p) [e] [] pos) (tR Ev M fun i => oI (n i : Int)) := by
  subst hK
  refine pe_mono (pe_callB (call_lenOwn hs hf F hr hb hx) hg hm hv (pa_cons he' pa_nil he) hn hdb he rfl) fun σ H Q ⟨i, ok, q⟩ => ⟨i, ok, fun v H1 s1 ⟨p, pp, o, d, ev, A⟩ => ?_⟩
  obtain ⟨dx, e2⟩ := A.ex
  have A2 := A.ext (LamX.ExtN.of (msk_sub (M := M i) (H := H1)))
  refine ⟨p, dx, _, by rw [ev], (msk_of e2).1, φ i, ?_, fun w H3 s3 rw' => ?_⟩
  · rw [has i]
    exact ⟨⟨p, pp, o, d, rfl, A2⟩, trivial⟩
  · rw [hrs i] at rw'
    exact ⟨n i, rw', hn62 i σ _ ok.1, q _ _ (s1.trans s3) rfl⟩
end
/-! ### unpacking, more of bodies -/
section
variable {ι : Type} {P : ι → Prop} {Γ : ι → Gm} {M : ι → List Addr} {X : Cx} {res : ι → Rd} {e : Expr} {rest : List Stmt} {pos : Pos}
theorem bd_un2 {k1 k2 : Nat} {y z : Str} {p1 p2 p3 : Pos} {kk} {r1 r2 : ι → Rd} (hc : X.calm = true) (hN : X.N.Nodup) (he : PE X e (tR (EvT P Γ) M fun i => oT [r1 i, r2 i])) (hr : PSs X rest (tRt M P (fun i => ((Γ i).set k1 (some (r1 i))).set k2 (some (r2 i))) res))
    (h1 : X.N[k1]? = some y := by rfl) (x1 : Loc X.env.scope y := by first | exact Or.inl rfl | exact Or.inr rfl) (h2 : X.N[k2]? = some z := by rfl) (x2 : Loc X.env.scope z := by first | exact Or.inl rfl | exact Or.inr rfl)
    (f1 : X.fn y = true ∨ X.env.scope.names.lookup y = some .local := by first | exact .inl rfl | exact .inr rfl) (f2 : X.fn z = true ∨ X.env.scope.names.lookup z = some .local := by first | exact .inl rfl | exact .inr rfl)
    (hn : (assignEach [.Name y p1, .Name z p2] X.env).length = 2 := by rfl) (hst : (assignEach [.Name y p1, .Name z p2] X.env).findIdx? (·.1) = none := by rfl)
    (hs : swapsWithSole [.Tuple [.Name y p1, .Name z p2] kk p3] e pos.line X.env = pure false := by rfl) (hw : swappedStores [.Tuple [.Name y p1, .Name z p2] kk p3] e X.env = pure none := by rfl)
    (ha : (assignEach [.Tuple [.Name y p1, .Name z p2] kk p3] X.env).map (·.2) = [assign (.Tuple [.Name y p1, .Name z p2] kk p3) X.env] := by rfl) : PSs X (.Assign [.Tuple [.Name y p1, .Name z p2] kk p3] e pos :: rest) (tRt M P Γ res) :=
  pss_mono (pss_cons (ps_asg he (pg_tup hc (pgs_cons (pg_name hN h1 x1 f1) (pgs_cons (pg_name hN h2 x2 f2) pgs_nil)) hn hst) hs hw ha) hr) fun D σ H ⟨i, ok, q⟩ => ⟨i, ok, fun v H1 s1 ⟨a, vs, ev, ea, al⟩ => by
    match vs, al with
    | [v1, v2], ⟨q1, q2, _⟩ =>
      have ok1 := ok.same evT s1
      exact ⟨a, _, ev, SqT.of (msk_of ea).1, rfl, v1, _, rfl, v2, _, rfl, rfl, i, ⟨(ok1.1.set k1 q1 (Γ' := fun i => (Γ i).set k1 (some (r1 i))) rfl).set k2 q2 rfl, ok1.2⟩, fun u H2 s2 ru => q u H2 (s1.trans s2) ru⟩⟩
theorem bd_un3 {k1 k2 k3 : Nat} {y z t : Str} {p1 p2 p4 p3 : Pos} {kk} {r1 r2 r3 : ι → Rd} (hc : X.calm = true) (hN : X.N.Nodup) (he : PE X e (tR (EvT P Γ) M fun i => oT [r1 i, r2 i, r3 i])) (hr : PSs X rest (tRt M P (fun i => (((Γ i).set k1 (some (r1 i))).set k2 (some (r2 i))).set k3 (some (r3 i))) res))
    (h1 : X.N[k1]? = some y := by rfl) (x1 : Loc X.env.scope y := by first | exact Or.inl rfl | exact Or.inr rfl) (h2 : X.N[k2]? = some z := by rfl) (x2 : Loc X.env.scope z := by first | exact Or.inl rfl | exact Or.inr rfl) (h3 : X.N[k3]? = some t := by rfl) (x3 : Loc X.env.scope t := by first | exact Or.inl rfl | exact Or.inr rfl)
    (f1 : X.fn y = true ∨ X.env.scope.names.lookup y = some .local := by first | exact .inl rfl | exact .inr rfl) (f2 : X.fn z = true ∨ X.env.scope.names.lookup z = some .local := by first | exact .inl rfl | exact .inr rfl) (f3 : X.fn t = true ∨ X.env.scope.names.lookup t = some .local := by first | exact .inl rfl | exact .inr rfl)
    (hn : (assignEach [.Name y p1, .Name z p2, .Name t p4] X.env).length = 3 := by rfl) (hst : (assignEach [.Name y p1, .Name z p2, .Name t p4] X.env).findIdx? (·.1) = none := by rfl)
    (hs : swapsWithSole [.Tuple [.Name y p1, .Name z p2, .Name t p4] kk p3] e pos.line X.env = pure false := by rfl) (hw : swappedStores [.Tuple [.Name y p1, .Name z p2, .Name t p4] kk p3] e X.env = pure none := by rfl)
    (ha : (assignEach [.Tuple [.Name y p1, .Name z p2, .Name t p4] kk p3] X.env).map (·.2) = [assign (.Tuple [.Name y p1, .Name z p2, .Name t p4] kk p3) X.env] := by rfl) : PSs X (.Assign [.Tuple [.Name y p1, .Name z p2, .Name t p4] kk p3] e pos :: rest) (tRt M P Γ res) :=
  pss_mono (pss_cons (ps_asg he (pg_tup hc (pgs_cons (pg_name hN h1 x1 f1) (pgs_cons (pg_name hN h2 x2 f2) (pgs_cons (pg_name hN h3 x3 f3) pgs_nil))) hn hst) hs hw ha) hr) fun D σ H ⟨i, ok, q⟩ => ⟨i, ok, fun v H1 s1 ⟨a, vs, ev, ea, al⟩ => by
    match vs, al with
    | [v1, v2, v3], ⟨q1, q2, q3, _⟩ =>
      have ok1 := ok.same evT s1
      exact ⟨a, _, ev, SqT.of (msk_of ea).1, rfl, v1, _, rfl, v2, _, rfl, v3, _, rfl, rfl, i, ⟨((ok1.1.set k1 q1 (Γ' := fun i => (Γ i).set k1 (some (r1 i))) rfl).set k2 q2 (Γ' := fun i => ((Γ i).set k1 (some (r1 i))).set k2 (some (r2 i))) rfl).set k3 q3 rfl, ok1.2⟩, fun u H2 s2 ru => q u H2 (s1.trans s2) ru⟩⟩
/-- a call whose value is dropped -/
theorem bd_expr {r : ι → Rd} (he : PE X e (tR (EvT P Γ) M r)) (hr : PSs X rest (tRt M P Γ res)) (hs : swapsWith e none pos.line X.env = pure false := by rfl) : PSs X (.Expr e pos :: rest) (tRt M P Γ res) :=
  pss_mono (pss_cons (ps_expr he hs) hr) fun D σ H ⟨i, ok, q⟩ => ⟨i, ok, fun v H1 s1 rv => ⟨i, ok.same evT s1, fun u H2 s2 ru => q u H2 (s1.trans s2) ru⟩⟩
/-- the start of a def -/
theorem evT_start {N : List Str} {vs : List V} {H : Hp} {i : ι} {as : ι → List Rd} (p : P i) (h : All2 (as i) vs H) {Γ : ι → Gm} (hΓ : Γ i = (as i).map some ++ List.replicate (N.length - (as i).length) none) (hl : (as i).length ≤ N.length) : EvT P Γ i (L2.start N vs) H := by
  have l := h.len
  refine ⟨p, ?_, fun k r e => ?_⟩
  · rw [hΓ, List.length_append, List.length_map, List.length_replicate]
    simp [L2.start]
    omega
  · rw [hΓ] at e
    have hk : k < (as i).length := by
      by_cases z : k < (as i).length
      · exact z
      · rw [List.getElem?_append_right (by rw [List.length_map]; omega), List.getElem?_replicate] at e
        split at e <;> cases e
    rw [List.getElem?_append_left (by rw [List.length_map]; exact hk), List.getElem?_map] at e
    obtain ⟨r', e1, e2⟩ := Option.map_eq_some_iff.mp e
    have e2 : r' = r := Option.some.inj e2
    subst e2
    obtain ⟨v, e3, e4⟩ := h.get e1
    refine ⟨v, ?_, e4⟩
    simp [L2.start]
    rw [List.getElem?_append_left (by rw [List.length_map, l]; exact hk), List.getElem?_map, e3]
    rfl
end
end MX

set_option Elab.async false
set_option linter.all false
set_option maxRecDepth 100000
set_option maxHeartbeats 4000000
namespace MX
open PySem PySem.Spec PySem.W PySem.Calls PyProof.Rows L2
/-! ### tests -/
section
variable {ι : Type} {P : ι → Prop} {Γ : ι → Gm} {M : ι → List Addr} {X : Cx} {Ev : ι → L2.St → Hp → Prop} {pos : Pos}
def tTR (Ev : ι → L2.St → Hp → Prop) (M : ι → List Addr) (b : ι → Bool) : TT := fun σ H Q => ∃ i, EOk Ev M i σ H ∧ ∀ H', Same H H' → Q (b i) H'
theorem pt_mono {e : Expr} {t t' : TT} (h : PT X e t) (m : ∀ σ H Q, t' σ H Q → t σ H Q) : PT X e t' := ⟨fun pins s σ H Q I q => h.run pins s σ H Q I (m σ H Q q)⟩
theorem pw_mono {e : Expr} {t t' : TT} (h : PW X e t) (m : ∀ σ H Q, t' σ H Q → t σ H Q) : PW X e t' := ⟨fun wh pins s σ H Q I q => h.run wh pins s σ H Q I (m σ H Q q)⟩
theorem tt_val {e : Expr} {b : ι → Bool} (h : PE X e (tR Ev M fun i => oB (b i))) (he : ∀ whole, isTrue e X.env whole = (do let v ← whole; standAt e.pos; holding [v] (truthy v)) := by intro _; rfl) : PT X e (tTR Ev M b) :=
  pt_mono (pt_val h he) fun σ H Q ⟨i, ok, q⟩ => ⟨i, ok, fun v H1 s1 rv => ⟨b i, rv, q H1 s1⟩⟩
theorem tt_not {e : Expr} {b : ι → Bool} (h : PT X e (tTR Ev M b)) : PT X (.UnaryOp .Not e pos) (tTR Ev M fun i => !b i) := pt_mono (pt_not h) fun σ H Q ⟨i, ok, q⟩ => ⟨i, ok, fun H1 s1 => q H1 s1⟩
theorem tt_cmp (E : Env Ev) {op : CmpOp} {rr : R2} {a b : Expr} {x y : ι → Rd} {c : ι → Bool} (ho : OpR X (compareOp op) rr) (ha : PE X a (tR Ev M x)) (hb : PE X b (tR Ev M y)) (h1 : behindInMarks op b = false)
    (h : ∀ i σ H, Ev i σ (msk (M i) H) → ∀ v u, (x i).R v (msk (M i) H) → (y i).R u (msk (M i) H) → ∀ Q : VK, Q (.bl (c i)) H → rr v u H Q) : PT X (.Compare a [op] [b] pos) (tTR Ev M c) :=
  pt_mono (pt_cmpR ho ha hb h1) fun σ H Q ⟨i, ok, k⟩ => ⟨i, ok, fun v H1 s1 rv => ⟨i, ok.same E s1, fun u H2 s2 ru => h i σ H2 ((ok.same E s1).same E s2).1 v u ((x i).st _ _ _ (msk_ext (LamX.ExtN.of s2)) rv) ru _ ⟨c i, rfl, k H2 (s1.trans s2)⟩⟩⟩
theorem tt_eqS (E : Env Ev) {a b : Expr} {x y : ι → Str} (ha : PE X a (tR Ev M fun i => oS (x i))) (hb : PE X b (tR Ev M fun i => oS (y i))) (h1 : behindInMarks .Eq b = false := by first | exact nobehind _ (by decide) (by decide) | rfl) : PT X (.Compare a [.Eq] [b] pos) (tTR Ev M fun i => decide (x i = y i)) :=
  tt_cmp E op_eq ha hb h1 fun i σ H ev v u rv ru Q q => by
    have e1 : v = .str (x i) := rv
    have e2 : u = .str (y i) := ru
    subst e1 e2
    refine ⟨rfl, ?_⟩
    rw [show decide (V.str (x i) = V.str (y i)) = decide (x i = y i) from decide_eq_decide.mpr ⟨V.str.inj, congrArg V.str⟩]
    exact q
theorem tt_neS (E : Env Ev) {a b : Expr} {x y : ι → Str} (ha : PE X a (tR Ev M fun i => oS (x i))) (hb : PE X b (tR Ev M fun i => oS (y i))) (h1 : behindInMarks .NotEq b = false := by first | exact nobehind _ (by decide) (by decide) | rfl) : PT X (.Compare a [.NotEq] [b] pos) (tTR Ev M fun i => !decide (x i = y i)) :=
  tt_cmp E op_ne ha hb h1 fun i σ H ev v u rv ru Q q => by
    have e1 : v = .str (x i) := rv
    have e2 : u = .str (y i) := ru
    subst e1 e2
    refine ⟨rfl, ?_⟩
    rw [show decide (V.str (x i) = V.str (y i)) = decide (x i = y i) from decide_eq_decide.mpr ⟨V.str.inj, congrArg V.str⟩]
    exact q
theorem tt_eqI (E : Env Ev) {a b : Expr} {x y : ι → Int} (ha : PE X a (tR Ev M fun i => oI (x i))) (hb : PE X b (tR Ev M fun i => oI (y i))) (h1 : behindInMarks .Eq b = false := by first | exact nobehind _ (by decide) (by decide) | rfl) : PT X (.Compare a [.Eq] [b] pos) (tTR Ev M fun i => decide (x i = y i)) :=
  tt_cmp E op_eq ha hb h1 fun i σ H ev v u rv ru Q q => by
    have e1 : v = .int (x i) := rv
    have e2 : u = .int (y i) := ru
    subst e1 e2
    refine ⟨rfl, ?_⟩
    rw [show decide (V.int (x i) = V.int (y i)) = decide (x i = y i) from decide_eq_decide.mpr ⟨V.int.inj, congrArg V.int⟩]
    exact q
theorem tt_neI (E : Env Ev) {a b : Expr} {x y : ι → Int} (ha : PE X a (tR Ev M fun i => oI (x i))) (hb : PE X b (tR Ev M fun i => oI (y i))) (h1 : behindInMarks .NotEq b = false := by first | exact nobehind _ (by decide) (by decide) | rfl) : PT X (.Compare a [.NotEq] [b] pos) (tTR Ev M fun i => !decide (x i = y i)) :=
  tt_cmp E op_ne ha hb h1 fun i σ H ev v u rv ru Q q => by
    have e1 : v = .int (x i) := rv
    have e2 : u = .int (y i) := ru
    subst e1 e2
    refine ⟨rfl, ?_⟩
    rw [show decide (V.int (x i) = V.int (y i)) = decide (x i = y i) from decide_eq_decide.mpr ⟨V.int.inj, congrArg V.int⟩]
    exact q
theorem tt_inS (E : Env Ev) {a b : Expr} {x : ι → Str} {ys : ι → List Str} (ha : PE X a (tR Ev M fun i => oS (x i))) (hb : PE X b (tR Ev M fun i => oT ((ys i).map oS))) (h1 : behindInMarks .In b = false := by rfl) : PT X (.Compare a [.In] [b] pos) (tTR Ev M fun i => decide (x i ∈ ys i)) :=
  tt_cmp E op_in_seq ha hb h1 fun i σ H ev v u rv ru Q q => by
    have e1 : v = .str (x i) := rv
    obtain ⟨p, vs, eu, ep, al⟩ := ru
    obtain rfl := all_oS.mp al
    subst e1 eu
    refine ⟨p, _, rfl, .inr (SqT.of (msk_of ep).1), rfl, MX.flat_strs _, ?_⟩
    show Q (V.bl (inV (V.str (x i)) ((ys i).map V.str))) H
    rw [inV_str]
    exact q
/-- or, and, P known further on the right -/
theorem tw_or {p q : ι → Bool} {a b : Expr} {more : List Expr} (ha : PT X a (tTR (EvT P Γ) M p)) (hb : PW X (.BoolOp .Or (b :: more) pos) (tTR (EvT (fun i => P i ∧ p i = false) Γ) M q)) : PW X (.BoolOp .Or (a :: b :: more) pos) (tTR (EvT P Γ) M fun i => p i || q i) :=
  pw_mono (pw_or ha hb) fun σ H Q ⟨i, ok, k⟩ => ⟨i, ok, fun H1 s1 => by
    have ok1 := ok.same evT s1
    cases hp : p i with
    | true => exact iteT (by have z := k H1 s1; dsimp only at z; rw [hp] at z; exact z)
    | false => exact iteF ⟨i, ⟨ok1.1.as ⟨ok.1.p, hp⟩ rfl fun _ _ e => e, ok1.2⟩, fun H2 s2 => by have z := k H2 (s1.trans s2); dsimp only at z; rw [hp] at z; exact z⟩⟩
theorem tw_or1 {p : ι → Bool} {a : Expr} (ha : PT X a (tTR Ev M p)) : PW X (.BoolOp .Or [a] pos) (tTR Ev M p) := pw_or1 ha
theorem tw_and {p q : ι → Bool} {a b : Expr} {more : List Expr} (ha : PT X a (tTR (EvT P Γ) M p)) (hb : PW X (.BoolOp .And (b :: more) pos) (tTR (EvT (fun i => P i ∧ p i = true) Γ) M q)) : PW X (.BoolOp .And (a :: b :: more) pos) (tTR (EvT P Γ) M fun i => p i && q i) :=
  pw_mono (pw_and ha hb) fun σ H Q ⟨i, ok, k⟩ => ⟨i, ok, fun H1 s1 => by
    have ok1 := ok.same evT s1
    cases hp : p i with
    | false => exact iteF (by have z := k H1 s1; dsimp only at z; rw [hp] at z; exact z)
    | true => exact iteT ⟨i, ⟨ok1.1.as ⟨ok.1.p, hp⟩ rfl fun _ _ e => e, ok1.2⟩, fun H2 s2 => by have z := k H2 (s1.trans s2); dsimp only at z; rw [hp] at z; exact z⟩⟩
theorem tw_and1 {p : ι → Bool} {a : Expr} (ha : PT X a (tTR Ev M p)) : PW X (.BoolOp .And [a] pos) (tTR Ev M p) := pw_and1 ha
theorem tt_to {p q : ι → Bool} {e : Expr} (h : PT X e (tTR (EvT P Γ) M p)) (m : ∀ i, P i → p i = q i) : PT X e (tTR (EvT P Γ) M q) := pt_mono h fun σ H Q ⟨i, ok, k⟩ => ⟨i, ok, fun H1 s1 => by rw [m i ok.1.p]; exact k H1 s1⟩
variable {res : ι → Rd} {c : Expr} {a rest : List Stmt}
theorem bt_skip (hc : PT X c (tTR (EvT P Γ) M fun _ => false)) (hr : PSs X rest (tRt M P Γ res)) : PSs X (.If c a [] pos :: rest) (tRt M P Γ res) :=
  pss_mono (pss_cons (ps_if hc pss_never pss_nil) hr) fun D σ H ⟨i, ok, q⟩ => ⟨i, ok, fun H1 s1 => iteF ⟨i, ok.same evT s1, fun u H2 s2 ru => q u H2 (s1.trans s2) ru⟩⟩
theorem bt_if {b : ι → Bool} (hc : PT X c (tTR (EvT P Γ) M b)) (h1 : PSs X a (tRt M (fun i => P i ∧ b i = true) Γ res)) (h2 : PSs X rest (tRt M (fun i => P i ∧ b i = false) Γ res)) : PSs X (.If c a [] pos :: rest) (tRt M P Γ res) :=
  pss_mono (pss_cons (ps_if hc h1 pss_nil) h2) fun D σ H ⟨i, ok, q⟩ => ⟨i, ok, fun H1 s1 => by
    have ok1 := ok.same evT s1
    cases hb : b i with
    | true => exact iteT ⟨i, ⟨ok1.1.as ⟨ok.1.p, hb⟩ rfl fun _ _ e => e, ok1.2⟩, fun u H2 s2 ru => q u H2 (s1.trans s2) ru⟩
    | false => exact iteF ⟨i, ⟨ok1.1.as ⟨ok.1.p, hb⟩ rfl fun _ _ e => e, ok1.2⟩, fun u H2 s2 ru => q u H2 (s1.trans s2) ru⟩⟩
/-- a body's end without return: None -/
def tRn (M : ι → List Addr) (P : ι → Prop) (Γ : ι → Gm) : TS := fun D σ H => ∃ i, EOk (EvT P Γ) M i σ H ∧ ∀ σ' H', Same H H' → D.nx σ' H'
theorem bn_skip (hc : PT X c (tTR (EvT P Γ) M fun _ => false)) : PSs X [.If c a [] pos] (tRn M P Γ) :=
  pss_mono (pss_one (ps_if hc pss_never pss_nil)) fun D σ H ⟨i, ok, q⟩ => ⟨i, ok, fun H1 s1 => iteF (q _ H1 s1)⟩
theorem tRt_start {N : List Str} {as : ι → List Rd} {vs : List V} {H : Hp} {Q : VK} {n : L2.St → Hp → Prop} {i : ι} (p : P i) (al : All2 (as i) vs H) (q : ∀ v H', Same H H' → (res i).R v H' → Q v H') (hΓ : ∀ i, Γ i = (as i).map some ++ List.replicate (N.length - (as i).length) none := by intro _; rfl) (hl : ∀ i, (as i).length ≤ N.length := by intro _; exact Nat.le_of_ble_eq_true rfl) :
    tRt (fun _ => []) P Γ res { nx := n, rt := Q } (L2.start N vs) H := ⟨i, ⟨by rw [msk_nil]; exact evT_start p al (hΓ i) (hl i), Live.nil⟩, fun v H' s r => q v H' s (by rw [msk_nil] at r; exact r)⟩
theorem tRn_start {N : List Str} {as : ι → List Rd} {vs : List V} {H : Hp} {Q : VK} {i : ι} (p : P i) (al : All2 (as i) vs H) (q : ∀ v H', Same H H' → oN.R v H' → Q v H') (hΓ : ∀ i, Γ i = (as i).map some ++ List.replicate (N.length - (as i).length) none := by intro _; rfl) (hl : ∀ i, (as i).length ≤ N.length := by intro _; exact Nat.le_of_ble_eq_true rfl) :
    tRn (fun _ => []) P Γ { nx := fun _ H' => Q .non H', rt := Q } (L2.start N vs) H := ⟨i, ⟨by rw [msk_nil]; exact evT_start p al (hΓ i) (hl i), Live.nil⟩, fun _ H' s => q _ H' s rfl⟩
end
/-- a pure function's promise with a premise -/
def spP {κ : Type} (P : κ → Prop) (as : κ → List Rd) (res : κ → Rd) : Sp := fun vs H Q _ => ∃ i, P i ∧ All2 (as i) vs H ∧ ∀ v H', Same H H' → (res i).R v H' → Q v H'
section
variable {ι : Type} {P : ι → Prop} {Γ : ι → Gm} {X : Cx}
theorem et_call {κ : Type} {rz : ι → Rd} {Pk : κ → Prop} {k : Nat} {f : Addr} {fd : FuncData} {ps : List Str} {as : κ → List Rd} {rs : κ → Rd} {x : Str} {p pos : Pos} {e : Expr} {es : List Expr} (F : FnOk X.prog X.w X.K X.mg X.base CX0 k f fd ps (spP Pk as rs)) (hr : Room k X.A) (hg : Gl X x) (hm : X.mg x = some (.ref f))
    (hk : PySem.W.keepIn X.K (.ref f) = true) (hb : Binds X.K fd ps []) (φ : ι → κ) (hP : ∀ i, P i → Pk (φ i)) (ha : PA X (e :: es) (tRA (EvT P Γ) (fun _ => []) fun i => as (φ i))) (hdb : (x == ("__debug__" : Str)) = false := by decide)
    (he : starEach (e :: es) X.env = (false, eval e X.env) :: starEach es X.env := by rfl) (hpl : (backTo pos (starEach es X.env)).any (·.1) = false := by rfl) (hrs : ∀ i, rs (φ i) = rz i := by intro _; rfl) :
    PE X (.Call (.Name x p) (e :: es) [] pos) (tR (EvT P Γ) (fun _ => []) rz) :=
  pe_mono (pe_call F hr hg hm hk hb .nil pass0 ha hdb he hpl) fun σ H Q ⟨i, ok, q⟩ => ⟨i, ok, fun vs H1 s1 al => by
    show spP Pk as rs (vs ++ []) H1 Q E0
    rw [List.append_nil]
    rw [msk_nil] at al
    exact ⟨φ i, hP i ok.1.p, al, fun v H2 s2 rv => q v H2 (s1.trans s2) (by rw [msk_nil, ← hrs i]; exact rv)⟩⟩
end
end MX

set_option Elab.async false
set_option linter.all false
set_option maxRecDepth 100000
set_option maxHeartbeats 4000000
namespace MX
open PySem PySem.Spec PySem.W PySem.Calls PyProof.Rows L2
/-! ### for n, x in enumerate(a tuple) -/
def IteP (K : PySem.W.Frag) (a : Addr) (k : Int) : It :=
  ⟨(Itt K a).go, fun i H v H' => ∃ T x, v = .ref T ∧ H T = none ∧ H' = upd H T (.tup [.int (k + (i : Nat)), x]) ∧ ∀ xs, SqT K H a xs → xs[i]? = some x, (Itt K a).stop⟩
theorem turn_enumP {P : Program} {w : World} {K : PySem.W.Frag} {elts : List Expr} {kk : Nat} {tpos : Pos} (a e it : Addr) (k : Int) :
    Turn P w K (.Tuple elts kk tpos) (IteP K a k) [e, it] e (fun i h => (∃ old, IsEnum h e it (k + ((i : Nat) : Int)) old) ∧ h.IsTupleIter it a i ∧ e ≠ it ∧ a ≠ it) where
  mem := List.mem_cons_self
  obj := by
    rintro i h ⟨⟨old, q⟩, ⟨o, ho, hc, hd⟩, _⟩ b hb
    rcases List.mem_cons.mp hb with z | z
    · refine ⟨_, (by rw [z]; exact q), fun v q => ?_⟩
      cases q
    · exact ⟨o, (by rw [List.mem_singleton.mp z]; exact ho), fun v q => by rw [hd] at q; cases q⟩
  keep := by
    rintro i h h' ⟨⟨old, q⟩, hi, n⟩ kp
    exact ⟨⟨old, kp e (by simp) _ q⟩, hi.at (fun o q => kp it (by simp) o q), n⟩
  self := fun A i s Q E st q => let ⟨⟨_, z⟩, _⟩ := st; wpAny_pyIter_enum z q
  done := by
    intro X e1 e2 e3 calm i pins s σ H E I hf st hg
    subst e1 e2 e3
    obtain ⟨⟨old, he⟩, hit, hne, hai⟩ := st
    obtain ⟨xs, hq, hx⟩ := hg
    obtain ⟨its, rv, p0, hz⟩ := I.tuple hq
    have p : s.heap.IsTuple a its.toArray := p0
    have hl := Vals.length rv
    obtain ⟨f0, f1, f2, f3, f4, f5⟩ := hf it (by simp)
    have D := Draws.tuple (prog := X.prog) (w := X.w) (A := X.A.in1) (show X.A.in1.handled = none from I.ok.hd calm) it a hai its.toArray
    have hT : s.TypeIs (.ref e) "enumerate" := ⟨_, he, rfl⟩
    unfold pyNext
    refine wpAny_bind (wpAny_attempt (wpAny_callSpecial?_slot (name := Str.ofString "__next__") hT F.slot_enumerate_next (wpAny_call_entry F.slot_enumerate_next hT F.entry_enumerate_next ?_ (F.args_enumerate_next_1 _))))
    show wpAny _ _ (field (Value.ref e) 2 >>= _) _ _ _
    refine wpAny_bind (wpAny_field he rfl (x := .ref it) rfl (wpAny_bind (wpAny_nextOf_tuple_end (show X.A.in1.handled = none from I.ok.hd calm) hit p (Array.getElem?_eq_none (by simp; omega)) ?_)))
    rintro h' x he' ⟨o, ho, hc⟩
    refine wpAny_bind (wpAny_isInstance (T := "StopIteration") (b := true) ⟨o, ho, hc⟩ isSubtype_stop (wpAny_pure ⟨rfl, ?_⟩))
    exact I.turned (t' := s.toks) (fun b o hb q => he' b o hb q) f0 f1 f3 f4 f5
  item := by
    intro X e1 e2 e3 calm i pins s σ H E I hf st hg
    subst e1 e2 e3
    obtain ⟨⟨old, he⟩, hit, hne, hai⟩ := st
    obtain ⟨xs, x, hq, hx⟩ := hg
    obtain ⟨its, rv, p0, hz⟩ := I.tuple hq
    have p : s.heap.IsTuple a its.toArray := p0
    obtain ⟨u, hu, ru⟩ := Vals.get rv hx
    have le : e < s.heap.objs.size := Heap.lt_size he
    have li : it < s.heap.objs.size := by
      obtain ⟨_, q, _⟩ := hit
      exact Heap.lt_size q
    have D := Draws.tuple (prog := X.prog) (w := X.w) (A := X.A.in1) (show X.A.in1.handled = none from I.ok.hd calm) it a hai its.toArray
    have nel : e ∉ [it, a] := fun hm => by
      rcases List.mem_cons.mp hm with z | z
      · exact hne z
      · have z := List.mem_singleton.mp z
        obtain ⟨o, ho, hc, _⟩ := p
        rw [← z] at ho
        have q := he.symm.trans ho
        have q2 := Option.some.inj q
        rw [← q2] at hc
        have hc2 : Value.type "enumerate" = Value.type "tuple" := hc
        exact absurd hc2 (by decide)
    have hii : i < its.toArray.size := by
      have q := (List.getElem?_eq_some_iff.mp hu).1
      simpa using q
    refine wpAny_pyNext_enum_itemC D he ⟨hit, p⟩ hii hne nel ?_
    intro x' h' tk hP ho hs' hT hsz hk
    have eu : x' = u := by
      have q : its.toArray[i]? = some u := by simpa using hu
      exact Option.some.inj (hP.symm.trans q)
    subst eu
    refine ⟨_, rfl, wpAny_letOwnedTupleGo_enum (s := { s with heap := h', toks := tk + 1 }) ho ?_⟩
    intro h2 he2 sb
    have hT2 : h2.get? s.heap.objs.size = some { cls := .type "tuple", data := .seq #[.int (k + ((i : Nat) : Int)) tk, x'] } := (sb.2 _ (Nat.ne_of_gt le)).trans hT
    have new : ObjOk X.prog X.w (upd H s.heap.objs.size (.tup [.int (k + (i : Nat)), x])) h2 s.heap.objs.size (.tup [.int (k + (i : Nat)), x]) :=
      ⟨(by show 2 ≤ sizeLine; decide), [.int (k + ((i : Nat) : Int)) tk, x'], .cons ⟨tk, rfl⟩ (.cons ru .nil), ⟨_, hT2, rfl, _, rfl⟩⟩
    have J : Inv X pins σ (upd H s.heap.objs.size (.tup [.int (k + (i : Nat)), x])) { s with heap := h2, toks := tk + 1 } :=
      I.turnedNew (ch := [e, it]) (fun b ob hb q => (sb.2 b (fun z => hb (by simp [z]))).trans (hk b ob (fun z => hb (by simp [z])) (fun z => hb (by simp [z])) q)) hf (Nat.le_refl _) new
    refine ⟨.ref s.heap.objs.size, _, J, rfl, ⟨_, x, rfl, I.hok.fresh (Nat.le_refl _), rfl, fun ys hy => by rw [I.tuple_inj hy hq]; exact hx⟩, ⟨⟨x', ?_⟩, hs'.1.at fun o q => (sb.2 it (Ne.symm hne)).trans q, hne, hai⟩, ?_⟩
    · have e1 : k + ((i + 1 : Nat) : Int) = k + (i : Int) + 1 := by omega
      rw [e1]
      exact he2
    · intro b hb
      have hb' : b < s.heap.objs.size := by
        rcases List.mem_cons.mp hb with z | z
        · rw [z]
          exact le
        · rw [List.mem_singleton.mp z]
          exact li
      rw [upd_ne (Nat.ne_of_lt hb')]
      exact (hf b hb).1

theorem meets_enum1 {v : Value} {o : Obj} {H : Heap → Prop} (B : Begins v o H) :
    Meets (Builtin.«enumerate.__new__» ⟨[.type "enumerate", v], []⟩) (fun _ R s => H s.heap ∧
      R (.ok (.ret (.ref (s.heap.push o).objs.size))) { s with heap := (s.heap.push o).push { cls := .type "enumerate", data := .fields #[.none, .bool false, .ref s.heap.objs.size, rawInt 0, .none, .none] } }) :=
  .of_wp fun prog w A R s h => by
    obtain ⟨hp, ge, dr, tk, os⟩ := s; obtain ⟨h1, h⟩ := h
    have hsub := sub_enumerate
    have q1 : ∀ {A' : Around} {E' : Value → Shared → Prop} {Q' : Value → Shared → Prop}, Q' (.ref hp.objs.size) ⟨hp.push o, ge, dr, tk, os⟩ → wpAny (model prog w) A' (pyIter v) Q' E' ⟨hp, ge, dr, tk, os⟩ := fun q => B.iter prog w _ _ ⟨hp, ge, dr, tk, os⟩ _ h1 q
    wp_walk using q1
    refine wpAny_stack_any fun stk => wpAny_pure ?_
    split
    · rename_i c _ _ _ _ _; cases (c == Value.type "enumerate") <;> (wp_walk using q1; exact ⟨_, rfl, h⟩)
    · wp_walk using q1; exact ⟨_, rfl, h⟩
theorem enum_begins1 {prog : Program} {w : World} {A : Around} {E : Value → Shared → Prop} {s : Shared} {v : Value} {o : Obj} {H : Heap → Prop} {Q : Value → Shared → Prop} (B : Begins v o H) (h1 : H s.heap)
    (h : ∀ h', IsEnum h' (s.heap.objs.size + 1) s.heap.objs.size 0 .none → h'.get? s.heap.objs.size = some o → (∀ b u, s.heap.get? b = some u → h'.get? b = some u) → Q (.ref (s.heap.objs.size + 1)) { s with heap := h' }) :
    wpAny (model prog w) A (call (.type "enumerate") [v]) Q E s := by
  refine callType_new F.called_enumerate (by decide) (F.typeCall_enumerate_1 _) (F.newCall_enumerate_1 _) (fun ob => F.args_object_init_2 ob _) F.entry_enumerate_new (meets_enum1 B) ⟨h1, ?_⟩
  have hz : (s.heap.push o).objs.size = s.heap.objs.size + 1 := Heap.size_push ..
  show _ ∧ _; rw [hz]
  have he : IsEnum ((s.heap.push o).push { cls := .type "enumerate", data := .fields #[.none, .bool false, .ref s.heap.objs.size, rawInt 0, .none, .none] }) (s.heap.objs.size + 1) s.heap.objs.size 0 .none := by
    have z := Heap.get?_push_size (s.heap.push o) (o := { cls := .type "enumerate", data := .fields #[.none, .bool false, .ref s.heap.objs.size, rawInt 0, .none, .none] }) rfl
    rw [hz] at z; exact z
  exact ⟨⟨_, he, rfl⟩, h _ he (Heap.get?_push_of_some _ (Heap.get?_push_size _ B.free)) fun b u x => Heap.get?_push_of_some _ (Heap.get?_push_of_some _ x)⟩
def iEnumP (K : PySem.W.Frag) (ta : TA) : TI := fun σ H R => ta σ H fun vs H1 => ∃ a xs, vs = [.ref a] ∧ SqT K H1 a xs ∧ R (IteP K a 0) H1
theorem pi_enumP {X : Cx} {e : Expr} {ta : TA} {p pos tpos : Pos} {elts : List Expr} {kk : Nat} (hg : Gl X "enumerate") (hm : X.mg "enumerate" = none) (ha : PA X [e] ta) (hs : starEach [e] X.env = [(false, eval e X.env)] := by rfl) :
    PI X (.Tuple elts kk tpos) (.Call (.Name "enumerate" p) [e] [] pos) (iEnumP X.K ta) := by
  constructor
  intro pins s σ H R I h
  refine Call_ (ld_blt I hg hm PyProof.Rows.boot_enumerate (PyProof.Rows.callWith_type1 (thn (ha.run pos pins s σ H _ I h) ?_) hs rfl))
  rintro us s2 ⟨vs, H2, I2, r1, a, xs, rfl, hq, q⟩
  cases r1 with
  | cons ra rn =>
    cases rn
    cases ra
    obtain ⟨its, rv, pl0, hz⟩ := I2.tuple hq
    have pl : s2.heap.IsTuple a its.toArray := pl0
    have la : a < s2.heap.objs.size := by
      obtain ⟨o, ho, _⟩ := pl
      exact Heap.lt_size ho
    refine enum_begins1 (begins_tuple a its.toArray) pl ?_
    intro h' hen hit hkp
    refine wpAny_pyIter_enum hen ?_
    have I3 : Inv X pins σ H2 { s2 with heap := h' } := I2.kept (t' := s2.toks) hkp
    refine ⟨s2.heap.objs.size + 1, [s2.heap.objs.size + 1, s2.heap.objs.size], _, _, H2, rfl, I3, turn_enumP a (s2.heap.objs.size + 1) s2.heap.objs.size 0,
      ⟨⟨.none, hen⟩, ⟨_, hit, rfl, rfl⟩, Nat.succ_ne_self _, Nat.ne_of_lt la⟩, ?_, q⟩
    intro b hb
    have hle : s2.heap.objs.size ≤ b := by
      rcases List.mem_cons.mp hb with z | z
      · rw [z]; exact Nat.le_succ _
      · rw [List.mem_singleton.mp z]; exact Nat.le_refl _
    exact I2.fpOk hle (I2.hok.fresh hle)
theorem walk_enumP {K : PySem.W.Frag} {a : Addr} {xs : List V} {k : Int} : Walk (IteP K a k) xs.length (fun H => SqT K H a xs) (YPair (fun i => some (.int (k + (i : Nat)))) (fun i => xs[i]?)) where
  goes := fun i H hi hs => ⟨xs, xs[i], hs, List.getElem?_eq_getElem hi⟩
  stops := fun H hs => ⟨xs, hs, Nat.le_refl _⟩
  yields := fun i H x H' hi hs y => let ⟨T, x', e1, e2, e3, e4⟩ := y; ⟨T, _, x', e1, e2, e3, rfl, e4 xs hs⟩
end MX

set_option Elab.async false
set_option linter.all false
set_option maxRecDepth 100000
set_option maxHeartbeats 4000000
namespace MX
open PySem PySem.Spec PySem.W PySem.Calls PyProof.Rows L2
section
variable {ι : Type} {P : ι → Prop} {Γ : ι → Gm} {M : ι → List Addr} {X : Cx}
/-- [elt for x in a tuple] -/
theorem et_lcT {α : Type} {xs : ι → List α} {r res : ι → α → Rd} {elt iter : Expr} {scope : Scope} {k : Nat} {x : Str} {pos px : Pos} (hc : X.calm = true) (hN : X.N.Nodup) (hk : ∀ i, (Γ i)[k]? = some none)
    (hi : PE X iter (tR (EvT P Γ) M fun i => oT ((xs i).map (r i)))) (ok : BlkOk X.N X.env.scope scope [(x, k)])
    (hg : ∀ (s : Shared) (H : Hp) (C : Addr) (cl : List (Str × Addr)) (fp : List Addr), PG (X.blk s H scope (compEnvC scope cl C X.env) fp) (.Name x px) (gName k))
    (he : ∀ (s : Shared) (H : Hp) (C : Addr) (cl : List (Str × Addr)) (fp : List Addr), PE (X.blk s H scope (compEnvC scope cl C X.env) fp) elt (tR (EvT (fun j : ι × α × Addr => P j.1 ∧ j.2.1 ∈ xs j.1) (fun j => (Γ j.1).set k (some (r j.1 j.2.1)))) (fun j => j.2.2 :: M j.1) fun j => res j.1 j.2.1))
    (few : ∀ i, P i → (xs i).length ≤ 1000000) (hs : ∀ x, foldedSetIterable iter X.env x = pure x := by intro _; rfl) : PE X (.ListComp elt [⟨.Name x px, iter, [], 0⟩] scope pos) (tR (EvT P Γ) M fun i => oL ((xs i).map (res i))) := by
  refine er_lcT (g := gName k) evT hc hN hi ok hg he (fun j σ v Hm H Q ev m rv sm h => ?_) (fun i σ H ev => few i ev.p) hs
  have hj := hk j.1
  have z := ev.wipe [k] fun q hq => by rw [List.mem_singleton.mp hq]; exact hj
  refine h _ ?_ ⟨⟨ev.p, m⟩, ?_, fun q rd e => ?_⟩
  · show (List.set (List.set (List.set σ k none) k (some v)) k none) = List.set σ k none
    rw [List.set_set, List.set_set]
  · show ((wipe σ [k]).set k (some v)).length = _
    rw [List.length_set, List.length_set]
    exact z.l
  · exact (z.set k rv (Γ' := fun _ => (Γ j.1).set k (some (r j.1 j.2.1))) rfl).at_ q rd e
theorem et_lcL {α : Type} {xs : ι → List α} {r res : ι → α → Rd} {elt iter : Expr} {scope : Scope} {k : Nat} {x : Str} {pos px : Pos} (hc : X.calm = true) (hN : X.N.Nodup) (hk : ∀ i, (Γ i)[k]? = some none)
    (hi : PE X iter (tR (EvT P Γ) M fun i => oL ((xs i).map (r i)))) (ok : BlkOk X.N X.env.scope scope [(x, k)])
    (hg : ∀ (s : Shared) (H : Hp) (C : Addr) (cl : List (Str × Addr)) (fp : List Addr), PG (X.blk s H scope (compEnvC scope cl C X.env) fp) (.Name x px) (gName k))
    (he : ∀ (s : Shared) (H : Hp) (C : Addr) (cl : List (Str × Addr)) (fp : List Addr), PE (X.blk s H scope (compEnvC scope cl C X.env) fp) elt (tR (EvT (fun j : ι × α × Addr => P j.1 ∧ j.2.1 ∈ xs j.1) (fun j => (Γ j.1).set k (some (r j.1 j.2.1)))) (fun j => j.2.2 :: M j.1) fun j => res j.1 j.2.1))
    (few : ∀ i, P i → (xs i).length ≤ 1000000) (hs : ∀ x, foldedSetIterable iter X.env x = pure x := by intro _; rfl) : PE X (.ListComp elt [⟨.Name x px, iter, [], 0⟩] scope pos) (tR (EvT P Γ) M fun i => oL ((xs i).map (res i))) := by
  refine er_lcG (g := gName k) evT hc hN hi ok hg he (fun j σ v Hm H Q ev m rv sm h => ?_) (fun i σ H ev => few i ev.p) hs
  have hj := hk j.1
  have z := ev.wipe [k] fun q hq => by rw [List.mem_singleton.mp hq]; exact hj
  refine h _ ?_ ⟨⟨ev.p, m⟩, ?_, fun q rd e => ?_⟩
  · show (List.set (List.set (List.set σ k none) k (some v)) k none) = List.set σ k none
    rw [List.set_set, List.set_set]
  · show ((wipe σ [k]).set k (some v)).length = _
    rw [List.length_set, List.length_set]
    exact z.l
  · exact (z.set k rv (Γ' := fun _ => (Γ j.1).set k (some (r j.1 j.2.1))) rfl).at_ q rd e
/-- a call of a pure function whose result is no thing of the heap, within a block, too -/
theorem et_callP {κ : Type} {rz : ι → Rd} {Pk : κ → Prop} {k : Nat} {f : Addr} {fd : FuncData} {ps : List Str} {as : κ → List Rd} {rs : κ → Rd} {x : Str} {p pos : Pos} {e : Expr} {es : List Expr} (F : FnOk X.prog X.w X.K X.mg X.base CX0 k f fd ps (spP Pk as rs)) (hr : Room k X.A) (hg : Gl X x) (hm : X.mg x = some (.ref f))
    (hk : PySem.W.keepIn X.K (.ref f) = true) (hb : Binds X.K fd ps []) (φ : ι → κ) (hP : ∀ i, P i → Pk (φ i)) (pure_ : ∀ j v H H', (rs j).R v H → (rs j).R v H') (ha : PA X (e :: es) (tRA (EvT P Γ) M fun i => as (φ i))) (hdb : (x == ("__debug__" : Str)) = false := by decide)
    (he : starEach (e :: es) X.env = (false, eval e X.env) :: starEach es X.env := by rfl) (hpl : (backTo pos (starEach es X.env)).any (·.1) = false := by rfl) (hrs : ∀ i, rs (φ i) = rz i := by intro _; rfl) :
    PE X (.Call (.Name x p) (e :: es) [] pos) (tR (EvT P Γ) M rz) :=
  pe_mono (pe_call F hr hg hm hk hb .nil pass0 ha hdb he hpl) fun σ H Q ⟨i, ok, q⟩ => ⟨i, ok, fun vs H1 s1 al => by
    show spP Pk as rs (vs ++ []) H1 Q E0
    rw [List.append_nil]
    exact ⟨φ i, hP i ok.1.p, al.st (LamX.ExtN.of msk_sub), fun v H2 s2 rv => q v H2 (s1.trans s2) (by rw [← hrs i]; exact pure_ _ _ _ _ rv)⟩⟩
theorem pure_oB {b : Bool} {v : V} {H H' : Hp} (h : (oB b).R v H) : (oB b).R v H' := h
theorem pure_oI {b : Int} {v : V} {H H' : Hp} (h : (oI b).R v H) : (oI b).R v H' := h
theorem pure_oS {b : Str} {v : V} {H H' : Hp} (h : (oS b).R v H) : (oS b).R v H' := h
/-- tuple(a list) -/
theorem er_tupleOf {Ev : ι → L2.St → Hp → Prop} {x : Str} {e : Expr} {pos p : Pos} {rs : ι → List Rd} (E : Env Ev) (hg : Gl X x) (hm : X.mg x = none) (hv : bootBuiltins x = some (.type "tuple")) (h : PE X e (tR Ev M fun i => oL (rs i))) (hn : x ≠ "__name__" := by decide) (hdb : (x == ("__debug__" : Str)) = false := by decide)
    (he : starEach [e] X.env = (false, eval e X.env) :: starEach [] X.env := by rfl) (hpl : (backTo pos (starEach [] X.env)).any (·.1) = false := by rfl) : PE X (.Call (.Name x p) [e] [] pos) (tR Ev M fun i => oT (rs i)) :=
  pe_mono (pe_callTy call_tuple_of hg hm hv (pa_cons h pa_nil he) hn hdb he hpl) fun σ H Q ⟨i, ok, q⟩ => ⟨i, ok, fun v H1 s1 ⟨a, vs, ev, ea, al⟩ => ⟨a, vs, by rw [ev], .inl ⟨SqL.of (msk_of ea).1, fun t ht => q _ _ (s1.trans (same_new ht)) ⟨t, vs, rfl, msk_new (ok.same E s1).2 ht, al.st (msk_ext (LamX.ExtN.of (same_new ht)))⟩⟩⟩⟩
end
/-- {event: place for place, event in enumerate(timeline)} -/
theorem et_places {ι : Type} {P : ι → Prop} {Γ : ι → Gm} {X : Cx} {es : ι → List Evt} {e : Expr} {scope : Scope} {k1 k2 : Nat} {x1 x2 : Str} {p p1 p2 p3 pos pos2 pk pv_ : Pos} {kk : Nat} (hc : X.calm = true) (hu : X.A.units + 1 < cLine) (hN : X.N.Nodup) (hk1 : ∀ i, (Γ i)[k1]? = some none) (hk2 : ∀ i, (Γ i)[k2]? = some none) (h12 : k1 ≠ k2)
    (hl1 : ∀ i, k1 < (Γ i).length) (hl2 : ∀ i, k2 < (Γ i).length) (hg : Gl X "enumerate") (hm : X.mg "enumerate" = none) (hi : PE X e (tR (EvT P Γ) (fun _ => []) fun i => tlR (es i))) (ok : BlkOk X.N X.env.scope scope [(x1, k1), (x2, k2)])
    (hgt : ∀ (s : Shared) (H : Hp) (C : Addr) (cl : List (Str × Addr)) (fp : List Addr), PG (X.blk s H scope (compEnvC scope cl C X.env) fp) (.Tuple [.Name x1 p1, .Name x2 p2] kk p3) (gTup X.K 2 (gCons (gName k1) (gCons (gName k2) gNil))))
    (hkx : ∀ (s : Shared) (H : Hp) (C : Addr) (cl : List (Str × Addr)) (fp : List Addr), PE (X.blk s H scope (compEnvC scope cl C X.env) fp) (.Name x2 pk) (tVar k2))
    (hvx : ∀ (s : Shared) (H : Hp) (C : Addr) (cl : List (Str × Addr)) (fp : List Addr), PE (X.blk s H scope (compEnvC scope cl C X.env) fp) (.Name x1 pv_) (tVar k1))
    (few : ∀ i, P i → (es i).length ≤ 1000) (hse : starEach [e] X.env = [(false, eval e X.env)] := by rfl) (hs : ∀ x, foldedSetIterable (.Call (.Name "enumerate" p) [e] [] pos2) X.env x = pure x := by intro _; rfl) :
    PE X (.DictComp (.Name x2 pk) (.Name x1 pv_) [⟨.Tuple [.Name x1 p1, .Name x2 p2] kk p3, .Call (.Name "enumerate" p) [e] [] pos2, [], 0⟩] scope pos) (tR (EvT P Γ) (fun _ => []) fun i => oD (plT (es i))) := by
  refine pe_mono (pe_dcT (tt := tYes) hu hc hN (pi_enumP hg hm (pa_cons hi pa_nil hse) hse) ok hgt (fun _ _ _ _ _ => pts_nil) hkx hvx hs) fun σ H Q ⟨i, okE, q⟩ => ?_
  refine ⟨i, okE, fun v H1 s1 ⟨a, vs, ev, ea, al⟩ => ⟨a, vs, by rw [ev], SqT.of (msk_of ea).1, fun D nD => ?_⟩⟩
  rw [msk_nil] at ea al
  have hlv := al.len
  rw [List.length_map] at hlv
  have hf := few i okE.1.p
  refine ⟨fun n m H' => m = vs.length - n ∧ n ≤ vs.length ∧ (H' D = some (.dT (plT ((es i).take n))) ∧ Same H1 H'), ⟨vs.length, by simp, Nat.zero_le _, upd_same, same_new nD⟩, ?_⟩
  rintro n m H' ⟨rfl, hn, eD, sK⟩
  have hT : SqT X.K H' a vs := SqT.of (sK _ _ ea)
  by_cases hlt : n < vs.length
  · refine .inr ⟨walk_enumP.goes n H' hlt hT, fun H'' => n + 1 ≤ vs.length ∧ (H'' D = some (.dT (plT ((es i).take (n + 1)))) ∧ Same H1 H''), fun H'' z => ⟨vs.length - (n + 1), by omega, rfl, z⟩, fun x H'' y => ?_⟩
    obtain ⟨T, a1, a2, rfl, hTn, rfl, e1, e2⟩ := walk_enumP.yields n H' x H'' hlt hT y
    obtain rfl : V.int (0 + (n : Int)) = a1 := Option.some.inj e1
    obtain ⟨rd, hr, rx⟩ := al.at e2
    rw [List.getElem?_map] at hr
    obtain ⟨ev2, hev, rfl⟩ := Option.map_eq_some_iff.mp hr
    obtain ⟨b, ws, rfl, eb, al2⟩ := rx
    have ews : ws = [V.str ev2.1, V.str ev2.2] := all_oS (xs := [ev2.1, ev2.2]).mp al2
    subst ews
    have sT := same_new (o := .tup [V.int (0 + (n : Int)), V.ref b]) hTn
    have hlσ : σ.length = (Γ i).length := okE.1.l
    have g1 : ((((wipe σ ([(x1, k1), (x2, k2)].map (·.2))).set k1 (some (V.int (0 + (n : Int))))).set k2 (some (V.ref b))) : L2.St)[k2]? = some (some (V.ref b)) := List.getElem?_set_self (by rw [List.length_set, wipe_length, hlσ]; exact hl2 i)
    have g2 : ((((wipe σ ([(x1, k1), (x2, k2)].map (·.2))).set k1 (some (V.int (0 + (n : Int))))).set k2 (some (V.ref b))) : L2.St)[k1]? = some (some (V.int (0 + (n : Int)))) := by
      rw [List.getElem?_set_ne (fun z => h12 z.symm), List.getElem?_set_self (by rw [wipe_length, hlσ]; exact hl1 i)]
    refine ⟨T, _, rfl, SqT.of upd_same, rfl, _, _, rfl, _, _, rfl, rfl, ?_, ?_⟩
    · show List.set (List.set (List.set (List.set (List.set (List.set σ k2 none) k1 none) k1 _) k2 _) k2 none) k1 none = List.set (List.set σ k2 none) k1 none
      rw [List.set_set, List.set_set, List.set_comm _ _ h12, List.set_set, List.set_set]
    · refine ⟨_, g1, _, g2, plT ((es i).take n), ek ev2, b, rfl, sT _ _ eD, sT _ _ (sK _ _ eb), ?_, hlt, ?_, ?_⟩
      · have := plN_le ((es i).take n) 0 []
        rw [List.length_take] at this
        rw [sizeLine_eq]
        show (plN 0 _ []).length < _
        simp at this
        omega
      · rw [upd_same, take_snocE hev]
        unfold plT
        rw [plN_snoc, Nat.zero_add, List.length_take, Nat.min_eq_left (by omega), Int.zero_add]
      · exact fun c o z => by
          rw [upd_ne (ne_of_none z nD)]
          exact sT _ _ (sK _ _ z)
  · have en : n = vs.length := by omega
    subst en
    rw [hlv, List.take_length] at eD
    exact .inl ⟨walk_enumP.stops H' hT, q _ _ (s1.trans sK) (by rw [msk_nil]; exact ⟨D, rfl, eD⟩)⟩
end MX

set_option Elab.async false
set_option linter.all false
set_option maxRecDepth 100000
set_option maxHeartbeats 4000000
namespace MX
open PySem PySem.Spec PySem.W PySem.Calls PyProof.Rows L2
/-! ### comprehensions with tests, with two sources -/
/-- what a source yields, item by item -/
def Src {ι α : Type} (Ev : ι → L2.St → Hp → Prop) (M : ι → List Addr) (xs : ι → List α) (r : ι → α → Rd) (wi : TI) : Prop := ∀ σ H (R : It → Hp → Prop), (∃ i, EOk Ev M i σ H ∧ ∀ (J : It) (G : Hp → Prop) (Y : Nat → Hp → V → Hp → Prop) H1, Same H H1 → Walk J (xs i).length G Y → (∀ H', Same (msk (M i) H1) (msk (M i) H') → G H') →
  (∀ m Hm x H' Mx, m < (xs i).length → Same (msk (M i) H1) (msk Mx Hm) → Live Mx Hm → Y m Hm x H' → Same Hm H' ∧ ∃ y, (xs i)[m]? = some y ∧ (r i y).R x (msk Mx H')) → R J H1) → wi σ H R
theorem src_at {ι α : Type} {xs : ι → List α} {r : ι → α → Rd} {i : ι} {vs : List V} {A B : Hp} (al : All2 ((xs i).map (r i)) vs A) {m : Nat} {Hm H' : Hp} {x : V} (s : Same A B) (y : YAt vs m Hm x H') : H' = Hm ∧ ∃ y, (xs i)[m]? = some y ∧ (r i y).R x B := by
  obtain ⟨e, hx⟩ := y
  obtain ⟨rd, hr, rx⟩ := al.at hx
  rw [List.getElem?_map] at hr
  obtain ⟨y, hy, rfl⟩ := Option.map_eq_some_iff.mp hr
  exact ⟨e, y, hy, (r i y).st _ _ _ (LamX.ExtN.of s) rx⟩
section
variable {ι α : Type} {Ev : ι → L2.St → Hp → Prop} {M : ι → List Addr} {xs : ι → List α} {r : ι → α → Rd} {K : PySem.W.Frag}
theorem src_list : Src Ev M xs r (iList K (tR Ev M fun i => oL ((xs i).map (r i)))) := fun σ H R ⟨i, ok, q⟩ => ⟨i, ok, fun v H1 s1 ⟨a, vs, ev, ea, al⟩ => ⟨a, ev, ⟨_, SqL.of (msk_of ea).1⟩, q (Itl K a) (fun H => SqL K H a vs) (YAt vs) H1 s1 (by have z : vs.length = (xs i).length := al.len.trans (List.length_map ..); rw [← z]; exact walk_list) (fun H' s => SqL.of (msk_of (s _ _ ea)).1) fun m Hm x H' Mx _ s _ y => by
  obtain ⟨rfl, y, hy, rx⟩ := src_at al s y
  exact ⟨Same.refl _, y, hy, rx⟩⟩⟩
theorem src_tup : Src Ev M xs r (iTup K (tR Ev M fun i => oT ((xs i).map (r i)))) := fun σ H R ⟨i, ok, q⟩ => ⟨i, ok, fun v H1 s1 ⟨a, vs, ev, ea, al⟩ => ⟨a, ev, ⟨_, SqT.of (msk_of ea).1⟩, q (Itt K a) (fun H => SqT K H a vs) (YAt vs) H1 s1 (by have z : vs.length = (xs i).length := al.len.trans (List.length_map ..); rw [← z]; exact walk_tup) (fun H' s => SqT.of (msk_of (s _ _ ea)).1) fun m Hm x H' Mx _ s _ y => by
  obtain ⟨rfl, y, hy, rx⟩ := src_at al s y
  exact ⟨Same.refl _, y, hy, rx⟩⟩⟩
end
section
variable {ι α β : Type} {Ev : ι → L2.St → Hp → Prop} {M : ι → List Addr} {xs : ι → List α} {r : ι → α → Rd} {EvE : ι × α × Addr → L2.St → Hp → Prop}
abbrev MD' (M : ι → List Addr) : ι × α × Addr → List Addr := fun j => j.2.2 :: M j.1
/-- a target stores what an item tells -/
def Tgt (Ev : ι → L2.St → Hp → Prop) (xs : ι → List α) (r : ι → α → Rd) (EvE : ι × α × Addr → L2.St → Hp → Prop) (vs : List Nat) (g : TG) : Prop := ∀ (j : ι × α × Addr) σ v Hm H (Q : L2.St → Hp → Prop), Ev j.1 σ Hm → j.2.1 ∈ xs j.1 → (r j.1 j.2.1).R v Hm → Same Hm H → (∀ σ', wipe σ' vs = wipe σ vs → EvE j σ' Hm → Q σ' H) → g v (wipe σ vs) H Q
theorem filter_snoc {xs : List α} {n : Nat} {y : α} (h : xs[n]? = some y) (p : α → Bool) : (xs.take (n + 1)).filter p = (xs.take n).filter p ++ (if p y = true then [y] else []) := by
  rw [take_snocE h, List.filter_append]
  congr 1
  unfold List.filter
  cases p y <;> rfl
theorem lc_term {res : ι → α → Rd} {b : ι → α → Bool} {wi : TI} {g : TG} {tt : TT} {te : TE} {vs : List Nat} (E : Env Ev) (EE : Env EvE) (src : Src Ev M xs r wi) (tgt : Tgt Ev xs r EvE vs g)
    (htt : ∀ (j : ι × α × Addr) σ H (Q : Bool → Hp → Prop), EOk EvE (MD' M) j σ H → (∀ H', Same H H' → Q (b j.1 j.2.1) H') → tt σ H Q)
    (hte : ∀ (j : ι × α × Addr) σ H (Q : VK), EOk EvE (MD' M) j σ H → b j.1 j.2.1 = true → (∀ v H', Same H H' → (res j.1 j.2.1).R v (msk (MD' M j) H') → Q v H') → te σ H Q)
    (few : ∀ i σ H, Ev i σ H → (xs i).length ≤ 1000000) {σ : L2.St} {H : Hp} {Q : VK} (h : tR Ev M (fun i => oL (((xs i).filter (b i)).map (res i))) σ H Q) : tLc wi g tt te vs σ H Q := by
  obtain ⟨i, okE, q⟩ := h
  refine src σ H _ ⟨i, okE, fun J G Y H1 s1 wk hG hY D nD => lc_it wk (fun n H' => ∃ ws, H' D = some (.lst ws) ∧ All2 ((((xs i).take n).filter (b i)).map (res i)) ws (msk (D :: M i) H') ∧ Same H1 H')
    ⟨[], upd_same, by rw [List.take_zero]; trivial, same_new nD⟩ (fun n H' _ ⟨_, _, _, z⟩ => hG H' (msk_same z)) ?_ ?_⟩
  · rintro n x H' H'' hn ⟨ws, eD, aw, sK⟩ hYn
    have ok1 := okE.same E s1
    have lvD : Live (D :: M i) H' := fun c hc => by
      rcases List.mem_cons.mp hc with hc | hc
      · rw [hc]; exact ⟨ws, eD⟩
      · obtain ⟨us, e⟩ := ok1.2 c hc
        exact ⟨us, sK _ _ e⟩
    obtain ⟨sY, y, hy, rx⟩ := hY n H' x H'' (D :: M i) hn (msk_cons sK nD) lvD hYn
    have eD := sY _ _ eD
    have aw := aw.st (msk_ext (M := D :: M i) (LamX.ExtN.of sY))
    have sK := sK.trans sY
    have sm : Same (msk (M i) H1) (msk (D :: M i) H'') := msk_cons sK nD
    refine tgt (i, y, D) σ x (msk (D :: M i) H'') H'' _ (E i σ _ _ sm ok1.1) (List.mem_of_getElem? hy) rx msk_sub fun σ' hw evE => ⟨hw, ?_⟩
    have okI : EOk EvE (MD' M) (i, y, D) σ' H'' := ⟨evE, fun c hc => by
      rcases List.mem_cons.mp hc with hc | hc
      · rw [hc]; exact ⟨ws, eD⟩
      · obtain ⟨us, e⟩ := ok1.2 c hc
        exact ⟨us, sK _ _ e⟩⟩
    refine htt (i, y, D) σ' H'' _ okI fun H3 s3 => ?_
    have hk := (List.getElem?_eq_some_iff.mp hy).1
    have hf := few i σ _ ok1.1
    have okI3 := okI.same EE s3
    cases hb : b i y with
    | false =>
      refine iteF ⟨ws, s3 _ _ eD, ?_, sK.trans s3⟩
      rw [filter_snoc hy, hb, if_neg Bool.false_ne_true, List.append_nil]
      exact aw.st (msk_ext (LamX.ExtN.of s3))
    | true =>
      refine iteT (hte (i, y, D) σ' H3 _ okI3 hb fun yv H4 s4 ry => ⟨ws, s4 _ _ (s3 _ _ eD), ?_, ws ++ [yv], upd_same, ?_, ?_⟩)
      · have l1 := List.length_filter_le (b i) ((xs i).take n)
        rw [List.length_take] at l1
        rw [aw.len, List.length_map, sizeLine_eq]
        omega
      · rw [msk_upd List.mem_cons_self, filter_snoc hy, hb, if_pos rfl, List.map_append]
        exact (aw.st (msk_ext (LamX.ExtN.of (s3.trans s4)))).app ⟨ry, trivial⟩
      · exact fun c o e => by
          rw [upd_ne (ne_of_none e nD)]
          exact s4 _ _ (s3 _ _ (sK c o e))
  · rintro H' ⟨ws, eD, aw, sK⟩
    rw [List.take_length] at aw
    have nM : D ∉ M i := (okE.same E s1).2.free nD
    exact q _ _ (s1.trans sK) ⟨D, ws, rfl, by rw [msk_in nM]; exact eD, aw.st (LamX.ExtN.of msk_less)⟩
theorem flat_snoc {γ : Type} {xs : List α} {n : Nat} {y : α} (h : xs[n]? = some y) (f : α → List γ) : (xs.take (n + 1)).flatMap f = (xs.take n).flatMap f ++ f y := by
  rw [take_snocE h, List.flatMap_append]
  simp
/-- two sources, the second told within the first's turn -/
theorem lc2_term {ys : ι → α → List β} {r1 : ι → α → β → Rd} {EvF : (ι × α × Addr) × β → L2.St → Hp → Prop} {res : ι → α → β → Rd} {b : ι → α → β → Bool} {wi wi1 : TI} {g g1 : TG} {tt tt1 : TT} {te : TE} {vs vs1 : List Nat} (E : Env Ev) (EE : Env EvE) (EF : Env EvF) (src : Src Ev M xs r wi) (tgt : Tgt Ev xs r EvE vs g)
    (htt : ∀ (j : ι × α × Addr) σ H (Q : Bool → Hp → Prop), EOk EvE (MD' M) j σ H → (∀ H', Same H H' → Q true H') → tt σ H Q) (src1 : Src EvE (MD' M) (fun j => ys j.1 j.2.1) (fun j => r1 j.1 j.2.1) wi1)
    (tgt1 : ∀ (j : (ι × α × Addr) × β) σ v Hm H (Q : L2.St → Hp → Prop), EvE j.1 σ Hm → j.2 ∈ ys j.1.1 j.1.2.1 → (r1 j.1.1 j.1.2.1 j.2).R v Hm → Same Hm H → (∀ σ', wipe σ' vs1 = wipe σ vs1 → EvF j σ' Hm → Q σ' H) → g1 v (wipe σ vs1) H Q)
    (htt1 : ∀ (j : (ι × α × Addr) × β) σ H (Q : Bool → Hp → Prop), EOk EvF (fun j => MD' M j.1) j σ H → (∀ H', Same H H' → Q (b j.1.1 j.1.2.1 j.2) H') → tt1 σ H Q)
    (hte : ∀ (j : (ι × α × Addr) × β) σ H (Q : VK), EOk EvF (fun j => MD' M j.1) j σ H → b j.1.1 j.1.2.1 j.2 = true → (∀ v H', Same H H' → (res j.1.1 j.1.2.1 j.2).R v (msk (MD' M j.1) H') → Q v H') → te σ H Q)
    (few : ∀ i σ H, Ev i σ H → (xs i).length ≤ 1000 ∧ ∀ x ∈ xs i, (ys i x).length ≤ 1000) {σ : L2.St} {H : Hp} {Q : VK} (h : tR Ev M (fun i => oL ((xs i).flatMap fun x => ((ys i x).filter (b i x)).map (res i x))) σ H Q) : tLc2 wi g tt wi1 g1 tt1 te vs vs1 σ H Q := by
  obtain ⟨i, okE, q⟩ := h
  refine src σ H _ ⟨i, okE, fun J G Y H1 s1 wk hG hY D nD => ?_⟩
  have ok1 := okE.same E s1
  have hf := few i σ _ ok1.1
  let F : α → List Rd := fun x => ((ys i x).filter (b i x)).map (res i x)
  have hF : ∀ x ∈ xs i, (F x).length ≤ 1000 := fun x hx => by
    show (((ys i x).filter (b i x)).map (res i x)).length ≤ 1000
    rw [List.length_map]
    exact Nat.le_trans (List.length_filter_le _ _) (hf.2 x hx)
  have hFl : ∀ (n : Nat), n ≤ (xs i).length → (((xs i).take n).flatMap F).length ≤ 1000 * 1000 := fun n hn => by
    have z : ∀ (l : List α), (∀ x ∈ l, (F x).length ≤ 1000) → (l.flatMap F).length ≤ 1000 * l.length := by
      intro l
      induction l with
      | nil => intro _; simp
      | cons x l ih =>
        intro hl
        rw [List.flatMap_cons, List.length_append, List.length_cons]
        have := ih fun y hy => hl y (List.mem_cons_of_mem _ hy)
        have := hl x List.mem_cons_self
        omega
    have z2 := z ((xs i).take n) fun x hx => hF x (List.mem_of_mem_take hx)
    rw [List.length_take, Nat.min_eq_left hn] at z2
    have := hf.1
    omega
  let Pv : Nat → Hp → Prop := fun n H' => ∃ ws, H' D = some (.lst ws) ∧ All2 (((xs i).take n).flatMap F) ws (msk (D :: M i) H') ∧ Same H1 H'
  refine ⟨fun n m H' => m = (xs i).length - n ∧ n ≤ (xs i).length ∧ Pv n H', ⟨(xs i).length, by simp, Nat.zero_le _, [], upd_same, by rw [List.take_zero]; trivial, same_new nD⟩, ?_⟩
  rintro n m H' ⟨rfl, hn, ws, eD, aw, sK⟩
  have nM : D ∉ M i := ok1.2.free nD
  by_cases hlt : n < (xs i).length
  · refine .inr ⟨wk.goes n H' hlt (hG H' (msk_same sK)), fun H'' => n + 1 ≤ (xs i).length ∧ Pv (n + 1) H'', fun H'' z => ⟨(xs i).length - (n + 1), by omega, rfl, z⟩, fun x H'' y => ?_⟩
    have lvD : Live (D :: M i) H' := fun c hc => by
      rcases List.mem_cons.mp hc with hc | hc
      · rw [hc]; exact ⟨ws, eD⟩
      · obtain ⟨us, e⟩ := ok1.2 c hc
        exact ⟨us, sK _ _ e⟩
    obtain ⟨sY, y, hy, rx⟩ := hY n H' x H'' (D :: M i) hlt (msk_cons sK nD) lvD (wk.yields n H' x H'' hlt (hG H' (msk_same sK)) y)
    have eD := sY _ _ eD
    have aw := aw.st (msk_ext (M := D :: M i) (LamX.ExtN.of sY))
    have sK := sK.trans sY
    have hym := List.mem_of_getElem? hy
    have sm : Same (msk (M i) H1) (msk (D :: M i) H'') := msk_cons sK nD
    refine tgt (i, y, D) σ x (msk (D :: M i) H'') H'' _ (E i σ _ _ sm ok1.1) hym rx msk_sub fun σ2 hw evE => ⟨hw, ?_⟩
    have okI : EOk EvE (MD' M) (i, y, D) σ2 H'' := ⟨evE, fun c hc => by
      rcases List.mem_cons.mp hc with hc | hc
      · rw [hc]; exact ⟨ws, eD⟩
      · obtain ⟨us', e⟩ := ok1.2 c hc
        exact ⟨us', sK _ _ e⟩⟩
    refine htt (i, y, D) σ2 H'' _ okI fun H3 s3 => iteT (src1 σ2 H3 _ ⟨(i, y, D), okI.same EE s3, fun J1 G1 Y1 H4 s4 wk1 hG1 hY1 => ?_⟩)
    have s34 := s3.trans s4
    have okI4 := (okI.same EE s3).same EE s4
    let Pw : Nat → Hp → Prop := fun k H5 => ∃ ws5, H5 D = some (.lst ws5) ∧ All2 (((xs i).take n).flatMap F ++ (((ys i y).take k).filter (b i y)).map (res i y)) ws5 (msk (D :: M i) H5) ∧ (∀ c o, c ≠ D → H4 c = some o → H5 c = some o)
    have hSm : ∀ {H5 : Hp}, (∀ c o, c ≠ D → H4 c = some o → H5 c = some o) → Same (msk (D :: M i) H4) (msk (D :: M i) H5) := fun {H5} z c o e => by
      obtain ⟨e, nc⟩ := msk_of e
      rw [msk_in nc]
      exact z c o (fun w => nc (by rw [w]; exact List.mem_cons_self)) e
    refine ⟨fun k m H5 => m = (ys i y).length - k ∧ k ≤ (ys i y).length ∧ Pw k H5, ⟨(ys i y).length, by simp, Nat.zero_le _, ws, s34 _ _ eD, by
      rw [List.take_zero]
      show All2 (((xs i).take n).flatMap F ++ []) ws _
      rw [List.append_nil]
      exact aw.st (msk_ext (LamX.ExtN.of s34)), fun c o _ e => e⟩, ?_⟩
    rintro k m H5 ⟨rfl, hk, ws5, eD5, aw5, sB⟩
    have gH5 := hG1 H5 (hSm sB)
    by_cases hkl : k < (ys i y).length
    · refine .inr ⟨wk1.goes k H5 hkl gH5, fun H6 => k + 1 ≤ (ys i y).length ∧ Pw (k + 1) H6, fun H6 z => ⟨(ys i y).length - (k + 1), by omega, rfl, z⟩, fun x1 H6 y1 => ?_⟩
      have lv5 : Live (D :: M i) H5 := fun c hc => by
        rcases List.mem_cons.mp hc with hc | hc
        · rw [hc]; exact ⟨ws5, eD5⟩
        · obtain ⟨us', e⟩ := ok1.2 c hc
          exact ⟨us', sB c _ (fun w => nM (by rw [← w]; exact hc)) (s34 _ _ (sK _ _ e))⟩
      obtain ⟨sY1, z, hz, rx1⟩ := hY1 k H5 x1 H6 (D :: M i) hkl (hSm sB) lv5 (wk1.yields k H5 x1 H6 hkl gH5 y1)
      have eD5 := sY1 _ _ eD5
      have aw5 := aw5.st (msk_ext (M := D :: M i) (LamX.ExtN.of sY1))
      have sB : ∀ c o, c ≠ D → H4 c = some o → H6 c = some o := fun c o hc e => sY1 _ _ (sB c o hc e)
      have sm1 := hSm sB
      refine tgt1 ((i, y, D), z) σ2 x1 (msk (D :: M i) H6) H6 _ (EE _ _ _ _ sm1 okI4.1) (List.mem_of_getElem? hz) rx1 msk_sub fun σ3 hw1 evF => ⟨hw1, ?_⟩
      have okF : EOk EvF (fun j => MD' M j.1) ((i, y, D), z) σ3 H6 := ⟨evF, fun c hc => by
        rcases List.mem_cons.mp hc with hc | hc
        · rw [hc]; exact ⟨ws5, eD5⟩
        · obtain ⟨us', e⟩ := ok1.2 c hc
          exact ⟨us', sB c _ (fun w => nM (by rw [← w]; exact hc)) (s34 _ _ (sK _ _ e))⟩⟩
      refine htt1 ((i, y, D), z) σ3 H6 _ okF fun H7 s7 => ?_
      have okF7 := okF.same EF s7
      cases hb : b i y z with
      | false =>
        refine iteF ⟨hkl, ws5, s7 _ _ eD5, ?_, fun c o hc e => s7 _ _ (sB c o hc e)⟩
        rw [filter_snoc hz, hb, if_neg Bool.false_ne_true, List.append_nil]
        exact aw5.st (msk_ext (LamX.ExtN.of s7))
      | true =>
        refine iteT (hte ((i, y, D), z) σ3 H7 _ okF7 hb fun yv H8 s8 ry => ⟨ws5, s8 _ _ (s7 _ _ eD5), ?_, hkl, ws5 ++ [yv], upd_same, ?_, ?_⟩)
        · have l1 := List.length_filter_le (b i y) ((ys i y).take k)
          rw [List.length_take] at l1
          have l2 := hFl n (by omega)
          have l3 := hf.2 y hym
          rw [aw5.len, List.length_append, List.length_map, sizeLine_eq]
          omega
        · rw [msk_upd List.mem_cons_self, filter_snoc hz, hb, if_pos rfl, List.map_append, ← List.append_assoc]
          exact (aw5.st (msk_ext (LamX.ExtN.of (s7.trans s8)))).app ⟨ry, trivial⟩
        · exact fun c o hc e => by
            rw [upd_ne hc]
            exact s8 _ _ (s7 _ _ (sB c o hc e))
    · have ek : k = (ys i y).length := by omega
      refine .inl ⟨?_, by omega, ws5, eD5, ?_, fun c o e => sB c o (ne_of_none e nD) (s34 _ _ (sK _ _ e))⟩
      · have : k = (ys i y).length := by omega
        rw [this]
        exact wk1.stops H5 gH5
      · rw [ek, List.take_length] at aw5
        rw [flat_snoc hy]
        exact aw5
  · have en : n = (xs i).length := by omega
    refine .inl ⟨by rw [en]; exact wk.stops H' (hG H' (msk_same sK)), q _ _ (s1.trans sK) ⟨D, ws, rfl, by rw [msk_in nM]; exact eD, ?_⟩⟩
    rw [en, List.take_length] at aw
    exact aw.st (LamX.ExtN.of msk_less)
end
end MX

set_option Elab.async false
set_option linter.all false
set_option maxRecDepth 100000
set_option maxHeartbeats 4000000
namespace MX
open PySem PySem.Spec PySem.W PySem.Calls PyProof.Rows L2
theorem wipe_in {σ : L2.St} {m : Nat} : ∀ {vs : List Nat}, m ∈ vs → m < σ.length → (wipe σ vs)[m]? = some none
  | [], h, _ => by cases h
  | v :: vs, h, l => by
    show ((wipe σ vs).set v none)[m]? = _
    by_cases c : v = m
    · rw [c, List.getElem?_set_self (by rw [wipe_length]; exact l)]
    · rw [List.getElem?_set_ne c]
      exact wipe_in ((List.mem_cons.mp h).resolve_left (fun z => c z.symm)) l
theorem wipe_eq {σ τ : L2.St} {vs : List Nat} (l : τ.length = σ.length) (h : ∀ m, m ∉ vs → τ[m]? = σ[m]?) : wipe τ vs = wipe σ vs := by
  apply List.ext_getElem?
  intro m
  by_cases c : m ∈ vs
  · by_cases z : m < σ.length
    · rw [wipe_in c z, wipe_in c (by rw [l]; exact z)]
    · rw [List.getElem?_eq_none (by rw [wipe_length]; omega), List.getElem?_eq_none (by rw [wipe_length]; omega)]
  · rw [wipe_out c, wipe_out c]
    exact h m c
section
variable {ι α : Type} {P : ι → Prop} {Γ : ι → Gm} {xs : ι → List α}
abbrev PE1 (P : ι → Prop) (xs : ι → List α) : ι × α × Addr → Prop := fun j => P j.1 ∧ j.2.1 ∈ xs j.1
/-- a name -/
theorem tgt_name {r : ι → α → Rd} {k : Nat} {vs : List Nat} (hk : k ∈ vs) (hv : ∀ i, ∀ v ∈ vs, (Γ i)[v]? = some none) : Tgt (EvT P Γ) xs r (EvT (PE1 P xs) fun j => (Γ j.1).set k (some (r j.1 j.2.1))) vs (gName k) := fun j σ v Hm H Q ev m rv sm h => by
  have z := ev.wipe vs (hv j.1)
  refine h _ (wipe_eq (by rw [List.length_set, wipe_length]) fun q hq => by rw [List.getElem?_set_ne (fun c => hq (by rw [← c]; exact hk)), wipe_out hq]) ⟨⟨ev.p, m⟩, ?_, fun q rd e => ?_⟩
  · rw [List.length_set, List.length_set]
    exact z.l
  · exact (z.set k rv (Γ' := fun _ => (Γ j.1).set k (some (r j.1 j.2.1))) rfl).at_ q rd e
/-- a pair of names -/
theorem tgt_pair {K : PySem.W.Frag} {ra rb : ι → α → Rd} {k1 k2 : Nat} {vs : List Nat} (h1 : k1 ∈ vs) (h2 : k2 ∈ vs) (hv : ∀ i, ∀ v ∈ vs, (Γ i)[v]? = some none) :
    Tgt (EvT P Γ) xs (fun i x => oT [ra i x, rb i x]) (EvT (PE1 P xs) fun j => ((Γ j.1).set k1 (some (ra j.1 j.2.1))).set k2 (some (rb j.1 j.2.1))) vs (gTup K 2 (gCons (gName k1) (gCons (gName k2) gNil))) := fun j σ v Hm H Q ev m rv sm h => by
  have z := ev.wipe vs (hv j.1)
  obtain ⟨a, ws, e, ea, al⟩ := rv
  match ws, al with
  | [v1, v2], ⟨q1, q2, _⟩ =>
    refine ⟨a, _, e, SqT.of (sm _ _ ea), rfl, v1, _, rfl, v2, _, rfl, rfl, h _ (wipe_eq (by rw [List.length_set, List.length_set, wipe_length]) fun q hq => by
      rw [List.getElem?_set_ne (fun c => hq (by rw [← c]; exact h2)), List.getElem?_set_ne (fun c => hq (by rw [← c]; exact h1)), wipe_out hq]) ⟨⟨ev.p, m⟩, ?_, fun q rd e => ?_⟩⟩
    · rw [List.length_set, List.length_set, List.length_set, List.length_set]
      exact z.l
    · exact ((z.set k1 q1 (Γ' := fun _ => (Γ j.1).set k1 (some (ra j.1 j.2.1))) rfl).set k2 q2 (Γ' := fun _ => ((Γ j.1).set k1 (some (ra j.1 j.2.1))).set k2 (some (rb j.1 j.2.1))) rfl).at_ q rd e
end
section
variable {ι α : Type} {Ev : ι → L2.St → Hp → Prop} {M : ι → List Addr} {xs : ι → List α} {r : ι → α → Rd} {X : Cx}
theorem walk_rt {K : PySem.W.Frag} {a : Addr} {vs : List V} : Walk (RT.ItvT K a vs.length) vs.length (fun H => SqT K H a vs) (fun i H x H' => H' = H ∧ vs[vs.length - 1 - i]? = some x) :=
  ⟨fun i _ hi q => ⟨hi, vs, vs[vs.length - 1 - i]'(by omega), q, by simp [show vs.length - 1 - i < vs.length by omega]⟩, fun _ _ => Nat.le_refl _, fun _ _ _ _ _ q y => ⟨y.1, y.2 vs q⟩⟩
/-- reversed(a tuple) -/
theorem src_rev {K : PySem.W.Frag} : Src Ev M (fun i => (xs i).reverse) r (RT.iRevA K (tR Ev M fun i => oT ((xs i).map (r i)))) := fun σ H R ⟨i, ok, q⟩ => ⟨i, ok, fun v H1 s1 ⟨a, vs, ev, ea, al⟩ => by
  have el : vs.length = (xs i).length := al.len.trans (List.length_map ..)
  refine ⟨a, vs, ev, .inr ⟨SqT.of (msk_of ea).1, q _ (fun H => SqT K H a vs) (fun n H x H' => H' = H ∧ vs[vs.length - 1 - n]? = some x) H1 s1 ?_ (fun H' s => SqT.of (msk_of (s _ _ ea)).1) fun m Hm x H' Mx hm s _ y => ?_⟩⟩
  · rw [List.length_reverse, ← el]
    exact walk_rt
  · obtain ⟨rfl, hx⟩ := y
    obtain ⟨rd, hr, rx⟩ := al.at hx
    rw [List.getElem?_map] at hr
    obtain ⟨y, hy, rfl⟩ := Option.map_eq_some_iff.mp hr
    refine ⟨Same.refl _, y, ?_, (r i y).st _ _ _ (LamX.ExtN.of s) rx⟩
    rw [List.length_reverse] at hm
    rw [List.getElem?_reverse hm, ← el]
    exact hy⟩
/-- enumerate(a tuple) -/
theorem src_enum {K : PySem.W.Frag} {ta : TA} (h : ∀ σ H Q, (∃ i, EOk Ev M i σ H ∧ ∀ v H', Same H H' → (oT ((xs i).map (r i))).R v (msk (M i) H') → Q [v] H') → ta σ H Q) : Src Ev M (fun i => (xs i).zipIdx) (fun i p => oT [oI ((p.2 : Nat) : Int), r i p.1]) (iEnumP K ta) := fun σ H R ⟨i, ok, q⟩ => h σ H _ ⟨i, ok, fun v H1 s1 ⟨a, vs, ev, ea, al⟩ => by
  have el : vs.length = (xs i).length := al.len.trans (List.length_map ..)
  refine ⟨a, vs, by rw [ev], SqT.of (msk_of ea).1, q (IteP K a 0) (fun H => SqT K H a vs) _ H1 s1 (by rw [List.length_zipIdx, ← el]; exact walk_enumP) (fun H' s => SqT.of (msk_of (s _ _ ea)).1) fun m Hm x H' Mx _ s lv y => ?_⟩
  obtain ⟨T, a1, a2, rfl, hT, rfl, e1, e2⟩ := y
  obtain rfl : V.int (0 + (m : Int)) = a1 := Option.some.inj e1
  obtain ⟨rd, hr, rx⟩ := al.at e2
  rw [List.getElem?_map] at hr
  obtain ⟨y, hy, rfl⟩ := Option.map_eq_some_iff.mp hr
  have sT := same_new (o := .tup [V.int (0 + (m : Int)), a2]) hT
  refine ⟨sT, (y, m), ?_, T, _, rfl, msk_new lv hT, ?_, (r i y).st _ _ _ (LamX.ExtN.of (s.trans (msk_same sT))) rx, trivial⟩
  · rw [List.getElem?_zipIdx, hy]
    simp
  · show V.int (0 + (m : Int)) = V.int (m : Int)
    rw [Int.zero_add]⟩
end
section
variable {ι α β : Type} {P : ι → Prop} {Γ : ι → Gm} {M : ι → List Addr} {xs : ι → List α} {r res : ι → α → Rd} {b : ι → α → Bool} {Γ' : ι × α × Addr → Gm} {X : Cx} {elt tg iter c : Expr} {scope : Scope} {own : List (Str × Nat)} {pos spos py : Pos} {wi : TI} {g : TG} {rs : ι → Rd} {rest : List Stmt} {y : Str} {k : Nat}
/-- [elt for .. in .. if c] -/
theorem et_lcX (hc : X.calm = true) (hN : X.N.Nodup) (hi : PI X tg iter wi) (src : Src (EvT P Γ) M xs r wi) (ok : BlkOk X.N X.env.scope scope own)
    (hg : ∀ (s : Shared) (H : Hp) (C : Addr) (cl : List (Str × Addr)) (fp : List Addr), PG (X.blk s H scope (compEnvC scope cl C X.env) fp) tg g) (tgt : Tgt (EvT P Γ) xs r (EvT (PE1 P xs) Γ') (own.map (·.2)) g)
    (htst : ∀ (s : Shared) (H : Hp) (C : Addr) (cl : List (Str × Addr)) (fp : List Addr), PT (X.blk s H scope (compEnvC scope cl C X.env) fp) c (tTR (EvT (PE1 P xs) Γ') (MD' M) fun j => b j.1 j.2.1))
    (he : ∀ (s : Shared) (H : Hp) (C : Addr) (cl : List (Str × Addr)) (fp : List Addr), PE (X.blk s H scope (compEnvC scope cl C X.env) fp) elt (tR (EvT (fun j => PE1 P xs j ∧ b j.1 j.2.1 = true) Γ') (MD' M) fun j => res j.1 j.2.1))
    (few : ∀ i, P i → (xs i).length ≤ 1000000) (hs : ∀ x, foldedSetIterable iter X.env x = pure x := by intro _; rfl) : PE X (.ListComp elt [⟨tg, iter, [c], 0⟩] scope pos) (tR (EvT P Γ) M fun i => oL (((xs i).filter (b i)).map (res i))) :=
  pe_mono (pe_lc hc hN hi ok hg (fun s H C cl fp => pts_one (htst s H C cl fp)) he hs) fun σ H Q h => lc_term evT evT src tgt (fun j σ H Q ok q => ⟨j, ok, q⟩) (fun j σ H Q ok hb q => ⟨j, ⟨ok.1.as ⟨ok.1.p, hb⟩ rfl fun _ _ e => e, ok.2⟩, q⟩) (fun i σ H ev => few i ev.p) h
/-- [elt for .. in ..] -/
theorem et_lcY (hc : X.calm = true) (hN : X.N.Nodup) (hi : PI X tg iter wi) (src : Src (EvT P Γ) M xs r wi) (ok : BlkOk X.N X.env.scope scope own)
    (hg : ∀ (s : Shared) (H : Hp) (C : Addr) (cl : List (Str × Addr)) (fp : List Addr), PG (X.blk s H scope (compEnvC scope cl C X.env) fp) tg g) (tgt : Tgt (EvT P Γ) xs r (EvT (PE1 P xs) Γ') (own.map (·.2)) g)
    (he : ∀ (s : Shared) (H : Hp) (C : Addr) (cl : List (Str × Addr)) (fp : List Addr), PE (X.blk s H scope (compEnvC scope cl C X.env) fp) elt (tR (EvT (PE1 P xs) Γ') (MD' M) fun j => res j.1 j.2.1))
    (few : ∀ i, P i → (xs i).length ≤ 1000000) (hs : ∀ x, foldedSetIterable iter X.env x = pure x := by intro _; rfl) : PE X (.ListComp elt [⟨tg, iter, [], 0⟩] scope pos) (tR (EvT P Γ) M fun i => oL ((xs i).map (res i))) :=
  pe_mono (pe_lc (tt := tYes) hc hN hi ok hg (fun _ _ _ _ _ => pts_nil) he hs) fun σ H Q h => lc_term (b := fun _ _ => true) evT evT src tgt (fun j σ H Q ok q => q H (Same.refl H)) (fun j σ H Q ok _ q => ⟨j, ok, q⟩) (fun i σ H ev => few i ev.p) (by
    have e : ∀ l : List α, l.filter (fun _ => true) = l := fun l => List.filter_eq_self.mpr fun _ _ => rfl
    simp only [e]
    exact h)
/-- y = [elt for .. in .. if c] -/
theorem bd_setLcX (hc : X.calm = true) (hN : X.N.Nodup) (hi : PI X tg iter wi) (src : Src (EvT P Γ) M xs r wi) (ok : BlkOk X.N X.env.scope scope own)
    (hg : ∀ (s : Shared) (H : Hp) (C : Addr) (cl : List (Str × Addr)) (fp : List Addr), PG (X.blk s H scope (compEnvC scope cl C X.env) fp) tg g) (tgt : Tgt (EvT P Γ) xs r (EvT (PE1 P xs) Γ') (own.map (·.2)) g)
    (htst : ∀ (s : Shared) (H : Hp) (C : Addr) (cl : List (Str × Addr)) (fp : List Addr), PT (X.blk s H scope (compEnvC scope cl C X.env) fp) c (tTR (EvT (PE1 P xs) Γ') (MD' M) fun j => b j.1 j.2.1))
    (he : ∀ (s : Shared) (H : Hp) (C : Addr) (cl : List (Str × Addr)) (fp : List Addr), PE (X.blk s H scope (compEnvC scope cl C X.env) fp) elt (tR (EvT (fun j => PE1 P xs j ∧ b j.1 j.2.1 = true) Γ') (MD' M) fun j => res j.1 j.2.1))
    (few : ∀ i, P i → (xs i).length ≤ 1000000) (hr : PSs X rest (tRt M P (fun i => (Γ i).set k (some (oL (((xs i).filter (b i)).map (res i))))) rs))
    (hsw : swapsWith (.ListComp elt [⟨tg, iter, [c], 0⟩] scope pos) (some (.Name y py)) spos.line X.env = pure true) (hy : X.N[k]? = some y := by rfl) (hyl : X.env.scope.names.lookup y = some .local := by rfl) (hs : ∀ x, foldedSetIterable iter X.env x = pure x := by intro _; rfl) :
    PSs X (.Assign [.Name y py] (.ListComp elt [⟨tg, iter, [c], 0⟩] scope pos) spos :: rest) (tRt M P Γ rs) :=
  pss_mono (pss_cons (ps_setLc hc hN hy hyl hsw hi ok hg (fun s H C cl fp => pts_one (htst s H C cl fp)) he hs) hr) fun D σ H ⟨i, okE, q⟩ => lc_term (Q := fun x H1 => gName k x σ H1 _) evT evT src tgt (fun j σ H Q ok q => ⟨j, ok, q⟩) (fun j σ H Q ok hb q => ⟨j, ⟨ok.1.as ⟨ok.1.p, hb⟩ rfl fun _ _ e => e, ok.2⟩, q⟩) (fun i σ H ev => few i ev.p)
    ⟨i, okE, fun v H1 s1 rv => ⟨i, ⟨(okE.same evT s1).1.set k rv rfl, (okE.same evT s1).2⟩, fun u H2 s2 ru => q u H2 (s1.trans s2) ru⟩⟩
/-- y = [elt for a in .. for b in .. (if c)], both targets names -/
theorem bd_setLc2 {ys : ι → α → List β} {r1 res : ι → α → β → Rd} {b : ι → α → β → Bool} {k1 k2 : Nat} {x1 x2 : Str} {p1 p2 : Pos} {iter1 : Expr} {wi1 : TI} {ifs : List Expr} {tt : TT} (hc : X.calm = true) (hN : X.N.Nodup) (h1 : ∀ i, (Γ i)[k1]? = some none) (h2 : ∀ i, (Γ i)[k2]? = some none) (h12 : k1 ≠ k2)
    (hi : PI X (.Name x1 p1) iter wi) (src : Src (EvT P Γ) M xs r wi) (ok : BlkOk X.N X.env.scope scope [(x1, k1), (x2, k2)])
    (hg : ∀ (s : Shared) (H : Hp) (C : Addr) (cl : List (Str × Addr)) (fp : List Addr), PG (X.blk s H scope (compEnvC scope cl C X.env) fp) (.Name x1 p1) (gName k1))
    (hi1 : ∀ (s : Shared) (H : Hp) (C : Addr) (cl : List (Str × Addr)) (fp : List Addr), PI (X.blk s H scope (compEnvC scope cl C X.env) fp) (.Name x2 p2) iter1 wi1)
    (src1 : Src (EvT (PE1 P xs) fun j : ι × α × Addr => (Γ j.1).set k1 (some (r j.1 j.2.1))) (MD' M) (fun j => ys j.1 j.2.1) (fun j => r1 j.1 j.2.1) wi1)
    (hg1 : ∀ (s : Shared) (H : Hp) (C : Addr) (cl : List (Str × Addr)) (fp : List Addr), PG (X.blk s H scope (compEnvC scope cl C X.env) fp) (.Name x2 p2) (gName k2))
    (htst : ∀ (s : Shared) (H : Hp) (C : Addr) (cl : List (Str × Addr)) (fp : List Addr), PTs (X.blk s H scope (compEnvC scope cl C X.env) fp) ifs tt)
    (htt : ∀ (j : (ι × α × Addr) × β) σ H (Q : Bool → Hp → Prop), EOk (EvT (fun j : (ι × α × Addr) × β => PE1 P xs j.1 ∧ j.2 ∈ ys j.1.1 j.1.2.1) fun j => ((Γ j.1.1).set k1 (some (r j.1.1 j.1.2.1))).set k2 (some (r1 j.1.1 j.1.2.1 j.2))) (fun j => MD' M j.1) j σ H → (∀ H', Same H H' → Q (b j.1.1 j.1.2.1 j.2) H') → tt σ H Q)
    (he : ∀ (s : Shared) (H : Hp) (C : Addr) (cl : List (Str × Addr)) (fp : List Addr), PE (X.blk s H scope (compEnvC scope cl C X.env) fp) elt (tR (EvT (fun j : (ι × α × Addr) × β => (PE1 P xs j.1 ∧ j.2 ∈ ys j.1.1 j.1.2.1) ∧ b j.1.1 j.1.2.1 j.2 = true) fun j => ((Γ j.1.1).set k1 (some (r j.1.1 j.1.2.1))).set k2 (some (r1 j.1.1 j.1.2.1 j.2))) (fun j => MD' M j.1) fun j => res j.1.1 j.1.2.1 j.2))
    (few : ∀ i, P i → (xs i).length ≤ 1000 ∧ ∀ x ∈ xs i, (ys i x).length ≤ 1000) (hr : PSs X rest (tRt M P (fun i => (Γ i).set k (some (oL ((xs i).flatMap fun x => ((ys i x).filter (b i x)).map (res i x))))) rs))
    (hsw : swapsWith (.ListComp elt [⟨.Name x1 p1, iter, [], 0⟩, ⟨.Name x2 p2, iter1, ifs, 0⟩] scope pos) (some (.Name y py)) spos.line X.env = pure true) (hy : X.N[k]? = some y := by rfl) (hyl : X.env.scope.names.lookup y = some .local := by rfl) (hs : ∀ x, foldedSetIterable iter X.env x = pure x := by intro _; rfl) (hs1 : ∀ env x, foldedSetIterable iter1 env x = pure x := by intro _ _; rfl) :
    PSs X (.Assign [.Name y py] (.ListComp elt [⟨.Name x1 p1, iter, [], 0⟩, ⟨.Name x2 p2, iter1, ifs, 0⟩] scope pos) spos :: rest) (tRt M P Γ rs) :=
  pss_mono (pss_cons (ps_setLc2 (vs1 := [k2]) (tt := tYes) hc hN hy hyl hsw hi ok (fun i hi => by rw [List.mem_singleton.mp hi]; simp) hg (fun _ _ _ _ _ => pts_nil) hi1 hg1 htst he hs hs1) hr) fun D σ H ⟨i, okE, q⟩ =>
    lc2_term (Q := fun x H1 => gName k x σ H1 _) (vs := [k1, k2]) (EvF := EvT (fun j : (ι × α × Addr) × β => PE1 P xs j.1 ∧ j.2 ∈ ys j.1.1 j.1.2.1) fun j => ((Γ j.1.1).set k1 (some (r j.1.1 j.1.2.1))).set k2 (some (r1 j.1.1 j.1.2.1 j.2))) evT evT evT src
      (tgt_name (by simp) fun i v hv => by
        rcases List.mem_cons.mp hv with hv | hv
        · rw [hv]; exact h1 i
        · rw [List.mem_singleton.mp hv]; exact h2 i) (fun j σ H Q ok q => q H (Same.refl H)) src1
      (fun j σ v Hm H Q ev m rv sm h => by
        have hj : ((Γ j.1.1).set k1 (some (r j.1.1 j.1.2.1)))[k2]? = some none := by rw [List.getElem?_set_ne h12]; exact h2 j.1.1
        have z := ev.wipe [k2] fun q hq => by rw [List.mem_singleton.mp hq]; exact hj
        refine h _ (wipe_eq (by rw [List.length_set, wipe_length]) fun q hq => by rw [List.getElem?_set_ne (fun c => hq (by rw [← c]; exact List.mem_singleton.mpr rfl)), wipe_out hq]) ⟨⟨ev.p, m⟩, ?_, fun q rd e => ?_⟩
        · rw [List.length_set, List.length_set]
          exact z.l
        · exact (z.set k2 rv (Γ' := fun _ => ((Γ j.1.1).set k1 (some (r j.1.1 j.1.2.1))).set k2 (some (r1 j.1.1 j.1.2.1 j.2))) rfl).at_ q rd e)
      htt (fun j σ H Q ok hb q => ⟨j, ⟨ok.1.as ⟨ok.1.p, hb⟩ rfl fun _ _ e => e, ok.2⟩, q⟩) (fun i σ H ev => few i ev.p)
      ⟨i, okE, fun v H1 s1 rv => ⟨i, ⟨(okE.same evT s1).1.set k rv rfl, (okE.same evT s1).2⟩, fun u H2 s2 ru => q u H2 (s1.trans s2) ru⟩⟩
end
end MX

set_option Elab.async false
set_option linter.all false
set_option maxRecDepth 100000
set_option maxHeartbeats 4000000
namespace MX
open PySem PySem.Spec PySem.W PySem.Calls PyProof.Rows L2
section
variable {ι : Type} {P : ι → Prop} {Γ : ι → Gm} {M : ι → List Addr} {X : Cx} {Ev : ι → L2.St → Hp → Prop} {pos : Pos}
theorem bn_skipc {c : Expr} {a rest : List Stmt} (hc : PT X c (tTR (EvT P Γ) M fun _ => false)) (hr : PSs X rest (tRn M P Γ)) : PSs X (.If c a [] pos :: rest) (tRn M P Γ) :=
  pss_mono (pss_cons (ps_if hc pss_never pss_nil) hr) fun D σ H ⟨i, ok, q⟩ => ⟨i, ok, fun H1 s1 => iteF ⟨i, ok.same evT s1, fun σ' H2 s2 => q σ' H2 (s1.trans s2)⟩⟩
theorem bn_expr {e : Expr} {rest : List Stmt} {r : ι → Rd} (he : PE X e (tR (EvT P Γ) M r)) (hr : PSs X rest (tRn M P Γ)) (hs : swapsWith e none pos.line X.env = pure false := by rfl) : PSs X (.Expr e pos :: rest) (tRn M P Γ) :=
  pss_mono (pss_cons (ps_expr he hs) hr) fun D σ H ⟨i, ok, q⟩ => ⟨i, ok, fun v H1 s1 rv => ⟨i, ok.same evT s1, fun σ' H2 s2 => q σ' H2 (s1.trans s2)⟩⟩
/-- name not in hall -/
theorem tt_notInH (E : Env Ev) {K : PySem.W.Frag} {C g : Addr} {k : Nat} {fd : FuncData} {κ : Type} {as : κ → List Rd} {rs : κ → Rd} {h : ι → HI} {x : ι → Str} {b : ι → Bool} {a e : Expr} {CX : CXT} (hK : X.K = K) (hs : PySem.W.findIn X.K (.ref C) "__contains__" = some (some (.ref g))) (hf : PySem.W.typeIn X.K (.ref g) = some (.type "function"))
    (F : FnOk X.prog X.w X.K X.mg X.base CX k g fd ["self", "value"] (spE as rs)) (hr : Room k X.A) (hb : Binds X.K fd ["self", "value"] []) (hx : Passes CX X (fun _ _ _ => False)) (φ : ι → κ) (has : ∀ i, as (φ i) = [hR K C (h i), oS (x i)]) (hrs : ∀ i, rs (φ i) = oB (b i))
    (ha : PE X a (tR Ev M fun i => oS (x i))) (he : PE X e (tR Ev M fun i => hR K C (h i))) (h1 : behindInMarks .NotIn e = false) : PT X (.Compare a [.NotIn] [e] pos) (tTR Ev M fun i => !b i) := by
  subst hK
  refine pt_mono (pt_cmpR (op_notInOwn hs hf F hr hb hx) ha he h1) fun σ H Q ⟨i, ok, q⟩ => ⟨i, ok, fun v H1 s1 rv => ⟨i, ok.same E s1, fun u H2 s2 ⟨p, pp, o, d, eu, A⟩ => ?_⟩⟩
  have e1 : v = .str (x i) := rv
  obtain ⟨dx, e2⟩ := A.ex
  have A2 := A.ext (LamX.ExtN.of (msk_sub (M := M i) (H := H2)))
  refine ⟨p, dx, _, eu, (msk_of e2).1, φ i, ?_, fun w H3 s3 rw' => ?_⟩
  · rw [has i]
    exact ⟨⟨p, pp, o, d, rfl, A2⟩, e1, trivial⟩
  · rw [hrs i] at rw'
    exact ⟨b i, rw', !b i, rfl, q _ ((s1.trans s2).trans s3)⟩
/-- a < b < c -/
theorem tt_lt2 (E : Env Ev) {a b c : Expr} {x y z : ι → Int} (ha : PE X a (tR Ev M fun i => oI (x i))) (hb : PE X b (tR Ev M fun i => oI (y i))) (hc : PE X c (tR Ev M fun i => oI (z i))) (hm : lastMarks [.Lt, .Lt] [b, c] = false := by with_unfolding_all rfl) : PT X (.Compare a [.Lt, .Lt] [b, c] pos) (tTR Ev M fun i => decide (x i < y i) && decide (y i < z i)) :=
  pt_mono (pt_chain op_lt op_lt ha hb hc hm) fun σ H Q ⟨i, ok, q⟩ => ⟨i, ok, fun v H1 s1 rv => ⟨i, ok.same E s1, fun u H2 s2 ru => ⟨x i, y i, rv, ru, _, rfl, by
    by_cases c1 : x i < y i
    · rw [decide_eq_true c1]
      refine iteT ⟨i, (ok.same E s1).same E s2, fun w H3 s3 rw' => ⟨y i, z i, ru, rw', _, rfl, ?_⟩⟩
      have := q H3 ((s1.trans s2).trans s3)
      dsimp only at this
      rw [decide_eq_true c1] at this
      exact this
    · rw [decide_eq_false c1]
      have := q H2 (s1.trans s2)
      dsimp only at this
      rw [decide_eq_false c1] at this
      exact iteF ⟨false, rfl, this⟩⟩⟩⟩
/-- what is told of two, "not" where nothing is -/
def toldS (T : Tm) (a b : Str) : Str := match valV T (ek (a, b)) with
  | some (.str w) => w
  | _ => "not"
def strT (T : Tm) : Prop := ∀ k v, valV T k = some v → ∃ w, v = .str w
theorem told_get {T : Tm} (h : strT T) (a b : Str) : (valV T (ek (a, b))).getD (.str "not") = .str (toldS T a b) := by
  unfold toldS
  cases e : valV T (ek (a, b)) with
  | none => rfl
  | some v =>
    obtain ⟨w, rfl⟩ := h _ _ e
    rfl
/-- self._told.get((one, other), "not") -/
theorem er_toldG (E : Env Ev) {K : PySem.W.Frag} {C : Addr} {h : ι → HI} {s a b : Expr} {x y : ι → Str} {fpos apos tpos cpos dpos : Pos} {kk j} (hu : X.A.units + 1 < cLine) (hK : X.K = K) (c : Cls K C) (n : NoAttr K C "_told") (hs : PE X s (tR Ev M fun i => hR K C (h i))) (ht : PE X (.Tuple [a, b] kk tpos) (tR Ev M fun i => evR (x i, y i))) (st : ∀ i σ H, Ev i σ H → strT (h i).T)
    (m : M2 X (.Attribute s "_told" fpos) "get" apos (.Tuple [a, b] kk tpos) (.Constant (.str "not") j dpos) cpos) (hb : attributeBase s "_told" X.env (eval s X.env) = eval s X.env := by rfl) :
    PE X (.Call (.Attribute (.Attribute s "_told" fpos) "get" apos) [.Tuple [a, b] kk tpos, .Constant (.str "not") j dpos] [] cpos) (tR Ev M fun i => oS (toldS (h i).T (x i) (y i))) := by
  subst hK
  refine pe_mono (pe_dget2 hu (pe_fld hs hb) ht pe_str m) fun σ H Q ⟨i, ok, q⟩ => ⟨i, ok, fun v H1 s1 ⟨p, pp, o, d, ev, A⟩ => ?_⟩
  obtain ⟨dx, e1⟩ := A.ex
  refine ⟨p, C, dx, _, V.ref d, ev, (msk_of e1).1, c, n, rfl, d, rfl, .inr ⟨_, .inl (msk_of A.t).1⟩, i, ok.same E s1, fun u H2 s2 ⟨t, ws, eu, et, al⟩ => ?_⟩
  have e2 : ws = [V.str (x i), V.str (y i)] := all_oS (xs := [x i, y i]).mp al
  subst eu e2
  refine ⟨_, DGet.t (k := ek (x i, y i)) (s2 _ _ (msk_of A.t).1) (msk_of et).1, ?_⟩
  rw [told_get (st i σ _ ok.1)]
  exact q _ _ (s1.trans s2) rfl
/-- a constant table of the module at a text -/
theorem er_kd (E : Env Ev) {d : Addr} {a b : Expr} {f : Str → Str} {x : ι → Str} (hd : PE X a (tC (.ref d))) (hb : PE X b (tR Ev M fun i => oS (x i))) (hs : PlainIx b) (hk : ∀ i σ H, Ev i σ H → KDct X.K X.w d (x i) (.str (f (x i)))) : PE X (.Subscript a b pos) (tR Ev M fun i => oS (f (x i))) :=
  pe_mono (pe_ix ix_kdict hd hb hs) fun σ H Q ⟨i, ok, q⟩ => ⟨i, ok, fun u H2 s2 ru => ⟨d, x i, _, rfl, ru, hk i σ _ ok.1, q _ _ s2 rfl⟩⟩
/-- a method of a hall -/
theorem et_methP {κ : Type} {rz : ι → Rd} {K : PySem.W.Frag} {C f : Addr} {k : Nat} {fd : FuncData} {m : Str} {ps : List Str} {Pk : κ → Prop} {as : κ → List Rd} {rs : κ → Rd} {h : ι → HI} {o : Expr} {apos cpos : Pos} {e : Expr} {es : List Expr} {bs : ι → List Rd} (hK : X.K = K) (c : Cls K C) (mm : Meth K C m f) (F : FnOk X.prog X.w X.K X.mg X.base CX0 k f fd ps (spP Pk as rs)) (hr : Room k X.A) (hb : Binds X.K fd ps []) (φ : ι → κ) (hP : ∀ i, P i → Pk (φ i)) (has : ∀ i, as (φ i) = hR K C (h i) :: bs i) (pure_ : ∀ j v H H', (rs j).R v H → (rs j).R v H')
    (nf : ∀ (x : Str) (pp o d : V), ([("text", .str x), ("people", pp), ("opens", o), ("_told", d)] : List (Str × V)).lookup m = none) (ho : PE X o (tR (EvT P Γ) M fun i => hR K C (h i))) (ha : PA X (e :: es) (tRA (EvT P Γ) M bs)) (pe : ∀ {to : TE} {t : TA}, PE X o to → PA X (e :: es) t → PE X (.Call (.Attribute o m apos) (e :: es) [] cpos) (tMeth C m (spP Pk as rs) [] E0 to t)) (hrs : ∀ i, rs (φ i) = rz i := by intro _; rfl) :
    PE X (.Call (.Attribute o m apos) (e :: es) [] cpos) (tR (EvT P Γ) M rz) := by
  subst hK
  refine pe_mono (pe ho ha) fun σ H Q ⟨i, ok, q⟩ => ⟨i, ok, fun v H1 s1 ⟨p, pp, o', d, ev, A⟩ => ?_⟩
  obtain ⟨dx, e1⟩ := A.ex
  refine ⟨p, dx, _, ev, (msk_of e1).1, nf _ _ _ _, i, ok.same evT s1, fun vs H2 s2 al => ?_⟩
  show spP Pk as rs (v :: (vs ++ [])) H2 Q E0
  rw [List.append_nil, ev]
  have A2 := (A.ext (LamX.ExtN.of (msk_same (M := M i) s2))).ext (LamX.ExtN.of (msk_sub (M := M i) (H := H2)))
  refine ⟨φ i, hP i ok.1.p, ?_, fun w H3 s3 rw' => q _ _ ((s1.trans s2).trans s3) (by rw [← hrs i]; exact pure_ _ _ _ _ rw')⟩
  rw [has i]
  exact ⟨⟨p, pp, o', d, rfl, A2⟩, al.st (LamX.ExtN.of msk_sub)⟩
end
end MX

set_option Elab.async false
set_option linter.all false
set_option maxRecDepth 100000
set_option maxHeartbeats 4000000
namespace MX
open PySem PySem.Spec PySem.W PySem.Calls PyProof.Rows L2
section
variable {ι : Type} {P : ι → Prop} {Γ : ι → Gm} {M : ι → List Addr} {X : Cx} {Ev : ι → L2.St → Hp → Prop} {pos : Pos}
/-- o.f of an instance that a reading tells -/
theorem er_attr {K : PySem.W.Frag} {C : Addr} {f : Str} {rr r : ι → Rd} {e : Expr} (hK : X.K = K) (c : Cls K C) (n : NoAttr K C f) (inst : ∀ i v H, (rr i).R v H → ∃ p dx fs u, v = .ref p ∧ H p = some (.ins C dx fs) ∧ fs.lookup f = some u ∧ (r i).R u H) (he : PE X e (tR Ev M rr)) (hb : attributeBase e f X.env (eval e X.env) = eval e X.env := by rfl) :
    PE X (.Attribute e f pos) (tR Ev M r) := by
  subst hK
  refine pe_mono (pe_fld he hb) fun σ H Q ⟨i, ok, q⟩ => ⟨i, ok, fun v H1 s1 rv => ?_⟩
  obtain ⟨p, dx, fs, u, ev, ep, el, ru⟩ := inst i v _ rv
  exact ⟨p, C, dx, fs, u, ev, (msk_of ep).1, c, n, el, q _ _ s1 ru⟩
/-- o.m(..) of an instance that a reading tells -/
theorem et_meth {κ : Type} {rz : ι → Rd} {C f : Addr} {k : Nat} {fd : FuncData} {m : Str} {ps : List Str} {Pk : κ → Prop} {as : κ → List Rd} {rs : κ → Rd} {rr : ι → Rd} {o : Expr} {apos cpos : Pos} {e : Expr} {es : List Expr} {bs : ι → List Rd} (F : FnOk X.prog X.w X.K X.mg X.base CX0 k f fd ps (spP Pk as rs)) (φ : ι → κ) (hP : ∀ i, P i → Pk (φ i)) (has : ∀ i, as (φ i) = rr i :: bs i)
    (inst : ∀ i v H, (rr i).R v H → ∃ p dx fs, v = .ref p ∧ H p = some (.ins C dx fs) ∧ fs.lookup m = none) (ho : PE X o (tR (EvT P Γ) (fun _ => []) rr)) (ha : PA X (e :: es) (tRA (EvT P Γ) (fun _ => []) bs)) (pe : ∀ {to : TE} {t : TA}, PE X o to → PA X (e :: es) t → PE X (.Call (.Attribute o m apos) (e :: es) [] cpos) (tMeth C m (spP Pk as rs) [] E0 to t)) (hrs : ∀ i, rs (φ i) = rz i := by intro _; rfl) :
    PE X (.Call (.Attribute o m apos) (e :: es) [] cpos) (tR (EvT P Γ) (fun _ => []) rz) := by
  refine pe_mono (pe ho ha) fun σ H Q ⟨i, ok, q⟩ => ⟨i, ok, fun v H1 s1 rv => ?_⟩
  rw [msk_nil] at rv
  obtain ⟨p, dx, fs, ev, ep, el⟩ := inst i v _ rv
  refine ⟨p, dx, fs, ev, ep, el, i, ok.same evT s1, fun vs H2 s2 al => ?_⟩
  show spP Pk as rs (v :: (vs ++ [])) H2 Q E0
  rw [List.append_nil]
  rw [msk_nil] at al
  refine ⟨φ i, hP i ok.1.p, ?_, fun w H3 s3 rw' => q _ _ ((s1.trans s2).trans s3) (by rw [msk_nil, ← hrs i]; exact rw')⟩
  rw [has i]
  exact ⟨(rr i).st _ _ _ (LamX.ExtN.of s2) rv, al⟩
/-- a number of the module -/
theorem er_globI {x : Str} {n : Int} (hg : Gl X x) (hm : ∃ t, X.mg x = some (.int n t)) (hd : (x == ("__debug__" : Str)) = false := by decide) : PE X (.Name x pos) (tR Ev M fun _ => oI n) := by
  obtain ⟨t, hm⟩ := hm
  exact pe_mono (pe_glob (v := .int n) hg hm ⟨_, rfl⟩ hd) fun σ H Q ⟨i, _, k⟩ => k _ _ (Same.refl H) rfl
theorem tt_gtI (E : Env Ev) {a b : Expr} {x y : ι → Int} (ha : PE X a (tR Ev M fun i => oI (x i))) (hb : PE X b (tR Ev M fun i => oI (y i))) (h1 : behindInMarks .Gt b = false := by first | exact nobehind _ (by decide) (by decide) | rfl) : PT X (.Compare a [.Gt] [b] pos) (tTR Ev M fun i => decide (y i < x i)) :=
  tt_cmp E op_gt ha hb h1 fun i σ H ev v u rv ru Q q => by
    have e1 : v = .int (x i) := rv
    have e2 : u = .int (y i) := ru
    subst e1 e2
    exact ⟨_, _, rfl, rfl, q⟩
theorem dpI (K : PySem.W.Frag) (H : Hp) : ∀ xs : List Int, DpAll K H (xs.map V.int) (xs.map PyData.int)
  | [] => .nil
  | x :: xs => .cons (.int x) (dpI K H xs)
theorem all_oI {H : Hp} : ∀ {xs : List Int} {vs : List V}, All2 (xs.map oI) vs H → vs = xs.map V.int
  | [], [], _ => rfl
  | x :: xs, v :: vs, h => by
    have e : v = .int x := h.1
    rw [e, all_oI h.2]
    rfl
  | [], _ :: _, h => h.elim
  | _ :: _, [], h => h.elim
end
end MX

set_option Elab.async false
set_option linter.all false
set_option maxRecDepth 100000
set_option maxHeartbeats 4000000
namespace MX
open PySem PySem.Spec PySem.W PySem.Calls PyProof.Rows L2
/-! ### sorted of a list of pairs of texts -/
def ekc (e : Evt) : List (Int ⊕ List Nat) := [Sum.inr e.1.cps.toList, Sum.inr e.2.cps.toList]
theorem str_cps {x y : Str} (h : x.cps.toList = y.cps.toList) : x = y := by
  have h : x.cps = y.cps := Array.toList_inj.mp h
  cases x; cases y
  simp only [Str.mk.injEq]
  exact h
theorem ekc_inj {e f : Evt} (h : ekc e = ekc f) : e = f := by
  unfold ekc at h
  injection h with h1 h2
  injection h2 with h2 _
  exact Prod.ext (str_cps (Sum.inr.inj h1)) (str_cps (Sum.inr.inj h2))
def evLt (e f : Evt) : Bool := lexLt itemOrd (ekc e) (ekc f)
def Sd (l : List Evt) : Prop := l.Pairwise fun e f => evLt f e = false
theorem sd_unique : ∀ {l m : List Evt}, l.Perm m → Sd l → Sd m → l = m
  | [], m, p, _, _ => (p.symm.eq_nil).symm
  | x :: l, [], p, _, _ => absurd p.length_eq (by simp)
  | x :: l, y :: m, p, h1, h2 => by
    have a1 := List.pairwise_cons.mp h1
    have a2 := List.pairwise_cons.mp h2
    have e : x = y := by
      rcases List.mem_cons.mp (p.mem_iff.mp List.mem_cons_self) with c | c
      · exact c
      rcases List.mem_cons.mp (p.symm.mem_iff.mp List.mem_cons_self) with d | d
      · exact d.symm
      exact ekc_inj (lex_total (O := itemOrd) _ _ (a2.1 x c) (a1.1 y d))
    subst e
    rw [sd_unique (List.Perm.cons_inv p) a1.2 a2.2]
open Classical in
noncomputable def srtE (es : List Evt) : List Evt := if h : ∃ l : List Evt, l.Perm es ∧ Sd l then h.choose else []
theorem srtE_eq {l es : List Evt} (p : l.Perm es) (s : Sd l) : srtE es = l := by
  have h : ∃ l : List Evt, l.Perm es ∧ Sd l := ⟨l, p, s⟩
  unfold srtE
  rw [dif_pos h]
  exact sd_unique (h.choose_spec.1.trans p.symm) h.choose_spec.2 s
theorem srtE_perm {xs ys : List Evt} (p : xs.Perm ys) : srtE xs = srtE ys := by
  by_cases h : ∃ l : List Evt, l.Perm xs ∧ Sd l
  · obtain ⟨l, h1, h2⟩ := h
    rw [srtE_eq h1 h2, srtE_eq (h1.trans p) h2]
  · have h' : ¬ ∃ l : List Evt, l.Perm ys ∧ Sd l := fun ⟨l, h1, h2⟩ => h ⟨l, h1.trans p.symm, h2⟩
    unfold srtE
    rw [dif_neg h, dif_neg h']
/-- what a value is, read off the heap -/
def evtOf (H : Hp) : Value → Evt
  | .ref t => match H t with
    | some (.tup [.str a, .str b]) => (a, b)
    | _ => ("", "")
  | _ => ("", "")
theorem evtOf_at {H : Hp} {t : Addr} {e : Evt} (h : H t = some (.tup [V.str e.1, V.str e.2])) : evtOf H (.ref t) = e := by
  unfold evtOf
  simp only [h]
theorem evR_iff {H : Hp} {v : V} {e : Evt} : (evR e).R v H ↔ ∃ t, v = .ref t ∧ H t = some (.tup [V.str e.1, V.str e.2]) := by
  constructor
  · rintro ⟨a, vs, e1, h1, h2⟩
    have e2 : vs = [V.str e.1, V.str e.2] := all_oS (xs := [e.1, e.2]).mp h2
    exact ⟨a, e1, e2 ▸ h1⟩
  · rintro ⟨a, e1, h1⟩
    exact ⟨a, _, e1, h1, all_oS (xs := [e.1, e.2]).mpr rfl⟩
theorem evs_at {H : Hp} : ∀ {es : List Evt} {xs : List V} {us : List Value}, Vals xs us → All2 (es.map evR) xs H → (∀ u ∈ us, ∃ t, u = Value.ref t ∧ H t = some (.tup [V.str (evtOf H u).1, V.str (evtOf H u).2])) ∧ us.map (evtOf H) = es
  | [], [], _, .nil, _ => ⟨fun u h => (by cases h), rfl⟩
  | e :: es, x :: xs, u :: us, .cons r t, h => by
    obtain ⟨a, ex, ha⟩ := evR_iff.mp h.1
    subst ex
    cases r
    obtain ⟨h1, h2⟩ := evs_at t h.2
    have z := evtOf_at ha
    refine ⟨fun u hu => ?_, by rw [List.map_cons, z, h2]⟩
    rcases List.mem_cons.mp hu with hu | hu
    · rw [hu, z]
      exact ⟨a, rfl, ha⟩
    · exact h1 u hu
  | [], _ :: _, _, .cons _ _, h => h.elim
theorem evs_back {H : Hp} : ∀ {us : List Value}, (∀ u ∈ us, ∃ t, u = Value.ref t ∧ H t = some (.tup [V.str (evtOf H u).1, V.str (evtOf H u).2])) → All2 ((us.map (evtOf H)).map evR) (us.map bkV) H
  | [], _ => trivial
  | u :: us, h => ⟨by
      obtain ⟨t, e, ht⟩ := h u List.mem_cons_self
      exact evR_iff.mpr ⟨t, by rw [e]; rfl, ht⟩, evs_back fun u hu => h u (List.mem_cons_of_mem _ hu)⟩
theorem vals2 {a b : Str} {its : List Value} (r : Vals [V.str a, V.str b] its) : ∃ t u, its = [Value.str a t, Value.str b u] := by
  cases r with
  | cons r1 r2 =>
    cases r2 with
    | cons r3 r4 =>
      cases r4
      obtain ⟨t, e1⟩ := r1
      obtain ⟨u, e2⟩ := r3
      exact ⟨t, u, by rw [e1, e2]⟩
section
variable {X : Cx}
abbrev shS : Nat → Bool := fun _ => true
theorem tup_raw {pins : List (Addr × Obj)} {σ : L2.St} {H : Hp} {s : Shared} (I : Inv X pins σ H s) {t : Addr} {a b : Str} (h : H t = some (.tup [V.str a, V.str b])) : ∃ o u1 u2 n, s.heap.get? t = some o ∧ o.cls = .type "tuple" ∧ o.data = .seq #[Value.str a u1, Value.str b u2] n := by
  obtain ⟨its, rv, ⟨o, ho, hc, n, hd⟩, _⟩ := I.tuple (SqT.of h)
  obtain ⟨u1, u2, e⟩ := vals2 rv
  subst e
  exact ⟨o, u1, u2, n, ho, hc, hd⟩
theorem key_raw {h : Heap} {t : Addr} {o : Obj} {a b : Str} {u1 u2 : Tok} {n : Nat} (ho : h.get? t = some o) (hc : o.cls = .type "tuple") (hd : o.data = .seq #[Value.str a u1, Value.str b u2] n) : G.tupKeyC h shS (.ref t) = some (ekc (a, b)) := by
  have e1 : G.isTupObj h (.ref t) = true := by
    unfold G.isTupObj
    simp only [ho, hc]
    decide
  unfold G.tupKeyC
  rw [if_pos e1]
  unfold tupKey
  simp only [ho, hd]
  simp [tupItems, ekc]
theorem tups_raw {h : Heap} : ∀ {us : List Value}, (∀ u ∈ us, ∃ t o a b u1 u2 n, u = Value.ref t ∧ h.get? t = some o ∧ o.cls = .type "tuple" ∧ o.data = .seq #[Value.str a u1, Value.str b u2] n) → ∃ fs, TupsOf h shS us fs
  | [], _ => ⟨[], .nil⟩
  | u :: us, k => by
    obtain ⟨fs, r⟩ := tups_raw fun u hu => k u (List.mem_cons_of_mem _ hu)
    obtain ⟨t, o, a, b, u1, u2, n, e, ho, hc, hd⟩ := k u List.mem_cons_self
    exact ⟨Value.str a u1 :: fs, .cons ⟨t, o, _, n, e, ho, hc, hd, rfl, fun z => (nomatch z), fun _ => ⟨a, u1, rfl⟩⟩ r⟩
def rSortE (K : PySem.W.Frag) : List V → Hp → VK → Prop := fun vs H Q => ∃ (a : Addr) (xs : List V) (es : List Evt), vs = [V.ref a] ∧ SqL K H a xs ∧ ∃ D : Hp, Same D H ∧ All2 (es.map evR) xs D ∧ ∀ p ys, H p = none → All2 ((srtE es).map evR) ys D → Q (.ref p) (upd H p (.lst ys))
theorem cr_sortE : CallR X (.builtin "sorted") (rSortE X.K) := by
  intro pins s σ H vs us Q I r h
  obtain ⟨a, xs, es, rfl, hs, D, sD, al, q⟩ := h
  obtain ⟨its, rv, hl, hz⟩ := I.list hs
  rw [Vals.ref1 r]
  obtain ⟨e1, e2⟩ := evs_at rv al
  have raw : ∀ u ∈ its, ∃ t o a b u1 u2 n, u = Value.ref t ∧ s.heap.get? t = some o ∧ o.cls = .type "tuple" ∧ o.data = .seq #[Value.str a u1, Value.str b u2] n := fun u hu => by
    obtain ⟨t, e, ht⟩ := e1 u hu
    obtain ⟨o, u1, u2, n, ho, hc, hd⟩ := tup_raw I (sD _ _ ht)
    exact ⟨t, o, _, _, u1, u2, n, e, ho, hc, hd⟩
  have key : ∀ u ∈ its, G.tupKeyC s.heap shS u = some (ekc (evtOf D u)) := fun u hu => by
    obtain ⟨t, e, ht⟩ := e1 u hu
    obtain ⟨o, u1, u2, n, ho, hc, hd⟩ := tup_raw I (sD _ _ ht)
    have z := key_raw ho hc hd
    rw [← e] at z
    exact z
  obtain ⟨fs, ht⟩ := tups_raw raw
  refine G.sorted_tups (shape := shS) hl.isList ht (fun u hu => ⟨_, key u hu⟩) (by rw [← rv.length]; exact hz) fun st' hp hst _ => ?_
  have hl' : (arrOf st').toList.Perm (its.zip its) := by rw [← pairsOf_toList]; exact Array.perm_iff_toList_perm.mp hp
  have hmem : ∀ p, p ∈ (arrOf st').toList → p.1 = p.2 ∧ p.1 ∈ its := fun p hp' => mem_zip_self (hl'.mem_iff.mp hp')
  have eout : ((arrOf st').map (·.2)).toList = (arrOf st').toList.map (·.1) := by
    rw [Array.toList_map]
    exact List.map_congr_left fun p hp' => (hmem p hp').1.symm
  have pout : ((arrOf st').map (·.2)).toList.Perm its := by
    rw [eout]
    have z := hl'.map (·.1)
    rw [List.map_fst_zip (Nat.le_refl _)] at z
    exact z
  have sd : Sd (((arrOf st').map (·.2)).toList.map (evtOf D)) := by
    rw [eout, List.map_map]
    have hk0 : KeysOf (G.tupKindC s.heap shS) (arrOf st') := fun p hp' => ⟨_, key _ (hmem p hp').2⟩
    have z := keyLe_of_sorted hk0 (by rw [hp.size_eq]; exact hst)
    unfold Sd
    rw [List.pairwise_map]
    refine z.imp_of_mem fun {p} {q} hp1 hq1 ⟨k1, k2, h1, h2, h3⟩ => ?_
    have w1 : some (ekc (evtOf D p.1)) = some k1 := (key _ (hmem p hp1).2).symm.trans h1
    have w2 : some (ekc (evtOf D q.1)) = some k2 := (key _ (hmem q hq1).2).symm.trans h2
    cases w1
    cases w2
    exact h3
  have e3 : srtE es = ((arrOf st').map (·.2)).toList.map (evtOf D) := srtE_eq (by rw [← e2]; exact pout.map _) sd
  obtain ⟨ep, he'⟩ := PyProof.Rows.sortedAll_at s.heap its ((arrOf st').map (·.2))
  have e4 : ∀ u ∈ ((arrOf st').map (·.2)).toList, ∃ t, u = Value.ref t ∧ D t = some (.tup [V.str (evtOf D u).1, V.str (evtOf D u).2]) := fun u hu => e1 u (pout.mem_iff.mp hu)
  have hlen : (((arrOf st').map (·.2)).toList.map bkV).length ≤ sizeLine := by
    rw [List.length_map, pout.length_eq, ← rv.length]
    exact hz
  refine ⟨.ref _, upd H (s.heap.objs.size + 1) (.lst (((arrOf st').map (·.2)).toList.map bkV)), I.laid (t' := s.toks) (fun _ _ => PyProof.Rows.sortedAll_old) (Nat.le_succ _) ⟨hlen, ((arrOf st').map (·.2)).toList, ep, bkV_vals (fun u hu => ⟨_, (e4 u hu).choose_spec.1⟩), he'⟩, rfl, q _ _ (I.hok.fresh (Nat.le_succ _)) ?_⟩
  rw [e3]
  exact evs_back e4
end
section
variable {ι : Type} {Ev : ι → L2.St → Hp → Prop} {M : ι → List Addr} {X : Cx}
theorem er_sortE (E : Env Ev) {x : Str} {e : Expr} {pos p : Pos} {es : ι → List Evt} (hg : Gl X x) (hm : X.mg x = none) (hv : bootBuiltins x = some (.builtin "sorted")) (h : PE X e (tR Ev M fun i => oL ((es i).map evR))) (hn : x ≠ "__name__" := by decide) (hdb : (x == ("__debug__" : Str)) = false := by decide)
    (he : starEach [e] X.env = (false, eval e X.env) :: starEach [] X.env := by rfl) (hpl : (backTo pos (starEach [] X.env)).any (·.1) = false := by rfl) : PE X (.Call (.Name x p) [e] [] pos) (tR Ev M fun i => oL ((srtE (es i)).map evR)) :=
  pe_mono (pe_callB cr_sortE hg hm hv (pa_cons h pa_nil he) hn hdb he hpl) fun σ H Q ⟨i, ok, q⟩ => ⟨i, ok, fun v H1 s1 ⟨a, vs, ev, ea, al⟩ => by
    exact ⟨a, vs, es i, by rw [ev], SqL.of (msk_of ea).1, _, msk_sub (M := M i), al, fun p ys hp al2 => q _ _ (s1.trans (same_new hp)) ⟨p, ys, rfl, msk_new (ok.same E s1).2 hp, al2.st (msk_ext (LamX.ExtN.of (same_new hp)))⟩⟩⟩
end
end MX

set_option Elab.async false
set_option linter.all false
set_option maxRecDepth 100000
set_option maxHeartbeats 4000000
namespace MX
open PySem PySem.Spec PySem.W PySem.Calls PyProof.Rows L2
/-! ### tuples of the heap or of the program -/
theorem SqT.extN {K : PySem.W.Frag} {H H' : Hp} {a : Addr} {vs : List V} (x : LamX.ExtN H H') (h : SqT K H a vs) : SqT K H' a vs := by
  rcases h with (h | ⟨o, h⟩) | h
  · exact .inl (.inl (x _ _ h fun _ z => by cases z))
  · exact .inl (.inr ⟨o, x _ _ h fun _ z => by cases z⟩)
  · exact .inr h
def oK (K : PySem.W.Frag) (rs : List Rd) : Rd := ⟨fun v H => ∃ a vs, v = .ref a ∧ SqT K H a vs ∧ All2 rs vs H, fun v H H' x h => by
  obtain ⟨a, vs, e, h1, h2⟩ := h
  exact ⟨a, vs, e, SqT.extN x h1, h2.st x⟩⟩
theorem oT_K {K : PySem.W.Frag} {rs : List Rd} {v : V} {H : Hp} (h : (oT rs).R v H) : (oK K rs).R v H := by
  obtain ⟨a, vs, e, h1, h2⟩ := h
  exact ⟨a, vs, e, SqT.of h1, h2⟩
theorem SqT.unmsk {K : PySem.W.Frag} {M : List Addr} {H : Hp} {a : Addr} {vs : List V} (h : SqT K (msk M H) a vs) : SqT K H a vs := SqT.extN (LamX.ExtN.of msk_sub) h
theorem tyx_tup {K : PySem.W.Frag} {H : Hp} {a : Addr} {vs : List V} (h : SqT K H a vs) : TyX K H (.ref a) (.type "tuple") := by
  rcases h with (h | ⟨o, h⟩) | ⟨o, its, n, h, c, _⟩
  · exact .base (.tup h)
  · exact .fTuple h
  · exact .kTuple h c
section
variable {ι : Type} {Ev : ι → L2.St → Hp → Prop} {M : ι → List Addr} {X : Cx}
theorem er_oK {e : Expr} {rs : ι → List Rd} (h : PE X e (tR Ev M fun i => oT (rs i))) : PE X e (tR Ev M fun i => oK X.K (rs i)) := er_to h fun i σ H _ v H' q => oT_K q
theorem er_isTupK {x y : Str} {e : Expr} {pos p p2 : Pos} {rs : ι → List Rd} (hg : Gl X x) (hm : X.mg x = none) (hv : bootBuiltins x = some (.builtin "isinstance")) (hg2 : Gl X y) (hm2 : X.mg y = none) (hv2 : bootBuiltins y = some (.type "tuple")) (h : PE X e (tR Ev M fun i => oK X.K (rs i))) (hn : x ≠ "__name__" := by decide) (hdb : (x == ("__debug__" : Str)) = false := by decide)
    (hn2 : y ≠ "__name__" := by decide) (hdb2 : (y == ("__debug__" : Str)) = false := by decide) (he : starEach [e, .Name y p2] X.env = (false, eval e X.env) :: starEach [.Name y p2] X.env := by rfl) (hpl : (backTo pos (starEach [.Name y p2] X.env)).any (·.1) = false := by rfl) : PE X (.Call (.Name x p) [e, .Name y p2] [] pos) (tR Ev M fun _ => oB true) :=
  pe_mono (pe_callB call_isi hg hm hv (pa_cons h (pa_cons (pe_bltn (v := .ty "tuple") hg2 hm2 hv2 rfl hn2 hdb2) pa_nil) he) hn hdb he hpl) fun σ H Q ⟨i, ok, q⟩ => ⟨i, ok, fun v H1 s1 ⟨a, vs, ev, ea, al⟩ => ⟨v, _, .type "tuple", .type "tuple", true, rfl, .ty _, by rw [ev]; exact tyx_tup (SqT.unmsk ea), (by unfold PySem.W.kitOne; simp), q _ _ s1 rfl⟩⟩
theorem er_lenK {x : Str} {e : Expr} {pos p : Pos} {rs : ι → List Rd} (hg : Gl X x) (hm : X.mg x = none) (hv : bootBuiltins x = some (.builtin "len")) (h : PE X e (tR Ev M fun i => oK X.K (rs i))) (hn : x ≠ "__name__" := by decide) (hdb : (x == ("__debug__" : Str)) = false := by decide)
    (he : starEach [e] X.env = (false, eval e X.env) :: starEach [] X.env := by rfl) : PE X (.Call (.Name x p) [e] [] pos) (tR Ev M fun i => oI ((rs i).length : Int)) :=
  pe_mono (pe_callB call_len_seq hg hm hv (pa_cons h pa_nil he) hn hdb he rfl) fun σ H Q ⟨i, ok, q⟩ => ⟨i, ok, fun v H1 s1 ⟨a, vs, ev, ea, al⟩ => ⟨a, vs, by rw [ev], .inr (SqT.unmsk ea), q _ _ s1 (by
    show V.int _ = V.int _
    rw [al.len])⟩⟩
end
section
variable {ι α : Type} {Ev : ι → L2.St → Hp → Prop} {M : ι → List Addr} {xs : ι → List α} {r : ι → α → Rd} {X : Cx} {K : PySem.W.Frag}
theorem src_tupK : Src Ev M xs r (iTup K (tR Ev M fun i => oK K ((xs i).map (r i)))) := fun σ H R ⟨i, ok, q⟩ => ⟨i, ok, fun v H1 s1 ⟨a, vs, ev, ea, al⟩ => ⟨a, ev, ⟨_, SqT.unmsk ea⟩, q (Itt K a) (fun H => SqT K H a vs) (YAt vs) H1 s1 (by have z : vs.length = (xs i).length := al.len.trans (List.length_map ..); rw [← z]; exact walk_tup) (fun H' s => SqT.unmsk (SqT.extN (LamX.ExtN.of s) ea)) fun m Hm x H' Mx _ s _ y => by
  obtain ⟨rfl, y, hy, rx⟩ := src_at al s y
  exact ⟨Same.refl _, y, hy, rx⟩⟩⟩
theorem src_enumK {ta : TA} (h : ∀ σ H Q, (∃ i, EOk Ev M i σ H ∧ ∀ v H', Same H H' → (oK K ((xs i).map (r i))).R v (msk (M i) H') → Q [v] H') → ta σ H Q) : Src Ev M (fun i => (xs i).zipIdx) (fun i p => oT [oI ((p.2 : Nat) : Int), r i p.1]) (iEnumP K ta) := fun σ H R ⟨i, ok, q⟩ => h σ H _ ⟨i, ok, fun v H1 s1 ⟨a, vs, ev, ea, al⟩ => by
  have el : vs.length = (xs i).length := al.len.trans (List.length_map ..)
  refine ⟨a, vs, by rw [ev], SqT.unmsk ea, q (IteP K a 0) (fun H => SqT K H a vs) _ H1 s1 (by rw [List.length_zipIdx, ← el]; exact walk_enumP) (fun H' s => SqT.unmsk (SqT.extN (LamX.ExtN.of s) ea)) fun m Hm x H' Mx _ s lv y => ?_⟩
  obtain ⟨T, a1, a2, rfl, hT, rfl, e1, e2⟩ := y
  obtain rfl : V.int (0 + (m : Int)) = a1 := Option.some.inj e1
  obtain ⟨rd, hr, rx⟩ := al.at e2
  rw [List.getElem?_map] at hr
  obtain ⟨y, hy, rfl⟩ := Option.map_eq_some_iff.mp hr
  have sT := same_new (o := .tup [V.int (0 + (m : Int)), a2]) hT
  refine ⟨sT, (y, m), ?_, T, _, rfl, msk_new lv hT, ?_, (r i y).st _ _ _ (LamX.ExtN.of (s.trans (msk_same sT))) rx, trivial⟩
  · rw [List.getElem?_zipIdx, hy]
    simp
  · show V.int (0 + (m : Int)) = V.int (m : Int)
    rw [Int.zero_add]⟩
end
end MX

set_option Elab.async false
set_option linter.all false
set_option maxRecDepth 100000
set_option maxHeartbeats 4000000
namespace MX
open PySem PySem.Spec PySem.W PySem.Calls PyProof.Rows L2
/-! ### for n, c in enumerate(a text) -/
def IteX (x : Str) (k : Int) : It :=
  ⟨fun i _ => i < x.cps.size, fun i H v H' => ∃ T c, v = .ref T ∧ H T = none ∧ H' = upd H T (.tup [.int (k + (i : Nat)), .str ⟨#[c]⟩]) ∧ x.cps[i]? = some c, fun i _ => i = x.cps.size⟩
theorem turn_enumX {P : Program} {w : World} {K : PySem.W.Frag} {elts : List Expr} {kk : Nat} {tpos : Pos} (x : Str) (t : Tok) (e it : Addr) (k : Int) :
    Turn P w K (.Tuple elts kk tpos) (IteX x k) [e, it] e (fun i h => (∃ old, IsEnum h e it (k + ((i : Nat) : Int)) old) ∧ h.IsStrIter it (strIterType x) x t i ∧ e ≠ it) where
  mem := List.mem_cons_self
  obj := by
    rintro i h ⟨⟨old, q⟩, ⟨o, ho, hc, hd⟩, _⟩ b hb
    rcases List.mem_cons.mp hb with z | z
    · refine ⟨_, (by rw [z]; exact q), fun v q => ?_⟩
      cases q
    · exact ⟨o, (by rw [List.mem_singleton.mp z]; exact ho), fun v q => by rw [hd] at q; cases q⟩
  keep := by
    rintro i h h' ⟨⟨old, q⟩, hi, n⟩ kp
    exact ⟨⟨old, kp e (by simp) _ q⟩, (let ⟨o, ho, r⟩ := hi; ⟨o, kp it (by simp) o ho, r⟩), n⟩
  self := fun A i s Q E st q => let ⟨⟨_, z⟩, _⟩ := st; wpAny_pyIter_enum z q
  done := by
    intro X e1 e2 e3 calm i pins s σ H E I hf st hg
    subst e1 e2 e3
    obtain ⟨⟨old, he⟩, hit, hne⟩ := st
    have hg : i = x.cps.size := hg
    subst hg
    obtain ⟨f0, f1, f2, f3, f4, f5⟩ := hf it (by simp)
    have D := Draws.text (prog := X.prog) (w := X.w) (A := X.A.in1) (show X.A.in1.handled = none from I.ok.hd calm) it x t
    have hT : s.TypeIs (.ref e) "enumerate" := ⟨_, he, rfl⟩
    unfold pyNext
    refine wpAny_bind (wpAny_attempt (wpAny_callSpecial?_slot (name := Str.ofString "__next__") hT F.slot_enumerate_next (wpAny_call_entry F.slot_enumerate_next hT F.entry_enumerate_next ?_ (F.args_enumerate_next_1 _))))
    show wpAny _ _ (field (Value.ref e) 2 >>= _) _ _ _
    refine wpAny_bind (wpAny_field he rfl (x := .ref it) rfl (wpAny_bind (D.done s _ _ hit ?_)))
    rintro h' x he' ⟨o, ho, hc⟩
    refine wpAny_bind (wpAny_isInstance (T := "StopIteration") (b := true) ⟨o, ho, hc⟩ isSubtype_stop (wpAny_pure ⟨rfl, ?_⟩))
    exact I.turned (t' := s.toks) (fun b o hb q => he' b o hb q) f0 f1 f3 f4 f5
  item := by
    intro X e1 e2 e3 calm i pins s σ H E I hf st hg
    subst e1 e2 e3
    obtain ⟨⟨old, he⟩, hit, hne⟩ := st
    have hg : i < x.cps.size := hg
    have le : e < s.heap.objs.size := Heap.lt_size he
    have li : it < s.heap.objs.size := by
      obtain ⟨_, q, _⟩ := hit
      exact Heap.lt_size q
    have D := Draws.text (prog := X.prog) (w := X.w) (A := X.A.in1) (show X.A.in1.handled = none from I.ok.hd calm) it x t
    have nel : e ∉ [it] := fun hm => hne (List.mem_singleton.mp hm)
    refine wpAny_pyNext_enum_itemC D he hit hg hne nel ?_
    intro x' h' tk hP ho hs' hT hsz hk
    obtain ⟨c, u, hc, rfl⟩ := hP
    refine ⟨_, rfl, wpAny_letOwnedTupleGo_enum (s := { s with heap := h', toks := tk + 1 }) ho ?_⟩
    intro h2 he2 sb
    have hT2 : h2.get? s.heap.objs.size = some { cls := .type "tuple", data := .seq #[.int (k + ((i : Nat) : Int)) tk, .str ⟨#[c]⟩ u] } := (sb.2 _ (Nat.ne_of_gt le)).trans hT
    have new : ObjOk X.prog X.w (upd H s.heap.objs.size (.tup [.int (k + (i : Nat)), .str ⟨#[c]⟩])) h2 s.heap.objs.size (.tup [.int (k + (i : Nat)), .str ⟨#[c]⟩]) :=
      ⟨(by show 2 ≤ sizeLine; decide), [.int (k + ((i : Nat) : Int)) tk, .str ⟨#[c]⟩ u], .cons ⟨tk, rfl⟩ (.cons ⟨u, rfl⟩ .nil), ⟨_, hT2, rfl, _, rfl⟩⟩
    have J : Inv X pins σ (upd H s.heap.objs.size (.tup [.int (k + (i : Nat)), .str ⟨#[c]⟩])) { s with heap := h2, toks := tk + 1 } :=
      I.turnedNew (ch := [e, it]) (fun b ob hb q => (sb.2 b (fun z => hb (by simp [z]))).trans (hk b ob (fun z => hb (by simp [z])) (fun z => hb (by simp [z])) q)) hf (Nat.le_refl _) new
    refine ⟨.ref s.heap.objs.size, _, J, rfl, ⟨_, c, rfl, I.hok.fresh (Nat.le_refl _), rfl, hc⟩, ⟨⟨.str ⟨#[c]⟩ u, ?_⟩, (let ⟨o, ho, r⟩ := hs'; ⟨o, (sb.2 it (Ne.symm hne)).trans ho, r⟩), hne⟩, ?_⟩
    · have e1 : k + ((i + 1 : Nat) : Int) = k + (i : Int) + 1 := by omega
      rw [e1]
      exact he2
    · intro b hb
      have hb' : b < s.heap.objs.size := by
        rcases List.mem_cons.mp hb with z | z
        · rw [z]
          exact le
        · rw [List.mem_singleton.mp z]
          exact li
      rw [upd_ne (Nat.ne_of_lt hb')]
      exact (hf b hb).1
def iEnumS' (ta : TA) : TI := fun σ H R => ta σ H fun vs H1 => ∃ x : Str, vs = [.str x] ∧ R (IteX x 0) H1
theorem pi_enumTx {X : Cx} {e : Expr} {ta : TA} {p pos tpos : Pos} {elts : List Expr} {kk : Nat} (hg : Gl X "enumerate") (hm : X.mg "enumerate" = none) (ha : PA X [e] ta) (hs : starEach [e] X.env = [(false, eval e X.env)] := by rfl) :
    PI X (.Tuple elts kk tpos) (.Call (.Name "enumerate" p) [e] [] pos) (iEnumS' ta) := by
  constructor
  intro pins s σ H R I h
  refine Call_ (ld_blt I hg hm PyProof.Rows.boot_enumerate (PyProof.Rows.callWith_type1 (thn (ha.run pos pins s σ H _ I h) ?_) hs rfl))
  rintro us s2 ⟨vs, H2, I2, r1, x, rfl, q⟩
  cases r1 with
  | cons ra rn =>
    cases rn
    obtain ⟨t, rfl⟩ := ra
    refine enum_begins1 (begins_text x t) trivial ?_
    intro h' hen hit hkp
    refine wpAny_pyIter_enum hen ?_
    have I3 : Inv X pins σ H2 { s2 with heap := h' } := I2.kept (t' := s2.toks) hkp
    refine ⟨s2.heap.objs.size + 1, [s2.heap.objs.size + 1, s2.heap.objs.size], _, _, H2, rfl, I3, turn_enumX x t (s2.heap.objs.size + 1) s2.heap.objs.size 0,
      ⟨⟨.none, hen⟩, ⟨_, hit, rfl, rfl⟩, Nat.succ_ne_self _⟩, ?_, q⟩
    intro b hb
    have hle : s2.heap.objs.size ≤ b := by
      rcases List.mem_cons.mp hb with z | z
      · rw [z]; exact Nat.le_succ _
      · rw [List.mem_singleton.mp z]; exact Nat.le_refl _
    exact I2.fpOk hle (I2.hok.fresh hle)
theorem walk_enumTx {x : Str} {k : Int} : Walk (IteX x k) x.cps.size (fun _ => True) (YPair (fun i => some (.int (k + (i : Nat)))) (fun i => (x.cps[i]?).map fun c => V.str ⟨#[c]⟩)) where
  goes := fun i H hi _ => hi
  stops := fun H _ => rfl
  yields := fun i H v H' hi _ y => let ⟨T, c, e1, e2, e3, e4⟩ := y; ⟨T, _, _, e1, e2, e3, rfl, by show Option.map _ (x.cps[i]?) = _; rw [e4]; rfl⟩
end MX

set_option Elab.async false
set_option linter.all false
set_option maxRecDepth 100000
set_option maxHeartbeats 4000000
namespace MX
open PySem PySem.Spec PySem.W PySem.Calls PyProof.Rows L2
/-! ### text[::-1] -/
def revX (z : Str) : Str := ⟨((Builtin.Str.strSliceIndices none none (-1) z.length).filterMap (z.cps[·]?)).toArray⟩
def tRevX (te : TE) : TE := fun σ H Q => te σ H fun x H1 => ∃ z : Str, x = .str z ∧ (revX z).length ≤ sizeLine ∧ Q (.str (revX z)) H1
theorem pe_revX {X : Cx} {e : Expr} {te : TE} {k : Nat} {p1 p2 p3 pos : Pos} (he : PE X e te) : PE X (.Subscript e (.Slice none none (some (.UnaryOp .USub (.Constant (.int 1) k p1) p2)) p3) pos) (tRevX te) := by
  refine ⟨fun pins s σ H Q I h => ?_⟩
  refine Subscript_ (thn (he.run pins s σ H _ I h) fun v s1 ⟨x, H1, I1, r1, q1⟩ => ?_)
  obtain ⟨z, ex, hz, q⟩ := q1
  subst ex
  obtain ⟨t, rfl⟩ := r1
  have hst : PO X (some (.UnaryOp .USub (.Constant (.int 1) k p1) p2)) (tPart (tUn (rU fun i => .int (-i)) (tC (.int 1)))) := po_some (pe_un un_neg pe_int)
  refine wpAny_Slice (thn (po_none.run pins s1 σ H1 (fun o H2 => o = none ∧ H2 = H1) I1 ⟨rfl, rfl⟩) fun vl s2 ⟨l, H2, I2, pl, el, e2⟩ => ?_)
  subst el e2
  refine thn (po_none.run pins s2 σ H2 (fun o H3 => o = none ∧ H3 = H2) I2 ⟨rfl, rfl⟩) fun vu s3 ⟨u, H3, I3, pu, eu, e3⟩ => ?_
  subst eu e3
  refine thn (hst.run pins s3 σ H3 (fun o H4 => o = some (-1) ∧ H4 = H3) I3 ⟨1, rfl, -1, rfl, rfl, rfl⟩) fun vs s4 ⟨o, H4, I4, ps, eo, e4⟩ => ?_
  subst eo e4
  have I5 : Inv X pins σ H4 { s4 with heap := s4.heap.push { cls := .type "slice", data := .fields #[vl, vu, vs] } } := I4.kept (t' := s4.toks) fun b ob q => Heap.get?_push_of_some _ q
  obtain ⟨l, rfl, el⟩ := IsPart.raw pl
  obtain ⟨u, rfl, eu⟩ := IsPart.raw pu
  obtain ⟨st, rfl, est⟩ := IsPart.raw ps
  cases l with
  | some l => cases el
  | none => ?_
  cases u with
  | some u => cases eu
  | none => ?_
  cases st with
  | none => cases est
  | some st => ?_
  obtain ⟨i, tk⟩ := st
  have ei : i = -1 := Option.some.inj est
  subst ei
  show wpAny (model X.prog X.w) X.A (subscriptTail e (.Slice none none (some (.UnaryOp .USub (.Constant (.int 1) k p1) p2)) p3) (.str z t) (.ref s4.heap.objs.size)) (EP X pins σ Q) X.xe { s4 with heap := s4.heap.push { cls := .type "slice", data := .fields #[partValue none, partValue none, partValue (some (-1, tk))] } }
  refine tail_any (ops := [.str z t, .ref s4.heap.objs.size]) (typeIs_str _ _ _) F.slot_str_getitem.lookup ?_ (by with_unfolding_all rfl)
  refine wpAny_getItem_str_slice (l := none) (u := none) (st := some (-1, tk)) (Heap.IsSliceOf.new _ _ _ _) rfl ?_
  exact ⟨hz, .str _, H4, I5.tok _, ⟨_, rfl⟩, q⟩
end MX

set_option Elab.async false
set_option linter.all false
set_option maxRecDepth 100000
set_option maxHeartbeats 4000000
namespace MX
open PySem PySem.Spec PySem.W PySem.Calls PyProof.Rows L2
/-! ### typed loops, lists that grow -/
/-! growing -/
section
variable {ι : Type} {Ev : ι → L2.St → Hp → Prop} {M : ι → List Addr} {X : Cx} {e : Expr} {pos apos pos' : Pos} {y : Str} {py : Pos}
def tGrow2 (Ev : ι → L2.St → Hp → Prop) (M : ι → List Addr) (k : Nat) (r : ι → List Rd) : TS := fun D σ H => ∃ i b rs, σ[k]? = some (some (.ref b)) ∧ b ∈ M i ∧ EOk Ev M i σ H ∧ Grow (M i) b rs H ∧ rs.length + (r i).length < sizeLine ∧
  ∀ H', EOk Ev M i σ H' → Grow (M i) b (rs ++ r i) H' → Same (msk (M i) H) (msk (M i) H') → D.nx σ H'
theorem es_append2 (E : Env Ev) {r : ι → Rd} (k : Nat) (he : PE X e (tR Ev M r)) (hN : X.N[k]? = some y := by rfl) (hv : Vis X.env.scope y := by first | exact Or.inl rfl | exact Or.inr (Or.inl rfl) | exact Or.inr (Or.inr rfl)) (hd : (y == ("__debug__" : Str)) = false := by decide)
    (hcd : (y == ("__classdict__" : Str)) = false := by decide) (hs : swapsWith (.Call (.Attribute (.Name y py) "append" apos) [e] [] pos) none pos'.line X.env = pure false := by rfl)
    (hbase : attributeBase (.Name y py) "append" X.env (eval (.Name y py) X.env) = eval (.Name y py) X.env := by rfl)
    (hfew : ((backTo pos (starEach [e] X.env)).all (fun x => !x.1) && (backToKw pos (keywordEach [] X.env)).all (fun x => x.1.isSome)
      && decide (([e] : List Expr).length + ([] : List Keyword).length + (if ([] : List Keyword).isEmpty then 0 else 1) < 30)) = true := by rfl)
    (hline : (apos.endLine == pos.line) = true := by rfl) (hst : starEach [e] X.env = (false, eval e X.env) :: starEach [] X.env := by rfl) (hplain : (backTo pos (starEach [] X.env)).any (·.1) = false := by rfl) :
    PS X (.Expr (.Call (.Attribute (.Name y py) "append" apos) [e] [] pos) pos') (tGrow2 Ev M k fun i => [r i]) := by
  refine ⟨fun pins s σ H D I ⟨i, b, rs, hb, hm, ok, ⟨vs, e1, a1⟩, l, q⟩ => ?_⟩
  refine (ps_expr (pe_bm PySem.F.plainAttrs_list PySem.F.slot_list_append PySem.F.type_list_append mt_append (pe_var hN hv hd hcd) (pa_cons he pa_nil hst) hbase hfew hline hst hplain) hs).run pins s σ H D I ?_
  refine ⟨_, hb, .inl ⟨rfl, _, SqL.of e1⟩, i, ok, fun v H1 s1 r1 => ⟨b, vs, v, rfl, rfl, s1 _ _ e1, ?_, ?_⟩⟩
  · rw [a1.len]
    have z : rs.length + 1 < sizeLine := l
    omega
  · have ok1 := ok.same E s1
    refine q _ ⟨?_, ok1.2.upd⟩ ⟨_, upd_same, ?_⟩ ?_
    · rw [msk_upd hm]; exact ok1.1
    · rw [msk_upd hm]
      exact (a1.st (msk_ext (LamX.ExtN.of s1))).app ⟨r1, trivial⟩
    · rw [msk_upd hm]
      exact msk_same s1
theorem es_extend2 (E : Env Ev) {r : ι → List Rd} (k : Nat) (he : PE X e (tR Ev M fun i => oL (r i))) (hN : X.N[k]? = some y := by rfl) (hv : Vis X.env.scope y := by first | exact Or.inl rfl | exact Or.inr (Or.inl rfl) | exact Or.inr (Or.inr rfl)) (hd : (y == ("__debug__" : Str)) = false := by decide)
    (hcd : (y == ("__classdict__" : Str)) = false := by decide) (hs : swapsWith (.Call (.Attribute (.Name y py) "extend" apos) [e] [] pos) none pos'.line X.env = pure false := by rfl)
    (hbase : attributeBase (.Name y py) "extend" X.env (eval (.Name y py) X.env) = eval (.Name y py) X.env := by rfl)
    (hfew : ((backTo pos (starEach [e] X.env)).all (fun x => !x.1) && (backToKw pos (keywordEach [] X.env)).all (fun x => x.1.isSome)
      && decide (([e] : List Expr).length + ([] : List Keyword).length + (if ([] : List Keyword).isEmpty then 0 else 1) < 30)) = true := by rfl)
    (hline : (apos.endLine == pos.line) = true := by rfl) (hst : starEach [e] X.env = (false, eval e X.env) :: starEach [] X.env := by rfl) (hplain : (backTo pos (starEach [] X.env)).any (·.1) = false := by rfl) :
    PS X (.Expr (.Call (.Attribute (.Name y py) "extend" apos) [e] [] pos) pos') (tGrow2 Ev M k r) := by
  refine ⟨fun pins s σ H D I ⟨i, b, rs, hb, hm, ok, ⟨vs, e1, a1⟩, l, q⟩ => ?_⟩
  refine (ps_expr (pe_bm PySem.F.plainAttrs_list PySem.F.slot_list_extend PySem.F.type_list_extend mt_extend (pe_var hN hv hd hcd) (pa_cons he pa_nil hst) hbase hfew hline hst hplain) hs).run pins s σ H D I ?_
  refine ⟨_, hb, .inl ⟨rfl, _, SqL.of e1⟩, i, ok, fun v H1 s1 ⟨c, us, ec, e2, a2⟩ => ?_⟩
  subst ec
  refine ⟨b, c, vs, us, rfl, rfl, s1 _ _ e1, (msk_of e2).1, ?_, ?_⟩
  · rw [a1.len, a2.len]
    omega
  · have ok1 := ok.same E s1
    refine q _ ⟨?_, ok1.2.upd⟩ ⟨_, upd_same, ?_⟩ ?_
    · rw [msk_upd hm]; exact ok1.1
    · rw [msk_upd hm]
      exact (a1.st (msk_ext (LamX.ExtN.of s1))).app a2
    · rw [msk_upd hm]
      exact msk_same s1
end
section
variable {ι α : Type} {P : ι → Prop} {Γ Γ0 : ι → Gm} {M : ι → List Addr} {X : Cx} {res : ι → Rd} {rest body : List Stmt} {pos pos' : Pos} {e c tg iter : Expr} {a : List Stmt} {r : ι → Rd}
def tNx (M : ι → List Addr) (P : ι → Prop) (Γ Γ0 : ι → Gm) : TS := fun D σ H => ∃ i, EOk (EvT P Γ) M i σ H ∧ ∀ σ' H', Same H H' → EOk (EvT P Γ0) M i σ' H' → D.nx σ' H'
theorem nx_end (l : ∀ i, (Γ0 i).length = (Γ i).length) (g : ∀ i (k : Nat) (r : Rd), (Γ0 i)[k]? = some (some r) → (Γ i)[k]? = some (some r)) : PSs X [] (tNx M P Γ Γ0) :=
  pss_mono pss_nil fun D σ H ⟨i, ok, q⟩ => q σ H (Same.refl H) ⟨ok.1.as ok.1.p (l i) (g i), ok.2⟩
theorem nx_set {k : Nat} {x : Str} (hN : X.N.Nodup) (he : PE X e (tR (EvT P Γ) M r)) (hr : PSs X rest (tNx M P (fun i => (Γ i).set k (some (r i))) Γ0)) (hi : X.N[k]? = some x := by rfl) (hx : Loc X.env.scope x := by first | exact Or.inl rfl | exact Or.inr rfl) (hs : swapsWith e (some (.Name x pos')) pos.line X.env = pure false := by rfl)
    (hf : X.fn x = true ∨ X.env.scope.names.lookup x = some .local := by first | exact .inl rfl | exact .inr rfl) : PSs X (.Assign [.Name x pos'] e pos :: rest) (tNx M P Γ Γ0) :=
  pss_mono (pss_cons (ps_set hN hi hx he hs hf) hr) fun D σ H ⟨i, ok, q⟩ => ⟨i, ok, fun v H1 s1 rv => ⟨i, ⟨(ok.same evT s1).1.set k rv rfl, (ok.same evT s1).2⟩, fun σ' H2 s2 o => q σ' H2 (s1.trans s2) o⟩⟩
theorem nx_skip (hc : PT X c (tTR (EvT P Γ) M fun _ => false)) (hr : PSs X rest (tNx M P Γ Γ0)) : PSs X (.If c a [] pos :: rest) (tNx M P Γ Γ0) :=
  pss_mono (pss_cons (ps_if hc pss_never pss_nil) hr) fun D σ H ⟨i, ok, q⟩ => ⟨i, ok, fun H1 s1 => iteF ⟨i, ok.same evT s1, fun σ' H2 s2 o => q σ' H2 (s1.trans s2) o⟩⟩
abbrev PE2 (P : ι → Prop) (xs : ι → List α) : ι × α → Prop := fun j => P j.1 ∧ j.2 ∈ xs j.1
def TgtF (Ev : ι → L2.St → Hp → Prop) (xs : ι → List α) (r : ι → α → Rd) (EvE : ι × α → L2.St → Hp → Prop) (vs : List Nat) (g : TG) : Prop := ∀ (j : ι × α) σ v Hm H (Q : L2.St → Hp → Prop), Ev j.1 σ Hm → j.2 ∈ xs j.1 → (r j.1 j.2).R v Hm → Same Hm H → (∀ σ', EvE j σ' Hm → (∀ m, m ∉ vs → σ'[m]? = σ[m]?) → Q σ' H) → g v σ H Q
theorem tgtF_name {xs : ι → List α} {r : ι → α → Rd} {k : Nat} : TgtF (EvT P Γ) xs r (EvT (PE2 P xs) fun j => (Γ j.1).set k (some (r j.1 j.2))) [k] (gName k) := fun j σ v Hm H Q ev m rv sm h =>
  h _ ((ev.as (P' := PE2 P xs) (Γ' := fun j => Γ j.1) (i' := j) ⟨ev.p, m⟩ rfl fun _ _ e => e).set k rv rfl) fun m hm => List.getElem?_set_ne (fun z => hm (by rw [z]; exact List.mem_singleton.mpr rfl))
theorem tgtF_2 {K : PySem.W.Frag} {xs : ι → List α} {ra rb : ι → α → Rd} {k1 k2 : Nat} : TgtF (EvT P Γ) xs (fun i y => oT [ra i y, rb i y]) (EvT (PE2 P xs) fun j => ((Γ j.1).set k1 (some (ra j.1 j.2))).set k2 (some (rb j.1 j.2))) [k1, k2] (gTup K 2 (gCons (gName k1) (gCons (gName k2) gNil))) := fun j σ v Hm H Q ev m ⟨a, vs, e, ea, al⟩ sm h => by
  match vs, al with
  | [v1, v2], ⟨q1, q2, _⟩ =>
    exact ⟨a, _, e, SqT.of (sm _ _ ea), rfl, v1, _, rfl, v2, _, rfl, rfl, h _ (((ev.as (P' := PE2 P xs) (Γ' := fun j => Γ j.1) (i' := j) ⟨ev.p, m⟩ rfl fun _ _ e => e).set k1 q1 (Γ' := fun j => (Γ j.1).set k1 (some (ra j.1 j.2))) rfl).set k2 q2 rfl) fun m hm => by
      rw [List.getElem?_set_ne (fun z => hm (by simp [z])), List.getElem?_set_ne (fun z => hm (by simp [z]))]⟩
theorem tgtF_3 {K : PySem.W.Frag} {xs : ι → List α} {ra rb rc : ι → α → Rd} {k1 k2 k3 : Nat} : TgtF (EvT P Γ) xs (fun i y => oT [ra i y, rb i y, rc i y]) (EvT (PE2 P xs) fun j => (((Γ j.1).set k1 (some (ra j.1 j.2))).set k2 (some (rb j.1 j.2))).set k3 (some (rc j.1 j.2))) [k1, k2, k3] (gTup K 3 (gCons (gName k1) (gCons (gName k2) (gCons (gName k3) gNil)))) := fun j σ v Hm H Q ev m ⟨a, vs, e, ea, al⟩ sm h => by
  match vs, al with
  | [v1, v2, v3], ⟨q1, q2, q3, _⟩ =>
    exact ⟨a, _, e, SqT.of (sm _ _ ea), rfl, v1, _, rfl, v2, _, rfl, v3, _, rfl, rfl, h _ ((((ev.as (P' := PE2 P xs) (Γ' := fun j => Γ j.1) (i' := j) ⟨ev.p, m⟩ rfl fun _ _ e => e).set k1 q1 (Γ' := fun j => (Γ j.1).set k1 (some (ra j.1 j.2))) rfl).set k2 q2 (Γ' := fun j => ((Γ j.1).set k1 (some (ra j.1 j.2))).set k2 (some (rb j.1 j.2))) rfl).set k3 q3 rfl) fun m hm => by
      rw [List.getElem?_set_ne (fun z => hm (by simp [z])), List.getElem?_set_ne (fun z => hm (by simp [z])), List.getElem?_set_ne (fun z => hm (by simp [z]))]⟩
theorem EOk.same1 {i : ι} {σ : L2.St} {H H' : Hp} (h : EOk (EvT P Γ) M i σ H) (s : Same H H') : EOk (EvT P Γ) M i σ H' := h.same evT s
/-- for tg in ..: a body that only looks -/
theorem bd_for {xs : ι → List α} {r : ι → α → Rd} {wi : TI} {g : TG} {vs : List Nat} {Γ' : ι × α → Gm} (hp : PassesOwn (model X.prog X.w) X.A X.env X.xe) (hc : X.calm = true) (hi : PI X tg iter wi) (src : Src (EvT P Γ) M xs r wi) (hg : PG X tg g) (tgt : TgtF (EvT P Γ) xs r (EvT (PE2 P xs) Γ') vs g)
    (hb : PSs X body (tNx (fun j => M j.1) (PE2 P xs) Γ' fun j => Γ j.1)) (hr : PSs X rest (tRt M P Γ res)) (hs : ∀ x, foldedSetIterable iter X.env x = pure x := by intro _; rfl) : PSs X (.For tg iter body [] pos :: rest) (tRt M P Γ res) := by
  refine pss_mono (pss_cons (ps_for hp hc hi hg hb hs) hr) fun D σ H ⟨i, ok, q⟩ => ?_
  refine src σ H _ ⟨i, ok, fun J G Y H1 s1 wk hG hY => ?_⟩
  refine for_it wk (fun n σ' H' => EOk (EvT P Γ) M i σ' H' ∧ Same H1 H') ⟨ok.same evT s1, Same.refl _⟩ (fun n σ' H' _ z => hG H' (msk_same z.2)) ?_ fun σ' H' z => ⟨i, z.1, fun u H2 s2 ru => q u H2 ((s1.trans z.2).trans s2) ru⟩
  rintro n x σ' H' H'' hn ⟨ok', sK⟩ hYn
  obtain ⟨sY, y, hy, rx⟩ := hY n H' x H'' (M i) hn (msk_same sK) ok'.2 hYn
  have ok2 := ok'.same evT sY
  exact tgt (i, y) σ' x (msk (M i) H'') H'' _ ok2.1 (List.mem_of_getElem? hy) rx msk_sub fun σ2 ev2 _ => ⟨(i, y), ⟨ev2, ok2.2⟩, fun σ3 H3 s3 o3 => ⟨⟨o3.1.as o3.1.p.1 rfl fun _ _ e => e, o3.2⟩, (sK.trans sY).trans s3⟩⟩
/-! growing -/
abbrev PG1 (P : ι → Prop) : ι × Addr → Prop := fun j => P j.1
abbrev GG (Γ : ι → Gm) : ι × Addr → Gm := fun j => Γ j.1
abbrev MB1 : ι × Addr → List Addr := fun j => [j.2]
/-- a list that is not sys.modules -/
def oLn (rs : List Rd) : Rd := ⟨fun v H => ∃ a vs, v = .ref a ∧ a ≠ sysModules ∧ H a = some (.lst vs) ∧ All2 rs vs H, fun v H H' x h => by
  obtain ⟨a, vs, e, n, h1, h2⟩ := h
  exact ⟨a, vs, e, n, x a _ h1 (fun _ z => by cases z), h2.st x⟩⟩
def tRg (P : ι → Prop) (Γ : ι → Gm) (k : Nat) (acc : ι → List Rd) (res : ι → Rd) : TS := fun D σ H => ∃ i b, σ[k]? = some (some (.ref b)) ∧ b ≠ sysModules ∧ EOk (EvT (PG1 P) (GG Γ)) MB1 (i, b) σ H ∧ Grow [b] b (acc i) H ∧ ∀ v H', (∀ c o, c ≠ b → H c = some o → H' c = some o) → (res i).R v H' → D.rt v H'
theorem bd_grow {es : List Expr} {k : Nat} {x : Str} {rs : ι → List Rd} (hN : X.N.Nodup) (he : PA X es (tRA (EvT P Γ) (fun _ => []) rs)) (few : ∀ i, P i → (rs i).length ≤ 1000) (hk : ∀ i, (Γ i)[k]? = some none) (hr : PSs X rest (tRg P Γ k rs res)) (hi : X.N[k]? = some x := by rfl) (hx : Loc X.env.scope x := by first | exact Or.inl rfl | exact Or.inr rfl) {p2 : Pos} (hs : swapsWith (.List es p2) (some (.Name x pos')) pos.line X.env = pure false := by rfl)
    (hf : X.fn x = true ∨ X.env.scope.names.lookup x = some .local := by first | exact .inl rfl | exact .inr rfl) : PSs X (.Assign [.Name x pos'] (.List es p2) pos :: rest) (tRt (fun _ => []) P Γ res) :=
  pss_mono (pss_cons (ps_set hN hi hx (pe_lstN he) hs hf) hr) fun D σ H ⟨i, ok, q⟩ => ⟨i, ok, fun vs H1 s1 al => ⟨by
    rw [al.len, sizeLine_eq]
    have := few i ok.1.p
    omega, fun b hb hbn => by
    rw [msk_nil] at al
    have ok1 := ok.same evT s1
    have e1 := ok1.1
    rw [msk_nil] at e1
    have kl : k < σ.length := by
      rw [e1.l]
      exact (List.getElem?_eq_some_iff.mp (hk i)).1
    refine ⟨i, b, by rw [List.getElem?_set_self kl], hbn, ⟨?_, fun c hc => by rw [List.mem_singleton.mp hc, upd_same]; exact ⟨_, rfl⟩⟩, ⟨vs, upd_same, by rw [msk_one hb]; exact al⟩, fun v H' s' rv => ?_⟩
    · rw [msk_one hb]
      refine ⟨e1.p, by rw [List.length_set]; exact e1.l, fun m rd hm => ?_⟩
      have hm : (Γ i)[m]? = some (some rd) := hm
      have ne : k ≠ m := fun z => by
        rw [← z, hk i] at hm
        cases hm
      rw [List.getElem?_set_ne ne]
      exact e1.at_ m rd hm
    · refine q v H' (s1.trans fun c o ec => s' c o (fun z => by rw [z, hb] at ec; cases ec) (by rw [upd_ne (ne_of_none ec hb)]; exact ec)) (by rw [msk_nil]; exact rv)⟩⟩
theorem grow_more {st : Stmt} {k : Nat} {acc more : ι → List Rd} (hst : PS X st (tGrow2 (EvT (PG1 P) (GG Γ)) MB1 k fun j => more j.1)) (few : ∀ i, P i → (acc i).length + (more i).length ≤ 1000) (hr : PSs X rest (tRg P Γ k (fun i => acc i ++ more i) res)) : PSs X (st :: rest) (tRg P Γ k acc res) :=
  pss_mono (pss_cons hst hr) fun D σ H ⟨i, b, hb, hbn, ok, gr, q⟩ => ⟨(i, b), b, acc i, hb, List.mem_singleton.mpr rfl, ok, gr, by
    rw [sizeLine_eq]
    have := few i ok.1.p
    show (acc i).length + (more i).length < _
    omega, fun H' ok' gr' x' => ⟨i, b, hb, hbn, ok', gr', fun v H2 s2 rv => q v H2 (fun c o nc ec => s2 c o nc (msk_of (x' c o (by rw [msk_in (by simp [nc])]; exact ec))).1) rv⟩⟩
/-- for tg in ..: found.append(..) -/
theorem grow_for {α : Type} {xs : ι → List α} {r rr : ι → α → Rd} {wi : TI} {g : TG} {st : Stmt} {k : Nat} {acc : ι → List Rd} {vs : List Nat} {Γ' : (ι × Addr) × α → Gm} (hp : PassesOwn (model X.prog X.w) X.A X.env X.xe) (hc : X.calm = true) (hi : PI X tg iter wi)
    (src : Src (EvT (PG1 P) (GG Γ)) MB1 (fun j => xs j.1) (fun j => r j.1) wi) (hg : PG X tg g) (tgt : TgtF (EvT (PG1 P) (GG Γ)) (fun j => xs j.1) (fun j => r j.1) (EvT (PE2 (PG1 P) fun j => xs j.1) Γ') vs g) (hkv : k ∉ vs)
    (hb : PS X st (tGrow2 (EvT (PE2 (PG1 P) fun j => xs j.1) Γ') (fun j => [j.1.2]) k fun j => [rr j.1.1 j.2])) (few : ∀ i, P i → (acc i).length + (xs i).length ≤ 1000) (hΓl : ∀ j, (Γ j.1.1).length = (Γ' j).length) (hΓs : ∀ j (k : Nat) (r : Rd), (Γ j.1.1)[k]? = some (some r) → (Γ' j)[k]? = some (some r)) (hr : PSs X rest (tRg P Γ k (fun i => acc i ++ (xs i).map (rr i)) res)) (hs : ∀ x, foldedSetIterable iter X.env x = pure x := by intro _; rfl) : PSs X (.For tg iter [st] [] pos :: rest) (tRg P Γ k acc res) := by
  refine pss_mono (pss_cons (ps_for hp hc hi hg (pss_one hb) hs) hr) fun D σ H ⟨i, b, hk, hbn, ok, gr, q⟩ => ?_
  refine src σ H _ ⟨(i, b), ok, fun J G Y H1 s1 wk hG hY => ?_⟩
  have hf := few i ok.1.p
  refine for_it wk (fun n σ' H' => σ'[k]? = some (some (.ref b)) ∧ EOk (EvT (PG1 P) (GG Γ)) MB1 (i, b) σ' H' ∧ Grow [b] b (acc i ++ ((xs i).take n).map (rr i)) H' ∧ Same (msk [b] H1) (msk [b] H')) ⟨hk, ok.same evT s1, by rw [List.take_zero, List.map_nil, List.append_nil]; exact gr.ext (LamX.ExtN.of s1), Same.refl _⟩ (fun n σ' H' _ z => hG H' z.2.2.2) ?_ ?_
  · rintro n x σ' H' H'' hn ⟨hk', ok', gr', sK⟩ hYn
    obtain ⟨sY, y, hy, rx⟩ := hY n H' x H'' [b] hn sK ok'.2 hYn
    have ok2 := ok'.same evT sY
    have gr2 := gr'.ext (LamX.ExtN.of sY)
    have hn : n < (xs i).length := hn
    refine tgt ((i, b), y) σ' x (msk [b] H'') H'' _ ok2.1 (List.mem_of_getElem? hy) rx msk_sub fun σ2 ev2 hv2 => ⟨((i, b), y), b, _, (hv2 k hkv).trans hk', List.mem_singleton.mpr rfl, ⟨ev2, ok2.2⟩, gr2, ?_, fun H3 ok3 gr3 s3 => ⟨(hv2 k hkv).trans hk', ⟨ok3.1.as ok3.1.p.1 ?_ ?_, ok3.2⟩, ?_, (sK.trans (msk_same sY)).trans s3⟩⟩
    · simp only [List.length_append, List.length_map, List.length_take, List.length_cons, List.length_nil]
      rw [sizeLine_eq]
      have z := Nat.min_le_left n (xs i).length
      omega
    · exact hΓl ((i, b), y)
    · exact hΓs ((i, b), y)
    · have e1 : (xs i).take (n + 1) = (xs i).take n ++ [y] := by
        rw [List.take_add_one, hy]
        rfl
      rw [e1, List.map_append, ← List.append_assoc]
      exact gr3
  · rintro σ' H' ⟨hk', ok', gr', sK⟩
    rw [List.take_length] at gr'
    exact ⟨i, b, hk', hbn, ok', gr', fun v H2 s2 rv => q v H2 (fun c o nc ec => s2 c o nc (msk_of (sK c o (by rw [msk_in (by simp [nc])]; exact s1 _ _ ec))).1) rv⟩
theorem grow_done {k : Nat} {acc : ι → List Rd} (hk : ∀ i, (Γ i)[k]? = some none) (hr : PSs X rest (tRt (fun _ => []) P (fun i => (Γ i).set k (some (oLn (acc i)))) res)) : PSs X rest (tRg P Γ k acc res) :=
  pss_mono hr fun D σ H ⟨i, b, hb, hbn, ok, ⟨vs, e, al⟩, q⟩ => ⟨i, ⟨by
    rw [msk_nil]
    have ev := ok.1
    refine ⟨ev.p, by rw [List.length_set]; exact ev.l, fun m rd hm => ?_⟩
    by_cases c : k = m
    · subst c
      rw [List.getElem?_set_self (List.getElem?_eq_some_iff.mp (hk i)).1] at hm
      have e' : oLn (acc i) = rd := Option.some.inj (Option.some.inj hm)
      subst e'
      exact ⟨_, hb, b, vs, rfl, hbn, e, al.st (LamX.ExtN.of msk_sub)⟩
    · rw [List.getElem?_set_ne c] at hm
      obtain ⟨v, e1, e2⟩ := ev.at_ m rd hm
      exact ⟨v, e1, rd.st _ _ _ (LamX.ExtN.of msk_sub) e2⟩, Live.nil⟩, fun v H' s' rv => q v H' (fun c o _ ec => s' c o ec) (by rw [msk_nil] at rv; exact rv)⟩
end
end MX

set_option Elab.async false
set_option linter.all false
set_option maxRecDepth 100000
set_option maxHeartbeats 4000000
namespace MX
open PySem PySem.Spec PySem.W PySem.Calls PyProof.Rows L2
/-! ### readings that tell data -/
def IsQ (r : Rd) (d : PyData) : Prop := ∀ v H, r.R v H → Dq H v d
def IsD (r : Rd) (d : PyData) : Prop := ∀ K v H, r.R v H → Dp K H v d
def AllQ : List Rd → List PyData → Prop
  | [], [] => True
  | r :: rs, d :: ds => IsQ r d ∧ AllQ rs ds
  | _, _ => False
def AllD : List Rd → List PyData → Prop
  | [], [] => True
  | r :: rs, d :: ds => IsD r d ∧ AllD rs ds
  | _, _ => False
theorem oLn_oL {rs : List Rd} {v : V} {H : Hp} (h : (oLn rs).R v H) : (oL rs).R v H := by
  obtain ⟨a, vs, e, n, h1, h2⟩ := h
  exact ⟨a, vs, e, h1, h2⟩
theorem isQ_S {x : Str} : IsQ (oS x) (.str x) := fun v H h => by rw [show v = V.str x from h]; exact .str x
theorem isQ_I {x : Int} : IsQ (oI x) (.int x) := fun v H h => by rw [show v = V.int x from h]; exact .int x
theorem isQ_B {x : Bool} : IsQ (oB x) (.bool x) := fun v H h => by rw [show v = V.bl x from h]; exact .bl x
theorem isD_S {x : Str} : IsD (oS x) (.str x) := fun K v H h => by rw [show v = V.str x from h]; exact .str x
theorem isD_I {x : Int} : IsD (oI x) (.int x) := fun K v H h => by rw [show v = V.int x from h]; exact .int x
theorem isD_B {x : Bool} : IsD (oB x) (.bool x) := fun K v H h => by rw [show v = V.bl x from h]; exact .bl x
theorem allQ_at {H : Hp} : ∀ {rs : List Rd} {vs : List V} {ds : List PyData}, All2 rs vs H → AllQ rs ds → vs.length = ds.length ∧ ∀ (i : Nat) (x : V) (d : PyData), vs[i]? = some x → ds[i]? = some d → Dq H x d
  | [], [], [], _, _ => ⟨rfl, fun i x d h => by simp at h⟩
  | r :: rs, v :: vs, d :: ds, h, g => by
    obtain ⟨h1, h2⟩ := allQ_at h.2 g.2
    refine ⟨congrArg Nat.succ h1, fun i x d' hx hd => ?_⟩
    cases i with
    | zero =>
      obtain rfl : v = x := by simpa using hx
      obtain rfl : d = d' := by simpa using hd
      exact g.1 v H h.1
    | succ i => exact h2 i x d' (by simpa using hx) (by simpa using hd)
  | [], _ :: _, _, h, _ => h.elim
  | _ :: _, [], _, h, _ => h.elim
  | [], [], _ :: _, _, g => g.elim
  | _ :: _, _ :: _, [], _, g => g.elim
theorem allD_at {K : PySem.W.Frag} {H : Hp} : ∀ {rs : List Rd} {vs : List V} {ds : List PyData}, All2 rs vs H → AllD rs ds → DpAll K H vs ds
  | [], [], [], _, _ => .nil
  | r :: rs, v :: vs, d :: ds, h, g => .cons (g.1 K v H h.1) (allD_at h.2 g.2)
  | [], _ :: _, _, h, _ => h.elim
  | _ :: _, [], _, h, _ => h.elim
  | [], [], _ :: _, _, g => g.elim
  | _ :: _, _ :: _, [], _, g => g.elim
theorem isQ_T {rs : List Rd} {ds : List PyData} (g : AllQ rs ds) : IsQ (oT rs) (.tuple ds) := fun v H ⟨a, vs, e, h1, h2⟩ => by
  obtain ⟨l, k⟩ := allQ_at h2 g
  rw [e]
  exact .tup h1 l k
theorem isQ_Ln {rs : List Rd} {ds : List PyData} (g : AllQ rs ds) : IsQ (oLn rs) (.list ds) := fun v H ⟨a, vs, e, n, h1, h2⟩ => by
  obtain ⟨l, k⟩ := allQ_at h2 g
  rw [e]
  exact .lst h1 n l k
theorem isD_T {rs : List Rd} {ds : List PyData} (g : AllD rs ds) : IsD (oT rs) (.tuple ds) := fun K v H ⟨a, vs, e, h1, h2⟩ => by
  rw [e]
  exact .tup (SqT.of h1) (allD_at h2 g)
theorem isD_L {rs : List Rd} {ds : List PyData} (g : AllD rs ds) : IsD (oL rs) (.list ds) := fun K v H ⟨a, vs, e, h1, h2⟩ => by
  rw [e]
  exact .lst (SqL.of h1) (allD_at h2 g)
theorem allQ_map {α : Type} {r : α → Rd} {d : α → PyData} (h : ∀ x, IsQ (r x) (d x)) : ∀ xs : List α, AllQ (xs.map r) (xs.map d)
  | [] => trivial
  | x :: xs => ⟨h x, allQ_map h xs⟩
theorem allD_map {α : Type} {r : α → Rd} {d : α → PyData} (h : ∀ x, IsD (r x) (d x)) : ∀ xs : List α, AllD (xs.map r) (xs.map d)
  | [] => trivial
  | x :: xs => ⟨h x, allD_map h xs⟩
def evD (e : Evt) : PyData := .tuple [.str e.1, .str e.2]
theorem isQ_ev (e : Evt) : IsQ (evR e) (evD e) := isQ_T ⟨isQ_S, isQ_S, trivial⟩
theorem isD_ev (e : Evt) : IsD (evR e) (evD e) := isD_T ⟨isD_S, isD_S, trivial⟩
theorem IsD.msk {r : Rd} {d : PyData} (h : IsD r d) {K : PySem.W.Frag} {M : List Addr} {v : V} {H : Hp} (q : r.R v (msk M H)) : Dp K H v d := h K v H (r.st _ _ _ (LamX.ExtN.of msk_sub) q)
theorem IsQ.msk {r : Rd} {d : PyData} (h : IsQ r d) {M : List Addr} {v : V} {H : Hp} (q : r.R v (msk M H)) : Dq H v d := h v H (r.st _ _ _ (LamX.ExtN.of msk_sub) q)
section
variable {ι : Type} {Ev : ι → L2.St → Hp → Prop} {M : ι → List Addr} {X : Cx} {a b e : Expr} {pos p : Pos}
theorem er_un {rs : ι → List Rd} (h : PE X e (tR Ev M fun i => oLn (rs i))) : PE X e (tR Ev M fun i => oL (rs i)) := er_to h fun i σ H _ v H' q => oLn_oL q
theorem er_lstN (E : Env Ev) {es : List Expr} {rs : ι → List Rd} (h : PA X es (tRA Ev M rs)) (l : ∀ i σ H, Ev i σ H → (rs i).length ≤ sizeLine) : PE X (.List es pos) (tR Ev M fun i => oLn (rs i)) :=
  pe_mono (pe_lstN h) fun σ H Q ⟨i, ok, q⟩ => ⟨i, ok, fun vs H1 s1 a1 => ⟨by rw [a1.len]; exact l i σ _ ok.1, fun p hp hn => q _ _ (s1.trans (same_new hp)) ⟨p, vs, rfl, hn, msk_new (ok.same E s1).2 hp, a1.st (msk_ext (LamX.ExtN.of (same_new hp)))⟩⟩⟩
theorem er_repr {x : Str} {r : ι → Rd} {d : ι → PyData} (hgd : X.A.guards = some []) (hu : X.A.units + 64 < cLine) (hg : Gl X x) (hm : X.mg x = none) (hv : bootBuiltins x = some (.builtin "repr")) (h : PE X e (tR Ev M r)) (hq : ∀ i σ H, Ev i σ H → IsQ (r i) (d i) ∧ Shows (d i)) (hn : x ≠ "__name__" := by decide) (hdb : (x == ("__debug__" : Str)) = false := by decide)
    (he : starEach [e] X.env = (false, eval e X.env) :: starEach [] X.env := by rfl) : PE X (.Call (.Name x p) [e] [] pos) (tR Ev M fun i => oS (d i).shown) :=
  pe_mono (pe_callB (call_repr hgd hu) hg hm hv (pa_cons h pa_nil he) hn hdb he rfl) fun σ H Q ⟨i, ok, q⟩ => ⟨i, ok, fun v H1 s1 rv => ⟨v, d i, rfl, (hq i σ _ ok.1).1.msk rv, (hq i σ _ ok.1).2, q _ _ s1 rfl⟩⟩
theorem er_eqD (E : Env Ev) {x y : ι → Rd} {d f : ι → PyData} (hu : X.A.units + 64 < cLine) (ha : PE X a (tR Ev M x)) (hb : PE X b (tR Ev M y)) (hd : ∀ i σ H, Ev i σ H → IsD (x i) (d i) ∧ IsD (y i) (f i) ∧ SeqAt.shaped (d i) = true ∧ SeqAt.shaped (f i) = true) (h1 : behindInMarks .Eq b = false := by first | exact nobehind _ (by decide) (by decide) | rfl) :
    PE X (.Compare a [.Eq] [b] pos) (tR Ev M fun i => oB (PyData.eqv (d i) (f i))) :=
  er_cmp E (op_eqD hu) ha hb h1 fun i σ H ev v u rv ru Q q => by
    obtain ⟨h1, h2, h3, h4⟩ := hd i σ _ ev
    exact ⟨d i, f i, h1.msk rv, h2.msk ru, h3, h4, q _ rfl⟩
theorem tt_neD (E : Env Ev) {x y : ι → Rd} {d f : ι → PyData} (hu : X.A.units + 64 < cLine) (ha : PE X a (tR Ev M x)) (hb : PE X b (tR Ev M y)) (hd : ∀ i σ H, Ev i σ H → IsD (x i) (d i) ∧ IsD (y i) (f i) ∧ SeqAt.shaped (d i) = true ∧ SeqAt.shaped (f i) = true) (h1 : behindInMarks .NotEq b = false := by first | exact nobehind _ (by decide) (by decide) | rfl) :
    PT X (.Compare a [.NotEq] [b] pos) (tTR Ev M fun i => !PyData.eqv (d i) (f i)) :=
  tt_cmp E (op_neD hu) ha hb h1 fun i σ H ev v u rv ru Q q => by
    obtain ⟨h1, h2, h3, h4⟩ := hd i σ _ ev
    exact ⟨d i, f i, h1.msk rv, h2.msk ru, h3, h4, q⟩
theorem er_inD (E : Env Ev) {x y : ι → Rd} {d : ι → PyData} {ds : ι → List PyData} (hu : X.A.units + 65 < cLine) (ha : PE X a (tR Ev M x)) (hb : PE X b (tR Ev M y)) (hd : ∀ i σ H, Ev i σ H → IsD (x i) (d i) ∧ IsD (y i) (.list (ds i)) ∧ SeqAt.shaped (d i) = true ∧ SeqAt.shaped (.list (ds i)) = true) (h1 : behindInMarks .In b = false) :
    PE X (.Compare a [.In] [b] pos) (tR Ev M fun i => oB ((ds i).any fun z => PyData.eqv z (d i))) :=
  er_cmp E (op_inD hu) ha hb h1 fun i σ H ev v u rv ru Q q => by
    obtain ⟨h1, h2, h3, h4⟩ := hd i σ _ ev
    exact ⟨d i, ds i, h1.msk rv, h2.msk ru, h3, h4, q _ rfl⟩
theorem er_isB (E : Env Ev) {x y : ι → Bool} (ha : PE X a (tR Ev M fun i => oB (x i))) (hb : PE X b (tR Ev M fun i => oB (y i))) (h1 : behindInMarks .Is b = false := by first | exact nobehind _ (by decide) (by decide) | rfl) : PE X (.Compare a [.Is] [b] pos) (tR Ev M fun i => oB (decide (x i = y i))) :=
  er_cmp E op_isBl ha hb h1 fun i σ H ev v u rv ru Q q => by
    have e1 : v = .bl (x i) := rv
    have e2 : u = .bl (y i) := ru
    subst e1 e2
    exact ⟨_, _, rfl, rfl, q _ rfl⟩
theorem tt_eqB (E : Env Ev) {x y : ι → Bool} (ha : PE X a (tR Ev M fun i => oB (x i))) (hb : PE X b (tR Ev M fun i => oB (y i))) (h1 : behindInMarks .Eq b = false := by first | exact nobehind _ (by decide) (by decide) | rfl) : PT X (.Compare a [.Eq] [b] pos) (tTR Ev M fun i => decide (x i = y i)) :=
  tt_cmp E op_eq ha hb h1 fun i σ H ev v u rv ru Q q => by
    have e1 : v = .bl (x i) := rv
    have e2 : u = .bl (y i) := ru
    subst e1 e2
    refine ⟨rfl, ?_⟩
    have e : decide (V.bl (x i) = V.bl (y i)) = decide (x i = y i) := decide_eq_decide.mpr ⟨V.bl.inj, congrArg V.bl⟩
    rw [e]
    exact q
/-- int(a text) -/
theorem er_intS {x : Str} {z : ι → Str} {n : ι → Int} (hg : Gl X x) (hm : X.mg x = none) (hv : bootBuiltins x = some (.type "int")) (h : PE X e (tR Ev M fun i => oS (z i))) (hz : ∀ i σ H, Ev i σ H → PySem.intText? (z i) = some (n i) ∧ (z i).length ≤ 640) (hn : x ≠ "__name__" := by decide) (hdb : (x == ("__debug__" : Str)) = false := by decide)
    (he : starEach [e] X.env = (false, eval e X.env) :: starEach [] X.env := by rfl) (hpl : (backTo pos (starEach [] X.env)).any (·.1) = false := by rfl) : PE X (.Call (.Name x p) [e] [] pos) (tR Ev M fun i => oI (n i)) :=
  pe_mono (pe_callTy call_int_str hg hm hv (pa_cons h pa_nil he) hn hdb he hpl) fun σ H Q ⟨i, ok, q⟩ => ⟨i, ok, fun v H1 s1 rv => by
    obtain rfl : v = .str (z i) := rv
    exact ⟨z i, n i, rfl, (hz i σ _ ok.1).1, (hz i σ _ ok.1).2, q _ _ s1 rfl⟩⟩
/-- xs[n], n as the state says -/
theorem er_ixN (E : Env Ev) {x : ι → List Rd} {r : ι → Rd} {k : ι → Nat} (ha : PE X a (tR Ev M fun i => oL (x i))) (hb : PE X b (tR Ev M fun i => oI (k i : Int))) (hs : PlainIx b) (h : ∀ i σ H, Ev i σ H → (x i)[k i]? = some (r i)) : PE X (.Subscript a b pos) (tR Ev M r) :=
  pe_mono (pe_ix ix_list ha hb hs) fun σ H Q ⟨i, ok, q⟩ => ⟨i, ok, fun v H1 s1 ⟨p1, v1, e1, h1, a1⟩ => ⟨i, ok.same E s1, fun u H2 s2 e2 => by
    obtain ⟨y, hy, ry⟩ := (a1.st (msk_ext (M := M i) (LamX.ExtN.of s2))).get (h i σ _ ok.1)
    exact ⟨p1, v1, (k i : Int), y, e1, e2, SqL.of (s2 _ _ (msk_of h1).1), atI_nat hy, q _ _ (s1.trans s2) ry⟩⟩⟩
/-- z[:n] -/
theorem er_cutS (E : Env Ev) {z : ι → Str} {n : ι → Nat} {p2 : Pos} (ha : PE X a (tR Ev M fun i => oS (z i))) (hb : PE X b (tR Ev M fun i => oI (n i : Int))) (l : ∀ i σ H, Ev i σ H → (z i).length ≤ sizeLine) : PE X (.Subscript a (.Slice none (some b) none p2) pos) (tR Ev M fun i => oS (cutS (z i) none (some (n i : Int)))) :=
  pe_mono (pe_slice sl_str ha po_none (po_some hb)) fun σ H Q ⟨i, ok, q⟩ => ⟨i, ok, fun v H1 s1 rv => ⟨i, ok.same E s1, fun u H2 s2 ru => by
    obtain rfl : v = .str (z i) := rv
    exact ⟨(n i : Int), ru, z i, rfl, l i σ _ ok.1, q _ _ (s1.trans s2) rfl⟩⟩⟩
theorem er_revX {z : ι → Str} {k : Nat} {p1 p2 p3 : Pos} (ha : PE X a (tR Ev M fun i => oS (z i))) (l : ∀ i σ H, Ev i σ H → (revX (z i)).length ≤ sizeLine) : PE X (.Subscript a (.Slice none none (some (.UnaryOp .USub (.Constant (.int 1) k p1) p2)) p3) pos) (tR Ev M fun i => oS (revX (z i))) :=
  pe_mono (pe_revX ha) fun σ H Q ⟨i, ok, q⟩ => ⟨i, ok, fun v H1 s1 rv => ⟨z i, rv, l i σ _ ok.1, q _ _ s1 rfl⟩⟩
/-- one sign in a text -/
theorem tt_inC (E : Env Ev) {c : ι → Nat} {z : ι → Str} (ha : PE X a (tR Ev M fun i => oS ⟨#[c i]⟩)) (hb : PE X b (tR Ev M fun i => oS (z i))) (h1 : behindInMarks .In b = false) : PT X (.Compare a [.In] [b] pos) (tTR Ev M fun i => decide (c i ∈ (z i).cps.toList)) :=
  tt_cmp E op_in_sign ha hb h1 fun i σ H ev v u rv ru Q q => by
    have e1 : v = .str ⟨#[c i]⟩ := rv
    have e2 : u = .str (z i) := ru
    subst e1 e2
    exact ⟨_, _, rfl, rfl, q⟩
theorem er_ifE (E : Env Ev) {c : Expr} {t : ι → Bool} {r : ι → Rd} (hc : PT X c (tTR Ev M t)) (ha : PE X a (tR (fun i σ H => Ev i σ H ∧ t i = true) M r)) (hb : PE X b (tR (fun i σ H => Ev i σ H ∧ t i = false) M r)) : PE X (.IfExp c a b pos) (tR Ev M r) :=
  pe_mono (pe_ifExp hc ha hb) fun σ H Q ⟨i, ok, q⟩ => ⟨i, ok, fun H1 s1 => by
    have ok1 := ok.same E s1
    cases ht : t i with
    | true => exact ⟨i, ⟨⟨ok1.1, ht⟩, ok1.2⟩, fun v H2 s2 rv => q v H2 (s1.trans s2) rv⟩
    | false => exact ⟨i, ⟨⟨ok1.1, ht⟩, ok1.2⟩, fun v H2 s2 rv => q v H2 (s1.trans s2) rv⟩⟩
end
/-! enumerate(a text) -/
section
variable {ι : Type} {Ev : ι → L2.St → Hp → Prop} {M : ι → List Addr}
theorem src_enumTx {z : ι → Str} {ta : TA} (h : ∀ σ H Q, (∃ i, EOk Ev M i σ H ∧ ∀ v H', Same H H' → (oS (z i)).R v (msk (M i) H') → Q [v] H') → ta σ H Q) : Src Ev M (fun i => (z i).cps.toList.zipIdx) (fun i p => oT [oI ((p.2 : Nat) : Int), oS ⟨#[p.1]⟩]) (iEnumS' ta) := fun σ H R ⟨i, ok, q⟩ => h σ H _ ⟨i, ok, fun v H1 s1 rv => by
  obtain rfl : v = .str (z i) := rv
  refine ⟨z i, rfl, q (IteX (z i) 0) (fun H => True) _ H1 s1 (by rw [List.length_zipIdx, Array.length_toList]; exact walk_enumTx) (fun H' s => trivial) fun m Hm x H' Mx _ s lv y => ?_⟩
  obtain ⟨T, a1, a2, rfl, hT, rfl, e1, e2⟩ := y
  obtain rfl : V.int (0 + (m : Int)) = a1 := Option.some.inj e1
  obtain ⟨c, hc, rfl⟩ := Option.map_eq_some_iff.mp e2
  have sT := same_new (o := .tup [V.int (0 + (m : Int)), V.str ⟨#[c]⟩]) hT
  refine ⟨sT, (c, m), ?_, T, _, rfl, msk_new lv hT, ?_, rfl, trivial⟩
  · rw [List.getElem?_zipIdx, Array.getElem?_toList, hc]
    simp
  · show V.int (0 + (m : Int)) = V.int (m : Int)
    rw [Int.zero_add]⟩
end
end MX

set_option Elab.async false
set_option linter.all false
set_option maxRecDepth 100000
set_option maxHeartbeats 4000000
namespace MX
open PySem PySem.Spec PySem.W PySem.Calls PyProof.Rows L2
/-! ### halls and books made as values -/
theorem passX {P : Program} {w : World} {X : Cx} : Passes (L2.CX P w) X (fun _ _ _ => False) := fun _ _ _ _ _ _ _ ⟨_, _, _, _, _, _, _, _, _, _, _, _, h⟩ => h.elim
def hOf (x : Str) : HI := match parseH x with
  | .inr ot => ⟨x, peopleOf x, ot.1, ot.2⟩
  | .inl _ => ⟨x, peopleOf x, [], []⟩
section
variable {ι : Type} {Ev : ι → L2.St → Hp → Prop} {X : Cx} {e : Expr} {pos p : Pos} {x : Str}
theorem er_mkHall {C cB fI : Addr} {fdI : FuncData} {k : Nat} {z : ι → Str} (M : Mk X.K C fI) (F : FnOk X.prog X.w X.K X.mg X.base (L2.CX X.prog X.w) k fI fdI ["self", "text"] (spInit X.K C cB)) (hr : Room (k + 1) X.A) (hg : Gl X x) (hm : X.mg x = some (.ref C)) (hb : L2.Binds X.K fdI ["self", "text"] [])
    (ha : PE X e (tR Ev (fun _ => []) fun i => oS (z i))) (hz : ∀ i σ H, Ev i σ H → TextOk (z i) ∧ ∃ ot, parseH (z i) = .inr ot) (hdb : (x == ("__debug__" : Str)) = false := by decide) (he : starEach [e] X.env = (false, eval e X.env) :: starEach [] X.env := by rfl) (hpl : (backTo pos (starEach [] X.env)).any (·.1) = false := by rfl) :
    PE X (.Call (.Name x p) [e] [] pos) (tR Ev (fun _ => []) fun i => hR X.K C (hOf (z i))) :=
  pe_mono (pe_make M F hr hg hm hb .nil passX (pa_cons ha pa_nil he) hdb he hpl) fun σ H Q ⟨i, ok, q⟩ => ⟨i, ok, fun v H1 s1 rv => by
    obtain rfl : v = .str (z i) := rv
    obtain ⟨t1, ot, t2⟩ := hz i σ _ ok.1
    intro a dx ha hdx hne
    have s2 : Same H1 (L2.upd (L2.upd H1 dx (.own a)) a (.ins C dx [])) := fun b o e => by
      rw [upd_ne (ne_of_none e ha), upd_ne (ne_of_none e hdx)]
      exact e
    refine ⟨a, dx, _, rfl, upd_same, .inr ⟨z i, rfl, t1, fun n hn => (by rw [t2] at hn; cases hn), fun ops T he H' pp o d b hA => ⟨rfl, ?_⟩⟩⟩
    have e3 : ot = (ops, T) := by rw [t2] at he; exact Sum.inr.inj he
    refine q _ _ (s1.trans fun c o ec => b _ _ (s2 _ _ ec) fun m => by rw [List.mem_singleton.mp m, ha] at ec; cases ec) ?_
    rw [msk_nil]
    refine ⟨a, pp, o, d, rfl, ?_⟩
    unfold hOf
    rw [t2, e3]
    exact hA⟩
theorem bd_un3L {P : ι → Prop} {Γ : ι → Gm} {M : ι → List Addr} {res : ι → Rd} {rest : List Stmt} {k1 k2 k3 : Nat} {y z t : Str} {p1 p2 p4 p3 : Pos} {kk} {r1 r2 r3 : ι → Rd} (hc : X.calm = true) (hN : X.N.Nodup) (he : PE X e (tR (EvT P Γ) M fun i => oL [r1 i, r2 i, r3 i])) (hr : PSs X rest (tRt M P (fun i => (((Γ i).set k1 (some (r1 i))).set k2 (some (r2 i))).set k3 (some (r3 i))) res))
    (h1 : X.N[k1]? = some y := by rfl) (x1 : Loc X.env.scope y := by first | exact Or.inl rfl | exact Or.inr rfl) (h2 : X.N[k2]? = some z := by rfl) (x2 : Loc X.env.scope z := by first | exact Or.inl rfl | exact Or.inr rfl) (h3 : X.N[k3]? = some t := by rfl) (x3 : Loc X.env.scope t := by first | exact Or.inl rfl | exact Or.inr rfl)
    (f1 : X.fn y = true ∨ X.env.scope.names.lookup y = some .local := by first | exact .inl rfl | exact .inr rfl) (f2 : X.fn z = true ∨ X.env.scope.names.lookup z = some .local := by first | exact .inl rfl | exact .inr rfl) (f3 : X.fn t = true ∨ X.env.scope.names.lookup t = some .local := by first | exact .inl rfl | exact .inr rfl)
    (hn : (assignEach [.Name y p1, .Name z p2, .Name t p4] X.env).length = 3 := by rfl) (hst : (assignEach [.Name y p1, .Name z p2, .Name t p4] X.env).findIdx? (·.1) = none := by rfl)
    (hs : swapsWithSole [.Tuple [.Name y p1, .Name z p2, .Name t p4] kk p3] e pos.line X.env = pure false := by rfl) (hw : swappedStores [.Tuple [.Name y p1, .Name z p2, .Name t p4] kk p3] e X.env = pure none := by rfl)
    (ha : (assignEach [.Tuple [.Name y p1, .Name z p2, .Name t p4] kk p3] X.env).map (·.2) = [assign (.Tuple [.Name y p1, .Name z p2, .Name t p4] kk p3) X.env] := by rfl) : PSs X (.Assign [.Tuple [.Name y p1, .Name z p2, .Name t p4] kk p3] e pos :: rest) (tRt M P Γ res) :=
  pss_mono (pss_cons (ps_asg he (pg_lst hc (pgs_cons (pg_name hN h1 x1 f1) (pgs_cons (pg_name hN h2 x2 f2) (pgs_cons (pg_name hN h3 x3 f3) pgs_nil))) hn hst) hs hw ha) hr) fun D σ H ⟨i, ok, q⟩ => ⟨i, ok, fun v H1 s1 ⟨a, vs, ev, ea, al⟩ => by
    match vs, al with
    | [v1, v2, v3], ⟨q1, q2, q3, _⟩ =>
      have ok1 := ok.same evT s1
      exact ⟨a, _, ev, SqL.of (msk_of ea).1, rfl, v1, _, rfl, v2, _, rfl, v3, _, rfl, rfl, i, ⟨((ok1.1.set k1 q1 (Γ' := fun i => (Γ i).set k1 (some (r1 i))) rfl).set k2 q2 (Γ' := fun i => ((Γ i).set k1 (some (r1 i))).set k2 (some (r2 i))) rfl).set k3 q3 rfl, ok1.2⟩, fun u H2 s2 ru => q u H2 (s1.trans s2) ru⟩⟩
end
end MX

set_option Elab.async false
set_option linter.all false
set_option maxRecDepth 100000
set_option maxHeartbeats 4000000
namespace K14
open PySem PySem.Spec PySem.W PySem.Calls PyProof.Rows L2 MX
def top (i : Nat) : Stmt := PySem.Challenge.pw_metonce_k14_timelines_by_hand.main.body.getD i (.Pass ⟨0, 0, 0, 0⟩)
abbrev sErr : Stmt := inClass (top 2) 0
abbrev sIsName : Stmt := top 17
abbrev sUnlike : Stmt := top 18
abbrev sAmong : Stmt := top 19
abbrev sPeople : Stmt := top 20
abbrev sMet : Stmt := top 21
abbrev sOpen : Stmt := top 22
abbrev sRequire : Stmt := top 23
abbrev sInit : Stmt := inClass (top 24) 0
abbrev sTakes : Stmt := inClass (top 24) 1
abbrev sTell : Stmt := inClass (top 24) 2
abbrev sTold : Stmt := inClass (top 24) 3
abbrev sLen : Stmt := inClass (top 24) 5
abbrev sIn : Stmt := inClass (top 24) 6
abbrev sEq : Stmt := inClass (top 24) 7
abbrev FnP (K : PySem.W.Frag) (x : Str) (st : Stmt) (f : Addr) (fd : FuncData) : Prop := FunD K x x (defArgs st) (defBody st) (defScope st) [] [] f fd
/-- the built-ins' names that the module leaves alone, its numbers and letters -/
structure Blt (mg : Str → Option Value) : Prop where
  len : mg "len" = none
  set : mg "set" = none
  all : mg "all" = none
  tup : mg "tuple" = none
  isi : mg "isinstance" = none
  enum : mg "enumerate" = none
  str : mg "str" = none
  letters : ∃ t, mg "LETTERS" = some (.str letters t)
  mLetters : ∃ t, mg "MOST_LETTERS" = some (.int 8 t)
  mPeople : ∃ t, mg "MOST_PEOPLE" = some (.int 9 t)
  mMet : ∃ t, mg "MOST_MET" = some (.int 20 t)
  mOpen : ∃ t, mg "MOST_OPEN" = some (.int 4 t)
section
variable {P : Program} {w : World} {K : PySem.W.Frag} {mg : Str → Option Value} {base : Heap} {f : Addr} {fd : FuncData}
theorem scIsName : FnScope ["word", "sign"] ["word"] (defScope sIsName) := ⟨rfl, rfl, rfl, by decide +kernel, rfl, by decide +kernel, by decide +kernel⟩
theorem ok_isName (F : FnP K "is_name" sIsName f fd) (B : Blt mg) : FnOk P w K mg base CX0 1 f fd ["word"] spIsName := by
  refine F.ok scIsName (fun vs H Q E h => ?_) (fun cdv A outer s H vs Q E hr h => ?_)
  · obtain ⟨x, rfl, _⟩ := h
    rfl
  · obtain ⟨x, rfl, hl, q⟩ := h
    obtain ⟨t1, g1⟩ := B.letters
    obtain ⟨t2, g2⟩ := B.mLetters
    refine ⟨_, PSs.nox (pss_one (ps_ret (pe_and (pe_chain op_le op_le pe_int (pe_callB call_len_str (by rfl) B.len PySem.boot_len (pa_cons (pv 0) pa_nil)) (pe_glob (v := .int 8) rfl g2 ⟨_, rfl⟩))
      (pe_one (pe_callB (cr_all rfl) (by rfl) B.all boot_all (pa_cons (pe_lc (own := [("sign", 1)]) (g := gName 1) (tt := tYes) rfl scIsName.nd (pi_str (pv 0)) (blkOk_by (N := ["word", "sign"]) (sc := defScope sIsName) (by decide +kernel))
        (fun _ _ _ _ _ => pg_name (i := 1) scIsName.nd rfl (Or.inl rfl)) (fun _ _ _ _ _ => pts_nil) (fun _ _ _ _ _ => pe_cmpR op_in_sign (pv 1) (pe_glob (v := .str letters) rfl g1 ⟨_, rfl⟩) rfl)) pa_nil)))))), ?_⟩
    refine ⟨_, rfl, x, rfl, (by rw [sizeLine_eq]; omega), _, _, rfl, rfl, _, rfl, ite2 (fun h1 => ?_) (fun h1 => ?_)⟩
    · have h1 := of_decide_eq_true h1
      refine ⟨_, _, rfl, rfl, _, rfl, ite2 (fun h2 => ?_) (fun h2 => ?_)⟩
      · have h2 := of_decide_eq_true h2
        refine ⟨_, rfl, x, rfl, fun D nD => lc_it walk_str (fun k H' => H' D = some (.lst ((x.cps.toList.take k).map fun c => V.bl (decide (c ∈ letters.cps.toList)))) ∧ Same H H') ⟨by rw [upd_same]; rfl, same_new nD⟩ (fun _ _ _ _ => trivial) ?_ ?_⟩
        · rintro k y H' H'' hk ⟨eD, s⟩ ⟨rfl, c, hc, rfl⟩
          have hc' : x.cps.toList[k]? = some c := by rw [Array.getElem?_toList]; exact hc
          obtain ⟨acc, a1, a2, a3, a4⟩ := lcStep (f := fun c => V.bl (decide (c ∈ letters.cps.toList))) eD hc' s nD (Same.refl _) (by rw [Array.length_toList]; exact hl)
          exact ⟨rfl, _, rfl, c, letters, rfl, rfl, acc, a1, a2, a3, a4⟩
        · rintro H' ⟨eD, s⟩
          rw [show x.cps.size = x.cps.toList.length from (Array.length_toList).symm, List.take_length] at eD
          have e2 : (x.cps.toList.map fun c => V.bl (decide (c ∈ letters.cps.toList))) = (x.cps.toList.map fun c => decide (c ∈ letters.cps.toList)).map V.bl := by rw [List.map_map]; rfl
          rw [e2] at eD
          refine ⟨D, _, rfl, SqL.of eD, ?_⟩
          have e3 : ((x.cps.toList.map fun c => decide (c ∈ letters.cps.toList)).all id) = nameB x := by
            unfold nameB
            rw [decide_eq_true (show 1 ≤ x.length by omega), decide_eq_true (show x.length ≤ 8 by omega), List.all_map]
            rfl
          rw [e3]
          exact q H' s
      · have h2 : ¬ ((x.length : Nat) : Int) ≤ 8 := fun z => h2 (decide_eq_true z)
        have e3 : nameB x = false := by
          unfold nameB
          rw [decide_eq_false (show ¬ x.length ≤ 8 by omega)]
          simp
        have z := q H (Same.refl H)
        rw [e3] at z
        exact z
    · have h1 : ¬ (1 : Int) ≤ ((x.length : Nat) : Int) := fun z => h1 (decide_eq_true z)
      have e3 : nameB x = false := by
        unfold nameB
        rw [decide_eq_false (show ¬ 1 ≤ x.length by omega)]
        rfl
      refine ⟨_, rfl, iteF ?_⟩
      have z := q H (Same.refl H)
      rw [e3] at z
      exact z
theorem scUnlike : FnScope ["names"] ["names"] (defScope sUnlike) := ⟨rfl, rfl, rfl, by decide +kernel, rfl, by decide +kernel, by decide +kernel⟩
theorem ok_unlike (F : FnP K "are_unlike" sUnlike f fd) (B : Blt mg) : FnOk P w K mg base CX0 1 f fd ["names"] (spUnlike K) := by
  refine F.ok scUnlike (fun vs H Q E h => ?_) (fun cdv A outer s H vs Q E hr h => ?_)
  · obtain ⟨l, xs, rfl, _⟩ := h
    rfl
  · obtain ⟨l, xs, rfl, hS, hl, q⟩ := h
    refine ⟨_, PSs.nox (pss_one (ps_ret (pe_cmpR op_eq (pe_lenSetT rfl (by rfl) B.len (by rfl) B.set (pv 0)) (pe_callB call_len_seq (by rfl) B.len PySem.boot_len (pa_cons (pv 0) pa_nil)) (nomark _)))), ?_⟩
    refine ⟨_, rfl, l, xs, rfl, hS, hl, _, rfl, l, _, rfl, .inl hS, rfl, ?_⟩
    rw [List.length_map, dis_len]
    exact q
theorem scAmong : FnScope ["names", "people", "name"] ["names", "people"] (defScope sAmong) := ⟨rfl, rfl, rfl, by decide +kernel, rfl, by decide +kernel, by decide +kernel⟩
theorem ok_among {fU : Addr} {fdU : FuncData} (F : FnP K "are_among" sAmong f fd) (B : Blt mg) (FU : FnP K "are_unlike" sUnlike fU fdU) (gU : mg "are_unlike" = some (.ref fU)) : FnOk P w K mg base CX0 2 f fd ["names", "people"] (spAmong K) := by
  have GU : FnOk P w K mg base CX0 1 fU fdU ["names"] (spUnlike K) := ok_unlike FU B
  have bU : Binds K fdU ["names"] [] := FU.bindsN fun _ _ _ _ _ _ us hl => match us, hl with | [_], _ => rfl
  refine F.ok scAmong (fun vs H Q E h => ?_) (fun cdv A outer s H vs Q E hr h => ?_)
  · obtain ⟨l, p, xs, ps, rfl, _⟩ := h
    rfl
  · obtain ⟨l, p, xs, ps, rfl, hS, hl, hT, q⟩ := h
    refine ⟨_, PSs.nox (pss_one (ps_ret (pe_and (pe_call GU hr rfl gU FU.kp bU .nil pass0 (pa_cons (pv 0) pa_nil))
      (pe_one (pe_callB (cr_all rfl) (by rfl) B.all boot_all (pa_cons (pe_lc (own := [("name", 2)]) (g := gName 2) (tt := tYes) rfl scAmong.nd (pi_list (pv 0)) (blkOk_by (N := ["names", "people", "name"]) (sc := defScope sAmong) (by decide +kernel))
        (fun _ _ _ _ _ => pg_name (i := 2) scAmong.nd rfl (Or.inl rfl)) (fun _ _ _ _ _ => pts_nil) (fun _ _ _ _ _ => pe_cmpR (r := rIn K false) op_in_seq (pv 2) (pv 1) rfl)) pa_nil)))))), ?_⟩
    refine ⟨_, rfl, l, xs, rfl, hS, hl, _, rfl, ite2 (fun hn => ?_) (fun hn => ?_)⟩
    · have hn := of_decide_eq_true hn
      refine ⟨_, rfl, l, rfl, ⟨_, hS⟩, fun D nD => lc_list (xs := xs.map V.str) (fun k H' => H' D = some (.lst ((xs.take k).map fun x => V.bl (decide (x ∈ ps)))) ∧ Same H H') ⟨by rw [upd_same]; rfl, same_new nD⟩ (fun k H' _ z => z.2.seq hS) ?_ ?_⟩
      · rintro k y H' hy ⟨eD, s⟩
        rw [List.getElem?_map] at hy
        obtain ⟨x, hx, rfl⟩ := Option.map_eq_some_iff.mp hy
        obtain ⟨acc, a1, a2, a3, a4⟩ := lcStep (f := fun x => V.bl (decide (x ∈ ps))) eD hx s nD (Same.refl _) (by omega)
        refine ⟨rfl, _, rfl, _, rfl, p, ps.map V.str, rfl, .inr ?_, rfl, MX.flat_strs ps, acc, a1, a2, ?_⟩
        · rcases hT with (h | ⟨o, h⟩) | h
          · exact .inl (.inl (s _ _ h))
          · exact .inl (.inr ⟨o, s _ _ h⟩)
          · exact .inr h
        · rw [show (if false = true then !inV (V.str x) (ps.map V.str) else inV (V.str x) (ps.map V.str)) = decide (x ∈ ps) from inV_str x ps]
          exact ⟨a3, a4⟩
      · rintro H' ⟨eD, s⟩
        rw [List.length_map, List.take_length] at eD
        have e2 : (xs.map fun x => V.bl (decide (x ∈ ps))) = (xs.map fun x => decide (x ∈ ps)).map V.bl := by rw [List.map_map]; rfl
        rw [e2] at eD
        refine ⟨D, _, rfl, SqL.of eD, ?_⟩
        have e3 : ((xs.map fun x => decide (x ∈ ps)).all id) = amongB xs ps := by
          unfold amongB
          rw [decide_eq_true hn, List.all_map]
          rfl
        rw [e3]
        exact q H' s
    · have hn : ¬ xs.Nodup := fun z => hn (decide_eq_true z)
      have e3 : amongB xs ps = false := by
        unfold amongB
        rw [decide_eq_false hn]
        rfl
      have z := q H (Same.refl H)
      rw [e3] at z
      exact z
theorem scPeople : FnScope ["words", "names", "name"] ["words"] (defScope sPeople) := ⟨rfl, rfl, rfl, by decide +kernel, rfl, by decide +kernel, by decide +kernel⟩
theorem ok_people {fU fN : Addr} {fdU fdN : FuncData} (F : FnP K "is_people_line" sPeople f fd) (B : Blt mg) (FU : FnP K "are_unlike" sUnlike fU fdU) (gU : mg "are_unlike" = some (.ref fU)) (FN : FnP K "is_name" sIsName fN fdN) (gN : mg "is_name" = some (.ref fN)) :
    FnOk P w K mg base CX0 2 f fd ["words"] (spPeople K) := by
  have GU : FnOk P w K mg base CX0 1 fU fdU ["names"] (spUnlike K) := ok_unlike FU B
  have bU : Binds K fdU ["names"] [] := FU.bindsN fun _ _ _ _ _ _ us hl => match us, hl with | [_], _ => rfl
  have GN : FnOk P w K mg base CX0 1 fN fdN ["word"] spIsName := ok_isName FN B
  have bN : Binds K fdN ["word"] [] := FN.bindsN fun _ _ _ _ _ _ us hl => match us, hl with | [_], _ => rfl
  refine F.ok scPeople (fun vs H Q E h => ?_) (fun cdv A outer s H vs Q E hr h => ?_)
  · obtain ⟨l, ws, rfl, _⟩ := h
    rfl
  · obtain ⟨l, ws, rfl, hS, h0, hl, hw, q⟩ := h
    obtain ⟨t2, g2⟩ := B.mPeople
    refine ⟨_, PSs.nox (pss_cons (ps_set (i := 1) scPeople.nd rfl (Or.inl rfl) (pe_slice sl_list (pv 0) (po_some pe_int) po_none))
      (pss_cons (ps_if (PW.pt (pw_or (pt_cmpR op_ne (pe_ix ix_list (pv 0) pe_int (fun _ _ => rfl)) pe_str (nomark _)) (pw_or1 (pt_not (pt_chain op_le op_le pe_int (pe_callB call_len_seq (by rfl) B.len PySem.boot_len (pa_cons (pv 1) pa_nil)) (pe_glob (v := .int 9) rfl g2 ⟨_, rfl⟩))))))
        (pss_one (ps_ret pe_bl)) pss_nil)
      (pss_one (ps_ret (pe_and (pe_call GU hr rfl gU FU.kp bU .nil pass0 (pa_cons (pv 1) pa_nil))
        (pe_one (pe_callB (cr_all rfl) (by rfl) B.all boot_all (pa_cons (pe_lc (own := [("name", 2)]) (g := gName 2) (tt := tYes) rfl scPeople.nd (pi_list (pv 1)) (blkOk_by (N := ["words", "names", "name"]) (sc := defScope sPeople) (by decide +kernel))
          (fun _ _ _ _ _ => pg_name (i := 2) scPeople.nd rfl (Or.inl rfl)) (fun _ _ _ _ _ => pts_nil) (fun _ _ _ _ _ => pe_call GN hr rfl gN FN.kp bN .nil pass0 (pa_cons (pv 2) pa_nil))) pa_nil)))))))), ?_⟩
    refine ⟨_, rfl, _, rfl, l, _, rfl, hS, fun n hn => ?_⟩
    have sN := same_new (o := .lst (cutV (ws.map V.str) (some 1) none)) hn
    obtain ⟨w0, hw0⟩ : ∃ w0, ws[0]? = some w0 := ⟨ws[0], List.getElem?_eq_getElem h0⟩
    have eN : (L2.upd H n (.lst (cutV (ws.map V.str) (some 1) none))) n = some (.lst ((ws.drop 1).map V.str)) := by rw [upd_same, cut1]
    have bad : peopleB ws = false → Q (.bl false) (L2.upd H n (.lst (cutV (ws.map V.str) (some 1) none))) := fun z => by
      have z2 := q _ sN
      rw [z] at z2
      exact z2
    refine ⟨_, rfl, l, _, _, V.str w0, rfl, rfl, sN.seq hS, atI_nat (by rw [List.getElem?_map, hw0]; rfl), rfl, _, rfl, ?_⟩
    by_cases e0 : w0 = "people"
    · rw [e0, decide_eq_true rfl]
      refine iteF ⟨_, rfl, n, _, rfl, .inl (SqL.of eN), _, _, rfl, rfl, _, rfl, ite2 (fun h1 => ?_) (fun h1 => ?_)⟩
      · have h1 := of_decide_eq_true h1
        refine ⟨_, _, rfl, rfl, _, rfl, ?_⟩
        by_cases h9 : (((ws.drop 1).map V.str).length : Int) ≤ 9
        · rw [decide_eq_true h9]
          rw [List.length_map] at h1 h9
          have hlN : (ws.drop 1).length ≤ 1000 := by omega
          refine iteF ⟨_, rfl, n, ws.drop 1, rfl, SqL.of eN, hlN, _, rfl, ite2 (fun hu => ?_) (fun hu => ?_)⟩
          · have hu := of_decide_eq_true hu
            refine ⟨_, rfl, n, rfl, ⟨_, SqL.of eN⟩, fun D nD => lc_list (xs := (ws.drop 1).map V.str) (fun k H' => H' D = some (.lst (((ws.drop 1).take k).map fun x => V.bl (nameB x))) ∧ Same (L2.upd H n (.lst (cutV (ws.map V.str) (some 1) none))) H')
              ⟨by rw [upd_same]; rfl, same_new nD⟩ (fun k H' _ z => SqL.of (z.2 _ _ eN)) ?_ ?_⟩
            · rintro k y H' hy ⟨eD, s⟩
              rw [List.getElem?_map] at hy
              obtain ⟨x, hx, rfl⟩ := Option.map_eq_some_iff.mp hy
              refine ⟨rfl, _, rfl, x, rfl, hw x (List.mem_of_mem_drop (List.mem_of_getElem? hx)), fun H2 s2 => ?_⟩
              exact lcStep (f := fun x => V.bl (nameB x)) eD hx s nD s2 (by omega)
            · rintro H' ⟨eD, s⟩
              rw [List.length_map, List.take_length] at eD
              have e2 : ((ws.drop 1).map fun x => V.bl (nameB x)) = ((ws.drop 1).map nameB).map V.bl := by rw [List.map_map]; rfl
              rw [e2] at eD
              refine ⟨D, _, rfl, SqL.of eD, ?_⟩
              have e3 : (((ws.drop 1).map nameB).all id) = peopleB ws := by
                unfold peopleB headIs
                rw [decide_eq_true (show ws[0]? = some ("people" : Str) by rw [hw0, e0]), decide_eq_true (show 1 ≤ (ws.drop 1).length by omega), decide_eq_true (show (ws.drop 1).length ≤ 9 by omega), decide_eq_true hu, List.all_map]
                rfl
              rw [e3]
              exact q H' (sN.trans s)
          · have hu : ¬ (ws.drop 1).Nodup := fun z => hu (decide_eq_true z)
            refine bad ?_
            unfold peopleB
            rw [decide_eq_false hu]
            simp
        · rw [decide_eq_false h9]
          refine iteT (bad ?_)
          rw [List.length_map] at h9
          unfold peopleB
          rw [decide_eq_false (show ¬ (ws.drop 1).length ≤ 9 by omega)]
          simp
      · have h1 : ¬ (1 : Int) ≤ (((ws.drop 1).map V.str).length : Int) := fun z => h1 (decide_eq_true z)
        refine ⟨_, rfl, iteT (bad ?_)⟩
        rw [List.length_map] at h1
        unfold peopleB
        rw [decide_eq_false (show ¬ 1 ≤ (ws.drop 1).length by omega)]
        simp
    · have e0' : decide (V.str w0 = V.str "people") = false := decide_eq_false fun z => e0 (V.str.inj z)
      rw [e0']
      refine iteT (bad ?_)
      unfold peopleB headIs
      rw [decide_eq_false (show ¬ ws[0]? = some ("people" : Str) by rw [hw0]; exact fun z => e0 (Option.some.inj z))]
      rfl
theorem scMet : FnScope ["words", "people", "names"] ["words", "people"] (defScope sMet) := ⟨rfl, rfl, rfl, by decide +kernel, rfl, by decide +kernel, by decide +kernel⟩
theorem seqT_same {H H' : Hp} {p : Addr} {xs : List V} (s : Same H H') (h : SqT K H p xs) : SqT K H' p xs := by
  rcases h with (h | ⟨o, h⟩) | h
  · exact .inl (.inl (s _ _ h))
  · exact .inl (.inr ⟨o, s _ _ h⟩)
  · exact .inr h
theorem ok_met {fU fA : Addr} {fdU fdA : FuncData} (F : FnP K "is_met_line" sMet f fd) (B : Blt mg) (FU : FnP K "are_unlike" sUnlike fU fdU) (gU : mg "are_unlike" = some (.ref fU)) (FA : FnP K "are_among" sAmong fA fdA) (gA : mg "are_among" = some (.ref fA)) :
    FnOk P w K mg base CX0 3 f fd ["words", "people"] (spMet K) := by
  have GA : FnOk P w K mg base CX0 2 fA fdA ["names", "people"] (spAmong K) := ok_among FA B FU gU
  have bA : Binds K fdA ["names", "people"] [] := FA.bindsN fun _ _ _ _ _ _ us hl => match us, hl with | [_, _], _ => rfl
  refine F.ok scMet (fun vs H Q E h => ?_) (fun cdv A outer s H vs Q E hr h => ?_)
  · obtain ⟨l, p, ws, ps, rfl, _⟩ := h
    rfl
  · obtain ⟨l, p, ws, ps, rfl, hS, h0, hl, hT, q⟩ := h
    refine ⟨_, PSs.nox (pss_cons (ps_set (i := 2) scMet.nd rfl (Or.inl rfl) (pe_slice sl_list (pv 0) (po_some pe_int) po_none))
      (pss_one (ps_ret (pe_and (pe_cmpR op_eq (pe_ix ix_list (pv 0) pe_int (fun _ _ => rfl)) pe_str (nomark _))
        (pe_and (pe_cmpR op_ge (pe_callB call_len_seq (by rfl) B.len PySem.boot_len (pa_cons (pv 2) pa_nil)) pe_int (nomark _))
        (pe_one (pe_call GA hr rfl gA FA.kp bA .nil pass0 (pa_cons (pv 2) (pa_cons (pv 1) pa_nil))))))))), ?_⟩
    refine ⟨_, rfl, _, rfl, l, _, rfl, hS, fun n hn => ?_⟩
    have sN := same_new (o := .lst (cutV (ws.map V.str) (some 1) none)) hn
    obtain ⟨w0, hw0⟩ : ∃ w0, ws[0]? = some w0 := ⟨ws[0], List.getElem?_eq_getElem h0⟩
    have eN : (L2.upd H n (.lst (cutV (ws.map V.str) (some 1) none))) n = some (.lst ((ws.drop 1).map V.str)) := by rw [upd_same, cut1]
    have bad : metB ws ps = false → Q (.bl false) (L2.upd H n (.lst (cutV (ws.map V.str) (some 1) none))) := fun z => by
      have z2 := q _ sN
      rw [z] at z2
      exact z2
    refine ⟨_, rfl, l, _, _, V.str w0, rfl, rfl, sN.seq hS, atI_nat (by rw [List.getElem?_map, hw0]; rfl), rfl, _, rfl, ?_⟩
    by_cases e0 : w0 = "met"
    · rw [e0, decide_eq_true rfl]
      refine iteT ⟨_, rfl, n, _, rfl, .inl (SqL.of eN), _, _, rfl, rfl, _, rfl, ite2 (fun h2 => ?_) (fun h2 => ?_)⟩
      · have h2 := of_decide_eq_true h2
        rw [List.length_map] at h2
        have hlN : (ws.drop 1).length ≤ 1000 := by
          rw [List.length_drop]
          omega
        refine ⟨_, rfl, _, rfl, n, p, ws.drop 1, ps, rfl, SqL.of eN, hlN, seqT_same sN hT, fun H' s' => ?_⟩
        have e3 : amongB (ws.drop 1) ps = metB ws ps := by
          unfold metB headIs
          rw [decide_eq_true (show ws[0]? = some ("met" : Str) by rw [hw0, e0]), decide_eq_true (show 2 ≤ (ws.drop 1).length by omega)]
          rfl
        rw [e3]
        exact q H' (sN.trans s')
      · have h2 : ¬ (2 : Int) ≤ (((ws.drop 1).map V.str).length : Int) := fun z => h2 (decide_eq_true z)
        rw [List.length_map] at h2
        refine bad ?_
        unfold metB
        rw [decide_eq_false (show ¬ 2 ≤ (ws.drop 1).length by omega)]
        simp
    · have e0' : decide (V.str w0 = V.str "met") = false := decide_eq_false fun z => e0 (V.str.inj z)
      rw [e0']
      refine iteF (bad ?_)
      unfold metB headIs
      rw [decide_eq_false (show ¬ ws[0]? = some ("met" : Str) by rw [hw0]; exact fun z => e0 (Option.some.inj z))]
      rfl
theorem scOpen : FnScope ["words", "people", "told", "names"] ["words", "people", "told"] (defScope sOpen) := ⟨rfl, rfl, rfl, by decide +kernel, rfl, by decide +kernel, by decide +kernel⟩
theorem ok_open {fU fA : Addr} {fdU fdA : FuncData} (F : FnP K "is_open_line" sOpen f fd) (B : Blt mg) (FU : FnP K "are_unlike" sUnlike fU fdU) (gU : mg "are_unlike" = some (.ref fU)) (FA : FnP K "are_among" sAmong fA fdA) (gA : mg "are_among" = some (.ref fA)) :
    FnOk P w K mg base CX0 3 f fd ["words", "people", "told"] (spOpen K) := by
  have GA : FnOk P w K mg base CX0 2 fA fdA ["names", "people"] (spAmong K) := ok_among FA B FU gU
  have bA : Binds K fdA ["names", "people"] [] := FA.bindsN fun _ _ _ _ _ _ us hl => match us, hl with | [_, _], _ => rfl
  refine F.ok scOpen (fun vs H Q E h => ?_) (fun cdv A outer s H vs Q E hr h => ?_)
  · obtain ⟨l, p, d, ws, ps, T, rfl, _⟩ := h
    rfl
  · obtain ⟨l, p, d, ws, ps, T, rfl, hS, h0, hl, hT, hd, q⟩ := h
    have hu := hr.units
    refine ⟨_, PSs.nox (pss_cons (ps_set (i := 3) scOpen.nd rfl (Or.inl rfl) (pe_slice sl_list (pv 0) (po_some pe_int) po_none))
      (pss_one (ps_ret (pe_and (pe_cmpR op_eq (pe_ix ix_list (pv 0) pe_int (fun _ _ => rfl)) pe_str (nomark _))
        (pe_and (pe_cmpR op_eq (pe_callB call_len_seq (by rfl) B.len PySem.boot_len (pa_cons (pv 3) pa_nil)) pe_int (nomark _))
        (pe_and (pe_call GA hr rfl gA FA.kp bA .nil pass0 (pa_cons (pv 3) (pa_cons (pv 1) pa_nil)))
        (pe_one (pe_cmp (pc_dnotin (hu_of hr) (pe_callTy call_tuple_of (by rfl) B.tup boot_tuple (pa_cons (pv 3) pa_nil)) (pv 2)) rfl)))))))), ?_⟩
    refine ⟨_, rfl, _, rfl, l, _, rfl, hS, fun n hn => ?_⟩
    have sN := same_new (o := .lst (cutV (ws.map V.str) (some 1) none)) hn
    obtain ⟨w0, hw0⟩ : ∃ w0, ws[0]? = some w0 := ⟨ws[0], List.getElem?_eq_getElem h0⟩
    have eN : (L2.upd H n (.lst (cutV (ws.map V.str) (some 1) none))) n = some (.lst ((ws.drop 1).map V.str)) := by rw [upd_same, cut1]
    have bad : openB ws ps T = false → ∀ H', Same H H' → Q (.bl false) H' := fun z H' s' => by
      have z2 := q H' s'
      rw [z] at z2
      exact z2
    refine ⟨_, rfl, l, _, _, V.str w0, rfl, rfl, sN.seq hS, atI_nat (by rw [List.getElem?_map, hw0]; rfl), rfl, _, rfl, ?_⟩
    by_cases e0 : w0 = "open"
    · rw [e0, decide_eq_true rfl]
      refine iteT ⟨_, rfl, n, _, rfl, .inl (SqL.of eN), rfl, _, rfl, ite2 (fun h2 => ?_) (fun h2 => ?_)⟩
      · have h2 : (ws.drop 1).length = 2 := by
          have z := V.int.inj (of_decide_eq_true h2)
          rw [List.length_map] at z
          omega
        refine ⟨_, rfl, _, rfl, n, p, ws.drop 1, ps, rfl, SqL.of eN, by omega, seqT_same sN hT, fun H' s' => ⟨_, rfl, ite2 (fun ha => ?_) (fun ha => ?_)⟩⟩
        · refine ⟨_, rfl, n, (ws.drop 1).map V.str, rfl, .inl ⟨SqL.of (s' _ _ eN), fun t ht => ?_⟩⟩
          have s2 := (sN.trans s').trans (same_new (o := .tup ((ws.drop 1).map V.str)) ht)
          have ek : ((ws.drop 1).map V.str) = (keyT (ws.drop 1)).map kV := by
            unfold keyT
            rw [List.map_map]
            rfl
          refine ⟨_, rfl, d, _, rfl, DGet.t (k := keyT (ws.drop 1)) (s2 _ _ hd) (by rw [upd_same, ek]), ?_⟩
          have e3 : (!(valV T (keyT (ws.drop 1))).isSome) = openB ws ps T := by
            unfold openB headIs
            rw [decide_eq_true (show ws[0]? = some ("open" : Str) by rw [hw0, e0]), decide_eq_true h2, ha]
            cases valV T (keyT (ws.drop 1)) <;> rfl
          rw [e3]
          exact q _ s2
        · have ha : amongB (ws.drop 1) ps = false := by
            cases z : amongB (ws.drop 1) ps with
            | true => exact absurd z ha
            | false => rfl
          refine bad ?_ _ (sN.trans s')
          unfold openB
          rw [ha]
          simp
      · have h2 : ¬ (ws.drop 1).length = 2 := fun z => h2 (decide_eq_true (by rw [List.length_map, z]; rfl))
        refine bad ?_ _ sN
        unfold openB
        rw [decide_eq_false h2]
        simp
    · have e0' : decide (V.str w0 = V.str "open") = false := decide_eq_false fun z => e0 (V.str.inj z)
      rw [e0']
      refine iteF (bad ?_ _ sN)
      unfold openB headIs
      rw [decide_eq_false (show ¬ ws[0]? = some ("open" : Str) by rw [hw0]; exact fun z => e0 (Option.some.inj z))]
      rfl
end
end K14

set_option Elab.async false
set_option linter.all false
set_option maxRecDepth 100000
set_option maxHeartbeats 4000000
namespace K14
open PySem PySem.Spec PySem.W PySem.Calls PyProof.Rows L2 MX
/-- what the class must keep -/
structure HallC (K : PySem.W.Frag) (C fT fK : Addr) : Prop where
  cls : Cls K C
  nText : NoAttr K C "text"
  nPeople : NoAttr K C "people"
  nOpens : NoAttr K C "opens"
  nTold : NoAttr K C "_told"
  mTell : Meth K C "_tell" fT
  mTakes : Meth K C "_takes" fK
abbrev FnM (K : PySem.W.Frag) (x q : Str) (st : Stmt) (f : Addr) (fd : FuncData) : Prop := FunD K x q (defArgs st) (defBody st) (defScope st) [] [] f fd
section
variable {P : Program} {w : World} {K : PySem.W.Frag} {mg : Str → Option Value} {base : Heap} {f C fT fK : Addr} {fd : FuncData}
theorem scTell : FnScope ["self", "names", "word", "one", "other"] ["self", "names", "word"] (defScope sTell) := ⟨rfl, rfl, rfl, by decide +kernel, rfl, by decide +kernel, by decide +kernel⟩
theorem ok_tell (F : FnM K "_tell" "Hall._tell" sTell f fd) (Z : HallC K C fT fK) : FnOk P w K mg base CX0 1 f fd ["self", "names", "word"] (spTell K C) := by
  refine F.ok scTell (fun vs H Q E h => ?_) (fun cdv A outer s H vs Q E hr h => ?_)
  · obtain ⟨p, l, d, ns, wd, T, rfl, _⟩ := h
    rfl
  · obtain ⟨p, l, d, ns, wd, T, rfl, hT, hL, hl, q⟩ := h
    have hu := hu_of hr
    refine ⟨_, PSs.nox (pss_one (ps_for PassesOwn.never rfl (pi_list (pv 1)) (pg_name (i := 3) scTell.nd rfl (Or.inl rfl))
      (pss_one (ps_for PassesOwn.never rfl (pi_list (pv 1)) (pg_name (i := 4) scTell.nd rfl (Or.inl rfl))
        (pss_one (ps_if (pt_cmpR op_ne (pv 3) (pv 4) (nomark _))
          (pss_one (ps_dput hu (pe_fld (pv 0) (by rfl)) (pe_tup (pa_cons (pv 3) (pa_cons (pv 4) pa_nil))) (pv 2) (by rfl))) pss_nil)))))), ?_⟩
    have hLL : ∀ H', But [d] H H' → SqL K H' l (ns.map V.str) := fun H' s => s.seqL hL (nrd_t hT.t (fun _ z => by cases z) (fun _ _ z => by cases z))
    refine ⟨_, rfl, l, rfl, ⟨_, hL⟩, for_list (xs := ns.map V.str) (fun i σ H' => (∃ u1 u2, σ = [some (.ref p), some (.ref l), some (.str wd), u1, u2]) ∧ But [d] H H' ∧ H' d = some (.dT (tellA ns (ns.take i) wd T))) ⟨⟨_, _, rfl⟩, But.refl, hT.t⟩ (fun i σ H' _ z => hLL H' z.2.1) ?_ ?_⟩
    · rintro i y σ H1 hy ⟨⟨u1, u2, rfl⟩, s1, e1⟩
      rw [List.getElem?_map] at hy
      obtain ⟨x, hx, rfl⟩ := Option.map_eq_some_iff.mp hy
      refine ⟨_, rfl, l, rfl, ⟨_, hLL H1 s1⟩, for_list (xs := ns.map V.str) (fun j σ H' => (∃ u2, σ = [some (.ref p), some (.ref l), some (.str wd), some (.str x), u2]) ∧ But [d] H H' ∧ H' d = some (.dT (tellR x wd (ns.take j) (tellA ns (ns.take i) wd T)))) ⟨⟨_, rfl⟩, s1, e1⟩ (fun j σ H' _ z => hLL H' z.2.1) ?_ ?_⟩
      · rintro j y σ H2 hy ⟨⟨u2, rfl⟩, s2, e2⟩
        rw [List.getElem?_map] at hy
        obtain ⟨z, hz, rfl⟩ := Option.map_eq_some_iff.mp hy
        have L2' := tellR_len (x := x) (w := wd) (ns.take j) (tellA ns (ns.take i) wd T)
        have hi : i < ns.length := by
          by_cases c : i < ns.length
          · exact c
          · rw [List.getElem?_eq_none (by omega)] at hx; cases hx
        have hj : j < ns.length := by
          by_cases c : j < ns.length
          · exact c
          · rw [List.getElem?_eq_none (by omega)] at hz; cases hz
        have L1' := tellA_len (w := wd) (ys := ns) (ns.take i) T
        rw [List.length_take, Nat.min_eq_left (by omega)] at L1' L2'
        have L3 : i * ns.length + ns.length ≤ ns.length * ns.length := by
          rw [← Nat.succ_mul]
          exact Nat.mul_le_mul_right _ hi
        have eS : tellR x wd (ns.take (j + 1)) (tellA ns (ns.take i) wd T) = tell1 x z wd (tellR x wd (ns.take j) (tellA ns (ns.take i) wd T)) := by rw [take_snocE hz, tellR_snoc]
        refine ⟨_, rfl, _, rfl, rfl, ?_⟩
        by_cases h : x = z
        · subst h
          rw [show (!decide (V.str x = V.str x)) = false by simp]
          refine ⟨_, rfl, iteF ⟨⟨_, rfl⟩, s2, ?_⟩⟩
          rw [eS, e2]
          unfold tell1
          rw [if_pos rfl]
        · rw [show (!decide (V.str x = V.str z)) = true by simpa using h]
          obtain ⟨dx, fs, o1, o2⟩ := (hT.on s2 e2).ex
          refine ⟨_, rfl, iteT ⟨_, rfl, _, rfl, p, C, dx, fs, _, rfl, o1, Z.cls, Z.nTold, o2, _, rfl, _, rfl, (by rw [sizeLine_eq]; show 2 ≤ _; omega), fun t ht => ?_⟩⟩
          have e2' : (L2.upd H2 t (.tup [V.str x, V.str z])) d = some (.dT (tellR x wd (ns.take j) (tellA ns (ns.take i) wd T))) := by
            rw [upd_ne (ne_of_none e2 ht)]
            exact e2
          refine ⟨d, _, rfl, DPut.t (k := [Sum.inr x, Sum.inr z]) e2' upd_same (by rw [sizeLine_eq]; omega), ⟨_, rfl⟩, (s2.new ht).up (List.mem_singleton.mpr rfl), ?_⟩
          rw [upd_same, eS]
          unfold tell1
          rw [if_neg h]
      · rintro σ H2 ⟨⟨u2, rfl⟩, s2, e2⟩
        refine ⟨⟨_, _, rfl⟩, s2, ?_⟩
        rw [e2, List.length_map, List.take_length, take_snocE hx, tellA_snoc]
    · rintro σ H1 ⟨_, s1, e1⟩
      rw [List.length_map, List.take_length] at e1
      exact q H1 s1 e1
theorem scTakes : FnScope ["self", "number", "words"] ["self", "number", "words"] (defScope sTakes) := ⟨rfl, rfl, rfl, by decide +kernel, rfl, by decide +kernel, by decide +kernel⟩
theorem ok_takes {fTe fM fO fU fA : Addr} {fdTe fdM fdO fdU fdA : FuncData} (F : FnM K "_takes" "Hall._takes" sTakes f fd) (Z : HallC K C fTe fK) (B : Blt mg) (FT : FnM K "_tell" "Hall._tell" sTell fTe fdTe)
    (FM : FnP K "is_met_line" sMet fM fdM) (gM : mg "is_met_line" = some (.ref fM)) (FO : FnP K "is_open_line" sOpen fO fdO) (gO : mg "is_open_line" = some (.ref fO))
    (FU : FnP K "are_unlike" sUnlike fU fdU) (gU : mg "are_unlike" = some (.ref fU)) (FA : FnP K "are_among" sAmong fA fdA) (gA : mg "are_among" = some (.ref fA)) :
    FnOk P w K mg base CX0 4 f fd ["self", "number", "words"] (spTakes K C) := by
  have GT : FnOk P w K mg base CX0 1 fTe fdTe ["self", "names", "word"] (spTell K C) := ok_tell FT Z
  have bT : Binds K fdTe ["self", "names", "word"] [] := FT.bindsN fun _ _ _ _ _ _ us hl => match us, hl with | [_, _, _], _ => rfl
  have GM : FnOk P w K mg base CX0 3 fM fdM ["words", "people"] (spMet K) := ok_met FM B FU gU FA gA
  have bM : Binds K fdM ["words", "people"] [] := FM.bindsN fun _ _ _ _ _ _ us hl => match us, hl with | [_, _], _ => rfl
  have GO : FnOk P w K mg base CX0 3 fO fdO ["words", "people", "told"] (spOpen K) := ok_open FO B FU gU FA gA
  have bO : Binds K fdO ["words", "people", "told"] [] := FO.bindsN fun _ _ _ _ _ _ us hl => match us, hl with | [_, _, _], _ => rfl
  obtain ⟨t3, gMet⟩ := B.mMet
  obtain ⟨t4, gOpen⟩ := B.mOpen
  refine F.ok scTakes (fun vs H Q E h => ?_) (fun cdv A outer s H vs Q E hr h => ?_)
  · obtain ⟨p, l, pp, o, d, n, x, ws, ps, ops, T, rfl, _⟩ := h
    rfl
  · obtain ⟨p, l, pp, o, d, n, x, ws, ps, ops, T, rfl, hA, hL, h0, hl, hps, hlo, hlT, qN, qS⟩ := h
    have hu := hr.units
    have hr1 := hr.mono (show 1 ≤ 3 by decide)
    obtain ⟨dx, e0⟩ := hA.ex
    have hlen : T.length + (ws.drop 1).length * (ws.drop 1).length ≤ 10000000 := by
      have z : (ws.drop 1).length ≤ 100 := by rw [List.length_drop]; omega
      have z2 := Nat.mul_le_mul z z
      omega
    have hcut : cutV (ws.map V.str) (some 1) none = (ws.drop 1).map V.str := cut1 ws
    obtain ⟨t2, h2, k2⟩ : ∃ t2, PSs (cxOf CX0 P w K mg base ["self", "number", "words"] "Hall._takes" (defScope sTakes) f cdv A outer s H E).nox ((defBody sTakes).drop 1) t2 ∧
        ∀ H1, Same H H1 → ¬ (decide (n ≤ 21) && (decide (ops.length = 0) && metB ws ps)) = true → t2 { nx := fun _ H' => Q .non H', rt := Q } (start ["self", "number", "words"] [.ref p, .int (n : Int), .ref l]) H1 := by
      refine ⟨_, pss_cons (ps_if (PW.pt (pw_and (pt_cmpR op_lt (pe_callB call_len_seq (by rfl) B.len PySem.boot_len (pa_cons (pe_fld (pv 0) (by rfl)) pa_nil)) (pe_glob (v := .int 4) rfl gOpen ⟨_, rfl⟩) (nomark _))
        (pw_and1 (pt_val (pe_call GO hr rfl gO FO.kp bO .nil pass0 (pa_cons (pv 2) (pa_cons (pe_fld (pv 0) (by rfl)) (pa_cons (pe_fld (pv 0) (by rfl)) pa_nil))))))))
        (pss_cons (ps_expr (pe_meth (pv 0) Z.cls Z.mTell GT hr1 bT .nil pass0 (pa_cons (pe_slice sl_list (pv 2) (po_some pe_int) po_none) (pa_cons pe_str pa_nil))))
          (pss_cons (ps_fld (pv 0) (pe_tup (StX.pa_star (pe_fld (pv 0) (by rfl)) (pa_cons (pe_callTy call_tuple_of (by rfl) B.tup boot_tuple (pa_cons (pe_slice sl_list (pv 2) (po_some pe_int) po_none) pa_nil)) pa_nil))) (by rfl))
          (pss_one (ps_ret pe_bl)))) pss_nil)
        (pss_one (ps_ret pe_bl)), fun H1 s1 hn => ?_⟩
      have A1 := hA.same s1
      obtain ⟨dx1, e1⟩ := A1.ex
      obtain ⟨qs, eo, lo, fo⟩ := id A1.op
      have hn2 : (decide (n ≤ 21) && (decide (ops.length = 0) && metB ws ps)) = false := by simpa using hn
      refine ⟨_, rfl, p, C, dx1, _, _, rfl, e1, Z.cls, Z.nOpens, rfl, o, _, rfl, .inr (SqT.of eo), _, _, rfl, rfl, _, rfl, ite2 (fun h4 => ?_) (fun h4 => ?_)⟩
      · have h4 := of_decide_eq_true h4
        rw [List.length_map] at h4
        refine ⟨_, rfl, _, rfl, p, C, dx1, _, _, rfl, e1, Z.cls, Z.nPeople, rfl, _, rfl, p, C, dx1, _, _, rfl, e1, Z.cls, Z.nTold, rfl, l, pp, d, ws, ps, T, rfl, s1.seq hL, h0, by omega, SqT.of A1.pe, A1.t, fun H2 s2 => ?_⟩
        have s12 := s1.trans s2
        refine ⟨_, rfl, ite2 (fun ho => ?_) (fun ho => ?_)⟩
        · have A2 := hA.same s12
          obtain ⟨dx2, e2⟩ := A2.ex
          refine ⟨_, rfl, p, dx2, _, rfl, e2, rfl, _, rfl, _, rfl, l, _, rfl, s12.seq hL, fun n1 hn1 => ?_⟩
          have s3 := s12.trans (same_new (o := .lst (cutV (ws.map V.str) (some 1) none)) hn1)
          refine ⟨p, n1, d, ws.drop 1, "open", T, rfl, (hA.same s3).told, SqL.of (by rw [upd_same, hcut]), hlen, fun H4 b4 e4 => ?_⟩
          have A4 := (hA.same s3).on b4 e4
          obtain ⟨dx4, e4p⟩ := A4.ex
          obtain ⟨qs4, eo4, lo4, fo4⟩ := id A4.op
          have hL4 : SqL K H4 l (ws.map V.str) := b4.seqL (s3.seq hL) (nrd_t ((hA.same s3).t) (fun _ z => by cases z) (fun _ _ z => by cases z))
          refine ⟨_, rfl, p, C, dx4, _, _, rfl, e4p, Z.cls, Z.nOpens, rfl, o, _, rfl, .inl (SqT.of eo4), _, rfl, _, rfl, l, _, rfl, hL4, fun n5 hn5 => ?_⟩
          have s5 := same_new (o := .lst (cutV (ws.map V.str) (some 1) none)) hn5
          refine ⟨n5, _, rfl, .inl ⟨SqL.of upd_same, fun q hq => ?_⟩⟩
          have s6 := s5.trans (same_new (o := .tup (cutV (ws.map V.str) (some 1) none)) hq)
          refine ⟨?_, fun o' ho' => ?_⟩
          · rw [sizeLine_eq]
            show (qs4.map V.ref ++ [V.ref q]).length ≤ _
            rw [List.length_append, List.length_map, lo4]
            show ops.length + 1 ≤ _
            omega
          have s7 := s6.trans (same_new (o := .tup (qs4.map V.ref ++ [V.ref q])) ho')
          have A7 := A4.same s7
          have hwo : ∀ y ∈ ws.drop 1, PyData.strOk y = true := by
            unfold openB at ho
            simp only [Bool.and_eq_true] at ho
            exact amongOk ho.2.2.1 hps
          have hO : OpsAt K (L2.upd (L2.upd (L2.upd H4 n5 (.lst (cutV (ws.map V.str) (some 1) none))) q (.tup (cutV (ws.map V.str) (some 1) none))) o' (.tup (qs4.map V.ref ++ [V.ref q]))) o' (ops ++ [ws.drop 1]) :=
            A4.op.snoc (q := q) s7 eo4 upd_same (by rw [← hcut]; exact (same_new ho') _ _ upd_same)
          refine ⟨_, rfl, p, C, dx4, _, rfl, s7 _ _ e4p, Z.cls, Z.nOpens, (show 4 < 1000 by decide), ?_⟩
          refine qS _ _ (by unfold MX.stepT; rw [hn2, if_neg (by simp), if_pos (by simp [show ops.length < 4 by omega, ho])]) _ o' ?_ (A7.opened hO (fun op hop => ?_) rfl)
          · have b7 : But [p, d] H (L2.upd (L2.upd (L2.upd H4 n5 (.lst (cutV (ws.map V.str) (some 1) none))) q (.tup (cutV (ws.map V.str) (some 1) none))) o' (.tup (qs4.map V.ref ++ [V.ref q]))) :=
              ((But.of s3).trans (b4.mono fun a ha => by rw [List.mem_singleton.mp ha]; simp)).trans (But.of s7)
            exact b7.up (by simp)
          · rcases List.mem_append.mp hop with hop | hop
            · exact hA.ok op hop
            · rw [List.mem_singleton.mp hop]
              exact hwo
        · refine qN ?_ H2 s12
          unfold MX.stepT
          rw [hn2, if_neg (by simp), if_neg (by simp [ho])]
      · refine qN ?_ H1 s1
        have h4 : ¬ ops.length < 4 := fun z => h4 (decide_eq_true (by rw [List.length_map]; omega))
        unfold MX.stepT
        rw [hn2, if_neg (by simp), if_neg (by simp [h4])]
    refine ⟨_, PSs.nox (pss_cons (ps_if (PW.pt (pw_and (pt_cmpR op_le (pv 1) (pe_op op_add pe_int (pe_glob (v := .int 20) rfl gMet ⟨_, rfl⟩)) (nomark _))
        (pw_and (pt_cmpR (op_eqD hu) (pe_fld (pv 0) (by rfl)) (pe_tup pa_nil) (nomark _))
        (pw_and1 (pt_val (pe_call GM hr rfl gM FM.kp bM .nil pass0 (pa_cons (pv 2) (pa_cons (pe_fld (pv 0) (by rfl)) pa_nil))))))))
        (pss_cons (ps_expr (pe_meth (pv 0) Z.cls Z.mTell GT hr1 bT .nil pass0 (pa_cons (pe_slice sl_list (pv 2) (po_some pe_int) po_none) (pa_cons pe_str pa_nil))))
          (pss_one (ps_ret pe_bl))) pss_nil) h2), ?_⟩
    refine ⟨_, rfl, _, _, rfl, rfl, _, _, rfl, rfl, _, rfl, ite2 (fun hn => ?_) (fun hn => ?_)⟩
    · have hn : n ≤ 21 := by have := of_decide_eq_true hn; omega
      refine ⟨_, rfl, p, C, dx, _, _, rfl, e0, Z.cls, Z.nOpens, rfl, Nat.zero_le _, fun t0 ht0 => ?_⟩
      have s0 := same_new (o := .tup []) ht0
      have A0 := hA.same s0
      refine ⟨_, _, A0.op.dp, .tup (SqT.of upd_same) .nil, shOps hA.ok, (by decide +kernel), ?_⟩
      rw [eqv_nil, List.length_map]
      refine ⟨_, rfl, ite2 (fun hz => ?_) (fun hz => ?_)⟩
      · have hz := of_decide_eq_true hz
        obtain ⟨dx0, e00⟩ := A0.ex
        refine ⟨_, rfl, _, rfl, p, C, dx0, _, _, rfl, e00, Z.cls, Z.nPeople, rfl, l, pp, ws, ps, rfl, s0.seq hL, h0, by omega, SqT.of A0.pe, fun H1 s1 => ?_⟩
        have s01 := s0.trans s1
        refine ⟨_, rfl, ite2 (fun hm => ?_) (fun hm => ?_)⟩
        · have A1 := hA.same s01
          obtain ⟨dx1, e1⟩ := A1.ex
          refine ⟨_, rfl, p, dx1, _, rfl, e1, rfl, _, rfl, _, rfl, l, _, rfl, s01.seq hL, fun n1 hn1 => ?_⟩
          have s2 := s01.trans (same_new (o := .lst (cutV (ws.map V.str) (some 1) none)) hn1)
          refine ⟨p, n1, d, ws.drop 1, "met", T, rfl, (hA.same s2).told, SqL.of (by rw [upd_same, hcut]), hlen, fun H2 b2 e2 => ?_⟩
          refine qS _ _ (by unfold MX.stepT; rw [if_pos (by simp [hn, hz, hm])]) H2 o ((But.of s2).trans (b2.mono fun a ha => by rw [List.mem_singleton.mp ha]; simp)) ((hA.same s2).on b2 ?_)
          have hops : ops = [] := List.length_eq_zero_iff.mp hz
          exact e2
        · exact k2 H1 s01 (by simp [hm])
      · exact k2 _ s0 (by simp [of_decide_eq_false (by simpa using hz)])
    · exact k2 H (Same.refl H) (by simp [show ¬ n ≤ 21 from fun z => hn (decide_eq_true (by omega))])

end
end K14

set_option Elab.async false
set_option linter.all false
set_option maxRecDepth 100000
set_option maxHeartbeats 4000000
namespace K14
open PySem PySem.Spec PySem.W PySem.Calls PyProof.Rows L2 MX
section
variable {P : Program} {w : World} {K : PySem.W.Frag} {mg : Str → Option Value} {base : Heap} {f C fT fK : Addr} {fd : FuncData}
theorem scE : FnScope ["self", "value"] ["self", "value"] (defScope sErr) := ⟨rfl, rfl, rfl, by decide +kernel, rfl, by decide +kernel, by decide +kernel⟩
theorem ok_err (F : FnM K "__init__" "MeetError.__init__" sErr f fd) : FnOk P w K mg base CX0 1 f fd ["self", "value"] (spErr K) := by
  refine F.ok scE (fun vs H Q E h => ?_) (fun cdv A outer s H vs Q E hr h => ?_)
  · obtain ⟨a, C, fI, v, rfl, _⟩ := h; rfl
  · obtain ⟨a, C, fI, v, rfl, T, ea, k⟩ := h
    exact ⟨_, PSs.nox (pss_one (ps_ost (pv 0) (pv 1))), _, rfl, _, rfl, a, C, rfl, T.oex, T.nv, .inl ⟨ea, fun dx n ne => k dx n ne⟩⟩
theorem scInit : FnScope ["self", "text", "lines", "number", "words", "line"] ["self", "text"] (defScope sInit) := ⟨rfl, rfl, rfl, by decide +kernel, rfl, by decide +kernel, by decide +kernel⟩
/-- what the defs of halls find -/
structure HallF (K : PySem.W.Frag) (mg : Str → Option Value) (C cB fE fT fK fN fU fA fP fM fO : Addr) (fdE fdT fdK fdN fdU fdA fdP fdM fdO : FuncData) : Prop where
  B : Blt mg
  Z : HallC K C fT fK
  Er : FnM K "__init__" "MeetError.__init__" sErr fE fdE
  Te : FnM K "_tell" "Hall._tell" sTell fT fdT
  Ks : FnM K "_takes" "Hall._takes" sTakes fK fdK
  Na : FnP K "is_name" sIsName fN fdN
  Un : FnP K "are_unlike" sUnlike fU fdU
  Am : FnP K "are_among" sAmong fA fdA
  Pe : FnP K "is_people_line" sPeople fP fdP
  Me : FnP K "is_met_line" sMet fM fdM
  Op : FnP K "is_open_line" sOpen fO fdO
  gN : mg "is_name" = some (.ref fN)
  gU : mg "are_unlike" = some (.ref fU)
  gA : mg "are_among" = some (.ref fA)
  gP : mg "is_people_line" = some (.ref fP)
  gM : mg "is_met_line" = some (.ref fM)
  gO : mg "is_open_line" = some (.ref fO)
  gB : mg "BadHall" = some (.ref cB)
  tB : ExcT K cB fE
theorem ok_hall {cB fE fN fU fA fP fM fO : Addr} {fdE fdT fdK fdN fdU fdA fdP fdM fdO : FuncData} (F : FnM K "__init__" "Hall.__init__" sInit f fd) (G : HallF K mg C cB fE fT fK fN fU fA fP fM fO fdE fdT fdK fdN fdU fdA fdP fdM fdO) :
    FnOk P w K mg base (L2.CX P w) 5 f fd ["self", "text"] (spInit K C cB) := by
  obtain ⟨B, Z, FE, FT, FK, FN, FU, FA, FP, FM, FO, gN, gU, gA, gP, gM, gO, gB, tB⟩ := G
  have GE : FnOk P w K mg base CX0 1 fE fdE ["self", "value"] (spErr K) := ok_err FE
  have bE : Binds K fdE ["self", "value"] [] := FE.bindsN fun _ _ _ _ _ _ us hl => match us, hl with | [_, _], _ => rfl
  have GP : FnOk P w K mg base CX0 2 fP fdP ["words"] (spPeople K) := ok_people FP B FU gU FN gN
  have bP : Binds K fdP ["words"] [] := FP.bindsN fun _ _ _ _ _ _ us hl => match us, hl with | [_], _ => rfl
  have GK : FnOk P w K mg base CX0 4 fK fdK ["self", "number", "words"] (spTakes K C) := ok_takes FK Z B FT FM gM FO gO FU gU FA gA
  have bK : Binds K fdK ["self", "number", "words"] [] := FK.bindsN fun _ _ _ _ _ _ us hl => match us, hl with | [_, _, _], _ => rfl
  refine F.ok (CX := L2.CX P w) scInit (fun vs H Q E h => ?_) (fun cdv A outer s H vs Q E hr h => ?_)
  · obtain ⟨p, dx, vt, rfl, _⟩ := h
    rfl
  · obtain ⟨p, dx, vt, rfl, e0, hc⟩ := h
    have hr2 := hr.mono (show 2 ≤ 4 by decide)
    refine ⟨_, pss_cons (ps_if (pt_not (pt_val (pe_callB call_isi (by rfl) B.isi (by decide +kernel) (pa_cons (pv 1) (pa_cons (pe_bltn (v := .ty "str") (by rfl) B.str PyProof.Rows.Boot.«str» rfl) pa_nil)))))
        (pss_one (ps_raise rfl (takes_of rfl rfl rfl rfl) (pmk_oex tB.oex tB.ic tB.ti GE hr2 bE .nil pass0 (by rfl) gB (pa_cons pe_int pa_nil)))) pss_nil)
      (pss_cons (ps_setLc (i := 2) (own := [("line", 5)]) (g := gName 5) (tt := tYes) rfl scInit.nd rfl rfl (sw_true rfl rfl rfl (by decide +kernel)) (pi_list (pe_split (pv 1) pe_str)) (blkOk_by (N := ["self", "text", "lines", "number", "words", "line"]) (sc := defScope sInit) (by decide +kernel))
        (fun _ _ _ _ _ => pg_name (i := 5) scInit.nd rfl (Or.inl rfl)) (fun _ _ _ _ _ => pts_nil) (fun _ _ _ _ _ => pe_split (pv 5) pe_str))
      (pss_cons (ps_if (pt_not (pt_val (pe_call GP hr2 rfl gP FP.kp bP .nil pass0 (pa_cons (pe_ix ix_list (pv 2) pe_int (fun _ _ => rfl)) pa_nil))))
        (pss_one (ps_raise rfl (takes_of rfl rfl rfl rfl) (pmk_oex tB.oex tB.ic tB.ti GE hr2 bE .nil pass0 (by rfl) gB (pa_cons pe_int pa_nil)))) pss_nil)
      (pss_cons (ps_fld (pv 0) (pv 1) (by rfl))
      (pss_cons (ps_fld (pv 0) (pe_callTy call_tuple_of (by rfl) B.tup boot_tuple (pa_cons (pe_slice sl_list (pe_ix ix_list (pv 2) pe_int (fun _ _ => rfl)) (po_some pe_int) po_none) pa_nil)) (by rfl))
      (pss_cons (ps_fld (pv 0) (pe_tup pa_nil) (by rfl))
      (pss_cons (ps_fld (pv 0) pe_dnewT (by rfl))
      (pss_one (ps_for (passes_of rfl) rfl (pi_enumS (by rfl) B.enum (pa_cons (pe_slice sl_list (pv 2) (po_some pe_int) po_none) pa_nil) (pk_cons pe_int pk_nil)) (pg_tup rfl (pgs_cons (pg_name (i := 3) scInit.nd rfl (Or.inl rfl)) (pgs_cons (pg_name (i := 4) scInit.nd rfl (Or.inl rfl)) pgs_nil)))
        (pss_one (ps_if (pt_not (pt_val (pe_meth (pv 0) Z.cls Z.mTakes GK hr bK .nil pass0 (pa_cons (pv 3) (pa_cons (pv 4) pa_nil)))))
          (pss_one (ps_raise rfl (takes_of rfl rfl rfl rfl) (pmk_oex tB.oex tB.ic tB.ti GE hr2 bE .nil pass0 (by rfl) gB (pa_cons (pv 3) pa_nil)))) pss_nil)))))))))), ?_⟩
    rcases hc with ⟨t, ty, hk, ke⟩ | ⟨x, rfl, tx, kE, kO⟩
    · exact ⟨_, rfl, vt, _, t, _, false, rfl, .ty _, ty, hk, _, rfl, iteT (mkO_ok tB fun dd hdd => ke dd hdd)⟩
    · obtain ⟨w0, rest, hw⟩ : ∃ w0 rest, hallLines x = w0 :: rest := by
        have z := tx.one
        cases q : hallLines x with
        | nil => rw [q] at z; exact absurd z (Nat.lt_irrefl 0)
        | cons a b => exact ⟨a, b, rfl⟩
      have hpo : peopleOf x = w0.drop 1 := by unfold peopleOf; rw [hw]; rfl
      have hpar : parseH x = if peopleB w0 = true then runT (w0.drop 1) 2 rest ([], []) else .inl 1 := by unfold parseH; rw [hw]
      have hfew := tx.few
      rw [hw] at hfew
      have hw0 := tx.ws w0 (by rw [hw]; exact List.mem_cons_self)
      refine ⟨_, rfl, .str x, _, .type "str", _, true, rfl, .ty _, .base (.str x), rfl, _, rfl, iteF ?_⟩
      have hsl : (hallLines x).length = (Txt.split x "\n").length := by unfold hallLines; rw [List.length_map]
      refine ⟨_, rfl, ⟨_, rfl⟩, _, _, rfl, rfl, rfl, (by rw [sizeLine_eq]; have := tx.len; omega), fun l0 hl0 => ⟨l0, rfl, ⟨_, SqL.of upd_same⟩, fun D nD => lc_list (xs := (Txt.split x "\n").map V.str) (fun i H' => Same (L2.upd H l0 (.lst ((Txt.split x "\n").map V.str))) H' ∧ LinesAt H' D ((hallLines x).take i))
        ⟨same_new nD, LinesAt.nil upd_same⟩ (fun i H' _ z => SqL.of (z.1 _ _ upd_same)) ?_ ?_⟩⟩
      · rintro i y H' hy ⟨s1, hl1⟩
        rw [List.getElem?_map] at hy
        obtain ⟨ln, hx, rfl⟩ := Option.map_eq_some_iff.mp hy
        have hm : (hallLines x)[i]? = some (Txt.split ln " ") := by unfold hallLines; rw [List.getElem?_map, hx]; rfl
        obtain ⟨qs, eq1, lq, fq⟩ := id hl1
        refine ⟨rfl, _, rfl, ⟨_, rfl⟩, _, _, rfl, rfl, rfl, (by rw [sizeLine_eq]; have := tx.sh ln (List.mem_of_getElem? hx); omega), fun q hq => ⟨_, (same_new hq) _ _ eq1, ?_, ?_, ?_⟩⟩
        · rw [List.length_map, lq, List.length_take, sizeLine_eq]
          have := tx.few
          omega
        · intro b o hb
          have z := s1 b o hb
          have nb : b ≠ D := ne_of_none hb nD
          rw [upd_ne nb]
          exact (same_new hq) _ _ z
        · have nqD : q ≠ D := fun z => by rw [z, eq1] at hq; cases hq
          rw [take_snocE hm]
          exact hl1.snoc eq1 ((But.of (same_new hq)).up (List.mem_singleton.mpr rfl)) upd_same (by rw [upd_ne nqD, upd_same])
      · rintro H2 ⟨s2, hL⟩
        rw [List.length_map, ← hsl, List.take_length, hw] at hL
        have sH2 : Same H H2 := (same_new hl0).trans s2
        obtain ⟨qs, eD, lq, fq⟩ := id hL
        obtain ⟨q0, qr, rfl⟩ : ∃ q0 qr, qs = q0 :: qr := by
          cases qs with
          | nil => cases lq
          | cons a b => exact ⟨a, b, rfl⟩
        have f0 := fq 0 q0 w0 rfl rfl
        have bs0 : ∀ b o, H b = some o → b ≠ D := fun b o z => ne_of_none ((same_new hl0) b o z) nD
        refine ⟨_, rfl, D, _, _, V.ref q0, rfl, rfl, SqL.of eD, atI_nat (j := 0) (by rfl), q0, w0, rfl, SqL.of f0, hw0.1, (by have := hw0.2.1; omega), hw0.2.2, fun H3 s3 => ⟨_, rfl, ?_⟩⟩
        have sH3 := sH2.trans s3
        cases hp : peopleB w0 with
        | false =>
          rw [hp, if_neg (by simp)] at hpar
          exact iteT (mkO_ok tB fun dd hdd => kE 1 hpar H3 dd (But.of sH3) hdd)
        | true =>
          rw [hp, if_pos rfl] at hpar
          refine iteF ?_
          have e3 := sH3 _ _ e0
          have L3 : LinesAt H3 D (w0 :: rest) := hL.same s3
          have np : ∀ {H' : Hp} {fs}, H' p = some (.ins C dx fs) → ∀ a ∈ [p], ∀ xs, H' a ≠ some (.lst xs) := fun e a ha xs z => by
            rw [List.mem_singleton.mp ha, e] at z
            cases z
          -- text
          refine ⟨_, rfl, _, rfl, p, C, dx, _, rfl, e3, Z.cls, Z.nText, (show 0 < 1000 by decide), ?_⟩
          obtain ⟨H4, hH4⟩ : ∃ H4, H4 = L2.upd H3 p (.ins C dx [("text", .str x)]) := ⟨_, rfl⟩
          show tSeq _ _ _ _ (L2.upd H3 p (.ins C dx [("text", .str x)]))
          rw [← hH4]
          have e4 : H4 p = some (.ins C dx [("text", .str x)]) := by rw [hH4, upd_same]
          have b34 : But [p] H3 H4 := by rw [hH4]; exact But.refl.up (List.mem_singleton.mpr rfl)
          have b4 : But [p] H H4 := (But.of sH3).trans b34
          have eD4 := b34 _ _ (s3 _ _ eD) (by intro z; rw [List.mem_singleton.mp z] at eD; have := s3 _ _ eD; rw [e3] at this; cases this)
          have f04 := b34 _ _ (s3 _ _ f0) (by intro z; rw [List.mem_singleton.mp z] at f0; have := s3 _ _ f0; rw [e3] at this; cases this)
          have L4 : LinesAt H4 D (w0 :: rest) := L3.but b34 (np e3)
          clear hH4
          -- people
          refine ⟨_, rfl, D, _, _, V.ref q0, rfl, rfl, SqL.of eD4, atI_nat (j := 0) (by rfl), _, rfl, q0, _, rfl, SqL.of f04, fun n5 hn5 => ⟨n5, _, rfl, .inl ⟨SqL.of upd_same, fun pp hpp => ?_⟩⟩⟩
          have s5 := (same_new (o := .lst (cutV (w0.map V.str) (some 1) none)) hn5).trans (same_new (o := .tup (cutV (w0.map V.str) (some 1) none)) hpp)
          obtain ⟨H5, hH5⟩ : ∃ H5, H5 = L2.upd (L2.upd H4 n5 (.lst (cutV (w0.map V.str) (some 1) none))) pp (.tup (cutV (w0.map V.str) (some 1) none)) := ⟨_, rfl⟩
          have epp5 : H5 pp = some (.tup ((w0.drop 1).map V.str)) := by rw [hH5, upd_same, cut1]
          rw [← hH5] at s5 ⊢
          clear hH5
          have e5 := s5 _ _ e4
          refine ⟨_, rfl, p, C, dx, _, rfl, e5, Z.cls, Z.nPeople, (show 1 < 1000 by decide), ?_⟩
          obtain ⟨H6, hH6⟩ : ∃ H6, H6 = L2.upd H5 p (.ins C dx [("text", .str x), ("people", .ref pp)]) := ⟨_, rfl⟩
          show tSeq _ _ _ _ (L2.upd H5 p (.ins C dx [("text", .str x), ("people", .ref pp)]))
          rw [← hH6]
          have e6 : H6 p = some (.ins C dx [("text", .str x), ("people", .ref pp)]) := by rw [hH6, upd_same]
          have b56 : But [p] H5 H6 := by rw [hH6]; exact But.refl.up (List.mem_singleton.mpr rfl)
          have b6 : But [p] H H6 := (b4.trans (But.of s5)).trans b56
          have L6 : LinesAt H6 D (w0 :: rest) := (L4.same s5).but b56 (np e5)
          have epp6 := b56 _ _ epp5 (by intro z; rw [List.mem_singleton.mp z, e5] at epp5; cases epp5)
          clear hH6
          -- opens
          refine ⟨Nat.zero_le _, fun o ho => ?_⟩
          have s7 := same_new (o := .tup []) ho
          refine ⟨_, rfl, p, C, dx, _, rfl, s7 _ _ e6, Z.cls, Z.nOpens, (show 2 < 1000 by decide), ?_⟩
          obtain ⟨H7, hH7⟩ : ∃ H7, H7 = L2.upd (L2.upd H6 o (.tup [])) p (.ins C dx [("text", .str x), ("people", .ref pp), ("opens", .ref o)]) := ⟨_, rfl⟩
          show tSeq _ _ _ _ (L2.upd (L2.upd H6 o (.tup [])) p (.ins C dx [("text", .str x), ("people", .ref pp), ("opens", .ref o)]))
          rw [← hH7]
          have nop : o ≠ p := fun z => by rw [z, e6] at ho; cases ho
          have e7 : H7 p = some (.ins C dx [("text", .str x), ("people", .ref pp), ("opens", .ref o)]) := by rw [hH7, upd_same]
          have eo7 : H7 o = some (.tup []) := by rw [hH7, upd_ne nop, upd_same]
          have b67 : But [p] H6 H7 := by rw [hH7]; exact (But.of s7).up (List.mem_singleton.mpr rfl)
          have L7 : LinesAt H7 D (w0 :: rest) := L6.but b67 (np e6)
          have epp7 := b67 _ _ epp6 (by intro z; rw [List.mem_singleton.mp z, e6] at epp6; cases epp6)
          have b7 := b6.trans b67
          clear hH7 s7
          -- told
          intro d hd
          have s8 := same_new (o := .dT []) hd
          refine ⟨_, rfl, p, C, dx, _, rfl, s8 _ _ e7, Z.cls, Z.nTold, (show 3 < 1000 by decide), ?_⟩
          obtain ⟨H8, hH8⟩ : ∃ H8, H8 = L2.upd (L2.upd H7 d (.dT [])) p (.ins C dx (fsH x pp o d)) := ⟨_, rfl⟩
          have hput : putF "_told" (V.ref d) [("text", V.str x), ("people", V.ref pp), ("opens", V.ref o)] = fsH x pp o d := rfl
          rw [hput, ← hH8]
          have ndp : d ≠ p := fun z => by rw [z, e7] at hd; cases hd
          have e8 : H8 p = some (.ins C dx (fsH x pp o d)) := by rw [hH8, upd_same]
          have ed8 : H8 d = some (.dT []) := by rw [hH8, upd_ne ndp, upd_same]
          have b78 : But [p] H7 H8 := by rw [hH8]; exact (But.of s8).up (List.mem_singleton.mpr rfl)
          have L8 : LinesAt H8 D (w0 :: rest) := L7.but b78 (np e7)
          have epp8 := b78 _ _ epp7 (by intro z; rw [List.mem_singleton.mp z, e7] at epp7; cases epp7)
          have eo8 := b78 _ _ eo7 (by simpa using nop)
          have b8 := b7.trans b78
          have nd : ∀ b ob, H b = some ob → b ∉ [p] → b ≠ d := fun b ob z n => ne_of_none (b7 b ob z n) hd
          have A8 : HallAt K H8 C p x pp o d (w0.drop 1) [] [] := ⟨⟨dx, e8⟩, epp8, ⟨[], eo8, rfl, fun i q op h1 _ => by simp at h1⟩, ed8, fun op z => by cases z⟩
          clear hH8 s8
          obtain ⟨qs8, eD8, lq8, fq8⟩ := id L8
          obtain ⟨q8, qr8, rfl⟩ : ∃ q0 qr, qs8 = q0 :: qr := by
            cases qs8 with
            | nil => cases lq8
            | cons a b => exact ⟨a, b, rfl⟩
          have lr : qr8.length = rest.length := by simpa using lq8
          have hps : ∀ y ∈ w0.drop 1, PyData.strOk y = true := by
            unfold peopleB at hp
            simp only [Bool.and_eq_true] at hp
            exact fun y hy => nameOk (List.all_eq_true.mp hp.2.2.2.2 y hy)
          refine ⟨_, rfl, _, rfl, D, _, rfl, SqL.of eD8, fun n9 hn9 => ?_⟩
          have s9 := same_new (o := .lst (cutV ((q8 :: qr8).map V.ref) (some 1) none)) hn9
          obtain ⟨H9, hH9⟩ : ∃ H9, H9 = L2.upd H8 n9 (.lst (cutV ((q8 :: qr8).map V.ref) (some 1) none)) := ⟨_, rfl⟩
          have en9 : H9 n9 = some (.lst (qr8.map V.ref)) := by rw [hH9, upd_same, cut1G]; rfl
          rw [← hH9] at s9 ⊢
          clear hH9
          have A9 := A8.same s9
          obtain ⟨dx9, e9⟩ := id A9.ex
          have keepL : ∀ H', But [p, d] H9 H' → ∀ b xs, H9 b = some (.lst xs) → H' b = some (.lst xs) := fun H' s b xs z => s b _ z (by
            intro m
            rcases List.mem_cons.mp m with m | m
            · rw [m, e9] at z; cases z
            · rw [List.mem_singleton.mp m, A9.t] at z; cases z)
          have fq9 : ∀ (i : Nat) (q : Addr) (ws : List Str), qr8[i]? = some q → rest[i]? = some ws → H9 q = some (.lst (ws.map V.str)) := fun i q ws h1 h2 => s9 _ _ (fq8 (i + 1) q ws (by simpa using h1) (by simpa using h2))
          have back : ∀ H', But [p, d] H9 H' → But [p] H H' := fun H' s b ob z n => s b ob (s9 _ _ (b8 b ob z n)) (by
            intro m
            rcases List.mem_cons.mp m with m | m
            · exact n (by simp [m])
            · exact nd b ob z n (List.mem_singleton.mp m))
          refine ⟨n9, qr8.map V.ref, 2, rfl, rfl, by decide, by decide, SqL.of en9, for_it walk_enumS (fun i σ H' => ∃ u3 u4 u5 ops T o', σ = [some (.ref p), some (.str x), some (.ref D), u3, u4, u5] ∧ But [p, d] H9 H' ∧ HallAt K H' C p x pp o' d (w0.drop 1) ops T ∧ ops.length ≤ i ∧ T.length ≤ i * 10000 ∧
              runT (w0.drop 1) (2 + i) (rest.drop i) (ops, T) = parseH x) ⟨_, _, _, [], [], o, rfl, But.refl, A9, Nat.le_refl _, Nat.zero_le _, hpar.symm⟩ (fun i σ H' _ ⟨_, _, _, _, _, _, _, b, _⟩ => SqL.of (keepL H' b _ _ en9)) ?_ ?_⟩
          · rintro i y σ H' H'' hi ⟨u3, u4, u5, ops, T, o', rfl, b9, A', lo, lt, hrun⟩ ⟨Tt, a1, a2, rfl, hT, rfl, e1, e2⟩
            have ea : a1 = V.int ((2 + i : Nat) : Int) := by
              have z := Option.some.inj e1
              rw [← z]
              simp
            subst ea
            rw [List.length_map] at hi
            have hi2 : i < rest.length := by omega
            obtain ⟨q, hq⟩ : ∃ q, qr8[i]? = some q := ⟨qr8[i], List.getElem?_eq_getElem hi⟩
            obtain ⟨ws, hws⟩ : ∃ ws, rest[i]? = some ws := ⟨rest[i], List.getElem?_eq_getElem hi2⟩
            have e2' : (qr8.map V.ref)[i]? = some a2 := e2
            rw [List.getElem?_map, hq] at e2'
            obtain rfl : V.ref q = a2 := Option.some.inj e2'
            have hmem : ws ∈ hallLines x := by rw [hw]; exact List.mem_cons_of_mem _ (List.mem_of_getElem? hws)
            have tw := tx.ws ws hmem
            have sT := same_new (o := .tup [V.int ((2 + i : Nat) : Int), V.ref q]) hT
            have AT := A'.same sT
            obtain ⟨dxT, eT⟩ := id AT.ex
            have edrop : rest.drop i = ws :: rest.drop (i + 1) := by
              rw [List.drop_eq_getElem_cons hi2]
              rw [List.getElem?_eq_getElem hi2] at hws
              rw [Option.some.inj hws]
            rw [edrop] at hrun
            have hrun2 : (match MX.stepT (w0.drop 1) (2 + i) ws (ops, T) with
              | none => Sum.inl (2 + i)
              | some ot' => runT (w0.drop 1) (2 + i + 1) (rest.drop (i + 1)) ot') = parseH x := hrun
            have bT : But [p, d] H9 (L2.upd H' Tt (.tup [V.int ((2 + i : Nat) : Int), V.ref q])) := b9.trans (But.of sT)
            have hfew' : i < 500 := by
              have z : (w0 :: rest).length ≤ 500 := hfew
              rw [List.length_cons] at z
              omega
            refine ⟨Tt, _, rfl, SqT.of upd_same, rfl, _, _, rfl, _, _, rfl, rfl, ?_⟩
            refine ⟨_, rfl, p, dxT, _, rfl, eT, rfl, _, rfl, _, rfl, p, q, pp, o', d, 2 + i, x, ws, w0.drop 1, ops, T, rfl, AT, SqL.of (sT _ _ (keepL H' b9 _ _ (fq9 i q ws hq hws))), tw.1, tw.2.1, hps, by omega, by omega, fun hN H3' s3' => ?_, fun ops' T' hS H3' o3 b3 A3 => ?_⟩
            · rw [hN] at hrun2
              exact ⟨_, rfl, iteT ⟨_, rfl, mkO_ok tB fun dd hdd => kE (2 + i) hrun2.symm H3' dd (back H3' (bT.trans (But.of s3'))) hdd⟩⟩
            · rw [hS] at hrun2
              have hl' := step_len hS tw.2.1
              refine ⟨_, rfl, iteF ⟨_, _, _, ops', T', o3, rfl, bT.trans b3, A3, by omega, by omega, ?_⟩⟩
              rw [show 2 + (i + 1) = 2 + i + 1 by omega]
              exact hrun2
          · rintro σ H' ⟨u3, u4, u5, ops, T, o', rfl, b9, A', lo, lt, hrun⟩
            rw [List.length_map, lr, List.drop_length] at hrun
            refine kO ops T hrun.symm H' pp o' d (back H' b9) ?_
            rw [hpo]
            exact A'
end
end K14

set_option Elab.async false
set_option linter.all false
set_option maxRecDepth 100000
set_option maxHeartbeats 4000000
namespace K14
open PySem PySem.Spec PySem.W PySem.Calls PyProof.Rows L2 MX
abbrev sEvent : Stmt := top 27
abbrev sPlacesOf : Stmt := top 28
abbrev sIsTl : Stmt := top 29
abbrev sReqTl : Stmt := top 30
abbrev sMeet : Stmt := top 31
abbrev sTupOf : Stmt := top 38
/-- what the defs of timelines find, beside what those of halls do -/
structure TlF (K : PySem.W.Frag) (mg : Str → Option Value) (C fL fI : Addr) (fdL fdI : FuncData) : Prop where
  cls : Cls K C
  nPeople : NoAttr K C "people"
  kLen : PySem.W.findIn K (.ref C) "__len__" = some (some (.ref fL))
  tLen : PySem.W.typeIn K (.ref fL) = some (.type "function")
  kIn : PySem.W.findIn K (.ref C) "__contains__" = some (some (.ref fI))
  tIn : PySem.W.typeIn K (.ref fI) = some (.type "function")
  L : FnM K "__len__" "Hall.__len__" sLen fL fdL
  I : FnM K "__contains__" "Hall.__contains__" sIn fI fdI
section
variable {P : Program} {w : World} {K : PySem.W.Frag} {mg : Str → Option Value} {base : Heap} {f C fL fI : Addr} {fd fdL fdI : FuncData}
theorem scLen : FnScope ["self"] ["self"] (defScope sLen) := ⟨rfl, rfl, rfl, by decide +kernel, rfl, by decide +kernel, by decide +kernel⟩
theorem ok_len (F : FnM K "__len__" "Hall.__len__" sLen f fd) (B : Blt mg) (c : Cls K C) (n : NoAttr K C "people") : FnOk P w K mg base CX0 1 f fd ["self"] (spE (fun h : HI => [hR K C h]) fun h => oI (h.ps.length : Int)) := by
  refine F.ok scLen (fun vs H Q E h => ?_) (fun cdv A outer s H vs Q E hr h => ?_)
  · obtain ⟨i, al, _⟩ := h
    exact al.len
  · obtain ⟨i, al, q⟩ := h
    refine ⟨_, PSs.nox (bd_ret (P := fun _ : HI => True) (Γ := fun h => [some (hR K C h)]) (M := fun _ => []) (res := fun h => oI (h.ps.length : Int)) (er_to (er_lenT (by rfl) B.len PySem.boot_len (er_people evT rfl c n (et_var 0))) fun i σ H _ v H' rv => ?_)), tRt_start (as := fun h : HI => [hR K C h]) trivial al q⟩
    have e : v = V.int _ := rv
    rw [List.length_map] at e
    exact e
theorem scIn : FnScope ["self", "value"] ["self", "value"] (defScope sIn) := ⟨rfl, rfl, rfl, by decide +kernel, rfl, by decide +kernel, by decide +kernel⟩
theorem ok_in (F : FnM K "__contains__" "Hall.__contains__" sIn f fd) (c : Cls K C) (n : NoAttr K C "people") : FnOk P w K mg base CX0 1 f fd ["self", "value"] (spE (fun j : HI × Str => [hR K C j.1, oS j.2]) fun j => oB (decide (j.2 ∈ j.1.ps))) := by
  refine F.ok scIn (fun vs H Q E h => ?_) (fun cdv A outer s H vs Q E hr h => ?_)
  · obtain ⟨i, al, _⟩ := h
    exact al.len
  · obtain ⟨i, al, q⟩ := h
    exact ⟨_, PSs.nox (bd_ret (P := fun _ : HI × Str => True) (Γ := fun j => [some (hR K C j.1), some (oS j.2)]) (M := fun _ => []) (res := fun j => oB (decide (j.2 ∈ j.1.ps))) (er_inS evT (et_var 1) (er_people evT rfl c n (et_var 0)) rfl)), tRt_start (as := fun j : HI × Str => [hR K C j.1, oS j.2]) trivial al q⟩
theorem bInC (I : FnM K "__contains__" "Hall.__contains__" sIn fI fdI) : Binds K fdI ["self", "value"] [] := I.bindsN fun _ _ _ _ _ _ us hl => match us, hl with | [_, _], _ => rfl
theorem bLenC (I : FnM K "__len__" "Hall.__len__" sLen fL fdL) : Binds K fdL ["self"] [] := I.bindsN fun _ _ _ _ _ _ us hl => match us, hl with | [_], _ => rfl
theorem scEvent : FnScope ["hall", "value", "name", "way"] ["hall", "value"] (defScope sEvent) := ⟨rfl, rfl, rfl, by decide +kernel, rfl, by decide +kernel, by decide +kernel⟩
def evB (ps : List Str) (e : Evt) : Bool := decide (e.1 ∈ ps) && decide (e.2 ∈ (["in", "out"] : List Str))
abbrev spEvent (K : PySem.W.Frag) (C : Addr) : Sp := spP (fun _ : HI × Evt => True) (fun j => [hR K C j.1, evR j.2]) fun j => oB (evB j.1.ps j.2)
theorem ok_event (F : FnP K "is_event" sEvent f fd) (B : Blt mg) (Z : TlF K mg C fL fI fdL fdI) : FnOk P w K mg base CX0 2 f fd ["hall", "value"] (spEvent K C) := by
  have GI : FnOk P w K mg base CX0 1 fI fdI ["self", "value"] _ := ok_in Z.I Z.cls Z.nPeople
  have bI := bInC Z.I
  refine F.ok scEvent (fun vs H Q E h => ?_) (fun cdv A outer s H vs Q E hr h => ?_)
  · obtain ⟨i, _, al, _⟩ := h
    exact al.len
  · obtain ⟨i, _, al, q⟩ := h
    refine ⟨_, PSs.nox (bt_skip (P := fun _ : HI × Evt => True) (Γ := fun j => [some (hR K C j.1), some (evR j.2), none, none]) (M := fun _ => []) (res := fun j => oB (evB j.1.ps j.2))
      (tt_to (PW.pt (tw_or (tt_not (tt_val (er_isTup (rs := fun j => [oS j.2.1, oS j.2.2]) (by rfl) B.isi (by decide +kernel) (by rfl) B.tup boot_tuple (et_var 1)))) (tw_or1 (tt_neI evT (er_lenT (rs := fun j => [oS j.2.1, oS j.2.2]) (by rfl) B.len PySem.boot_len (et_var 1)) er_int)))) (fun i _ => rfl))
      (bd_un2 (k1 := 2) (k2 := 3) (r1 := fun j => oS j.2.1) (r2 := fun j => oS j.2.2) rfl scEvent.nd (et_var 1) (bd_ret
        (et_and (er_inH evT (h := fun j : HI × Evt => j.1) (x := fun j => j.2.1) (b := fun j => decide (j.2.1 ∈ j.1.ps)) rfl Z.kIn Z.tIn GI hr bI pass0 (fun j => (j.1, j.2.1)) (fun _ => rfl) (fun _ => rfl) (et_var 2) (et_var 0) rfl)
          (et_one (er_inS evT (ys := fun _ => ["in", "out"]) (et_var 3) (er_tup evT (ea_cons evT er_str (ea_cons evT er_str ea_nil)) (fun _ _ _ _ => by rw [sizeLine_eq]; exact Nat.le_of_ble_eq_true rfl)) rfl)))))), tRt_start (as := fun j : HI × Evt => [hR K C j.1, evR j.2]) trivial al q⟩
theorem scPlacesOf : FnScope ["timeline", "place", "event"] ["timeline"] (defScope sPlacesOf) := ⟨rfl, rfl, rfl, by decide +kernel, rfl, by decide +kernel, by decide +kernel⟩
abbrev spPlacesOf : Sp := spP (fun es : List Evt => es.length ≤ 1000) (fun es => [tlR es]) fun es => oD (plT es)
theorem ok_placesOf (F : FnP K "places_of" sPlacesOf f fd) (he : mg "enumerate" = none) : FnOk P w K mg base CX0 1 f fd ["timeline"] spPlacesOf := by
  refine F.ok scPlacesOf (fun vs H Q E h => ?_) (fun cdv A outer s H vs Q E hr h => ?_)
  · obtain ⟨i, _, al, _⟩ := h
    exact al.len
  · obtain ⟨i, p, al, q⟩ := h
    have hu := hu_of hr
    exact ⟨_, PSs.nox (bd_ret (P := fun es : List Evt => es.length ≤ 1000) (Γ := fun es => [some (tlR es), none, none]) (M := fun _ => []) (res := fun es => oD (plT es))
      (et_places (es := fun es => es) (k1 := 1) (k2 := 2) rfl hu scPlacesOf.nd (fun _ => rfl) (fun _ => rfl) (by decide) (fun _ => by show 1 < 3; decide) (fun _ => by show 2 < 3; decide) (by rfl) he (et_var 0) (blkOk_by (N := ["timeline", "place", "event"]) (sc := defScope sPlacesOf) (by decide +kernel))
        (fun _ _ _ _ _ => by exact pg_tup rfl (pgs_cons (pg_name (i := 1) scPlacesOf.nd rfl (Or.inl rfl)) (pgs_cons (pg_name (i := 2) scPlacesOf.nd rfl (Or.inl rfl)) pgs_nil))) (fun _ _ _ _ _ => pv 2) (fun _ _ _ _ _ => pv 1) (fun i h => h))), tRt_start (as := fun es : List Evt => [tlR es]) p al q⟩
/-- a timeline of the hall -/
structure VT (ps : List Str) (es : List Evt) : Prop where
  nd : es.Nodup
  len : es.length = 2 * ps.length
  few : ps.length ≤ 9
  ev : ∀ e ∈ es, evB ps e = true
  io : ∀ n ∈ ps, (n, ("in" : Str)) ∈ es ∧ (n, ("out" : Str)) ∈ es ∧ es.idxOf (n, ("in" : Str)) < es.idxOf (n, ("out" : Str))
theorem er_mul {ι : Type} {Ev : ι → L2.St → Hp → Prop} {M : ι → List Addr} {X : Cx} {a b : Expr} {pos : Pos} (E : Env Ev) {x y : ι → Int} (ha : PE X a (tR Ev M fun i => oI (x i))) (hb : PE X b (tR Ev M fun i => oI (y i))) (l : ∀ i σ H, Ev i σ H → -(2 ^ 64) < x i ∧ x i < 2 ^ 64) : PE X (.BinOp a .Mult b pos) (tR Ev M fun i => oI (x i * y i)) :=
  pe_mono (pe_op op_mul ha hb) fun σ H Q ⟨i, ok, q⟩ => ⟨i, ok, fun v H1 s1 rv => ⟨i, ok.same E s1, fun u H2 s2 ru => ⟨x i, y i, rv, ru, .inl (l i σ _ ok.1), q _ _ (s1.trans s2) rfl⟩⟩⟩
abbrev nIsTl : List Str := ["hall", "value", "places", "event", "name"]
theorem scIsTl : FnScope nIsTl ["hall", "value"] (defScope sIsTl) := ⟨rfl, rfl, rfl, by decide +kernel, rfl, by decide +kernel, by decide +kernel⟩
abbrev HT2 := HI × List Evt
abbrev pVT : HT2 → Prop := fun j => VT j.1.ps j.2
abbrev spIsTl (K : PySem.W.Frag) (C : Addr) (r : Rd) : Sp := spP pVT (fun j => [hR K C j.1, tlR j.2]) fun _ => r
theorem all_true {α : Type} {f : α → Bool} {xs : List α} (h : ∀ x ∈ xs, f x = true) : (xs.map f).all id = true := by
  rw [List.all_map, List.all_eq_true]
  exact h
theorem ok_isTl {fE fPl : Addr} {fdE fdPl : FuncData} (F : FnP K "is_timeline" sIsTl f fd) (B : Blt mg) (Z : TlF K mg C fL fI fdL fdI) (FE : FnP K "is_event" sEvent fE fdE) (gE : mg "is_event" = some (.ref fE)) (FPl : FnP K "places_of" sPlacesOf fPl fdPl) (gPl : mg "places_of" = some (.ref fPl)) :
    FnOk P w K mg base CX0 3 f fd ["hall", "value"] (spIsTl K C (oB true)) := by
  have GE : FnOk P w K mg base CX0 2 fE fdE ["hall", "value"] (spEvent K C) := ok_event FE B Z
  have bE : Binds K fdE ["hall", "value"] [] := FE.bindsN fun _ _ _ _ _ _ us hl => match us, hl with | [_, _], _ => rfl
  have GPl : FnOk P w K mg base CX0 1 fPl fdPl ["timeline"] spPlacesOf := ok_placesOf FPl B.enum
  have bPl : Binds K fdPl ["timeline"] [] := FPl.bindsN fun _ _ _ _ _ _ us hl => match us, hl with | [_], _ => rfl
  have GL : FnOk P w K mg base CX0 1 fL fdL ["self"] _ := ok_len Z.L B Z.cls Z.nPeople
  have bL := bLenC Z.L
  refine F.ok scIsTl (fun vs H Q E h => ?_) (fun cdv A outer s H vs Q E hr h => ?_)
  · obtain ⟨i, _, al, _⟩ := h
    exact al.len
  · obtain ⟨i, p, al, q⟩ := h
    have hu := hu_of hr
    have hr1 := hr.mono (show 1 ≤ 2 by decide)
    refine ⟨_, PSs.nox (bt_skip (P := pVT) (Γ := fun j => [some (hR K C j.1), some (tlR j.2), none, none, none]) (M := fun _ => []) (res := fun _ => oB true)
      (tt_to (PW.pt (tw_or (tt_not (tt_val (er_isTup (rs := fun j => j.2.map evR) (by rfl) B.isi (by decide +kernel) (by rfl) B.tup boot_tuple (et_var 1)))) (tw_or1 (tt_neI evT (er_lenT (rs := fun j => j.2.map evR) (by rfl) B.len PySem.boot_len (et_var 1))
        (er_mul evT (x := fun _ => 2) (y := fun j => ((j.1.ps.length : Nat) : Int)) er_int (er_lenH (h := fun j : HT2 => j.1) (n := fun j => j.1.ps.length) rfl Z.kLen Z.tLen GL hr bL pass0 (fun j => j.1) (fun _ => rfl) (fun _ => rfl) (fun j σ H h => by have := h.p.1.few; omega) (by rfl) B.len PySem.boot_len (et_var 0)) (fun _ _ _ _ => by decide)))))) (fun j h => ?_))
      (bt_skip (tt_to (tt_not (tt_val (er_all (bs := fun j => j.2.map (evB j.1.ps)) rfl (by rfl) B.all boot_all (et_to (et_lcT (k := 3) (xs := fun j : HT2 => j.2) (r := fun _ => evR) (res := fun j e => oB (evB j.1.ps e)) rfl scIsTl.nd (fun _ => rfl) (et_var 1) (blkOk_by (N := nIsTl) (sc := defScope sIsTl) (by decide +kernel))
          (fun _ _ _ _ _ => pg_name (i := 3) scIsTl.nd rfl (Or.inl rfl)) (fun _ _ _ _ _ => et_callP GE hr rfl gE FE.kp bE (fun j => (j.1.1, j.2.1)) (fun _ _ => trivial) (fun _ _ _ _ h => h) (ea_cons evT (et_var 0) (ea_cons evT (et_var 3) ea_nil))) (fun j h => by have := h.len; have := h.few; omega)) (fun j _ => by rw [List.map_map]; rfl))))) (fun j h => ?_))
      (bd_set (k := 2) scIsTl.nd (et_call GPl hr1 rfl gPl FPl.kp bPl (fun j => j.2) (fun j h => by have := h.len; have := h.few; omega) (ea_cons evT (et_var 1) ea_nil))
      (bd_ret (et_to (et_and (er_eqI evT (er_lenD (kvs := fun j => plT j.2) (by rfl) B.len PySem.boot_len (et_var 2)) (er_lenT (rs := fun j => j.2.map evR) (by rfl) B.len PySem.boot_len (et_var 1)))
        (et_one (er_all (bs := fun j => j.1.ps.map fun n => decide ((j.2.idxOf (n, ("in" : Str)) : Int) < (j.2.idxOf (n, ("out" : Str)) : Int))) rfl (by rfl) B.all boot_all (et_to (et_lcT (k := 4) (xs := fun j : HT2 => j.1.ps) (r := fun _ => oS) (res := fun j n => oB (decide ((j.2.idxOf (n, ("in" : Str)) : Int) < (j.2.idxOf (n, ("out" : Str)) : Int)))) rfl scIsTl.nd (fun _ => rfl)
          (er_people evT rfl Z.cls Z.nPeople (et_var 0)) (blkOk_by (N := nIsTl) (sc := defScope sIsTl) (by decide +kernel)) (fun _ _ _ _ _ => pg_name (i := 4) scIsTl.nd rfl (Or.inl rfl))
          (fun _ _ _ _ _ => er_ltI evT (er_dkey evT (kvs := fun j => plT j.1.2) (e := fun j => (j.2.1, ("in" : Str))) hu (et_var 2) (er_tup evT (ea_cons evT (et_var 4) (ea_cons evT er_str ea_nil)) (fun _ _ _ _ => by rw [sizeLine_eq]; exact Nat.le_of_ble_eq_true rfl)) (fun _ _ => rfl) (fun j σ H h => val_pl h.p.1.1.nd (h.p.1.1.io _ h.p.2).1))
            (er_dkey evT (kvs := fun j => plT j.1.2) (e := fun j => (j.2.1, ("out" : Str))) hu (et_var 2) (er_tup evT (ea_cons evT (et_var 4) (ea_cons evT er_str ea_nil)) (fun _ _ _ _ => by rw [sizeLine_eq]; exact Nat.le_of_ble_eq_true rfl)) (fun _ _ => rfl) (fun j σ H h => val_pl h.p.1.1.nd (h.p.1.1.io _ h.p.2).2.1)))
          (fun j h => by have := h.1.few; omega)) (fun j _ => by rw [List.map_map]; rfl))))) (fun j h => ?_)))))), tRt_start (as := fun j : HT2 => [hR K C j.1, tlR j.2]) p al q⟩
    · show (!true || !decide (((j.2.map evR).length : Int) = 2 * (j.1.ps.length : Int))) = false
      have h : VT j.1.ps j.2 := h
      rw [List.length_map, h.len, decide_eq_true (by omega)]
      rfl
    · show (!((j.2.map (evB j.1.ps)).all id)) = false
      rw [all_true h.ev]
      rfl
    · have h : VT j.1.ps j.2 := h
      have e1 : decide (((plT j.2).length : Int) = ((j.2.map evR).length : Int)) = true := decide_eq_true (by rw [plT_len h.nd, List.length_map])
      have e2 := all_true (f := fun n : Str => decide ((j.2.idxOf (n, ("in" : Str)) : Int) < (j.2.idxOf (n, ("out" : Str)) : Int))) (xs := j.1.ps) fun n hn => decide_eq_true (by have := (h.io n hn).2.2; omega)
      show oB (decide (((plT j.2).length : Int) = ((j.2.map evR).length : Int)) && ((j.1.ps.map fun n : Str => decide ((j.2.idxOf (n, ("in" : Str)) : Int) < (j.2.idxOf (n, ("out" : Str)) : Int))).all id)) = oB true
      rw [e1, e2]
      rfl
theorem scReqTl : FnScope ["hall", "timeline"] ["hall", "timeline"] (defScope sReqTl) := ⟨rfl, rfl, rfl, by decide +kernel, rfl, by decide +kernel, by decide +kernel⟩
theorem ok_reqTl {fS : Addr} {fdS : FuncData} (F : FnP K "require_timeline" sReqTl f fd) (FS : FnP K "is_timeline" sIsTl fS fdS) (gS : mg "is_timeline" = some (.ref fS)) (GS : FnOk P w K mg base CX0 3 fS fdS ["hall", "value"] (spIsTl K C (oB true))) : FnOk P w K mg base CX0 4 f fd ["hall", "timeline"] (spIsTl K C oN) := by
  have bS : Binds K fdS ["hall", "value"] [] := FS.bindsN fun _ _ _ _ _ _ us hl => match us, hl with | [_, _], _ => rfl
  refine F.ok scReqTl (fun vs H Q E h => ?_) (fun cdv A outer s H vs Q E hr h => ?_)
  · obtain ⟨i, _, al, _⟩ := h
    exact al.len
  · obtain ⟨i, p, al, q⟩ := h
    exact ⟨_, PSs.nox (bn_skip (P := pVT) (Γ := fun j => [some (hR K C j.1), some (tlR j.2)]) (M := fun _ => []) (tt_to (tt_not (tt_val (et_callP GS hr rfl gS FS.kp bS (fun j => j) (fun _ h => h) (fun _ _ _ _ h => h) (ea_cons evT (et_var 0) (ea_cons evT (et_var 1) ea_nil))))) (fun _ _ => rfl))), tRn_start (as := fun j : HT2 => [hR K C j.1, tlR j.2]) p al q⟩
/-- two people meet by the places -/
def meetB (es : List Evt) (a b : Str) : Bool := decide (es.idxOf (a, ("in" : Str)) < es.idxOf (b, ("out" : Str))) && decide (es.idxOf (b, ("in" : Str)) < es.idxOf (a, ("out" : Str)))
theorem scMeet : FnScope ["places", "one", "other"] ["places", "one", "other"] (defScope sMeet) := ⟨rfl, rfl, rfl, by decide +kernel, rfl, by decide +kernel, by decide +kernel⟩
abbrev MI := List Evt × Str × Str
abbrev pMeet : MI → Prop := fun j => j.1.Nodup ∧ ((j.2.1, ("in" : Str)) ∈ j.1 ∧ (j.2.1, ("out" : Str)) ∈ j.1) ∧ ((j.2.2, ("in" : Str)) ∈ j.1 ∧ (j.2.2, ("out" : Str)) ∈ j.1)
abbrev spMeet : Sp := spP pMeet (fun j => [oD (plT j.1), oS j.2.1, oS j.2.2]) fun j => oB (meetB j.1 j.2.1 j.2.2)
theorem ok_meet (F : FnP K "meet" sMeet f fd) : FnOk P w K mg base CX0 1 f fd ["places", "one", "other"] spMeet := by
  refine F.ok scMeet (fun vs H Q E h => ?_) (fun cdv A outer s H vs Q E hr h => ?_)
  · obtain ⟨i, _, al, _⟩ := h
    exact al.len
  · obtain ⟨i, p, al, q⟩ := h
    have hu := hu_of hr
    have ll : ∀ (i : MI) (σ : L2.St) (H : Hp), True → (2 : Nat) ≤ sizeLine := fun _ _ _ _ => by rw [sizeLine_eq]; decide
    refine ⟨_, PSs.nox (bd_ret (P := pMeet) (Γ := fun j => [some (oD (plT j.1)), some (oS j.2.1), some (oS j.2.2)]) (M := fun _ => []) (res := fun j => oB (meetB j.1 j.2.1 j.2.2)) (et_to (et_and
      (er_ltI evT (er_dkey evT (kvs := fun j => plT j.1) (e := fun j => (j.2.1, ("in" : Str))) hu (et_var 0) (er_tup evT (ea_cons evT (et_var 1) (ea_cons evT er_str ea_nil)) (fun i σ H _ => ll i σ H trivial)) (fun _ _ => rfl) (fun j σ H h => val_pl h.p.1 h.p.2.1.1)) (er_dkey evT (kvs := fun j => plT j.1) (e := fun j => (j.2.2, ("out" : Str))) hu (et_var 0) (er_tup evT (ea_cons evT (et_var 2) (ea_cons evT er_str ea_nil)) (fun i σ H _ => ll i σ H trivial)) (fun _ _ => rfl) (fun j σ H h => val_pl h.p.1 h.p.2.2.2)))
      (et_one (er_ltI evT (er_dkey evT (kvs := fun j => plT j.1) (e := fun j => (j.2.2, ("in" : Str))) hu (et_var 0) (er_tup evT (ea_cons evT (et_var 2) (ea_cons evT er_str ea_nil)) (fun i σ H _ => ll i σ H trivial)) (fun _ _ => rfl) (fun j σ H h => val_pl h.p.1.1 h.p.1.2.2.1)) (er_dkey evT (kvs := fun j => plT j.1) (e := fun j => (j.2.1, ("out" : Str))) hu (et_var 0) (er_tup evT (ea_cons evT (et_var 1) (ea_cons evT er_str ea_nil)) (fun i σ H _ => ll i σ H trivial)) (fun _ _ => rfl) (fun j σ H h => val_pl h.p.1.1 h.p.1.2.1.2))))) (fun j _ => ?_))), tRt_start (as := fun j : MI => [oD (plT j.1), oS j.2.1, oS j.2.2]) p al q⟩
    show oB (decide ((j.1.idxOf (j.2.1, ("in" : Str)) : Int) < (j.1.idxOf (j.2.2, ("out" : Str)) : Int)) && decide ((j.1.idxOf (j.2.2, ("in" : Str)) : Int) < (j.1.idxOf (j.2.1, ("out" : Str)) : Int))) = oB (meetB j.1 j.2.1 j.2.2)
    unfold meetB
    rw [decide_eq_decide.mpr (Int.ofNat_lt), decide_eq_decide.mpr (Int.ofNat_lt)]
end
end K14

set_option Elab.async false
set_option linter.all false
set_option maxRecDepth 100000
set_option maxHeartbeats 4000000
namespace K14
open PySem PySem.Spec PySem.W PySem.Calls PyProof.Rows L2 MX
section
variable {P : Program} {w : World} {K : PySem.W.Frag} {mg : Str → Option Value} {base : Heap} {f C fL fI fTo : Addr} {fd fdL fdI fdTo : FuncData}
theorem lit2 {ι : Type} {Ev : ι → L2.St → Hp → Prop} : ∀ (i : ι) (σ : L2.St) (H : Hp), Ev i σ H → (2 : Nat) ≤ sizeLine := fun _ _ _ _ => by rw [sizeLine_eq]; decide
theorem scRequire : FnScope ["hall", "one", "other"] ["hall", "one", "other"] (defScope sRequire) := ⟨rfl, rfl, rfl, by decide +kernel, rfl, by decide +kernel, by decide +kernel⟩
abbrev HS2 := HI × Str × Str
abbrev pTwo : HS2 → Prop := fun j => j.2.1 ∈ j.1.ps ∧ j.2.2 ∈ j.1.ps ∧ j.2.1 ≠ j.2.2
abbrev aTwo (K : PySem.W.Frag) (C : Addr) : HS2 → List Rd := fun j => [hR K C j.1, oS j.2.1, oS j.2.2]
theorem ok_require (F : FnP K "require_two" sRequire f fd) (Z : TlF K mg C fL fI fdL fdI) : FnOk P w K mg base CX0 2 f fd ["hall", "one", "other"] (spP pTwo (aTwo K C) fun _ => oN) := by
  have GI : FnOk P w K mg base CX0 1 fI fdI ["self", "value"] _ := ok_in Z.I Z.cls Z.nPeople
  have bI := bInC Z.I
  refine F.ok scRequire (fun vs H Q E h => ?_) (fun cdv A outer s H vs Q E hr h => ?_)
  · obtain ⟨i, _, al, _⟩ := h
    exact al.len
  · obtain ⟨i, p, al, q⟩ := h
    exact ⟨_, PSs.nox (bn_skipc (P := pTwo) (Γ := fun j => [some (hR K C j.1), some (oS j.2.1), some (oS j.2.2)]) (M := fun _ => []) (tt_to (tt_notInH evT (h := fun j : HS2 => j.1) (x := fun j => j.2.1) (b := fun j => decide (j.2.1 ∈ j.1.ps)) rfl Z.kIn Z.tIn GI hr bI pass0 (fun j => (j.1, j.2.1)) (fun _ => rfl) (fun _ => rfl) (et_var 1) (et_var 0) rfl) (fun j h => by rw [decide_eq_true h.1]; rfl))
      (bn_skip (tt_to (PW.pt (tw_or (tt_notInH evT (h := fun j : HS2 => j.1) (x := fun j => j.2.2) (b := fun j => decide (j.2.2 ∈ j.1.ps)) rfl Z.kIn Z.tIn GI hr bI pass0 (fun j => (j.1, j.2.2)) (fun _ => rfl) (fun _ => rfl) (et_var 2) (et_var 0) rfl) (tw_or1 (tt_eqS evT (et_var 2) (et_var 1))))) (fun j h => by rw [decide_eq_true h.2.1, decide_eq_false (fun z => h.2.2 z.symm)]; rfl)))), tRn_start (as := aTwo K C) p al q⟩
theorem scTold : FnScope ["self", "one", "other"] ["self", "one", "other"] (defScope sTold) := ⟨rfl, rfl, rfl, by decide +kernel, rfl, by decide +kernel, by decide +kernel⟩
abbrev pTold : HS2 → Prop := fun j => pTwo j ∧ strT j.1.T
abbrev spTold (K : PySem.W.Frag) (C : Addr) : Sp := spP pTold (aTwo K C) fun j => oS (toldS j.1.T j.2.1 j.2.2)
theorem ok_toldM {fR : Addr} {fdR : FuncData} (F : FnM K "told" "Hall.told" sTold f fd) (c : Cls K C) (n : NoAttr K C "_told") (FR : FnP K "require_two" sRequire fR fdR) (gR : mg "require_two" = some (.ref fR)) (GR : FnOk P w K mg base CX0 2 fR fdR ["hall", "one", "other"] (spP pTwo (aTwo K C) fun _ => oN)) :
    FnOk P w K mg base CX0 3 f fd ["self", "one", "other"] (spTold K C) := by
  have bR : Binds K fdR ["hall", "one", "other"] [] := FR.bindsN fun _ _ _ _ _ _ us hl => match us, hl with | [_, _, _], _ => rfl
  refine F.ok scTold (fun vs H Q E h => ?_) (fun cdv A outer s H vs Q E hr h => ?_)
  · obtain ⟨i, _, al, _⟩ := h
    exact al.len
  · obtain ⟨i, p, al, q⟩ := h
    have hu := hu_of hr
    exact ⟨_, PSs.nox (bd_expr (P := pTold) (Γ := fun j => [some (hR K C j.1), some (oS j.2.1), some (oS j.2.2)]) (M := fun _ => []) (res := fun j => oS (toldS j.1.T j.2.1 j.2.2)) (r := fun _ => oN) (et_callP GR hr rfl gR FR.kp bR (fun j => j) (fun _ h => h.1) (fun _ _ _ _ h => h) (ea_cons evT (et_var 0) (ea_cons evT (et_var 1) (ea_cons evT (et_var 2) ea_nil))))
      (bd_ret (er_toldG (h := fun j : HS2 => j.1) (x := fun j => j.2.1) (y := fun j => j.2.2) evT hu rfl c n (et_var 0) (er_tup evT (ea_cons evT (et_var 1) (ea_cons evT (et_var 2) ea_nil)) lit2) (fun i σ H h => h.p.2) ⟨rfl, rfl, rfl, rfl⟩))), tRt_start (as := aTwo K C) p al q⟩
end
abbrev sMetBy : Stmt := top 32
abbrev sKeeps : Stmt := top 33
abbrev sThere : Stmt := top 34
/-- what the defs over timelines find of one another -/
structure TlG (P : Program) (w : World) (K : PySem.W.Frag) (mg : Str → Option Value) (base : Heap) (C fR fQ fPl fM fE fTo : Addr) (fdR fdQ fdPl fdM fdE fdTo : FuncData) : Prop where
  FR : FnP K "require_two" sRequire fR fdR
  gR : mg "require_two" = some (.ref fR)
  GR : FnOk P w K mg base CX0 2 fR fdR ["hall", "one", "other"] (spP pTwo (aTwo K C) fun _ => oN)
  FQ : FnP K "require_timeline" sReqTl fQ fdQ
  gQ : mg "require_timeline" = some (.ref fQ)
  GQ : FnOk P w K mg base CX0 4 fQ fdQ ["hall", "timeline"] (spIsTl K C oN)
  FPl : FnP K "places_of" sPlacesOf fPl fdPl
  gPl : mg "places_of" = some (.ref fPl)
  GPl : FnOk P w K mg base CX0 1 fPl fdPl ["timeline"] spPlacesOf
  FM : FnP K "meet" sMeet fM fdM
  gM : mg "meet" = some (.ref fM)
  GM : FnOk P w K mg base CX0 1 fM fdM ["places", "one", "other"] spMeet
  FE : FnP K "is_event" sEvent fE fdE
  gE : mg "is_event" = some (.ref fE)
  GE : FnOk P w K mg base CX0 2 fE fdE ["hall", "value"] (spEvent K C)
  mTo : Meth K C "told" fTo
  To : FnM K "told" "Hall.told" sTold fTo fdTo
  GTo : FnOk P w K mg base CX0 3 fTo fdTo ["self", "one", "other"] (spTold K C)
section
variable {P : Program} {w : World} {K : PySem.W.Frag} {mg : Str → Option Value} {base : Heap} {f C fL fI fR fQ fPl fM fE fTo : Addr} {fd fdL fdI fdR fdQ fdPl fdM fdE fdTo : FuncData}
theorem TlG.bR (G : TlG P w K mg base C fR fQ fPl fM fE fTo fdR fdQ fdPl fdM fdE fdTo) : Binds K fdR ["hall", "one", "other"] [] := G.FR.bindsN fun _ _ _ _ _ _ us hl => match us, hl with | [_, _, _], _ => rfl
theorem TlG.bQ (G : TlG P w K mg base C fR fQ fPl fM fE fTo fdR fdQ fdPl fdM fdE fdTo) : Binds K fdQ ["hall", "timeline"] [] := G.FQ.bindsN fun _ _ _ _ _ _ us hl => match us, hl with | [_, _], _ => rfl
theorem TlG.bPl (G : TlG P w K mg base C fR fQ fPl fM fE fTo fdR fdQ fdPl fdM fdE fdTo) : Binds K fdPl ["timeline"] [] := G.FPl.bindsN fun _ _ _ _ _ _ us hl => match us, hl with | [_], _ => rfl
theorem TlG.bM (G : TlG P w K mg base C fR fQ fPl fM fE fTo fdR fdQ fdPl fdM fdE fdTo) : Binds K fdM ["places", "one", "other"] [] := G.FM.bindsN fun _ _ _ _ _ _ us hl => match us, hl with | [_, _, _], _ => rfl
theorem TlG.bE (G : TlG P w K mg base C fR fQ fPl fM fE fTo fdR fdQ fdPl fdM fdE fdTo) : Binds K fdE ["hall", "value"] [] := G.FE.bindsN fun _ _ _ _ _ _ us hl => match us, hl with | [_, _], _ => rfl
theorem TlG.bTo (G : TlG P w K mg base C fR fQ fPl fM fE fTo fdR fdQ fdPl fdM fdE fdTo) : Binds K fdTo ["self", "one", "other"] [] := G.To.bindsN fun _ _ _ _ _ _ us hl => match us, hl with | [_, _, _], _ => rfl
theorem VT.le {ps : List Str} {es : List Evt} (h : VT ps es) : es.length ≤ 1000 := by
  have := h.len
  have := h.few
  omega
theorem scMetBy : FnScope ["hall", "timeline", "one", "other"] ["hall", "timeline", "one", "other"] (defScope sMetBy) := ⟨rfl, rfl, rfl, by decide +kernel, rfl, by decide +kernel, by decide +kernel⟩
abbrev HTS := HI × List Evt × Str × Str
abbrev pMetBy : HTS → Prop := fun j => VT j.1.ps j.2.1 ∧ (j.2.2.1 ∈ j.1.ps ∧ j.2.2.2 ∈ j.1.ps ∧ j.2.2.1 ≠ j.2.2.2)
abbrev aMetBy (K : PySem.W.Frag) (C : Addr) : HTS → List Rd := fun j => [hR K C j.1, tlR j.2.1, oS j.2.2.1, oS j.2.2.2]
theorem ok_metBy (F : FnP K "met_by" sMetBy f fd) (G : TlG P w K mg base C fR fQ fPl fM fE fTo fdR fdQ fdPl fdM fdE fdTo) : FnOk P w K mg base CX0 5 f fd ["hall", "timeline", "one", "other"] (spP pMetBy (aMetBy K C) fun j => oB (meetB j.2.1 j.2.2.1 j.2.2.2)) := by
  refine F.ok scMetBy (fun vs H Q E h => ?_) (fun cdv A outer s H vs Q E hr h => ?_)
  · obtain ⟨i, _, al, _⟩ := h
    exact al.len
  · obtain ⟨i, p, al, q⟩ := h
    have hr1 := hr.mono (show 1 ≤ 4 by decide)
    have hr2 := hr.mono (show 2 ≤ 4 by decide)
    exact ⟨_, PSs.nox (bd_expr (P := pMetBy) (Γ := fun j => [some (hR K C j.1), some (tlR j.2.1), some (oS j.2.2.1), some (oS j.2.2.2)]) (M := fun _ => []) (res := fun j => oB (meetB j.2.1 j.2.2.1 j.2.2.2)) (r := fun _ => oN) (et_callP G.GQ hr rfl G.gQ G.FQ.kp G.bQ (fun j => (j.1, j.2.1)) (fun _ h => h.1) (fun _ _ _ _ h => h) (ea_cons evT (et_var 0) (ea_cons evT (et_var 1) ea_nil)))
      (bd_expr (r := fun _ => oN) (et_callP G.GR hr2 rfl G.gR G.FR.kp G.bR (fun j => (j.1, j.2.2)) (fun _ h => h.2) (fun _ _ _ _ h => h) (ea_cons evT (et_var 0) (ea_cons evT (et_var 2) (ea_cons evT (et_var 3) ea_nil))))
      (bd_ret (et_callP G.GM hr1 rfl G.gM G.FM.kp G.bM (fun j => j.2) (fun j h => ⟨h.1.nd, ⟨(h.1.io _ h.2.1).1, (h.1.io _ h.2.1).2.1⟩, (h.1.io _ h.2.2.1).1, (h.1.io _ h.2.2.1).2.1⟩) (fun _ _ _ _ h => h)
        (ea_cons evT (et_call G.GPl hr1 rfl G.gPl G.FPl.kp G.bPl (fun j => j.2.1) (fun j h => h.1.le) (ea_cons evT (et_var 1) ea_nil)) (ea_cons evT (et_var 2) (ea_cons evT (et_var 3) ea_nil))))))), tRt_start (as := aMetBy K C) p al q⟩
/-- who is there -/
def thereL (ps : List Str) (es : List Evt) (e : Evt) : List Str := ps.filter fun n => decide ((es.idxOf (n, ("in" : Str)) : Int) < (es.idxOf e : Int)) && decide ((es.idxOf e : Int) < (es.idxOf (n, ("out" : Str)) : Int))
abbrev nThere : List Str := ["hall", "timeline", "event", "places", "place", "name"]
theorem scThere : FnScope nThere ["hall", "timeline", "event"] (defScope sThere) := ⟨rfl, rfl, rfl, by decide +kernel, rfl, by decide +kernel, by decide +kernel⟩
abbrev HTE := HI × List Evt × Evt
abbrev pThere : HTE → Prop := fun j => VT j.1.ps j.2.1 ∧ j.2.2 ∈ j.2.1
abbrev aThere (K : PySem.W.Frag) (C : Addr) : HTE → List Rd := fun j => [hR K C j.1, tlR j.2.1, evR j.2.2]
abbrev gThere (K : PySem.W.Frag) (C : Addr) : HTE → Gm := fun j => [some (hR K C j.1), some (tlR j.2.1), some (evR j.2.2), some (oD (plT j.2.1)), some (oI (j.2.1.idxOf j.2.2 : Int)), none]
theorem ok_there (F : FnP K "there" sThere f fd) (B : Blt mg) (Z : TlF K mg C fL fI fdL fdI) (G : TlG P w K mg base C fR fQ fPl fM fE fTo fdR fdQ fdPl fdM fdE fdTo) : FnOk P w K mg base CX0 5 f fd ["hall", "timeline", "event"] (spP pThere (aThere K C) fun j => oT ((thereL j.1.ps j.2.1 j.2.2).map oS)) := by
  refine F.ok scThere (fun vs H Q E h => ?_) (fun cdv A outer s H vs Q E hr h => ?_)
  · obtain ⟨i, _, al, _⟩ := h
    exact al.len
  · obtain ⟨i, p, al, q⟩ := h
    have hr1 := hr.mono (show 1 ≤ 4 by decide)
    have hr2 := hr.mono (show 2 ≤ 4 by decide)
    have hu := hu_of hr
    refine ⟨_, PSs.nox (bd_expr (P := pThere) (Γ := fun j => [some (hR K C j.1), some (tlR j.2.1), some (evR j.2.2), none, none, none]) (M := fun _ => []) (res := fun j => oT ((thereL j.1.ps j.2.1 j.2.2).map oS)) (r := fun _ => oN) (et_callP G.GQ hr rfl G.gQ G.FQ.kp G.bQ (fun j => (j.1, j.2.1)) (fun _ h => h.1) (fun _ _ _ _ h => h) (ea_cons evT (et_var 0) (ea_cons evT (et_var 1) ea_nil)))
      (bt_skip (tt_to (tt_not (tt_val (et_callP G.GE hr2 rfl G.gE G.FE.kp G.bE (fun j => (j.1, j.2.2)) (fun _ _ => trivial) (fun _ _ _ _ h => h) (ea_cons evT (et_var 0) (ea_cons evT (et_var 2) ea_nil))))) (fun j h => by
          show (!evB j.1.ps j.2.2) = false
          rw [h.1.ev _ h.2]
          rfl))
      (bd_set (k := 3) scThere.nd (et_call G.GPl hr1 rfl G.gPl G.FPl.kp G.bPl (fun j => j.2.1) (fun j h => h.1.le) (ea_cons evT (et_var 1) ea_nil))
      (bd_set (k := 4) scThere.nd (er_dkey evT (kvs := fun j => plT j.2.1) (e := fun j => j.2.2) (n := fun j => (j.2.1.idxOf j.2.2 : Int)) hu (et_var 3) (et_var 2) (fun _ _ => rfl) (fun j σ H h => val_pl h.p.1.nd h.p.2))
      (bd_ret (er_tupleOf evT (by rfl) B.tup boot_tuple (et_lcX (xs := fun j : HTE => j.1.ps) (r := fun _ => oS) (b := fun j n => decide ((j.2.1.idxOf (n, ("in" : Str)) : Int) < (j.2.1.idxOf j.2.2 : Int)) && decide ((j.2.1.idxOf j.2.2 : Int) < (j.2.1.idxOf (n, ("out" : Str)) : Int))) (Γ' := fun j : HTE × Str × Addr => (gThere K C j.1).set 5 (some (oS j.2.1))) (own := [("name", 5)]) (g := gName 5) (res := fun _ => oS) rfl scThere.nd (pi_tup (er_people evT rfl Z.cls Z.nPeople (et_var 0))) src_tup (blkOk_by (N := nThere) (sc := defScope sThere) (by decide +kernel))
        (fun _ _ _ _ _ => pg_name (i := 5) scThere.nd rfl (Or.inl rfl)) (tgt_name (Γ := gThere K C) (k := 5) (vs := [5]) (List.mem_singleton.mpr rfl) (fun i v hv => by rw [List.mem_singleton.mp hv]; rfl))
        (fun _ _ _ _ _ => by exact tt_to (tt_lt2 (x := fun j : HTE × Str × Addr => (j.1.2.1.idxOf (j.2.1, ("in" : Str)) : Int)) (y := fun j : HTE × Str × Addr => (j.1.2.1.idxOf j.1.2.2 : Int)) (z := fun j : HTE × Str × Addr => (j.1.2.1.idxOf (j.2.1, ("out" : Str)) : Int)) evT (er_dkey evT (kvs := fun j => plT j.1.2.1) (e := fun j => (j.2.1, ("in" : Str))) hu (et_var 3) (er_tup evT (ea_cons evT (et_var 5) (ea_cons evT er_str ea_nil)) lit2) (fun _ _ => rfl) (fun j σ H h => val_pl h.p.1.1.nd (h.p.1.1.io _ h.p.2).1)) (et_var 4) (er_dkey evT (kvs := fun j => plT j.1.2.1) (e := fun j => (j.2.1, ("out" : Str))) hu (et_var 3) (er_tup evT (ea_cons evT (et_var 5) (ea_cons evT er_str ea_nil)) lit2) (fun _ _ => rfl) (fun j σ H h => val_pl h.p.1.1.nd (h.p.1.1.io _ h.p.2).2.1))) (fun _ _ => rfl))
        (fun _ _ _ _ _ => et_var 5) (fun j h => by have := h.1.few; omega)))))))), tRt_start (as := aThere K C) p al q⟩
end
end K14

set_option Elab.async false
set_option linter.all false
set_option maxRecDepth 100000
set_option maxHeartbeats 4000000
namespace K14
open PySem PySem.Spec PySem.W PySem.Calls PyProof.Rows L2 MX
/-- all ordered pairs of unlike people -/
def prsL (ps : List Str) : List Evt := ps.flatMap fun a => (ps.filter fun b => !decide (a = b)).map fun b => (a, b)
theorem mem_prsL {ps : List Str} {p : Evt} (h : p ∈ prsL ps) : p.1 ∈ ps ∧ p.2 ∈ ps ∧ p.1 ≠ p.2 := by
  unfold prsL at h
  obtain ⟨a, ha, h⟩ := List.mem_flatMap.mp h
  obtain ⟨b, hb, rfl⟩ := List.mem_map.mp h
  obtain ⟨hb, hn⟩ := List.mem_filter.mp hb
  exact ⟨ha, hb, by simpa using hn⟩
theorem prsL_map (ps : List Str) (f : Evt → Rd) : (ps.flatMap fun a => (ps.filter fun b => !decide (a = b)).map fun b => f (a, b)) = (prsL ps).map f := by
  unfold prsL
  rw [List.map_flatMap]
  congr 1
  funext a
  rw [List.map_map]
  rfl
theorem prsL_len {ps : List Str} (h : ps.length ≤ 9) : (prsL ps).length ≤ 1000 := by
  have z : ∀ l : List Str, (l.flatMap fun a => (ps.filter fun b => !decide (a = b)).map fun b => (a, b)).length ≤ l.length * 9 := by
    intro l
    induction l with
    | nil => simp
    | cons x l ih =>
      rw [List.flatMap_cons, List.length_append, List.length_map, List.length_cons]
      have := List.length_filter_le (fun b => !decide (x = b)) ps
      omega
  have := z ps
  unfold prsL
  omega
def knownL (h : HI) : List Evt := (prsL h.ps).filter fun p => !decide (toldS h.T p.1 p.2 = "open")
def keepB (h : HI) (es : List Evt) : Bool := ((knownL h).map fun p => decide (meetB es p.1 p.2 = decide (toldS h.T p.1 p.2 = "met"))).all id
section
variable {P : Program} {w : World} {K : PySem.W.Frag} {mg : Str → Option Value} {base : Heap} {f C fL fI fR fQ fPl fM fE fTo : Addr} {fd fdL fdI fdR fdQ fdPl fdM fdE fdTo : FuncData}
abbrev nKeeps : List Str := ["hall", "timeline", "places", "pairs", "known", "one", "other"]
theorem scKeeps : FnScope nKeeps ["hall", "timeline"] (defScope sKeeps) := ⟨rfl, rfl, rfl, by decide +kernel, rfl, by decide +kernel, by decide +kernel⟩
abbrev pKeep : HT2 → Prop := fun j => VT j.1.ps j.2 ∧ strT j.1.T
abbrev gK2 (K : PySem.W.Frag) (C : Addr) : HT2 → Gm := fun j => [some (hR K C j.1), some (tlR j.2), some (oD (plT j.2)), none, none, none, none]
abbrev gK3 (K : PySem.W.Frag) (C : Addr) : HT2 → Gm := fun j => [some (hR K C j.1), some (tlR j.2), some (oD (plT j.2)), some (oL (j.1.ps.flatMap fun a => (j.1.ps.filter fun b => !decide (a = b)).map fun b => evR (a, b))), none, none, none]
abbrev gK4 (K : PySem.W.Frag) (C : Addr) : HT2 → Gm := fun j => [some (hR K C j.1), some (tlR j.2), some (oD (plT j.2)), some (oL (j.1.ps.flatMap fun a => (j.1.ps.filter fun b => !decide (a = b)).map fun b => evR (a, b))), some (oL ((knownL j.1).map evR)), none, none]
theorem ok_keeps (F : FnP K "keeps" sKeeps f fd) (B : Blt mg) (Z : TlF K mg C fL fI fdL fdI) (G : TlG P w K mg base C fR fQ fPl fM fE fTo fdR fdQ fdPl fdM fdE fdTo) : FnOk P w K mg base CX0 5 f fd ["hall", "timeline"] (spP pKeep (fun j : HT2 => [hR K C j.1, tlR j.2]) fun j => oB (keepB j.1 j.2)) := by
  refine F.ok scKeeps (fun vs H Q E h => ?_) (fun cdv A outer s H vs Q E hr h => ?_)
  · obtain ⟨i, _, al, _⟩ := h
    exact al.len
  · obtain ⟨i, p, al, q⟩ := h
    have hr1 := hr.mono (show 1 ≤ 4 by decide)
    have hr3 := hr.mono (show 3 ≤ 4 by decide)
    have hu := hu_of hr
    refine ⟨_, PSs.nox (bd_expr (P := pKeep) (Γ := fun j => [some (hR K C j.1), some (tlR j.2), none, none, none, none, none]) (M := fun _ => []) (res := fun j => oB (keepB j.1 j.2)) (r := fun _ => oN) (et_callP G.GQ hr rfl G.gQ G.FQ.kp G.bQ (fun j => j) (fun _ h => h.1) (fun _ _ _ _ h => h) (ea_cons evT (et_var 0) (ea_cons evT (et_var 1) ea_nil)))
      (bd_set (k := 2) scKeeps.nd (et_call G.GPl hr1 rfl G.gPl G.FPl.kp G.bPl (fun j => j.2) (fun j h => h.1.le) (ea_cons evT (et_var 1) ea_nil))
      (bd_setLc2 (P := pKeep) (Γ := gK2 K C) (xs := fun j : HT2 => j.1.ps) (ys := fun j _ => j.1.ps) (r := fun _ => oS) (r1 := fun _ _ => oS) (res := fun _ a b => evR (a, b)) (b := fun _ a b => !decide (a = b)) (k := 3) (k1 := 5) (k2 := 6) rfl scKeeps.nd (fun _ => rfl) (fun _ => rfl) (by decide)
        (pi_tup (er_people evT rfl Z.cls Z.nPeople (et_var 0))) src_tup (blkOk_by (N := nKeeps) (sc := defScope sKeeps) (by decide +kernel)) (fun _ _ _ _ _ => pg_name (i := 5) scKeeps.nd rfl (Or.inl rfl))
        (fun _ _ _ _ _ => pi_tup (er_people evT rfl Z.cls Z.nPeople (et_var 0))) src_tup (fun _ _ _ _ _ => pg_name (i := 6) scKeeps.nd rfl (Or.inl rfl))
        (fun _ _ _ _ _ => pts_one (tt_neS evT (x := fun j : (HT2 × Str × Addr) × Str => j.1.2.1) (y := fun j => j.2) (et_var 5) (et_var 6))) (fun j σ H Q ok q => ⟨j, ok, q⟩)
        (fun _ _ _ _ _ => er_tup evT (ea_cons evT (et_var 5) (ea_cons evT (et_var 6) ea_nil)) lit2) (fun j h => ⟨by have := h.1.few; omega, fun _ _ => by have := h.1.few; omega⟩)
      (bd_setLcX (P := pKeep) (Γ := gK3 K C) (xs := fun j : HT2 => prsL j.1.ps) (r := fun _ p => oT [oS p.1, oS p.2]) (res := fun _ => evR) (b := fun j p => !decide (toldS j.1.T p.1 p.2 = "open")) (k := 4) (own := [("one", 5), ("other", 6)]) (g := gTup K 2 (gCons (gName 5) (gCons (gName 6) gNil)))
        (Γ' := fun j : HT2 × Evt × Addr => ((gK3 K C j.1).set 5 (some (oS j.2.1.1))).set 6 (some (oS j.2.1.2))) rfl scKeeps.nd (pi_list (et_to (et_var 3) (fun j _ => by
          show oL _ = oL _
          rw [prsL_map j.1.ps evR]; rfl))) src_list (blkOk_by (N := nKeeps) (sc := defScope sKeeps) (by decide +kernel))
        (fun _ _ _ _ _ => by exact pg_tup rfl (pgs_cons (pg_name (i := 5) scKeeps.nd rfl (Or.inl rfl)) (pgs_cons (pg_name (i := 6) scKeeps.nd rfl (Or.inl rfl)) pgs_nil)))
        (tgt_pair (Γ := gK3 K C) (ra := fun _ (p : Evt) => oS p.1) (rb := fun _ (p : Evt) => oS p.2) (k1 := 5) (k2 := 6) (vs := [5, 6]) (by decide) (by decide) (fun i v hv => by
          rcases List.mem_cons.mp hv with hv | hv
          · rw [hv]; rfl
          · rw [List.mem_singleton.mp hv]; rfl))
        (fun _ _ _ _ _ => by exact tt_neS evT (x := fun j : HT2 × Evt × Addr => toldS j.1.1.T j.2.1.1 j.2.1.2) (y := fun _ => "open") (et_methP (h := fun j : HT2 × Evt × Addr => j.1.1) (bs := fun j => [oS j.2.1.1, oS j.2.1.2]) rfl Z.cls G.mTo G.GTo hr3 G.bTo (fun j => (j.1.1, j.2.1.1, j.2.1.2)) (fun j h => ⟨mem_prsL h.2, h.1.2⟩) (fun _ => rfl) (fun _ _ _ _ h => h) (fun _ _ _ _ => rfl) (et_var 0) (ea_cons evT (et_var 5) (ea_cons evT (et_var 6) ea_nil)) (fun ho ha => pe_meth ho Z.cls G.mTo G.GTo hr3 G.bTo .nil pass0 ha)) er_str)
        (fun _ _ _ _ _ => er_tup evT (ea_cons evT (et_var 5) (ea_cons evT (et_var 6) ea_nil)) lit2) (fun j h => by have := prsL_len h.1.few; omega)
      (bd_ret (er_all (bs := fun j => (knownL j.1).map fun p => decide (meetB j.2 p.1 p.2 = decide (toldS j.1.T p.1 p.2 = "met"))) rfl (by rfl) B.all boot_all (et_to (et_lcY (P := pKeep) (Γ := gK4 K C) (xs := fun j : HT2 => knownL j.1) (r := fun _ p => oT [oS p.1, oS p.2]) (res := fun j p => oB (decide (meetB j.2 p.1 p.2 = decide (toldS j.1.T p.1 p.2 = "met")))) (own := [("one", 5), ("other", 6)]) (g := gTup K 2 (gCons (gName 5) (gCons (gName 6) gNil)))
        (Γ' := fun j : HT2 × Evt × Addr => ((gK4 K C j.1).set 5 (some (oS j.2.1.1))).set 6 (some (oS j.2.1.2))) rfl scKeeps.nd (pi_list (et_var 4)) src_list (blkOk_by (N := nKeeps) (sc := defScope sKeeps) (by decide +kernel))
        (fun _ _ _ _ _ => by exact pg_tup rfl (pgs_cons (pg_name (i := 5) scKeeps.nd rfl (Or.inl rfl)) (pgs_cons (pg_name (i := 6) scKeeps.nd rfl (Or.inl rfl)) pgs_nil)))
        (tgt_pair (Γ := gK4 K C) (ra := fun _ (p : Evt) => oS p.1) (rb := fun _ (p : Evt) => oS p.2) (k1 := 5) (k2 := 6) (vs := [5, 6]) (by decide) (by decide) (fun i v hv => by
          rcases List.mem_cons.mp hv with hv | hv
          · rw [hv]; rfl
          · rw [List.mem_singleton.mp hv]; rfl))
        (fun _ _ _ _ _ => by exact er_eqB evT (x := fun j : HT2 × Evt × Addr => meetB j.1.2 j.2.1.1 j.2.1.2) (y := fun j => decide (toldS j.1.1.T j.2.1.1 j.2.1.2 = "met")) (et_callP G.GM hr1 rfl G.gM G.FM.kp G.bM (fun j => (j.1.2, j.2.1.1, j.2.1.2)) (fun j h => by have m := mem_prsL (List.mem_filter.mp h.2).1; exact ⟨h.1.1.nd, ⟨(h.1.1.io _ m.1).1, (h.1.1.io _ m.1).2.1⟩, (h.1.1.io _ m.2.1).1, (h.1.1.io _ m.2.1).2.1⟩) (fun _ _ _ _ h => h) (ea_cons evT (et_var 2) (ea_cons evT (et_var 5) (ea_cons evT (et_var 6) ea_nil)))) (er_eqS evT (x := fun j : HT2 × Evt × Addr => toldS j.1.1.T j.2.1.1 j.2.1.2) (y := fun _ => "met") (et_methP (h := fun j : HT2 × Evt × Addr => j.1.1) (bs := fun j => [oS j.2.1.1, oS j.2.1.2]) rfl Z.cls G.mTo G.GTo hr3 G.bTo (fun j => (j.1.1, j.2.1.1, j.2.1.2)) (fun j h => ⟨mem_prsL (List.mem_filter.mp h.2).1, h.1.2⟩) (fun _ => rfl) (fun _ _ _ _ h => h) (fun _ _ _ _ => rfl) (et_var 0) (ea_cons evT (et_var 5) (ea_cons evT (et_var 6) ea_nil)) (fun ho ha => pe_meth ho Z.cls G.mTo G.GTo hr3 G.bTo .nil pass0 ha)) er_str))
        (fun j h => Nat.le_trans (List.length_filter_le _ _) (by have := prsL_len h.1.few; omega))) (fun j _ => by rw [List.map_map]; rfl))))
      (sw_true rfl rfl rfl (by decide +kernel))) (sw_true rfl rfl rfl (by decide +kernel))))), tRt_start (as := fun j : HT2 => [hR K C j.1, tlR j.2]) p al q⟩
end
end K14

set_option Elab.async false
set_option linter.all false
set_option maxRecDepth 100000
set_option maxHeartbeats 4000000
namespace K14
open PySem PySem.Spec PySem.W PySem.Calls PyProof.Rows L2 MX
/-! sayings -/
inductive Say where
  | met (w : Bool) (a b : Str)
  | bef (e f : Evt)
def Say.w : Say → Str
  | .met true _ _ => "met"
  | .met false _ _ => "not"
  | .bef _ _ => "before"
def Say.a : Say → Str
  | .met _ a _ => a
  | .bef _ _ => ""
def Say.b : Say → Str
  | .met _ _ b => b
  | .bef _ _ => ""
def Say.e : Say → Evt
  | .met _ _ _ => ("", "")
  | .bef e _ => e
def Say.f : Say → Evt
  | .met _ _ _ => ("", "")
  | .bef _ f => f
def Say.r2 : Say → Rd
  | .met _ a _ => oS a
  | .bef e _ => evR e
def Say.r3 : Say → Rd
  | .met _ _ b => oS b
  | .bef _ f => evR f
def syR (s : Say) : Rd := oT [oS s.w, s.r2, s.r3]
def okSay (ps : List Str) : Say → Prop
  | .met _ a b => a ∈ ps ∧ b ∈ ps ∧ a ≠ b
  | .bef e f => evB ps e = true ∧ evB ps f = true ∧ e.1 ≠ f.1
def isMet : Say → Bool
  | .met _ _ _ => true
  | .bef _ _ => false
theorem w_met (s : Say) : decide (s.w ∈ (["met", "not"] : List Str)) = isMet s := by
  cases s with
  | met w a b =>
    cases w with
    | true => show decide (("met" : Str) ∈ (["met", "not"] : List Str)) = true; decide +kernel
    | false => show decide (("not" : Str) ∈ (["met", "not"] : List Str)) = true; decide +kernel
  | bef e f => show decide (("before" : Str) ∈ (["met", "not"] : List Str)) = false; decide +kernel
theorem w_bef (s : Say) : decide (s.w = "before") = !isMet s := by
  cases s with
  | met w a b =>
    cases w with
    | true => show decide (("met" : Str) = "before") = false; decide +kernel
    | false => show decide (("not" : Str) = "before") = false; decide +kernel
  | bef e f => show decide (("before" : Str) = "before") = true; decide +kernel
theorem met_r2 {s : Say} (h : isMet s = true) : s.r2 = oS s.a := by
  cases s with
  | met w a b => rfl
  | bef e f => cases h
theorem met_r3 {s : Say} (h : isMet s = true) : s.r3 = oS s.b := by
  cases s with
  | met w a b => rfl
  | bef e f => cases h
theorem bef_r2 {s : Say} (h : isMet s = false) : s.r2 = evR s.e := by
  cases s with
  | met w a b => cases h
  | bef e f => rfl
theorem bef_r3 {s : Say} (h : isMet s = false) : s.r3 = evR s.f := by
  cases s with
  | met w a b => cases h
  | bef e f => rfl
theorem say_met {ps : List Str} {s : Say} (h : okSay ps s) (m : isMet s = true) : s.a ∈ ps ∧ s.b ∈ ps ∧ s.a ≠ s.b := by
  cases s with
  | met w a b => exact h
  | bef e f => cases m
theorem say_bef {ps : List Str} {s : Say} (h : okSay ps s) (m : isMet s = false) : evB ps s.e = true ∧ evB ps s.f = true ∧ s.e.1 ≠ s.f.1 := by
  cases s with
  | met w a b => cases m
  | bef e f => exact h
abbrev sSaying : Stmt := top 40
abbrev sReqSay : Stmt := top 41
abbrev sHolds : Stmt := top 42
abbrev sIsSo : Stmt := top 43
section
variable {P : Program} {w : World} {K : PySem.W.Frag} {mg : Str → Option Value} {base : Heap} {f C fL fI fR fQ fPl fM fE fTo : Addr} {fd fdL fdI fdR fdQ fdPl fdM fdE fdTo : FuncData}
theorem scTupOf : FnScope ["value", "length"] ["value", "length"] (defScope sTupOf) := ⟨rfl, rfl, rfl, by decide +kernel, rfl, by decide +kernel, by decide +kernel⟩
abbrev spTupOf : Sp := spP (fun _ : List Rd × Int => True) (fun j => [oT j.1, oI j.2]) fun j => oB (decide ((j.1.length : Int) = j.2))
theorem ok_tupOf (F : FnP K "is_tuple_of" sTupOf f fd) (B : Blt mg) : FnOk P w K mg base CX0 1 f fd ["value", "length"] spTupOf := by
  refine F.ok scTupOf (fun vs H Q E h => ?_) (fun cdv A outer s H vs Q E hr h => ?_)
  · obtain ⟨i, _, al, _⟩ := h
    exact al.len
  · obtain ⟨i, p, al, q⟩ := h
    exact ⟨_, PSs.nox (bd_ret (P := fun _ : List Rd × Int => True) (Γ := fun j => [some (oT j.1), some (oI j.2)]) (M := fun _ => []) (res := fun j => oB (decide ((j.1.length : Int) = j.2)))
      (et_and (p := fun _ => true) (er_isTup (rs := fun j : List Rd × Int => j.1) (by rfl) B.isi (by decide +kernel) (by rfl) B.tup boot_tuple (et_var 0)) (et_one (er_eqI evT (x := fun j : List Rd × Int => ((j.1.length : Nat) : Int)) (y := fun j : List Rd × Int => j.2) (er_lenT (rs := fun j : List Rd × Int => j.1) (by rfl) B.len PySem.boot_len (et_var 0)) (et_var 1))))), tRt_start (as := fun j : List Rd × Int => [oT j.1, oI j.2]) p al q⟩
abbrev HSy := HI × Say
abbrev pSay : HSy → Prop := fun j => okSay j.1.ps j.2
theorem scSaying : FnScope ["hall", "value", "word", "one", "other"] ["hall", "value"] (defScope sSaying) := ⟨rfl, rfl, rfl, by decide +kernel, rfl, by decide +kernel, by decide +kernel⟩
theorem ok_saying {fT : Addr} {fdT : FuncData} (F : FnP K "is_saying" sSaying f fd) (Z : TlF K mg C fL fI fdL fdI) (FT : FnP K "is_tuple_of" sTupOf fT fdT) (gT : mg "is_tuple_of" = some (.ref fT)) (GT : FnOk P w K mg base CX0 1 fT fdT ["value", "length"] spTupOf)
    (FE : FnP K "is_event" sEvent fE fdE) (gE : mg "is_event" = some (.ref fE)) (GE : FnOk P w K mg base CX0 2 fE fdE ["hall", "value"] (spEvent K C)) : FnOk P w K mg base CX0 3 f fd ["hall", "value"] (spP pSay (fun j => [hR K C j.1, syR j.2]) fun _ => oB true) := by
  have GI : FnOk P w K mg base CX0 1 fI fdI ["self", "value"] _ := ok_in Z.I Z.cls Z.nPeople
  have bI := bInC Z.I
  have bT : Binds K fdT ["value", "length"] [] := FT.bindsN fun _ _ _ _ _ _ us hl => match us, hl with | [_, _], _ => rfl
  have bE : Binds K fdE ["hall", "value"] [] := FE.bindsN fun _ _ _ _ _ _ us hl => match us, hl with | [_, _], _ => rfl
  refine F.ok scSaying (fun vs H Q E h => ?_) (fun cdv A outer s H vs Q E hr h => ?_)
  · obtain ⟨i, _, al, _⟩ := h
    exact al.len
  · obtain ⟨i, p, al, q⟩ := h
    have hr1 := hr.mono (show 1 ≤ 2 by decide)
    refine ⟨_, PSs.nox (bt_skip (P := pSay) (Γ := fun j => [some (hR K C j.1), some (syR j.2), none, none, none]) (M := fun _ => []) (res := fun _ => oB true)
      (tt_to (tt_not (tt_val (b := fun _ : HSy => true) (et_callP GT hr1 rfl gT FT.kp bT (fun j => ([oS j.2.w, j.2.r2, j.2.r3], 3)) (fun _ _ => trivial) (fun _ _ _ _ h => h) (ea_cons evT (et_var 1) (ea_cons evT er_int ea_nil))))) (fun _ _ => rfl))
      (bd_un3 (k1 := 2) (k2 := 3) (k3 := 4) (r1 := fun j : HSy => oS j.2.w) (r2 := fun j : HSy => j.2.r2) (r3 := fun j : HSy => j.2.r3) rfl scSaying.nd (et_var 1)
      (bt_if (b := fun j : HSy => isMet j.2) (tt_to (tt_inS evT (x := fun j : HSy => j.2.w) (ys := fun _ : HSy => ["met", "not"]) (et_var 2) (er_tup evT (ea_cons evT er_str (ea_cons evT er_str ea_nil)) lit2)) (fun j _ => w_met j.2))
        (bd_ret (et_to (et_and (p := fun j : HSy => decide (j.2.a ∈ j.1.ps)) (er_inH evT (h := fun j : HSy => j.1) (x := fun j : HSy => j.2.a) (b := fun j : HSy => decide (j.2.a ∈ j.1.ps)) rfl Z.kIn Z.tIn GI hr1 bI pass0 (fun j => (j.1, j.2.a)) (fun _ => rfl) (fun _ => rfl) (et_to (et_var (r := fun j : HSy => j.2.r2) 3) (fun j h => ?_)) (et_var 0) rfl)
          (et_and (p := fun j : HSy => decide (j.2.b ∈ j.1.ps)) (er_inH evT (h := fun j : HSy => j.1) (x := fun j : HSy => j.2.b) (b := fun j : HSy => decide (j.2.b ∈ j.1.ps)) rfl Z.kIn Z.tIn GI hr1 bI pass0 (fun j => (j.1, j.2.b)) (fun _ => rfl) (fun _ => rfl) (et_to (et_var (r := fun j : HSy => j.2.r3) 4) (fun j h => ?_)) (et_var 0) rfl)
            (et_one (er_neS evT (x := fun j : HSy => j.2.a) (y := fun j : HSy => j.2.b) (et_to (et_var (r := fun j : HSy => j.2.r2) 3) (fun j h => ?_)) (et_to (et_var (r := fun j : HSy => j.2.r3) 4) (fun j h => ?_)))))) (fun j h => ?_)))
        (bd_ret (et_to (et_and (p := fun _ : HSy => true) (et_to (er_eqS evT (x := fun j : HSy => j.2.w) (y := fun _ : HSy => "before") (et_var 2) er_str) (fun j h => ?_))
          (et_and (p := fun j : HSy => evB j.1.ps j.2.e) (et_callP GE hr rfl gE FE.kp bE (fun j => (j.1, j.2.e)) (fun _ _ => trivial) (fun _ _ _ _ h => h) (ea_cons evT (et_var 0) (ea_cons evT (et_to (et_var (r := fun j : HSy => j.2.r2) 3) (fun j h => ?_)) ea_nil)))
          (et_and (p := fun j : HSy => evB j.1.ps j.2.f) (et_callP GE hr rfl gE FE.kp bE (fun j => (j.1, j.2.f)) (fun _ _ => trivial) (fun _ _ _ _ h => h) (ea_cons evT (et_var 0) (ea_cons evT (et_to (et_var (r := fun j : HSy => j.2.r3) 4) (fun j h => ?_)) ea_nil)))
            (et_one (er_neS evT (x := fun j : HSy => j.2.e.1) (y := fun j : HSy => j.2.f.1) (er_ixT evT (x := fun j : HSy => [oS j.2.e.1, oS j.2.e.2]) (k := 0) (et_to (et_var (r := fun j : HSy => j.2.r2) 3) (fun j h => ?_)) er_int (fun _ _ => rfl) (fun _ _ _ _ => rfl)) (er_ixT evT (x := fun j : HSy => [oS j.2.f.1, oS j.2.f.2]) (k := 0) (et_to (et_var (r := fun j : HSy => j.2.r3) 4) (fun j h => ?_)) er_int (fun _ _ => rfl) (fun _ _ _ _ => rfl))))))) (fun j h => ?_)))))), tRt_start (as := fun j : HSy => [hR K C j.1, syR j.2]) p al q⟩
    · exact met_r2 h.2
    · exact met_r3 h.1.2
    · exact met_r2 h.1.1.2
    · exact met_r3 h.1.1.2
    · obtain ⟨h1, h2, h3⟩ := say_met h.1 h.2
      rw [decide_eq_true h1, decide_eq_true h2, decide_eq_false h3]
      rfl
    · rw [w_bef, h.2]
      rfl
    · exact bef_r2 h.1.2
    · exact bef_r3 h.1.1.2
    · exact bef_r2 h.1.1.1.2
    · exact bef_r3 h.1.1.1.2
    · obtain ⟨h1, h2, h3⟩ := say_bef h.1 h.2
      rw [h1, h2, decide_eq_false h3]
      rfl
theorem scReqSay : FnScope ["hall", "saying"] ["hall", "saying"] (defScope sReqSay) := ⟨rfl, rfl, rfl, by decide +kernel, rfl, by decide +kernel, by decide +kernel⟩
theorem ok_reqSay {fS : Addr} {fdS : FuncData} (F : FnP K "require_saying" sReqSay f fd) (FS : FnP K "is_saying" sSaying fS fdS) (gS : mg "is_saying" = some (.ref fS)) (GS : FnOk P w K mg base CX0 3 fS fdS ["hall", "value"] (spP pSay (fun j => [hR K C j.1, syR j.2]) fun _ => oB true)) :
    FnOk P w K mg base CX0 4 f fd ["hall", "saying"] (spP pSay (fun j => [hR K C j.1, syR j.2]) fun _ => oN) := by
  have bS : Binds K fdS ["hall", "value"] [] := FS.bindsN fun _ _ _ _ _ _ us hl => match us, hl with | [_, _], _ => rfl
  refine F.ok scReqSay (fun vs H Q E h => ?_) (fun cdv A outer s H vs Q E hr h => ?_)
  · obtain ⟨i, _, al, _⟩ := h
    exact al.len
  · obtain ⟨i, p, al, q⟩ := h
    exact ⟨_, PSs.nox (bn_skip (P := pSay) (Γ := fun j => [some (hR K C j.1), some (syR j.2)]) (M := fun _ => []) (tt_to (tt_not (tt_val (b := fun _ : HSy => true) (et_callP GS hr rfl gS FS.kp bS (fun j => j) (fun _ h => h) (fun _ _ _ _ h => h) (ea_cons evT (et_var 0) (ea_cons evT (et_var 1) ea_nil))))) (fun _ _ => rfl))), tRn_start (as := fun j : HSy => [hR K C j.1, syR j.2]) p al q⟩
/-- whether a saying is so, by the places of events -/
def Say.meant : Say → Bool
  | .met w _ _ => w
  | .bef _ _ => true
def holdB (es : List Evt) (s : Say) : Bool := if isMet s = true then decide (meetB es s.a s.b = s.meant) else decide ((es.idxOf s.e : Int) < (es.idxOf s.f : Int))
theorem w_meant {s : Say} (h : isMet s = true) : decide (s.w = "met") = s.meant := by
  cases s with
  | met w a b =>
    cases w with
    | true => show decide (("met" : Str) = "met") = true; decide +kernel
    | false => show decide (("not" : Str) = "met") = false; decide +kernel
  | bef e f => cases h
def memSay (es : List Evt) (s : Say) : Prop := (isMet s = true → (s.a, ("in" : Str)) ∈ es ∧ (s.a, ("out" : Str)) ∈ es ∧ (s.b, ("in" : Str)) ∈ es ∧ (s.b, ("out" : Str)) ∈ es) ∧ (isMet s = false → s.e ∈ es ∧ s.f ∈ es)
abbrev ESy := List Evt × Say
abbrev pHold : ESy → Prop := fun j => j.1.Nodup ∧ memSay j.1 j.2
theorem scHolds : FnScope ["places", "saying", "word", "one", "other"] ["places", "saying"] (defScope sHolds) := ⟨rfl, rfl, rfl, by decide +kernel, rfl, by decide +kernel, by decide +kernel⟩
abbrev spHolds : Sp := spP pHold (fun j => [oD (plT j.1), syR j.2]) fun j => oB (holdB j.1 j.2)
theorem ok_holds (F : FnP K "holds" sHolds f fd) (FM : FnP K "meet" sMeet fM fdM) (gM : mg "meet" = some (.ref fM)) (GM : FnOk P w K mg base CX0 1 fM fdM ["places", "one", "other"] spMeet) : FnOk P w K mg base CX0 2 f fd ["places", "saying"] spHolds := by
  have bM : Binds K fdM ["places", "one", "other"] [] := FM.bindsN fun _ _ _ _ _ _ us hl => match us, hl with | [_, _, _], _ => rfl
  refine F.ok scHolds (fun vs H Q E h => ?_) (fun cdv A outer s H vs Q E hr h => ?_)
  · obtain ⟨i, _, al, _⟩ := h
    exact al.len
  · obtain ⟨i, p, al, q⟩ := h
    have hu := hu_of hr
    refine ⟨_, PSs.nox (bd_un3 (P := pHold) (Γ := fun j => [some (oD (plT j.1)), some (syR j.2), none, none, none]) (M := fun _ => []) (res := fun j => oB (holdB j.1 j.2)) (k1 := 2) (k2 := 3) (k3 := 4) (r1 := fun j => oS j.2.w) (r2 := fun j => j.2.r2) (r3 := fun j => j.2.r3) rfl scHolds.nd (et_var 1)
      (bt_if (b := fun j => !isMet j.2) (tt_to (tt_eqS evT (x := fun j : ESy => j.2.w) (y := fun _ : ESy => "before") (et_var 2) er_str) (fun j _ => w_bef j.2))
        (bd_ret (et_to (er_ltI evT (x := fun j : ESy => (j.1.idxOf j.2.e : Int)) (y := fun j : ESy => (j.1.idxOf j.2.f : Int)) (er_dkey evT (kvs := fun j : ESy => plT j.1) (e := fun j : ESy => j.2.e) hu (et_var 0) (et_to (et_var (r := fun j : ESy => j.2.r2) 3) (fun j h => ?_)) (fun _ _ => rfl) (fun j σ H h => val_pl h.p.1.1 (h.p.1.2.2 (by simpa using h.p.2)).1))
          (er_dkey evT (kvs := fun j : ESy => plT j.1) (e := fun j : ESy => j.2.f) hu (et_var 0) (et_to (et_var (r := fun j : ESy => j.2.r3) 4) (fun j h => ?_)) (fun _ _ => rfl) (fun j σ H h => val_pl h.p.1.1 (h.p.1.2.2 (by simpa using h.p.2)).2))) (fun j h => ?_)))
        (bd_ret (et_to (er_eqB evT (x := fun j : ESy => meetB j.1 j.2.a j.2.b) (y := fun j : ESy => decide (j.2.w = "met")) (et_callP GM (hr.mono (by decide)) rfl gM FM.kp bM (fun j => (j.1, j.2.a, j.2.b)) (fun j h => ?_) (fun _ _ _ _ h => h) (ea_cons evT (et_var 0) (ea_cons evT (et_to (et_var (r := fun j : ESy => j.2.r2) 3) (fun j h => ?_)) (ea_cons evT (et_to (et_var (r := fun j : ESy => j.2.r3) 4) (fun j h => ?_)) ea_nil)))) (er_eqS evT (x := fun j : ESy => j.2.w) (y := fun _ : ESy => "met") (et_var 2) er_str)) (fun j h => ?_))))), tRt_start (as := fun j : ESy => [oD (plT j.1), syR j.2]) p al q⟩
    · exact bef_r2 (by simpa using h.2)
    · exact bef_r3 (by simpa using h.2)
    · have z : isMet j.2 = false := by simpa using h.2
      unfold holdB
      rw [z]
      rfl
    · have z : isMet j.2 = true := by simpa using h.2
      obtain ⟨m1, m2, m3, m4⟩ := h.1.2.1 z
      exact ⟨h.1.1, ⟨m1, m2⟩, m3, m4⟩
    · exact met_r2 (by simpa using h.2)
    · exact met_r3 (by simpa using h.2)
    · have z : isMet j.2 = true := by simpa using h.2
      unfold holdB
      rw [w_meant z, z]
      rfl
theorem evB_in {ps : List Str} {es : List Evt} {e : Evt} (v : VT ps es) (h : evB ps e = true) : e ∈ es := by
  unfold evB at h
  rw [Bool.and_eq_true, decide_eq_true_eq, decide_eq_true_eq] at h
  obtain ⟨n, wy⟩ := e
  have z := v.io n h.1
  have hw : wy = "in" ∨ wy = "out" := by simpa using h.2
  rcases hw with hw | hw
  · rw [hw]; exact z.1
  · rw [hw]; exact z.2.1
theorem mem_say {ps : List Str} {es : List Evt} {s : Say} (v : VT ps es) (h : okSay ps s) : memSay es s :=
  ⟨fun m => by
    obtain ⟨h1, h2, _⟩ := say_met h m
    exact ⟨(v.io _ h1).1, (v.io _ h1).2.1, (v.io _ h2).1, (v.io _ h2).2.1⟩, fun m => by
    obtain ⟨h1, h2, _⟩ := say_bef h m
    exact ⟨evB_in v h1, evB_in v h2⟩⟩
theorem scIsSo : FnScope ["hall", "timeline", "saying"] ["hall", "timeline", "saying"] (defScope sIsSo) := ⟨rfl, rfl, rfl, by decide +kernel, rfl, by decide +kernel, by decide +kernel⟩
abbrev HTSy := HI × List Evt × Say
abbrev pIsSo : HTSy → Prop := fun j => VT j.1.ps j.2.1 ∧ okSay j.1.ps j.2.2
theorem ok_isSo {fRS fH : Addr} {fdRS fdH : FuncData} (F : FnP K "is_so" sIsSo f fd) (G : TlG P w K mg base C fR fQ fPl fM fE fTo fdR fdQ fdPl fdM fdE fdTo) (FRS : FnP K "require_saying" sReqSay fRS fdRS) (gRS : mg "require_saying" = some (.ref fRS)) (GRS : FnOk P w K mg base CX0 4 fRS fdRS ["hall", "saying"] (spP pSay (fun j => [hR K C j.1, syR j.2]) fun _ => oN))
    (FH : FnP K "holds" sHolds fH fdH) (gH : mg "holds" = some (.ref fH)) (GH : FnOk P w K mg base CX0 2 fH fdH ["places", "saying"] spHolds) : FnOk P w K mg base CX0 5 f fd ["hall", "timeline", "saying"] (spP pIsSo (fun j => [hR K C j.1, tlR j.2.1, syR j.2.2]) fun j => oB (holdB j.2.1 j.2.2)) := by
  have bRS : Binds K fdRS ["hall", "saying"] [] := FRS.bindsN fun _ _ _ _ _ _ us hl => match us, hl with | [_, _], _ => rfl
  have bH : Binds K fdH ["places", "saying"] [] := FH.bindsN fun _ _ _ _ _ _ us hl => match us, hl with | [_, _], _ => rfl
  refine F.ok scIsSo (fun vs H Q E h => ?_) (fun cdv A outer s H vs Q E hr h => ?_)
  · obtain ⟨i, _, al, _⟩ := h
    exact al.len
  · obtain ⟨i, p, al, q⟩ := h
    have hr1 := hr.mono (show 1 ≤ 4 by decide)
    have hr2 := hr.mono (show 2 ≤ 4 by decide)
    exact ⟨_, PSs.nox (bd_expr (P := pIsSo) (Γ := fun j => [some (hR K C j.1), some (tlR j.2.1), some (syR j.2.2)]) (M := fun _ => []) (res := fun j => oB (holdB j.2.1 j.2.2)) (r := fun _ => oN) (et_callP G.GQ hr rfl G.gQ G.FQ.kp G.bQ (fun j => (j.1, j.2.1)) (fun _ h => h.1) (fun _ _ _ _ h => h) (ea_cons evT (et_var 0) (ea_cons evT (et_var 1) ea_nil)))
      (bd_expr (r := fun _ => oN) (et_callP GRS hr rfl gRS FRS.kp bRS (fun j => (j.1, j.2.2)) (fun _ h => h.2) (fun _ _ _ _ h => h) (ea_cons evT (et_var 0) (ea_cons evT (et_var 2) ea_nil)))
      (bd_ret (et_callP GH hr2 rfl gH FH.kp bH (fun j => j.2) (fun j h => ⟨h.1.nd, mem_say h.1 h.2⟩) (fun _ _ _ _ h => h) (ea_cons evT (et_call G.GPl hr1 rfl G.gPl G.FPl.kp G.bPl (fun j => j.2.1) (fun j h => h.1.le) (ea_cons evT (et_var 1) ea_nil)) (ea_cons evT (et_var 2) ea_nil)))))), tRt_start (as := fun j : HTSy => [hR K C j.1, tlR j.2.1, syR j.2.2]) p al q⟩
end
end K14

set_option Elab.async false
set_option linter.all false
set_option maxRecDepth 100000
set_option maxHeartbeats 4000000
namespace K14
open PySem PySem.Spec PySem.W PySem.Calls PyProof.Rows L2 MX
abbrev sTurned : Stmt := top 36
abbrev sAreSay : Stmt := top 46
abbrev sBroken : Stmt := inClass (top 47) 2
abbrev sFits : Stmt := inClass (top 47) 1
def turnW (x : Str) : Str := if x = "in" then "out" else "in"
def turnE (es : List Evt) : List Evt := es.reverse.map fun e => (e.1, turnW e.2)
structure Tu (w : World) (K : PySem.W.Frag) (mg : Str → Option Value) (d : Addr) : Prop where
  g : mg "TURNED" = some (.ref d)
  i : KDct K w d "in" (.str "out")
  o : KDct K w d "out" (.str "in")
theorem Tu.at_ {w : World} {K : PySem.W.Frag} {mg : Str → Option Value} {d : Addr} (t : Tu w K mg d) {ps : List Str} {e : Evt} (h : evB ps e = true) : KDct K w d e.2 (.str (turnW e.2)) := by
  unfold evB at h
  rw [Bool.and_eq_true, decide_eq_true_eq, decide_eq_true_eq] at h
  have hw : e.2 = "in" ∨ e.2 = "out" := by simpa using h.2
  rcases hw with hw | hw
  · rw [hw]; exact t.i
  · rw [hw]
    have z : turnW "out" = "in" := by decide +kernel
    rw [z]; exact t.o
section
variable {P : Program} {w : World} {K : PySem.W.Frag} {mg : Str → Option Value} {base : Heap} {f C CB dT fL fI fR fQ fPl fM fE fTo : Addr} {fd fdL fdI fdR fdQ fdPl fdM fdE fdTo : FuncData}
abbrev nTurned : List Str := ["hall", "timeline", "name", "way"]
theorem scTurned : FnScope nTurned ["hall", "timeline"] (defScope sTurned) := ⟨rfl, rfl, rfl, by decide +kernel, rfl, by decide +kernel, by decide +kernel⟩
abbrev gTu (K : PySem.W.Frag) (C : Addr) : HT2 → Gm := fun j => [some (hR K C j.1), some (tlR j.2), none, none]
theorem ok_turned (F : FnP K "turned" sTurned f fd) (B : Blt mg) (hrev : mg "reversed" = none) (t : Tu w K mg dT) (G : TlG P w K mg base C fR fQ fPl fM fE fTo fdR fdQ fdPl fdM fdE fdTo) : FnOk P w K mg base CX0 5 f fd ["hall", "timeline"] (spP pVT (fun j : HT2 => [hR K C j.1, tlR j.2]) fun j => tlR (turnE j.2)) := by
  refine F.ok scTurned (fun vs H Q E h => ?_) (fun cdv A outer s H vs Q E hr h => ?_)
  · obtain ⟨i, _, al, _⟩ := h
    exact al.len
  · obtain ⟨i, p, al, q⟩ := h
    exact ⟨_, PSs.nox (bd_expr (P := pVT) (Γ := gTu K C) (M := fun _ => []) (res := fun j => tlR (turnE j.2)) (r := fun _ => oN) (et_callP G.GQ hr rfl G.gQ G.FQ.kp G.bQ (fun j => j) (fun _ h => h) (fun _ _ _ _ h => h) (ea_cons evT (et_var 0) (ea_cons evT (et_var 1) ea_nil)))
      (bd_ret (er_tupleOf (rs := fun j : HT2 => (turnE j.2).map evR) evT (by rfl) B.tup boot_tuple (et_to (et_lcY (P := pVT) (Γ := gTu K C) (xs := fun j : HT2 => j.2.reverse) (r := fun _ p => oT [oS p.1, oS p.2]) (res := fun _ e => evR (e.1, turnW e.2)) (own := [("name", 2), ("way", 3)]) (g := gTup K 2 (gCons (gName 2) (gCons (gName 3) gNil)))
        (Γ' := fun j : HT2 × Evt × Addr => ((gTu K C j.1).set 2 (some (oS j.2.1.1))).set 3 (some (oS j.2.1.2))) rfl scTurned.nd (RT.pi_revA (by rfl) hrev (et_var 1)) src_rev (blkOk_by (N := nTurned) (sc := defScope sTurned) (by decide +kernel))
        (fun _ _ _ _ _ => by exact pg_tup rfl (pgs_cons (pg_name (i := 2) scTurned.nd rfl (Or.inl rfl)) (pgs_cons (pg_name (i := 3) scTurned.nd rfl (Or.inl rfl)) pgs_nil)))
        (tgt_pair (Γ := gTu K C) (ra := fun _ (p : Evt) => oS p.1) (rb := fun _ (p : Evt) => oS p.2) (k1 := 2) (k2 := 3) (vs := [2, 3]) (by decide) (by decide) (fun i v hv => by
          rcases List.mem_cons.mp hv with hv | hv
          · rw [hv]; rfl
          · rw [List.mem_singleton.mp hv]; rfl))
        (fun _ _ _ _ _ => by exact er_tup (rs := fun j : HT2 × Evt × Addr => [oS j.2.1.1, oS (turnW j.2.1.2)]) evT (ea_cons evT (et_var 2) (ea_cons evT (er_kd evT (f := turnW) (x := fun j : HT2 × Evt × Addr => j.2.1.2) (pe_glob (by rfl) t.g rfl) (et_var 3) (fun _ _ => rfl) (fun j σ H h => t.at_ (h.p.1.ev _ (List.mem_reverse.mp h.p.2)))) ea_nil)) lit2)
        (fun j h => by rw [List.length_reverse]; have := VT.le h; omega)) (fun j _ => by
          show oL _ = oL _
          unfold turnE
          rw [List.map_map]
          rfl))))), tRt_start (as := fun j : HT2 => [hR K C j.1, tlR j.2]) p al q⟩
/-! ### books -/
structure BI where
  h : HI
  ss : List Say
def bR (K : PySem.W.Frag) (C CB : Addr) (b : BI) : Rd := ⟨fun v H => ∃ p dx vh vs, v = .ref p ∧ H p = some (.ins CB dx [("hall", vh), ("sayings", vs)]) ∧ (hR K C b.h).R vh H ∧ (oK K (b.ss.map syR)).R vs H, fun v H H' x hh => by
  obtain ⟨p, dx, vh, vs, e, hp, h1, h2⟩ := hh
  exact ⟨p, dx, vh, vs, e, x _ _ hp (fun _ z => by cases z), (hR K C b.h).st _ _ _ x h1, (oK K _).st _ _ _ x h2⟩⟩
def okBook (b : BI) : Prop := b.ss.length ≤ 30 ∧ ∀ s ∈ b.ss, okSay b.h.ps s
def brokenL (es : List Evt) (ss : List Say) : List Int := (ss.zipIdx.filter fun p => !holdB es p.1).map fun p => ((p.2 : Nat) : Int)
/-- what the defs of books find -/
structure BkF (K : PySem.W.Frag) (C CB : Addr) : Prop where
  cls : Cls K CB
  nHall : NoAttr K CB "hall"
  nSay : NoAttr K CB "sayings"
theorem er_bhall {ι : Type} {Ev : ι → L2.St → Hp → Prop} {M : ι → List Addr} {X : Cx} {e : Expr} {pos : Pos} {b : ι → BI} (hK : X.K = K) (Z : BkF K C CB) (he : PE X e (tR Ev M fun i => bR K C CB (b i))) (hb : attributeBase e "hall" X.env (eval e X.env) = eval e X.env := by rfl) : PE X (.Attribute e "hall" pos) (tR Ev M fun i => hR K C (b i).h) :=
  er_attr hK Z.cls Z.nHall (fun i v H h => by
    obtain ⟨p, dx, vh, vs, e, hp, h1, h2⟩ := h
    exact ⟨p, dx, _, vh, e, hp, rfl, h1⟩) he hb
theorem er_bsay {ι : Type} {Ev : ι → L2.St → Hp → Prop} {M : ι → List Addr} {X : Cx} {e : Expr} {pos : Pos} {b : ι → BI} (hK : X.K = K) (Z : BkF K C CB) (he : PE X e (tR Ev M fun i => bR K C CB (b i))) (hb : attributeBase e "sayings" X.env (eval e X.env) = eval e X.env := by rfl) : PE X (.Attribute e "sayings" pos) (tR Ev M fun i => oK K ((b i).ss.map syR)) :=
  er_attr hK Z.cls Z.nSay (fun i v H h => by
    obtain ⟨p, dx, vh, vs, e, hp, h1, h2⟩ := h
    exact ⟨p, dx, _, vs, e, hp, rfl, h2⟩) he hb
abbrev BT2 := BI × List Evt
abbrev pBk : BT2 → Prop := fun j => VT j.1.h.ps j.2 ∧ okBook j.1
abbrev nBroken : List Str := ["self", "timeline", "places", "number", "saying"]
theorem scBroken : FnScope nBroken ["self", "timeline"] (defScope sBroken) := ⟨rfl, rfl, rfl, by decide +kernel, rfl, by decide +kernel, by decide +kernel⟩
abbrev gBr (K : PySem.W.Frag) (C CB : Addr) : BT2 → Gm := fun j => [some (bR K C CB j.1), some (tlR j.2), some (oD (plT j.2)), none, none]
theorem ok_broken {fH : Addr} {fdH : FuncData} (F : FnM K "broken" "Book.broken" sBroken f fd) (B : Blt mg) (Z : BkF K C CB) (G : TlG P w K mg base C fR fQ fPl fM fE fTo fdR fdQ fdPl fdM fdE fdTo) (FH : FnP K "holds" sHolds fH fdH) (gH : mg "holds" = some (.ref fH)) (GH : FnOk P w K mg base CX0 2 fH fdH ["places", "saying"] spHolds) :
    FnOk P w K mg base CX0 5 f fd ["self", "timeline"] (spP pBk (fun j : BT2 => [bR K C CB j.1, tlR j.2]) fun j => oT ((brokenL j.2 j.1.ss).map oI)) := by
  have bH : Binds K fdH ["places", "saying"] [] := FH.bindsN fun _ _ _ _ _ _ us hl => match us, hl with | [_, _], _ => rfl
  refine F.ok scBroken (fun vs H Q E h => ?_) (fun cdv A outer s H vs Q E hr h => ?_)
  · obtain ⟨i, _, al, _⟩ := h
    exact al.len
  · obtain ⟨i, p, al, q⟩ := h
    have hr1 := hr.mono (show 1 ≤ 4 by decide)
    have hr2 := hr.mono (show 2 ≤ 4 by decide)
    exact ⟨_, PSs.nox (bd_expr (P := pBk) (Γ := fun j => [some (bR K C CB j.1), some (tlR j.2), none, none, none]) (M := fun _ => []) (res := fun j => oT ((brokenL j.2 j.1.ss).map oI)) (r := fun _ => oN) (et_callP G.GQ hr rfl G.gQ G.FQ.kp G.bQ (fun j => (j.1.h, j.2)) (fun _ h => h.1) (fun _ _ _ _ h => h) (ea_cons evT (er_bhall (b := fun j : BT2 => j.1) rfl Z (et_var 0)) (ea_cons evT (et_var 1) ea_nil)))
      (bd_set (k := 2) scBroken.nd (et_call G.GPl hr1 rfl G.gPl G.FPl.kp G.bPl (fun j => j.2) (fun j h => h.1.le) (ea_cons evT (et_var 1) ea_nil))
      (bd_ret (er_tupleOf (rs := fun j : BT2 => (brokenL j.2 j.1.ss).map oI) evT (by rfl) B.tup boot_tuple (et_to (et_lcX (P := pBk) (Γ := gBr K C CB) (xs := fun j : BT2 => j.1.ss.zipIdx) (r := fun _ p => oT [oI ((p.2 : Nat) : Int), syR p.1]) (res := fun _ p => oI ((p.2 : Nat) : Int)) (b := fun j p => !holdB j.2 p.1) (own := [("number", 3), ("saying", 4)]) (g := gTup K 2 (gCons (gName 3) (gCons (gName 4) gNil)))
        (Γ' := fun j : BT2 × (Say × Nat) × Addr => ((gBr K C CB j.1).set 3 (some (oI ((j.2.1.2 : Nat) : Int)))).set 4 (some (syR j.2.1.1))) rfl scBroken.nd (pi_enumP (by rfl) B.enum (pa_cons (er_bsay (b := fun j : BT2 => j.1) rfl Z (et_var 0)) pa_nil)) (src_enumK (xs := fun j : BT2 => j.1.ss) (r := fun _ => syR) fun σ H Q ⟨i, ok, q⟩ => ⟨i, ok, fun v H1 s1 rv => q v H1 s1 rv⟩) (blkOk_by (N := nBroken) (sc := defScope sBroken) (by decide +kernel))
        (fun _ _ _ _ _ => by exact pg_tup rfl (pgs_cons (pg_name (i := 3) scBroken.nd rfl (Or.inl rfl)) (pgs_cons (pg_name (i := 4) scBroken.nd rfl (Or.inl rfl)) pgs_nil)))
        (tgt_pair (Γ := gBr K C CB) (ra := fun _ (p : Say × Nat) => oI ((p.2 : Nat) : Int)) (rb := fun _ (p : Say × Nat) => syR p.1) (k1 := 3) (k2 := 4) (vs := [3, 4]) (by decide) (by decide) (fun i v hv => by
          rcases List.mem_cons.mp hv with hv | hv
          · rw [hv]; rfl
          · rw [List.mem_singleton.mp hv]; rfl))
        (fun _ _ _ _ _ => by exact tt_not (tt_val (b := fun j : BT2 × (Say × Nat) × Addr => holdB j.1.2 j.2.1.1) (et_callP GH hr2 rfl gH FH.kp bH (fun j => (j.1.2, j.2.1.1)) (fun j h => ⟨h.1.1.nd, mem_say h.1.1 (h.1.2.2 _ (by obtain ⟨_, _, e⟩ := List.mem_zipIdx h.2; rw [e]; exact List.getElem_mem _))⟩) (fun _ _ _ _ h => h) (ea_cons evT (et_var 2) (ea_cons evT (et_var 4) ea_nil)))))
        (fun _ _ _ _ _ => et_var 3) (fun j h => by rw [List.length_zipIdx]; have := h.2.1; omega)) (fun j _ => by
          show oL _ = oL _
          unfold brokenL
          rw [List.map_map]
          rfl)))))), tRt_start (as := fun j : BT2 => [bR K C CB j.1, tlR j.2]) p al q⟩
end
end K14

set_option Elab.async false
set_option linter.all false
set_option maxRecDepth 100000
set_option maxHeartbeats 4000000
namespace K14
open PySem PySem.Spec PySem.W PySem.Calls PyProof.Rows L2 MX
abbrev sBookI : Stmt := inClass (top 47) 0
theorem eqv_ints0 : ∀ xs : List Int, PyData.eqv (.tuple (xs.map PyData.int)) (.tuple []) = decide (xs = [])
  | [] => by
    show PyData.eqv (.tuple []) (.tuple []) = decide (([] : List Int) = [])
    rw [show PyData.eqv (.tuple []) (.tuple []) = true by rfl]
    simp
  | x :: xs => by
    show PyData.eqv (.tuple (.int x :: xs.map PyData.int)) (.tuple []) = decide (x :: xs = [])
    rw [show PyData.eqv (.tuple (.int x :: xs.map PyData.int)) (.tuple []) = false by rfl]
    simp
theorem lay_ints : ∀ xs : List Int, PyData.canLayAll0 (xs.map PyData.int) = true ∧ PyData.depthAll (xs.map PyData.int) = 0
  | [] => ⟨by simp [PyData.canLayAll0], by simp [PyData.depthAll]⟩
  | x :: xs => by
    obtain ⟨h1, h2⟩ := lay_ints xs
    exact ⟨by simp [PyData.canLayAll0, PyData.canLay0, h1], by simp [PyData.depthAll, PyData.depth, h2]⟩
theorem shaped_ints (xs : List Int) : SeqAt.shaped (.tuple (xs.map PyData.int)) = true := by
  obtain ⟨h1, h2⟩ := lay_ints xs
  unfold SeqAt.shaped
  simp [PyData.canLay0, PyData.depth, h1, h2]
section
variable {P : Program} {w : World} {K : PySem.W.Frag} {mg : Str → Option Value} {base : Heap} {f C CB fL fI fR fQ fPl fM fE fTo : Addr} {fd fdL fdI fdR fdQ fdPl fdM fdE fdTo : FuncData}
abbrev nAre : List Str := ["hall", "value", "saying"]
theorem scAre : FnScope nAre ["hall", "value"] (defScope sAreSay) := ⟨rfl, rfl, rfl, by decide +kernel, rfl, by decide +kernel, by decide +kernel⟩
abbrev gAre (K : PySem.W.Frag) (C : Addr) : BI → Gm := fun j => [some (hR K C j.h), some (oK K (j.ss.map syR)), none]
abbrev spAre (K : PySem.W.Frag) (C : Addr) : Sp := spP okBook (fun j : BI => [hR K C j.h, oK K (j.ss.map syR)]) fun _ => oB true
theorem ok_are {fS : Addr} {fdS : FuncData} (F : FnP K "are_sayings" sAreSay f fd) (B : Blt mg) (gMost : ∃ t, mg "MOST_SAYINGS" = some (.int 30 t)) (FS : FnP K "is_saying" sSaying fS fdS) (gS : mg "is_saying" = some (.ref fS)) (GS : FnOk P w K mg base CX0 3 fS fdS ["hall", "value"] (spP pSay (fun j => [hR K C j.1, syR j.2]) fun _ => oB true)) :
    FnOk P w K mg base CX0 4 f fd ["hall", "value"] (spAre K C) := by
  have bS : Binds K fdS ["hall", "value"] [] := FS.bindsN fun _ _ _ _ _ _ us hl => match us, hl with | [_, _], _ => rfl
  refine F.ok scAre (fun vs H Q E h => ?_) (fun cdv A outer s H vs Q E hr h => ?_)
  · obtain ⟨i, _, al, _⟩ := h
    exact al.len
  · obtain ⟨i, p, al, q⟩ := h
    refine ⟨_, PSs.nox (bt_skip (P := okBook) (Γ := gAre K C) (M := fun _ => []) (res := fun _ => oB true)
      (tt_to (PW.pt (tw_or (tt_not (tt_val (er_isTupK (rs := fun j : BI => j.ss.map syR) (by rfl) B.isi (by decide +kernel) (by rfl) B.tup boot_tuple (et_var 1)))) (tw_or1 (tt_gtI evT (x := fun j : BI => ((j.ss.map syR).length : Int)) (y := fun _ => 30) (er_lenK (rs := fun j : BI => j.ss.map syR) (by rfl) B.len PySem.boot_len (et_var 1)) (er_globI (by rfl) gMost))))) (fun j h => by
        have := h.1
        show (!true || decide ((30 : Int) < ((j.ss.map syR).length : Int))) = false
        rw [List.length_map]
        simp
        omega))
      (bd_ret (et_to (er_all (bs := fun j : BI => j.ss.map fun _ => true) rfl (by rfl) B.all boot_all (et_to (et_lcY (P := okBook) (Γ := gAre K C) (xs := fun j : BI => j.ss) (r := fun _ => syR) (res := fun _ _ => oB true) (own := [("saying", 2)]) (g := gName 2) (Γ' := fun j : BI × Say × Addr => (gAre K C j.1).set 2 (some (syR j.2.1))) rfl scAre.nd (pi_tup (et_var 1)) src_tupK (blkOk_by (N := nAre) (sc := defScope sAreSay) (by decide +kernel))
        (fun _ _ _ _ _ => pg_name (i := 2) scAre.nd rfl (Or.inl rfl)) (tgt_name (Γ := gAre K C) (k := 2) (vs := [2]) (List.mem_singleton.mpr rfl) (fun i v hv => by rw [List.mem_singleton.mp hv]; rfl))
        (fun _ _ _ _ _ => by exact et_callP GS hr rfl gS FS.kp bS (fun j : BI × Say × Addr => (j.1.h, j.2.1)) (fun j h => h.1.2 _ h.2) (fun _ _ _ _ h => h) (ea_cons evT (et_var 0) (ea_cons evT (et_var 2) ea_nil)))
        (fun j h => by have := h.1; omega)) (fun j _ => by rw [List.map_map]; rfl))) (fun j _ => by
        show oB _ = oB true
        congr 1
        simp)))), tRt_start (P := okBook) (Γ := gAre K C) (as := fun j : BI => [hR K C j.h, oK K (j.ss.map syR)]) p al q⟩
/-! making a book -/
abbrev nBk : List Str := ["self", "hall", "sayings"]
theorem scBk : FnScope nBk nBk (defScope sBookI) := ⟨rfl, rfl, rfl, by decide +kernel, rfl, by decide +kernel, by decide +kernel⟩
def spBook (K : PySem.W.Frag) (C CB : Addr) : Sp := fun vs H Q _ => ∃ (p dx : Addr) (vh vs' : V) (b : BI), vs = [.ref p, vh, vs'] ∧ H p = some (.ins CB dx []) ∧ okBook b ∧ (hR K C b.h).R vh H ∧ (oK K (b.ss.map syR)).R vs' H ∧
  ∀ H', But [p] H H' → H' p = some (.ins CB dx [("hall", vh), ("sayings", vs')]) → Q .non H'
abbrev gBk (K : PySem.W.Frag) (C : Addr) : BI → Gm := fun j => [none, some (hR K C j.h), some (oK K (j.ss.map syR))]
theorem ok_book {fA dB : Addr} {fdA : FuncData} (F : FunD K "__init__" "Book.__init__" (defArgs sBookI) (defBody sBookI) (defScope sBookI) [V.ref dB] [] f fd) (Z : BkF K C CB) (FA : FnP K "are_sayings" sAreSay fA fdA) (gA : mg "are_sayings" = some (.ref fA)) (GA : FnOk P w K mg base CX0 4 fA fdA ["hall", "value"] (spAre K C)) :
    FnOk P w K mg base CX0 5 f fd nBk (spBook K C CB) := by
  have bA : Binds K fdA ["hall", "value"] [] := FA.bindsN fun _ _ _ _ _ _ us hl => match us, hl with | [_, _], _ => rfl
  refine F.ok scBk (fun vs H Q E h => ?_) (fun cdv A outer s H vs Q E hr h => ?_)
  · obtain ⟨p, dx, vh, vs', b, rfl, _⟩ := h
    rfl
  · obtain ⟨p, dx, vh, vs', b, rfl, ep, ok, rh, rs, q⟩ := h
    refine ⟨_, PSs.nox (pss_cons (ps_if (tt_to (q := fun _ => false) (tt_not (tt_val (b := fun _ : BI => true) (et_callP (P := okBook) (Γ := gBk K C) (M := fun _ => []) GA hr rfl gA FA.kp bA (fun j : BI => j) (fun _ h => h) (fun _ _ _ _ h => h) (ea_cons evT (et_var 1) (ea_cons evT (et_var 2) ea_nil))))) (fun _ _ => rfl)) pss_never pss_nil)
      (pss_cons (ps_fld (pv 0) (pv 1) (by rfl)) (pss_one (ps_fld (pv 0) (pv 2) (by rfl))))), ?_⟩
    refine ⟨b, ⟨?_, Live.nil⟩, fun H1 s1 => iteF ?_⟩
    · rw [msk_nil]
      refine ⟨ok, rfl, fun k r e => ?_⟩
      match k, e with
      | 1, e => exact ⟨vh, rfl, by cases e; exact rh⟩
      | 2, e => exact ⟨vs', rfl, by cases e; exact rs⟩
      | (k + 3), e => cases e
    · have e1 := s1 _ _ ep
      refine ⟨_, rfl, _, rfl, p, CB, dx, _, rfl, e1, Z.cls, Z.nHall, (show 0 < 1000 by decide), ?_⟩
      obtain ⟨H2, hH2⟩ : ∃ H2, H2 = L2.upd H1 p (.ins CB dx [("hall", vh)]) := ⟨_, rfl⟩
      show tSeq _ _ _ _ (L2.upd H1 p (.ins CB dx [("hall", vh)]))
      rw [← hH2]
      have e2 : H2 p = some (.ins CB dx [("hall", vh)]) := by rw [hH2, upd_same]
      have b2 : But [p] H H2 := (But.of s1).trans (by rw [hH2]; exact But.refl.up (List.mem_singleton.mpr rfl))
      clear hH2
      refine ⟨_, rfl, _, rfl, p, CB, dx, _, rfl, e2, Z.cls, Z.nSay, (show 1 < 1000 by decide), ?_⟩
      exact q _ (b2.trans (But.refl.up (List.mem_singleton.mpr rfl))) upd_same
/-! what fits -/
abbrev nFits : List Str := ["self", "timeline"]
theorem scFits : FnScope nFits nFits (defScope sFits) := ⟨rfl, rfl, rfl, by decide +kernel, rfl, by decide +kernel, by decide +kernel⟩
abbrev pFits : BT2 → Prop := fun j => pBk j ∧ strT j.1.h.T
def fitsB (j : BT2) : Bool := keepB j.1.h j.2 && decide (brokenL j.2 j.1.ss = [])
theorem ok_fits {fKp fBr : Addr} {fdKp fdBr : FuncData} (F : FnM K "fits" "Book.fits" sFits f fd) (Z : BkF K C CB) (FK : FnP K "keeps" sKeeps fKp fdKp) (gK : mg "keeps" = some (.ref fKp)) (GK : FnOk P w K mg base CX0 5 fKp fdKp ["hall", "timeline"] (spP pKeep (fun j : HT2 => [hR K C j.1, tlR j.2]) fun j => oB (keepB j.1 j.2)))
    (FB : FnM K "broken" "Book.broken" sBroken fBr fdBr) (mB : Meth K CB "broken" fBr) (GB : FnOk P w K mg base CX0 5 fBr fdBr ["self", "timeline"] (spP pBk (fun j : BT2 => [bR K C CB j.1, tlR j.2]) fun j => oT ((brokenL j.2 j.1.ss).map oI))) :
    FnOk P w K mg base CX0 6 f fd nFits (spP pFits (fun j : BT2 => [bR K C CB j.1, tlR j.2]) fun j => oB (fitsB j)) := by
  have bK : Binds K fdKp ["hall", "timeline"] [] := FK.bindsN fun _ _ _ _ _ _ us hl => match us, hl with | [_, _], _ => rfl
  have bB : Binds K fdBr ["self", "timeline"] [] := FB.bindsN fun _ _ _ _ _ _ us hl => match us, hl with | [_, _], _ => rfl
  refine F.ok scFits (fun vs H Q E h => ?_) (fun cdv A outer s H vs Q E hr h => ?_)
  · obtain ⟨i, _, al, _⟩ := h
    exact al.len
  · obtain ⟨i, p, al, q⟩ := h
    have hu := hr.units
    refine ⟨_, PSs.nox (bd_ret (P := pFits) (Γ := fun j => [some (bR K C CB j.1), some (tlR j.2)]) (M := fun _ => []) (res := fun j => oB (fitsB j)) (et_to (et_and (p := fun j : BT2 => keepB j.1.h j.2) (et_callP GK hr rfl gK FK.kp bK (fun j : BT2 => (j.1.h, j.2)) (fun _ h => ⟨h.1.1, h.2⟩) (fun _ _ _ _ h => h) (ea_cons evT (er_bhall (b := fun j : BT2 => j.1) rfl Z (et_var 0)) (ea_cons evT (et_var 1) ea_nil)))
      (et_one (er_eqD evT hu (d := fun j : BT2 => .tuple ((brokenL j.2 j.1.ss).map PyData.int)) (f := fun _ => .tuple []) (et_meth (rr := fun j : BT2 => bR K C CB j.1) (bs := fun j => [tlR j.2]) GB (fun j => j) (fun _ h => h.1.1) (fun _ => rfl) (fun j v H h => by
          obtain ⟨p, dx, vh, vs, e, hp, _, _⟩ := h
          exact ⟨p, dx, _, e, hp, rfl⟩) (et_var 0) (ea_cons evT (et_var 1) ea_nil) (fun ho ha => pe_meth ho Z.cls mB GB hr bB .nil pass0 ha)) (er_tup (rs := fun _ => []) evT ea_nil (fun _ _ _ _ => Nat.zero_le _)) (fun j σ H h => ⟨isD_T (by
          rw [show (brokenL j.2 j.1.ss).map PyData.int = (brokenL j.2 j.1.ss).map fun x => PyData.int x from rfl]
          exact allD_map (fun x => isD_I) _), isD_T trivial, shaped_ints _, by decide⟩)))) (fun j h => by
        show oB _ = oB _
        unfold fitsB
        rw [eqv_ints0]))), tRt_start (as := fun j : BT2 => [bR K C CB j.1, tlR j.2]) p al q⟩
end
end K14

set_option Elab.async false
set_option linter.all false
set_option maxRecDepth 100000
set_option maxHeartbeats 4000000
namespace K14
open PySem PySem.Spec PySem.W PySem.Calls PyProof.Rows L2 MX
abbrev sOrderOf : Stmt := top 35
/-- all pairs of people -/
def allP (ps : List Str) : List Evt := ps.flatMap fun a => ps.map fun b => (a, b)
theorem mem_allP {ps : List Str} {p : Evt} (h : p ∈ allP ps) : p.1 ∈ ps ∧ p.2 ∈ ps := by
  unfold allP at h
  obtain ⟨a, ha, h⟩ := List.mem_flatMap.mp h
  obtain ⟨b, hb, rfl⟩ := List.mem_map.mp h
  exact ⟨ha, hb⟩
theorem allP_map (ps : List Str) (f : Evt → Rd) : (ps.flatMap fun a => (ps.filter fun _ => true).map fun b => f (a, b)) = (allP ps).map f := by
  have e : ps.filter (fun _ => true) = ps := List.filter_eq_self.mpr fun _ _ => rfl
  unfold allP
  rw [List.map_flatMap, e]
  congr 1
  funext a
  rw [List.map_map]
  rfl
theorem allP_len {ps : List Str} (h : ps.length ≤ 9) : (allP ps).length ≤ 1000 := by
  have z : ∀ l : List Str, (l.flatMap fun a => ps.map fun b => (a, b)).length ≤ l.length * 9 := by
    intro l
    induction l with
    | nil => simp
    | cons x l ih =>
      rw [List.flatMap_cons, List.length_append, List.length_map, List.length_cons]
      omega
  have := z ps
  unfold allP
  omega
def ordB (es : List Evt) (p : Evt) : Bool := decide ((es.idxOf (p.1, ("out" : Str)) : Int) < (es.idxOf (p.2, ("in" : Str)) : Int))
def ordL (ps : List Str) (es : List Evt) : List Evt := (allP ps).filter (ordB es)
section
variable {ι : Type} {Ev : ι → L2.St → Hp → Prop} {M : ι → List Addr} {X : Cx} {pos : Pos}
theorem tt_ltI (E : Env Ev) {a b : Expr} {x y : ι → Int} (ha : PE X a (tR Ev M fun i => oI (x i))) (hb : PE X b (tR Ev M fun i => oI (y i))) (h1 : behindInMarks .Lt b = false := by first | exact nobehind _ (by decide) (by decide) | rfl) : PT X (.Compare a [.Lt] [b] pos) (tTR Ev M fun i => decide (x i < y i)) :=
  tt_cmp E op_lt ha hb h1 fun i σ H ev v u rv ru Q q => by
    have e1 : v = .int (x i) := rv
    have e2 : u = .int (y i) := ru
    subst e1 e2
    exact ⟨_, _, rfl, rfl, q⟩
end
section
variable {P : Program} {w : World} {K : PySem.W.Frag} {mg : Str → Option Value} {base : Heap} {f C fL fI fR fQ fPl fM fE fTo : Addr} {fd fdL fdI fdR fdQ fdPl fdM fdE fdTo : FuncData}
abbrev nOrd : List Str := ["hall", "timeline", "places", "pairs", "one", "other"]
theorem scOrd : FnScope nOrd ["hall", "timeline"] (defScope sOrderOf) := ⟨rfl, rfl, rfl, by decide +kernel, rfl, by decide +kernel, by decide +kernel⟩
abbrev pVT2 : HT2 → Prop := fun j => VT j.1.ps j.2
abbrev gO2 (K : PySem.W.Frag) (C : Addr) : HT2 → Gm := fun j => [some (hR K C j.1), some (tlR j.2), some (oD (plT j.2)), none, none, none]
abbrev gO3 (K : PySem.W.Frag) (C : Addr) : HT2 → Gm := fun j => [some (hR K C j.1), some (tlR j.2), some (oD (plT j.2)), some (oL (j.1.ps.flatMap fun a => (j.1.ps.filter fun _ => true).map fun b => evR (a, b))), none, none]
theorem ok_orderOf (F : FnP K "order_of" sOrderOf f fd) (B : Blt mg) (hs : mg "sorted" = none) (Z : TlF K mg C fL fI fdL fdI) (G : TlG P w K mg base C fR fQ fPl fM fE fTo fdR fdQ fdPl fdM fdE fdTo) : FnOk P w K mg base CX0 5 f fd ["hall", "timeline"] (spP pVT2 (fun j : HT2 => [hR K C j.1, tlR j.2]) fun j => oT ((srtE (ordL j.1.ps j.2)).map evR)) := by
  refine F.ok scOrd (fun vs H Q E h => ?_) (fun cdv A outer s H vs Q E hr h => ?_)
  · obtain ⟨i, _, al, _⟩ := h
    exact al.len
  · obtain ⟨i, p, al, q⟩ := h
    have hr1 := hr.mono (show 1 ≤ 4 by decide)
    have hu := hu_of hr
    refine ⟨_, PSs.nox (bd_expr (P := pVT2) (Γ := fun j => [some (hR K C j.1), some (tlR j.2), none, none, none, none]) (M := fun _ => []) (res := fun j => oT ((srtE (ordL j.1.ps j.2)).map evR)) (r := fun _ => oN) (et_callP G.GQ hr rfl G.gQ G.FQ.kp G.bQ (fun j => j) (fun _ h => h) (fun _ _ _ _ h => h) (ea_cons evT (et_var 0) (ea_cons evT (et_var 1) ea_nil)))
      (bd_set (k := 2) scOrd.nd (et_call G.GPl hr1 rfl G.gPl G.FPl.kp G.bPl (fun j => j.2) (fun j h => h.le) (ea_cons evT (et_var 1) ea_nil))
      (bd_setLc2 (P := pVT2) (Γ := gO2 K C) (xs := fun j : HT2 => j.1.ps) (ys := fun j _ => j.1.ps) (r := fun _ => oS) (r1 := fun _ _ => oS) (res := fun _ a b => evR (a, b)) (b := fun _ _ _ => true) (k := 3) (k1 := 4) (k2 := 5) (tt := tYes) rfl scOrd.nd (fun _ => rfl) (fun _ => rfl) (by decide)
        (pi_tup (er_people evT rfl Z.cls Z.nPeople (et_var 0))) src_tup (blkOk_by (N := nOrd) (sc := defScope sOrderOf) (by decide +kernel)) (fun _ _ _ _ _ => pg_name (i := 4) scOrd.nd rfl (Or.inl rfl))
        (fun _ _ _ _ _ => pi_tup (er_people evT rfl Z.cls Z.nPeople (et_var 0))) src_tup (fun _ _ _ _ _ => pg_name (i := 5) scOrd.nd rfl (Or.inl rfl))
        (fun _ _ _ _ _ => pts_nil) (fun j σ H Q ok q => q H (Same.refl H))
        (fun _ _ _ _ _ => er_tup evT (ea_cons evT (et_var 4) (ea_cons evT (et_var 5) ea_nil)) lit2) (fun j h => ⟨by have := h.few; omega, fun _ _ => by have := h.few; omega⟩)
      (bd_ret (er_tupleOf evT (by rfl) B.tup boot_tuple (er_sortE evT (by rfl) hs boot_sorted (es := fun j : HT2 => ordL j.1.ps j.2) (et_lcX (P := pVT2) (Γ := gO3 K C) (xs := fun j : HT2 => allP j.1.ps) (r := fun _ p => oT [oS p.1, oS p.2]) (res := fun _ => evR) (b := fun j p => ordB j.2 p) (own := [("one", 4), ("other", 5)]) (g := gTup K 2 (gCons (gName 4) (gCons (gName 5) gNil)))
        (Γ' := fun j : HT2 × Evt × Addr => ((gO3 K C j.1).set 4 (some (oS j.2.1.1))).set 5 (some (oS j.2.1.2))) rfl scOrd.nd (pi_list (et_to (et_var 3) (fun j _ => by
          show oL _ = oL _
          rw [allP_map j.1.ps evR]; rfl))) src_list (blkOk_by (N := nOrd) (sc := defScope sOrderOf) (by decide +kernel))
        (fun _ _ _ _ _ => by exact pg_tup rfl (pgs_cons (pg_name (i := 4) scOrd.nd rfl (Or.inl rfl)) (pgs_cons (pg_name (i := 5) scOrd.nd rfl (Or.inl rfl)) pgs_nil)))
        (tgt_pair (Γ := gO3 K C) (ra := fun _ (p : Evt) => oS p.1) (rb := fun _ (p : Evt) => oS p.2) (k1 := 4) (k2 := 5) (vs := [4, 5]) (by decide) (by decide) (fun i v hv => by
          rcases List.mem_cons.mp hv with hv | hv
          · rw [hv]; rfl
          · rw [List.mem_singleton.mp hv]; rfl))
        (fun _ _ _ _ _ => by exact tt_to (tt_ltI (x := fun j : HT2 × Evt × Addr => (j.1.2.idxOf (j.2.1.1, ("out" : Str)) : Int)) (y := fun j : HT2 × Evt × Addr => (j.1.2.idxOf (j.2.1.2, ("in" : Str)) : Int)) evT (er_dkey evT (kvs := fun j => plT j.1.2) (e := fun j => (j.2.1.1, ("out" : Str))) hu (et_var 2) (er_tup evT (ea_cons evT (et_var 4) (ea_cons evT er_str ea_nil)) lit2) (fun _ _ => rfl) (fun j σ H h => val_pl h.p.1.nd (h.p.1.io _ (mem_allP h.p.2).1).2.1)) (er_dkey evT (kvs := fun j => plT j.1.2) (e := fun j => (j.2.1.2, ("in" : Str))) hu (et_var 2) (er_tup evT (ea_cons evT (et_var 5) (ea_cons evT er_str ea_nil)) lit2) (fun _ _ => rfl) (fun j σ H h => val_pl h.p.1.nd (h.p.1.io _ (mem_allP h.p.2).2).1))) (fun _ _ => rfl))
        (fun _ _ _ _ _ => er_tup evT (ea_cons evT (et_var 4) (ea_cons evT (et_var 5) ea_nil)) lit2) (fun j h => by have := allP_len h.few; omega)))))
      (sw_true rfl rfl rfl (by decide +kernel))))), tRt_start (as := fun j : HT2 => [hR K C j.1, tlR j.2]) p al q⟩
end
end K14

set_option Elab.async false
set_option linter.all false
set_option maxRecDepth 100000
set_option maxHeartbeats 4000000
namespace K14
open PySem PySem.Spec PySem.W PySem.Calls PyProof.Rows L2 MX
abbrev sLineBy : Stmt := top 54
def lineBy (ns : List Str) (z : Str) : List Evt := z.cps.toList.zipIdx.map fun p => (ns.getD (p.1 - 48) "", if p.1 ∈ z.cps.toList.take p.2 then "out" else "in")
theorem cut_list (z : Str) (n : Nat) : (cutS z none (some (n : Int))).cps.toList = z.cps.toList.take n := by
  have h0 : HT.sIx z.length 0 none = 0 := rfl
  have h1 : HT.sIx z.length z.length (some (n : Int)) = min n z.length := by
    unfold HT.sIx
    simp
    try omega
  unfold cutS
  rw [h0, h1]
  simp
  rw [show z.length = z.cps.size from rfl]
  simp
theorem int_mark {c : Nat} (h : c = 48 ∨ c = 49 ∨ c = 50) : PySem.intText? ⟨#[c]⟩ = some (((c - 48 : Nat)) : Int) ∧ c - 48 < 3 := by
  rcases h with h | h | h <;> (subst h; decide +kernel)
section
variable {P : Program} {w : World} {K : PySem.W.Frag} {mg : Str → Option Value} {base : Heap} {f : Addr} {fd : FuncData}
abbrev nLine : List Str := ["_law_names_here", "_law_marks", "_law_found", "_law_at", "_law_mark"]
theorem scLine : FnScope nLine ["_law_names_here", "_law_marks"] (defScope sLineBy) := ⟨rfl, rfl, rfl, by decide +kernel, rfl, by decide +kernel, by decide +kernel⟩
abbrev NM := List Str × Str
abbrev pLine : NM → Prop := fun j => j.1.length = 3 ∧ j.2.cps.toList.length ≤ 100 ∧ ∀ c ∈ j.2.cps.toList, c = 48 ∨ c = 49 ∨ c = 50
abbrev spLine : Sp := spP pLine (fun j : NM => [oSL j.1, oS j.2]) fun j => tlR (lineBy j.1 j.2)
abbrev gLn : NM → Gm := fun j => [some (oSL j.1), some (oS j.2), none, none, none]
theorem mem_zip {α : Type} {xs : List α} {p : α × Nat} (h : p ∈ xs.zipIdx) : p.1 ∈ xs := by
  obtain ⟨_, _, e⟩ := List.mem_zipIdx h
  rw [e]
  exact List.getElem_mem _
theorem ok_line (F : FnP K "_law_line_by" sLineBy f fd) (henum : mg "enumerate" = none) (hint : mg "int" = none) (htup : mg "tuple" = none) : FnOk P w K mg base CX0 1 f fd ["_law_names_here", "_law_marks"] spLine := by
  refine F.ok scLine (fun vs H Q E h => ?_) (fun cdv A outer s H vs Q E hr h => ?_)
  · obtain ⟨i, _, al, _⟩ := h
    exact al.len
  · obtain ⟨i, p, al, q⟩ := h
    refine ⟨_, PSs.nox (bd_grow (P := pLine) (Γ := gLn) (res := fun j => tlR (lineBy j.1 j.2)) (k := 2) (rs := fun _ => []) scLine.nd ea_nil (fun _ _ => Nat.zero_le _) (fun _ => rfl)
      (grow_for (xs := fun j : NM => j.2.cps.toList.zipIdx) (r := fun _ p => oT [oI ((p.2 : Nat) : Int), oS ⟨#[p.1]⟩]) (rr := fun j p => evR (j.1.getD (p.1 - 48) "", if p.1 ∈ j.2.cps.toList.take p.2 then "out" else "in")) (k := 2) (vs := [3, 4]) (g := gTup K 2 (gCons (gName 3) (gCons (gName 4) gNil)))
        (Γ' := fun j : (NM × Addr) × (Nat × Nat) => ((gLn j.1.1).set 3 (some (oI ((j.2.2 : Nat) : Int)))).set 4 (some (oS ⟨#[j.2.1]⟩))) PassesOwn.never rfl (pi_enumTx (by rfl) henum (pa_cons (et_var (r := fun j : NM × Addr => oS j.1.2) 1) pa_nil))
        (src_enumTx (z := fun j : NM × Addr => j.1.2) fun σ H Q ⟨i, ok, q⟩ => ⟨i, ok, fun v H1 s1 rv => q v H1 s1 rv⟩) (pg_tup rfl (pgs_cons (pg_name (i := 3) scLine.nd rfl (Or.inl rfl)) (pgs_cons (pg_name (i := 4) scLine.nd rfl (Or.inl rfl)) pgs_nil)))
        (tgtF_2 (ra := fun (_ : NM × Addr) (p : Nat × Nat) => oI ((p.2 : Nat) : Int)) (rb := fun (_ : NM × Addr) (p : Nat × Nat) => oS ⟨#[p.1]⟩)) (by decide)
        (es_append2 evT 2 (er_tup (rs := fun j : (NM × Addr) × (Nat × Nat) => [oS (j.1.1.1.getD (j.2.1 - 48) ""), oS (if j.2.1 ∈ j.1.1.2.cps.toList.take j.2.2 then "out" else "in")]) evT (ea_cons evT
            (er_ixN evT (k := fun j => j.2.1 - 48) (x := fun j : (NM × Addr) × (Nat × Nat) => j.1.1.1.map oS) (et_var 0) (er_intS (z := fun j : (NM × Addr) × (Nat × Nat) => ⟨#[j.2.1]⟩) (n := fun j => ((j.2.1 - 48 : Nat) : Int)) (by rfl) hint boot_int (et_var 4) (fun j σ H h => ⟨(int_mark (h.p.1.2.2 _ (mem_zip h.p.2))).1, by show 1 ≤ 640; decide⟩)) (fun _ _ => rfl) (fun j σ H h => by
              have z := (int_mark (h.p.1.2.2 _ (mem_zip h.p.2))).2
              have l := h.p.1.1
              have lt : j.2.1 - 48 < j.1.1.1.length := by rw [l]; exact z
              rw [List.getElem?_map, List.getElem?_eq_getElem lt, List.getD_eq_getElem?_getD, List.getElem?_eq_getElem lt]
              rfl))
            (ea_cons evT (er_ifE evT (t := fun j : (NM × Addr) × (Nat × Nat) => decide (j.2.1 ∈ j.1.1.2.cps.toList.take j.2.2)) (tt_to (tt_inC evT (c := fun j : (NM × Addr) × (Nat × Nat) => j.2.1) (z := fun j => cutS j.1.1.2 none (some ((j.2.2 : Nat) : Int))) (et_var 4) (er_cutS evT (z := fun j : (NM × Addr) × (Nat × Nat) => j.1.1.2) (n := fun j => j.2.2) (et_var 1) (et_var 3) (fun j σ H h => by
                have := h.p.1.2.1
                rw [sizeLine_eq]
                have e : j.1.1.2.length = j.1.1.2.cps.toList.length := by rw [Array.length_toList]; rfl
                omega)) (by rfl)) (fun j _ => by rw [cut_list])) (er_to er_str (fun j σ H h v H' q => by
                  have z := of_decide_eq_true h.2
                  show v = V.str _
                  rw [if_pos z]
                  exact q)) (er_to er_str (fun j σ H h v H' q => by
                  have z := of_decide_eq_false h.2
                  show v = V.str _
                  rw [if_neg z]
                  exact q))) ea_nil)) lit2))
        (fun j h => by rw [List.length_zipIdx]; have := h.2.1; show 0 + _ ≤ 1000; omega) (fun _ => rfl) (fun j k r e => by
          match k, e with
          | 0, e => exact e
          | 1, e => exact e
          | 2, e => cases e
          | 3, e => cases e
          | 4, e => cases e
          | (k + 5), e => cases e)
      (grow_done (fun _ => rfl) (bd_ret (er_tupleOf evT (by rfl) htup boot_tuple (et_to (er_un (rs := fun j : NM => [] ++ j.2.cps.toList.zipIdx.map fun p => evR (j.1.getD (p.1 - 48) "", if p.1 ∈ j.2.cps.toList.take p.2 then "out" else "in")) (et_var 2)) (fun j _ => by
        show oL _ = oL ((lineBy j.1 j.2).map evR)
        unfold lineBy
        rw [List.map_map]
        rfl))))))), tRt_start (P := pLine) (Γ := gLn) (as := fun j : NM => [oSL j.1, oS j.2]) p al q⟩
end
end K14

set_option Elab.async false
set_option linter.all false
set_option maxRecDepth 100000
set_option maxHeartbeats 4000000
namespace K14
open PySem PySem.Spec PySem.W PySem.Calls PyProof.Rows L2 MX
abbrev sPot : Stmt := top 49
abbrev sTake : Stmt := top 50
abbrev sSome : Stmt := top 51
abbrev sPlaces : Stmt := top 52
abbrev sNames : Stmt := top 53
structure BltD (mg : Str → Option Value) : Prop where
  len : mg "len" = none
  int : mg "int" = none
  abs : mg "abs" = none
  range : mg "range" = none
  max : mg "max" = none
  min : mg "min" = none
  list : mg "list" = none
theorem b01 (b : Bool) : -(2 ^ 64) < (if b = true then (1 : Int) else 0) ∧ (if b = true then (1 : Int) else 0) < 2 ^ 64 := by cases b <;> decide
theorem sq_le {c : Int} (h0 : 0 ≤ c) (h1 : c + 1 ≤ 1000000) : 0 ≤ 95375 * (c + 1) * (c + 1) ∧ 95375 * (c + 1) * (c + 1) ≤ 95375000000000000 := by
  have a : 0 ≤ 95375 * (c + 1) := by omega
  have b : 95375 * (c + 1) ≤ 95375000000 := by omega
  exact ⟨Int.mul_nonneg a (by omega), Int.le_trans (Int.mul_le_mul b h1 (by omega) (by omega)) (by decide)⟩
theorem pot0 (x : Int) {m y : Int} {b : Bool} (hm : 0 < m) : PotO 0 (.lst [.int (x % m * (if b = true then 1 else 0)), .int (y % 2305843009213693921), .int 0]) := by
  refine ⟨_, _, _, rfl, ?_, Int.emod_nonneg _ (by decide), ?_, Int.le_refl _, Int.le_refl _⟩
  · have h := Int.emod_nonneg x (show m ≠ 0 by omega)
    cases b
    · simp
    · simpa using h
  · have h := Int.emod_lt_of_pos y (show (0 : Int) < 2305843009213693921 by decide)
    omega
section
variable {P : Program} {w : World} {K : PySem.W.Frag} {mg : Str → Option Value} {base : Heap} {f : Addr} {fd : FuncData}
theorem scP : FnScope ["_law_script", "_law_k", "_law_cell", "_law_own", "_law_small"] ["_law_script", "_law_k"] (defScope sPot) := ⟨rfl, rfl, rfl, by decide +kernel, rfl, by decide +kernel, by decide +kernel⟩
theorem ok_pot (F : FnP K "_law_pot" sPot f fd) (B : BltD mg) : FnOk P w K mg base CX0 1 f fd ["_law_script", "_law_k"] (spPot K) := by
  refine F.ok scP (fun vs H Q E h => ?_) (fun cdv A outer s H vs Q E hr h => ?_)
  · obtain ⟨a, ns, k, rfl, _⟩ := h
    rfl
  · obtain ⟨a, ns, k, rfl, hS, hn, hk, q⟩ := h
    refine ⟨_, PSs.nox (pss_cons (ps_set (i := 2) scP.nd rfl (Or.inl rfl) (pe_ifExp (pt_cmpR op_lt (pv 1) (pe_callB call_len_seq (by rfl) B.len PySem.boot_len (pa_cons (pv 0) pa_nil)) (nomark _)) (pe_ix ix_list (pv 0) (pv 1) (fun _ _ => rfl)) (pe_op op_add (pe_op op_mul pe_int (pv 1)) pe_int)))
      (pss_cons (ps_set (i := 3) scP.nd rfl (Or.inl rfl) (pe_op op_mul (pe_op op_mod (pe_callTy call_int1 (by rfl) B.int boot_int (pa_cons (pe_callB call_abs (by rfl) B.abs boot_abs (pa_cons (pv 2) pa_nil)) pa_nil)) (pe_op op_powW (pe_op op_powW pe_int pe_int) pe_int))
          (pe_callTy call_int1 (by rfl) B.int boot_int (pa_cons (pe_cmpR op_ge (pe_callB call_abs (by rfl) B.abs boot_abs (pa_cons (pv 2) pa_nil)) (pe_op op_powW pe_int pe_int) (nomark _)) pa_nil))))
      (pss_cons (ps_set (i := 4) scP.nd rfl (Or.inl rfl) (pe_op op_mod (pe_callTy call_int1 (by rfl) B.int boot_int (pa_cons (pv 2) pa_nil)) pe_int))
      (pss_one (ps_ret (pe_lst (pa_cons (pv 3) (pa_cons (pe_op op_mod (pe_callTy call_int1 (by rfl) B.int boot_int (pa_cons (pe_op op_add (pe_op op_add (pe_op op_mul (pv 4) pe_int) (pe_op op_mul (pe_op op_mul pe_int (pv 1)) (pv 1))) pe_int) pa_nil)) pe_int) (pa_cons pe_int pa_nil))))))))), ?_⟩
    have len_eq : (ns.map V.int).length = ns.length := List.length_map _
    refine ⟨_, rfl, _, rfl, _, _, rfl, .inl hS, _, _, rfl, rfl, _, rfl, ite2 (fun hlt => ?_) (fun hlt => ?_)⟩
    · have hlt' : k < ns.length := by have z := of_decide_eq_true hlt; rw [len_eq] at z; omega
      refine ⟨_, rfl, _, rfl, _, _, _, _, rfl, rfl, hS, atI_nat (v := V.int ns[k]) (by rw [List.getElem?_map, List.getElem?_eq_getElem hlt']; rfl), ?_⟩
      generalize ns[k] = c
      exact ⟨_, rfl, c, rfl, .inl ⟨_, rfl, _, _, rfl, rfl, ⟨by decide, by decide +kernel⟩, _, _, rfl, rfl, ⟨by decide, by decide +kernel⟩, _, _, rfl, rfl, (show (0 : Int) < (10 ^ Int.toNat 60) ^ Int.toNat 5 by decide +kernel),
        _, rfl, c, rfl, _, _, rfl, rfl, ⟨by decide, by decide +kernel⟩, _, _, rfl, rfl, .inr ⟨_, rfl, _, _, rfl, rfl, .inr (b01 _),
        _, rfl, .inl ⟨_, rfl, _, _, rfl, rfl, (by decide : (0 : Int) < 2305843009213693951),
        _, rfl, _, rfl, _, _, rfl, rfl, .inr ⟨by decide, by decide⟩, _, rfl, _, _, rfl, rfl, .inl ⟨by decide, by decide⟩, _, rfl, _, _, rfl, rfl, .inr ⟨by omega, by omega⟩, _, _, rfl, rfl, _, _, rfl, rfl,
        .inl ⟨_, rfl, _, _, rfl, rfl, (by decide : (0 : Int) < 2305843009213693921), (by show 3 ≤ sizeLine; decide), fun p hp => q p _ hp (pot0 _ (by decide +kernel))⟩⟩⟩⟩⟩
    · refine ⟨_, rfl, _, _, rfl, rfl, .inl ⟨by decide, by decide⟩, _, _, rfl, rfl, ?_⟩
      exact ⟨_, rfl, _, rfl, .inl ⟨_, rfl, _, _, rfl, rfl, ⟨by decide, by decide +kernel⟩, _, _, rfl, rfl, ⟨by decide, by decide +kernel⟩, _, _, rfl, rfl, (show (0 : Int) < (10 ^ Int.toNat 60) ^ Int.toNat 5 by decide +kernel),
        _, rfl, _, rfl, _, _, rfl, rfl, ⟨by decide, by decide +kernel⟩, _, _, rfl, rfl, .inr ⟨_, rfl, _, _, rfl, rfl, .inr (b01 _),
        _, rfl, .inl ⟨_, rfl, _, _, rfl, rfl, (by decide : (0 : Int) < 2305843009213693951),
        _, rfl, _, rfl, _, _, rfl, rfl, .inr ⟨by decide, by decide⟩, _, rfl, _, _, rfl, rfl, .inl ⟨by decide, by decide⟩, _, rfl, _, _, rfl, rfl, .inr ⟨by omega, by omega⟩, _, _, rfl, rfl, _, _, rfl, rfl,
        .inl ⟨_, rfl, _, _, rfl, rfl, (by decide : (0 : Int) < 2305843009213693921), (by show 3 ≤ sizeLine; decide), fun p hp => q p _ hp (pot0 _ (by decide +kernel))⟩⟩⟩⟩⟩
theorem scT : FnScope ["_law_pot_here", "_law_upto", "_law_digit", "_law_prime", "_law_blend"] ["_law_pot_here", "_law_upto"] (defScope sTake) := ⟨rfl, rfl, rfl, by decide +kernel, rfl, by decide +kernel, by decide +kernel⟩
theorem ok_take (F : FnP K "_law_take" sTake f fd) (B : BltD mg) : FnOk P w K mg base CX0 1 f fd ["_law_pot_here", "_law_upto"] spTake := by
  refine F.ok scT (fun vs H Q E h => ?_) (fun cdv A outer s H vs Q E hr h => ?_)
  · obtain ⟨p, u, n, rfl, _⟩ := h
    rfl
  · obtain ⟨p, u, n, rfl, ⟨o, ho, a, sd, c, rfl, ha, hs0, hs1, hc0, hc1⟩, hn, hu0, hu1, q⟩ := h
    refine ⟨_, PSs.nox (pss_cons (ps_if (pt_cmpR op_gt (pe_ix ix_list (pv 0) pe_int (fun _ _ => rfl)) pe_int (nomark _))
        (pss_cons (ps_set (i := 2) scT.nd rfl (Or.inl rfl) (pe_op op_mod (pe_callTy call_int1 (by rfl) B.int boot_int (pa_cons (pe_ix ix_list (pv 0) pe_int (fun _ _ => rfl)) pa_nil)) (pv 1)))
        (pss_cons (ps_asg (pe_op op_fdiv (pe_ix ix_list (pv 0) pe_int (fun _ _ => rfl)) (pv 1)) (pg_sub (pv 0) pe_int set_list))
        (pss_one (ps_ret (pv 2))))) pss_nil)
      (pss_cons (ps_asg (pe_op op_add (pe_ix ix_list (pv 0) pe_int (fun _ _ => rfl)) pe_int) (pg_sub (pv 0) pe_int set_list))
      (pss_cons (ps_set (i := 3) scT.nd rfl (Or.inl rfl) (pe_ix ix_list (pe_lst (pa_cons pe_int (pa_cons pe_int (pa_cons pe_int (pa_cons pe_int (pa_cons pe_int pa_nil)))))) (pe_op op_mod (pe_callTy call_int1 (by rfl) B.int boot_int (pa_cons (pe_ix ix_list (pv 0) pe_int (fun _ _ => rfl)) pa_nil)) pe_int) (fun _ _ => rfl)))
      (pss_cons (ps_set (i := 4) scT.nd rfl (Or.inl rfl) (pe_op op_mod (pe_callTy call_int1 (by rfl) B.int boot_int (pa_cons (pe_op op_pow (pe_callTy call_int1 (by rfl) B.int boot_int (pa_cons (pe_op op_add (pe_op op_add (pe_ix ix_list (pv 0) pe_int (fun _ _ => rfl))
          (pe_op op_mul (pe_op op_mul pe_int (pe_ix ix_list (pv 0) pe_int (fun _ _ => rfl))) (pe_ix ix_list (pv 0) pe_int (fun _ _ => rfl)))) pe_int) pa_nil)) pe_int) pa_nil)) (pv 3)))
      (pss_one (ps_ret (pe_op op_mod (pe_callTy call_int1 (by rfl) B.int boot_int (pa_cons (pe_op op_fdiv (pe_op op_mul (pv 4) (pe_op op_add (pe_op op_mod (pe_callTy call_int1 (by rfl) B.int boot_int (pa_cons (pv 4) pa_nil)) pe_int)
          (pe_op op_mul pe_int (pe_ix ix_list (pv 0) pe_int (fun _ _ => rfl))))) pe_int) pa_nil)) (pv 1)))))))), ?_⟩
    refine ⟨_, rfl, p, _, _, _, rfl, rfl, SqL.of ho, rfl, _, _, rfl, rfl, _, rfl, ite2 (fun hgt => ?_) (fun hgt => ?_)⟩
    · refine ⟨_, rfl, p, _, _, _, rfl, rfl, SqL.of ho, rfl, .inl ⟨_, rfl, _, rfl, _, _, rfl, rfl, hu0, _, rfl, p, _, _, _, rfl, rfl, SqL.of ho, rfl, _, rfl, _, _, rfl, rfl, ⟨hu0, by omega⟩, _, rfl, p, _, _, _, rfl, rfl, ho, rfl, _, rfl, ?_⟩⟩
      exact q _ _ (Int.emod_nonneg _ (by omega)) (Int.emod_lt_of_pos _ hu0) (Ext.upd p H _) (Pot.upd ⟨_, _, _, rfl, Int.ediv_nonneg ha (by omega), hs0, hs1, hc0, by omega⟩)
    · refine ⟨_, rfl, p, _, _, _, rfl, rfl, SqL.of ho, rfl, _, _, rfl, rfl, _, rfl, p, _, _, _, rfl, rfl, ho, rfl, ?_⟩
      have hc' : c + 1 ≤ 1000000 := by omega
      refine ⟨(by show 5 ≤ sizeLine; decide), fun l hl => ?_⟩
      have npl : p ≠ l := ne_of_none upd_same hl
      have hp2 : (L2.upd (L2.upd H p (HO.lst [V.int a, V.int sd, V.int (c + 1)])) l (HO.lst [V.int 2147483647, V.int 2147483629, V.int 2147483587, V.int 2147483579, V.int 2147483563])) p = some (HO.lst [V.int a, V.int sd, V.int (c + 1)]) := by
        rw [upd_ne npl, upd_same]
      obtain ⟨j, hj, hj5⟩ : ∃ j : Nat, (c + 1) % 5 = (j : Int) ∧ j < 5 := ⟨((c + 1) % 5).toNat, by omega, by omega⟩
      obtain ⟨pr, hpr, hp0, hp1⟩ : ∃ pr : Int, ([V.int 2147483647, V.int 2147483629, V.int 2147483587, V.int 2147483579, V.int 2147483563] : List V)[j]? = some (V.int pr) ∧ 0 < pr ∧ pr < 2147483648 := by
        match j, hj5 with
        | 0, _ => exact ⟨_, rfl, by decide, by decide⟩
        | 1, _ => exact ⟨_, rfl, by decide, by decide⟩
        | 2, _ => exact ⟨_, rfl, by decide, by decide⟩
        | 3, _ => exact ⟨_, rfl, by decide, by decide⟩
        | 4, _ => exact ⟨_, rfl, by decide, by decide⟩
      refine ⟨_, rfl, p, _, _, _, rfl, rfl, SqL.of hp2, rfl, .inl ⟨_, rfl, _, _, rfl, rfl, (by decide : (0 : Int) < 5), l, _, _, V.int pr, rfl, rfl, SqL.of upd_same, (by rw [hj]; exact atI_nat hpr), ?_⟩⟩
      have hsq := sq_le hc0 hc'
      have hpow : CPow (sd + 95375 * (c + 1) * (c + 1) + 171) 3 := ⟨by decide, by decide, by omega⟩
      refine ⟨_, rfl, p, _, _, _, rfl, rfl, SqL.of hp2, rfl, _, rfl, p, _, _, _, rfl, rfl, SqL.of hp2, rfl, _, _, rfl, rfl, .inl ⟨by decide, by decide⟩, _, rfl, p, _, _, _, rfl, rfl, SqL.of hp2, rfl, _, _, rfl, rfl, .inr ⟨by omega, by omega⟩,
        _, _, rfl, rfl, _, _, rfl, rfl, .inl ⟨_, rfl, _, _, rfl, rfl, hpow, .inl ⟨_, rfl, _, rfl, _, _, rfl, rfl, hp0, ?_⟩⟩⟩
      have hb0 := Int.emod_nonneg ((sd + 95375 * (c + 1) * (c + 1) + 171) ^ Int.toNat 3) (show pr ≠ 0 by omega)
      have hb1 := Int.emod_lt_of_pos ((sd + 95375 * (c + 1) * (c + 1) + 171) ^ Int.toNat 3) hp0
      refine ⟨_, rfl, _, rfl, .inl ⟨_, rfl, _, _, rfl, rfl, (by decide : (0 : Int) < 10039), _, rfl, p, _, _, _, rfl, rfl, SqL.of hp2, rfl, _, _, rfl, rfl, .inl ⟨by decide, by decide⟩, _, _, rfl, rfl, _, _, rfl, rfl, .inl ⟨by omega, by omega⟩,
        _, _, rfl, rfl, ⟨by decide, by decide⟩, .inl ⟨_, rfl, _, rfl, _, _, rfl, rfl, hu0, ?_⟩⟩⟩
      refine q _ _ (Int.emod_nonneg _ (by omega)) (Int.emod_lt_of_pos _ hu0) ((Ext.upd p H _).trans (Ext.of (same_new hl))) ⟨_, hp2, _, _, _, rfl, ha, hs0, hs1, by omega, by omega⟩
theorem scL : FnScope ["_law_script", "_law_most"] ["_law_script", "_law_most"] (defScope sPlaces) := ⟨rfl, rfl, rfl, by decide +kernel, rfl, by decide +kernel, by decide +kernel⟩
theorem ok_places (F : FnP K "_law_places" sPlaces f fd) (B : BltD mg) {m : Nat} (hm : m ≤ 60) : FnOk P w K mg base CX0 1 f fd ["_law_script", "_law_most"] (spPlaces K m) := by
  refine F.ok scL (fun vs H Q E h => ?_) (fun cdv A outer s H vs Q E hr h => ?_)
  · obtain ⟨a, ns, rfl, _⟩ := h
    rfl
  · obtain ⟨a, ns, rfl, hS, hn, q⟩ := h
    refine ⟨_, PSs.nox (pss_one (ps_ret (pe_listRg rfl (by rfl) B.list (prg_1 (by rfl) B.range (pe_callB (call_max2 rfl) (by rfl) B.max boot_max (pa_cons pe_int (pa_cons (pe_callB (call_min2 rfl) (by rfl) B.min boot_min (pa_cons (pv 1) (pa_cons (pe_callB call_len_seq (by rfl) B.len PySem.boot_len (pa_cons (pv 0) pa_nil)) pa_nil))) pa_nil))))))), ?_⟩
    refine ⟨_, rfl, _, rfl, a, _, rfl, .inl hS, _, _, rfl, _, _, rfl, _, rfl, ?_⟩
    have key : ∀ N : Int, 0 ≤ N → N ≤ 64 → N.toNat ≤ max 1 m → RgOk 0 N ∧ ∀ p, H p = none → Q (.ref p) (L2.upd H p (.lst (rgV 0 N))) := fun N h0 h1 h2 =>
      ⟨RgOk.of_le (by omega) (by omega) (by omega) h0, fun p hp => q p _ N.toNat (same_new hp) hp h2 (by
        rw [upd_same]
        unfold rgV
        simp)⟩
    refine key _ ?_ ?_ ?_ <;> (repeat' split) <;> omega

theorem erase_perm : ∀ (l : List V) (j : Nat) (h : j < l.length), List.Perm (l[j] :: l.eraseIdx j) l
  | [], _, h => absurd h (Nat.not_lt_zero _)
  | x :: r, 0, _ => List.Perm.refl _
  | x :: r, j + 1, h => (List.Perm.swap _ _ _).trans (List.Perm.cons x (erase_perm r j (Nat.lt_of_succ_lt_succ h)))
/-- _law_some(pot, pool, amount) -/
def spSome : Sp := fun vs H Q _ => ∃ (p l : Addr) (xs : List V) (n m : Nat), vs = [.ref p, .ref l, .int (m : Int)] ∧ Pot n H p ∧ n + m < 1000000 ∧ H l = some (.lst xs) ∧ l ≠ p ∧ m ≤ xs.length ∧ xs.length < 1000 ∧
  ∀ (f : Addr) (H' : Hp) (found rest : List V), H f = none → H' f = some (.lst found) → found.length = m → List.Perm (found ++ rest) xs → Ext p H H' → Pot (n + m) H' p → Q (.ref f) H'
theorem scSome : FnScope ["_law_pot_here", "_law_pool", "_law_amount", "_law_left", "_law_found", "_law_lap"] ["_law_pot_here", "_law_pool", "_law_amount"] (defScope sSome) := ⟨rfl, rfl, rfl, by decide +kernel, rfl, by decide +kernel, by decide +kernel⟩
theorem ok_some {fT : Addr} {fdT : FuncData} (F : FnP K "_law_some" sSome f fd) (B : BltD mg) (FT : FnP K "_law_take" sTake fT fdT) (gT : mg "_law_take" = some (.ref fT)) : FnOk P w K mg base CX0 2 f fd ["_law_pot_here", "_law_pool", "_law_amount"] spSome := by
  have GT : FnOk P w K mg base CX0 1 fT fdT ["_law_pot_here", "_law_upto"] spTake := ok_take FT B
  have bT : Binds K fdT ["_law_pot_here", "_law_upto"] [] := FT.bindsN fun _ _ _ _ _ _ us hl => match us, hl with | [_, _], _ => rfl
  refine F.ok scSome (fun vs H Q E h => ?_) (fun cdv A outer s H vs Q E hr h => ?_)
  · obtain ⟨p, l, xs, n, m, rfl, _⟩ := h
    rfl
  · obtain ⟨p, l, xs, n, m, rfl, hp, hn, hl, nlp, hm, hx, q⟩ := h
    refine ⟨_, PSs.nox (pss_cons (ps_par (i := 3) (j := 4) rfl scSome.nd rfl rfl (by decide) rfl rfl (pa_cons (pe_callTy call_list_of (by rfl) B.list boot_list (pa_cons (pv 1) pa_nil)) (pa_cons (pe_lst pa_nil) pa_nil)) rfl)
      (pss_cons (ps_for PassesOwn.never rfl (pi_range1 rfl B.range (pa_cons (pv 2) pa_nil)) (pg_name (i := 5) scSome.nd rfl (Or.inl rfl))
        (pss_one (ps_expr (pe_bm PySem.F.plainAttrs_list PySem.F.slot_list_append PySem.F.type_list_append mt_append (pv 4) (pa_cons (pe_bm PySem.F.plainAttrs_list PySem.F.slot_list_pop PySem.F.type_list_pop mt_popAt (pv 3)
          (pa_cons (pe_call GT hr rfl gT FT.kp bT .nil pass0 (pa_cons (pv 0) (pa_cons (pe_callB call_len_seq (by rfl) B.len PySem.boot_len (pa_cons (pv 3) pa_nil)) pa_nil))) pa_nil)) pa_nil)))))
      (pss_one (ps_ret (pv 4))))), ?_⟩
    refine ⟨_, rfl, l, xs, rfl, .inl (SqL.of hl), fun a ha => ⟨Nat.zero_le _, fun f hf => ⟨_, _, rfl, ?_⟩⟩⟩
    have np : ∀ {G : Hp}, Pot n H p → True := fun _ => trivial
    have hpn := hp.some
    have nap : a ≠ p := fun z => hpn (by rw [← z]; exact ha)
    have naf : f ≠ a := fun z => by rw [z, upd_same] at hf; cases hf
    have hf0 : H f = none := by rw [upd_ne naf] at hf; exact hf
    have nfp : f ≠ p := fun z => hpn (by rw [← z]; exact hf0)
    have s2 : Ext p H (L2.upd (L2.upd H a (.lst xs)) f (.lst [])) := (Ext.of (same_new ha)).trans (Ext.of (same_new hf))
    obtain ⟨o0, ho0, hpo⟩ := id hp
    refine ⟨_, rfl, _, rfl, ?_, ?_, for_range (fun i σ G => ∃ u found rest, σ = [some (.ref p), some (.ref l), some (.int (m : Int)), some (.ref a), some (.ref f), u] ∧ Ext p H G ∧ G a = some (.lst rest) ∧ G f = some (.lst found) ∧ found.length = i ∧ List.Perm (found ++ rest) xs ∧ Pot (n + i) G p)
      ⟨_, [], xs, rfl, s2, by rw [upd_ne (Ne.symm naf), upd_same], upd_same, rfl, List.Perm.refl _, ⟨o0, by rw [upd_ne (Ne.symm nfp), upd_ne (Ne.symm nap)]; exact ho0, hpo⟩⟩ ?_ ?_⟩
    · omega
    · omega
    · rintro i σ G hi ⟨u, found, rest, rfl, x1, e1, e2, hfl, hpm, hpot⟩
      have hlen := hpm.length_eq
      rw [List.length_append, hfl] at hlen
      have hi' : i < m := by omega
      refine ⟨_, rfl, .inl ⟨rfl, _, SqL.of e2⟩, _, rfl, .inl ⟨rfl, _, SqL.of e1⟩, _, rfl, _, rfl, a, rest, rfl, .inl (SqL.of e1), p, _, n + i, rfl, hpot, by omega, by omega, by omega, fun r G2 r0 r1 x2 hp2 => ?_⟩
      obtain ⟨j, rfl⟩ : ∃ j : Nat, r = (j : Int) := ⟨r.toNat, by omega⟩
      have hj : j < rest.length := by omega
      have e1' := x2 a _ nap e1
      have e2' := x2 f _ nfp e2
      refine ⟨a, rest, (j : Int), j, rest[j], rfl, rfl, e1', by omega, by omega, ?_, List.getElem?_eq_getElem hj, f, found, rest[j], rfl, rfl, ?_, ?_, ?_⟩
      · unfold seqIndex?
        simp
        omega
      · rw [upd_ne naf]
        exact e2'
      · rw [sizeLine_eq]
        omega
      · refine ⟨_, found ++ [rest[j]], rest.eraseIdx j, rfl, ?_, ?_, ?_, ?_, ?_, ?_⟩
        · intro b o nb e
          have nba : b ≠ a := fun z => by rw [z, ha] at e; cases e
          have nbf : b ≠ f := fun z => by rw [z, hf0] at e; cases e
          rw [upd_ne nbf, upd_ne nba]
          exact x2 b o nb (x1 b o nb e)
        · rw [upd_ne (Ne.symm naf), upd_same]
        · rw [upd_same]
        · rw [List.length_append, hfl]; rfl
        · have z : List.Perm (rest[j] :: rest.eraseIdx j) rest := erase_perm rest j hj
          refine List.Perm.trans ?_ hpm
          rw [List.append_assoc]
          exact List.Perm.append_left found z
        · obtain ⟨o, ho, hpo⟩ := hp2
          refine ⟨o, ?_, hpo⟩
          rw [upd_ne (Ne.symm nfp), upd_ne (Ne.symm nap)]
          exact ho
    · rintro σ G ⟨u, found, rest, rfl, x1, e1, e2, hfl, hpm, hpot⟩
      rw [Int.toNat_natCast] at hfl hpot
      exact ⟨_, rfl, q f G found rest hf0 e2 hfl hpm x1 hpot⟩
def pool14 : List Str := ["a", "b", "c", "ann", "bob", "met", "open", "people", "heard", "in", "out", "zzzzzzzz", "x", "not"]
def unS : V → Str
  | .str x => x
  | _ => ""
theorem strs_of {xs : List V} {ps : List Str} (h : ∀ x ∈ xs, x ∈ ps.map V.str) : xs = (xs.map unS).map V.str := by
  rw [List.map_map]
  conv => lhs; rw [← List.map_id xs]
  refine List.map_congr_left fun x hx => ?_
  obtain ⟨y, _, rfl⟩ := List.mem_map.mp (h x hx)
  rfl
/-- _law_names(pot, amount) -/
def spNames : Sp := fun vs H Q _ => ∃ (p : Addr) (n m : Nat), vs = [.ref p, .int (m : Int)] ∧ Pot n H p ∧ n + m < 1000000 ∧ m ≤ 14 ∧
  ∀ (f : Addr) (H' : Hp) (ns rest : List Str), H f = none → H' f = some (.lst (ns.map V.str)) → ns.length = m → List.Perm (ns ++ rest) pool14 → Ext p H H' → Pot (n + m) H' p → Q (.ref f) H'
theorem scNames : FnScope ["_law_pot_here", "_law_amount", "_law_pool"] ["_law_pot_here", "_law_amount"] (defScope sNames) := ⟨rfl, rfl, rfl, by decide +kernel, rfl, by decide +kernel, by decide +kernel⟩
theorem ok_names {fS fT : Addr} {fdS fdT : FuncData} (F : FnP K "_law_names" sNames f fd) (B : BltD mg) (FT : FnP K "_law_take" sTake fT fdT) (gT : mg "_law_take" = some (.ref fT)) (FS : FnP K "_law_some" sSome fS fdS) (gS : mg "_law_some" = some (.ref fS)) :
    FnOk P w K mg base CX0 3 f fd ["_law_pot_here", "_law_amount"] spNames := by
  have GS : FnOk P w K mg base CX0 2 fS fdS ["_law_pot_here", "_law_pool", "_law_amount"] spSome := ok_some FS B FT gT
  have bS : Binds K fdS ["_law_pot_here", "_law_pool", "_law_amount"] [] := FS.bindsN fun _ _ _ _ _ _ us hl => match us, hl with | [_, _, _], _ => rfl
  refine F.ok scNames (fun vs H Q E h => ?_) (fun cdv A outer s H vs Q E hr h => ?_)
  · obtain ⟨p, n, m, rfl, _⟩ := h
    rfl
  · obtain ⟨p, n, m, rfl, hp, hn, hm, q⟩ := h
    refine ⟨_, PSs.nox (pss_cons (ps_set (i := 2) scNames.nd rfl (Or.inl rfl) (pe_lst (pa_cons pe_str (pa_cons pe_str (pa_cons pe_str (pa_cons pe_str (pa_cons pe_str (pa_cons pe_str (pa_cons pe_str (pa_cons pe_str (pa_cons pe_str (pa_cons pe_str (pa_cons pe_str (pa_cons pe_str (pa_cons pe_str (pa_cons pe_str pa_nil))))))))))))))))
      (pss_one (ps_ret (pe_call GS hr rfl gS FS.kp bS .nil pass0 (pa_cons (pv 0) (pa_cons (pv 2) (pa_cons (pv 1) pa_nil))))))), ?_⟩
    refine ⟨(show 14 ≤ sizeLine by decide), fun l hl => ⟨_, rfl, _, rfl, _, rfl, p, l, pool14.map V.str, n, m, rfl, ?_, hn, upd_same, ?_, hm, (show 14 < 1000 by decide), fun f H' found rest hf e hlen hpm x hp' => ?_⟩⟩
    · obtain ⟨o, e, hpo⟩ := hp
      exact ⟨o, (same_new hl) _ _ e, hpo⟩
    · exact fun z => hp.some (by rw [← z]; exact hl)
    · have m1 : ∀ y ∈ found, y ∈ pool14.map V.str := fun y hy => hpm.mem_iff.mp (List.mem_append_left _ hy)
      have m2 : ∀ y ∈ rest, y ∈ pool14.map V.str := fun y hy => hpm.mem_iff.mp (List.mem_append_right _ hy)
      have hf0 : H f = none := by
        by_cases c : f = l
        · rw [c]; exact hl
        · rw [upd_ne c] at hf; exact hf
      refine q f H' (found.map unS) (rest.map unS) hf0 (by rw [← strs_of m1]; exact e) (by rw [List.length_map]; exact hlen) ?_ ((Ext.of (same_new hl)).trans x) hp'
      have z := hpm.map unS
      rw [List.map_append, List.map_map] at z
      have z2 : pool14.map (unS ∘ V.str) = pool14 := by decide +kernel
      rw [z2] at z
      exact z
end
end K14

set_option Elab.async false
set_option linter.all false
set_option maxRecDepth 100000
set_option maxHeartbeats 8000000
namespace K14
open PySem PySem.Spec PySem.W PySem.Calls PyProof.Rows L2 MX
section
variable {ι : Type} {Ev : ι → L2.St → Hp → Prop} {X : Cx} {e e2 : Expr} {pos p : Pos} {x : Str}
theorem er_book0 {C CB fB dB : Addr} {fdB : FuncData} {ds : List Value} {h : ι → HI} (M : Mk X.K CB fB) (F : FnOk X.prog X.w X.K X.mg X.base CX0 5 fB fdB nBk (spBook X.K C CB)) (hr : Room 6 X.A) (hg : Gl X x) (hm : X.mg x = some (.ref CB)) (hb : L2.Binds X.K fdB nBk ds) (hds : Vals [V.ref dB] ds) (hd : ∀ H, SqT X.K H dB [])
    (ha : PE X e (tR Ev (fun _ => []) fun i => hR X.K C (h i))) (hdb : (x == ("__debug__" : Str)) = false := by decide) (he : starEach [e] X.env = (false, eval e X.env) :: starEach [] X.env := by rfl) (hpl : (backTo pos (starEach [] X.env)).any (·.1) = false := by rfl) :
    PE X (.Call (.Name x p) [e] [] pos) (tR Ev (fun _ => []) fun i => bR X.K C CB ⟨h i, []⟩) :=
  pe_mono (pe_make M F hr hg hm hb hds pass0 (pa_cons ha pa_nil he) hdb he hpl) fun σ H Q ⟨i, ok, q⟩ => ⟨i, ok, fun v H1 s1 rv => by
    rw [msk_nil] at rv
    intro a dx ha hdx hne
    have s2 : Same H1 (L2.upd (L2.upd H1 dx (.own a)) a (.ins CB dx [])) := fun b o e => by
      rw [upd_ne (ne_of_none e ha), upd_ne (ne_of_none e hdx)]
      exact e
    refine ⟨a, dx, v, V.ref dB, ⟨h i, []⟩, rfl, upd_same, ⟨Nat.zero_le _, fun s hs => by cases hs⟩, (hR X.K C (h i)).st _ _ _ (LamX.ExtN.of s2) rv, ⟨dB, [], rfl, hd _, trivial⟩, fun H' b hA => ⟨rfl, ?_⟩⟩
    have s3 : Same H1 H' := fun c o ec => b _ _ (s2 _ _ ec) fun m => by rw [List.mem_singleton.mp m, ha] at ec; cases ec
    refine q _ _ (s1.trans s3) ?_
    rw [msk_nil]
    exact ⟨a, dx, v, V.ref dB, rfl, hA, (hR X.K C (h i)).st _ _ _ (LamX.ExtN.of s3) rv, ⟨dB, [], rfl, hd _, trivial⟩⟩⟩
theorem er_book1 (E : Env Ev) {C CB fB : Addr} {fdB : FuncData} {b : ι → BI} (M : Mk X.K CB fB) (F : FnOk X.prog X.w X.K X.mg X.base CX0 5 fB fdB nBk (spBook X.K C CB)) (hr : Room 6 X.A) (hg : Gl X x) (hm : X.mg x = some (.ref CB)) (hb : L2.Binds X.K fdB nBk [])
    (ha : PE X e (tR Ev (fun _ => []) fun i => hR X.K C (b i).h)) (ha2 : PE X e2 (tR Ev (fun _ => []) fun i => oT ((b i).ss.map syR))) (hok : ∀ i σ H, Ev i σ H → okBook (b i)) (hdb : (x == ("__debug__" : Str)) = false := by decide) (he : starEach [e, e2] X.env = (false, eval e X.env) :: starEach [e2] X.env := by rfl) (he2 : starEach [e2] X.env = (false, eval e2 X.env) :: starEach [] X.env := by rfl) (hpl : (backTo pos (starEach [e2] X.env)).any (·.1) = false := by rfl) :
    PE X (.Call (.Name x p) [e, e2] [] pos) (tR Ev (fun _ => []) fun i => bR X.K C CB (b i)) :=
  pe_mono (pe_make M F hr hg hm hb .nil pass0 (pa_cons ha (pa_cons ha2 pa_nil he2) he) hdb he hpl) fun σ H Q ⟨i, ok, q⟩ => ⟨i, ok, fun v H1 s1 rv => ⟨i, ok.same E s1, fun u H2 s2' ru => by
    rw [msk_nil] at rv ru
    intro a dx ha hdx hne
    have s2 : Same H2 (L2.upd (L2.upd H2 dx (.own a)) a (.ins CB dx [])) := fun b o e => by
      rw [upd_ne (ne_of_none e ha), upd_ne (ne_of_none e hdx)]
      exact e
    have rv2 := (hR X.K C (b i).h).st _ _ _ (LamX.ExtN.of s2') rv
    have ru2 : (oK X.K ((b i).ss.map syR)).R u H2 := oT_K ru
    refine ⟨a, dx, v, u, b i, rfl, upd_same, hok i σ _ ok.1, (hR X.K C (b i).h).st _ _ _ (LamX.ExtN.of s2) rv2, (oK X.K _).st _ _ _ (LamX.ExtN.of s2) ru2, fun H' bt hA => ⟨rfl, ?_⟩⟩
    have s3 : Same H2 H' := fun c o ec => bt _ _ (s2 _ _ ec) fun m => by rw [List.mem_singleton.mp m, ha] at ec; cases ec
    refine q _ _ ((s1.trans s2').trans s3) ?_
    rw [msk_nil]
    exact ⟨a, dx, v, u, rfl, hA, (hR X.K C (b i).h).st _ _ _ (LamX.ExtN.of s3) rv2, (oK X.K _).st _ _ _ (LamX.ExtN.of s3) ru2⟩⟩⟩
end
end K14

set_option Elab.async false
set_option linter.all false
set_option maxRecDepth 100000
set_option maxHeartbeats 4000000
namespace K14
open PySem PySem.Spec PySem.W PySem.Calls PyProof.Rows L2 MX
structure Nm where
  a : Str
  b : Str
  c : Str
def nsN (n : Nm) : List Str := [n.a, n.b, n.c]
def pageN (n : Nm) : Str := ((((("people " : Str) ++ Txt.join " " (nsN n)) ++ "\nmet ") ++ n.a) ++ " ") ++ n.b
def textN (n : Nm) : Str := (((pageN n ++ "\nopen ") ++ n.c) ++ " ") ++ n.b
def hN (n : Nm) : HI := hOf (textN n)
abbrev RowT := Str × List Evt × Bool
def rows1 (n : Nm) : List RowT := [("001122", [(n.a, n.b), (n.a, n.c), (n.b, n.c)], false), ("010122", [(n.a, n.c), (n.b, n.c)], true)]
def rows2 (n : Nm) : List RowT := [("012210", [], false), ("010212", [(n.a, n.c)], true), ("221001", [(n.c, n.a), (n.c, n.b)], true)]
def rows3 (n : Nm) : List RowT := [("011022", [(n.a, n.c), (n.b, n.c)], true), ("102012", [], false)]
def rowsN (n : Nm) : List RowT := rows1 n ++ rows2 n ++ rows3 n
def rowR (r : RowT) : Rd := oT [oS r.1, oL (r.2.1.map evR), oB r.2.2]
def esN (n : Nm) (z : Str) : List Evt := lineBy (nsN n) z
def es0 (n : Nm) : List Evt := esN n "010212"
def ss1 (n : Nm) : List Say := [.met true n.a n.b, .met false n.c n.a, .met true n.c n.b, .bef (n.a, "out") (n.c, "in")]
def ss2 (n : Nm) : List Say := [.bef (n.a, "in") (n.b, "in"), .bef (n.b, "out") (n.c, "out")]
def ssN (n : Nm) : List Say := ss1 n ++ ss2 n
def OkS (x : Str) : Prop := PyData.strOk x = true ∧ x.length ≤ 20
structure RowOk (n : Nm) (r : RowT) : Prop where
  z : pLine (nsN n, r.1)
  v : VT (nsN n) (esN n r.1)
  o : (ordL (nsN n) (esN n r.1)).Perm r.2.1
  f : fitsB (⟨hN n, []⟩, esN n r.1) = r.2.2
  m : decide (meetB (esN n r.1) n.a n.b = (decide ((n.a, n.b) ∈ r.2.1) || decide ((n.b, n.a) ∈ r.2.1))) = false
  zr : pLine (nsN n, revX r.1)
  lr : (revX r.1).length ≤ 100
  t : turnE (esN n r.1) = esN n (revX r.1)
  lo : r.2.1.length ≤ 10
  oin : ∀ e ∈ r.2.1, e.1 ∈ nsN n ∧ e.2 ∈ nsN n
structure FN (n : Nm) : Prop where
  good : ∀ x ∈ nsN n, OkS x
  text : TextOk (textN n) ∧ ∃ ot, parseH (textN n) = .inr ot
  ps : (hN n).ps = nsN n
  st : strT (hN n).T
  rows : ∀ r ∈ rowsN n, RowOk n r
  ab : n.a ≠ n.b
  z0 : pLine (nsN n, "010212")
  v0 : VT (nsN n) (es0 n)
  e0 : ∀ x ∈ nsN n, (x, ("in" : Str)) ∈ es0 n ∧ (x, ("out" : Str)) ∈ es0 n
  ta : thereL (nsN n) (es0 n) (n.a, "in") = []
  tb : thereL (nsN n) (es0 n) (n.b, "in") = [n.a]
  tc : thereL (nsN n) (es0 n) (n.c, "in") = [n.b]
  ua : thereL (nsN n) (es0 n) (n.a, "out") = [n.b]
  ub : thereL (nsN n) (es0 n) (n.b, "out") = [n.c]
  uc : thereL (nsN n) (es0 n) (n.c, "out") = []
  says : ∀ s ∈ ssN n, okSay (nsN n) s ∧ holdB (es0 n) s = true
  fits : fitsB (⟨hN n, ssN n⟩, es0 n) = true
  v1 : VT (nsN n) (turnE (es0 n))
  brk : brokenL (turnE (es0 n)) (ssN n) = [3, 4, 5]
/-! data -/
theorem eqv_ev (x y : Evt) : PyData.eqv (evD x) (evD y) = decide (x = y) := by
  obtain ⟨a, b⟩ := x
  obtain ⟨c, d⟩ := y
  unfold evD
  simp only [PyData.eqv, PyData.eqvAll, Prod.mk.injEq]
  by_cases h1 : a = c
  · by_cases h2 : b = d
    · simp [h1, h2]
    · simp [h1, h2]
  · simp [h1]
theorem any_ev (x : Evt) (es : List Evt) : ((es.map evD).any fun z => PyData.eqv z (evD x)) = decide (x ∈ es) := by
  rw [List.any_map]
  rw [Bool.eq_iff_iff, List.any_eq_true, decide_eq_true_iff]
  constructor
  · rintro ⟨y, hy, h⟩
    have h : PyData.eqv (evD y) (evD x) = true := h
    rw [eqv_ev, decide_eq_true_iff] at h
    rw [← h]; exact hy
  · intro h
    exact ⟨x, h, by show PyData.eqv (evD x) (evD x) = true; rw [eqv_ev]; simp⟩
def OkE (e : Evt) : Prop := OkS e.1 ∧ OkS e.2
theorem lay_evs : ∀ {es : List Evt}, (∀ e ∈ es, OkE e) → PyData.canLayAll0 (es.map evD) = true ∧ PyData.depthAll (es.map evD) ≤ 1
  | [], _ => ⟨by simp [PyData.canLayAll0], by simp [PyData.depthAll]⟩
  | e :: es, h => by
    obtain ⟨h1, h2⟩ := lay_evs fun e he => h e (List.mem_cons_of_mem _ he)
    obtain ⟨⟨a, _⟩, ⟨b, _⟩⟩ := h e List.mem_cons_self
    refine ⟨by simp [PyData.canLayAll0, PyData.canLay0, evD, h1, a, b], ?_⟩
    rw [List.map_cons]
    simp only [PyData.depthAll, PyData.depth, evD]
    omega
theorem shaped_ev {e : Evt} (h : OkE e) : SeqAt.shaped (evD e) = true := by
  obtain ⟨⟨a, _⟩, ⟨b, _⟩⟩ := h
  unfold SeqAt.shaped
  simp [PyData.canLay0, PyData.canLayAll0, PyData.depth, PyData.depthAll, evD, a, b]
theorem shaped_evs {es : List Evt} (h : ∀ e ∈ es, OkE e) : SeqAt.shaped (.tuple (es.map evD)) = true ∧ SeqAt.shaped (.list (es.map evD)) = true := by
  obtain ⟨h1, h2⟩ := lay_evs h
  unfold SeqAt.shaped
  have h3 : decide (PyData.depth (.tuple (es.map evD)) ≤ 64) = true := decide_eq_true (by simp only [PyData.depth]; omega)
  have h4 : decide (PyData.depth (.list (es.map evD)) ≤ 64) = true := decide_eq_true (by simp only [PyData.depth]; omega)
  rw [h3, h4]
  simp [PyData.canLay0, h1]
theorem short_str {B : Nat} {x : Str} (h : PyData.strOk x = true) : PyData.leavesShort B (.str x) = true := by
  unfold PyData.strOk at h
  simp only [PyData.leavesShort, List.all_eq_true, decide_eq_true_iff]
  intro c hc
  have h2 := (Array.all_eq_true_iff_forall_mem.mp h) c (Array.mem_toList_iff.mp hc)
  have h3 := of_decide_eq_true h2
  exact Nat.lt_of_lt_of_le h3 (by decide)
theorem short_evs {B : Nat} : ∀ {es : List Evt}, (∀ e ∈ es, OkE e) → PyData.leavesShortAll B (es.map evD) = true ∧ PyData.weightAll (es.map evD) ≤ es.length * 50 ∧ PyData.showableAll (es.map evD) = true
  | [], _ => ⟨by simp [PyData.leavesShortAll], by simp [PyData.weightAll], by simp [PyData.showableAll]⟩
  | e :: es, h => by
    obtain ⟨h1, h2, h3⟩ := short_evs (B := B) fun e he => h e (List.mem_cons_of_mem _ he)
    obtain ⟨⟨a, la⟩, ⟨b, lb⟩⟩ := h e List.mem_cons_self
    have la : e.1.cps.size ≤ 20 := la
    have lb : e.2.cps.size ≤ 20 := lb
    refine ⟨?_, ?_, ?_⟩
    · rw [List.map_cons]
      simp only [PyData.leavesShortAll, h1, Bool.and_true]
      have s1 := short_str (B := B) a
      have s2 := short_str (B := B) b
      simp only [evD, PyData.leavesShort, PyData.leavesShortAll] at *
      simp [s1, s2]
    · rw [List.map_cons]
      simp only [PyData.weightAll, PyData.weight, evD, List.length_cons]
      omega
    · rw [List.map_cons]
      simp [PyData.showableAll, PyData.showable, evD, h3]
def dA (o : List Evt) (l : Bool) : PyData := .tuple [.tuple (o.map evD), .bool l]
theorem shows_A {o : List Evt} {l : Bool} (h : ∀ e ∈ o, OkE e) (hl : o.length ≤ 100) : Shows (dA o l) := by
  obtain ⟨h1, h2, h3⟩ := short_evs (B := 8) h
  obtain ⟨_, h4⟩ := lay_evs h
  refine ⟨by simp [dA, PyData.showable, PyData.showableAll, h3], by simp only [dA, PyData.depth, PyData.depthAll]; omega, PyData.shown_fits (B := 8) (by decide) (by decide) ?_ ?_⟩
  · simp [dA, PyData.leavesShort, PyData.leavesShortAll, h1]
  · simp only [dA, PyData.weight, PyData.weightAll]
    omega
end K14

set_option Elab.async false
set_option linter.all false
set_option maxRecDepth 100000
set_option maxHeartbeats 4000000
namespace MX
open PySem PySem.Spec PySem.W PySem.Calls PyProof.Rows L2
/-! ### what is told of a pair, by the lines -/
def pk (a b : Str) : List Key := [Sum.inr a, Sum.inr b]
theorem pk_inj {a b c d : Str} (h : pk a b = pk c d) : a = c ∧ b = d := by
  unfold pk at h
  injection h with h1 h2
  injection h2 with h2 _
  exact ⟨Sum.inr.inj h1, Sum.inr.inj h2⟩
theorem val_tell1 (a b x y w : Str) (T : Tm) : valV (tell1 x y w T) (pk a b) = if x = a ∧ y = b ∧ a ≠ b then some (.str w) else valV T (pk a b) := by
  unfold tell1
  by_cases h : x = y
  · rw [if_pos h, if_neg (fun ⟨h1, h2, h3⟩ => h3 (by rw [← h1, ← h2, h]))]
  · rw [if_neg h]
    show valV (putK T (pk x y) (.str w)) (pk a b) = _
    rw [valV_put]
    by_cases h2 : pk a b = pk x y
    · obtain ⟨e1, e2⟩ := pk_inj h2
      rw [if_pos h2, if_pos ⟨e1.symm, e2.symm, by rw [e1, e2]; exact h⟩]
    · rw [if_neg h2, if_neg (fun ⟨h3, h4, _⟩ => h2 (by rw [h3, h4]))]
theorem val_tellR (a b x w : Str) : ∀ (ys : List Str) (T : Tm), valV (tellR x w ys T) (pk a b) = if x = a ∧ b ∈ ys ∧ a ≠ b then some (.str w) else valV T (pk a b)
  | [], T => by
    rw [if_neg (fun z => by cases z.2.1)]
    rfl
  | y :: ys, T => by
    show valV (tellR x w ys (tell1 x y w T)) (pk a b) = _
    rw [val_tellR a b x w ys, val_tell1]
    by_cases h1 : x = a
    · by_cases h2 : a ≠ b
      · by_cases h3 : b ∈ ys
        · rw [if_pos ⟨h1, h3, h2⟩, if_pos ⟨h1, List.mem_cons_of_mem _ h3, h2⟩]
        · rw [if_neg (fun z => h3 z.2.1)]
          by_cases h4 : y = b
          · rw [if_pos ⟨h1, h4, h2⟩, if_pos ⟨h1, by rw [h4]; exact List.mem_cons_self, h2⟩]
          · rw [if_neg (fun z => h4 z.2.1), if_neg (fun z => (List.mem_cons.mp z.2.1).elim (fun q => h4 q.symm) h3)]
      · rw [if_neg (fun z => h2 z.2.2), if_neg (fun z => h2 z.2.2), if_neg (fun z => h2 z.2.2)]
    · rw [if_neg (fun z => h1 z.1), if_neg (fun z => h1 z.1), if_neg (fun z => h1 z.1)]
theorem val_tellA (a b w : Str) (ys : List Str) : ∀ (xs : List Str) (T : Tm), valV (tellA ys xs w T) (pk a b) = if a ∈ xs ∧ b ∈ ys ∧ a ≠ b then some (.str w) else valV T (pk a b)
  | [], T => by
    rw [if_neg (fun z => by cases z.1)]
    rfl
  | x :: xs, T => by
    show valV (tellA ys xs w (tellR x w ys T)) (pk a b) = _
    rw [val_tellA a b w ys xs, val_tellR]
    by_cases h2 : b ∈ ys ∧ a ≠ b
    · by_cases h3 : a ∈ xs
      · rw [if_pos ⟨h3, h2.1, h2.2⟩, if_pos ⟨List.mem_cons_of_mem _ h3, h2.1, h2.2⟩]
      · rw [if_neg (fun z => h3 z.1)]
        by_cases h4 : x = a
        · rw [if_pos ⟨h4, h2.1, h2.2⟩, if_pos ⟨by rw [h4]; exact List.mem_cons_self, h2.1, h2.2⟩]
        · rw [if_neg (fun z => h4 z.1), if_neg (fun z => (List.mem_cons.mp z.1).elim (fun q => h4 q.symm) h3)]
    · rw [if_neg (fun z => h2 z.2), if_neg (fun z => h2 z.2), if_neg (fun z => h2 z.2)]
/-- the lines taken so far tell of the pair -/
def isTold {α : Type} [DecidableEq α] (L : List (List α)) (a b : α) : Bool := L.any fun xs => decide (a ∈ xs) && (decide (b ∈ xs) && decide (a ≠ b))
/-- T is what the lines L told -/
def TellsL (T : Tm) (L : List (List Str)) : Prop := ∀ a b, (valV T (pk a b)).isSome = isTold L a b
theorem TellsL.nil : TellsL [] [] := fun _ _ => rfl
theorem TellsL.add {T : Tm} {L : List (List Str)} (h : TellsL T L) (xs : List Str) (w : Str) : TellsL (tellA xs xs w T) (xs :: L) := fun a b => by
  rw [val_tellA]
  unfold isTold
  rw [List.any_cons]
  by_cases q : a ∈ xs ∧ b ∈ xs ∧ a ≠ b
  · rw [if_pos q, decide_eq_true q.1, decide_eq_true q.2.1, decide_eq_true q.2.2]
    rfl
  · rw [if_neg q]
    have z : (decide (a ∈ xs) && (decide (b ∈ xs) && decide (a ≠ b))) = false := by
      rw [Bool.eq_false_iff]
      intro z
      simp only [Bool.and_eq_true, decide_eq_true_eq] at z
      exact q z
    rw [z]
    exact h a b
/-! ### lines of a word and names; the reading of them over any names -/
def amongA {α : Type} [DecidableEq α] (xs ps : List α) : Bool := decide xs.Nodup && xs.all fun x => decide (x ∈ ps)
def pairNew {α : Type} [DecidableEq α] (L : List (List α)) : List α → Bool
  | [a, b] => !isTold L a b
  | _ => false
/-- a line behind the first one: none, or the number of lines open and all lines then -/
def stepA {α : Type} [DecidableEq α] (ps : List α) (n : Nat) (kw : Str) (xs : List α) (st : Nat × List (List α)) : Option (Nat × List (List α)) :=
  if (decide (n ≤ 21) && (decide (st.1 = 0) && (decide (kw = "met") && (decide (2 ≤ xs.length) && amongA xs ps)))) = true then some (st.1, xs :: st.2)
  else if (decide (st.1 < 4) && (decide (kw = "open") && (decide (xs.length = 2) && (amongA xs ps && pairNew st.2 xs)))) = true then some (st.1 + 1, xs :: st.2)
  else none
def runA {α : Type} [DecidableEq α] (ps : List α) : Nat → List (Str × List α) → Nat × List (List α) → Nat ⊕ Unit
  | _, [], _ => .inr ()
  | n, l :: r, st => match stepA ps n l.1 l.2 st with
    | none => .inl n
    | some st' => runA ps (n + 1) r st'
def wordsOf (l : Str × List Str) : List Str := l.1 :: l.2
theorem openB_eq {kw : Str} {xs ps : List Str} {T : Tm} {L : List (List Str)} (h : TellsL T L) :
    openB (kw :: xs) ps T = (decide (kw = "open") && (decide (xs.length = 2) && (amongA xs ps && pairNew L xs))) := by
  have e1 : headIs (kw :: xs) "open" = decide (kw = "open") := by unfold headIs; simp
  have e2 : (kw :: xs).drop 1 = xs := rfl
  unfold openB
  rw [e1, e2]
  show (decide (kw = "open") && (decide (xs.length = 2) && (amongA xs ps && (valV T (keyT xs)).isNone))) = _
  match xs with
  | [] => simp
  | [a] => simp
  | [a, b] =>
    have z := h a b
    have z2 : (valV T (keyT [a, b])).isNone = !isTold L a b := by
      rw [← z]
      show (valV T (pk a b)).isNone = _
      cases valV T (pk a b) <;> rfl
    rw [z2]; rfl
  | a :: b :: c :: r => simp
theorem metB_eq {kw : Str} {xs ps : List Str} : metB (kw :: xs) ps = (decide (kw = "met") && (decide (2 ≤ xs.length) && amongA xs ps)) := by
  have e1 : headIs (kw :: xs) "met" = decide (kw = "met") := by unfold headIs; simp
  have e2 : (kw :: xs).drop 1 = xs := rfl
  unfold metB
  rw [e1, e2]
  rfl
def bare (r : Nat ⊕ (Ops × MX.Tm)) : Nat ⊕ Unit := match r with
  | .inl m => .inl m
  | .inr _ => .inr ()
theorem runT_cons {ps ws : List Str} {n : Nat} {r : List (List Str)} {ot : Ops × MX.Tm} : runT ps n (ws :: r) ot = (match MX.stepT ps n ws ot with | none => .inl n | some ot' => runT ps (n + 1) r ot') := rfl
theorem runA_cons {α : Type} [DecidableEq α] {ps : List α} {n : Nat} {l : Str × List α} {r : List (Str × List α)} {st : Nat × List (List α)} : runA ps n (l :: r) st = (match stepA ps n l.1 l.2 st with | none => .inl n | some st' => runA ps (n + 1) r st') := rfl
theorem step_eq {ps xs : List Str} {kw : Str} {n : Nat} {ops : Ops} {T : MX.Tm} {L : List (List Str)} (h : TellsL T L) : match MX.stepT ps n (kw :: xs) (ops, T), stepA ps n kw xs (ops.length, L) with
    | none, none => True
    | some (ops', T'), some st' => st'.1 = ops'.length ∧ TellsL T' st'.2
    | _, _ => False := by
  unfold MX.stepT stepA
  rw [metB_eq, openB_eq h]
  dsimp only
  by_cases c1 : (decide (n ≤ 21) && (decide (ops.length = 0) && (decide (kw = "met") && (decide (2 ≤ xs.length) && amongA xs ps)))) = true
  · rw [if_pos c1, if_pos c1]
    exact ⟨rfl, h.add xs "met"⟩
  · rw [if_neg c1, if_neg c1]
    by_cases c2 : (decide (ops.length < 4) && (decide (kw = "open") && (decide (xs.length = 2) && (amongA xs ps && pairNew L xs)))) = true
    · rw [if_pos c2, if_pos c2]
      exact ⟨by simp, h.add xs "open"⟩
    · rw [if_neg c2, if_neg c2]
      trivial
/-- the reading of halls is the reading over names -/
theorem run_eq {ps : List Str} : ∀ (ls : List (Str × List Str)) (n : Nat) (ops : Ops) (T : MX.Tm) (L : List (List Str)), TellsL T L → bare (runT ps n (ls.map wordsOf) (ops, T)) = runA ps n ls (ops.length, L)
  | [], n, ops, T, L, h => rfl
  | (kw, xs) :: r, n, ops, T, L, h => by
    have z := step_eq (ps := ps) (xs := xs) (kw := kw) (n := n) (ops := ops) h
    rw [List.map_cons, runT_cons, runA_cons]
    show bare (match MX.stepT ps n (kw :: xs) (ops, T) with | none => .inl n | some ot' => runT ps (n + 1) (r.map wordsOf) ot') = _
    dsimp only
    cases h1 : MX.stepT ps n (kw :: xs) (ops, T) with
    | none =>
      cases h2 : stepA ps n kw xs (ops.length, L) with
      | none => rfl
      | some st' => rw [h1, h2] at z; exact z.elim
    | some ot' =>
      cases h2 : stepA ps n kw xs (ops.length, L) with
      | none => rw [h1, h2] at z; obtain ⟨a, b⟩ := ot'; exact z.elim
      | some st' =>
        rw [h1, h2] at z
        obtain ⟨ops', T'⟩ := ot'
        obtain ⟨k', L'⟩ := st'
        obtain ⟨z1, z2⟩ := z
        have e := run_eq (ps := ps) r (n + 1) ops' T' L' z2
        have z1' : k' = ops'.length := z1
        rw [z1']
        exact e
/-! ### other names, the same reading -/
section
variable {α β : Type} [DecidableEq α] [DecidableEq β] {g : α → β} {S : α → Prop}
def InjOn (g : α → β) (S : α → Prop) : Prop := ∀ a b, S a → S b → g a = g b → a = b
theorem mem_ren (hg : InjOn g S) {a : α} {xs : List α} (ha : S a) (hx : ∀ x ∈ xs, S x) : decide (g a ∈ xs.map g) = decide (a ∈ xs) := by
  rw [decide_eq_decide]
  constructor
  · intro h
    obtain ⟨b, hb, e⟩ := List.mem_map.mp h
    rw [hg a b ha (hx b hb) e.symm]
    exact hb
  · exact List.mem_map_of_mem
theorem nodup_ren (hg : InjOn g S) : ∀ xs : List α, (∀ x ∈ xs, S x) → decide (xs.map g).Nodup = decide xs.Nodup
  | [], _ => by simp
  | x :: xs, h => by
    have ih := nodup_ren hg xs fun y hy => h y (List.mem_cons_of_mem _ hy)
    have m := mem_ren hg (h x List.mem_cons_self) fun y hy => h y (List.mem_cons_of_mem _ hy)
    rw [decide_eq_decide] at ih m ⊢
    rw [List.map_cons, List.nodup_cons, List.nodup_cons, ih, m]
theorem among_ren (hg : InjOn g S) {xs ps : List α} (hx : ∀ x ∈ xs, S x) (hp : ∀ x ∈ ps, S x) : amongA (xs.map g) (ps.map g) = amongA xs ps := by
  unfold amongA
  rw [nodup_ren hg xs hx, List.all_map]
  congr 1
  rw [Bool.eq_iff_iff, List.all_eq_true, List.all_eq_true]
  constructor
  · intro h x hm
    have z := h x hm
    have z2 : decide (g x ∈ ps.map g) = true := z
    rw [mem_ren hg (hx x hm) hp] at z2
    exact z2
  · intro h x hm
    show decide (g x ∈ ps.map g) = true
    rw [mem_ren hg (hx x hm) hp]
    exact h x hm
theorem told_ren (hg : InjOn g S) {L : List (List α)} (hL : ∀ xs ∈ L, ∀ x ∈ xs, S x) {a b : α} (ha : S a) (hb : S b) : isTold (L.map (List.map g)) (g a) (g b) = isTold L a b := by
  unfold isTold
  rw [List.any_map]
  rw [Bool.eq_iff_iff, List.any_eq_true, List.any_eq_true]
  have key : ∀ xs ∈ L, (decide (g a ∈ xs.map g) && (decide (g b ∈ xs.map g) && decide (g a ≠ g b))) = (decide (a ∈ xs) && (decide (b ∈ xs) && decide (a ≠ b))) := fun xs hm => by
    rw [mem_ren hg ha (hL xs hm), mem_ren hg hb (hL xs hm)]
    have e : decide (g a ≠ g b) = decide (a ≠ b) := by
      rw [decide_eq_decide]
      exact ⟨fun h z => h (by rw [z]), fun h z => h (hg a b ha hb z)⟩
    rw [e]
  constructor
  · rintro ⟨xs, hm, h⟩
    exact ⟨xs, hm, by rw [← key xs hm]; exact h⟩
  · rintro ⟨xs, hm, h⟩
    exact ⟨xs, hm, by rw [← key xs hm] at h; exact h⟩
theorem pair_ren (hg : InjOn g S) {L : List (List α)} (hL : ∀ xs ∈ L, ∀ x ∈ xs, S x) : ∀ {xs : List α}, (∀ x ∈ xs, S x) → pairNew (L.map (List.map g)) (xs.map g) = pairNew L xs
  | [], _ => rfl
  | [_], _ => rfl
  | [a, b], h => by
    show (!isTold (L.map (List.map g)) (g a) (g b)) = !isTold L a b
    rw [told_ren hg hL (h a (by simp)) (h b (by simp))]
  | _ :: _ :: _ :: _, _ => rfl
theorem step_ren (hg : InjOn g S) {ps xs : List α} {n k : Nat} {kw : Str} {L : List (List α)} (hp : ∀ x ∈ ps, S x) (hx : ∀ x ∈ xs, S x) (hL : ∀ ys ∈ L, ∀ x ∈ ys, S x) :
    stepA (ps.map g) n kw (xs.map g) (k, L.map (List.map g)) = (stepA ps n kw xs (k, L)).map fun st => (st.1, st.2.map (List.map g)) := by
  unfold stepA
  dsimp only
  rw [among_ren hg hx hp, pair_ren hg hL hx, List.length_map]
  split
  · rfl
  · split <;> rfl
theorem step_in {ps xs : List α} {n k k' : Nat} {kw : Str} {L L' : List (List α)} (h : stepA ps n kw xs (k, L) = some (k', L')) : L' = xs :: L := by
  unfold stepA at h
  split at h
  · cases h
    rfl
  · split at h
    · cases h
      rfl
    · cases h
theorem run_ren (hg : InjOn g S) {ps : List α} (hp : ∀ x ∈ ps, S x) : ∀ (ls : List (Str × List α)) (n k : Nat) (L : List (List α)), (∀ l ∈ ls, ∀ x ∈ l.2, S x) → (∀ ys ∈ L, ∀ x ∈ ys, S x) →
    runA (ps.map g) n (ls.map fun l => (l.1, l.2.map g)) (k, L.map (List.map g)) = runA ps n ls (k, L)
  | [], n, k, L, _, _ => rfl
  | (kw, xs) :: r, n, k, L, h1, h2 => by
    rw [List.map_cons, runA_cons, runA_cons, step_ren hg hp (h1 (kw, xs) List.mem_cons_self) h2]
    dsimp only
    cases e : stepA ps n kw xs (k, L) with
    | none => rfl
    | some st' =>
      obtain ⟨k', L'⟩ := st'
      have eL := step_in e
      subst eL
      exact run_ren hg hp r (n + 1) k' (xs :: L) (fun l hl => h1 l (List.mem_cons_of_mem _ hl)) fun ys hy => by
        rcases List.mem_cons.mp hy with hy | hy
        · rw [hy]
          exact h1 (kw, xs) List.mem_cons_self
        · exact h2 ys hy
end
end MX

set_option Elab.async false
set_option linter.all false
set_option maxRecDepth 100000
set_option maxHeartbeats 4000000
namespace MX
open PySem PySem.Spec PySem.W PySem.Calls PyProof.Rows L2
/-! ### texts made of lines, lines made of words -/
/-- no blank, no line feed -/
def Clean (x : Str) : Prop := 32 ∉ TL.tl x ∧ 10 ∉ TL.tl x
theorem mem_joinL {c : Nat} {S : List Nat} : ∀ {ps : List (List Nat)}, c ∈ TL.joinL S ps → c ∈ S ∨ ∃ p ∈ ps, c ∈ p
  | [], h => by cases h
  | [p], h => .inr ⟨p, List.mem_cons_self, h⟩
  | p :: q :: r, h => by
    have h' : c ∈ p ++ (S ++ TL.joinL S (q :: r)) := h
    rcases List.mem_append.mp h' with h | h
    · exact .inr ⟨p, List.mem_cons_self, h⟩
    · rcases List.mem_append.mp h with h | h
      · exact .inl h
      · rcases mem_joinL h with h | ⟨y, hy, h⟩
        · exact .inl h
        · exact .inr ⟨y, List.mem_cons_of_mem _ hy, h⟩
theorem row_clean {ws : List Str} (h : ∀ w ∈ ws, Clean w) : 10 ∉ TL.tl (Txt.join " " ws) := by
  rw [TL.join_eq, TL.tl_join]
  intro z
  rcases mem_joinL z with z | ⟨p, hp, z⟩
  · exact absurd z (by decide +kernel)
  · obtain ⟨w, hw, rfl⟩ := List.mem_map.mp hp
    exact (h w hw).2 z
theorem row_split {ws : List Str} (ne : ws ≠ []) (h : ∀ w ∈ ws, Clean w) : Txt.split (Txt.join " " ws) " " = ws :=
  TL.split_join (s := 32) (S := []) (by decide +kernel) (by decide +kernel) ne fun p hp => (h p hp).1
theorem text_split {wss : List (List Str)} (ne : wss ≠ []) (h : ∀ ws ∈ wss, ∀ w ∈ ws, Clean w) : Txt.split (Txt.join "\n" (wss.map (Txt.join " "))) "\n" = wss.map (Txt.join " ") := by
  refine TL.split_join (s := 10) (S := []) (by decide +kernel) (by decide +kernel) (by simpa using ne) fun p hp => ?_
  obtain ⟨ws, hw, rfl⟩ := List.mem_map.mp hp
  exact row_clean (h ws hw)
theorem lines_of {wss : List (List Str)} (ne : wss ≠ []) (ne2 : ∀ ws ∈ wss, ws ≠ []) (h : ∀ ws ∈ wss, ∀ w ∈ ws, Clean w) : hallLines (Txt.join "\n" (wss.map (Txt.join " "))) = wss := by
  unfold hallLines
  rw [text_split ne h, List.map_map]
  conv => rhs; rw [← List.map_id wss]
  exact List.map_congr_left fun ws hw => row_split (ne2 ws hw) (h ws hw)
theorem parse_of {w0 : List Str} {ls : List (Str × List Str)} (ne : w0 ≠ []) (h0 : ∀ w ∈ w0, Clean w) (h : ∀ l ∈ ls, Clean l.1 ∧ ∀ w ∈ l.2, Clean w) :
    bare (parseH (Txt.join "\n" ((w0 :: ls.map wordsOf).map (Txt.join " ")))) = if peopleB w0 = true then runA (w0.drop 1) 2 ls (0, []) else .inl 1 := by
  have e : hallLines (Txt.join "\n" ((w0 :: ls.map wordsOf).map (Txt.join " "))) = w0 :: ls.map wordsOf := by
    refine lines_of (by simp) (fun ws hw => ?_) fun ws hw => ?_
    · rcases List.mem_cons.mp hw with hw | hw
      · rw [hw]; exact ne
      · obtain ⟨l, _, rfl⟩ := List.mem_map.mp hw
        exact fun z => by cases z
    · rcases List.mem_cons.mp hw with hw | hw
      · rw [hw]; exact h0
      · obtain ⟨l, hl, rfl⟩ := List.mem_map.mp hw
        intro w hw
        rcases List.mem_cons.mp hw with hw | hw
        · rw [hw]; exact (h l hl).1
        · exact (h l hl).2 w hw
  have e2 : parseH (Txt.join "\n" ((w0 :: ls.map wordsOf).map (Txt.join " "))) = if peopleB w0 = true then runT (w0.drop 1) 2 (ls.map wordsOf) ([], []) else .inl 1 := by
    unfold parseH
    rw [e]
  rw [e2]
  split
  · exact run_eq ls 2 [] [] [] TellsL.nil
  · rfl
theorem parse_inl {x : Str} {n : Nat} (h : bare (parseH x) = .inl n) : parseH x = .inl n := by
  cases q : parseH x with
  | inl m => rw [q] at h; exact congrArg Sum.inl (Sum.inl.inj h)
  | inr y => rw [q] at h; cases h
theorem parse_inr {x : Str} (h : bare (parseH x) = .inr ()) : ∃ ot, parseH x = .inr ot := by
  cases q : parseH x with
  | inl m => rw [q] at h; cases h
  | inr y => exact ⟨y, rfl⟩
theorem len_tl (x : Str) : x.length = (TL.tl x).length := (Array.length_toList).symm
theorem joinL_len {S : List Nat} : ∀ ps : List (List Nat), (TL.joinL S ps).length ≤ (ps.map List.length).sum + ps.length * S.length
  | [] => by simp [TL.joinL]
  | [p] => by simp [TL.joinL]
  | p :: q :: r => by
    have z := joinL_len (S := S) (q :: r)
    show (p ++ (S ++ TL.joinL S (q :: r))).length ≤ (p.length + ((q :: r).map List.length).sum) + ((q :: r).length + 1) * S.length
    rw [List.length_append, List.length_append, Nat.succ_mul]
    omega
theorem sum_le {α : Type} {f : α → Nat} {m : Nat} : ∀ xs : List α, (∀ x ∈ xs, f x ≤ m) → (xs.map f).sum ≤ xs.length * m
  | [], _ => by simp
  | x :: xs, h => by
    have z := sum_le xs fun y hy => h y (List.mem_cons_of_mem _ hy)
    have z2 := h x List.mem_cons_self
    rw [List.map_cons, List.sum_cons, List.length_cons, Nat.succ_mul]
    omega
theorem join_len {sep : Str} {ps : List Str} {m k : Nat} (h : ∀ p ∈ ps, p.length ≤ m) (hk : sep.length ≤ k) : (Txt.join sep ps).length ≤ ps.length * (m + k) := by
  rw [len_tl, TL.join_eq, TL.tl_join]
  have z := joinL_len (S := TL.tl sep) (ps.map TL.tl)
  have z2 : ((ps.map TL.tl).map List.length).sum ≤ ps.length * m := by
    rw [List.map_map]
    exact sum_le ps fun p hp => by
      have q := h p hp
      rw [len_tl] at q
      exact q
  rw [List.length_map] at z
  have z3 : ps.length * (TL.tl sep).length ≤ ps.length * k := Nat.mul_le_mul_left _ (by rw [← len_tl]; exact hk)
  rw [Nat.mul_add]
  omega
/-- a text of short lines of short clean words may be read -/
theorem text_ok {wss : List (List Str)} (ne : wss ≠ []) (ne2 : ∀ ws ∈ wss, ws ≠ []) (h : ∀ ws ∈ wss, ∀ w ∈ ws, Clean w ∧ w.length ≤ 20) (few : wss.length ≤ 100) (short : ∀ ws ∈ wss, ws.length ≤ 100) :
    TextOk (Txt.join "\n" (wss.map (Txt.join " "))) ∧ ((wss.map (Txt.join " ")).map (·.length)).sum + (wss.map (Txt.join " ")).length * (("\n" : Str)).length ≤ 16777216 := by
  have hc : ∀ ws ∈ wss, ∀ w ∈ ws, Clean w := fun ws hw w hm => (h ws hw w hm).1
  have hl : ∀ ws ∈ wss, (Txt.join " " ws).length ≤ 2100 := fun ws hw => by
    have z := join_len (sep := " ") (k := 1) (fun p hp => (h ws hw p hp).2) (by decide +kernel)
    have z2 := short ws hw
    omega
  have hl2 : ∀ p ∈ wss.map (Txt.join " "), p.length ≤ 2100 := fun p hp => by
    obtain ⟨ws, hw, rfl⟩ := List.mem_map.mp hp
    exact hl ws hw
  have eL := lines_of ne ne2 hc
  have eT := text_split ne hc
  have n1 : (("\n" : Str)).length ≤ 1 := by decide +kernel
  refine ⟨⟨?_, ?_, ?_, ?_, ?_⟩, ?_⟩
  · have z := join_len (sep := "\n") (k := 1) hl2 n1
    rw [List.length_map] at z
    omega
  · rw [eL]; omega
  · rw [eL]
    exact List.length_pos_iff.mpr ne
  · rw [eT]
    intro l hm
    have := hl2 l hm
    omega
  · rw [eL]
    intro ws hw
    refine ⟨List.length_pos_iff.mpr (ne2 ws hw), short ws hw, fun w hm => ?_⟩
    have := (h ws hw w hm).2
    omega
  · have z := sum_le (f := fun x : Str => x.length) (m := 2100) (wss.map (Txt.join " ")) hl2
    have z2 := Nat.mul_le_mul_left (wss.map (Txt.join " ")).length n1
    rw [List.length_map] at z z2 ⊢
    omega
end MX

set_option Elab.async false
set_option linter.all false
set_option maxRecDepth 100000
set_option maxHeartbeats 16000000
namespace K14
open PySem PySem.Spec PySem.W PySem.Calls PyProof.Rows L2 MX
abbrev sRightR : Stmt := top 55
abbrev nR : List Str := ["_law_pot_here", "_law_names_here", "_law_a", "_law_b", "_law_c", "_law_page", "_law_hall", "_law_rows", "_law_marks", "_law_order", "_law_is_let", "_law_line", "_law_told", "_law_sayings", "_law_saying", "_law_back"]
theorem scR : FnScope nR ["_law_pot_here"] (defScope sRightR) := ⟨rfl, rfl, rfl, by decide +kernel, rfl, by decide +kernel, by decide +kernel⟩
def spRightR : Sp := fun vs H Q _ => ∃ p, vs = [.ref p] ∧ Pot 0 H p ∧ ∀ H', Ext p H H' → Q (.bl true) H'
/-- what _law_right finds -/
structure RiF (P : Program) (w : World) (K : PySem.W.Frag) (mg : Str → Option Value) (base : Heap) (C CB cB dB fI fB fL fO fT fM fTh fS fF fBr : Addr) (fdI fdB fdL fdO fdT fdM fdTh fdS fdF fdBr : FuncData) (ds : List Value) : Prop where
  mkH : Mk K C fI
  gH : mg "Hall" = some (.ref C)
  GI : FnOk P w K mg base (L2.CX P w) 5 fI fdI ["self", "text"] (spInit K C cB)
  bI : L2.Binds K fdI ["self", "text"] []
  mkB : Mk K CB fB
  gB : mg "Book" = some (.ref CB)
  GB : FnOk P w K mg base CX0 5 fB fdB nBk (spBook K C CB)
  bB0 : L2.Binds K fdB nBk ds
  ds0 : Vals [V.ref dB] ds
  d0 : ∀ H, SqT K H dB []
  bB1 : L2.Binds K fdB nBk []
  cB' : Cls K CB
  FL : FnP K "_law_line_by" sLineBy fL fdL
  gL : mg "_law_line_by" = some (.ref fL)
  GL : FnOk P w K mg base CX0 1 fL fdL ["_law_names_here", "_law_marks"] spLine
  FO : FnP K "order_of" sOrderOf fO fdO
  gO : mg "order_of" = some (.ref fO)
  GO : FnOk P w K mg base CX0 5 fO fdO ["hall", "timeline"] (spP pVT2 (fun j : HT2 => [hR K C j.1, tlR j.2]) fun j => oT ((srtE (ordL j.1.ps j.2)).map evR))
  FT : FnP K "turned" sTurned fT fdT
  gT : mg "turned" = some (.ref fT)
  GT : FnOk P w K mg base CX0 5 fT fdT ["hall", "timeline"] (spP pVT (fun j : HT2 => [hR K C j.1, tlR j.2]) fun j => tlR (turnE j.2))
  FM : FnP K "met_by" sMetBy fM fdM
  gM : mg "met_by" = some (.ref fM)
  GM : FnOk P w K mg base CX0 5 fM fdM ["hall", "timeline", "one", "other"] (spP pMetBy (aMetBy K C) fun j => oB (meetB j.2.1 j.2.2.1 j.2.2.2))
  FTh : FnP K "there" sThere fTh fdTh
  gTh : mg "there" = some (.ref fTh)
  GTh : FnOk P w K mg base CX0 5 fTh fdTh ["hall", "timeline", "event"] (spP pThere (aThere K C) fun j => oT ((thereL j.1.ps j.2.1 j.2.2).map oS))
  FS : FnP K "is_so" sIsSo fS fdS
  gS : mg "is_so" = some (.ref fS)
  GS : FnOk P w K mg base CX0 5 fS fdS ["hall", "timeline", "saying"] (spP pIsSo (fun j => [hR K C j.1, tlR j.2.1, syR j.2.2]) fun j => oB (holdB j.2.1 j.2.2))
  FF : FnM K "fits" "Book.fits" sFits fF fdF
  mF : Meth K CB "fits" fF
  GF : FnOk P w K mg base CX0 6 fF fdF nFits (spP pFits (fun j : BT2 => [bR K C CB j.1, tlR j.2]) fun j => oB (fitsB j))
  FBr : FnM K "broken" "Book.broken" sBroken fBr fdBr
  mBr : Meth K CB "broken" fBr
  GBr : FnOk P w K mg base CX0 5 fBr fdBr ["self", "timeline"] (spP pBk (fun j : BT2 => [bR K C CB j.1, tlR j.2]) fun j => oT ((brokenL j.2 j.1.ss).map oI))
  tup : mg "tuple" = none
  srt : mg "sorted" = none
  rep : mg "repr" = none
  all : mg "all" = none
abbrev g1 : Nm → Gm := fun n => [none, some (oSL (nsN n)), none, none, none, none, none, none, none, none, none, none, none, none, none, none]
abbrev g2 : Nm → Gm := fun n => [none, some (oSL (nsN n)), some (oS n.a), some (oS n.b), some (oS n.c), none, none, none, none, none, none, none, none, none, none, none]
theorem sub_app {α : Type} {x : α} {a b : List α} (h : x ∈ a) : x ∈ a ++ b := List.mem_append_left _ h
section
variable {P : Program} {w : World} {K : PySem.W.Frag} {mg : Str → Option Value} {base : Heap} {f C CB cB dB fI fB fL fO fT fM fTh fS fF fBr : Addr} {fd fdI fdB fdL fdO fdT fdM fdTh fdS fdF fdBr : FuncData} {ds : List Value}
theorem join3 {n : Nm} (h : FN n) : (Txt.join " " (nsN n)).length ≤ 100 ∧ n.a.length ≤ 20 ∧ n.b.length ≤ 20 ∧ n.c.length ≤ 20 ∧ ((nsN n).map (·.length)).sum + (nsN n).length * (" " : Str).length ≤ 16777216 := by
  have ha := (h.good n.a (by simp [nsN])).2
  have hb := (h.good n.b (by simp [nsN])).2
  have hc := (h.good n.c (by simp [nsN])).2
  have z := join_len (sep := " ") (ps := nsN n) (m := 20) (k := 1) (fun p hp => (h.good p hp).2) (by decide)
  have e : (nsN n).length = 3 := rfl
  refine ⟨by rw [e] at z; omega, ha, hb, hc, ?_⟩
  have e1 : (" " : Str).length = 1 := by decide
  rw [e, e1]
  show (n.a.length + (n.b.length + (n.c.length + 0))) + 3 * 1 ≤ 16777216
  omega
abbrev gH (K : PySem.W.Frag) (C : Addr) : Nm → Gm := fun n => [none, some (oSL (nsN n)), some (oS n.a), some (oS n.b), some (oS n.c), none, some (hR K C (hN n)), none, none, none, none, none, none, none, none, none]
abbrev gL (K : PySem.W.Frag) (C : Addr) : Nm → Gm := fun n => [none, some (oSL (nsN n)), some (oS n.a), some (oS n.b), some (oS n.c), none, some (hR K C (hN n)), none, none, none, none, some (tlR (es0 n)), none, none, none, none]
abbrev gS (K : PySem.W.Frag) (C : Addr) : Nm → Gm := fun n => [none, some (oSL (nsN n)), some (oS n.a), some (oS n.b), some (oS n.c), none, some (hR K C (hN n)), none, none, none, none, some (tlR (es0 n)), none, some (oL ((ssN n).map syR)), none, none]
theorem tRt_as {P' : Nm → Prop} {Γ Γ' : Nm → Gm} {res : Nm → Rd} {X : Cx} {st : List Stmt} (h : PSs X st (tRt (fun _ => []) P' Γ' res)) (l : ∀ n, (Γ' n).length = (Γ n).length) (g : ∀ n (k : Nat) (r : Rd), (Γ' n)[k]? = some (some r) → ∃ r', (Γ n)[k]? = some (some r') ∧ ∀ v H, r'.R v H → r.R v H) : PSs X st (tRt (fun _ => []) P' Γ res) :=
  pss_mono h fun D σ H ⟨i, ok, q⟩ => ⟨i, ⟨⟨ok.1.p, by rw [ok.1.l, l i], fun k r e => by
    obtain ⟨r', e1, e2⟩ := g i k r e
    obtain ⟨v, e3, e4⟩ := ok.1.at_ k r' e1
    exact ⟨v, e3, e2 v _ e4⟩⟩, ok.2⟩, q⟩
abbrev cxR (P : Program) (w : World) (K : PySem.W.Frag) (mg : Str → Option Value) (base : Heap) (f : Addr) (cdv : Value) (A : Around) (outer : List Env) (s : Shared) (H : Hp) (E : XK) : Cx := (cxOf CX0 P w K mg base nR "_law_right" (defScope sRightR) f cdv A outer s H E).nox
theorem mem_a (n : Nm) : n.a ∈ nsN n := by simp [nsN]
theorem mem_b (n : Nm) : n.b ∈ nsN n := by simp [nsN]
theorem mem_c (n : Nm) : n.c ∈ nsN n := by simp [nsN]
def dT (n : Nm) : PyData := .list [.tuple [], .tuple [.str n.a], .tuple [.str n.b], .tuple [.str n.b], .tuple [.str n.c], .tuple []]
theorem shows_T {n : Nm} (h : FN n) : Shows (dT n) := by
  have a := h.good n.a (mem_a n)
  have b := h.good n.b (mem_b n)
  have c := h.good n.c (mem_c n)
  have la : n.a.cps.size ≤ 20 := a.2
  have lb : n.b.cps.size ≤ 20 := b.2
  have lc : n.c.cps.size ≤ 20 := c.2
  refine ⟨by simp [dT, PyData.showable, PyData.showableAll], by simp [dT, PyData.depth, PyData.depthAll], PyData.shown_fits (B := 8) (by decide) (by decide) ?_ ?_⟩
  · have s1 := short_str (B := 8) a.1
    have s2 := short_str (B := 8) b.1
    have s3 := short_str (B := 8) c.1
    simp only [PyData.leavesShort] at s1 s2 s3
    simp only [dT, PyData.leavesShort, PyData.leavesShortAll, s1, s2, s3]
    rfl
  · simp only [dT, PyData.weight, PyData.weightAll]
    omega
section
variable {cdv : Value} {A : Around} {outer : List Env} {s : Shared} {H : Hp} {E : XK}
theorem part3 (RF : RiF P w K mg base C CB cB dB fI fB fL fO fT fM fTh fS fF fBr fdI fdB fdL fdO fdT fdM fdTh fdS fdF fdBr ds) (hrg : RoomG 7 (cxR P w K mg base f cdv A outer s H E).A) :
    PSs (cxR P w K mg base f cdv A outer s H E) ((defBody sRightR).drop 12) (tRt (fun _ => []) FN (gL K C) fun _ => oB true) := by
  have hr := hrg.r
  have hr6 := hr.mono (show 6 ≤ 7 by decide)
  have hr5 := hr.mono (show 5 ≤ 7 by decide)
  have hr1 := hr.mono (show 1 ≤ 7 by decide)
  have hu := hr.units
  have bS : L2.Binds K fdS ["hall", "timeline", "saying"] [] := RF.FS.bindsN fun _ _ _ _ _ _ us hl => match us, hl with | [_, _, _], _ => rfl
  have bF : L2.Binds K fdF nFits [] := RF.FF.bindsN fun _ _ _ _ _ _ us hl => match us, hl with | [_, _], _ => rfl
  have bBr : L2.Binds K fdBr ["self", "timeline"] [] := RF.FBr.bindsN fun _ _ _ _ _ _ us hl => match us, hl with | [_, _], _ => rfl
  have bT : L2.Binds K fdT ["hall", "timeline"] [] := RF.FT.bindsN fun _ _ _ _ _ _ us hl => match us, hl with | [_, _], _ => rfl
  have inst : ∀ {m : Str}, [("hall" : Str), "sayings"].contains m = false → ∀ (b : BI) (v : V) (H : Hp), (bR K C CB b).R v H → ∃ p dx fs, v = .ref p ∧ H p = some (.ins CB dx fs) ∧ fs.lookup m = none := fun {m} hm b v H h => by
    obtain ⟨p, dx, vh, vs, e, hp, _, _⟩ := h
    refine ⟨p, dx, _, e, hp, ?_⟩
    simp only [List.contains_cons, Bool.or_eq_false_iff] at hm
    simp [List.lookup, hm.1, hm.2.1]
  have okB : ∀ n, FN n → okBook ⟨hN n, ssN n⟩ := fun n h => ⟨by simp [ssN, ss1, ss2], fun s hs => by
    rw [show (BI.mk (hN n) (ssN n)).h.ps = nsN n from h.ps]
    exact (h.says s hs).1⟩
  exact (bd_grow (P := FN) (Γ := gL K C) (res := fun _ => oB true) (k := 13) (rs := fun n => (ss1 n).map syR) scR.nd
      (ea_cons evT (er_tup evT (ea_cons evT er_str (ea_cons evT (et_var 2) (ea_cons evT (et_var 3) ea_nil))) (by intro _ _ _ _; rw [sizeLine_eq]; exact Nat.le_of_ble_eq_true rfl))
      (ea_cons evT (er_tup evT (ea_cons evT er_str (ea_cons evT (et_var 4) (ea_cons evT (et_var 2) ea_nil))) (by intro _ _ _ _; rw [sizeLine_eq]; exact Nat.le_of_ble_eq_true rfl))
      (ea_cons evT (er_tup evT (ea_cons evT er_str (ea_cons evT (et_var 4) (ea_cons evT (et_var 3) ea_nil))) (by intro _ _ _ _; rw [sizeLine_eq]; exact Nat.le_of_ble_eq_true rfl))
      (ea_cons evT (er_tup evT (ea_cons evT er_str (ea_cons evT (er_tup evT (ea_cons evT (et_var 2) (ea_cons evT er_str ea_nil)) (by intro _ _ _ _; rw [sizeLine_eq]; exact Nat.le_of_ble_eq_true rfl)) (ea_cons evT (er_tup evT (ea_cons evT (et_var 4) (ea_cons evT er_str ea_nil)) (by intro _ _ _ _; rw [sizeLine_eq]; exact Nat.le_of_ble_eq_true rfl)) ea_nil))) (by intro _ _ _ _; rw [sizeLine_eq]; exact Nat.le_of_ble_eq_true rfl)) ea_nil))))
      (fun _ _ => by simp [ss1]) (fun _ => rfl)
    (grow_more (more := fun n => (ss2 n).map syR) (es_extend2 evT 13 (er_lst evT (rs := fun j : Nm × Addr => (ss2 j.1).map syR)
      (ea_cons evT (er_tup evT (ea_cons evT er_str (ea_cons evT (er_tup evT (ea_cons evT (et_var 2) (ea_cons evT er_str ea_nil)) (by intro _ _ _ _; rw [sizeLine_eq]; exact Nat.le_of_ble_eq_true rfl)) (ea_cons evT (er_tup evT (ea_cons evT (et_var 3) (ea_cons evT er_str ea_nil)) (by intro _ _ _ _; rw [sizeLine_eq]; exact Nat.le_of_ble_eq_true rfl)) ea_nil))) (by intro _ _ _ _; rw [sizeLine_eq]; exact Nat.le_of_ble_eq_true rfl))
      (ea_cons evT (er_tup evT (ea_cons evT er_str (ea_cons evT (er_tup evT (ea_cons evT (et_var 3) (ea_cons evT er_str ea_nil)) (by intro _ _ _ _; rw [sizeLine_eq]; exact Nat.le_of_ble_eq_true rfl)) (ea_cons evT (er_tup evT (ea_cons evT (et_var 4) (ea_cons evT er_str ea_nil)) (by intro _ _ _ _; rw [sizeLine_eq]; exact Nat.le_of_ble_eq_true rfl)) ea_nil))) (by intro _ _ _ _; rw [sizeLine_eq]; exact Nat.le_of_ble_eq_true rfl)) ea_nil)) (by intro _ _ _ _; rw [sizeLine_eq]; exact Nat.le_of_ble_eq_true rfl))) (fun _ _ => by simp [ss1, ss2])
    (grow_done (fun _ => rfl) (tRt_as (Γ' := gS K C) (bt_skip (tt_to (tt_not (tt_val (er_all (bs := fun n => (ssN n).map fun s => decide (holdB (es0 n) s = true)) rfl (by rfl) RF.all boot_all (et_to (et_lcY (P := FN) (Γ := gS K C) (xs := ssN) (r := fun _ => syR) (res := fun n s => oB (decide (holdB (es0 n) s = true))) (own := [("_law_saying", 14)]) (g := gName 14) (Γ' := fun j : Nm × Say × Addr => (gS K C j.1).set 14 (some (syR j.2.1))) rfl scR.nd (pi_list (et_var 13)) src_list (blkOk_by (N := nR) (sc := defScope sRightR) (by decide +kernel))
        (fun _ _ _ _ _ => pg_name (i := 14) scR.nd rfl (Or.inl rfl)) (tgt_name (Γ := gS K C) (k := 14) (vs := [14]) (List.mem_singleton.mpr rfl) (fun i v hv => by rw [List.mem_singleton.mp hv]; rfl))
        (fun _ _ _ _ _ => by exact er_isB evT (x := fun j : Nm × Say × Addr => holdB (es0 j.1) j.2.1) (y := fun _ => true) (et_callP RF.GS hr5 rfl RF.gS RF.FS.kp bS (fun j : Nm × Say × Addr => (hN j.1, es0 j.1, j.2.1)) (fun j h => by
          show VT (hN j.1).ps (es0 j.1) ∧ okSay (hN j.1).ps j.2.1
          rw [h.1.ps]
          exact ⟨h.1.v0, (h.1.says _ h.2).1⟩) (fun _ _ _ _ h => h) (ea_cons evT (et_var 6) (ea_cons evT (et_var 11) (ea_cons evT (et_var 14) ea_nil)))) er_bl) (fun n h => by simp [ssN, ss1, ss2])) (fun n _ => by rw [List.map_map]; rfl))))) (fun n h => by
          have e : ((ssN n).map fun s => decide (holdB (es0 n) s = true)).all id = true := by
            rw [List.all_map, List.all_eq_true]
            intro x hx
            show decide (holdB (es0 n) x = true) = true
            rw [(h.says x hx).2]
            rfl
          rw [e]
          rfl))
      (bt_skip (tt_to (tt_not (tt_val (et_meth (rr := fun n => bR K C CB ⟨hN n, ssN n⟩) (bs := fun n => [tlR (es0 n)]) (rz := fun n => oB (fitsB (⟨hN n, ssN n⟩, es0 n))) RF.GF (fun n => (⟨hN n, ssN n⟩, es0 n)) (fun n h => ⟨⟨by rw [show (BI.mk (hN n) (ssN n)).h.ps = nsN n from h.ps]; exact h.v0, okB n h⟩, h.st⟩) (fun _ => rfl) (fun n v H h => inst (by decide +kernel) _ v H h)
          (er_book1 evT (b := fun n => ⟨hN n, ssN n⟩) RF.mkB RF.GB hr6 (by rfl) RF.gB RF.bB1 (et_var 6) (er_tupleOf evT (by rfl) RF.tup boot_tuple (et_var 13)) (fun n σ H h => okB n h.p)) (ea_cons evT (et_var 11) ea_nil) (fun ho ha => pe_meth ho RF.cB' RF.mF RF.GF hr6 bF .nil pass0 ha)))) (fun n h => by
          show (!fitsB (⟨hN n, ssN n⟩, es0 n)) = false
          rw [h.fits]
          rfl))
      (bd_set (k := 15) scR.nd (et_call RF.GT hr5 (by rfl) RF.gT RF.FT.kp bT (fun n => (hN n, es0 n)) (fun n h => by show VT (hN n).ps (es0 n); rw [h.ps]; exact h.v0) (ea_cons evT (et_var 6) (ea_cons evT (et_var 11) ea_nil)))
      (bd_ret (et_to (er_eqD evT hu (d := fun n => .tuple ((brokenL (turnE (es0 n)) (ssN n)).map PyData.int)) (f := fun _ => .tuple [.int 3, .int 4, .int 5]) (et_meth (rr := fun n => bR K C CB ⟨hN n, ssN n⟩) (bs := fun n => [tlR (turnE (es0 n))]) (rz := fun n => oT ((brokenL (turnE (es0 n)) (ssN n)).map oI)) RF.GBr (fun n => (⟨hN n, ssN n⟩, turnE (es0 n))) (fun n h => ⟨by rw [show (BI.mk (hN n) (ssN n)).h.ps = nsN n from h.ps]; exact h.v1, okB n h⟩) (fun _ => rfl) (fun n v H h => inst (by decide +kernel) _ v H h)
          (er_book1 evT (b := fun n => ⟨hN n, ssN n⟩) RF.mkB RF.GB hr6 (by rfl) RF.gB RF.bB1 (et_var 6) (er_tupleOf evT (by rfl) RF.tup boot_tuple (et_var 13)) (fun n σ H h => okB n h.p)) (ea_cons evT (et_var 15) ea_nil) (fun ho ha => pe_meth ho RF.cB' RF.mBr RF.GBr hr5 bBr .nil pass0 ha)) (er_tup (rs := fun _ => [oI 3, oI 4, oI 5]) evT (ea_cons evT er_int (ea_cons evT er_int (ea_cons evT er_int ea_nil))) (by intro _ _ _ _; rw [sizeLine_eq]; exact Nat.le_of_ble_eq_true rfl)) (fun n σ H h => ⟨isD_T (allD_map (fun x => isD_I) _), isD_T ⟨isD_I, isD_I, isD_I, trivial⟩, shaped_ints _, by decide⟩)) (fun n h => by
            show oB (PyData.eqv (.tuple ((brokenL (turnE (es0 n)) (ssN n)).map PyData.int)) (.tuple [.int 3, .int 4, .int 5])) = oB true
            rw [h.brk]
            rfl)))))) (fun _ => rfl) (fun n k r e => by
        match k, e with
        | 0, e => cases e
        | 1, e => exact ⟨_, rfl, fun v H q => by cases e; exact q⟩
        | 2, e => exact ⟨_, rfl, fun v H q => by cases e; exact q⟩
        | 3, e => exact ⟨_, rfl, fun v H q => by cases e; exact q⟩
        | 4, e => exact ⟨_, rfl, fun v H q => by cases e; exact q⟩
        | 5, e => cases e
        | 6, e => exact ⟨_, rfl, fun v H q => by cases e; exact q⟩
        | 7, e => cases e
        | 8, e => cases e
        | 9, e => cases e
        | 10, e => cases e
        | 11, e => exact ⟨_, rfl, fun v H q => by cases e; exact q⟩
        | 12, e => cases e
        | 13, e => exact ⟨_, rfl, fun v H q => by cases e; exact oLn_oL (by unfold ssN; rw [List.map_append]; exact q)⟩
        | 14, e => cases e
        | 15, e => cases e
        | (k + 16), e => cases e)))))
end
end
end K14

set_option Elab.async false
set_option linter.all false
set_option maxRecDepth 100000
set_option maxHeartbeats 4000000
namespace MX
open PySem PySem.Spec PySem.W PySem.Calls PyProof.Rows L2
theorem live_msk {M : List Addr} {H : Hp} {a : Addr} {vs : List V} (l : Live M H) (h : H a = some (.tup vs)) : msk M H a = some (.tup vs) := by
  rw [msk_in (fun m => by
    obtain ⟨us, e⟩ := l a m
    rw [h] at e
    cases e)]
  exact h
/-- what no list is in -/
def Liv (r : Rd) : Prop := ∀ v H (M : List Addr), Live M H → r.R v H → r.R v (msk M H)
theorem liv_S {x : Str} : Liv (oS x) := fun v H M l h => h
theorem liv_all {M : List Addr} {H : Hp} (l : Live M H) : ∀ {rs : List Rd} {vs : List V}, (∀ r ∈ rs, Liv r) → All2 rs vs H → All2 rs vs (msk M H)
  | [], [], _, _ => trivial
  | r :: rs, v :: vs, g, h => ⟨g r List.mem_cons_self v H M l h.1, liv_all l (fun r hr => g r (List.mem_cons_of_mem _ hr)) h.2⟩
  | [], _ :: _, _, h => h.elim
  | _ :: _, [], _, h => h.elim
theorem liv_T {rs : List Rd} (g : ∀ r ∈ rs, Liv r) : Liv (oT rs) := fun v H M l ⟨a, vs, e, h1, h2⟩ => ⟨a, vs, e, live_msk l h1, liv_all l g h2⟩
section
variable {ι : Type} {P : ι → Prop} {Γ : ι → Gm} {M : ι → List Addr} {X : Cx}
theorem et_callL {κ : Type} {rz : ι → Rd} {Pk : κ → Prop} {k : Nat} {f : Addr} {fd : FuncData} {ps : List Str} {as : κ → List Rd} {rs : κ → Rd} {x : Str} {p pos : Pos} {e : Expr} {es : List Expr} (F : FnOk X.prog X.w X.K X.mg X.base CX0 k f fd ps (spP Pk as rs)) (hr : Room k X.A) (hg : Gl X x) (hm : X.mg x = some (.ref f))
    (hk : PySem.W.keepIn X.K (.ref f) = true) (hb : L2.Binds X.K fd ps []) (φ : ι → κ) (hP : ∀ i, P i → Pk (φ i)) (liv : ∀ j, Liv (rs j)) (ha : PA X (e :: es) (tRA (EvT P Γ) M fun i => as (φ i))) (hdb : (x == ("__debug__" : Str)) = false := by decide)
    (he : starEach (e :: es) X.env = (false, eval e X.env) :: starEach es X.env := by rfl) (hpl : (backTo pos (starEach es X.env)).any (·.1) = false := by rfl) (hrs : ∀ i, rs (φ i) = rz i := by intro _; rfl) :
    PE X (.Call (.Name x p) (e :: es) [] pos) (tR (EvT P Γ) M rz) :=
  pe_mono (pe_call F hr hg hm hk hb .nil pass0 ha hdb he hpl) fun σ H Q ⟨i, ok, q⟩ => ⟨i, ok, fun vs H1 s1 al => by
    show spP Pk as rs (vs ++ []) H1 Q E0
    rw [List.append_nil]
    exact ⟨φ i, hP i ok.1.p, al.st (LamX.ExtN.of msk_sub), fun v H2 s2 rv => q v H2 (s1.trans s2) (by rw [← hrs i]; exact liv _ _ _ _ (ok.same evT (s1.trans s2)).2 rv)⟩⟩
end
theorem srtE_mem {o : List Evt} {e : Evt} (h : e ∈ srtE o) : e ∈ o := by
  unfold srtE at h
  split at h
  · rename_i z
    exact z.choose_spec.1.mem_iff.mp h
  · cases h
theorem srtE_len {o : List Evt} : (srtE o).length ≤ o.length := by
  unfold srtE
  split
  · rename_i z
    exact Nat.le_of_eq z.choose_spec.1.length_eq
  · exact Nat.zero_le _
end MX

set_option Elab.async false
set_option linter.all false
set_option maxRecDepth 100000
set_option maxHeartbeats 16000000
namespace K14
open PySem PySem.Spec PySem.W PySem.Calls PyProof.Rows L2 MX
section
variable {P : Program} {w : World} {K : PySem.W.Frag} {mg : Str → Option Value} {base : Heap} {f C CB cB dB fI fB fL fO fT fM fTh fS fF fBr : Addr} {fd fdI fdB fdL fdO fdT fdM fdTh fdS fdF fdBr : FuncData} {ds : List Value}
variable {cdv : Value} {A : Around} {outer : List Env} {s : Shared} {H : Hp} {E : XK}
theorem part2 (RF : RiF P w K mg base C CB cB dB fI fB fL fO fT fM fTh fS fF fBr fdI fdB fdL fdO fdT fdM fdTh fdS fdF fdBr ds) (hrg : RoomG 7 (cxR P w K mg base f cdv A outer s H E).A) :
    PSs (cxR P w K mg base f cdv A outer s H E) ((defBody sRightR).drop 8) (tRt (fun _ => []) FN (gH K C) fun _ => oB true) := by
  have hr := hrg.r
  have hr5 := hr.mono (show 5 ≤ 7 by decide)
  have hr1 := hr.mono (show 1 ≤ 7 by decide)
  have hu := hr.units
  have bL : L2.Binds K fdL ["_law_names_here", "_law_marks"] [] := RF.FL.bindsN fun _ _ _ _ _ _ us hl => match us, hl with | [_, _], _ => rfl
  have bTh : L2.Binds K fdTh ["hall", "timeline", "event"] [] := RF.FTh.bindsN fun _ _ _ _ _ _ us hl => match us, hl with | [_, _, _], _ => rfl
  have lv : ∀ j : HTE, Liv (oT ((thereL j.1.ps j.2.1 j.2.2).map oS)) := fun j => liv_T fun r hr => by
    obtain ⟨x, _, rfl⟩ := List.mem_map.mp hr
    exact liv_S
  exact (bd_set (k := 11) scR.nd (et_call (P := FN) (Γ := gH K C) RF.GL hr1 (by rfl) RF.gL RF.FL.kp bL (fun n => (nsN n, ("010212" : Str))) (fun n h => h.z0) (ea_cons evT (et_var 1) (ea_cons evT er_str ea_nil)))
    (bd_grow (P := FN) (Γ := gL K C) (res := fun _ => oB true) (k := 12) (rs := fun n => [oT [], oT [oS n.a], oT [oS n.b]]) scR.nd
      (ea_cons evT (et_to (et_call RF.GTh hr5 (by rfl) RF.gTh RF.FTh.kp bTh (fun n => (hN n, es0 n, (n.a, ("in" : Str)))) (fun n h => ⟨by show VT (hN n).ps (es0 n); rw [h.ps]; exact h.v0, (h.e0 n.a (mem_a n)).1⟩) (ea_cons evT (et_var 6) (ea_cons evT (et_var 11) (ea_cons evT (er_tup evT (ea_cons evT (et_var 2) (ea_cons evT er_str ea_nil)) (by intro _ _ _ _; rw [sizeLine_eq]; exact Nat.le_of_ble_eq_true rfl)) ea_nil)))) (fun n h => by show oT ((thereL (hN n).ps (es0 n) (n.a, "in")).map oS) = oT []; rw [h.ps, h.ta]; rfl))
      (ea_cons evT (et_to (et_call RF.GTh hr5 (by rfl) RF.gTh RF.FTh.kp bTh (fun n => (hN n, es0 n, (n.b, ("in" : Str)))) (fun n h => ⟨by show VT (hN n).ps (es0 n); rw [h.ps]; exact h.v0, (h.e0 n.b (mem_b n)).1⟩) (ea_cons evT (et_var 6) (ea_cons evT (et_var 11) (ea_cons evT (er_tup evT (ea_cons evT (et_var 3) (ea_cons evT er_str ea_nil)) (by intro _ _ _ _; rw [sizeLine_eq]; exact Nat.le_of_ble_eq_true rfl)) ea_nil)))) (fun n h => by show oT ((thereL (hN n).ps (es0 n) (n.b, "in")).map oS) = oT [oS n.a]; rw [h.ps, h.tb]; rfl))
      (ea_cons evT (et_to (et_call RF.GTh hr5 (by rfl) RF.gTh RF.FTh.kp bTh (fun n => (hN n, es0 n, (n.c, ("in" : Str)))) (fun n h => ⟨by show VT (hN n).ps (es0 n); rw [h.ps]; exact h.v0, (h.e0 n.c (mem_c n)).1⟩) (ea_cons evT (et_var 6) (ea_cons evT (et_var 11) (ea_cons evT (er_tup evT (ea_cons evT (et_var 4) (ea_cons evT er_str ea_nil)) (by intro _ _ _ _; rw [sizeLine_eq]; exact Nat.le_of_ble_eq_true rfl)) ea_nil)))) (fun n h => by show oT ((thereL (hN n).ps (es0 n) (n.c, "in")).map oS) = oT [oS n.b]; rw [h.ps, h.tc]; rfl)) ea_nil)))
      (fun _ _ => by simp) (fun _ => rfl)
    (grow_more (more := fun n => [oT [oS n.b], oT [oS n.c], oT []]) (es_extend2 evT 12 (er_lst evT (rs := fun j : Nm × Addr => [oT [oS j.1.b], oT [oS j.1.c], oT []])
      (ea_cons evT (et_to (et_callL RF.GTh hr5 (by rfl) RF.gTh RF.FTh.kp bTh (fun j : Nm × Addr => (hN j.1, es0 j.1, (j.1.a, ("out" : Str)))) (fun j h => ⟨by show VT (hN j.1).ps (es0 j.1); rw [h.ps]; exact h.v0, (h.e0 j.1.a (mem_a j.1)).2⟩) lv (ea_cons evT (et_var 6) (ea_cons evT (et_var 11) (ea_cons evT (er_tup evT (ea_cons evT (et_var 2) (ea_cons evT er_str ea_nil)) (by intro _ _ _ _; rw [sizeLine_eq]; exact Nat.le_of_ble_eq_true rfl)) ea_nil)))) (fun j h => by show oT ((thereL (hN j.1).ps (es0 j.1) (j.1.a, "out")).map oS) = oT [oS j.1.b]; rw [h.ps, h.ua]; rfl))
      (ea_cons evT (et_to (et_callL RF.GTh hr5 (by rfl) RF.gTh RF.FTh.kp bTh (fun j : Nm × Addr => (hN j.1, es0 j.1, (j.1.b, ("out" : Str)))) (fun j h => ⟨by show VT (hN j.1).ps (es0 j.1); rw [h.ps]; exact h.v0, (h.e0 j.1.b (mem_b j.1)).2⟩) lv (ea_cons evT (et_var 6) (ea_cons evT (et_var 11) (ea_cons evT (er_tup evT (ea_cons evT (et_var 3) (ea_cons evT er_str ea_nil)) (by intro _ _ _ _; rw [sizeLine_eq]; exact Nat.le_of_ble_eq_true rfl)) ea_nil)))) (fun j h => by show oT ((thereL (hN j.1).ps (es0 j.1) (j.1.b, "out")).map oS) = oT [oS j.1.c]; rw [h.ps, h.ub]; rfl))
      (ea_cons evT (et_to (et_callL RF.GTh hr5 (by rfl) RF.gTh RF.FTh.kp bTh (fun j : Nm × Addr => (hN j.1, es0 j.1, (j.1.c, ("out" : Str)))) (fun j h => ⟨by show VT (hN j.1).ps (es0 j.1); rw [h.ps]; exact h.v0, (h.e0 j.1.c (mem_c j.1)).2⟩) lv (ea_cons evT (et_var 6) (ea_cons evT (et_var 11) (ea_cons evT (er_tup evT (ea_cons evT (et_var 4) (ea_cons evT er_str ea_nil)) (by intro _ _ _ _; rw [sizeLine_eq]; exact Nat.le_of_ble_eq_true rfl)) ea_nil)))) (fun j h => by show oT ((thereL (hN j.1).ps (es0 j.1) (j.1.c, "out")).map oS) = oT []; rw [h.ps, h.uc]; rfl)) ea_nil))) (by intro _ _ _ _; rw [sizeLine_eq]; exact Nat.le_of_ble_eq_true rfl))) (fun _ _ => by simp)
    (grow_done (fun _ => rfl) (bt_skip (tt_to (tt_neS evT (x := fun n => (dT n).shown) (y := fun n => (dT n).shown)
        (er_repr hrg.g hu (by rfl) RF.rep bootS_repr (et_var (r := fun n => oLn ([oT [], oT [oS n.a], oT [oS n.b]] ++ [oT [oS n.b], oT [oS n.c], oT []])) 12) (fun n σ H h => ⟨isQ_Ln (ds := [.tuple [], .tuple [.str n.a], .tuple [.str n.b], .tuple [.str n.b], .tuple [.str n.c], .tuple []]) ⟨isQ_T trivial, isQ_T ⟨isQ_S, trivial⟩, isQ_T ⟨isQ_S, trivial⟩, isQ_T ⟨isQ_S, trivial⟩, isQ_T ⟨isQ_S, trivial⟩, isQ_T trivial, trivial⟩, shows_T h.p⟩))
        (er_repr hrg.g hu (by rfl) RF.rep bootS_repr (er_lstN evT (rs := fun n : Nm => [oT [], oT [oS n.a], oT [oS n.b], oT [oS n.b], oT [oS n.c], oT []]) (ea_cons evT (er_tup evT ea_nil (by intro _ _ _ _; rw [sizeLine_eq]; exact Nat.le_of_ble_eq_true rfl)) (ea_cons evT (er_tup evT (ea_cons evT (et_var 2) ea_nil) (by intro _ _ _ _; rw [sizeLine_eq]; exact Nat.le_of_ble_eq_true rfl)) (ea_cons evT (er_tup evT (ea_cons evT (et_var 3) ea_nil) (by intro _ _ _ _; rw [sizeLine_eq]; exact Nat.le_of_ble_eq_true rfl)) (ea_cons evT (er_tup evT (ea_cons evT (et_var 3) ea_nil) (by intro _ _ _ _; rw [sizeLine_eq]; exact Nat.le_of_ble_eq_true rfl)) (ea_cons evT (er_tup evT (ea_cons evT (et_var 4) ea_nil) (by intro _ _ _ _; rw [sizeLine_eq]; exact Nat.le_of_ble_eq_true rfl)) (ea_cons evT (er_tup evT ea_nil (by intro _ _ _ _; rw [sizeLine_eq]; exact Nat.le_of_ble_eq_true rfl)) ea_nil)))))) (by intro _ _ _ _; rw [sizeLine_eq]; exact Nat.le_of_ble_eq_true rfl)) (fun n σ H h => ⟨isQ_Ln (ds := [.tuple [], .tuple [.str n.a], .tuple [.str n.b], .tuple [.str n.b], .tuple [.str n.c], .tuple []]) ⟨isQ_T trivial, isQ_T ⟨isQ_S, trivial⟩, isQ_T ⟨isQ_S, trivial⟩, isQ_T ⟨isQ_S, trivial⟩, isQ_T ⟨isQ_S, trivial⟩, isQ_T trivial, trivial⟩, shows_T h.p⟩))) (fun n _ => by simp))
      (tRt_as (Γ' := gL K C) (part3 RF hrg) (fun _ => rfl) (fun n k r e => by
        match k, e with
        | 0, e => cases e
        | 1, e => exact ⟨_, rfl, fun v H q => by cases e; exact q⟩
        | 2, e => exact ⟨_, rfl, fun v H q => by cases e; exact q⟩
        | 3, e => exact ⟨_, rfl, fun v H q => by cases e; exact q⟩
        | 4, e => exact ⟨_, rfl, fun v H q => by cases e; exact q⟩
        | 5, e => cases e
        | 6, e => exact ⟨_, rfl, fun v H q => by cases e; exact q⟩
        | 7, e => cases e
        | 8, e => cases e
        | 9, e => cases e
        | 10, e => cases e
        | 11, e => exact ⟨_, rfl, fun v H q => by cases e; exact q⟩
        | 12, e => cases e
        | 13, e => cases e
        | 14, e => cases e
        | 15, e => cases e
        | (k + 16), e => cases e)))))))
end
end K14

set_option Elab.async false
set_option linter.all false
set_option maxRecDepth 100000
set_option maxHeartbeats 16000000
namespace K14
open PySem PySem.Spec PySem.W PySem.Calls PyProof.Rows L2 MX
theorem ok_way : OkS "in" ∧ OkS "out" := ⟨⟨by decide +kernel, by decide +kernel⟩, ⟨by decide +kernel, by decide +kernel⟩⟩
theorem es_ok {n : Nm} (h : FN n) {z : Str} (v : VT (nsN n) (esN n z)) : ∀ e ∈ esN n z, OkE e := fun e he => by
  have z := v.ev e he
  unfold evB at z
  rw [Bool.and_eq_true, decide_eq_true_eq, decide_eq_true_eq] at z
  refine ⟨h.good _ z.1, ?_⟩
  have z2 : e.2 = "in" ∨ e.2 = "out" := by simpa using z.2
  rcases z2 with z2 | z2
  · rw [z2]; exact ok_way.1
  · rw [z2]; exact ok_way.2
abbrev g7 (K : PySem.W.Frag) (C : Addr) : Nm → Gm := fun n => [none, some (oSL (nsN n)), some (oS n.a), some (oS n.b), some (oS n.c), none, some (hR K C (hN n)), some (oL ((rowsN n).map rowR)), none, none, none, none, none, none, none, none]
section
variable {P : Program} {w : World} {K : PySem.W.Frag} {mg : Str → Option Value} {base : Heap} {f C CB cB dB fI fB fL fO fT fM fTh fS fF fBr : Addr} {fd fdI fdB fdL fdO fdT fdM fdTh fdS fdF fdBr : FuncData} {ds : List Value}
variable {cdv : Value} {A : Around} {outer : List Env} {s : Shared} {H : Hp} {E : XK}
abbrev gB8 (K : PySem.W.Frag) (C : Addr) : Nm × RowT → Gm := fun j => (((g7 K C j.1).set 8 (some (oS j.2.1))).set 9 (some (oL (j.2.2.1.map evR)))).set 10 (some (oB j.2.2.2))
theorem bodyR (RF : RiF P w K mg base C CB cB dB fI fB fL fO fT fM fTh fS fF fBr fdI fdB fdL fdO fdT fdM fdTh fdS fdF fdBr ds) (hrg : RoomG 7 (cxR P w K mg base f cdv A outer s H E).A) {tg it : Expr} {body : List Stmt} {pos : Pos} (hb : (defBody sRightR)[7]? = some (.For tg it body [] pos)) :
    PSs (cxR P w K mg base f cdv A outer s H E) body (tNx (fun _ => []) (PE2 FN rowsN) (gB8 K C) fun j => g7 K C j.1) := by
  have hr := hrg.r
  have hr6 := hr.mono (show 6 ≤ 7 by decide)
  have hr5 := hr.mono (show 5 ≤ 7 by decide)
  have hr1 := hr.mono (show 1 ≤ 7 by decide)
  have hu := hr.units
  have hu65 : (cxR P w K mg base f cdv A outer s H E).A.units + 65 < cLine := by have := hr.un; omega
  have bL : L2.Binds K fdL ["_law_names_here", "_law_marks"] [] := RF.FL.bindsN fun _ _ _ _ _ _ us hl => match us, hl with | [_, _], _ => rfl
  have bO : L2.Binds K fdO ["hall", "timeline"] [] := RF.FO.bindsN fun _ _ _ _ _ _ us hl => match us, hl with | [_, _], _ => rfl
  have bT : L2.Binds K fdT ["hall", "timeline"] [] := RF.FT.bindsN fun _ _ _ _ _ _ us hl => match us, hl with | [_, _], _ => rfl
  have bM : L2.Binds K fdM ["hall", "timeline", "one", "other"] [] := RF.FM.bindsN fun _ _ _ _ _ _ us hl => match us, hl with | [_, _, _, _], _ => rfl
  have bF : L2.Binds K fdF nFits [] := RF.FF.bindsN fun _ _ _ _ _ _ us hl => match us, hl with | [_, _], _ => rfl
  have okB : ∀ n, okBook ⟨hN n, []⟩ := fun n => ⟨Nat.zero_le _, fun s hs => by cases hs⟩
  have inst : ∀ {m : Str}, [("hall" : Str), "sayings"].contains m = false → ∀ (b : BI) (v : V) (H : Hp), (bR K C CB b).R v H → ∃ p dx fs, v = .ref p ∧ H p = some (.ins CB dx fs) ∧ fs.lookup m = none := fun {m} hm b v H h => by
    obtain ⟨p, dx, vh, vs, e, hp, _, _⟩ := h
    refine ⟨p, dx, _, e, hp, ?_⟩
    simp only [List.contains_cons, Bool.or_eq_false_iff] at hm
    simp [List.lookup, hm.1, hm.2.1]
  have hPf : ∀ j : Nm × RowT, PE2 FN rowsN j → pFits (⟨hN j.1, []⟩, esN j.1 j.2.1) := fun j h => by
    have v := (h.1.rows _ h.2).v
    rw [← h.1.ps] at v
    exact ⟨⟨v, okB j.1⟩, h.1.st⟩
  have e := Option.some.inj hb
  injection e with e1 e2 e3 e4 e5
  rw [← e3]
  have oo : ∀ j : Nm × RowT, PE2 FN rowsN j → ∀ e ∈ j.2.2.1, OkE e := fun j h e he => by
    have z := (h.1.rows _ h.2).oin e he
    exact ⟨h.1.good _ z.1, h.1.good _ z.2⟩
  have sh : ∀ j : Nm × RowT, PE2 FN rowsN j → Shows (dA (srtE j.2.2.1) j.2.2.2) := fun j h => shows_A (fun e he => oo j h e (srtE_mem he)) (Nat.le_trans srtE_len (Nat.le_trans (h.1.rows _ h.2).lo (by decide)))
  exact (nx_set (k := 11) (Γ := gB8 K C) (P := PE2 FN rowsN) scR.nd (et_call RF.GL hr1 (by rfl) RF.gL RF.FL.kp bL (fun j : Nm × RowT => (nsN j.1, j.2.1)) (fun j h => (h.1.rows _ h.2).z) (ea_cons evT (et_var 1) (ea_cons evT (et_var 8) ea_nil)))
    (nx_skip (tt_to (tt_neS evT (x := fun j : Nm × RowT => (dA (srtE j.2.2.1) j.2.2.2).shown) (y := fun j : Nm × RowT => (dA (srtE j.2.2.1) j.2.2.2).shown)
        (er_repr hrg.g hu (by rfl) RF.rep bootS_repr (er_tup (rs := fun j : Nm × RowT => [oT ((srtE (ordL (hN j.1).ps (esN j.1 j.2.1))).map evR), oB (fitsB (⟨hN j.1, []⟩, esN j.1 j.2.1))]) evT
          (ea_cons evT (et_call RF.GO hr5 (by rfl) RF.gO RF.FO.kp bO (fun j : Nm × RowT => (hN j.1, esN j.1 j.2.1)) (fun j h => by show VT (hN j.1).ps _; rw [h.1.ps]; exact (h.1.rows _ h.2).v) (ea_cons evT (et_var 6) (ea_cons evT (et_var 11) ea_nil)))
          (ea_cons evT (et_meth (rr := fun j : Nm × RowT => bR K C CB ⟨hN j.1, []⟩) (bs := fun j : Nm × RowT => [tlR (esN j.1 j.2.1)]) (rz := fun j : Nm × RowT => oB (fitsB (⟨hN j.1, []⟩, esN j.1 j.2.1))) RF.GF (fun j : Nm × RowT => (⟨hN j.1, []⟩, esN j.1 j.2.1)) (fun j h => hPf j h) (fun _ => rfl) (fun j v H h => inst (by decide +kernel) _ v H h)
            (er_book0 (h := fun j : Nm × RowT => hN j.1) RF.mkB RF.GB hr6 (by rfl) RF.gB RF.bB0 RF.ds0 RF.d0 (et_var (r := fun j : Nm × RowT => hR K C (hN j.1)) 6)) (ea_cons evT (et_var 11) ea_nil) (fun ho ha => pe_meth ho RF.cB' RF.mF RF.GF hr6 bF .nil pass0 ha)) ea_nil)) (by intro _ _ _ _; rw [sizeLine_eq]; exact Nat.le_of_ble_eq_true rfl))
          (fun j σ H h => ⟨by
            have R := h.p.1.rows _ h.p.2
            rw [h.p.1.ps, srtE_perm R.o, R.f]
            exact isQ_T (ds := [.tuple ((srtE j.2.2.1).map evD), .bool j.2.2.2]) ⟨isQ_T (allQ_map isQ_ev _), isQ_B, trivial⟩, sh j h.p⟩))
        (er_repr hrg.g hu (by rfl) RF.rep bootS_repr (er_tup (rs := fun j : Nm × RowT => [oT ((srtE j.2.2.1).map evR), oB j.2.2.2]) evT (ea_cons evT (er_tupleOf evT (by rfl) RF.tup boot_tuple (er_sortE evT (by rfl) RF.srt boot_sorted (es := fun j : Nm × RowT => j.2.2.1) (et_var 9))) (ea_cons evT (et_var 10) ea_nil)) (by intro _ _ _ _; rw [sizeLine_eq]; exact Nat.le_of_ble_eq_true rfl))
          (fun j σ H h => ⟨isQ_T (ds := [.tuple ((srtE j.2.2.1).map evD), .bool j.2.2.2]) ⟨isQ_T (allQ_map isQ_ev _), isQ_B, trivial⟩, sh j h.p⟩))) (fun j _ => by simp))
    (nx_skip (tt_to (tt_eqB evT (x := fun j : Nm × RowT => meetB (esN j.1 j.2.1) j.1.a j.1.b) (y := fun j : Nm × RowT => decide ((j.1.a, j.1.b) ∈ j.2.2.1) || decide ((j.1.b, j.1.a) ∈ j.2.2.1))
        (et_callP RF.GM hr5 (by rfl) RF.gM RF.FM.kp bM (fun j : Nm × RowT => (hN j.1, esN j.1 j.2.1, j.1.a, j.1.b)) (fun j h => by
          show VT (hN j.1).ps _ ∧ (j.1.a ∈ (hN j.1).ps ∧ j.1.b ∈ (hN j.1).ps ∧ j.1.a ≠ j.1.b)
          rw [h.1.ps]
          exact ⟨(h.1.rows _ h.2).v, mem_a _, mem_b _, h.1.ab⟩) (fun _ _ _ _ h => h) (ea_cons evT (et_var 6) (ea_cons evT (et_var 11) (ea_cons evT (et_var 2) (ea_cons evT (et_var 3) ea_nil)))))
        (et_or (p := fun j : Nm × RowT => decide ((j.1.a, j.1.b) ∈ j.2.2.1)) (et_to (er_inD evT hu65 (d := fun j : Nm × RowT => evD (j.1.a, j.1.b)) (ds := fun j => j.2.2.1.map evD) (x := fun j => evR (j.1.a, j.1.b)) (er_tup evT (ea_cons evT (et_var 2) (ea_cons evT (et_var 3) ea_nil)) (by intro _ _ _ _; rw [sizeLine_eq]; exact Nat.le_of_ble_eq_true rfl)) (et_var 9) (fun j σ H h => ⟨isD_ev _, isD_L (allD_map isD_ev _), shaped_ev ⟨h.p.1.good _ (mem_a _), h.p.1.good _ (mem_b _)⟩, (shaped_evs (oo j h.p)).2⟩) (by rfl)) (fun j _ => by rw [any_ev]))
          (et_one (et_to (er_inD evT hu65 (d := fun j : Nm × RowT => evD (j.1.b, j.1.a)) (ds := fun j => j.2.2.1.map evD) (x := fun j => evR (j.1.b, j.1.a)) (er_tup evT (ea_cons evT (et_var 3) (ea_cons evT (et_var 2) ea_nil)) (by intro _ _ _ _; rw [sizeLine_eq]; exact Nat.le_of_ble_eq_true rfl)) (et_var 9) (fun j σ H h => ⟨isD_ev _, isD_L (allD_map isD_ev _), shaped_ev ⟨h.p.1.1.good _ (mem_b _), h.p.1.1.good _ (mem_a _)⟩, (shaped_evs (oo j h.p.1)).2⟩) (by rfl)) (fun j _ => by rw [any_ev]))))) (fun j h => (h.1.rows _ h.2).m))
    (nx_skip (tt_to (tt_neD evT hu (x := fun j : Nm × RowT => tlR (turnE (esN j.1 j.2.1))) (y := fun j => tlR (esN j.1 (revX j.2.1))) (d := fun j => .tuple ((esN j.1 (revX j.2.1)).map evD)) (f := fun j => .tuple ((esN j.1 (revX j.2.1)).map evD))
        (et_call RF.GT hr5 (by rfl) RF.gT RF.FT.kp bT (fun j : Nm × RowT => (hN j.1, esN j.1 j.2.1)) (fun j h => by show VT (hN j.1).ps _; rw [h.1.ps]; exact (h.1.rows _ h.2).v) (ea_cons evT (et_var 6) (ea_cons evT (et_var 11) ea_nil)))
        (et_call RF.GL hr1 (by rfl) RF.gL RF.FL.kp bL (fun j : Nm × RowT => (nsN j.1, revX j.2.1)) (fun j h => (h.1.rows _ h.2).zr) (ea_cons evT (et_var 1) (ea_cons evT (er_revX (z := fun j : Nm × RowT => j.2.1) (et_var 8) (fun j σ H h => by
            have := (h.p.1.rows _ h.p.2).lr
            rw [sizeLine_eq]
            omega)) ea_nil)))
        (fun j σ H h => by
          have R := h.p.1.rows _ h.p.2
          have oe : ∀ e ∈ esN j.1 (revX j.2.1), OkE e := fun e he => by
            rw [← R.t] at he
            unfold turnE at he
            obtain ⟨y, hy, rfl⟩ := List.mem_map.mp he
            have z := es_ok h.p.1 R.v y (List.mem_reverse.mp hy)
            refine ⟨z.1, ?_⟩
            show OkS (turnW y.2)
            unfold turnW
            split
            · exact ok_way.2
            · exact ok_way.1
          exact ⟨by rw [R.t]; exact isD_T (allD_map isD_ev _), isD_T (allD_map isD_ev _), (shaped_evs oe).1, (shaped_evs oe).1⟩)) (fun j h => by
          have R := h.1.rows _ h.2
          have oe : ∀ e ∈ esN j.1 (revX j.2.1), OkE e := fun e he => by
            rw [← R.t] at he
            unfold turnE at he
            obtain ⟨y, hy, rfl⟩ := List.mem_map.mp he
            have z := es_ok h.1 R.v y (List.mem_reverse.mp hy)
            refine ⟨z.1, ?_⟩
            show OkS (turnW y.2)
            unfold turnW
            split
            · exact ok_way.2
            · exact ok_way.1
          have l := (lay_evs oe).1
          rw [SeqAt.eqv_refl _ (by simp only [PyData.canLay0]; exact l)]
          rfl))
    (nx_end (fun _ => rfl) (fun j k r e => by
        match k, e with
        | 0, e => cases e
        | 1, e => exact e
        | 2, e => exact e
        | 3, e => exact e
        | 4, e => exact e
        | 5, e => cases e
        | 6, e => exact e
        | 7, e => exact e
        | 8, e => cases e
        | 9, e => cases e
        | 10, e => cases e
        | 11, e => cases e
        | 12, e => cases e
        | 13, e => cases e
        | 14, e => cases e
        | 15, e => cases e
        | (k + 16), e => cases e))))))
end
end K14

set_option Elab.async false
set_option linter.all false
set_option maxRecDepth 100000
set_option maxHeartbeats 16000000
namespace K14
open PySem PySem.Spec PySem.W PySem.Calls PyProof.Rows L2 MX
section
variable {P : Program} {w : World} {K : PySem.W.Frag} {mg : Str → Option Value} {base : Heap} {f C CB cB dB fI fB fL fO fT fM fTh fS fF fBr : Addr} {fd fdI fdB fdL fdO fdT fdM fdTh fdS fdF fdBr : FuncData} {ds : List Value}
variable {cdv : Value} {A : Around} {outer : List Env} {s : Shared} {H : Hp} {E : XK}
theorem part4 (RF : RiF P w K mg base C CB cB dB fI fB fL fO fT fM fTh fS fF fBr fdI fdB fdL fdO fdT fdM fdTh fdS fdF fdBr ds) (hrg : RoomG 7 (cxR P w K mg base f cdv A outer s H E).A) :
    PSs (cxR P w K mg base f cdv A outer s H E) ((defBody sRightR).drop 7) (tRt (fun _ => []) FN (g7 K C) fun _ => oB true) :=
  bd_for (P := FN) (Γ := g7 K C) (xs := rowsN) (r := fun (_ : Nm) (r : RowT) => rowR r) (g := gTup K 3 (gCons (gName 8) (gCons (gName 9) (gCons (gName 10) gNil)))) (vs := [8, 9, 10]) (Γ' := gB8 K C) PassesOwn.never rfl (pi_list (et_var 7)) src_list
    (pg_tup rfl (pgs_cons (pg_name (i := 8) scR.nd rfl (Or.inl rfl)) (pgs_cons (pg_name (i := 9) scR.nd rfl (Or.inl rfl)) (pgs_cons (pg_name (i := 10) scR.nd rfl (Or.inl rfl)) pgs_nil))))
    (tgtF_3 (ra := fun (_ : Nm) (r : RowT) => oS r.1) (rb := fun (_ : Nm) (r : RowT) => oL (r.2.1.map evR)) (rc := fun (_ : Nm) (r : RowT) => oB r.2.2))
    (bodyR RF hrg rfl)
    (tRt_as (Γ' := gH K C) (part2 RF hrg) (fun _ => rfl) (fun n k r e => by
        match k, e with
        | 0, e => cases e
        | 1, e => exact ⟨_, rfl, fun v H q => by cases e; exact q⟩
        | 2, e => exact ⟨_, rfl, fun v H q => by cases e; exact q⟩
        | 3, e => exact ⟨_, rfl, fun v H q => by cases e; exact q⟩
        | 4, e => exact ⟨_, rfl, fun v H q => by cases e; exact q⟩
        | 5, e => cases e
        | 6, e => exact ⟨_, rfl, fun v H q => by cases e; exact q⟩
        | 7, e => cases e
        | 8, e => cases e
        | 9, e => cases e
        | 10, e => cases e
        | 11, e => cases e
        | 12, e => cases e
        | 13, e => cases e
        | 14, e => cases e
        | 15, e => cases e
        | (k + 16), e => cases e))
end
end K14

set_option Elab.async false
set_option linter.all false
set_option maxRecDepth 100000
set_option maxHeartbeats 16000000
namespace K14
open PySem PySem.Spec PySem.W PySem.Calls PyProof.Rows L2 MX
section
variable {P : Program} {w : World} {K : PySem.W.Frag} {mg : Str → Option Value} {base : Heap} {f C CB cB dB fI fB fL fO fT fM fTh fS fF fBr : Addr} {fd fdI fdB fdL fdO fdT fdM fdTh fdS fdF fdBr : FuncData} {ds : List Value}
variable {cdv : Value} {A : Around} {outer : List Env} {s : Shared} {H : Hp} {E : XK}
theorem part5 (RF : RiF P w K mg base C CB cB dB fI fB fL fO fT fM fTh fS fF fBr fdI fdB fdL fdO fdT fdM fdTh fdS fdF fdBr ds) (hrg : RoomG 7 (cxR P w K mg base f cdv A outer s H E).A) :
    PSs (cxR P w K mg base f cdv A outer s H E) ((defBody sRightR).drop 4) (tRt (fun _ => []) FN (gH K C) fun _ => oB true) :=
  bd_grow (P := FN) (Γ := gH K C) (res := fun _ => oB true) (k := 7) (rs := fun n : Nm => (rows1 n).map rowR) scR.nd
      (ea_cons evT (er_tup evT (ea_cons evT er_str (ea_cons evT (er_lst evT (ea_cons evT (er_tup evT (ea_cons evT (et_var 2) (ea_cons evT (et_var 3) ea_nil)) (by intro _ _ _ _; rw [sizeLine_eq]; exact Nat.le_of_ble_eq_true rfl)) (ea_cons evT (er_tup evT (ea_cons evT (et_var 2) (ea_cons evT (et_var 4) ea_nil)) (by intro _ _ _ _; rw [sizeLine_eq]; exact Nat.le_of_ble_eq_true rfl)) (ea_cons evT (er_tup evT (ea_cons evT (et_var 3) (ea_cons evT (et_var 4) ea_nil)) (by intro _ _ _ _; rw [sizeLine_eq]; exact Nat.le_of_ble_eq_true rfl)) ea_nil))) (by intro _ _ _ _; rw [sizeLine_eq]; exact Nat.le_of_ble_eq_true rfl)) (ea_cons evT er_bl ea_nil))) (by intro _ _ _ _; rw [sizeLine_eq]; exact Nat.le_of_ble_eq_true rfl))
      (ea_cons evT (er_tup evT (ea_cons evT er_str (ea_cons evT (er_lst evT (ea_cons evT (er_tup evT (ea_cons evT (et_var 2) (ea_cons evT (et_var 4) ea_nil)) (by intro _ _ _ _; rw [sizeLine_eq]; exact Nat.le_of_ble_eq_true rfl)) (ea_cons evT (er_tup evT (ea_cons evT (et_var 3) (ea_cons evT (et_var 4) ea_nil)) (by intro _ _ _ _; rw [sizeLine_eq]; exact Nat.le_of_ble_eq_true rfl)) ea_nil)) (by intro _ _ _ _; rw [sizeLine_eq]; exact Nat.le_of_ble_eq_true rfl)) (ea_cons evT er_bl ea_nil))) (by intro _ _ _ _; rw [sizeLine_eq]; exact Nat.le_of_ble_eq_true rfl)) ea_nil))
      (fun _ _ => by simp [rows1]) (fun _ => rfl)
    (grow_more (more := fun n : Nm => (rows2 n).map rowR) (es_extend2 evT 7 (er_lst evT (rs := fun j : Nm × Addr => (rows2 j.1).map rowR)
      (ea_cons evT (er_tup evT (ea_cons evT er_str (ea_cons evT (er_lst evT ea_nil (by intro _ _ _ _; rw [sizeLine_eq]; exact Nat.le_of_ble_eq_true rfl)) (ea_cons evT er_bl ea_nil))) (by intro _ _ _ _; rw [sizeLine_eq]; exact Nat.le_of_ble_eq_true rfl))
      (ea_cons evT (er_tup evT (ea_cons evT er_str (ea_cons evT (er_lst evT (ea_cons evT (er_tup evT (ea_cons evT (et_var 2) (ea_cons evT (et_var 4) ea_nil)) (by intro _ _ _ _; rw [sizeLine_eq]; exact Nat.le_of_ble_eq_true rfl)) ea_nil) (by intro _ _ _ _; rw [sizeLine_eq]; exact Nat.le_of_ble_eq_true rfl)) (ea_cons evT er_bl ea_nil))) (by intro _ _ _ _; rw [sizeLine_eq]; exact Nat.le_of_ble_eq_true rfl))
      (ea_cons evT (er_tup evT (ea_cons evT er_str (ea_cons evT (er_lst evT (ea_cons evT (er_tup evT (ea_cons evT (et_var 4) (ea_cons evT (et_var 2) ea_nil)) (by intro _ _ _ _; rw [sizeLine_eq]; exact Nat.le_of_ble_eq_true rfl)) (ea_cons evT (er_tup evT (ea_cons evT (et_var 4) (ea_cons evT (et_var 3) ea_nil)) (by intro _ _ _ _; rw [sizeLine_eq]; exact Nat.le_of_ble_eq_true rfl)) ea_nil)) (by intro _ _ _ _; rw [sizeLine_eq]; exact Nat.le_of_ble_eq_true rfl)) (ea_cons evT er_bl ea_nil))) (by intro _ _ _ _; rw [sizeLine_eq]; exact Nat.le_of_ble_eq_true rfl)) ea_nil))) (by intro _ _ _ _; rw [sizeLine_eq]; exact Nat.le_of_ble_eq_true rfl))) (fun _ _ => by simp [rows1, rows2])
    (grow_more (more := fun n : Nm => (rows3 n).map rowR) (es_extend2 evT 7 (er_lst evT (rs := fun j : Nm × Addr => (rows3 j.1).map rowR)
      (ea_cons evT (er_tup evT (ea_cons evT er_str (ea_cons evT (er_lst evT (ea_cons evT (er_tup evT (ea_cons evT (et_var 2) (ea_cons evT (et_var 4) ea_nil)) (by intro _ _ _ _; rw [sizeLine_eq]; exact Nat.le_of_ble_eq_true rfl)) (ea_cons evT (er_tup evT (ea_cons evT (et_var 3) (ea_cons evT (et_var 4) ea_nil)) (by intro _ _ _ _; rw [sizeLine_eq]; exact Nat.le_of_ble_eq_true rfl)) ea_nil)) (by intro _ _ _ _; rw [sizeLine_eq]; exact Nat.le_of_ble_eq_true rfl)) (ea_cons evT er_bl ea_nil))) (by intro _ _ _ _; rw [sizeLine_eq]; exact Nat.le_of_ble_eq_true rfl))
      (ea_cons evT (er_tup evT (ea_cons evT er_str (ea_cons evT (er_lst evT ea_nil (by intro _ _ _ _; rw [sizeLine_eq]; exact Nat.le_of_ble_eq_true rfl)) (ea_cons evT er_bl ea_nil))) (by intro _ _ _ _; rw [sizeLine_eq]; exact Nat.le_of_ble_eq_true rfl)) ea_nil)) (by intro _ _ _ _; rw [sizeLine_eq]; exact Nat.le_of_ble_eq_true rfl))) (fun _ _ => by simp [rows1, rows2, rows3])
    (grow_done (fun _ => rfl) (tRt_as (Γ' := g7 K C) (part4 RF hrg) (fun _ => rfl) (fun n k r e => by
        match k, e with
        | 0, e => cases e
        | 1, e => exact ⟨_, rfl, fun v H q => by cases e; exact q⟩
        | 2, e => exact ⟨_, rfl, fun v H q => by cases e; exact q⟩
        | 3, e => exact ⟨_, rfl, fun v H q => by cases e; exact q⟩
        | 4, e => exact ⟨_, rfl, fun v H q => by cases e; exact q⟩
        | 5, e => cases e
        | 6, e => exact ⟨_, rfl, fun v H q => by cases e; exact q⟩
        | 7, e => exact ⟨_, rfl, fun v H q => by cases e; exact oLn_oL (by unfold rowsN; rw [List.map_append, List.map_append]; exact q)⟩
        | 8, e => cases e
        | 9, e => cases e
        | 10, e => cases e
        | 11, e => cases e
        | 12, e => cases e
        | 13, e => cases e
        | 14, e => cases e
        | 15, e => cases e
        | (k + 16), e => cases e)))))
end
end K14

set_option Elab.async false
set_option linter.all false
set_option maxRecDepth 100000
set_option maxHeartbeats 16000000
namespace K14
open PySem PySem.Spec PySem.W PySem.Calls PyProof.Rows L2 MX
theorem joinN {n : Nm} (h : FN n) : (Txt.join " " (nsN n)).length ≤ 100 ∧ n.a.length ≤ 20 ∧ n.b.length ≤ 20 ∧ n.c.length ≤ 20 := by
  have z := MX.join_len (sep := " ") (ps := nsN n) (m := 20) (k := 1) (fun p hp => (h.good p hp).2) (by decide +kernel)
  have e : (nsN n).length = 3 := rfl
  rw [e] at z
  exact ⟨by omega, (h.good _ (mem_a n)).2, (h.good _ (mem_b n)).2, (h.good _ (mem_c n)).2⟩
theorem lens : (("people " : Str)).length = 7 ∧ (("\nmet " : Str)).length = 5 ∧ ((" " : Str)).length = 1 ∧ (("\nopen " : Str)).length = 6 := by decide +kernel
section
variable {P : Program} {w : World} {K : PySem.W.Frag} {mg : Str → Option Value} {base : Heap} {f C CB cB dB fI fB fL fO fT fM fTh fS fF fBr : Addr} {fd fdI fdB fdL fdO fdT fdM fdTh fdS fdF fdBr : FuncData} {ds : List Value}
variable {cdv : Value} {A : Around} {outer : List Env} {s : Shared} {H : Hp} {E : XK}
theorem len_app (a b : Str) : (a ++ b).length = a.length + b.length := by
  rw [TL.len_tl, TL.len_tl, TL.len_tl, TL.tl_append, List.length_append]
theorem part6 (RF : RiF P w K mg base C CB cB dB fI fB fL fO fT fM fTh fS fF fBr fdI fdB fdL fdO fdT fdM fdTh fdS fdF fdBr ds) (hrg : RoomG 7 (cxR P w K mg base f cdv A outer s H E).A) :
    PSs (cxR P w K mg base f cdv A outer s H E) ((defBody sRightR).drop 1) (tRt (fun _ => []) FN g1 fun _ => oB true) := by
  have hr6 := hrg.r.mono (show 6 ≤ 7 by decide)
  have L := lens
  exact bd_un3L (P := FN) (Γ := g1) (k1 := 2) (k2 := 3) (k3 := 4) (r1 := fun n : Nm => oS n.a) (r2 := fun n : Nm => oS n.b) (r3 := fun n : Nm => oS n.c) rfl scR.nd (et_var 1)
    (bd_set (k := 5) scR.nd (er_add evT (x := fun n : Nm => (((("people " : Str) ++ Txt.join " " (nsN n)) ++ "\nmet ") ++ n.a) ++ " ") (y := fun n : Nm => n.b) (er_add evT (x := fun n : Nm => ((("people " : Str) ++ Txt.join " " (nsN n)) ++ "\nmet ") ++ n.a) (y := fun _ => " ") (er_add evT (x := fun n : Nm => (("people " : Str) ++ Txt.join " " (nsN n)) ++ "\nmet ") (y := fun n : Nm => n.a) (er_add evT (x := fun n : Nm => ("people " : Str) ++ Txt.join " " (nsN n)) (y := fun _ => "\nmet ") (er_add evT (x := fun _ : Nm => ("people " : Str)) (y := fun n : Nm => Txt.join " " (nsN n)) er_str (er_join evT (x := fun _ : Nm => (" " : Str)) (ys := nsN) er_str (et_var 1) (fun n σ H h => (join3 h.p).2.2.2.2))
        (fun n σ H h => by have := joinN h.p; rw [sizeLine_eq, L.1]; omega)) er_str (fun n σ H h => by have := joinN h.p; rw [sizeLine_eq, len_app, L.1, L.2.1]; omega)) (et_var 2) (fun n σ H h => by have := joinN h.p; rw [sizeLine_eq, len_app, len_app, L.1, L.2.1]; omega)) er_str (fun n σ H h => by have := joinN h.p; rw [sizeLine_eq, len_app, len_app, len_app, L.1, L.2.1, L.2.2.1]; omega)) (et_var 3) (fun n σ H h => by have := joinN h.p; rw [sizeLine_eq, len_app, len_app, len_app, len_app, L.1, L.2.1, L.2.2.1]; omega))
    (bd_set (k := 6) scR.nd (er_mkHall (z := textN) RF.mkH RF.GI hr6 (by rfl) RF.gH RF.bI (er_add evT (x := fun n : Nm => ((pageN n ++ "\nopen ") ++ n.c) ++ " ") (y := fun n : Nm => n.b) (er_add evT (x := fun n : Nm => (pageN n ++ "\nopen ") ++ n.c) (y := fun _ => " ") (er_add evT (x := fun n : Nm => pageN n ++ "\nopen ") (y := fun n : Nm => n.c) (er_add evT (x := fun n : Nm => pageN n) (y := fun _ => "\nopen ") (et_var 5) er_str
        (fun n σ H h => by have := joinN h.p; unfold pageN; rw [sizeLine_eq, len_app, len_app, len_app, len_app, len_app, L.1, L.2.1, L.2.2.1, L.2.2.2]; omega)) (et_var 4) (fun n σ H h => by have := joinN h.p; unfold pageN; rw [sizeLine_eq, len_app, len_app, len_app, len_app, len_app, len_app, L.1, L.2.1, L.2.2.1, L.2.2.2]; omega)) er_str (fun n σ H h => by have := joinN h.p; unfold pageN; rw [sizeLine_eq, len_app, len_app, len_app, len_app, len_app, len_app, len_app, L.1, L.2.1, L.2.2.1, L.2.2.2]; omega)) (et_var 3) (fun n σ H h => by have := joinN h.p; unfold pageN; rw [sizeLine_eq, len_app, len_app, len_app, len_app, len_app, len_app, len_app, len_app, L.1, L.2.1, L.2.2.1, L.2.2.2]; omega)) (fun n σ H h => h.p.text))
    (tRt_as (Γ' := gH K C) (part5 RF hrg) (fun _ => rfl) (fun n k r e => by
        match k, e with
        | 0, e => cases e
        | 1, e => exact ⟨_, rfl, fun v H q => by cases e; exact q⟩
        | 2, e => exact ⟨_, rfl, fun v H q => by cases e; exact q⟩
        | 3, e => exact ⟨_, rfl, fun v H q => by cases e; exact q⟩
        | 4, e => exact ⟨_, rfl, fun v H q => by cases e; exact q⟩
        | 5, e => cases e
        | 6, e => exact ⟨_, rfl, fun v H q => by cases e; exact q⟩
        | 7, e => cases e
        | 8, e => cases e
        | 9, e => cases e
        | 10, e => cases e
        | 11, e => cases e
        | 12, e => cases e
        | 13, e => cases e
        | 14, e => cases e
        | 15, e => cases e
        | (k + 16), e => cases e))))
end
end K14

set_option Elab.async false
set_option linter.all false
set_option maxRecDepth 100000
set_option maxHeartbeats 16000000
namespace K14
open PySem PySem.Spec PySem.W PySem.Calls PyProof.Rows L2 MX
section
variable {P : Program} {w : World} {K : PySem.W.Frag} {mg : Str → Option Value} {base : Heap} {f C CB cB dB fI fB fL fO fT fM fTh fS fF fBr fN : Addr} {fd fdI fdB fdL fdO fdT fdM fdTh fdS fdF fdBr fdN : FuncData} {ds : List Value}
theorem ok_right (F : FnP K "_law_right" sRightR f fd) (RF : RiF P w K mg base C CB cB dB fI fB fL fO fT fM fTh fS fF fBr fdI fdB fdL fdO fdT fdM fdTh fdS fdF fdBr ds)
    (FNm : FnP K "_law_names" sNames fN fdN) (gN : mg "_law_names" = some (.ref fN)) (GN : FnOk P w K mg base CX0 3 fN fdN ["_law_pot_here", "_law_amount"] spNames) (hFN : ∀ (n : Nm) (rest : List Str), List.Perm (nsN n ++ rest) pool14 → FN n) :
    FnG P w K mg base CX0 8 f fd ["_law_pot_here"] spRightR := by
  have bN : L2.Binds K fdN ["_law_pot_here", "_law_amount"] [] := FNm.bindsN fun _ _ _ _ _ _ us hl => match us, hl with | [_, _], _ => rfl
  refine okG F scR (fun vs H Q E h => ?_) (fun cdv A outer s H vs Q E hrg h => ?_)
  · obtain ⟨p, rfl, _⟩ := h
    rfl
  · obtain ⟨p, rfl, hp, q⟩ := h
    have hr3 := hrg.r.mono (show 3 ≤ 7 by decide)
    refine ⟨_, PSs.nox (pss_cons (ps_set (i := 1) scR.nd rfl (Or.inl rfl) (pe_call GN hr3 rfl gN FNm.kp bN .nil pass0 (pa_cons (pv 0) (pa_cons pe_int pa_nil)))) (part6 RF hrg)), ?_⟩
    refine ⟨_, rfl, p, 0, 3, rfl, hp, by decide, by decide, fun n H1 ns rest hn e1 len perm x1 hp1 => ?_⟩
    match ns, len with
    | [a, b, c], _ =>
      refine ⟨⟨a, b, c⟩, ⟨?_, Live.nil⟩, fun v H' s' rv => ?_⟩
      · rw [msk_nil]
        refine ⟨hFN ⟨a, b, c⟩ rest perm, rfl, fun k r e => ?_⟩
        match k, e with
        | 0, e => cases e
        | 1, e => exact ⟨.ref n, rfl, by cases e; exact oSL_iff.mpr ⟨n, rfl, e1⟩⟩
        | 2, e => cases e
        | 3, e => cases e
        | 4, e => cases e
        | 5, e => cases e
        | 6, e => cases e
        | 7, e => cases e
        | 8, e => cases e
        | 9, e => cases e
        | 10, e => cases e
        | 11, e => cases e
        | 12, e => cases e
        | 13, e => cases e
        | 14, e => cases e
        | 15, e => cases e
        | (k + 16), e => cases e
      · obtain rfl : v = .bl true := rv
        exact q _ (x1.trans (Ext.of s'))
end
end K14

set_option Elab.async false
set_option linter.all false
set_option maxRecDepth 100000
set_option maxHeartbeats 0
namespace K14
open PySem PySem.Spec PyProof.Rows L2 MX
def mkD (at_ : Str × Option Str) (name qual : Str) (st : Stmt) : He.DefD := ⟨at_, name, qual, defArgs st, defBody st, defScope st, [], []⟩
def mkF (x : Str) (st : Stmt) : He.DefD := mkD (x, none) x x st
abbrev sRight : Stmt := top 55
abbrev sLaw : Stmt := top 56
def dB (K : PySem.W.Frag) : Addr := He.dflAt ("Book", some "__init__") 0 K
def fn : List He.DefD := [mkD ("MeetError", some "__init__") "__init__" "MeetError.__init__" sErr, mkF "is_name" sIsName, mkF "are_unlike" sUnlike, mkF "are_among" sAmong, mkF "is_people_line" sPeople, mkF "is_met_line" sMet, mkF "is_open_line" sOpen,
  mkD ("Hall", some "__init__") "__init__" "Hall.__init__" sInit, mkD ("Hall", some "_takes") "_takes" "Hall._takes" sTakes, mkD ("Hall", some "_tell") "_tell" "Hall._tell" sTell, mkF "require_two" sRequire,
  mkD ("Hall", some "told") "told" "Hall.told" sTold, mkD ("Hall", some "__len__") "__len__" "Hall.__len__" sLen, mkD ("Hall", some "__contains__") "__contains__" "Hall.__contains__" sIn] ++
  ([mkF "is_event" sEvent, mkF "places_of" sPlacesOf, mkF "is_timeline" sIsTl, mkF "require_timeline" sReqTl, mkF "meet" sMeet, mkF "met_by" sMetBy, mkF "keeps" sKeeps, mkF "there" sThere, mkF "order_of" sOrderOf, mkF "turned" sTurned, mkF "is_tuple_of" sTupOf, mkF "is_saying" sSaying, mkF "require_saying" sReqSay, mkF "holds" sHolds, mkF "is_so" sIsSo, mkF "are_sayings" sAreSay] : List He.DefD) ++
  ([⟨("Book", some "__init__"), "__init__", "Book.__init__", defArgs sBookI, defBody sBookI, defScope sBookI, [.adr (He.dflAt ("Book", some "__init__") 0)], []⟩, mkD ("Book", some "fits") "fits" "Book.fits" sFits, mkD ("Book", some "broken") "broken" "Book.broken" sBroken] : List He.DefD) ++
  ([mkF "_law_pot" sPot, mkF "_law_take" sTake, mkF "_law_some" sSome, mkF "_law_places" sPlaces, mkF "_law_names" sNames, mkF "_law_line_by" sLineBy, mkF "_law_right" sRight, mkF "law" sLaw] : List He.DefD)
def blts : List Str := ["len", "int", "abs", "range", "max", "min", "list", "isinstance", "repr", "enumerate", "all", "set", "tuple", "str", "sorted", "reversed"]
def glos : List Str := (["MeetError", "BadHall", "Hall", "is_name", "are_unlike", "are_among", "is_people_line", "is_met_line", "is_open_line", "require_two"] : List Str) ++
  (["TURNED", "is_event", "places_of", "is_timeline", "require_timeline", "meet", "met_by", "keeps", "there", "order_of", "turned", "is_tuple_of", "is_saying", "require_saying", "holds", "is_so", "are_sayings", "Book"] : List Str) ++
  (["_law_pot", "_law_take", "_law_some", "_law_places", "_law_names", "_law_line_by", "_law_right", "law"] : List Str)
def more : List He.Fa := [.str "LETTERS" letters, .int "MOST_LETTERS" 8, .int "MOST_PEOPLE" 9, .int "MOST_MET" 20, .int "MOST_OPEN" 4, .int "MOST_SAYINGS" 30, .cls "Hall", .noat "Hall" "text", .noat "Hall" "people", .noat "Hall" "opens", .noat "Hall" "_told", .meth "Hall" "_tell", .meth "Hall" "_takes", .mkr "Hall"] ++
  ([.meth "Hall" "told", .meth "Hall" "__len__", .meth "Hall" "__contains__", .cls "Book", .noat "Book" "hall", .noat "Book" "sayings", .mkr "Book", .meth "Book" "fits", .meth "Book" "broken"] : List He.Fa)
def fa : List He.Fa := glos.map He.Fa.glo ++ blts.map He.Fa.free ++ more
def fE (K : PySem.W.Frag) : Addr := He.ma K (He.ga K "MeetError") "__init__"
def emptyB (K : PySem.W.Frag) (a : Addr) : Bool := match K.lookup a with
  | some ⟨.type c, _, .seq its _, _⟩ => decide (c = "tuple") && decide (its = #[])
  | _ => false
theorem empty_ok {K : PySem.W.Frag} {a : Addr} (h : emptyB K a = true) (H : Hp) : SqT K H a [] := by
  unfold emptyB at h
  split at h
  · rename_i c d its n sl e
    obtain ⟨h1, h2⟩ := He.ba h
    have h1 := of_decide_eq_true h1
    have h2 := of_decide_eq_true h2
    subst h1 h2
    exact .inr ⟨_, #[], n, e, rfl, rfl, Nat.zero_le _, .nil⟩
  · cases h
def fx (K : PySem.W.Frag) : Bool := excB K (He.ga K "BadHall") (fE K) && (emptyB K (dB K) && He.valsB K (He.ga K "TURNED") [("in", .str "out"), ("out", .str "in")])
def ts : List He.Tab := [(fun K => He.ga K "TURNED", ["in", "out"])]
def tf : List He.Defn := []
abbrev R : PySem.W.OpenRow := PySem.W.OpenLaw.row PySem.Challenge.rw_metonce_k14_timelines_by_hand
abbrev hk : PySem.W.Hook := He.hookX 6 fa fn ts tf fx
def ob (s : PySem.W.SharedT) : He.AlX := He.obsX 6 fa fn ts tf fx (HandSHeadRun.getT s)
theorem ob_eq (s : PySem.W.SharedT) : ob s = hk.obs s.abs := He.obsX_eq (HandSHeadRun.getT_eq s)
def loose : List Str := (["_wall", "MeetError", "BadHall", "NoPerson", "BadEvent", "BadTimeline", "BadSaying", "BadSayings", "Full", "OtherHall", "LETTERS", "MOST_LETTERS", "MOST_PEOPLE", "MOST_MET", "MOST_OPEN", "is_name", "are_unlike", "are_among", "is_people_line", "is_met_line", "is_open_line", "require_two", "Hall"] : List Str) ++
  (["TURNED", "is_event", "places_of", "is_timeline", "require_timeline", "meet", "met_by", "keeps", "there", "order_of", "turned", "is_tuple_of", "is_saying", "require_saying", "holds", "is_so", "MOST_SAYINGS", "are_sayings", "Book"] : List Str) ++
  (["_law_pot", "_law_take", "_law_some", "_law_places", "_law_names", "_law_line_by", "_law_right"] : List Str)
theorem run_f (w : World) : HandSHeadRun.RunEq R (PySem.W.view R.prog [56]) hk ob 16000 loose (w.withFollow "special-get-raises" false) := by
  intro os
  kernel_rfl
theorem run_t (w : World) : HandSHeadRun.RunEq R (PySem.W.view R.prog [56]) hk ob 16000 loose (w.withFollow "special-get-raises" true) := by
  intro os
  kernel_rfl
theorem run (w : World) : HandSHeadRun.RunEq R (PySem.W.view R.prog [56]) hk ob 16000 loose w := by
  have key : ∀ (b : Bool) (w : World), HandSHeadRun.RunEq R (PySem.W.view R.prog [56]) hk ob 16000 loose (w.withFollow "special-get-raises" b) := fun b w => by
    cases b
    · exact run_f w
    · exact run_t w
  have z := key (w.params.followText "special-get-raises") w
  rw [World.withFollow_self] at z
  exact z
end K14

set_option Elab.async false
set_option linter.all false
set_option maxRecDepth 100000
set_option maxHeartbeats 4000000
namespace K14
open PySem PySem.Spec PySem.W PySem.Calls PyProof.Rows L2 MX
def spLaw (K : PySem.W.Frag) : Sp := fun vs H Q _ => ∃ (a : Addr) (ns : List Int), vs = [.ref a] ∧ SqL K H a (ns.map V.int) ∧ ns.length ≤ 63 ∧ ∀ H', Q (.bl true) H'
section
variable {P : Program} {w : World} {K : PySem.W.Frag} {mg : Str → Option Value} {base : Heap} {f : Addr} {fd : FuncData}
theorem scW : FnScope ["_law_script", "_law_place"] ["_law_script"] (defScope sLaw) := ⟨rfl, rfl, rfl, by decide +kernel, rfl, by decide +kernel, by decide +kernel⟩
theorem ok_law {fP fL fR : Addr} {fdP fdL fdR : FuncData} (F : FnP K "law" sLaw f fd) (hall : mg "all" = none) (B : BltD mg)
    (FP : FnP K "_law_pot" sPot fP fdP) (gP : mg "_law_pot" = some (.ref fP)) (FL : FnP K "_law_places" sPlaces fL fdL) (gL : mg "_law_places" = some (.ref fL))
    (FR : FnP K "_law_right" sRightR fR fdR) (gR : mg "_law_right" = some (.ref fR)) (GR : FnG P w K mg base CX0 8 fR fdR ["_law_pot_here"] spRightR) :
    FnG P w K mg base CX0 9 f fd ["_law_script"] (spLaw K) := by
  have GP : FnOk P w K mg base CX0 1 fP fdP ["_law_script", "_law_k"] (spPot K) := ok_pot FP B
  have GL : FnOk P w K mg base CX0 1 fL fdL ["_law_script", "_law_most"] (spPlaces K 3) := ok_places FL B (by decide)
  have bP : L2.Binds K fdP ["_law_script", "_law_k"] [] := FP.bindsN fun _ _ _ _ _ _ us hl => match us, hl with | [_, _], _ => rfl
  have bL : L2.Binds K fdL ["_law_script", "_law_most"] [] := FL.bindsN fun _ _ _ _ _ _ us hl => match us, hl with | [_, _], _ => rfl
  have bR : L2.Binds K fdR ["_law_pot_here"] [] := FR.bindsN fun _ _ _ _ _ _ us hl => match us, hl with | [_], _ => rfl
  refine okG F scW (fun vs H Q E h => ?_) (fun cdv A outer s H vs Q E hrg h => ?_)
  · obtain ⟨a, ns, rfl, _⟩ := h
    rfl
  · obtain ⟨a, ns, rfl, hS, hn, q⟩ := h
    have hr1 := hrg.r.mono (show 1 ≤ 8 by decide)
    refine ⟨_, PSs.nox (pss_one (ps_ret (pe_callB (cr_all rfl) (by rfl) hall boot_all (pa_cons
      (pe_lc (own := [("_law_place", 1)]) (g := gName 1) (tt := tYes) rfl scW.nd (pi_list (pe_call GL hr1 rfl gL FL.kp bL .nil pass0 (pa_cons (pv 0) (pa_cons pe_int pa_nil))))
        (blkOk_by (N := ["_law_script", "_law_place"]) (sc := defScope sLaw) (by decide +kernel))
        (fun _ _ _ _ _ => pg_name (i := 1) scW.nd rfl (Or.inl rfl)) (fun _ _ _ _ _ => pts_nil)
        (fun _ _ _ _ _ => pe_callG GR hrg rfl gR FR.kp bR .nil pass0 (pa_cons (pe_call GP hr1 rfl gP FP.kp bP .nil pass0 (pa_cons (pv 0) (pa_cons (pv 1) pa_nil))) pa_nil))) pa_nil)))), ?_⟩
    refine ⟨_, rfl, a, ns, rfl, hS, hn, fun pl H1 t s1 n1 ht eP => ⟨pl, rfl, ⟨_, SqL.of eP⟩, fun D nD => lc_list (xs := (List.range t).map fun (i : Nat) => V.int (i : Int))
      (fun k H' => H' D = some (.lst ((List.replicate k true).map V.bl)) ∧ Same H1 H') ⟨upd_same, same_new nD⟩ (fun k H' _ z => SqL.of (z.2 _ _ eP)) ?_ ?_⟩⟩
    · rintro k x H' hx ⟨eD, s⟩
      have hk : k < t := by
        have z := (List.getElem?_eq_some_iff.mp hx).1
        rw [List.length_map, List.length_range] at z
        exact z
      obtain rfl : V.int (k : Int) = x := by
        rw [List.getElem?_map, List.getElem?_range hk] at hx
        exact Option.some.inj hx
      refine ⟨rfl, _, rfl, _, rfl, a, ns, k, rfl, (s1.trans s).seq hS, hn, by omega, fun p o hp ho => ?_⟩
      have sp := same_new (o := o) hp
      refine ⟨p, rfl, ⟨o, upd_same, ho⟩, fun H2 e2 => ⟨_, e2 _ _ (ne_of_none eD hp) (sp _ _ eD), ?_, ?_, ?_⟩⟩
      · rw [List.length_map, List.length_replicate, sizeLine_eq]
        omega
      · rw [upd_same, List.replicate_succ', List.map_append]
        rfl
      · intro b u z
        have nb : b ≠ D := ne_of_none z nD
        rw [upd_ne nb]
        exact e2 b u (ne_of_none (s b u z) hp) (sp _ _ (s b u z))
    · rintro H' ⟨eD, s⟩
      refine ⟨D, _, rfl, SqL.of eD, ?_⟩
      have e : ∀ n : Nat, ((List.replicate n true).all id) = true := fun n => by
        rw [List.all_eq_true]
        intro b hb
        rw [(List.mem_replicate.mp hb).2]
        rfl
      rw [e]
      exact q _
end
end K14

set_option Elab.async false
set_option linter.all false
set_option maxRecDepth 100000
set_option maxHeartbeats 4000000
namespace K14
open PySem PySem.Spec PySem.W PySem.Calls PyProof.Rows L2 MX
theorem pool_ok : ∀ x ∈ pool14, (32 ∉ TL.tl x ∧ 10 ∉ TL.tl x) ∧ (nameB x = true ∧ (PyData.strOk x = true ∧ x.length ≤ 20)) := by decide +kernel
theorem pool_nodup : pool14.Nodup := by decide +kernel
structure D3 (n : Nm) : Prop where
  ab : n.a ≠ n.b
  ac : n.a ≠ n.c
  bc : n.b ≠ n.c
  ok : ∀ x ∈ nsN n, Clean x ∧ nameB x = true ∧ OkS x
theorem d3_of {n : Nm} {rest : List Str} (h : List.Perm (nsN n ++ rest) pool14) : D3 n := by
  have nd := (List.nodup_append.mp (h.symm.nodup pool_nodup)).1
  unfold nsN at nd
  simp only [List.nodup_cons, List.mem_cons, List.not_mem_nil, or_false, not_or] at nd
  refine ⟨nd.1.1, nd.1.2, nd.2.1, fun x hx => ?_⟩
  obtain ⟨a, b, c⟩ := pool_ok x (h.mem_iff.mp (List.mem_append_left _ hx))
  exact ⟨a, b, c⟩
/-! the hall -/
def wssN (n : Nm) : List (List Str) := [["people", n.a, n.b, n.c], ["met", n.a, n.b], ["open", n.c, n.b]]
theorem app_tl {x y : Str} (h : TL.tl x = TL.tl y) : x = y := by
  cases x; cases y
  exact congrArg Str.mk (Array.toList_inj.mp h)
theorem text_eq (n : Nm) : textN n = Txt.join "\n" ((wssN n).map (Txt.join " ")) := by
  refine app_tl ?_
  have e1 : TL.tl ("people " : Str) = TL.tl ("people" : Str) ++ [32] := by decide +kernel
  have e2 : TL.tl ("\nmet " : Str) = 10 :: (TL.tl ("met" : Str) ++ [32]) := by decide +kernel
  have e3 : TL.tl ("\nopen " : Str) = 10 :: (TL.tl ("open" : Str) ++ [32]) := by decide +kernel
  have e4 : TL.tl (" " : Str) = [32] := by decide +kernel
  have e5 : TL.tl ("\n" : Str) = [10] := by decide +kernel
  unfold textN pageN nsN wssN
  simp only [TL.tl_append, TL.join_eq, TL.tl_join, List.map_cons, List.map_nil, TL.joinL, e1, e2, e3, e4, e5, List.append_assoc, List.cons_append, List.nil_append]
theorem lines_eq {n : Nm} (d : D3 n) : hallLines (textN n) = wssN n := by
  rw [text_eq]
  have ha := (d.ok n.a (mem_a n)).1
  have hb := (d.ok n.b (mem_b n)).1
  have hc := (d.ok n.c (mem_c n)).1
  have k1 : Clean "people" := ⟨by decide +kernel, by decide +kernel⟩
  have k2 : Clean "met" := ⟨by decide +kernel, by decide +kernel⟩
  have k3 : Clean "open" := ⟨by decide +kernel, by decide +kernel⟩
  refine lines_of (by simp [wssN]) (by simp [wssN]) (fun ws hw w hm => ?_)
  unfold wssN at hw
  simp only [List.mem_cons, List.not_mem_nil, or_false] at hw
  rcases hw with rfl | rfl | rfl <;> simp only [List.mem_cons, List.not_mem_nil, or_false] at hm
  · rcases hm with rfl | rfl | rfl | rfl <;> assumption
  · rcases hm with rfl | rfl | rfl <;> assumption
  · rcases hm with rfl | rfl | rfl <;> assumption
theorem textOk {n : Nm} (d : D3 n) : TextOk (textN n) := by
  rw [text_eq]
  have ha := d.ok n.a (mem_a n)
  have hb := d.ok n.b (mem_b n)
  have hc := d.ok n.c (mem_c n)
  have k1 : Clean "people" ∧ ("people" : Str).length ≤ 20 := ⟨⟨by decide +kernel, by decide +kernel⟩, by decide +kernel⟩
  have k2 : Clean "met" ∧ ("met" : Str).length ≤ 20 := ⟨⟨by decide +kernel, by decide +kernel⟩, by decide +kernel⟩
  have k3 : Clean "open" ∧ ("open" : Str).length ≤ 20 := ⟨⟨by decide +kernel, by decide +kernel⟩, by decide +kernel⟩
  have a' : Clean n.a ∧ n.a.length ≤ 20 := ⟨ha.1, ha.2.2.2⟩
  have b' : Clean n.b ∧ n.b.length ≤ 20 := ⟨hb.1, hb.2.2.2⟩
  have c' : Clean n.c ∧ n.c.length ≤ 20 := ⟨hc.1, hc.2.2.2⟩
  refine (text_ok (wss := wssN n) (by simp [wssN]) (by simp [wssN]) (fun ws hw w hm => ?_) (by simp [wssN]) (by simp [wssN])).1
  unfold wssN at hw
  simp only [List.mem_cons, List.not_mem_nil, or_false] at hw
  rcases hw with rfl | rfl | rfl <;> simp only [List.mem_cons, List.not_mem_nil, or_false] at hm
  · rcases hm with rfl | rfl | rfl | rfl <;> assumption
  · rcases hm with rfl | rfl | rfl <;> assumption
  · rcases hm with rfl | rfl | rfl <;> assumption
def T0 (n : Nm) : MX.Tm := tellA [n.c, n.b] [n.c, n.b] "open" (tellA [n.a, n.b] [n.a, n.b] "met" [])
theorem parse_eq {n : Nm} (d : D3 n) : parseH (textN n) = .inr ([[n.c, n.b]], T0 n) := by
  have ha := (d.ok n.a (mem_a n)).2.1
  have hb := (d.ok n.b (mem_b n)).2.1
  have hc := (d.ok n.c (mem_c n)).2.1
  have ab := d.ab
  have ac := d.ac
  have bc := d.bc
  unfold parseH
  rw [lines_eq d]
  unfold wssN
  dsimp only
  have p1 : peopleB ["people", n.a, n.b, n.c] = true := by
    unfold peopleB headIs
    simp [ha, hb, hc, ab, ac, bc]
  rw [if_pos p1]
  show runT [n.a, n.b, n.c] 2 [["met", n.a, n.b], ["open", n.c, n.b]] ([], []) = _
  have s1 : MX.stepT [n.a, n.b, n.c] 2 ["met", n.a, n.b] ([], []) = some ([], tellA [n.a, n.b] [n.a, n.b] "met" []) := by
    unfold MX.stepT metB headIs amongB
    simp [ab]
  have s2 : MX.stepT [n.a, n.b, n.c] 3 ["open", n.c, n.b] ([], tellA [n.a, n.b] [n.a, n.b] "met" []) = some ([[n.c, n.b]], T0 n) := by
    have v : valV (tellA [n.a, n.b] [n.a, n.b] "met" []) (pk n.c n.b) = none := by
      rw [val_tellA, if_neg (by simp [Ne.symm ac, Ne.symm bc])]
      rfl
    have v' : valV (tellA [n.a, n.b] [n.a, n.b] "met" []) (keyT [n.c, n.b]) = none := v
    unfold MX.stepT metB openB headIs amongB
    have om : ¬ ("open" : Str) = "met" := by decide +kernel
    simp [Ne.symm bc, v', T0, om]
  rw [runT_cons, s1]
  dsimp only
  rw [runT_cons, s2]
  rfl
theorem hall_eq {n : Nm} (d : D3 n) : hN n = ⟨textN n, nsN n, [[n.c, n.b]], T0 n⟩ := by
  unfold hN hOf peopleOf
  rw [parse_eq d, lines_eq d]
  rfl
theorem told_eq (n : Nm) (x y : Str) : toldS (T0 n) x y = if x ∈ [n.c, n.b] ∧ y ∈ [n.c, n.b] ∧ x ≠ y then ("open" : Str) else if x ∈ [n.a, n.b] ∧ y ∈ [n.a, n.b] ∧ x ≠ y then ("met" : Str) else ("not" : Str) := by
  have e : ek (x, y) = pk x y := rfl
  have v : valV (T0 n) (ek (x, y)) = if x ∈ [n.c, n.b] ∧ y ∈ [n.c, n.b] ∧ x ≠ y then some (V.str ("open" : Str)) else if x ∈ [n.a, n.b] ∧ y ∈ [n.a, n.b] ∧ x ≠ y then some (V.str ("met" : Str)) else none := by
    unfold T0
    rw [e, val_tellA, val_tellA]
    rfl
  unfold toldS
  rw [v]
  by_cases h1 : x ∈ [n.c, n.b] ∧ y ∈ [n.c, n.b] ∧ x ≠ y
  · rw [if_pos h1, if_pos h1]
  · rw [if_neg h1, if_neg h1]
    by_cases h2 : x ∈ [n.a, n.b] ∧ y ∈ [n.a, n.b] ∧ x ≠ y
    · rw [if_pos h2, if_pos h2]
    · rw [if_neg h2, if_neg h2]
end K14

set_option Elab.async false
set_option linter.all false
set_option maxRecDepth 100000
set_option maxHeartbeats 4000000
namespace K14
open PySem PySem.Spec PySem.W PySem.Calls PyProof.Rows L2 MX
theorem strT_put {T : MX.Tm} {k : List Key} {w : Str} (h : strT T) : strT (putK T k (.str w)) := fun k' v e => by
  rw [valV_put] at e
  split at e
  · exact ⟨w, (Option.some.inj e).symm⟩
  · exact h _ _ e
theorem strT_1 {T : MX.Tm} {x y w : Str} (h : strT T) : strT (tell1 x y w T) := by
  unfold tell1
  split
  · exact h
  · exact strT_put h
theorem strT_R {x w : Str} : ∀ (ys : List Str) {T : MX.Tm}, strT T → strT (tellR x w ys T)
  | [], T, h => h
  | y :: ys, T, h => strT_R ys (T := tell1 x y w T) (strT_1 h)
theorem strT_A {w : Str} {ys : List Str} : ∀ (xs : List Str) {T : MX.Tm}, strT T → strT (tellA ys xs w T)
  | [], T, h => h
  | x :: xs, T, h => strT_A xs (T := tellR x w ys T) (strT_R ys h)
theorem strT_0 (n : Nm) : strT (T0 n) := strT_A _ (strT_A _ (fun k v e => by cases e))
theorem inout : ("in" : Str) ≠ "out" := by decide +kernel
theorem w3 : ("met" : Str) ≠ "not" ∧ ("open" : Str) ≠ "not" ∧ ("open" : Str) ≠ "met" := by decide +kernel
/-- the pairs and what is told of them -/
theorem told6 {n : Nm} (d : D3 n) : toldS (T0 n) n.a n.b = "met" ∧ toldS (T0 n) n.b n.a = "met" ∧ toldS (T0 n) n.a n.c = "not" ∧ toldS (T0 n) n.c n.a = "not" ∧ toldS (T0 n) n.b n.c = "open" ∧ toldS (T0 n) n.c n.b = "open" := by
  have ab := d.ab
  have ac := d.ac
  have bc := d.bc
  simp only [told_eq]
  refine ⟨?_, ?_, ?_, ?_, ?_, ?_⟩ <;> simp [ab, ac, bc, Ne.symm ab, Ne.symm ac, Ne.symm bc]
theorem prs6 {n : Nm} (d : D3 n) : prsL (nsN n) = [(n.a, n.b), (n.a, n.c), (n.b, n.a), (n.b, n.c), (n.c, n.a), (n.c, n.b)] := by
  have ab := d.ab
  have ac := d.ac
  have bc := d.bc
  simp [prsL, nsN, ab, ac, bc, Ne.symm ab, Ne.symm ac, Ne.symm bc]
theorem known4 {n : Nm} (d : D3 n) : knownL (hN n) = [(n.a, n.b), (n.a, n.c), (n.b, n.a), (n.c, n.a)] := by
  obtain ⟨t1, t2, t3, t4, t5, t6⟩ := told6 d
  obtain ⟨w1, w2, w3⟩ := w3
  unfold knownL
  rw [hall_eq d]
  show (prsL (nsN n)).filter (fun p => !decide (toldS (T0 n) p.1 p.2 = "open")) = _
  rw [prs6 d]
  simp [t1, t2, t3, t4, t5, t6, Ne.symm w2, Ne.symm w3]
theorem keep4 {n : Nm} (d : D3 n) (es : List Evt) : keepB (hN n) es = (meetB es n.a n.b && (!meetB es n.a n.c && (meetB es n.b n.a && !meetB es n.c n.a))) := by
  obtain ⟨t1, t2, t3, t4, t5, t6⟩ := told6 d
  obtain ⟨w1, w2, w3⟩ := w3
  unfold keepB
  rw [known4 d, hall_eq d]
  simp [t1, t2, t3, t4, Ne.symm w1]
theorem allP9 (n : Nm) : allP (nsN n) = [(n.a, n.a), (n.a, n.b), (n.a, n.c), (n.b, n.a), (n.b, n.b), (n.b, n.c), (n.c, n.a), (n.c, n.b), (n.c, n.c)] := rfl
theorem vt_of {n : Nm} {es : List Evt} (nd : es.Nodup) (len : es.length = 6) (ev : ∀ e ∈ es, evB (nsN n) e = true) (ia : (n.a, ("in" : Str)) ∈ es ∧ (n.a, ("out" : Str)) ∈ es ∧ es.idxOf (n.a, ("in" : Str)) < es.idxOf (n.a, ("out" : Str)))
    (ib : (n.b, ("in" : Str)) ∈ es ∧ (n.b, ("out" : Str)) ∈ es ∧ es.idxOf (n.b, ("in" : Str)) < es.idxOf (n.b, ("out" : Str))) (ic : (n.c, ("in" : Str)) ∈ es ∧ (n.c, ("out" : Str)) ∈ es ∧ es.idxOf (n.c, ("in" : Str)) < es.idxOf (n.c, ("out" : Str))) : VT (nsN n) es :=
  ⟨nd, len, Nat.le_of_ble_eq_true rfl, ev, fun x hx => by
    unfold nsN at hx
    simp only [List.mem_cons, List.not_mem_nil, or_false] at hx
    rcases hx with rfl | rfl | rfl
    · exact ia
    · exact ib
    · exact ic⟩
theorem ev_beq (a b c d : Str) : (((a, b) : Evt) == (c, d)) = (decide (a = c) && decide (b = d)) := by
  rw [Bool.eq_iff_iff]
  simp
theorem evB6 (n : Nm) : evB (nsN n) (n.a, "in") = true ∧ evB (nsN n) (n.a, "out") = true ∧ evB (nsN n) (n.b, "in") = true ∧ evB (nsN n) (n.b, "out") = true ∧ evB (nsN n) (n.c, "in") = true ∧ evB (nsN n) (n.c, "out") = true := by
  simp [evB, nsN]

abbrev L_001122 (n : Nm) : List Evt := [(n.a, "in"), (n.a, "out"), (n.b, "in"), (n.b, "out"), (n.c, "in"), (n.c, "out")]
theorem es_001122 (n : Nm) : esN n "001122" = L_001122 n := by
  have h : ("001122" : Str).cps.toList = [48, 48, 49, 49, 50, 50] := by decide +kernel
  unfold esN lineBy
  rw [h]
  rfl
theorem ix_001122 {n : Nm} (d : D3 n) : (L_001122 n).idxOf (n.a, ("in" : Str)) = 0 ∧ (L_001122 n).idxOf (n.a, ("out" : Str)) = 1 ∧ (L_001122 n).idxOf (n.b, ("in" : Str)) = 2 ∧ (L_001122 n).idxOf (n.b, ("out" : Str)) = 3 ∧ (L_001122 n).idxOf (n.c, ("in" : Str)) = 4 ∧ (L_001122 n).idxOf (n.c, ("out" : Str)) = 5 := by
  have ab := d.ab
  have ac := d.ac
  have bc := d.bc
  have io := inout
  unfold L_001122
  simp [List.idxOf_cons, ev_beq, ab, ac, bc, Ne.symm ab, Ne.symm ac, Ne.symm bc, io, Ne.symm io]
theorem vt_001122 {n : Nm} (d : D3 n) : VT (nsN n) (L_001122 n) := by
  obtain ⟨i1, i2, i3, i4, i5, i6⟩ := ix_001122 d
  obtain ⟨v1, v2, v3, v4, v5, v6⟩ := evB6 n
  have ab := d.ab
  have ac := d.ac
  have bc := d.bc
  have io := inout
  refine vt_of ?_ rfl ?_ ⟨by simp, by simp, by rw [i1, i2]; decide⟩ ⟨by simp, by simp, by rw [i3, i4]; decide⟩ ⟨by simp, by simp, by rw [i5, i6]; decide⟩
  · simp [ab, ac, bc, Ne.symm ab, Ne.symm ac, Ne.symm bc, io, Ne.symm io]
  · intro e he
    simp only [L_001122, List.mem_cons, List.not_mem_nil, or_false] at he
    rcases he with rfl | rfl | rfl | rfl | rfl | rfl <;> assumption

abbrev L_221100 (n : Nm) : List Evt := [(n.c, "in"), (n.c, "out"), (n.b, "in"), (n.b, "out"), (n.a, "in"), (n.a, "out")]
theorem es_221100 (n : Nm) : esN n "221100" = L_221100 n := by
  have h : ("221100" : Str).cps.toList = [50, 50, 49, 49, 48, 48] := by decide +kernel
  unfold esN lineBy
  rw [h]
  rfl

abbrev L_010122 (n : Nm) : List Evt := [(n.a, "in"), (n.b, "in"), (n.a, "out"), (n.b, "out"), (n.c, "in"), (n.c, "out")]
theorem es_010122 (n : Nm) : esN n "010122" = L_010122 n := by
  have h : ("010122" : Str).cps.toList = [48, 49, 48, 49, 50, 50] := by decide +kernel
  unfold esN lineBy
  rw [h]
  rfl
theorem ix_010122 {n : Nm} (d : D3 n) : (L_010122 n).idxOf (n.a, ("in" : Str)) = 0 ∧ (L_010122 n).idxOf (n.a, ("out" : Str)) = 2 ∧ (L_010122 n).idxOf (n.b, ("in" : Str)) = 1 ∧ (L_010122 n).idxOf (n.b, ("out" : Str)) = 3 ∧ (L_010122 n).idxOf (n.c, ("in" : Str)) = 4 ∧ (L_010122 n).idxOf (n.c, ("out" : Str)) = 5 := by
  have ab := d.ab
  have ac := d.ac
  have bc := d.bc
  have io := inout
  unfold L_010122
  simp [List.idxOf_cons, ev_beq, ab, ac, bc, Ne.symm ab, Ne.symm ac, Ne.symm bc, io, Ne.symm io]
theorem vt_010122 {n : Nm} (d : D3 n) : VT (nsN n) (L_010122 n) := by
  obtain ⟨i1, i2, i3, i4, i5, i6⟩ := ix_010122 d
  obtain ⟨v1, v2, v3, v4, v5, v6⟩ := evB6 n
  have ab := d.ab
  have ac := d.ac
  have bc := d.bc
  have io := inout
  refine vt_of ?_ rfl ?_ ⟨by simp, by simp, by rw [i1, i2]; decide⟩ ⟨by simp, by simp, by rw [i3, i4]; decide⟩ ⟨by simp, by simp, by rw [i5, i6]; decide⟩
  · simp [ab, ac, bc, Ne.symm ab, Ne.symm ac, Ne.symm bc, io, Ne.symm io]
  · intro e he
    simp only [L_010122, List.mem_cons, List.not_mem_nil, or_false] at he
    rcases he with rfl | rfl | rfl | rfl | rfl | rfl <;> assumption

abbrev L_221010 (n : Nm) : List Evt := [(n.c, "in"), (n.c, "out"), (n.b, "in"), (n.a, "in"), (n.b, "out"), (n.a, "out")]
theorem es_221010 (n : Nm) : esN n "221010" = L_221010 n := by
  have h : ("221010" : Str).cps.toList = [50, 50, 49, 48, 49, 48] := by decide +kernel
  unfold esN lineBy
  rw [h]
  rfl

abbrev L_012210 (n : Nm) : List Evt := [(n.a, "in"), (n.b, "in"), (n.c, "in"), (n.c, "out"), (n.b, "out"), (n.a, "out")]
theorem es_012210 (n : Nm) : esN n "012210" = L_012210 n := by
  have h : ("012210" : Str).cps.toList = [48, 49, 50, 50, 49, 48] := by decide +kernel
  unfold esN lineBy
  rw [h]
  rfl
theorem ix_012210 {n : Nm} (d : D3 n) : (L_012210 n).idxOf (n.a, ("in" : Str)) = 0 ∧ (L_012210 n).idxOf (n.a, ("out" : Str)) = 5 ∧ (L_012210 n).idxOf (n.b, ("in" : Str)) = 1 ∧ (L_012210 n).idxOf (n.b, ("out" : Str)) = 4 ∧ (L_012210 n).idxOf (n.c, ("in" : Str)) = 2 ∧ (L_012210 n).idxOf (n.c, ("out" : Str)) = 3 := by
  have ab := d.ab
  have ac := d.ac
  have bc := d.bc
  have io := inout
  unfold L_012210
  simp [List.idxOf_cons, ev_beq, ab, ac, bc, Ne.symm ab, Ne.symm ac, Ne.symm bc, io, Ne.symm io]
theorem vt_012210 {n : Nm} (d : D3 n) : VT (nsN n) (L_012210 n) := by
  obtain ⟨i1, i2, i3, i4, i5, i6⟩ := ix_012210 d
  obtain ⟨v1, v2, v3, v4, v5, v6⟩ := evB6 n
  have ab := d.ab
  have ac := d.ac
  have bc := d.bc
  have io := inout
  refine vt_of ?_ rfl ?_ ⟨by simp, by simp, by rw [i1, i2]; decide⟩ ⟨by simp, by simp, by rw [i3, i4]; decide⟩ ⟨by simp, by simp, by rw [i5, i6]; decide⟩
  · simp [ab, ac, bc, Ne.symm ab, Ne.symm ac, Ne.symm bc, io, Ne.symm io]
  · intro e he
    simp only [L_012210, List.mem_cons, List.not_mem_nil, or_false] at he
    rcases he with rfl | rfl | rfl | rfl | rfl | rfl <;> assumption

abbrev L_010212 (n : Nm) : List Evt := [(n.a, "in"), (n.b, "in"), (n.a, "out"), (n.c, "in"), (n.b, "out"), (n.c, "out")]
theorem es_010212 (n : Nm) : esN n "010212" = L_010212 n := by
  have h : ("010212" : Str).cps.toList = [48, 49, 48, 50, 49, 50] := by decide +kernel
  unfold esN lineBy
  rw [h]
  rfl
theorem ix_010212 {n : Nm} (d : D3 n) : (L_010212 n).idxOf (n.a, ("in" : Str)) = 0 ∧ (L_010212 n).idxOf (n.a, ("out" : Str)) = 2 ∧ (L_010212 n).idxOf (n.b, ("in" : Str)) = 1 ∧ (L_010212 n).idxOf (n.b, ("out" : Str)) = 4 ∧ (L_010212 n).idxOf (n.c, ("in" : Str)) = 3 ∧ (L_010212 n).idxOf (n.c, ("out" : Str)) = 5 := by
  have ab := d.ab
  have ac := d.ac
  have bc := d.bc
  have io := inout
  unfold L_010212
  simp [List.idxOf_cons, ev_beq, ab, ac, bc, Ne.symm ab, Ne.symm ac, Ne.symm bc, io, Ne.symm io]
theorem vt_010212 {n : Nm} (d : D3 n) : VT (nsN n) (L_010212 n) := by
  obtain ⟨i1, i2, i3, i4, i5, i6⟩ := ix_010212 d
  obtain ⟨v1, v2, v3, v4, v5, v6⟩ := evB6 n
  have ab := d.ab
  have ac := d.ac
  have bc := d.bc
  have io := inout
  refine vt_of ?_ rfl ?_ ⟨by simp, by simp, by rw [i1, i2]; decide⟩ ⟨by simp, by simp, by rw [i3, i4]; decide⟩ ⟨by simp, by simp, by rw [i5, i6]; decide⟩
  · simp [ab, ac, bc, Ne.symm ab, Ne.symm ac, Ne.symm bc, io, Ne.symm io]
  · intro e he
    simp only [L_010212, List.mem_cons, List.not_mem_nil, or_false] at he
    rcases he with rfl | rfl | rfl | rfl | rfl | rfl <;> assumption

abbrev L_212010 (n : Nm) : List Evt := [(n.c, "in"), (n.b, "in"), (n.c, "out"), (n.a, "in"), (n.b, "out"), (n.a, "out")]
theorem es_212010 (n : Nm) : esN n "212010" = L_212010 n := by
  have h : ("212010" : Str).cps.toList = [50, 49, 50, 48, 49, 48] := by decide +kernel
  unfold esN lineBy
  rw [h]
  rfl
theorem ix_212010 {n : Nm} (d : D3 n) : (L_212010 n).idxOf (n.a, ("in" : Str)) = 3 ∧ (L_212010 n).idxOf (n.a, ("out" : Str)) = 5 ∧ (L_212010 n).idxOf (n.b, ("in" : Str)) = 1 ∧ (L_212010 n).idxOf (n.b, ("out" : Str)) = 4 ∧ (L_212010 n).idxOf (n.c, ("in" : Str)) = 0 ∧ (L_212010 n).idxOf (n.c, ("out" : Str)) = 2 := by
  have ab := d.ab
  have ac := d.ac
  have bc := d.bc
  have io := inout
  unfold L_212010
  simp [List.idxOf_cons, ev_beq, ab, ac, bc, Ne.symm ab, Ne.symm ac, Ne.symm bc, io, Ne.symm io]
theorem vt_212010 {n : Nm} (d : D3 n) : VT (nsN n) (L_212010 n) := by
  obtain ⟨i1, i2, i3, i4, i5, i6⟩ := ix_212010 d
  obtain ⟨v1, v2, v3, v4, v5, v6⟩ := evB6 n
  have ab := d.ab
  have ac := d.ac
  have bc := d.bc
  have io := inout
  refine vt_of ?_ rfl ?_ ⟨by simp, by simp, by rw [i1, i2]; decide⟩ ⟨by simp, by simp, by rw [i3, i4]; decide⟩ ⟨by simp, by simp, by rw [i5, i6]; decide⟩
  · simp [ab, ac, bc, Ne.symm ab, Ne.symm ac, Ne.symm bc, io, Ne.symm io]
  · intro e he
    simp only [L_212010, List.mem_cons, List.not_mem_nil, or_false] at he
    rcases he with rfl | rfl | rfl | rfl | rfl | rfl <;> assumption

abbrev L_221001 (n : Nm) : List Evt := [(n.c, "in"), (n.c, "out"), (n.b, "in"), (n.a, "in"), (n.a, "out"), (n.b, "out")]
theorem es_221001 (n : Nm) : esN n "221001" = L_221001 n := by
  have h : ("221001" : Str).cps.toList = [50, 50, 49, 48, 48, 49] := by decide +kernel
  unfold esN lineBy
  rw [h]
  rfl
theorem ix_221001 {n : Nm} (d : D3 n) : (L_221001 n).idxOf (n.a, ("in" : Str)) = 3 ∧ (L_221001 n).idxOf (n.a, ("out" : Str)) = 4 ∧ (L_221001 n).idxOf (n.b, ("in" : Str)) = 2 ∧ (L_221001 n).idxOf (n.b, ("out" : Str)) = 5 ∧ (L_221001 n).idxOf (n.c, ("in" : Str)) = 0 ∧ (L_221001 n).idxOf (n.c, ("out" : Str)) = 1 := by
  have ab := d.ab
  have ac := d.ac
  have bc := d.bc
  have io := inout
  unfold L_221001
  simp [List.idxOf_cons, ev_beq, ab, ac, bc, Ne.symm ab, Ne.symm ac, Ne.symm bc, io, Ne.symm io]
theorem vt_221001 {n : Nm} (d : D3 n) : VT (nsN n) (L_221001 n) := by
  obtain ⟨i1, i2, i3, i4, i5, i6⟩ := ix_221001 d
  obtain ⟨v1, v2, v3, v4, v5, v6⟩ := evB6 n
  have ab := d.ab
  have ac := d.ac
  have bc := d.bc
  have io := inout
  refine vt_of ?_ rfl ?_ ⟨by simp, by simp, by rw [i1, i2]; decide⟩ ⟨by simp, by simp, by rw [i3, i4]; decide⟩ ⟨by simp, by simp, by rw [i5, i6]; decide⟩
  · simp [ab, ac, bc, Ne.symm ab, Ne.symm ac, Ne.symm bc, io, Ne.symm io]
  · intro e he
    simp only [L_221001, List.mem_cons, List.not_mem_nil, or_false] at he
    rcases he with rfl | rfl | rfl | rfl | rfl | rfl <;> assumption

abbrev L_100122 (n : Nm) : List Evt := [(n.b, "in"), (n.a, "in"), (n.a, "out"), (n.b, "out"), (n.c, "in"), (n.c, "out")]
theorem es_100122 (n : Nm) : esN n "100122" = L_100122 n := by
  have h : ("100122" : Str).cps.toList = [49, 48, 48, 49, 50, 50] := by decide +kernel
  unfold esN lineBy
  rw [h]
  rfl

abbrev L_011022 (n : Nm) : List Evt := [(n.a, "in"), (n.b, "in"), (n.b, "out"), (n.a, "out"), (n.c, "in"), (n.c, "out")]
theorem es_011022 (n : Nm) : esN n "011022" = L_011022 n := by
  have h : ("011022" : Str).cps.toList = [48, 49, 49, 48, 50, 50] := by decide +kernel
  unfold esN lineBy
  rw [h]
  rfl
theorem ix_011022 {n : Nm} (d : D3 n) : (L_011022 n).idxOf (n.a, ("in" : Str)) = 0 ∧ (L_011022 n).idxOf (n.a, ("out" : Str)) = 3 ∧ (L_011022 n).idxOf (n.b, ("in" : Str)) = 1 ∧ (L_011022 n).idxOf (n.b, ("out" : Str)) = 2 ∧ (L_011022 n).idxOf (n.c, ("in" : Str)) = 4 ∧ (L_011022 n).idxOf (n.c, ("out" : Str)) = 5 := by
  have ab := d.ab
  have ac := d.ac
  have bc := d.bc
  have io := inout
  unfold L_011022
  simp [List.idxOf_cons, ev_beq, ab, ac, bc, Ne.symm ab, Ne.symm ac, Ne.symm bc, io, Ne.symm io]
theorem vt_011022 {n : Nm} (d : D3 n) : VT (nsN n) (L_011022 n) := by
  obtain ⟨i1, i2, i3, i4, i5, i6⟩ := ix_011022 d
  obtain ⟨v1, v2, v3, v4, v5, v6⟩ := evB6 n
  have ab := d.ab
  have ac := d.ac
  have bc := d.bc
  have io := inout
  refine vt_of ?_ rfl ?_ ⟨by simp, by simp, by rw [i1, i2]; decide⟩ ⟨by simp, by simp, by rw [i3, i4]; decide⟩ ⟨by simp, by simp, by rw [i5, i6]; decide⟩
  · simp [ab, ac, bc, Ne.symm ab, Ne.symm ac, Ne.symm bc, io, Ne.symm io]
  · intro e he
    simp only [L_011022, List.mem_cons, List.not_mem_nil, or_false] at he
    rcases he with rfl | rfl | rfl | rfl | rfl | rfl <;> assumption

abbrev L_220110 (n : Nm) : List Evt := [(n.c, "in"), (n.c, "out"), (n.a, "in"), (n.b, "in"), (n.b, "out"), (n.a, "out")]
theorem es_220110 (n : Nm) : esN n "220110" = L_220110 n := by
  have h : ("220110" : Str).cps.toList = [50, 50, 48, 49, 49, 48] := by decide +kernel
  unfold esN lineBy
  rw [h]
  rfl

abbrev L_102012 (n : Nm) : List Evt := [(n.b, "in"), (n.a, "in"), (n.c, "in"), (n.a, "out"), (n.b, "out"), (n.c, "out")]
theorem es_102012 (n : Nm) : esN n "102012" = L_102012 n := by
  have h : ("102012" : Str).cps.toList = [49, 48, 50, 48, 49, 50] := by decide +kernel
  unfold esN lineBy
  rw [h]
  rfl
theorem ix_102012 {n : Nm} (d : D3 n) : (L_102012 n).idxOf (n.a, ("in" : Str)) = 1 ∧ (L_102012 n).idxOf (n.a, ("out" : Str)) = 3 ∧ (L_102012 n).idxOf (n.b, ("in" : Str)) = 0 ∧ (L_102012 n).idxOf (n.b, ("out" : Str)) = 4 ∧ (L_102012 n).idxOf (n.c, ("in" : Str)) = 2 ∧ (L_102012 n).idxOf (n.c, ("out" : Str)) = 5 := by
  have ab := d.ab
  have ac := d.ac
  have bc := d.bc
  have io := inout
  unfold L_102012
  simp [List.idxOf_cons, ev_beq, ab, ac, bc, Ne.symm ab, Ne.symm ac, Ne.symm bc, io, Ne.symm io]
theorem vt_102012 {n : Nm} (d : D3 n) : VT (nsN n) (L_102012 n) := by
  obtain ⟨i1, i2, i3, i4, i5, i6⟩ := ix_102012 d
  obtain ⟨v1, v2, v3, v4, v5, v6⟩ := evB6 n
  have ab := d.ab
  have ac := d.ac
  have bc := d.bc
  have io := inout
  refine vt_of ?_ rfl ?_ ⟨by simp, by simp, by rw [i1, i2]; decide⟩ ⟨by simp, by simp, by rw [i3, i4]; decide⟩ ⟨by simp, by simp, by rw [i5, i6]; decide⟩
  · simp [ab, ac, bc, Ne.symm ab, Ne.symm ac, Ne.symm bc, io, Ne.symm io]
  · intro e he
    simp only [L_102012, List.mem_cons, List.not_mem_nil, or_false] at he
    rcases he with rfl | rfl | rfl | rfl | rfl | rfl <;> assumption

abbrev L_210201 (n : Nm) : List Evt := [(n.c, "in"), (n.b, "in"), (n.a, "in"), (n.c, "out"), (n.a, "out"), (n.b, "out")]
theorem es_210201 (n : Nm) : esN n "210201" = L_210201 n := by
  have h : ("210201" : Str).cps.toList = [50, 49, 48, 50, 48, 49] := by decide +kernel
  unfold esN lineBy
  rw [h]
  rfl

theorem row_001122 {n : Nm} (d : D3 n) : RowOk n ("001122", [(n.a, n.b), (n.a, n.c), (n.b, n.c)], false) := by
  obtain ⟨i1, i2, i3, i4, i5, i6⟩ := ix_001122 d
  have ab := d.ab
  have ac := d.ac
  have bc := d.bc
  have rv : revX "001122" = "221100" := by decide +kernel
  have hz : ("001122" : Str).cps.toList = [48, 48, 49, 49, 50, 50] := by decide +kernel
  have hy : ("221100" : Str).cps.toList = [50, 50, 49, 49, 48, 48] := by decide +kernel
  have t1 : turnW "in" = "out" := by decide +kernel
  have t2 : turnW "out" = "in" := by decide +kernel
  refine ⟨⟨rfl, ?_, ?_⟩, ?_, ?_, ?_, ?_, ⟨rfl, ?_, ?_⟩, ?_, ?_, ?_, ?_⟩
  · show ("001122" : Str).cps.toList.length ≤ 100
    rw [hz]; decide
  · show ∀ c ∈ ("001122" : Str).cps.toList, c = 48 ∨ c = 49 ∨ c = 50
    rw [hz]; decide
  · show VT (nsN n) (esN n "001122")
    rw [es_001122]; exact vt_001122 d
  · show (ordL (nsN n) (esN n "001122")).Perm _
    rw [es_001122]
    refine List.Perm.of_eq ?_
    unfold ordL
    rw [allP9]
    simp [ordB, i1, i2, i3, i4, i5, i6]
  · show fitsB (⟨hN n, []⟩, esN n "001122") = _
    rw [es_001122]
    show (keepB (hN n) (L_001122 n) && decide (brokenL (L_001122 n) [] = [])) = _
    rw [keep4 d]
    simp [meetB, i1, i2, i3, i4, i5, i6, brokenL]
  · show decide (meetB (esN n "001122") n.a n.b = _) = false
    rw [es_001122]
    simp [meetB, i1, i2, i3, i4, i5, i6, ab, ac, bc, Ne.symm ab, Ne.symm ac, Ne.symm bc]
  · show (revX "001122").cps.toList.length ≤ 100
    rw [rv, hy]; decide
  · show ∀ c ∈ (revX "001122").cps.toList, c = 48 ∨ c = 49 ∨ c = 50
    rw [rv, hy]; decide
  · show (revX "001122").length ≤ 100
    rw [rv]; decide +kernel
  · show turnE (esN n "001122") = esN n (revX "001122")
    rw [rv, es_001122, es_221100]
    simp [turnE, t1, t2]
  · simp
  · simp [nsN]

theorem row_010122 {n : Nm} (d : D3 n) : RowOk n ("010122", [(n.a, n.c), (n.b, n.c)], true) := by
  obtain ⟨i1, i2, i3, i4, i5, i6⟩ := ix_010122 d
  have ab := d.ab
  have ac := d.ac
  have bc := d.bc
  have rv : revX "010122" = "221010" := by decide +kernel
  have hz : ("010122" : Str).cps.toList = [48, 49, 48, 49, 50, 50] := by decide +kernel
  have hy : ("221010" : Str).cps.toList = [50, 50, 49, 48, 49, 48] := by decide +kernel
  have t1 : turnW "in" = "out" := by decide +kernel
  have t2 : turnW "out" = "in" := by decide +kernel
  refine ⟨⟨rfl, ?_, ?_⟩, ?_, ?_, ?_, ?_, ⟨rfl, ?_, ?_⟩, ?_, ?_, ?_, ?_⟩
  · show ("010122" : Str).cps.toList.length ≤ 100
    rw [hz]; decide
  · show ∀ c ∈ ("010122" : Str).cps.toList, c = 48 ∨ c = 49 ∨ c = 50
    rw [hz]; decide
  · show VT (nsN n) (esN n "010122")
    rw [es_010122]; exact vt_010122 d
  · show (ordL (nsN n) (esN n "010122")).Perm _
    rw [es_010122]
    refine List.Perm.of_eq ?_
    unfold ordL
    rw [allP9]
    simp [ordB, i1, i2, i3, i4, i5, i6]
  · show fitsB (⟨hN n, []⟩, esN n "010122") = _
    rw [es_010122]
    show (keepB (hN n) (L_010122 n) && decide (brokenL (L_010122 n) [] = [])) = _
    rw [keep4 d]
    simp [meetB, i1, i2, i3, i4, i5, i6, brokenL]
  · show decide (meetB (esN n "010122") n.a n.b = _) = false
    rw [es_010122]
    simp [meetB, i1, i2, i3, i4, i5, i6, ab, ac, bc, Ne.symm ab, Ne.symm ac, Ne.symm bc]
  · show (revX "010122").cps.toList.length ≤ 100
    rw [rv, hy]; decide
  · show ∀ c ∈ (revX "010122").cps.toList, c = 48 ∨ c = 49 ∨ c = 50
    rw [rv, hy]; decide
  · show (revX "010122").length ≤ 100
    rw [rv]; decide +kernel
  · show turnE (esN n "010122") = esN n (revX "010122")
    rw [rv, es_010122, es_221010]
    simp [turnE, t1, t2]
  · simp
  · simp [nsN]

theorem row_012210 {n : Nm} (d : D3 n) : RowOk n ("012210", [], false) := by
  obtain ⟨i1, i2, i3, i4, i5, i6⟩ := ix_012210 d
  have ab := d.ab
  have ac := d.ac
  have bc := d.bc
  have rv : revX "012210" = "012210" := by decide +kernel
  have hz : ("012210" : Str).cps.toList = [48, 49, 50, 50, 49, 48] := by decide +kernel
  have hy : ("012210" : Str).cps.toList = [48, 49, 50, 50, 49, 48] := by decide +kernel
  have t1 : turnW "in" = "out" := by decide +kernel
  have t2 : turnW "out" = "in" := by decide +kernel
  refine ⟨⟨rfl, ?_, ?_⟩, ?_, ?_, ?_, ?_, ⟨rfl, ?_, ?_⟩, ?_, ?_, ?_, ?_⟩
  · show ("012210" : Str).cps.toList.length ≤ 100
    rw [hz]; decide
  · show ∀ c ∈ ("012210" : Str).cps.toList, c = 48 ∨ c = 49 ∨ c = 50
    rw [hz]; decide
  · show VT (nsN n) (esN n "012210")
    rw [es_012210]; exact vt_012210 d
  · show (ordL (nsN n) (esN n "012210")).Perm _
    rw [es_012210]
    refine List.Perm.of_eq ?_
    unfold ordL
    rw [allP9]
    simp [ordB, i1, i2, i3, i4, i5, i6]
  · show fitsB (⟨hN n, []⟩, esN n "012210") = _
    rw [es_012210]
    show (keepB (hN n) (L_012210 n) && decide (brokenL (L_012210 n) [] = [])) = _
    rw [keep4 d]
    simp [meetB, i1, i2, i3, i4, i5, i6, brokenL]
  · show decide (meetB (esN n "012210") n.a n.b = _) = false
    rw [es_012210]
    simp [meetB, i1, i2, i3, i4, i5, i6, ab, ac, bc, Ne.symm ab, Ne.symm ac, Ne.symm bc]
  · show (revX "012210").cps.toList.length ≤ 100
    rw [rv, hy]; decide
  · show ∀ c ∈ (revX "012210").cps.toList, c = 48 ∨ c = 49 ∨ c = 50
    rw [rv, hy]; decide
  · show (revX "012210").length ≤ 100
    rw [rv]; decide +kernel
  · show turnE (esN n "012210") = esN n (revX "012210")
    rw [rv, es_012210]
    simp [turnE, t1, t2]
  · simp
  · simp [nsN]

theorem row_010212 {n : Nm} (d : D3 n) : RowOk n ("010212", [(n.a, n.c)], true) := by
  obtain ⟨i1, i2, i3, i4, i5, i6⟩ := ix_010212 d
  have ab := d.ab
  have ac := d.ac
  have bc := d.bc
  have rv : revX "010212" = "212010" := by decide +kernel
  have hz : ("010212" : Str).cps.toList = [48, 49, 48, 50, 49, 50] := by decide +kernel
  have hy : ("212010" : Str).cps.toList = [50, 49, 50, 48, 49, 48] := by decide +kernel
  have t1 : turnW "in" = "out" := by decide +kernel
  have t2 : turnW "out" = "in" := by decide +kernel
  refine ⟨⟨rfl, ?_, ?_⟩, ?_, ?_, ?_, ?_, ⟨rfl, ?_, ?_⟩, ?_, ?_, ?_, ?_⟩
  · show ("010212" : Str).cps.toList.length ≤ 100
    rw [hz]; decide
  · show ∀ c ∈ ("010212" : Str).cps.toList, c = 48 ∨ c = 49 ∨ c = 50
    rw [hz]; decide
  · show VT (nsN n) (esN n "010212")
    rw [es_010212]; exact vt_010212 d
  · show (ordL (nsN n) (esN n "010212")).Perm _
    rw [es_010212]
    refine List.Perm.of_eq ?_
    unfold ordL
    rw [allP9]
    simp [ordB, i1, i2, i3, i4, i5, i6]
  · show fitsB (⟨hN n, []⟩, esN n "010212") = _
    rw [es_010212]
    show (keepB (hN n) (L_010212 n) && decide (brokenL (L_010212 n) [] = [])) = _
    rw [keep4 d]
    simp [meetB, i1, i2, i3, i4, i5, i6, brokenL]
  · show decide (meetB (esN n "010212") n.a n.b = _) = false
    rw [es_010212]
    simp [meetB, i1, i2, i3, i4, i5, i6, ab, ac, bc, Ne.symm ab, Ne.symm ac, Ne.symm bc]
  · show (revX "010212").cps.toList.length ≤ 100
    rw [rv, hy]; decide
  · show ∀ c ∈ (revX "010212").cps.toList, c = 48 ∨ c = 49 ∨ c = 50
    rw [rv, hy]; decide
  · show (revX "010212").length ≤ 100
    rw [rv]; decide +kernel
  · show turnE (esN n "010212") = esN n (revX "010212")
    rw [rv, es_010212, es_212010]
    simp [turnE, t1, t2]
  · simp
  · simp [nsN]

theorem row_221001 {n : Nm} (d : D3 n) : RowOk n ("221001", [(n.c, n.a), (n.c, n.b)], true) := by
  obtain ⟨i1, i2, i3, i4, i5, i6⟩ := ix_221001 d
  have ab := d.ab
  have ac := d.ac
  have bc := d.bc
  have rv : revX "221001" = "100122" := by decide +kernel
  have hz : ("221001" : Str).cps.toList = [50, 50, 49, 48, 48, 49] := by decide +kernel
  have hy : ("100122" : Str).cps.toList = [49, 48, 48, 49, 50, 50] := by decide +kernel
  have t1 : turnW "in" = "out" := by decide +kernel
  have t2 : turnW "out" = "in" := by decide +kernel
  refine ⟨⟨rfl, ?_, ?_⟩, ?_, ?_, ?_, ?_, ⟨rfl, ?_, ?_⟩, ?_, ?_, ?_, ?_⟩
  · show ("221001" : Str).cps.toList.length ≤ 100
    rw [hz]; decide
  · show ∀ c ∈ ("221001" : Str).cps.toList, c = 48 ∨ c = 49 ∨ c = 50
    rw [hz]; decide
  · show VT (nsN n) (esN n "221001")
    rw [es_221001]; exact vt_221001 d
  · show (ordL (nsN n) (esN n "221001")).Perm _
    rw [es_221001]
    refine List.Perm.of_eq ?_
    unfold ordL
    rw [allP9]
    simp [ordB, i1, i2, i3, i4, i5, i6]
  · show fitsB (⟨hN n, []⟩, esN n "221001") = _
    rw [es_221001]
    show (keepB (hN n) (L_221001 n) && decide (brokenL (L_221001 n) [] = [])) = _
    rw [keep4 d]
    simp [meetB, i1, i2, i3, i4, i5, i6, brokenL]
  · show decide (meetB (esN n "221001") n.a n.b = _) = false
    rw [es_221001]
    simp [meetB, i1, i2, i3, i4, i5, i6, ab, ac, bc, Ne.symm ab, Ne.symm ac, Ne.symm bc]
  · show (revX "221001").cps.toList.length ≤ 100
    rw [rv, hy]; decide
  · show ∀ c ∈ (revX "221001").cps.toList, c = 48 ∨ c = 49 ∨ c = 50
    rw [rv, hy]; decide
  · show (revX "221001").length ≤ 100
    rw [rv]; decide +kernel
  · show turnE (esN n "221001") = esN n (revX "221001")
    rw [rv, es_221001, es_100122]
    simp [turnE, t1, t2]
  · simp
  · simp [nsN]

theorem row_011022 {n : Nm} (d : D3 n) : RowOk n ("011022", [(n.a, n.c), (n.b, n.c)], true) := by
  obtain ⟨i1, i2, i3, i4, i5, i6⟩ := ix_011022 d
  have ab := d.ab
  have ac := d.ac
  have bc := d.bc
  have rv : revX "011022" = "220110" := by decide +kernel
  have hz : ("011022" : Str).cps.toList = [48, 49, 49, 48, 50, 50] := by decide +kernel
  have hy : ("220110" : Str).cps.toList = [50, 50, 48, 49, 49, 48] := by decide +kernel
  have t1 : turnW "in" = "out" := by decide +kernel
  have t2 : turnW "out" = "in" := by decide +kernel
  refine ⟨⟨rfl, ?_, ?_⟩, ?_, ?_, ?_, ?_, ⟨rfl, ?_, ?_⟩, ?_, ?_, ?_, ?_⟩
  · show ("011022" : Str).cps.toList.length ≤ 100
    rw [hz]; decide
  · show ∀ c ∈ ("011022" : Str).cps.toList, c = 48 ∨ c = 49 ∨ c = 50
    rw [hz]; decide
  · show VT (nsN n) (esN n "011022")
    rw [es_011022]; exact vt_011022 d
  · show (ordL (nsN n) (esN n "011022")).Perm _
    rw [es_011022]
    refine List.Perm.of_eq ?_
    unfold ordL
    rw [allP9]
    simp [ordB, i1, i2, i3, i4, i5, i6]
  · show fitsB (⟨hN n, []⟩, esN n "011022") = _
    rw [es_011022]
    show (keepB (hN n) (L_011022 n) && decide (brokenL (L_011022 n) [] = [])) = _
    rw [keep4 d]
    simp [meetB, i1, i2, i3, i4, i5, i6, brokenL]
  · show decide (meetB (esN n "011022") n.a n.b = _) = false
    rw [es_011022]
    simp [meetB, i1, i2, i3, i4, i5, i6, ab, ac, bc, Ne.symm ab, Ne.symm ac, Ne.symm bc]
  · show (revX "011022").cps.toList.length ≤ 100
    rw [rv, hy]; decide
  · show ∀ c ∈ (revX "011022").cps.toList, c = 48 ∨ c = 49 ∨ c = 50
    rw [rv, hy]; decide
  · show (revX "011022").length ≤ 100
    rw [rv]; decide +kernel
  · show turnE (esN n "011022") = esN n (revX "011022")
    rw [rv, es_011022, es_220110]
    simp [turnE, t1, t2]
  · simp
  · simp [nsN]

theorem row_102012 {n : Nm} (d : D3 n) : RowOk n ("102012", [], false) := by
  obtain ⟨i1, i2, i3, i4, i5, i6⟩ := ix_102012 d
  have ab := d.ab
  have ac := d.ac
  have bc := d.bc
  have rv : revX "102012" = "210201" := by decide +kernel
  have hz : ("102012" : Str).cps.toList = [49, 48, 50, 48, 49, 50] := by decide +kernel
  have hy : ("210201" : Str).cps.toList = [50, 49, 48, 50, 48, 49] := by decide +kernel
  have t1 : turnW "in" = "out" := by decide +kernel
  have t2 : turnW "out" = "in" := by decide +kernel
  refine ⟨⟨rfl, ?_, ?_⟩, ?_, ?_, ?_, ?_, ⟨rfl, ?_, ?_⟩, ?_, ?_, ?_, ?_⟩
  · show ("102012" : Str).cps.toList.length ≤ 100
    rw [hz]; decide
  · show ∀ c ∈ ("102012" : Str).cps.toList, c = 48 ∨ c = 49 ∨ c = 50
    rw [hz]; decide
  · show VT (nsN n) (esN n "102012")
    rw [es_102012]; exact vt_102012 d
  · show (ordL (nsN n) (esN n "102012")).Perm _
    rw [es_102012]
    refine List.Perm.of_eq ?_
    unfold ordL
    rw [allP9]
    simp [ordB, i1, i2, i3, i4, i5, i6]
  · show fitsB (⟨hN n, []⟩, esN n "102012") = _
    rw [es_102012]
    show (keepB (hN n) (L_102012 n) && decide (brokenL (L_102012 n) [] = [])) = _
    rw [keep4 d]
    simp [meetB, i1, i2, i3, i4, i5, i6, brokenL]
  · show decide (meetB (esN n "102012") n.a n.b = _) = false
    rw [es_102012]
    simp [meetB, i1, i2, i3, i4, i5, i6, ab, ac, bc, Ne.symm ab, Ne.symm ac, Ne.symm bc]
  · show (revX "102012").cps.toList.length ≤ 100
    rw [rv, hy]; decide
  · show ∀ c ∈ (revX "102012").cps.toList, c = 48 ∨ c = 49 ∨ c = 50
    rw [rv, hy]; decide
  · show (revX "102012").length ≤ 100
    rw [rv]; decide +kernel
  · show turnE (esN n "102012") = esN n (revX "102012")
    rw [rv, es_102012, es_210201]
    simp [turnE, t1, t2]
  · simp
  · simp [nsN]

theorem rows_ok {n : Nm} (d : D3 n) : ∀ r ∈ rowsN n, RowOk n r := by
  intro r hr
  simp only [rowsN, rows1, rows2, rows3, List.cons_append, List.nil_append, List.mem_cons, List.not_mem_nil, or_false] at hr
  rcases hr with rfl | rfl | rfl | rfl | rfl | rfl | rfl
  · exact row_001122 d
  · exact row_010122 d
  · exact row_012210 d
  · exact row_010212 d
  · exact row_221001 d
  · exact row_011022 d
  · exact row_102012 d
theorem fn_of {n : Nm} (d : D3 n) : FN n := by
  obtain ⟨i1, i2, i3, i4, i5, i6⟩ := ix_010212 d
  obtain ⟨j1, j2, j3, j4, j5, j6⟩ := ix_212010 d
  obtain ⟨v1, v2, v3, v4, v5, v6⟩ := evB6 n
  have ab := d.ab
  have ac := d.ac
  have bc := d.bc
  have e0 : es0 n = L_010212 n := es_010212 n
  have R := row_010212 d
  have et : turnE (es0 n) = L_212010 n := by
    have rv : revX "010212" = "212010" := by decide +kernel
    have t : turnE (esN n "010212") = esN n (revX "010212") := R.t
    rw [rv, es_212010] at t
    exact t
  have k0 : keepB (hN n) (L_010212 n) = true := by
    rw [keep4 d]
    simp [meetB, i1, i2, i3, i4, i5, i6]
  have hs : ∀ s ∈ ssN n, okSay (nsN n) s ∧ holdB (L_010212 n) s = true := by
    intro s hs
    simp only [ssN, ss1, ss2, List.cons_append, List.nil_append, List.mem_cons, List.not_mem_nil, or_false] at hs
    rcases hs with rfl | rfl | rfl | rfl | rfl | rfl
    · exact ⟨⟨mem_a n, mem_b n, ab⟩, by simp [holdB, isMet, Say.a, Say.b, Say.meant, meetB, i1, i2, i3, i4, i5, i6]⟩
    · exact ⟨⟨mem_c n, mem_a n, Ne.symm ac⟩, by simp [holdB, isMet, Say.a, Say.b, Say.meant, meetB, i1, i2, i3, i4, i5, i6]⟩
    · exact ⟨⟨mem_c n, mem_b n, Ne.symm bc⟩, by simp [holdB, isMet, Say.a, Say.b, Say.meant, meetB, i1, i2, i3, i4, i5, i6]⟩
    · exact ⟨⟨v2, v5, ac⟩, by simp [holdB, isMet, Say.e, Say.f, i1, i2, i3, i4, i5, i6]⟩
    · exact ⟨⟨v1, v3, ab⟩, by simp [holdB, isMet, Say.e, Say.f, i1, i2, i3, i4, i5, i6]⟩
    · exact ⟨⟨v4, v6, bc⟩, by simp [holdB, isMet, Say.e, Say.f, i1, i2, i3, i4, i5, i6]⟩
  refine ⟨fun x hx => (d.ok x hx).2.2, ⟨textOk d, _, parse_eq d⟩, by rw [hall_eq d], by rw [hall_eq d]; exact strT_0 n, rows_ok d, ab, R.z, R.v, ?_, ?_, ?_, ?_, ?_, ?_, ?_, ?_, ?_, ?_, ?_⟩
  · intro x hx
    exact ⟨(R.v.io x hx).1, (R.v.io x hx).2.1⟩
  · rw [e0]; simp [thereL, nsN, i1, i2, i3, i4, i5, i6]
  · rw [e0]; simp [thereL, nsN, i1, i2, i3, i4, i5, i6]
  · rw [e0]; simp [thereL, nsN, i1, i2, i3, i4, i5, i6]
  · rw [e0]; simp [thereL, nsN, i1, i2, i3, i4, i5, i6]
  · rw [e0]; simp [thereL, nsN, i1, i2, i3, i4, i5, i6]
  · rw [e0]; simp [thereL, nsN, i1, i2, i3, i4, i5, i6]
  · rw [e0]; exact hs
  · rw [e0]
    show (keepB (hN n) (L_010212 n) && decide (brokenL (L_010212 n) (ssN n) = [])) = true
    rw [k0]
    have b : brokenL (L_010212 n) (ssN n) = [] := by
      unfold brokenL
      rw [List.map_eq_nil_iff, List.filter_eq_nil_iff]
      intro p hp
      have := (hs p.1 (mem_zip hp)).2
      simp [this]
    rw [b]
    rfl
  · rw [et]; exact vt_212010 d
  · rw [et]
    simp [brokenL, ssN, ss1, ss2, List.zipIdx_cons, holdB, isMet, Say.a, Say.b, Say.e, Say.f, Say.meant, meetB, j1, j2, j3, j4, j5, j6, List.filter_cons]
theorem fn_names (n : Nm) (rest : List Str) (h : List.Perm (nsN n ++ rest) pool14) : FN n := fn_of (d3_of h)
end K14

set_option Elab.async false
set_option linter.all false
set_option maxRecDepth 100000
set_option maxHeartbeats 4000000
namespace MX
open PySem PySem.Spec PySem.W PySem.Calls PyProof.Rows L2
/-- an empty table of code objects -/
abbrev tab0 : Obj := { cls := .none, data := .fields #[] }
/-- the end of a law that makes lambdas: cs, code objects and their tables; no repr runs around -/
theorem law_endT {P : Program} {w : World} {K : PySem.W.Frag} {mg mb : Str → Option Value} {k : Nat} {fa a : Addr} {cs : List (Addr × Addr)} {fd : FuncData} {x : Str} {sp : Sp} {s : Shared} {vs : List Value} {ns : List Int}
    (KX : K.In s.heap) (hm : s.heap.Ns mainGlobals mg) (hb : s.heap.Ns builtinsNs mb) (hbb : ∀ x : Str, x ≠ "__name__" → mb x = bootBuiltins x) (nolim : s.heap.NoLimit) (hg : s.gens = #[])
    (hT : ∀ p ∈ cs, s.heap.get? p.2 = some tab0) (nT : ∀ p ∈ cs, K.lookup p.2 = none) (hC : ∀ p ∈ cs, PySem.W.CodeHd s.heap p.1 p.2)
    (bmain : ∃ (m : Addr) (o : Obj), mg "__builtins__" = some (.ref m) ∧ m ≠ builtinsNs ∧ s.heap.get? m = some o ∧ o.cls = .type "module" ∧ o.dict = some builtinsNs ∧ o.data = .plain)
    (ha : s.heap.get? a = some { cls := .type "list", data := .seq vs.toArray }) (hi : IntsAre vs ns) (hl : ns.length ≤ sizeLine) (hr : RoomG k callerA)
    (F : ∀ bs : Heap, K.In bs → bs.Ns mainGlobals mg → (∀ p ∈ cs, LamX.TabB bs mg p.1 p.2) → FnG P w K mg bs CX0 k fa fd [x] sp) (bind : ∀ (s : Shared) (u : Value), BindsTo s fd ⟨[u], []⟩ [(x, u)])
    (hsp : ∀ H : Hp, (∀ p ∈ cs, H p.2 = some (.tbl #[])) → SqL K H a (ns.map V.int) → sp [.ref a] H (fun v _ => v = .bl true) fun _ _ _ => False) :
    codeAny (model P w) callerA (.call (.ref fa) ⟨[.ref a], []⟩) (fun r s' => r = .ok (.ret (.bool true)) ∧ OldK s.heap s'.heap ∧ s'.os = s.os ∧ AllBare s'.gens) s := by
  have hv := vals_ints hi
  have hvl := hi.length
  obtain ⟨ts, hts⟩ : ∃ ts, ts = cs.map (·.2) := ⟨_, rfl⟩
  have mem : ∀ p ∈ cs, p.2 ∈ ts := fun p hp => by rw [hts]; exact List.mem_map.mpr ⟨p, hp, rfl⟩
  have at_t : ∀ b ∈ ts, s.heap.get? b = some tab0 := fun b hb => by
    rw [hts] at hb
    obtain ⟨p, hp, rfl⟩ := List.mem_map.mp hb
    exact hT p hp
  have a_t : a ∉ ts := fun q => by
    have e := at_t a q
    rw [ha] at e
    have d := congrArg Obj.data (Option.some.inj e)
    cases d
  have main : ∀ H : Hp, (∀ b ∈ ts, H b = some (.tbl #[])) → (∀ b, H b = none ∨ b ∈ ts ∨ ∃ o xs, H b = some (.frz o (.lst xs))) → SqL K H a (ns.map V.int) → HOk P w H s.heap → (∀ b, H b ≠ none → b = a ∨ b ∈ ts) → (H a ≠ none → K.lookup a = none) →
      codeAny (model P w) callerA (.call (.ref fa) ⟨[.ref a], []⟩) (fun r s' => r = .ok (.ret (.bool true)) ∧ OldK s.heap s'.heap ∧ s'.os = s.os ∧ AllBare s'.gens) s := by
    intro H hH only hS ok reach off
    have out_of : ∀ {b : Addr} {o : Obj}, s.heap.get? b = some o → (∀ us n, o.data ≠ .seq us n) → o.data ≠ .fields #[] → H b = none := by
      intro b o e n1 n2
      refine Decidable.byContradiction fun q => ?_
      cases reach b q with
      | inl eb =>
        rw [eb, ha] at e
        have eo := Option.some.inj e
        rw [← eo] at n1
        exact n1 _ _ rfl
      | inr hb =>
        rw [at_t b hb] at e
        have eo := Option.some.inj e
        rw [← eo] at n2
        exact n2 rfl
    have ns_of : ∀ {b : Addr} {m : Str → Option Value}, s.heap.Ns b m → (hidT s.heap H).Ns b m := by
      rintro b m ⟨o, es, ep, e, d, r⟩
      exact ⟨o, es, ep, hidT_get e (out_of e (fun _ _ q => by rw [d] at q; cases q) (fun q => by rw [d] at q; cases q)), d, r⟩
    have kin : K.In (hidT s.heap H) := by
      intro b o e
      refine hidT_get (KX b o e) (Decidable.byContradiction fun q => ?_)
      cases reach b q with
      | inl eb =>
        rw [eb] at q e
        rw [off q] at e
        cases e
      | inr hb =>
        rw [hts] at hb
        obtain ⟨p, hp, rfl⟩ := List.mem_map.mp hb
        rw [nT p hp] at e
        cases e
    obtain ⟨mc, l1, l2⟩ := nolim
    have md : Mod K mg (hidT s.heap H) := { kin := kin, glob := ns_of hm, blt := ⟨mb, ns_of hb, hbb⟩, nolimit := ⟨mc, ns_of l1, l2⟩ }
    have tabs : ∀ p ∈ cs, LamX.TabB (hidT s.heap H) mg p.1 p.2 := by
      intro p hp
      have tp := hT p hp
      constructor
      · obtain ⟨o, us, file, tf, fl, tg, inF, text, tt, e1, r1, r2, r3, r⟩ := hC p hp
        refine ⟨o, us, file, tf, fl, tg, inF, text, tt, hidT_get e1 (out_of e1 (fun _ _ q => by rw [r2] at q; cases q) (fun q => ?_)), r1, r2, r3, r⟩
        rw [r2] at q
        cases q
        simp at r3
      · obtain ⟨m, o, b1, b2, b3, b4, b5, b6⟩ := bmain
        refine ⟨m, o, b1, b2, fun q => ?_, fun q => ?_, hidT_get b3 (out_of b3 (fun _ _ q => by rw [b6] at q; cases q) (fun q => by rw [b6] at q; cases q)), b4, b5, b6⟩
        · obtain ⟨o2, es, ep, e, d, _⟩ := hm
          rw [q, e] at b3
          cases b3
          rw [d] at b6
          cases b6
        · rw [q, tp] at b3
          cases b3
          cases b6
      · intro q
        obtain ⟨o2, es, ep, e, d, _⟩ := hm
        rw [q, tp] at e
        cases e
        cases d
    have z : Env0 P w K mg (hidT s.heap H) callerA [] s H := {
      frames := rfl, mod := md, bs := fun b o e => of_hidT e, bsz := Nat.le_of_eq (hidT_size s.heap H), funs := trivial
      frf := (fun b q => absurd (show b ∈ ([] : List Addr) from q) List.not_mem_nil), hok := ok, bare := .of_eq hg }
    refine codeAny_mono ((F _ kin (ns_of hm) tabs).run callerA [] s H ⟨[.ref a], []⟩ [.ref a] [.ref a] _ _ hr z (bind s (.ref a)) (.cons rfl .nil) (hsp H (fun p hp => hH _ (mem p hp)) hS)) ?_
    rintro (er | fl) s' q
    · exact q.elim
    cases fl with
    | next => exact q.elim
    | brk => exact q.elim
    | cont => exact q.elim
    | ret u =>
      obtain ⟨v, H', os, bare, un, ok', rv, ev⟩ := q
      have ev' : v = .bl true := ev
      subst ev'
      cases (show u = Value.bool true from rv)
      have old : ∀ b o, b ∉ ts → s.heap.get? b = some o → s'.heap.get? b = some o := by
        intro b o nb e
        cases hb0 : H b with
        | none => exact un.keep b o e hb0 (fun q => absurd (show b ∈ ([] : List Addr) from q) List.not_mem_nil) (fun q => absurd q List.not_mem_nil)
        | some u =>
          rcases only b with n | n | ⟨ob, xs, n⟩
          · rw [n] at hb0; cases hb0
          · exact absurd n nb
          · obtain ⟨c1, _⟩ := ok b _ n
            obtain ⟨c2, _⟩ := ok' b _ (un.frzs b ob _ n)
            rw [c1] at e
            rw [← Option.some.inj e]
            exact c2
      have more : ∀ b ∈ ts, ∃ ms : Array Value, s'.heap.get? b = some { cls := .none, data := .fields ms } := by
        intro b hb
        obtain ⟨ms, q⟩ := un.tbls b #[] (hH b hb)
        exact ⟨_, ok' b _ q⟩
      refine ⟨rfl, ⟨fun b o e => ?_, fun b o e => ?_⟩, os, bare⟩ <;> by_cases nb : b ∈ ts
      · obtain ⟨ms, e'⟩ := more b nb
        rw [at_t b nb] at e
        cases e
        have nb' := nb
        rw [hts] at nb'
        obtain ⟨p, hp, rfl⟩ := List.mem_map.mp nb'
        exact .inr (.inl ⟨((hC p hp).tab (hT p hp)).isCodeTable, rfl, #[], ms, rfl, by rw [Array.empty_append]; exact e'⟩)
      · exact .inl (old b o nb e)
      · obtain ⟨ms, e'⟩ := more b nb
        exact ⟨_, e'⟩
      · exact ⟨o, old b o nb e⟩
  let H1 : Hp := fun b => if b ∈ ts then some (.tbl #[]) else none
  have in1 : ∀ b ∈ ts, H1 b = some (.tbl #[]) := fun b h => if_pos h
  have out1 : ∀ b, b ∉ ts → H1 b = none := fun b h => if_neg h
  cases hk : K.lookup a with
  | some o =>
    have e := KX a o hk
    rw [ha] at e
    cases e
    refine main H1 in1 (fun b => ?_) (Or.inr ⟨_, vs.toArray, _, hk, rfl, rfl, rfl, ?_, by simpa using hv⟩) (fun b u q => ?_) (fun b q => Or.inr (Decidable.byContradiction fun h => q (out1 b h))) (fun q => (q (out1 a a_t)).elim)
    · by_cases h : b ∈ ts
      · exact Or.inr (Or.inl h)
      · exact Or.inl (out1 b h)
    · rw [List.size_toArray, hvl]
      exact hl
    · by_cases h : b ∈ ts
      · rw [in1 b h] at q
        cases q
        exact at_t b h
      · rw [out1 b h] at q
        cases q
  | none =>
    let H0 : Hp := fun b => if b = a then some (.frz { cls := .type "list", data := .seq vs.toArray } (.lst (ns.map V.int))) else H1 b
    have at_a : H0 a = some (.frz { cls := .type "list", data := .seq vs.toArray } (.lst (ns.map V.int))) := if_pos rfl
    have off_a : ∀ b, b ≠ a → H0 b = H1 b := fun b h => if_neg h
    have ne_t : ∀ b ∈ ts, b ≠ a := fun b h q => a_t (q ▸ h)
    refine main H0 (fun b h => by rw [off_a b (ne_t b h)]; exact in1 b h) (fun b => ?_) (.inl (.inr ⟨_, at_a⟩)) (fun b u q => ?_) (fun b q => ?_) (fun _ => hk)
    · by_cases h : b = a
      · rw [h]
        exact Or.inr (Or.inr ⟨_, _, at_a⟩)
      · by_cases h2 : b ∈ ts
        · exact Or.inr (Or.inl h2)
        · exact Or.inl ((off_a b h).trans (out1 b h2))
    · by_cases h : b = a
      · rw [h] at q ⊢
        rw [at_a] at q
        cases q
        exact ⟨ha, (by rw [List.length_map]; exact hl), vs, _, hv, ha⟩
      · rw [off_a b h] at q
        by_cases h2 : b ∈ ts
        · rw [in1 b h2] at q
          cases q
          exact at_t b h2
        · rw [out1 b h2] at q
          cases q
    · by_cases h : b = a
      · exact Or.inl h
      · exact Or.inr (Decidable.byContradiction fun h2 => q ((off_a b h).trans (out1 b h2)))
theorem walk_gT {l : PySem.W.OpenLaw} {n k : Nat} {q : Program} {loose : List Str} {XP : (Str → Option Value) → Heap → Prop} {YP : World → Heap → Prop} {d : DefRec} {x : Str}
    (hn : l.most = some n) (hn2 : n ≤ sizeLine) (hdf : d.params.defaults = []) (hr : RoomG k callerA)
    (F : ∀ (w : World) (mg : Str → Option Value) (fa : Addr) (h : Heap), YP w h → h.Ns mainGlobals mg → mg d.name = some (.ref fa) →
      ∃ (K : PySem.W.Frag) (fd : FuncData) (sp : Sp) (cs : List (Addr × Addr)), K.In h ∧ (∀ p ∈ cs, h.get? p.2 = some tab0) ∧ (∀ p ∈ cs, K.lookup p.2 = none) ∧ (∀ p ∈ cs, PySem.W.CodeHd h p.1 p.2) ∧ (∀ (s : Shared) (u : Value), BindsTo s fd ⟨[u], []⟩ [(x, u)]) ∧
        (∀ (H : Hp) (a : Addr) (ns : List Int), ns.length ≤ n → (∀ z ∈ ns, Builtin.Int.intBits z ≤ 1048576) → (∀ p ∈ cs, H p.2 = some (.tbl #[])) → SqL K H a (ns.map V.int) → sp [.ref a] H (fun v _ => v = .bl true) fun _ _ _ => False) ∧
        ∀ bs : Heap, K.In bs → bs.Ns mainGlobals mg → (∀ p ∈ cs, LamX.TabB bs mg p.1 p.2) → FnG l.prog w K mg bs CX0 k fa fd [x] sp) :
    PySem.W.WalkO q loose XP YP l.row.toRowW d [] (fun f vs => PySem.call f vs) := by
  refine Att.attach_callB hn hdf ?_
  intro w s₀ s mg mb fa o pm cd doc a vs ns G Y _ _ _ hmg hobj hints hlen hbits hg
  obtain ⟨K, fd, sp, cs, KX, hT, nT, hC, hb, hsp, hF⟩ := F w mg fa _ Y G.T.g hmg
  exact law_endT KX G.T.g G.T.b G.T.builtins G.T.nolimit hg hT nT hC G.T.bmain hobj hints (Nat.le_trans hlen hn2) hr hF hb (fun H hH hS => hsp H a ns hlen hbits hH hS)
end MX

set_option Elab.async false
set_option linter.all false
set_option maxRecDepth 100000
set_option maxHeartbeats 4000000
namespace K14
open PySem PySem.Spec PySem.W PySem.Calls PyProof.Rows L2 MX
section
variable {P : Program} {w : World} {K : PySem.W.Frag} {h : Heap} {mg : Str → Option Value} {f : Addr}
abbrev Says (w : World) (h : Heap) (K : PySem.W.Frag) : Prop := He.SaysX fa fn ts tf fx w h K
theorem fact_of (c : Says w h K) {x : He.Fa} (hf : x ∈ fa) : x.ok K = true := He.SaysD.facts c.t.d hf
theorem glo_of (X : K.In h) (G : h.Ns mainGlobals mg) (c : Says w h K) {x : Str} (hx : x ∈ glos) : mg x = some (.ref (He.ga K x)) :=
  He.glo_ok X G (fact_of c (List.mem_append_left _ (List.mem_append_left _ (List.mem_map_of_mem hx))))
theorem blt_of (X : K.In h) (G : h.Ns mainGlobals mg) (c : Says w h K) {x : Str} (hx : x ∈ blts) : mg x = none :=
  He.free_ok X G (fact_of c (List.mem_append_left _ (List.mem_append_right _ (List.mem_map_of_mem hx))))
theorem more_of (c : Says w h K) (i : Nat) {x : He.Fa} (hx : more[i]? = some x := by rfl) : x.ok K = true := fact_of c (List.mem_append_right _ (List.mem_of_getElem? hx))
theorem blts_of (X : K.In h) (G : h.Ns mainGlobals mg) (c : Says w h K) : Blt mg where
  len := blt_of X G c (by decide +kernel)
  set := blt_of X G c (by decide +kernel)
  all := blt_of X G c (by decide +kernel)
  tup := blt_of X G c (by decide +kernel)
  isi := blt_of X G c (by decide +kernel)
  enum := blt_of X G c (by decide +kernel)
  str := blt_of X G c (by decide +kernel)
  letters := He.str_ok X G (more_of c 0)
  mLetters := He.int_ok X G (more_of c 1)
  mPeople := He.int_ok X G (more_of c 2)
  mMet := He.int_ok X G (more_of c 3)
  mOpen := He.int_ok X G (more_of c 4)
theorem bltD_of (X : K.In h) (G : h.Ns mainGlobals mg) (c : Says w h K) : BltD mg where
  len := blt_of X G c (by decide +kernel)
  int := blt_of X G c (by decide +kernel)
  abs := blt_of X G c (by decide +kernel)
  range := blt_of X G c (by decide +kernel)
  max := blt_of X G c (by decide +kernel)
  min := blt_of X G c (by decide +kernel)
  list := blt_of X G c (by decide +kernel)
theorem hall_of (c : Says w h K) : HallC K (He.ga K "Hall") (He.ma K (He.ga K "Hall") "_tell") (He.ma K (He.ga K "Hall") "_takes") where
  cls := He.cls_ok (more_of c 6)
  nText := He.noat_ok (more_of c 7)
  nPeople := He.noat_ok (more_of c 8)
  nOpens := He.noat_ok (more_of c 9)
  nTold := He.noat_ok (more_of c 10)
  mTell := He.meth_ok (more_of c 11)
  mTakes := He.meth_ok (more_of c 12)
theorem halls_of (X : K.In h) (G : h.Ns mainGlobals mg) (c : Says w h K) : ∃ (fdE fdT fdK fdN fdU fdA fdP fdM fdO : FuncData),
    HallF K mg (He.ga K "Hall") (He.ga K "BadHall") (fE K) (He.ma K (He.ga K "Hall") "_tell") (He.ma K (He.ga K "Hall") "_takes") (He.ga K "is_name") (He.ga K "are_unlike") (He.ga K "are_among") (He.ga K "is_people_line") (He.ga K "is_met_line") (He.ga K "is_open_line") fdE fdT fdK fdN fdU fdA fdP fdM fdO := by
  obtain ⟨fdE, FE⟩ := c.t.d.def_ 0
  obtain ⟨fdN, FN⟩ := c.t.d.def_ 1
  obtain ⟨fdU, FU⟩ := c.t.d.def_ 2
  obtain ⟨fdA, FA⟩ := c.t.d.def_ 3
  obtain ⟨fdP, FP⟩ := c.t.d.def_ 4
  obtain ⟨fdM, FM⟩ := c.t.d.def_ 5
  obtain ⟨fdO, FO⟩ := c.t.d.def_ 6
  obtain ⟨fdK, FK⟩ := c.t.d.def_ 8
  obtain ⟨fdT, FT⟩ := c.t.d.def_ 9
  exact ⟨fdE, fdT, fdK, fdN, fdU, fdA, fdP, fdM, fdO, blts_of X G c, hall_of c, FE, FT, FK, FN, FU, FA, FP, FM, FO, glo_of X G c (by decide +kernel), glo_of X G c (by decide +kernel), glo_of X G c (by decide +kernel), glo_of X G c (by decide +kernel),
    glo_of X G c (by decide +kernel), glo_of X G c (by decide +kernel), glo_of X G c (by decide +kernel), excB_ok (He.ba c.more).1⟩
theorem typ_of {C f : Addr} {m : Str} (z : Meth K C m f) : PySem.W.typeIn K (.ref f) = some (.type "function") := eq_of_beq z.fn
abbrev cH (K : PySem.W.Frag) : Addr := He.ga K "Hall"
abbrev cB (K : PySem.W.Frag) : Addr := He.ga K "Book"
theorem tl_of (X : K.In h) (G : h.Ns mainGlobals mg) (c : Says w h K) : ∃ fdL fdI, TlF K mg (cH K) (He.ma K (cH K) "__len__") (He.ma K (cH K) "__contains__") fdL fdI := by
  obtain ⟨fdL, FL⟩ := c.t.d.def_ 12
  obtain ⟨fdI, FI⟩ := c.t.d.def_ 13
  have mL : Meth K (cH K) "__len__" _ := He.meth_ok (more_of c 15)
  have mI : Meth K (cH K) "__contains__" _ := He.meth_ok (more_of c 16)
  exact ⟨fdL, fdI, (hall_of c).cls, (hall_of c).nPeople, mL.at_, typ_of mL, mI.at_, typ_of mI, FL, FI⟩
theorem tu_of (X : K.In h) (G : h.Ns mainGlobals mg) (c : Says w h K) : Tu w K mg (He.ga K "TURNED") := by
  obtain ⟨es, n, D⟩ := c.t.tab 0
  have hv := (He.ba (He.ba c.more).2).2
  obtain ⟨u1, e1, r1⟩ := He.valsB_ok hv (q := ("in", .str "out")) List.mem_cons_self
  obtain ⟨u2, e2, r2⟩ := He.valsB_ok hv (q := ("out", .str "in")) (List.mem_cons_of_mem _ List.mem_cons_self)
  exact ⟨glo_of X G c (by decide +kernel), ⟨es, n, u1, D.at_, D.lit, e1, r1⟩, ⟨es, n, u2, D.at_, D.lit, e2, r2⟩⟩
end
end K14

set_option Elab.async false
set_option linter.all false
set_option maxRecDepth 100000
set_option maxHeartbeats 4000000
namespace K14
open PySem PySem.Spec PySem.W PySem.Calls PyProof.Rows L2 MX
section
variable {P : Program} {w : World} {K : PySem.W.Frag} {h : Heap} {mg : Str → Option Value} {f : Addr}
theorem right_of (X : K.In h) (G : h.Ns mainGlobals mg) (c : Says w h K) (base : Heap) : ∃ fdR, FnP K "_law_right" sRightR (He.ga K "_law_right") fdR ∧ FnG P w K mg base CX0 8 (He.ga K "_law_right") fdR ["_law_pot_here"] spRightR := by
  obtain ⟨fdE, fdT, fdK, fdN, fdU, fdA, fdP, fdM, fdO, HF⟩ := halls_of X G c
  obtain ⟨fdL, fdI, Z⟩ := tl_of X G c
  have B := blts_of X G c
  have BD := bltD_of X G c
  have T := tu_of X G c
  have g : ∀ {x : Str}, x ∈ glos → mg x = some (.ref (He.ga K x)) := fun hx => glo_of X G c hx
  obtain ⟨fdIn, FIn⟩ := c.t.d.def_ 7
  obtain ⟨fdRq, FRq⟩ := c.t.d.def_ 10
  obtain ⟨fdTo, FTo⟩ := c.t.d.def_ 11
  obtain ⟨fdEv, FEv⟩ := c.t.d.def_ 14
  obtain ⟨fdPl, FPl⟩ := c.t.d.def_ 15
  obtain ⟨fdTl, FTl⟩ := c.t.d.def_ 16
  obtain ⟨fdQ, FQ⟩ := c.t.d.def_ 17
  obtain ⟨fdMe, FMe⟩ := c.t.d.def_ 18
  obtain ⟨fdMb, FMb⟩ := c.t.d.def_ 19
  obtain ⟨fdKp, FKp⟩ := c.t.d.def_ 20
  obtain ⟨fdTh, FTh⟩ := c.t.d.def_ 21
  obtain ⟨fdOr, FOr⟩ := c.t.d.def_ 22
  obtain ⟨fdTu, FTu⟩ := c.t.d.def_ 23
  obtain ⟨fdTp, FTp⟩ := c.t.d.def_ 24
  obtain ⟨fdSa, FSa⟩ := c.t.d.def_ 25
  obtain ⟨fdRS, FRS⟩ := c.t.d.def_ 26
  obtain ⟨fdHo, FHo⟩ := c.t.d.def_ 27
  obtain ⟨fdSo, FSo⟩ := c.t.d.def_ 28
  obtain ⟨fdAr, FAr⟩ := c.t.d.def_ 29
  obtain ⟨fdB, FB⟩ := c.t.d.def_ 30
  obtain ⟨fdF, FF⟩ := c.t.d.def_ 31
  obtain ⟨fdBr, FBr⟩ := c.t.d.def_ 32
  obtain ⟨fdTk, FTk⟩ := c.t.d.def_ 34
  obtain ⟨fdSm, FSm⟩ := c.t.d.def_ 35
  obtain ⟨fdNm, FNm⟩ := c.t.d.def_ 37
  obtain ⟨fdLb, FLb⟩ := c.t.d.def_ 38
  obtain ⟨fdR, FR⟩ := c.t.d.def_ 39
  have GIn : FnOk P w K mg base (L2.CX P w) 5 _ fdIn ["self", "text"] (spInit K (cH K) (He.ga K "BadHall")) := ok_hall FIn HF
  have bIn : L2.Binds K fdIn ["self", "text"] [] := FunD.bindsN FIn fun _ _ _ _ _ _ us hl => match us, hl with | [_, _], _ => rfl
  have GRq : FnOk P w K mg base CX0 2 _ fdRq ["hall", "one", "other"] (spP pTwo (aTwo K (cH K)) fun _ => oN) := ok_require FRq Z
  have GTo : FnOk P w K mg base CX0 3 _ fdTo ["self", "one", "other"] (spTold K (cH K)) := ok_toldM FTo (hall_of c).cls (hall_of c).nTold FRq (g (by decide +kernel)) GRq
  have GEv : FnOk P w K mg base CX0 2 _ fdEv ["hall", "value"] (spEvent K (cH K)) := ok_event FEv B Z
  have GPl : FnOk P w K mg base CX0 1 _ fdPl ["timeline"] spPlacesOf := ok_placesOf FPl B.enum
  have GTl : FnOk P w K mg base CX0 3 _ fdTl ["hall", "value"] (spIsTl K (cH K) (oB true)) := ok_isTl FTl B Z FEv (g (by decide +kernel)) FPl (g (by decide +kernel))
  have GQ : FnOk P w K mg base CX0 4 _ fdQ ["hall", "timeline"] (spIsTl K (cH K) oN) := ok_reqTl FQ FTl (g (by decide +kernel)) GTl
  have GMe : FnOk P w K mg base CX0 1 _ fdMe ["places", "one", "other"] spMeet := ok_meet FMe
  have TG : TlG P w K mg base (cH K) (He.ga K "require_two") (He.ga K "require_timeline") (He.ga K "places_of") (He.ga K "meet") (He.ga K "is_event") (He.ma K (cH K) "told") fdRq fdQ fdPl fdMe fdEv fdTo :=
    ⟨FRq, g (by decide +kernel), GRq, FQ, g (by decide +kernel), GQ, FPl, g (by decide +kernel), GPl, FMe, g (by decide +kernel), GMe, FEv, g (by decide +kernel), GEv, He.meth_ok (more_of c 14), FTo, GTo⟩
  have GKp : FnOk P w K mg base CX0 5 _ fdKp ["hall", "timeline"] (spP pKeep (fun j : HT2 => [hR K (cH K) j.1, tlR j.2]) fun j => oB (keepB j.1 j.2)) := ok_keeps FKp B Z TG
  have GTp : FnOk P w K mg base CX0 1 _ fdTp ["value", "length"] spTupOf := ok_tupOf FTp B
  have GSa : FnOk P w K mg base CX0 3 _ fdSa ["hall", "value"] (spP pSay (fun j => [hR K (cH K) j.1, syR j.2]) fun _ => oB true) := ok_saying FSa Z FTp (g (by decide +kernel)) GTp FEv (g (by decide +kernel)) GEv
  have GRS : FnOk P w K mg base CX0 4 _ fdRS ["hall", "saying"] (spP pSay (fun j => [hR K (cH K) j.1, syR j.2]) fun _ => oN) := ok_reqSay FRS FSa (g (by decide +kernel)) GSa
  have GHo : FnOk P w K mg base CX0 2 _ fdHo ["places", "saying"] spHolds := ok_holds FHo FMe (g (by decide +kernel)) GMe
  have GAr : FnOk P w K mg base CX0 4 _ fdAr ["hall", "value"] (spAre K (cH K)) := ok_are FAr B (He.int_ok X G (more_of c 5)) FSa (g (by decide +kernel)) GSa
  have ZB : BkF K (cH K) (cB K) := ⟨He.cls_ok (more_of c 17), He.noat_ok (more_of c 18), He.noat_ok (more_of c 19)⟩
  have GB : FnOk P w K mg base CX0 5 _ fdB nBk (spBook K (cH K) (cB K)) := ok_book FB ZB FAr (g (by decide +kernel)) GAr
  have GBr : FnOk P w K mg base CX0 5 _ fdBr ["self", "timeline"] (spP pBk (fun j : BT2 => [bR K (cH K) (cB K) j.1, tlR j.2]) fun j => oT ((brokenL j.2 j.1.ss).map oI)) := ok_broken FBr B ZB TG FHo (g (by decide +kernel)) GHo
  have mBr : Meth K (cB K) "broken" (He.ma K (cB K) "broken") := He.meth_ok (more_of c 22)
  obtain ⟨ds, hds, bB0⟩ := FunD.binds1 (ps := nBk) FB 2 0 (by intro z; cases z) rfl fun T kV doc pm an cdv ct us its hu hi => match us, its, hu, hi with | [_, _], [_], _, _ => ⟨_, rfl, rfl⟩
  obtain ⟨ds1, hds1, bB1⟩ := FunD.binds1 (ps := nBk) FB 3 1 (by intro z; cases z) rfl fun T kV doc pm an cdv ct us its hu hi => match us, its, hu, hi with | [_, _, _], [_], _, _ => ⟨_, rfl, rfl⟩
  obtain rfl : ds1 = [] := by cases hds1; rfl
  have RF : RiF P w K mg base (cH K) (cB K) (He.ga K "BadHall") (dB K) (He.ma K (cH K) "__init__") (He.ma K (cB K) "__init__") (He.ga K "_law_line_by") (He.ga K "order_of") (He.ga K "turned") (He.ga K "met_by") (He.ga K "there") (He.ga K "is_so") (He.ma K (cB K) "fits") (He.ma K (cB K) "broken") fdIn fdB fdLb fdOr fdTu fdMb fdTh fdSo fdF fdBr ds :=
    { mkH := He.mkr_ok (more_of c 13), gH := g (by decide +kernel), GI := GIn, bI := bIn, mkB := He.mkr_ok (more_of c 20), gB := g (by decide +kernel), GB := GB, bB0 := bB0, ds0 := hds, d0 := fun H => empty_ok (He.ba (He.ba c.more).2).1 H, bB1 := bB1, cB' := ZB.cls
      FL := FLb, gL := g (by decide +kernel), GL := ok_line FLb B.enum BD.int B.tup
      FO := FOr, gO := g (by decide +kernel), GO := ok_orderOf FOr B (blt_of X G c (by decide +kernel)) Z TG
      FT := FTu, gT := g (by decide +kernel), GT := ok_turned FTu B (blt_of X G c (by decide +kernel)) T TG
      FM := FMb, gM := g (by decide +kernel), GM := ok_metBy FMb TG
      FTh := FTh, gTh := g (by decide +kernel), GTh := ok_there FTh B Z TG
      FS := FSo, gS := g (by decide +kernel), GS := ok_isSo FSo TG FRS (g (by decide +kernel)) GRS FHo (g (by decide +kernel)) GHo
      FF := FF, mF := He.meth_ok (more_of c 21), GF := ok_fits FF ZB FKp (g (by decide +kernel)) GKp FBr mBr GBr
      FBr := FBr, mBr := mBr, GBr := GBr
      tup := B.tup, srt := blt_of X G c (by decide +kernel), rep := blt_of X G c (by decide +kernel), all := B.all }
  exact ⟨fdR, FR, ok_right FR RF FNm (g (by decide +kernel)) (ok_names FNm BD FTk (g (by decide +kernel)) FSm (g (by decide +kernel))) fn_names⟩
theorem facts (X : K.In h) (G : h.Ns mainGlobals mg) (hfa : mg ("law" : Str) = some (.ref f)) (c : Says w h K) :
    ∃ fd : FuncData, (∀ (s : Shared) (v : Value), BindsTo s fd ⟨[v], []⟩ [("_law_script", v)]) ∧ ∀ base : Heap, K.In base → base.Ns mainGlobals mg → FnG P w K mg base CX0 9 f fd ["_law_script"] (spLaw K) := by
  obtain ⟨fdP, FP⟩ := c.t.d.def_ 33
  obtain ⟨fdL, FL⟩ := c.t.d.def_ 36
  obtain ⟨fdW, FW⟩ := c.t.d.def_ 40
  have e := hfa.symm.trans (glo_of X G c (x := "law") (by decide +kernel))
  cases e
  have b := FunD.bindsA (ps := ["_law_script"]) FW fun _ _ _ _ _ _ us hl => match us, hl with | [_], _ => rfl
  refine ⟨fdW, fun s v => b s [v] rfl, fun base _ _ => ?_⟩
  obtain ⟨fdR, FR, GR⟩ := right_of (P := P) X G c base
  exact ok_law FW (blt_of X G c (by decide +kernel)) (bltD_of X G c) FP (glo_of X G c (by decide +kernel)) FL (glo_of X G c (by decide +kernel)) FR (glo_of X G c (by decide +kernel)) GR
end
end K14
open PySem PySem.W PySem.Calls PyProof.Rows
set_option maxRecDepth 100000 in
set_option maxHeartbeats 0 in
theorem PySem.Challenge.cw_metonce_k14_timelines_by_hand_holds : PySem.Challenge.rw_metonce_k14_timelines_by_hand.Holds := by
  w_on; o_law
  refine HandSHeadRun.head_any (r := OpenLaw.row PySem.Challenge.rw_metonce_k14_timelines_by_hand) (q := view (OpenLaw.row PySem.Challenge.rw_metonce_k14_timelines_by_hand).prog [56]) (H := K14.hk) (ob := K14.ob) (M := 16000) (loose := K14.loose) (d := HandSHeadRun.topDef (OpenLaw.row PySem.Challenge.rw_metonce_k14_timelines_by_hand).prog 56) (kwd := []) K14.ob_eq
    (by kernel_rfl) (fun s => by kernel_rfl) K14.run (by kernel_rfl) (by kernel_rfl) (by kernel_rfl) (by rfl) (by first | assumption | decide +kernel) (by decide +kernel) ⟨rfl, rfl, rfl, rfl, rfl, by decide +kernel⟩ ?hw ?hc
  case hw => w_witness2
  case hc =>
    refine MX.walk_g (l := PySem.Challenge.rw_metonce_k14_timelines_by_hand) (n := 63) (k := 9) (x := "_law_script") rfl (by decide) (by kernel_rfl) ⟨⟨rfl, by decide, by decide⟩, rfl⟩ ?F
    intro w mg fa h Y G hmg0
    obtain ⟨K, KX, c⟩ := Y
    have hmg : mg ("law" : PySem.Str) = some (.ref fa) := by
      have e : (HandSHeadRun.topDef (OpenLaw.row PySem.Challenge.rw_metonce_k14_timelines_by_hand).prog 56).name = ("law" : PySem.Str) := by kernel_rfl
      rw [← e]
      exact hmg0
    obtain ⟨fd, hb, hF⟩ := K14.facts (P := (PySem.Challenge.rw_metonce_k14_timelines_by_hand).prog) (w := w) KX G hmg c
    exact ⟨K, fd, K14.spLaw K, KX, hb, fun H a ns hl _ hS => ⟨a, ns, rfl, hS, hl, fun _ => rfl⟩, hF⟩
