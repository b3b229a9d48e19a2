import PyProof.Rows.All
import Wide.All
import OpenK.AllK
import Wide.FinOn
import KE.KStateDown
import KE.KExcIs
import HandS.ForMost
import HandS.Exc
import HandS.TryOnly
import HandS.ExcOwn
import HandS.ExcInit
import HandS.IsInst
import HandS.Wide
import HandS.Defaults
import HandS.Flow
import HandS.Conv
import HandS.Style
import HandS.EndBits
import HandS.Head0
import HandS.Head1
import HandS.Head2
import HandS.HeadEnd
import HandS.HeadHook1
import HandS.HeadHook2
import PyProof.ReprRoads
import HandS.Walk
import PySem.Challenge.RW_metonce_k00_errors_keep_their_values
set_option Elab.async false
set_option linter.all false
set_option maxRecDepth 100000
set_option maxHeartbeats 4000000
namespace MX
open PySem PySem.Spec PyProof.Rows L2
/-! the head's facts, with a check of one's own -/
def obsX (fa : List He.Fa) (fn : List He.DefD) (fx : PySem.W.Frag → Bool) (K : PySem.W.Frag) : He.AlD :=
  (((fa.all fun f => f.ok K) && fn.all fun d => d.ok K) && fx K, fn.map fun d => He.fnW K d.at_)
def SaysX (fa : List He.Fa) (fn : List He.DefD) (fx : PySem.W.Frag → Bool) (K : PySem.W.Frag) : Prop := obsX fa fn fx K = He.valD fn
def obsXG (n : Nat) (fa : List He.Fa) (fn : List He.DefD) (fx : PySem.W.Frag → Bool) (g : Addr → Option Obj) : He.AlD := obsX fa fn fx (He.frG g (He.asD g n))
def hookX (n : Nat) (fa : List He.Fa) (fn : List He.DefD) (fx : PySem.W.Frag → Bool) : PySem.W.Hook where
  α := He.AlD
  obs := fun s => obsXG n fa fn fx s.heap.get?
  val := fun _ => He.valD fn
  says := fun _ h => ∃ K : PySem.W.Frag, K.In h ∧ SaysX fa fn fx K
  of := fun _ _ e => ⟨_, He.frG_in, e⟩
  keeps := fun _ _ _ ⟨K, hK, c⟩ k => ⟨K, PySem.W.Frag.In.keeps hK k, c⟩
theorem obsXG_eq {n : Nat} {fa : List He.Fa} {fn : List He.DefD} {fx : PySem.W.Frag → Bool} {g : Addr → Option Obj} {s : Shared} (h : ∀ a, g a = s.heap.get? a) : obsXG n fa fn fx g = (hookX n fa fn fx).obs s := by
  have e : g = s.heap.get? := funext h
  rw [e] <;> rfl
section
variable {fa : List He.Fa} {fn : List He.DefD} {fx : PySem.W.Frag → Bool} {K : PySem.W.Frag}
theorem SaysX.d (c : SaysX fa fn fx K) : He.SaysD fa fn K := by
  have c1 : (((fa.all fun f => f.ok K) && fn.all fun d => d.ok K) && fx K) = true := congrArg (fun z : He.AlD => z.1) c
  have c2 : fn.map (fun d => He.fnW K d.at_) = fn.map He.DefD.val := congrArg (fun z : He.AlD => z.2) c
  show (_, _) = (_, _)
  rw [(He.ba c1).1, c2]
theorem SaysX.x (c : SaysX fa fn fx K) : fx K = true := by
  have c1 : (((fa.all fun f => f.ok K) && fn.all fun d => d.ok K) && fx K) = true := congrArg (fun z : He.AlD => z.1) c
  exact (He.ba c1).2
end
/-! exception classes over ValueError that share one __init__ -/
/-- the class x of the module: what is wanted of K -/
def excB (K : PySem.W.Frag) (C fI : Addr) : Bool :=
  (match K.lookup C with
   | some ⟨.type "type", _, .cls cd, sl⟩ => (match cd.mro, sl.toList with
     | .ref C' :: bm, [_, _, _, _, some (.builtin n), _] => C' == C && n == "ValueError.__new__" && !cd.hasDel && cd.hasDict && PySem.HandSPX.refsVE bm
     | _, _ => false)
   | _ => false)
  && (He.eqO (PySem.W.findIn K (.ref C) "__setattr__") (some (some (.builtin "object.__setattr__")))
  && (decide (PySem.W.subIn K (.ref C) (.type "BaseException") = some true)
  && (decide (PySem.W.typeIn K (.ref C) = some (.type "type"))
  && (PySem.W.keepIn K (.ref C)
  && (He.eqO (PySem.W.findIn K (.ref C) "__getattribute__") (some (some (.builtin "BaseException.__getattribute__")))
  && (He.eqO (PySem.W.findIn K (.ref C) "__getattr__") (some none)
  && (He.eqO (PySem.W.findIn K (.ref C) "__class__") (some (some (.builtin "object.__class__")))
  && (He.eqO (PySem.W.specialIn K (.builtin "object.__class__") "__get__") (some (some (.builtin "getset_descriptor.__get__")))
  && (decide (PySem.W.takesIn K (.builtin "object.__class__") = some true)
  && (decide (PySem.W.mroIn K C (.type "object") = some true)
  && (He.eqO (PySem.W.findIn K (.ref C) "value") (some none)
  && (He.eqO (PySem.W.findIn K (.ref C) "__init__") (some (some (.ref fI)))
  && decide (PySem.W.typeIn K (.ref fI) = some (.type "function"))))))))))))))
structure ExcT (K : PySem.W.Frag) (C fI : Addr) : Prop where
  oex : OexC K C
  ga : PySem.W.findIn K (.ref C) "__getattribute__" = some (some (.builtin "BaseException.__getattribute__"))
  gg : PySem.W.findIn K (.ref C) "__getattr__" = some none
  hd : PySem.W.hasDictIn K C = true
  cl : (PySem.W.clsIn K C).isSome = true
  ha : PySem.W.findIn K (.ref C) "__class__" = some (some (.builtin "object.__class__"))
  hn : PySem.W.specialIn K (.builtin "object.__class__") "__get__" = some (some (.builtin "getset_descriptor.__get__"))
  ht : PySem.W.takesIn K (.builtin "object.__class__") = some true
  hm : PySem.W.mroIn K C (.type "object") = some true
  nv : PySem.W.findIn K (.ref C) "value" = some none
  ic : PySem.W.findIn K (.ref C) "__init__" = some (some (.ref fI))
  ti : PySem.W.typeIn K (.ref fI) = some (.type "function")
theorem excB_ok {K : PySem.W.Frag} {C fI : Addr} (h : excB K C fI = true) : ExcT K C fI := by
  obtain ⟨h1, h⟩ := He.ba h
  obtain ⟨h2, h⟩ := He.ba h
  obtain ⟨h3, h⟩ := He.ba h
  obtain ⟨h4, h⟩ := He.ba h
  obtain ⟨h5, h⟩ := He.ba h
  obtain ⟨h6, h⟩ := He.ba h
  obtain ⟨h7, h⟩ := He.ba h
  obtain ⟨h8, h⟩ := He.ba h
  obtain ⟨h9, h⟩ := He.ba h
  obtain ⟨h10, h⟩ := He.ba h
  obtain ⟨h11, h⟩ := He.ba h
  obtain ⟨h12, h⟩ := He.ba h
  obtain ⟨h13, h14⟩ := He.ba h
  split at h1
  · rename_i dd cd sl ho
    split at h1
    · rename_i C' bm k0 k1 k2 k3 n k5 hm hs
      simp only [Bool.and_eq_true, beq_iff_eq, Bool.not_eq_true'] at h1
      obtain ⟨⟨⟨⟨rfl, rfl⟩, hdel⟩, hdi⟩, ht⟩ := h1
      obtain ⟨nm, bs, mro, ns, qn, hd, sn, sub, ab, col, del⟩ := cd
      dsimp only at hm hdel hdi
      subst hm hdel hdi
      have hsl : sl = #[k0, k1, k2, k3, some (.builtin "ValueError.__new__"), k5] := by
        obtain ⟨l⟩ := sl
        simp only at hs
        rw [hs]
      subst hsl
      have hcl : PySem.W.clsIn K C' = some { name := nm, bases := bs, mro := .ref C' :: bm, ns := ns, qualname := qn, hasDict := true, slotNames := sn, subclasses := sub, abstract := ab, collection := col, hasDel := false } := by unfold PySem.W.clsIn; rw [ho] <;> rfl
      exact ⟨⟨⟨nm, qn, ns, bs, bm, sn, sub, ab, col, dd, k0, k1, k2, k3, k5, ho, ht⟩, He.eqO_ok h2, of_decide_eq_true h3, of_decide_eq_true h4, h5⟩,
        He.eqO_ok h6, He.eqO_ok h7, by unfold PySem.W.hasDictIn; rw [hcl] <;> rfl, by rw [hcl]; rfl, He.eqO_ok h8, He.eqO_ok h9, of_decide_eq_true h10, of_decide_eq_true h11, He.eqO_ok h12, He.eqO_ok h13, of_decide_eq_true h14⟩
    · cases h1
  · cases h1
end MX

set_option Elab.async false
set_option linter.all false
set_option maxRecDepth 100000
set_option maxHeartbeats 4000000
namespace MX
open PySem PySem.Spec PySem.W PySem.Calls PyProof.Rows L2
/-! ### calls where no repr runs around -/
structure RoomG (k : Nat) (A : Around) : Prop where
  r : Room k A
  g : A.guards = some []
theorem RoomG.mono {j k : Nat} {A : Around} (x : RoomG k A) (h : j ≤ k) : RoomG j A := ⟨x.r.mono h, x.g⟩
theorem RoomG.deeper {k : Nat} {A : Around} (x : RoomG (k + 1) A) (env : Env) : RoomG k (A.deeper env) := ⟨x.r.deeper env, x.g⟩
/-- a def's promise, where no repr runs around -/
structure FnG (P : Program) (w : World) (K : PySem.W.Frag) (mg : Str → Option Value) (base : Heap) (CX : CXT) (k : Nat) (f : Addr) (fd : FuncData) (ps : List Str) (sp : Sp) : Prop where
  len : ∀ vs H Q E, sp vs H Q E → vs.length = ps.length
  run : ∀ (A : Around) (out : List Env) (s : Shared) (H : Hp) (gs : Args) (us : List Value) (vs : List V) (Q : VK) (E : XK),
    RoomG k A → Env0 P w K mg base A out s H → BindsTo s fd gs (ps.zip us) → Vals vs us → sp vs H Q E →
    codeAny (model P w) A (.call (.ref f) gs) (CR CX out P w H s Q E) s
section
variable {P : Program} {w : World} {K : PySem.W.Frag} {mg : Str → Option Value} {base : Heap} {CX : CXT} {k : Nat} {f : Addr} {fd : FuncData} {ps : List Str} {sp : Sp}
theorem gOf (F : FnOk P w K mg base CX k f fd ps sp) : FnG P w K mg base CX k f fd ps sp :=
  ⟨F.len, fun A out s H gs us vs Q E h => F.run A out s H gs us vs Q E h.r⟩
/-- a def of the text, its body walked where no repr runs around -/
theorem okG {x qual : Str} {params : Arguments} {body : List Stmt} {scope : Scope} {dvs : List V} {kws : List (Str × V)} {N : List Str}
    (F : FunD K x qual params body scope dvs kws f fd) (S : FnScope N ps scope) (hl : ∀ vs H Q E, sp vs H Q E → vs.length = ps.length)
    (hb : ∀ (cdv : Value) (A : Around) (out : List Env) (s : Shared) (H : Hp) (vs : List V) (Q : VK) (E : XK),
      RoomG k (A.deeper (envOfC qual scope s.heap.objs.size f cdv)) → sp vs H Q E →
      ∃ t, PSs (cxOf CX P w K mg base N qual scope f cdv A out s H E) body t ∧ t { nx := fun _ H' => Q .non H', rt := Q } (start N vs) H) :
    FnG P w K mg base CX (k + 1) f fd ps sp := by
  obtain ⟨oc, od, dV, kV, doc, pm, an, cdv, ct, osl, rfl, lk, hcd, _, _⟩ := F.ex
  constructor
  · exact hl
  intro A out s H gs us vs Q E hr z hbi rv hs
  have hlen := hl vs H Q E hs
  have kIn : K.In s.heap := z.mod.kin.keeps (fun b o e => (z.bs b o e).1)
  have nolim : s.heap.NoLimit := z.mod.nolimit.keeps (fun b o e => (z.bs b o e).1)
  refine codeAny_call_function hr.r.depth (kIn _ _ lk) rfl S.co S.gen rfl (PySem.W.codeRec_of kIn hcd) (hbi _ _ _ _ ?_)
  have kinds : ∀ y, y ∈ ps.zip us → scope.names.lookup y.1 = some .local ∨ (scope.names.lookup y.1 = some .cell ∧ ((cellsFrom (s.heap.objs.size + 1) scope.names []).lookup y.1).isSome = true) := by
    intro y hy
    obtain ⟨n, v⟩ := y
    cases S.par n (List.of_mem_zip hy).1 with
    | inl q => exact Or.inl q
    | inr q => exact Or.inr ⟨q, PySem.W.cellsFrom_some _ _ _ (Or.inl q)⟩
  refine wpAny_newFunctionEnv_cells S.kind kinds (fun env he s1 x => ?_)
  cases he
  refine ⟨nolim.keeps x.toInCall.keep, codeAny_func ?_⟩
  obtain ⟨t, ht, hq⟩ := hb cdv A out s H vs Q E (hr.deeper _) hs
  have J : Inv (cxOf CX P w K mg base N qual scope f cdv A out s H E) [] (start N vs) H s1 := inv_start S hr.r.hd z hlen rv x
  refine wpAny_mono (ht.run [] s1 (start N vs) H _ J hq) ?_ (fun _ _ q => q)
  intro fl s' q
  cases fl with
  | next =>
    obtain ⟨σ', H', J', q'⟩ := q
    exact ⟨V.non, H', J'.os, J'.bare, J'.base, J'.hok, rfl, q'⟩
  | ret u =>
    obtain ⟨v, σ', H', J', rr, q'⟩ := q
    exact ⟨v, H', J'.os, J'.bare, J'.base, J'.hok, rr, q'⟩
  | cont =>
    obtain ⟨_, _, _, q'⟩ := q
    exact q'.elim
  | brk =>
    obtain ⟨_, _, _, q'⟩ := q
    exact q'.elim
end
section
variable {X : Cx} {CX : CXT} {k : Nat} {f : Addr} {fd : FuncData} {ps : List Str} {sp : Sp} {dvs : List V} {ds : List Value} {E : XK} {x : Str} {p pos : Pos} {e : Expr} {es : List Expr} {t : TA}
theorem run_g {pins : List (Addr × Obj)} {σ : L2.St} {H : Hp} {s : Shared} {Q : VK} {us : List Value} {vs : List V} (F : FnG X.prog X.w X.K X.mg X.base CX k f fd ps sp) (hr : RoomG k X.A) (hb : Binds X.K fd ps ds) (hd : Vals dvs ds)
    (hx : Passes CX X E) (I : Inv X pins σ H s) (rv : Vals vs us) (q : sp (vs ++ dvs) H Q E) : wpAny (model X.prog X.w) X.A (call (.ref f) us) (EP X pins σ Q) X.xe s := by
  have rr := Vals.append rv hd
  have hl : (us ++ ds).length = ps.length := (Vals.length rr).symm.trans (F.len _ _ _ _ q)
  refine wpAny_call (codeAny_mono (F.run X.A X.stack s H ⟨us, []⟩ _ _ Q E hr I.env0 (hb s us I.kIn hl) rr q) ?_)
  rintro (er | fl) s' hq
  · exact hx pins σ H s er s' I hq
  · cases fl with
    | ret u => exact I.after hq
    | cont => exact hq.elim
    | brk => exact hq.elim
    | next => exact hq.elim
/-- f(e, ..) of such a def -/
theorem pe_callG (F : FnG X.prog X.w X.K X.mg X.base CX k f fd ps sp) (hr : RoomG k X.A) (hg : Gl X x) (hm : X.mg x = some (.ref f)) (hk : PySem.W.keepIn X.K (.ref f) = true) (hb : Binds X.K fd ps ds) (hd : Vals dvs ds)
    (hx : Passes CX X E) (ha : PA X (e :: es) t) (hdb : (x == ("__debug__" : Str)) = false := by decide)
    (he : starEach (e :: es) X.env = (false, eval e X.env) :: starEach es X.env := by rfl) (hpl : (backTo pos (starEach es X.env)).any (·.1) = false := by rfl) :
    PE X (.Call (.Name x p) (e :: es) [] pos) (tCall sp dvs E t) := by
  constructor
  intro pins s σ H Q I h
  refine wpAny_Call_Name_kw (ld_glob I hg hm ?_ hdb)
  refine PySem.W.callWith_K (h₀ := X.base) I.ok.mod.kin hk ?_ he hpl
  refine thn (ha.run pos pins s σ H _ I h) ?_
  rintro us s1 ⟨vs, H1, J, rv, q⟩
  exact ⟨J.kIn, run_g F hr hb hd hx J rv q⟩
end
/-! ### the law's end -/
theorem law_end {P : Program} {w : World} {K : PySem.W.Frag} {mg mb : Str → Option Value} {k : Nat} {fa a : Addr} {fd : FuncData} {x : Str} {sp : Sp} {s : Shared} {vs : List Value} {ns : List Int}
    (KX : K.In s.heap) (hm : s.heap.Ns mainGlobals mg) (hb : s.heap.Ns builtinsNs mb) (hbb : ∀ x : Str, x ≠ "__name__" → mb x = bootBuiltins x) (nolim : s.heap.NoLimit) (hg : s.gens = #[])
    (ha : s.heap.get? a = some { cls := .type "list", data := .seq vs.toArray }) (hi : IntsAre vs ns) (hl : ns.length ≤ sizeLine) (hr : RoomG k callerA)
    (F : ∀ bs : Heap, K.In bs → bs.Ns mainGlobals mg → FnG P w K mg bs CX0 k fa fd [x] sp) (bind : ∀ (s : Shared) (u : Value), BindsTo s fd ⟨[u], []⟩ [(x, u)])
    (hsp : ∀ H : Hp, Only H → SqL K H a (ns.map V.int) → sp [.ref a] H (fun v _ => v = .bl true) fun _ _ _ => False) :
    codeAny (model P w) callerA (.call (.ref fa) ⟨[.ref a], []⟩) (fun r s' => r = .ok (.ret (.bool true)) ∧ OldK s.heap s'.heap ∧ s'.os = s.os ∧ AllBare s'.gens) s := by
  have hv := vals_ints hi
  have hvl := hi.length
  have main : ∀ H : Hp, Only H → SqL K H a (ns.map V.int) → HOk P w H s.heap → (∀ b, H b ≠ none → b = a) → (H a ≠ none → K.lookup a = none) →
      codeAny (model P w) callerA (.call (.ref fa) ⟨[.ref a], []⟩) (fun r s' => r = .ok (.ret (.bool true)) ∧ OldK s.heap s'.heap ∧ s'.os = s.os ∧ AllBare s'.gens) s := by
    intro H only hS ok only_a off
    have free_of : ∀ {b : Addr} {o : Obj} {es : Array DictEntry} {ep : Nat}, s.heap.get? b = some o → o.data = .dict es ep → H b = none := by
      intro b o es ep e d
      refine Decidable.byContradiction fun q => ?_
      have eb := only_a b q
      rw [eb, ha] at e
      have eo := Option.some.inj e
      rw [← eo] at d
      cases d
    have ns_of : ∀ {b : Addr} {m : Str → Option Value}, s.heap.Ns b m → (hidT s.heap H).Ns b m := by
      rintro b m ⟨o, es, ep, e, d, r⟩
      exact ⟨o, es, ep, hidT_get e (free_of e d), d, r⟩
    have kin : K.In (hidT s.heap H) := by
      intro b o e
      refine hidT_get (KX b o e) (Decidable.byContradiction fun q => ?_)
      have eb := only_a b q
      rw [eb] at q e
      rw [off q] at e
      cases e
    obtain ⟨mc, l1, l2⟩ := nolim
    have md : Mod K mg (hidT s.heap H) := { kin := kin, glob := ns_of hm, blt := ⟨mb, ns_of hb, hbb⟩, nolimit := ⟨mc, ns_of l1, l2⟩ }
    have z : Env0 P w K mg (hidT s.heap H) callerA [] s H := {
      frames := rfl, mod := md, bs := fun b o e => of_hidT e, bsz := Nat.le_of_eq (hidT_size s.heap H), funs := trivial
      frf := (fun b q => absurd (show b ∈ ([] : List Addr) from q) List.not_mem_nil), hok := ok, bare := .of_eq hg }
    refine codeAny_mono ((F _ kin (ns_of hm)).run callerA [] s H ⟨[.ref a], []⟩ [.ref a] [.ref a] _ _ hr z (bind s (.ref a)) (.cons rfl .nil) (hsp H only hS)) ?_
    rintro (er | fl) s' q
    · exact q.elim
    cases fl with
    | next => exact q.elim
    | brk => exact q.elim
    | cont => exact q.elim
    | ret u =>
      obtain ⟨v, H', os, bare, un, ok', rv, ev⟩ := q
      have ev' : v = .bl true := ev
      subst ev'
      cases (show u = Value.bool true from rv)
      refine ⟨rfl, OldK.of_keep (fun b o e => ?_), os, bare⟩
      cases hb0 : H b with
      | none => exact un.keep b o e hb0 (fun q => absurd (show b ∈ ([] : List Addr) from q) List.not_mem_nil) (fun q => absurd q List.not_mem_nil)
      | some u =>
        cases only b with
        | inl n =>
          rw [n] at hb0
          cases hb0
        | inr n =>
          obtain ⟨ob, xs, n⟩ := n
          obtain ⟨c1, _⟩ := ok b _ n
          obtain ⟨c2, _⟩ := ok' b _ (un.frzs b ob _ n)
          rw [c1] at e
          rw [← Option.some.inj e]
          exact c2
  cases hk : K.lookup a with
  | none =>
    let H0 : Hp := fun b => if b = a then some (.frz { cls := .type "list", data := .seq vs.toArray } (.lst (ns.map V.int))) else none
    have at_a : H0 a = some (.frz { cls := .type "list", data := .seq vs.toArray } (.lst (ns.map V.int))) := if_pos rfl
    have off_a : ∀ b, b ≠ a → H0 b = none := fun b h => if_neg h
    refine main H0 (fun b => ?_) (.inl (.inr ⟨_, at_a⟩)) (fun b u q => ?_) (fun b q => ?_) (fun _ => hk)
    · by_cases h : b = a
      · rw [h]
        exact Or.inr ⟨_, _, at_a⟩
      · exact Or.inl (off_a b h)
    · by_cases h : b = a
      · rw [h] at q ⊢
        rw [at_a] at q
        cases q
        exact ⟨ha, (by rw [List.length_map]; exact hl), vs, _, hv, ha⟩
      · rw [off_a b h] at q
        cases q
    · exact Decidable.byContradiction fun h => q (off_a b h)
  | some o =>
    have e := KX a o hk
    rw [ha] at e
    cases e
    refine main (fun _ => none) (fun _ => Or.inl rfl) (Or.inr ⟨_, vs.toArray, _, hk, rfl, rfl, rfl, ?_, by simpa using hv⟩) (fun b u q => ?_) (fun b q => (q rfl).elim) (fun q => (q rfl).elim)
    · rw [List.size_toArray, hvl]
      exact hl
    · cases (show (none : Option HO) = some u from q)
theorem walk_g {l : PySem.W.OpenLaw} {n k : Nat} {q : Program} {loose : List Str} {XP : (Str → Option Value) → Heap → Prop} {YP : World → Heap → Prop} {d : DefRec} {x : Str}
    (hn : l.most = some n) (hn2 : n ≤ sizeLine) (hdf : d.params.defaults = []) (hr : RoomG k callerA)
    (F : ∀ (w : World) (mg : Str → Option Value) (fa : Addr) (h : Heap), YP w h → h.Ns mainGlobals mg → mg d.name = some (.ref fa) →
      ∃ (K : PySem.W.Frag) (fd : FuncData) (sp : Sp), K.In h ∧ (∀ (s : Shared) (u : Value), BindsTo s fd ⟨[u], []⟩ [(x, u)]) ∧
        (∀ (H : Hp) (a : Addr) (ns : List Int), ns.length ≤ n → (∀ z ∈ ns, Builtin.Int.intBits z ≤ 1048576) → SqL K H a (ns.map V.int) → sp [.ref a] H (fun v _ => v = .bl true) fun _ _ _ => False) ∧
        ∀ bs : Heap, K.In bs → bs.Ns mainGlobals mg → FnG l.prog w K mg bs CX0 k fa fd [x] sp) :
    PySem.W.WalkO q loose XP YP l.row.toRowW d [] (fun f vs => PySem.call f vs) := by
  refine Att.attach_callB hn hdf ?_
  intro w s₀ s mg mb fa o pm cd doc a vs ns G Y _ _ _ hmg hobj hints hlen hbits hg
  obtain ⟨K, fd, sp, KX, hb, hsp, hF⟩ := F w mg fa _ Y G.T.g hmg
  exact law_end KX G.T.g G.T.b G.T.builtins G.T.nolimit hg hobj hints (Nat.le_trans hlen hn2) hr hF hb (fun H _ hS => hsp H a ns hlen hbits hS)
end MX

set_option Elab.async false
set_option linter.all false
set_option maxRecDepth 100000
set_option maxHeartbeats 4000000
namespace MX
open PySem PySem.Spec PySem.W PySem.Calls PyProof.Rows L2
/-! ### data, dicts too, as the abstract heap holds them -/
def kD : Key → PyData
  | .inl i => .int i
  | .inr x => .str x
inductive Dq (H : Hp) : V → PyData → Prop
  | non : Dq H .non .none
  | bl (b : Bool) : Dq H (.bl b) (.bool b)
  | int (i : Int) : Dq H (.int i) (.int i)
  | str (x : Str) : Dq H (.str x) (.str x)
  | lst {a : Addr} {xs : List V} {ds : List PyData} : H a = some (.lst xs) → a ≠ sysModules → xs.length = ds.length → (∀ (i : Nat) (x : V) (d : PyData), xs[i]? = some x → ds[i]? = some d → Dq H x d) → Dq H (.ref a) (.list ds)
  | tup {a : Addr} {xs : List V} {ds : List PyData} : H a = some (.tup xs) → xs.length = ds.length → (∀ (i : Nat) (x : V) (d : PyData), xs[i]? = some x → ds[i]? = some d → Dq H x d) → Dq H (.ref a) (.tuple ds)
  | dct {a : Addr} {kvs : List (Key × V)} {ds : List (PyData × PyData)} : H a = some (.dK kvs) → kvs.map (fun p => kD p.1) = ds.map (·.1) → (∀ (i : Nat) (x : V) (d : PyData), (kvs.map (·.2))[i]? = some x → (ds.map (·.2))[i]? = some d → Dq H x d) → Dq H (.ref a) (.dict ds)
theorem Dq.same {H H' : Hp} {v : V} {d : PyData} (h : Dq H v d) (s : Same H H') : Dq H' v d := by
  induction h with
  | non => exact .non
  | bl b => exact .bl b
  | int i => exact .int i
  | str x => exact .str x
  | lst e n l _ ih => exact .lst (s _ _ e) n l ih
  | tup e l _ ih => exact .tup (s _ _ e) l ih
  | dct e l _ ih => exact .dct (s _ _ e) l ih
/-- only what is reached must stay: lists, tuples, dicts -/
theorem Dq.stay {H H' : Hp} {v : V} {d : PyData} (h : Dq H v d) (s : ∀ b o, H b = some o → (∃ xs, o = .lst xs) ∨ (∃ xs, o = .tup xs) ∨ (∃ xs, o = .dK xs) → H' b = some o) : Dq H' v d := by
  induction h with
  | non => exact .non
  | bl b => exact .bl b
  | int i => exact .int i
  | str x => exact .str x
  | lst e n l _ ih => exact .lst (s _ _ e (.inl ⟨_, rfl⟩)) n l ih
  | tup e l _ ih => exact .tup (s _ _ e (.inr (.inl ⟨_, rfl⟩))) l ih
  | dct e l _ ih => exact .dct (s _ _ e (.inr (.inr ⟨_, rfl⟩))) l ih
theorem reads_all {h : Heap} : ∀ (us : List Value) (ds : List PyData), us.length = ds.length → (∀ (i : Nat) u d, us[i]? = some u → ds[i]? = some d → ∃ as, Reads h u d as ∧ sysModules ∉ as) → ∃ as, ReadsAll h us ds as ∧ sysModules ∉ as
  | [], [], _, _ => ⟨[], .nil, List.not_mem_nil⟩
  | [], _ :: _, l, _ => by cases l
  | _ :: _, [], l, _ => by cases l
  | u :: us, d :: ds, l, f => by
    obtain ⟨as, r1, n1⟩ := f 0 u d rfl rfl
    obtain ⟨bs, r2, n2⟩ := reads_all us ds (Nat.succ.inj l) (fun i x e h1 h2 => f (i + 1) x e (by simpa using h1) (by simpa using h2))
    exact ⟨as ++ bs, .cons r1 r2, fun q => (List.mem_append.mp q).elim n1 n2⟩
theorem vals_at {xs : List V} {us : List Value} (r : Vals xs us) {i : Nat} {u : Value} (e : us[i]? = some u) : ∃ x, xs[i]? = some x ∧ RelV x u := by
  cases q : xs[i]? with
  | none =>
    have z := Vals.none_of r q
    rw [z] at e
    cases e
  | some x =>
    obtain ⟨u', e', ru⟩ := Vals.get r q
    rw [e] at e'
    cases e'
    exact ⟨x, rfl, ru⟩
theorem kv_vals {κ : Type} {kvs : List (κ × V)} {vs : List (κ × Value)} (r : KV kvs vs) : Vals (kvs.map (·.2)) (vs.map (·.2)) := by
  induction r with
  | nil => exact .nil
  | cons a _ ih => exact .cons a.2 ih
theorem kv_keys {κ : Type} {kvs : List (κ × V)} {vs : List (κ × Value)} (r : KV kvs vs) : kvs.map (·.1) = vs.map (·.1) := by
  induction r with
  | nil => rfl
  | cons a _ ih => rw [List.map_cons, List.map_cons, a.1, ih]
theorem pairs_vals {P : Program} {w : World} {es : List DictEntry} {vs : List (Key × Value)} (p : Pairs (mixKind P w) es vs) : es.map (·.val) = vs.map (·.2) := by
  induction p with
  | nil => rfl
  | cons _ e _ ih => rw [List.map_cons, List.map_cons, e, ih]
theorem pairs_keys {h : Heap} {P : Program} {w : World} {es : List DictEntry} {vs : List (Key × Value)} (p : Pairs (mixKind P w) es vs) : ReadsAll h (es.map (·.key)) (vs.map fun q => kD q.1) [] := by
  induction p with
  | nil => exact .nil
  | @cons e kv es kvs hk _ _ ih =>
    have r : Reads h e.key (kD kv.1) [] := by
      rcases keyIs_shape (show keyIs kv.1 e.key = true from hk) with ⟨i, t, e1, e2⟩ | ⟨x, t, e1, e2⟩
      · rw [e1, e2]
        exact .int i t
      · rw [e1, e2]
        exact .str x t
    exact ReadsAll.cons r ih
theorem Dq.reads {P : Program} {w : World} {H : Hp} {h : Heap} (ok : HOk P w H h) {v : V} {d : PyData} (q : Dq H v d) : ∀ u, RelV v u → ∃ as, Reads h u d as ∧ sysModules ∉ as := by
  induction q with
  | non =>
    intro u r
    cases r
    exact ⟨_, .none, List.not_mem_nil⟩
  | bl b =>
    intro u r
    cases r
    exact ⟨_, .bool b, List.not_mem_nil⟩
  | int i =>
    intro u r
    obtain ⟨t, rfl⟩ := r
    exact ⟨_, .int i t, List.not_mem_nil⟩
  | str x =>
    intro u r
    obtain ⟨t, rfl⟩ := r
    exact ⟨_, .str x t, List.not_mem_nil⟩
  | @lst a xs ds e n l _ ih =>
    intro u r
    cases r
    obtain ⟨_, its, m, rv, ho⟩ := (show ObjOk P w H h a (.lst xs) from ok a _ e)
    have il : its.length = ds.length := (Vals.length rv).symm.trans l
    obtain ⟨as, ra, na⟩ := reads_all its ds il (fun i u d h1 h2 => by
      obtain ⟨x, hx, rx⟩ := vals_at rv h1
      exact ih i x d hx h2 u rx)
    exact ⟨a :: as, Reads.list ho rfl rfl (by simpa using ra), fun z => (List.mem_cons.mp z).elim (fun z => n z.symm) na⟩
  | @tup a xs ds e l _ ih =>
    intro u r
    cases r
    obtain ⟨_, its, rv, o, ho, hc, m, hd⟩ := (show ObjOk P w H h a (.tup xs) from ok a _ e)
    have il : its.length = ds.length := (Vals.length rv).symm.trans l
    obtain ⟨as, ra, na⟩ := reads_all its ds il (fun i u d h1 h2 => by
      obtain ⟨x, hx, rx⟩ := vals_at rv h1
      exact ih i x d hx h2 u rx)
    exact ⟨as, Reads.tuple ho hc hd (by simpa using ra), na⟩
  | @dct a kvs ds e l _ ih =>
    intro u r
    cases r
    obtain ⟨_, nsm, vs, kv, o, es, ep, ho, hx, hd, _, hp, _⟩ := (show ObjOk P w H h a (.dK kvs) from ok a _ e)
    have rv := kv_vals kv
    have ll : kvs.length = ds.length := by simpa using congrArg List.length l
    have il : (vs.map (·.2)).length = (ds.map (·.2)).length := by
      rw [← Vals.length rv, List.length_map, List.length_map]
      exact ll
    obtain ⟨as, ra, na⟩ := reads_all (vs.map (·.2)) (ds.map (·.2)) il (fun i u d h1 h2 => by
      obtain ⟨x, hx', rx⟩ := vals_at rv h1
      exact ih i x d hx' h2 u rx)
    have rk := pairs_keys (h := h) hp
    have ek : (vs.map fun q => kD q.1) = ds.map (·.1) := by
      rw [← l]
      have z := congrArg (List.map kD) (kv_keys kv)
      rw [List.map_map, List.map_map] at z
      exact z.symm
    rw [ek] at rk
    rw [← pairs_vals hp] at ra
    refine ⟨a :: [] ++ as, Reads.dict ho hx.1 hd rk ra, fun z => ?_⟩
    have z' : sysModules = a ∨ sysModules ∈ as := by simpa using z
    rcases z' with z | z
    · rw [← z] at nsm
      simp at nsm
    · exact na z
/-! ### repr -/
/-- what may be shown -/
structure Shows (d : PyData) : Prop where
  s : d.showable = true
  p : d.depth ≤ 60
  z : d.shown.length ≤ sizeLine
def rRepr : List V → Hp → VK → Prop := fun xs H Q => ∃ v d, xs = [v] ∧ Dq H v d ∧ Shows d ∧ Q (.str d.shown) H
theorem call_repr {X : Cx} (hg : X.A.guards = some []) (hu : X.A.units + 64 < cLine) : CallR X (.builtin "repr") rRepr := by
  intro pins s σ H xs us Q I r h
  obtain ⟨v, d, rfl, hq, sh, q⟩ := h
  obtain ⟨u, rfl, ru⟩ : ∃ u, us = [u] ∧ RelV v u := by
    cases r with
    | cons a b =>
      cases b
      exact ⟨_, rfl, a⟩
  obtain ⟨as, rd, nsm⟩ := hq.reads I.hok u ru
  have hd : X.A.units + (d.depth + 1) < cLine := by have := sh.p; omega
  cases hq with
  | non =>
    cases ru
    exact P.repr_of_none ⟨.str _, H, I.tok _, ⟨_, rfl⟩, by simpa only [PyData.shown] using q⟩
  | bl b =>
    cases ru
    exact P.repr_of_bool ⟨.str _, H, I.tok _, ⟨_, rfl⟩, by simpa only [PyData.shown] using q⟩
  | int i =>
    obtain ⟨t, rfl⟩ := ru
    exact P.repr_of_int (by simpa [PyData.showable] using sh.s) ⟨.str _, H, I.tok _, ⟨_, rfl⟩, by simpa only [PyData.shown] using q⟩
  | str x =>
    obtain ⟨t, rfl⟩ := ru
    exact P.repr_of_str ⟨.str _, H, I.tok _, ⟨_, rfl⟩, by simpa only [PyData.shown] using q⟩ (by simpa only [PyData.shown] using sh.z)
  | lst _ _ _ _ =>
    cases ru
    exact repr_of_reads' rd sh.s (fun _ => nsm) hg hd (fun _ _ e => e) (fun h' u tk k => ⟨.str _, H, I.kept (t' := tk) k, ⟨_, rfl⟩, q⟩) sh.z
  | tup _ _ _ =>
    cases ru
    exact repr_of_reads' rd sh.s (fun _ => nsm) hg hd (fun _ _ e => e) (fun h' u tk k => ⟨.str _, H, I.kept (t' := tk) k, ⟨_, rfl⟩, q⟩) sh.z
  | dct _ _ _ =>
    cases ru
    exact repr_of_reads' rd sh.s (fun _ => nsm) hg hd (fun _ _ e => e) (fun h' u tk k => ⟨.str _, H, I.kept (t' := tk) k, ⟨_, rfl⟩, q⟩) sh.z
/-! ### a new list, and that it is not sys.modules -/
def tLstN (t : TA) : TE := fun σ H Q => t σ H fun xs H1 => xs.length ≤ sizeLine ∧ ∀ p, H1 p = none → p ≠ sysModules → Q (.ref p) (upd H1 p (.lst xs))
theorem pe_lstN {X : Cx} {es : List Expr} {t : TA} {pos : Pos} (h : PA X es t) : PE X (.List es pos) (tLstN t) := by
  constructor
  intro pins s σ H Q I hq
  refine wpAny_List_spliced (thn (h.run pos pins s σ H _ I hq) ?_)
  rintro us s1 ⟨xs, H1, J, rv, z, q⟩
  have n0 : H1 s1.heap.objs.size = none := J.hok.fresh (Nat.le_refl _)
  refine ⟨(Vals.length rv) ▸ z, .ref s1.heap.objs.size, upd H1 s1.heap.objs.size (.lst xs), J.laid (t' := s1.toks) (fun b u e => Heap.get?_push_of_some _ e) (Nat.le_refl _) ⟨z, us, 0, rv, Heap.get?_push_size _ rfl⟩, rfl, q _ n0 ?_⟩
  exact Nat.ne_of_gt J.big
/-! ### exceptions as values -/
/-- at a: an exception of the class at C, made with v -/
def ExcAt (H : Hp) (a C : Addr) (v : V) : Prop := ∃ d, H a = some (exo a C (some d)) ∧ H d = some (exd d [(("value" : Str), v)])
/-- C(e), a value -/
def tMkV (C : Addr) (sp : Sp) (ta : TA) : TE := fun σ H Q => ta σ H fun vs H1 => vs.length ≤ 1000 ∧ ∀ a, H1 a = none → sp (.ref a :: vs) (upd H1 a (exo a C none)) (fun v H2 => v = .non ∧ Q (.ref a) H2) (fun _ _ _ => False)
theorem pe_mkV {X : Cx} {CX : CXT} {C fI : Addr} {k : Nat} {fd : FuncData} {ps : List Str} {sp : Sp} {x : Str} {p pos : Pos} {e : Expr} {es : List Expr} {ta : TA} (T : ExcT X.K C fI)
    (F : FnOk X.prog X.w X.K X.mg X.base CX k fI fd ps sp) (hr : Room (k + 1) X.A) (hb : Binds X.K fd ps []) (hx : Passes CX X (fun _ _ _ => False)) (hg : Gl X x) (hm : X.mg x = some (.ref C)) (ha : PA X (e :: es) ta)
    (hdb : (x == ("__debug__" : Str)) = false := by decide) (he : starEach (e :: es) X.env = (false, eval e X.env) :: starEach es X.env := by rfl) (hpl : (backTo pos (starEach es X.env)).any (·.1) = false := by rfl) :
    PE X (.Call (.Name x p) (e :: es) [] pos) (tMkV C sp ta) := by
  constructor
  intro pins s σ H Q I h
  obtain ⟨nm, qn, N, bs, bm, sn, sub, ab, col, dd, k0, k1, k2, k3, k5, hC, hbm⟩ := T.oex.cls
  refine wpAny_Call_Name_kw (ld_glob I hg hm ?_ hdb)
  refine PySem.W.callWith_K (h₀ := X.base) I.ok.mod.kin T.oex.kC ?_ he hpl
  refine thn (ha.run pos pins s σ H _ I h) ?_
  rintro us ⟨hp, g, dr, tk, os⟩ ⟨vs, H1, J, rv, hz, q⟩
  refine ⟨J.kIn, ?_⟩
  have sz : hp.objs.size ≤ hp.objs.size + 1 := Nat.le_succ _
  have n1 : H1 (hp.objs.size + 1) = none := J.hok.fresh sz
  have q1 := q (hp.objs.size + 1) n1
  have keep : ∀ b o, hp.get? b = some o → ((hp.push (PySem.W.kdv_tup us)).push (PySem.HandSPX.excO C hp.objs.size)).get? b = some o := fun b o e => Heap.get?_push_of_some _ (Heap.get?_push_of_some _ e)
  have got : ((hp.push (PySem.W.kdv_tup us)).push (PySem.HandSPX.excO C hp.objs.size)).get? (hp.objs.size + 1) = some (PySem.HandSPX.excO C hp.objs.size) := by heap_get
  have J2 : Inv X pins σ (upd H1 (hp.objs.size + 1) (exo (hp.objs.size + 1) C none)) ⟨(hp.push (PySem.W.kdv_tup us)).push (PySem.HandSPX.excO C hp.objs.size), g, dr, tk, os⟩ :=
    J.laid (t' := tk) (a := hp.objs.size + 1) keep sz (exo_ok got)
  have rv2 : Vals (V.ref (hp.objs.size + 1) :: vs) (Value.ref (hp.objs.size + 1) :: us) := .cons rfl rv
  have hl : (Value.ref (hp.objs.size + 1) :: us ++ []).length = ps.length := by
    rw [List.append_nil, ← Vals.length rv2]
    exact F.len _ _ _ _ q1
  have hus : us.length ≤ sizeLine := by
    rw [← Vals.length rv, sizeLine_eq]
    omega
  have hbn : ∀ s' : Shared, X.K.In s'.heap → BindsTo s' fd ⟨Value.ref (hp.objs.size + 1) :: us, []⟩ (ps.zip (Value.ref (hp.objs.size + 1) :: us)) := fun s' k => by
    have z := hb s' (Value.ref (hp.objs.size + 1) :: us) k hl
    rw [List.append_nil] at z
    exact z
  show wpAny _ _ (call (.ref C) us) _ _ _
  refine wpAny_call (PySem.HandSPX.call_own PySem.F.excBase_ValueError (fun Y => PySem.HandSPX.refsVE_contains Y bm hbm) (J.kIn _ _ hC) (PySem.W.looks_findIn J.kIn T.ic) (fun self => PySem.W.bind_fn J.kIn self T.ti) hus ?_)
  refine codeAny_mono (F.run _ X.stack _ _ ⟨Value.ref (hp.objs.size + 1) :: us, []⟩ (Value.ref (hp.objs.size + 1) :: us) _ _ (fun _ _ _ => False) (hr.make C us []) (J2.env0.make C us []) (hbn _ J2.kIn) rv2 q1) ?_
  rintro (er | fl) s' hq
  · exact hx pins σ _ _ er s' J2 hq
  cases fl with
  | next => exact hq.elim
  | brk => exact hq.elim
  | cont => exact hq.elim
  | ret u =>
    obtain ⟨v, H2, os2, bare2, un2, ok2, rv', ev, q2⟩ := hq
    rw [ev] at rv'
    obtain rfl : u = Value.none := rv'
    exact ⟨rfl, .ref (hp.objs.size + 1), H2, J2.call' (ch := []) os2 un2 ok2 bare2 (fun b z => absurd z List.not_mem_nil), rfl, q2⟩
/-- MeetError.__init__ -/
def spErr (K : PySem.W.Frag) : Sp := fun vs H Q _ => ∃ (a C fI : Addr) (v : V), vs = [.ref a, v] ∧ ExcT K C fI ∧ H a = some (exo a C none) ∧
  ∀ dx, H dx = none → dx ≠ a → Q .non (upd (upd H dx (exd dx [(("value" : Str), v)])) a (exo a C (some dx)))
theorem inst_of {X : Cx} {pins : List (Addr × Obj)} {σ : L2.St} {H : Hp} {s : Shared} {a C d : Addr} {fs : List (Str × V)} (I : Inv X pins σ H s) (ea : H a = some (exo a C (some d))) (ed : H d = some (exd d fs)) :
    ∃ (t1 : Addr) (oD : Obj) (mA : Str → Option Value), PySem.W.InstAt s.heap a { cls := .ref C, dict := some d, data := .fields #[.ref t1, .none, .none, .none, .bool false, .none] } C (some oD) ∧ (∀ f, PySem.W.lookIn f oD = some (mA f)) ∧ ∀ f, RelO (fs.lookup f) (mA f) := by
  obtain ⟨t1, ho⟩ := exo_at I.hok ea
  obtain ⟨mA, hns, rel⟩ := exd_at I.hok ed
  obtain ⟨oD, hD, hl⟩ := lookIn_ns hns
  exact ⟨t1, oD, mA, ⟨ho, rfl, rfl, hD⟩, hl, rel⟩
/-- e.f of an exception that stands as a value -/
def tXa (K : PySem.W.Frag) (f : Str) (te : TE) : TE := fun σ H Q => te σ H fun x H1 => ∃ a C fI d fs v, x = .ref a ∧ ExcT K C fI ∧ PySem.W.findIn K (.ref C) f = some none ∧ H1 a = some (exo a C (some d)) ∧ H1 d = some (exd d fs) ∧ fs.lookup f = some v ∧ Q v H1
theorem pe_xa {X : Cx} {e : Expr} {te : TE} {pos : Pos} {f : Str} (he : PE X e te) (hb : attributeBase e f X.env (eval e X.env) = eval e X.env := by rfl) : PE X (.Attribute e f pos) (tXa X.K f te) := by
  constructor
  intro pins s σ H Q I h
  refine attr_of hb (thn (he.run pins s σ H _ I h) ?_)
  rintro u s1 ⟨x, H1, J, rx, a, C, fI, d, fs, v, ex, T, hno, ea, ed, el, q⟩
  subst ex
  obtain rfl : u = Value.ref a := rx
  obtain ⟨t1, oD, mA, io, hl, rel⟩ := inst_of J ea ed
  obtain ⟨u, hu, ru⟩ := RelO.some_of (v := v) (o := mA f) (by rw [← el]; exact rel f)
  exact HandSPX.exc_get J.kIn io T.ga T.gg T.oex.exC (PySem.W.findObj_own T.hd hno rfl (by rw [hl, hu])) (handed_of ru) ⟨v, H1, J.tok _, ru, q⟩
/-- isinstance(e, c) of an exception that stands as a value -/
def rIsX (K : PySem.W.Frag) : List V → Hp → VK → Prop := fun xs H Q => ∃ (a C fI d : Addr) (fs : List (Str × V)) (c : V) (cv : Value) (b : Bool), xs = [.ref a, c] ∧ ExcT K C fI ∧ H a = some (exo a C (some d)) ∧ H d = some (exd d fs) ∧
  (∀ u, RelV c u → u = cv) ∧ PySem.W.kitOne K (.ref C) cv = some b ∧ Q (.bl b) H
theorem call_isX {X : Cx} : CallR X (.builtin "isinstance") (rIsX X.K) := by
  intro pins s σ H xs us Q I r h
  obtain ⟨a, C, fI, d, fs, c, cv, b, rfl, T, ea, ed, hc, hk, q⟩ := h
  cases r with
  | cons ra rr =>
    cases rr with
    | cons rc rn =>
      cases rn
      cases ra
      have e := hc _ rc
      subst e
      obtain ⟨t1, oD, mA, io, _, _⟩ := inst_of I ea ed
      exact PySem.W.kia_one (PySem.W.kitx_exc T.cl T.ga T.gg T.oex.exC T.ha T.hn T.ht T.hm) I.kIn io hk (fun z => nomatch z) fun tk => ⟨.bl b, H, I.kept (t' := tk) fun _ _ z => z, rfl, q⟩
end MX

set_option Elab.async false
set_option linter.all false
set_option maxRecDepth 100000
set_option maxHeartbeats 4000000
namespace MX
open PySem PySem.Spec PySem.W PySem.Calls PyProof.Rows L2
theorem pe_weak {X : Cx} {e : Expr} {t t' : TE} (h : PE X e t) (f : ∀ σ H Q, t' σ H Q → t σ H Q) : PE X e t' := ⟨fun pins s σ H Q I q => h.run pins s σ H Q I (f σ H Q q)⟩
theorem pa_weak {X : Cx} {es : List Expr} {t t' : TA} (h : PA X es t) (f : ∀ σ H Q, t' σ H Q → t σ H Q) : PA X es t' := ⟨fun pos pins s σ H Q I q => h.run pos pins s σ H Q I (f σ H Q q)⟩
/-! ### powers of great ints -/
def CPowW (i j : Int) : Prop := 0 ≤ j ∧ (Builtin.Int.intBits i : Int) * j ≤ 2 ^ 27
theorem op_powW {X : Cx} : OpR X (binaryOp .Pow) (rI CPowW fun i j => .int (i ^ j.toNat)) := opI fun _ _ _ _ _ _ _ hc q => pow_int hc.1 hc.2 q
/-! ### heaps -/
/-- what is new in H' -/
def newIn (H H' : Hp) : Hp := fun b => match H b with
  | none => H' b
  | some _ => none
theorem newIn_of {H H' : Hp} {b : Addr} {o : HO} (h : H b = none) (h' : H' b = some o) : newIn H H' b = some o := by
  unfold newIn
  rw [h]
  exact h'
theorem newIn_inv {H H' : Hp} {b : Addr} {o : HO} (h : newIn H H' b = some o) : H b = none ∧ H' b = some o := by
  unfold newIn at h
  cases e : H b with
  | none =>
    rw [e] at h
    exact ⟨rfl, h⟩
  | some u =>
    rw [e] at h
    cases h
theorem newIn_same {H H' : Hp} : Same (newIn H H') H' := fun b o h => (newIn_inv h).2
/-- all but what stands at p stays -/
def Ext (p : Addr) (H H' : Hp) : Prop := ∀ b o, b ≠ p → H b = some o → H' b = some o
theorem Ext.refl {p : Addr} (H : Hp) : Ext p H H := fun _ _ _ h => h
theorem Ext.trans {p : Addr} {H H1 H2 : Hp} (a : Ext p H H1) (b : Ext p H1 H2) : Ext p H H2 := fun c o n h => b c o n (a c o n h)
theorem Ext.of {p : Addr} {H H' : Hp} (s : Same H H') : Ext p H H' := fun b o _ h => s b o h
theorem Ext.upd (p : Addr) (H : Hp) (o : HO) : Ext p H (upd H p o) := fun b u n h => (upd_ne n).trans h
theorem same_new {H : Hp} {p : Addr} {o : HO} (h : H p = none) : Same H (upd H p o) := fun b u e => (upd_ne (ne_of_none e h)).trans e
theorem newIn_ext {p : Addr} {H H1 H2 : Hp} (hp : H p ≠ none) (e : Ext p H1 H2) : Same (newIn H H1) (newIn H H2) := fun b o h => by
  obtain ⟨h0, h1⟩ := newIn_inv h
  exact newIn_of h0 (e b o (fun z => hp (z ▸ h0)) h1)
theorem newIn_mono {H H1 H2 : Hp} (e : Same H1 H2) : Same (newIn H H1) (newIn H H2) := fun b o h => by
  obtain ⟨h0, h1⟩ := newIn_inv h
  exact newIn_of h0 (e b o h1)
theorem newIn_pre {p : Addr} {H H1 H2 : Hp} (hp : H1 p ≠ none) (e : Ext p H H1) : Same (newIn H1 H2) (newIn H H2) := fun b o h => by
  obtain ⟨h0, h1⟩ := newIn_inv h
  refine newIn_of ?_ h1
  cases q : H b with
  | none => rfl
  | some u =>
    by_cases hb : b = p
    · rw [hb] at h0
      exact absurd h0 hp
    · rw [e b u hb q] at h0
      cases h0
theorem newIn_preS {H H1 H2 : Hp} (e : Same H H1) : Same (newIn H1 H2) (newIn H H2) := fun b o h => by
  obtain ⟨h0, h1⟩ := newIn_inv h
  exact newIn_of (e.free h0) h1
/-! ### written data -/
/-- a display that is data, all of it new -/
def tDat (d : PyData) : TE := fun _ H Q => ∀ v H', Same H H' → Dq (newIn H H') v d → Q v H'
inductive Dqs (H : Hp) : List V → List PyData → Prop
  | nil : Dqs H [] []
  | cons {v : V} {d : PyData} {vs : List V} {ds : List PyData} : Dq H v d → Dqs H vs ds → Dqs H (v :: vs) (d :: ds)
theorem Dqs.len {H : Hp} {vs : List V} {ds : List PyData} (h : Dqs H vs ds) : vs.length = ds.length := by
  induction h with
  | nil => rfl
  | cons _ _ ih => rw [List.length_cons, List.length_cons, ih]
theorem Dqs.at_ {H : Hp} {vs : List V} {ds : List PyData} (h : Dqs H vs ds) : ∀ (i : Nat) (x : V) (d : PyData), vs[i]? = some x → ds[i]? = some d → Dq H x d := by
  induction h with
  | nil =>
    intro i x d h1
    simp at h1
  | @cons v d vs ds a _ ih =>
    intro i x e h1 h2
    cases i with
    | zero =>
      simp at h1 h2
      rw [← h1, ← h2]
      exact a
    | succ i => exact ih i x e (by simpa using h1) (by simpa using h2)
theorem Dqs.same {H H' : Hp} {vs : List V} {ds : List PyData} (h : Dqs H vs ds) (s : Same H H') : Dqs H' vs ds := by
  induction h with
  | nil => exact .nil
  | cons a _ ih => exact .cons (a.same s) ih
theorem Dqs.append {H : Hp} {vs ws : List V} {ds es : List PyData} (h : Dqs H vs ds) (k : Dqs H ws es) : Dqs H (vs ++ ws) (ds ++ es) := by
  induction h with
  | nil => exact k
  | cons a _ ih => exact .cons a ih
def tDats (ds : List PyData) : TA := fun _ H Q => ∀ vs H', Same H H' → Dqs (newIn H H') vs ds → Q vs H'
section
variable {X : Cx} {e : Expr} {es : List Expr} {d : PyData} {ds : List PyData} {pos : Pos}
theorem pa_dnil : PA X [] (tDats []) := pa_weak pa_nil fun σ H Q q => q [] H (Same.refl H) .nil
theorem pa_dcons (h : PE X e (tDat d)) (t : PA X es (tDats ds)) (hs : starEach (e :: es) X.env = (false, eval e X.env) :: starEach es X.env := by rfl) : PA X (e :: es) (tDats (d :: ds)) :=
  pa_weak (pa_cons h t hs) fun σ H Q q v H1 s1 d1 vs H2 s2 d2 => q (v :: vs) H2 (s1.trans s2) (.cons (d1.same (newIn_mono s2)) (d2.same (newIn_preS s1)))
theorem pe_dint {i : Int} {k : Nat} : PE X (.Constant (.int i) k pos) (tDat (.int i)) := pe_weak pe_int fun σ H Q q => q (.int i) H (Same.refl H) (.int i)
theorem pe_dstr {x : Str} {k : Nat} : PE X (.Constant (.str x) k pos) (tDat (.str x)) := pe_weak pe_str fun σ H Q q => q (.str x) H (Same.refl H) (.str x)
theorem pe_dbl {b : Bool} {k : Nat} : PE X (.Constant (.bool b) k pos) (tDat (.bool b)) := pe_weak pe_bl fun σ H Q q => q (.bl b) H (Same.refl H) (.bl b)
theorem pe_dnon {k : Nat} : PE X (.Constant .none k pos) (tDat .none) := pe_weak pe_non fun σ H Q q => q .non H (Same.refl H) .non
theorem pe_dtup {x1} (h : PA X es (tDats ds)) (hl : ds.length ≤ 1000 := by decide) : PE X (.Tuple es x1 pos) (tDat (.tuple ds)) :=
  pe_weak (pe_tup h) fun σ H Q q vs H1 s1 d1 => ⟨by rw [d1.len, sizeLine_eq]; omega, fun p hp => q (.ref p) (upd H1 p (.tup vs)) (s1.trans (same_new hp))
    (.tup (newIn_of (s1.free hp) upd_same) d1.len fun i x d h1 h2 => (d1.at_ i x d h1 h2).same (newIn_mono (same_new hp)))⟩
theorem pe_dlst (h : PA X es (tDats ds)) (hl : ds.length ≤ 1000 := by decide) : PE X (.List es pos) (tDat (.list ds)) :=
  pe_weak (pe_lstN h) fun σ H Q q vs H1 s1 d1 => ⟨by rw [d1.len, sizeLine_eq]; omega, fun p hp np => q (.ref p) (upd H1 p (.lst vs)) (s1.trans (same_new hp))
    (.lst (newIn_of (s1.free hp) upd_same) np d1.len fun i x d h1 h2 => (d1.at_ i x d h1 h2).same (newIn_mono (same_new hp)))⟩
theorem pe_dnil : PE X (.Dict [] [] pos) (tDat (.dict [])) :=
  pe_weak pe_dnewK fun σ H Q q p hp => q (.ref p) (upd H p (.dK [])) (same_new hp) (.dct (newIn_of hp upd_same) rfl (fun i x d h => by simp at h))
/-- the same list, its items told -/
def tDatL (ds : List PyData) : TE := fun _ H Q => ∀ p vs H', Same H H' → H p = none → H' p = some (.lst vs) → Dqs (newIn H H') vs ds → Q (.ref p) H'
theorem pe_dlstL (h : PA X es (tDats ds)) (hl : ds.length ≤ 1000 := by decide) : PE X (.List es pos) (tDatL ds) :=
  pe_weak (pe_lst h) fun σ H Q q vs H1 s1 d1 => ⟨by rw [d1.len, sizeLine_eq]; omega, fun p hp => q p vs (upd H1 p (.lst vs)) (s1.trans (same_new hp)) (s1.free hp) upd_same (d1.same (newIn_mono (same_new hp)))⟩
end
/-! ### draws -/
/-- a pot at p from which at most n were drawn by the mixed way -/
def PotO (n : Nat) (o : HO) : Prop := ∃ a s c : Int, o = .lst [.int a, .int s, .int c] ∧ 0 ≤ a ∧ 0 ≤ s ∧ s < 2305843009213693951 ∧ 0 ≤ c ∧ c ≤ n
def Pot (n : Nat) (H : Hp) (p : Addr) : Prop := ∃ o, H p = some o ∧ PotO n o
theorem PotO.mono {m n : Nat} {o : HO} (h : PotO m o) (l : m ≤ n) : PotO n o := by
  obtain ⟨a, s, c, e, h1, h2, h3, h4, h5⟩ := h
  exact ⟨a, s, c, e, h1, h2, h3, h4, by omega⟩
theorem Pot.some {n : Nat} {H : Hp} {p : Addr} (h : Pot n H p) : H p ≠ none := by
  obtain ⟨o, e, _⟩ := h
  rw [e]
  exact fun z => nomatch z
theorem Pot.upd {n : Nat} {H : Hp} {p : Addr} {o : HO} (h : PotO n o) : Pot n (upd H p o) p := ⟨o, upd_same, h⟩
/-- _law_take(pot, upto) -/
def spTake : Sp := fun vs H Q _ => ∃ (p : Addr) (u : Int) (n : Nat), vs = [.ref p, .int u] ∧ Pot n H p ∧ n < 1000000 ∧ 0 < u ∧ u < 1000 ∧
  ∀ (r : Int) (H' : Hp), 0 ≤ r → r < u → Ext p H H' → Pot (n + 1) H' p → Q (.int r) H'
/-- _law_of(pot, some) -/
def spOf : Sp := fun vs H Q _ => ∃ (p l : Addr) (xs : List V) (n : Nat), vs = [.ref p, .ref l] ∧ Pot n H p ∧ n < 1000000 ∧ H l = some (.lst xs) ∧ l ≠ p ∧ 0 < xs.length ∧ xs.length < 1000 ∧
  ∀ (i : Nat) (x : V) (H' : Hp), xs[i]? = some x → Ext p H H' → Pot (n + 1) H' p → Q x H'
/-- _law_pot(script, k) -/
def spPot (K : PySem.W.Frag) : Sp := fun vs H Q _ => ∃ (a : Addr) (ns : List Int) (k : Nat), vs = [.ref a, .int (k : Int)] ∧ SqL K H a (ns.map V.int) ∧ ns.length ≤ 63 ∧ k < 100 ∧
  ∀ (p : Addr) (o : HO), H p = none → PotO 0 o → Q (.ref p) (L2.upd H p o)
/-- _law_places(script, most) -/
def spPlaces (K : PySem.W.Frag) (m : Nat) : Sp := fun vs H Q _ => ∃ (a : Addr) (ns : List Int), vs = [.ref a, .int (m : Int)] ∧ SqL K H a (ns.map V.int) ∧ ns.length ≤ 63 ∧
  ∀ (p : Addr) (H' : Hp) (t : Nat), Same H H' → H p = none → t ≤ max 1 m → H' p = some (.lst ((List.range t).map fun (i : Nat) => V.int (i : Int))) → Q (.ref p) H'
end MX
namespace MX
open PySem PySem.Spec PySem.W PySem.Calls PyProof.Rows L2
theorem pe_ddict1 {X : Cx} {pos p1 : Pos} {k1 : Nat} {x : Str} {e : Expr} {d : PyData} (h : PE X e (tDat d)) : PE X (.Dict [some (.Constant (.str x) k1 p1)] [e] pos) (tDat (.dict [(.str x, d)])) :=
  pe_weak (pe_disp (pps_cons pe_str h pps_nil) rfl rfl (by simp) (by show 1 ≤ 15; omega)) fun σ H Q q p hp => by
    show ∀ v H', Same (upd H p (.dK [])) H' → Dq (newIn (upd H p (.dK [])) H') v d → _
    intro v H' s1 d1
    refine ⟨s1 _ _ upd_same, [(Sum.inr x, v)], rfl, (by show 1 ≤ 15; omega), ?_⟩
    have hs : Same H (upd H' p (.dK (mergeK [] [(Sum.inr x, v)]))) := fun b o e => by
      have nb : b ≠ p := ne_of_none e hp
      rw [upd_ne nb]
      exact s1 b o ((upd_ne nb).trans e)
    refine q (.ref p) _ hs (.dct (kvs := [(Sum.inr x, v)]) (newIn_of hp upd_same) rfl ?_)
    intro i y z h1 h2
    cases i with
    | zero =>
      simp at h1 h2
      rw [← h1, ← h2]
      refine d1.same fun b o e => ?_
      obtain ⟨e0, e1⟩ := newIn_inv e
      have nb : b ≠ p := fun z => by
        rw [z, upd_same] at e0
        cases e0
      rw [upd_ne nb] at e0
      exact newIn_of e0 ((upd_ne nb).trans e1)
    | succ i => simp at h1
theorem pe_dneg {X : Cx} {pos p1 : Pos} {k1 : Nat} {i : Int} : PE X (.UnaryOp .USub (.Constant (.int i) k1 p1) pos) (tDat (.int (-i))) :=
  pe_weak (pe_un un_neg pe_int) fun σ H Q q => ⟨i, rfl, q (.int (-i)) H (Same.refl H) (.int (-i))⟩
theorem pe_dpow {X : Cx} {pos p1 p2 : Pos} {k1 k2 : Nat} {i j : Int} (h : CPow i j) : PE X (.BinOp (.Constant (.int i) k1 p1) .Pow (.Constant (.int j) k2 p2) pos) (tDat (.int (i ^ j.toNat))) :=
  pe_weak (pe_op op_pow pe_int pe_int) fun σ H Q q => ⟨i, j, rfl, rfl, h, q _ H (Same.refl H) (.int _)⟩
def tDatO (q : V → Hp → Prop) : TE := fun _ H Q => ∀ v H', Same H H' → q v H' → Q v H'
/-! ### menus of any kind -/
def oddD : List PyData := [.none, .bool true, .bool false, .int 0, .int 1, .int (-1), .int 2, .int 30, .str "", .str "a", .str "in", .str "out", .str "met", .tuple [], .list [], .dict [], .tuple [.int 0], .tuple [.tuple []], .list [.int 0], .tuple [.str "a"]]
  ++ [.dict [(.str "a", .int 1)], .tuple [.str "a", .str "in"], .tuple [.str "a", .str "b"], .tuple [.tuple [.str "a", .str "in"]], .tuple [.str "met", .str "a", .str "b"], .int 100000000, .list [.str "a"], .tuple [.tuple [.str "a", .str "in"], .str "a"]]
/-- _law_odd(pot) -/
def spOdd : Sp := fun vs H Q _ => ∃ (p : Addr) (n : Nat), vs = [.ref p] ∧ Pot n H p ∧ n < 1000000 ∧
  ∀ v d H', d ∈ oddD → Ext p H H' → Pot (n + 1) H' p → Dq (newIn H H') v d → Q v H'
end MX

set_option Elab.async false
set_option linter.all false
set_option maxRecDepth 100000
set_option maxHeartbeats 4000000
namespace MX
open PySem PySem.Spec PySem.W PySem.Calls PyProof.Rows L2
/-! ### many exceptions, made with one value -/
inductive Excs (H : Hp) (v : V) : List Addr → List Addr → Prop
  | nil : Excs H v [] []
  | cons {a C : Addr} {as Cs : List Addr} : ExcAt H a C v → Excs H v as Cs → Excs H v (a :: as) (C :: Cs)
theorem ExcAt.ext {H H' : Hp} {a C l : Addr} {v : V} {xs : List V} (h : ExcAt H a C v) (hl : H l = some (.lst xs)) (e : Ext l H H') : ExcAt H' a C v := by
  obtain ⟨d, ea, ed⟩ := h
  have na : a ≠ l := fun z => by
    rw [z, hl] at ea
    cases ea
  have nd : d ≠ l := fun z => by
    rw [z, hl] at ed
    cases ed
  exact ⟨d, e a _ na ea, e d _ nd ed⟩
theorem ExcAt.same {H H' : Hp} {a C : Addr} {v : V} (h : ExcAt H a C v) (s : Same H H') : ExcAt H' a C v :=
  let ⟨d, ea, ed⟩ := h
  ⟨d, s _ _ ea, s _ _ ed⟩
theorem Excs.ext {H H' : Hp} {l : Addr} {v : V} {xs : List V} {as Cs : List Addr} (h : Excs H v as Cs) (hl : H l = some (.lst xs)) (e : Ext l H H') : Excs H' v as Cs := by
  induction h with
  | nil => exact .nil
  | cons a _ ih => exact .cons (a.ext hl e) ih
theorem Excs.same {H H' : Hp} {v : V} {as Cs : List Addr} (h : Excs H v as Cs) (s : Same H H') : Excs H' v as Cs := by
  induction h with
  | nil => exact .nil
  | cons a _ ih => exact .cons (a.same s) ih
theorem Excs.append {H : Hp} {v : V} {as Cs bs Ds : List Addr} (h : Excs H v as Cs) (k : Excs H v bs Ds) : Excs H v (as ++ bs) (Cs ++ Ds) := by
  induction h with
  | nil => exact k
  | cons a _ ih => exact .cons a ih
theorem Excs.len {H : Hp} {v : V} {as Cs : List Addr} (h : Excs H v as Cs) : as.length = Cs.length := by
  induction h with
  | nil => rfl
  | cons _ _ ih => rw [List.length_cons, List.length_cons, ih]
theorem Excs.at_ {H : Hp} {v : V} {as Cs : List Addr} (h : Excs H v as Cs) : ∀ (i : Nat) (a : Addr), as[i]? = some a → ∃ C, Cs[i]? = some C ∧ ExcAt H a C v := by
  induction h with
  | nil =>
    intro i a h1
    simp at h1
  | @cons a C as Cs x _ ih =>
    intro i b h1
    cases i with
    | zero =>
      simp at h1
      rw [← h1]
      exact ⟨C, rfl, x⟩
    | succ i => exact ih i b (by simpa using h1)
/-- C(x), x the slot i -/
def tExc (C : Addr) (i : Nat) : TE := fun σ H Q => ∃ v, σ[i]? = some (some v) ∧ ∀ a H', Same H H' → H a = none → ExcAt H' a C v → Q (.ref a) H'
def tExcs (i : Nat) (Cs : List Addr) : TA := fun σ H Q => ∃ v, σ[i]? = some (some v) ∧ ∀ as H', Same H H' → Excs H' v as Cs → Q (as.map V.ref) H'
section
variable {X : Cx} {i : Nat} {e : Expr} {es : List Expr} {C fI : Addr} {Cs : List Addr}
theorem pe_exc {k : Nat} {fd : FuncData} {x y : Str} {p p1 pos : Pos} (T : ExcT X.K C fI) (F : FnOk X.prog X.w X.K X.mg X.base CX0 k fI fd ["self", "value"] (spErr X.K)) (hr : Room (k + 1) X.A) (hb : Binds X.K fd ["self", "value"] [])
    (hm : X.mg x = some (.ref C)) (hg : Gl X x := by rfl) (hN : X.N[i]? = some y := by rfl) (hv : Vis X.env.scope y := by first | exact Or.inl rfl | exact Or.inr (Or.inl rfl) | exact Or.inr (Or.inr rfl))
    (hdb : (x == ("__debug__" : Str)) = false := by decide) (hd : (y == ("__debug__" : Str)) = false := by decide) (hcd : (y == ("__classdict__" : Str)) = false := by decide)
    (he : starEach [.Name y p1] X.env = (false, eval (.Name y p1) X.env) :: starEach [] X.env := by rfl) :
    PE X (.Call (.Name x p) [.Name y p1] [] pos) (tExc C i) :=
  pe_weak (pe_mkV T F hr hb pass0 hg hm (pa_cons (pv i hN hv hd hcd) pa_nil he) hdb he (by rfl)) fun σ H Q q => by
    obtain ⟨v, hs, q⟩ := q
    refine ⟨v, hs, (by show 1 ≤ 1000; decide), fun a ha => ⟨a, C, fI, v, rfl, T, upd_same, fun dx n ne => ⟨rfl, ?_⟩⟩⟩
    have nd : H dx = none := by
      rw [upd_ne ne] at n
      exact n
    refine q a _ (fun b o z => ?_) ha ⟨dx, upd_same, by rw [upd_ne ne, upd_same]⟩
    rw [upd_ne (ne_of_none z ha), upd_ne (ne_of_none z nd), upd_ne (ne_of_none z ha)]
    exact z
theorem pa_enil : PA X [] (tExcs i []) := pa_weak pa_nil fun σ H Q q => let ⟨v, _, q⟩ := q; q [] H (Same.refl H) .nil
theorem pa_econs (h : PE X e (tExc C i)) (t : PA X es (tExcs i Cs)) (hs : starEach (e :: es) X.env = (false, eval e X.env) :: starEach es X.env := by rfl) : PA X (e :: es) (tExcs i (C :: Cs)) :=
  pa_weak (pa_cons h t hs) fun σ H Q q => by
    obtain ⟨v, hv, q⟩ := q
    exact ⟨v, hv, fun a H1 s1 _ e1 => ⟨v, hv, fun as H2 s2 es2 => q (a :: as) H2 (s1.trans s2) (.cons (e1.same s2) es2)⟩⟩
/-! ### what an exception is -/
def kb (K : PySem.W.Frag) (D C : Addr) : Bool := PySem.W.kitOne K (.ref D) (.ref C) == some true
def tIss (K : PySem.W.Frag) (i : Nat) (Cs : List Addr) : TA := fun σ H Q => ∃ (a D fI d : Addr) (fs : List (Str × V)), σ[i]? = some (some (.ref a)) ∧ ExcT K D fI ∧ H a = some (exo a D (some d)) ∧ H d = some (exd d fs) ∧
  (∀ C ∈ Cs, ∃ b, PySem.W.kitOne K (.ref D) (.ref C) = some b) ∧ Q ((Cs.map (kb K D)).map V.bl) H
theorem pa_inil : PA X [] (tIss X.K i []) := pa_weak pa_nil fun σ H Q q => by
  obtain ⟨a, D, fI, d, fs, _, _, _, _, _, q⟩ := q
  exact q
theorem pa_icons {x y z : Str} {p p1 p2 pos : Pos} (t : PA X es (tIss X.K i Cs)) (hmi : X.mg x = none) (hx : x = "isinstance") (hm : X.mg z = some (.ref C)) (hgi : Gl X x := by rfl) (hg : Gl X z := by rfl)
    (hN : X.N[i]? = some y := by rfl) (hv : Vis X.env.scope y := by first | exact Or.inl rfl | exact Or.inr (Or.inl rfl) | exact Or.inr (Or.inr rfl)) (hd : (y == ("__debug__" : Str)) = false := by decide) (hcd : (y == ("__classdict__" : Str)) = false := by decide)
    (hdz : (z == ("__debug__" : Str)) = false := by decide) (hcz : (z == ("__classdict__" : Str)) = false := by decide)
    (hs : starEach ((.Call (.Name x p) [.Name y p1, .Name z p2] [] pos) :: es) X.env = (false, eval (.Call (.Name x p) [.Name y p1, .Name z p2] [] pos) X.env) :: starEach es X.env := by rfl) :
    PA X ((.Call (.Name x p) [.Name y p1, .Name z p2] [] pos) :: es) (tIss X.K i (C :: Cs)) := by
  subst hx
  refine pa_weak (pa_cons (pe_callB call_isX hgi hmi (by decide +kernel) (pa_cons (pv i hN hv hd hcd) (pa_cons (pe_glob hg hm (show RelV (.ref C) (.ref C) from rfl) hdz) pa_nil))) t hs) fun σ H Q q => ?_
  obtain ⟨a, D, fI, d, fs, hs, T, ea, ed, hk, q⟩ := q
  obtain ⟨b, hb⟩ := hk C List.mem_cons_self
  refine ⟨_, hs, a, D, fI, d, fs, .ref C, .ref C, b, rfl, T, ea, ed, fun u r => r, hb, a, D, fI, d, fs, hs, T, ea, ed, fun C' h => hk C' (List.mem_cons_of_mem _ h), ?_⟩
  have e : kb X.K D C = b := by
    unfold kb
    rw [hb]
    cases b <;> rfl
  rw [List.map_cons, List.map_cons, e] at q
  exact q
end
/-- a list being made: at l, new behind H0, of the exceptions of Cs -/
def MadeSt (H0 H : Hp) (l : Addr) (v : V) (Cs : List Addr) : Prop := ∃ as : List Addr, Same H0 H ∧ H0 l = none ∧ H l = some (.lst (as.map V.ref)) ∧ Excs H v as Cs
theorem MadeSt.step {H0 H H1 : Hp} {l b : Addr} {v : V} {Cs Ds as bs : List Addr} (s : Same H0 H) (n : H0 l = none) (hl : H l = some (.lst (as.map V.ref))) (x : Excs H v as Cs) (s1 : Same H H1) (y : Excs H1 v bs Ds) (hb : H1 b = none) :
    MadeSt H0 (upd (upd H1 b (.lst (bs.map V.ref))) l (.lst (as.map V.ref ++ bs.map V.ref))) l v (Cs ++ Ds) := by
  have h1 : (upd H1 b (.lst (bs.map V.ref))) l = some (.lst (as.map V.ref)) := same_new hb _ _ (s1 _ _ hl)
  refine ⟨as ++ bs, fun c o e => ?_, n, by rw [upd_same, List.map_append], ((x.same s1).append y |>.same (same_new hb)).ext h1 (Ext.upd l _ _)⟩
  rw [upd_ne (ne_of_none e n)]
  exact same_new hb _ _ (s1 _ _ (s _ _ e))
def MarkSt (K : PySem.W.Frag) (H0 H : Hp) (l D : Addr) (Cs : List Addr) : Prop := Same H0 H ∧ H0 l = none ∧ H l = some (.lst ((Cs.map (kb K D)).map V.bl))
theorem MarkSt.step {K : PySem.W.Frag} {H0 H : Hp} {l b D : Addr} {Cs Ds : List Addr} (m : MarkSt K H0 H l D Cs) (hb : H b = none) :
    MarkSt K H0 (upd (upd H b (.lst ((Ds.map (kb K D)).map V.bl))) l (.lst ((Cs.map (kb K D)).map V.bl ++ (Ds.map (kb K D)).map V.bl))) l D (Cs ++ Ds) := by
  obtain ⟨s, n, hl⟩ := m
  refine ⟨fun c o e => ?_, n, by rw [upd_same, List.map_append, List.map_append]⟩
  rw [upd_ne (ne_of_none e n)]
  exact same_new hb _ _ (s _ _ e)
end MX

set_option Elab.async false
set_option linter.all false
set_option maxRecDepth 100000
set_option maxHeartbeats 0
namespace K00
open PySem PySem.Spec PyProof.Rows L2 MX
def top (i : Nat) : Stmt := PySem.Challenge.pw_metonce_k00_errors_keep_their_values.main.body.getD i (.Pass ⟨0, 0, 0, 0⟩)
abbrev sErr : Stmt := inClass (top 1) 0
abbrev sPot : Stmt := top 26
abbrev sTake : Stmt := top 27
abbrev sOf : Stmt := top 28
abbrev sPlaces : Stmt := top 29
abbrev sOdd : Stmt := top 30
abbrev sMade : Stmt := top 31
abbrev sMarks : Stmt := top 32
abbrev sRight : Stmt := top 33
abbrev sLaw : Stmt := top 34
def errs : List Str := ["BadHall", "NoPerson", "Alone", "BadEvent", "BadTimeline", "BadSaying", "BadSayings", "Full", "NoSaying", "OtherHall", "BadCases", "NoTimeline", "BadClaim", "BadNumber", "BadOrder", "BadOffers", "BadWishes", "Contrary", "NothingToUndo", "NothingToRedo", "NoTrial", "BadJournal", "BadLine"]
def mkD (at_ : Str × Option Str) (name qual : Str) (st : Stmt) : He.DefD := ⟨at_, name, qual, defArgs st, defBody st, defScope st, [], []⟩
def fn : List He.DefD := [mkD ("MeetError", some "__init__") "__init__" "MeetError.__init__" sErr, mkD ("_law_pot", none) "_law_pot" "_law_pot" sPot, mkD ("_law_take", none) "_law_take" "_law_take" sTake, mkD ("_law_of", none) "_law_of" "_law_of" sOf, mkD ("_law_places", none) "_law_places" "_law_places" sPlaces, mkD ("_law_odd", none) "_law_odd" "_law_odd" sOdd, mkD ("_law_made", none) "_law_made" "_law_made" sMade, mkD ("_law_marks", none) "_law_marks" "_law_marks" sMarks, mkD ("_law_right", none) "_law_right" "_law_right" sRight, mkD ("law", none) "law" "law" sLaw]
def blts : List Str := ["len", "int", "abs", "range", "max", "min", "list", "isinstance", "repr", "enumerate", "all", "any", "ValueError"]
def glos : List Str := errs ++ (["MeetError", "_law_pot", "_law_take", "_law_of", "_law_places", "_law_odd", "_law_made", "_law_marks", "_law_right", "law"] : List Str)
def fa : List He.Fa := glos.map He.Fa.glo ++ blts.map He.Fa.free
def fI (K : PySem.W.Frag) : Addr := He.ma K (He.ga K "MeetError") "__init__"
def fx (K : PySem.W.Frag) : Bool := (excB K (He.ga K "MeetError") (fI K) && errs.all fun x => excB K (He.ga K x) (fI K))
  && (errs.all fun x => decide (PySem.W.kitOne K (.ref (He.ga K x)) (.type "ValueError") = some true) && (decide (PySem.W.kitOne K (.ref (He.ga K x)) (.ref (He.ga K "MeetError")) = some true) && (decide (PySem.W.kitOne K (.ref (He.ga K "MeetError")) (.ref (He.ga K x)) = some false)
    && errs.all fun y => decide (PySem.W.kitOne K (.ref (He.ga K x)) (.ref (He.ga K y)) = some (decide (x = y))))))
  && decide (PySem.W.kitOne K (.ref (He.ga K "MeetError")) (.type "ValueError") = some true)
abbrev R : PySem.W.OpenRow := PySem.W.OpenLaw.row PySem.Challenge.rw_metonce_k00_errors_keep_their_values
abbrev hk : PySem.W.Hook := hookX 6 fa fn fx
def ob (s : PySem.W.SharedT) : He.AlD := obsXG 6 fa fn fx (HandSHeadRun.getT s)
theorem ob_eq (s : PySem.W.SharedT) : ob s = hk.obs s.abs := obsXG_eq (HandSHeadRun.getT_eq s)
def loose : List Str := ["MeetError", "BadHall", "NoPerson", "Alone", "BadEvent", "BadTimeline", "BadSaying", "BadSayings", "Full", "NoSaying", "OtherHall", "BadCases", "NoTimeline", "BadClaim", "BadNumber", "BadOrder", "BadOffers", "BadWishes", "Contrary", "NothingToUndo", "NothingToRedo", "NoTrial", "BadJournal", "BadLine", "_law_pot", "_law_take", "_law_of", "_law_places", "_law_odd", "_law_made", "_law_marks", "_law_right"]
theorem run (w : World) : HandSHeadRun.RunEq R (PySem.W.view R.prog [34]) hk ob 9000 loose w := by
  intro os
  kernel_rfl
end K00

set_option Elab.async false
set_option linter.all false
set_option maxRecDepth 100000
set_option maxHeartbeats 4000000
namespace K00
open PySem PySem.Spec PySem.W PySem.Calls PyProof.Rows L2 MX
abbrev FnP (K : PySem.W.Frag) (x : Str) (st : Stmt) (f : Addr) (fd : FuncData) : Prop := FunD K x x (defArgs st) (defBody st) (defScope st) [] [] f fd
structure Blt (mg : Str → Option Value) : Prop where
  len : mg "len" = none
  int : mg "int" = none
  abs : mg "abs" = none
  range : mg "range" = none
  max : mg "max" = none
  min : mg "min" = none
  list : mg "list" = none
  isi : mg "isinstance" = none
  repr : mg "repr" = none
  enum : mg "enumerate" = none
  all : mg "all" = none
  any : mg "any" = none
  ve : mg "ValueError" = none
theorem b01 (b : Bool) : -(2 ^ 64) < (if b = true then (1 : Int) else 0) ∧ (if b = true then (1 : Int) else 0) < 2 ^ 64 := by cases b <;> decide
theorem sq_le {c : Int} (h0 : 0 ≤ c) (h1 : c + 1 ≤ 1000000) : 0 ≤ 95291 * (c + 1) * (c + 1) ∧ 95291 * (c + 1) * (c + 1) ≤ 95291000000000000 := by
  have a : 0 ≤ 95291 * (c + 1) := by omega
  have b : 95291 * (c + 1) ≤ 95291000000 := by omega
  exact ⟨Int.mul_nonneg a (by omega), Int.le_trans (Int.mul_le_mul b h1 (by omega) (by omega)) (by decide)⟩
theorem pot0 (x : Int) {m y : Int} {b : Bool} (hm : 0 < m) : PotO 0 (.lst [.int (x % m * (if b = true then 1 else 0)), .int (y % 2305843009213693921), .int 0]) := by
  refine ⟨_, _, _, rfl, ?_, Int.emod_nonneg _ (by decide), ?_, Int.le_refl _, Int.le_refl _⟩
  · have h := Int.emod_nonneg x (show m ≠ 0 by omega)
    cases b
    · simp
    · simpa using h
  · have h := Int.emod_lt_of_pos y (show (0 : Int) < 2305843009213693921 by decide)
    omega
section
variable {P : Program} {w : World} {K : PySem.W.Frag} {mg : Str → Option Value} {base : Heap} {f : Addr} {fd : FuncData}
theorem scE : FnScope ["self", "value"] ["self", "value"] (defScope sErr) := ⟨rfl, rfl, rfl, by decide +kernel, rfl, by decide +kernel, by decide +kernel⟩
theorem ok_err (F : FunD K "__init__" "MeetError.__init__" (defArgs sErr) (defBody sErr) (defScope sErr) [] [] f fd) : FnOk P w K mg base CX0 1 f fd ["self", "value"] (spErr K) := by
  refine F.ok scE (fun vs H Q E h => ?_) (fun cdv A outer s H vs Q E hr h => ?_)
  · obtain ⟨a, C, fI, v, rfl, _⟩ := h
    rfl
  · obtain ⟨a, C, fI, v, rfl, T, ea, k⟩ := h
    refine ⟨_, PSs.nox (pss_one (ps_ost (pv 0) (pv 1))), ?_⟩
    exact ⟨_, rfl, _, rfl, a, C, rfl, T.oex, T.nv, .inl ⟨ea, fun dx n ne => k dx n ne⟩⟩
theorem scP : FnScope ["_law_script", "_law_k", "_law_cell", "_law_own", "_law_small"] ["_law_script", "_law_k"] (defScope sPot) := ⟨rfl, rfl, rfl, by decide +kernel, rfl, by decide +kernel, by decide +kernel⟩
theorem ok_pot (F : FnP K "_law_pot" sPot f fd) (B : Blt mg) : FnOk P w K mg base CX0 1 f fd ["_law_script", "_law_k"] (spPot K) := by
  refine F.ok scP (fun vs H Q E h => ?_) (fun cdv A outer s H vs Q E hr h => ?_)
  · obtain ⟨a, ns, k, rfl, _⟩ := h
    rfl
  · obtain ⟨a, ns, k, rfl, hS, hn, hk, q⟩ := h
    refine ⟨_, PSs.nox (pss_cons (ps_set (i := 2) scP.nd rfl (Or.inl rfl) (pe_ifExp (pt_cmpR op_lt (pv 1) (pe_callB call_len_seq (by rfl) B.len PySem.boot_len (pa_cons (pv 0) pa_nil)) (nomark _)) (pe_ix ix_list (pv 0) (pv 1) (fun _ _ => rfl)) (pe_op op_add (pe_op op_mul pe_int (pv 1)) pe_int)))
      (pss_cons (ps_set (i := 3) scP.nd rfl (Or.inl rfl) (pe_op op_mul (pe_op op_mod (pe_callTy call_int1 (by rfl) B.int boot_int (pa_cons (pe_callB call_abs (by rfl) B.abs boot_abs (pa_cons (pv 2) pa_nil)) pa_nil)) (pe_op op_powW (pe_op op_powW pe_int pe_int) pe_int))
          (pe_callTy call_int1 (by rfl) B.int boot_int (pa_cons (pe_cmpR op_ge (pe_callB call_abs (by rfl) B.abs boot_abs (pa_cons (pv 2) pa_nil)) (pe_op op_powW pe_int pe_int) (nomark _)) pa_nil))))
      (pss_cons (ps_set (i := 4) scP.nd rfl (Or.inl rfl) (pe_op op_mod (pe_callTy call_int1 (by rfl) B.int boot_int (pa_cons (pv 2) pa_nil)) pe_int))
      (pss_one (ps_ret (pe_lst (pa_cons (pv 3) (pa_cons (pe_op op_mod (pe_callTy call_int1 (by rfl) B.int boot_int (pa_cons (pe_op op_add (pe_op op_add (pe_op op_mul (pv 4) pe_int) (pe_op op_mul (pe_op op_mul pe_int (pv 1)) (pv 1))) pe_int) pa_nil)) pe_int) (pa_cons pe_int pa_nil))))))))), ?_⟩
    have len_eq : (ns.map V.int).length = ns.length := List.length_map _
    refine ⟨_, rfl, _, rfl, _, _, rfl, .inl hS, _, _, rfl, rfl, _, rfl, ite2 (fun hlt => ?_) (fun hlt => ?_)⟩
    · have hlt' : k < ns.length := by have z := of_decide_eq_true hlt; rw [len_eq] at z; omega
      refine ⟨_, rfl, _, rfl, _, _, _, _, rfl, rfl, hS, atI_nat (v := V.int ns[k]) (by rw [List.getElem?_map, List.getElem?_eq_getElem hlt']; rfl), ?_⟩
      generalize ns[k] = c
      exact ⟨_, rfl, c, rfl, .inl ⟨_, rfl, _, _, rfl, rfl, ⟨by decide, by decide +kernel⟩, _, _, rfl, rfl, ⟨by decide, by decide +kernel⟩, _, _, rfl, rfl, (show (0 : Int) < (10 ^ Int.toNat 60) ^ Int.toNat 5 by decide +kernel),
        _, rfl, c, rfl, _, _, rfl, rfl, ⟨by decide, by decide +kernel⟩, _, _, rfl, rfl, .inr ⟨_, rfl, _, _, rfl, rfl, .inr (b01 _),
        _, rfl, .inl ⟨_, rfl, _, _, rfl, rfl, (by decide : (0 : Int) < 2305843009213693951),
        _, rfl, _, rfl, _, _, rfl, rfl, .inr ⟨by decide, by decide⟩, _, rfl, _, _, rfl, rfl, .inl ⟨by decide, by decide⟩, _, rfl, _, _, rfl, rfl, .inr ⟨by omega, by omega⟩, _, _, rfl, rfl, _, _, rfl, rfl,
        .inl ⟨_, rfl, _, _, rfl, rfl, (by decide : (0 : Int) < 2305843009213693921), (by show 3 ≤ sizeLine; decide), fun p hp => q p _ hp (pot0 _ (by decide +kernel))⟩⟩⟩⟩⟩
    · refine ⟨_, rfl, _, _, rfl, rfl, .inl ⟨by decide, by decide⟩, _, _, rfl, rfl, ?_⟩
      exact ⟨_, rfl, _, rfl, .inl ⟨_, rfl, _, _, rfl, rfl, ⟨by decide, by decide +kernel⟩, _, _, rfl, rfl, ⟨by decide, by decide +kernel⟩, _, _, rfl, rfl, (show (0 : Int) < (10 ^ Int.toNat 60) ^ Int.toNat 5 by decide +kernel),
        _, rfl, _, rfl, _, _, rfl, rfl, ⟨by decide, by decide +kernel⟩, _, _, rfl, rfl, .inr ⟨_, rfl, _, _, rfl, rfl, .inr (b01 _),
        _, rfl, .inl ⟨_, rfl, _, _, rfl, rfl, (by decide : (0 : Int) < 2305843009213693951),
        _, rfl, _, rfl, _, _, rfl, rfl, .inr ⟨by decide, by decide⟩, _, rfl, _, _, rfl, rfl, .inl ⟨by decide, by decide⟩, _, rfl, _, _, rfl, rfl, .inr ⟨by omega, by omega⟩, _, _, rfl, rfl, _, _, rfl, rfl,
        .inl ⟨_, rfl, _, _, rfl, rfl, (by decide : (0 : Int) < 2305843009213693921), (by show 3 ≤ sizeLine; decide), fun p hp => q p _ hp (pot0 _ (by decide +kernel))⟩⟩⟩⟩⟩
theorem scT : FnScope ["_law_pot_here", "_law_upto", "_law_digit", "_law_prime", "_law_blend"] ["_law_pot_here", "_law_upto"] (defScope sTake) := ⟨rfl, rfl, rfl, by decide +kernel, rfl, by decide +kernel, by decide +kernel⟩
theorem ok_take (F : FnP K "_law_take" sTake f fd) (B : Blt mg) : FnOk P w K mg base CX0 1 f fd ["_law_pot_here", "_law_upto"] spTake := by
  refine F.ok scT (fun vs H Q E h => ?_) (fun cdv A outer s H vs Q E hr h => ?_)
  · obtain ⟨p, u, n, rfl, _⟩ := h
    rfl
  · obtain ⟨p, u, n, rfl, ⟨o, ho, a, sd, c, rfl, ha, hs0, hs1, hc0, hc1⟩, hn, hu0, hu1, q⟩ := h
    refine ⟨_, PSs.nox (pss_cons (ps_if (pt_cmpR op_gt (pe_ix ix_list (pv 0) pe_int (fun _ _ => rfl)) pe_int (nomark _))
        (pss_cons (ps_set (i := 2) scT.nd rfl (Or.inl rfl) (pe_op op_mod (pe_callTy call_int1 (by rfl) B.int boot_int (pa_cons (pe_ix ix_list (pv 0) pe_int (fun _ _ => rfl)) pa_nil)) (pv 1)))
        (pss_cons (ps_asg (pe_op op_fdiv (pe_ix ix_list (pv 0) pe_int (fun _ _ => rfl)) (pv 1)) (pg_sub (pv 0) pe_int set_list))
        (pss_one (ps_ret (pv 2))))) pss_nil)
      (pss_cons (ps_asg (pe_op op_add (pe_ix ix_list (pv 0) pe_int (fun _ _ => rfl)) pe_int) (pg_sub (pv 0) pe_int set_list))
      (pss_cons (ps_set (i := 3) scT.nd rfl (Or.inl rfl) (pe_ix ix_list (pe_lst (pa_cons pe_int (pa_cons pe_int (pa_cons pe_int (pa_cons pe_int (pa_cons pe_int pa_nil)))))) (pe_op op_mod (pe_callTy call_int1 (by rfl) B.int boot_int (pa_cons (pe_ix ix_list (pv 0) pe_int (fun _ _ => rfl)) pa_nil)) pe_int) (fun _ _ => rfl)))
      (pss_cons (ps_set (i := 4) scT.nd rfl (Or.inl rfl) (pe_op op_mod (pe_callTy call_int1 (by rfl) B.int boot_int (pa_cons (pe_op op_pow (pe_callTy call_int1 (by rfl) B.int boot_int (pa_cons (pe_op op_add (pe_op op_add (pe_ix ix_list (pv 0) pe_int (fun _ _ => rfl))
          (pe_op op_mul (pe_op op_mul pe_int (pe_ix ix_list (pv 0) pe_int (fun _ _ => rfl))) (pe_ix ix_list (pv 0) pe_int (fun _ _ => rfl)))) pe_int) pa_nil)) pe_int) pa_nil)) (pv 3)))
      (pss_one (ps_ret (pe_op op_mod (pe_callTy call_int1 (by rfl) B.int boot_int (pa_cons (pe_op op_fdiv (pe_op op_mul (pv 4) (pe_op op_add (pe_op op_mod (pe_callTy call_int1 (by rfl) B.int boot_int (pa_cons (pv 4) pa_nil)) pe_int)
          (pe_op op_mul pe_int (pe_ix ix_list (pv 0) pe_int (fun _ _ => rfl))))) pe_int) pa_nil)) (pv 1)))))))), ?_⟩
    refine ⟨_, rfl, p, _, _, _, rfl, rfl, SqL.of ho, rfl, _, _, rfl, rfl, _, rfl, ite2 (fun hgt => ?_) (fun hgt => ?_)⟩
    · refine ⟨_, rfl, p, _, _, _, rfl, rfl, SqL.of ho, rfl, .inl ⟨_, rfl, _, rfl, _, _, rfl, rfl, hu0, _, rfl, p, _, _, _, rfl, rfl, SqL.of ho, rfl, _, rfl, _, _, rfl, rfl, ⟨hu0, by omega⟩, _, rfl, p, _, _, _, rfl, rfl, ho, rfl, _, rfl, ?_⟩⟩
      exact q _ _ (Int.emod_nonneg _ (by omega)) (Int.emod_lt_of_pos _ hu0) (Ext.upd p H _) (Pot.upd ⟨_, _, _, rfl, Int.ediv_nonneg ha (by omega), hs0, hs1, hc0, by omega⟩)
    · refine ⟨_, rfl, p, _, _, _, rfl, rfl, SqL.of ho, rfl, _, _, rfl, rfl, _, rfl, p, _, _, _, rfl, rfl, ho, rfl, ?_⟩
      have hc' : c + 1 ≤ 1000000 := by omega
      refine ⟨(by show 5 ≤ sizeLine; decide), fun l hl => ?_⟩
      have npl : p ≠ l := ne_of_none upd_same hl
      have hp2 : (L2.upd (L2.upd H p (HO.lst [V.int a, V.int sd, V.int (c + 1)])) l (HO.lst [V.int 2147483647, V.int 2147483629, V.int 2147483587, V.int 2147483579, V.int 2147483563])) p = some (HO.lst [V.int a, V.int sd, V.int (c + 1)]) := by
        rw [upd_ne npl, upd_same]
      obtain ⟨j, hj, hj5⟩ : ∃ j : Nat, (c + 1) % 5 = (j : Int) ∧ j < 5 := ⟨((c + 1) % 5).toNat, by omega, by omega⟩
      obtain ⟨pr, hpr, hp0, hp1⟩ : ∃ pr : Int, ([V.int 2147483647, V.int 2147483629, V.int 2147483587, V.int 2147483579, V.int 2147483563] : List V)[j]? = some (V.int pr) ∧ 0 < pr ∧ pr < 2147483648 := by
        match j, hj5 with
        | 0, _ => exact ⟨_, rfl, by decide, by decide⟩
        | 1, _ => exact ⟨_, rfl, by decide, by decide⟩
        | 2, _ => exact ⟨_, rfl, by decide, by decide⟩
        | 3, _ => exact ⟨_, rfl, by decide, by decide⟩
        | 4, _ => exact ⟨_, rfl, by decide, by decide⟩
      refine ⟨_, rfl, p, _, _, _, rfl, rfl, SqL.of hp2, rfl, .inl ⟨_, rfl, _, _, rfl, rfl, (by decide : (0 : Int) < 5), l, _, _, V.int pr, rfl, rfl, SqL.of upd_same, (by rw [hj]; exact atI_nat hpr), ?_⟩⟩
      have hsq := sq_le hc0 hc'
      have hpow : CPow (sd + 95291 * (c + 1) * (c + 1) + 143) 3 := ⟨by decide, by decide, by omega⟩
      refine ⟨_, rfl, p, _, _, _, rfl, rfl, SqL.of hp2, rfl, _, rfl, p, _, _, _, rfl, rfl, SqL.of hp2, rfl, _, _, rfl, rfl, .inl ⟨by decide, by decide⟩, _, rfl, p, _, _, _, rfl, rfl, SqL.of hp2, rfl, _, _, rfl, rfl, .inr ⟨by omega, by omega⟩,
        _, _, rfl, rfl, _, _, rfl, rfl, .inl ⟨_, rfl, _, _, rfl, rfl, hpow, .inl ⟨_, rfl, _, rfl, _, _, rfl, rfl, hp0, ?_⟩⟩⟩
      have hb0 := Int.emod_nonneg ((sd + 95291 * (c + 1) * (c + 1) + 143) ^ Int.toNat 3) (show pr ≠ 0 by omega)
      have hb1 := Int.emod_lt_of_pos ((sd + 95291 * (c + 1) * (c + 1) + 143) ^ Int.toNat 3) hp0
      refine ⟨_, rfl, _, rfl, .inl ⟨_, rfl, _, _, rfl, rfl, (by decide : (0 : Int) < 10039), _, rfl, p, _, _, _, rfl, rfl, SqL.of hp2, rfl, _, _, rfl, rfl, .inl ⟨by decide, by decide⟩, _, _, rfl, rfl, _, _, rfl, rfl, .inl ⟨by omega, by omega⟩,
        _, _, rfl, rfl, ⟨by decide, by decide⟩, .inl ⟨_, rfl, _, rfl, _, _, rfl, rfl, hu0, ?_⟩⟩⟩
      refine q _ _ (Int.emod_nonneg _ (by omega)) (Int.emod_lt_of_pos _ hu0) ((Ext.upd p H _).trans (Ext.of (same_new hl))) ⟨_, hp2, _, _, _, rfl, ha, hs0, hs1, by omega, by omega⟩
theorem scO : FnScope ["_law_pot_here", "_law_some"] ["_law_pot_here", "_law_some"] (defScope sOf) := ⟨rfl, rfl, rfl, by decide +kernel, rfl, by decide +kernel, by decide +kernel⟩
theorem ok_of {fT : Addr} {fdT : FuncData} (F : FnP K "_law_of" sOf f fd) (B : Blt mg) (FT : FnP K "_law_take" sTake fT fdT) (gT : mg "_law_take" = some (.ref fT)) : FnOk P w K mg base CX0 2 f fd ["_law_pot_here", "_law_some"] spOf := by
  have GT : FnOk P w K mg base CX0 1 fT fdT ["_law_pot_here", "_law_upto"] spTake := ok_take FT B
  have bT : Binds K fdT ["_law_pot_here", "_law_upto"] [] := FT.bindsN fun _ _ _ _ _ _ us hl => match us, hl with | [_, _], _ => rfl
  refine F.ok scO (fun vs H Q E h => ?_) (fun cdv A outer s H vs Q E hr h => ?_)
  · obtain ⟨p, l, xs, n, rfl, _⟩ := h
    rfl
  · obtain ⟨p, l, xs, n, rfl, hp, hn, hl, nlp, h0, h1, q⟩ := h
    refine ⟨_, PSs.nox (pss_one (ps_ret (pe_ix ix_list (pv 1) (pe_call GT hr rfl gT FT.kp bT .nil pass0 (pa_cons (pv 0) (pa_cons (pe_callB call_len_seq (by rfl) B.len PySem.boot_len (pa_cons (pv 1) pa_nil)) pa_nil))) (fun _ _ => rfl)))), ?_⟩
    refine ⟨_, rfl, _, rfl, _, rfl, l, xs, rfl, .inl (SqL.of hl), p, _, n, rfl, hp, hn, (by omega), (by omega), fun r H' r0 r1 x hp' => ?_⟩
    obtain ⟨i, rfl⟩ : ∃ i : Nat, r = (i : Int) := ⟨r.toNat, by omega⟩
    have hi : i < xs.length := by omega
    exact ⟨l, xs, _, xs[i], rfl, rfl, SqL.of (x l _ nlp hl), atI_nat (List.getElem?_eq_getElem hi), q i _ H' (List.getElem?_eq_getElem hi) x hp'⟩
theorem scL : FnScope ["_law_script", "_law_most"] ["_law_script", "_law_most"] (defScope sPlaces) := ⟨rfl, rfl, rfl, by decide +kernel, rfl, by decide +kernel, by decide +kernel⟩
theorem ok_places (F : FnP K "_law_places" sPlaces f fd) (B : Blt mg) {m : Nat} (hm : m ≤ 60) : FnOk P w K mg base CX0 1 f fd ["_law_script", "_law_most"] (spPlaces K m) := by
  refine F.ok scL (fun vs H Q E h => ?_) (fun cdv A outer s H vs Q E hr h => ?_)
  · obtain ⟨a, ns, rfl, _⟩ := h
    rfl
  · obtain ⟨a, ns, rfl, hS, hn, q⟩ := h
    refine ⟨_, PSs.nox (pss_one (ps_ret (pe_listRg rfl (by rfl) B.list (prg_1 (by rfl) B.range (pe_callB (call_max2 rfl) (by rfl) B.max boot_max (pa_cons pe_int (pa_cons (pe_callB (call_min2 rfl) (by rfl) B.min boot_min (pa_cons (pv 1) (pa_cons (pe_callB call_len_seq (by rfl) B.len PySem.boot_len (pa_cons (pv 0) pa_nil)) pa_nil))) pa_nil))))))), ?_⟩
    refine ⟨_, rfl, _, rfl, a, _, rfl, .inl hS, _, _, rfl, _, _, rfl, _, rfl, ?_⟩
    have key : ∀ N : Int, 0 ≤ N → N ≤ 64 → N.toNat ≤ max 1 m → RgOk 0 N ∧ ∀ p, H p = none → Q (.ref p) (L2.upd H p (.lst (rgV 0 N))) := fun N h0 h1 h2 =>
      ⟨RgOk.of_le (by omega) (by omega) (by omega) h0, fun p hp => q p _ N.toNat (same_new hp) hp h2 (by
        rw [upd_same]
        unfold rgV
        simp)⟩
    refine key _ ?_ ?_ ?_ <;> (repeat' split) <;> omega
theorem scD : FnScope ["_law_pot_here", "_law_some", "_law_more"] ["_law_pot_here"] (defScope sOdd) := ⟨rfl, rfl, rfl, by decide +kernel, rfl, by decide +kernel, by decide +kernel⟩
theorem ok_odd {fO : Addr} {fdO : FuncData} (F : FnP K "_law_odd" sOdd f fd) (FO : FnP K "_law_of" sOf fO fdO) (gO : mg "_law_of" = some (.ref fO)) (GO : FnOk P w K mg base CX0 2 fO fdO ["_law_pot_here", "_law_some"] spOf) : FnOk P w K mg base CX0 3 f fd ["_law_pot_here"] spOdd := by
  have bO : Binds K fdO ["_law_pot_here", "_law_some"] [] := FO.bindsN fun _ _ _ _ _ _ us hl => match us, hl with | [_, _], _ => rfl
  refine F.ok scD (fun vs H Q E h => ?_) (fun cdv A outer s H vs Q E hr h => ?_)
  · obtain ⟨p, n, rfl, _⟩ := h
    rfl
  · obtain ⟨p, n, rfl, hp, hn, q⟩ := h
    refine ⟨_, PSs.nox (pss_cons (ps_set (i := 1) scD.nd rfl (Or.inl rfl) (pe_dlstL (pa_dcons pe_dnon (pa_dcons pe_dbl (pa_dcons pe_dbl (pa_dcons pe_dint (pa_dcons pe_dint (pa_dcons pe_dneg (pa_dcons pe_dint (pa_dcons pe_dint (pa_dcons pe_dstr (pa_dcons pe_dstr (pa_dcons pe_dstr (pa_dcons pe_dstr (pa_dcons pe_dstr (pa_dcons (pe_dtup pa_dnil) (pa_dcons (pe_dlst pa_dnil) (pa_dcons pe_dnil (pa_dcons (pe_dtup (pa_dcons pe_dint pa_dnil)) (pa_dcons (pe_dtup (pa_dcons (pe_dtup pa_dnil) pa_dnil)) (pa_dcons (pe_dlst (pa_dcons pe_dint pa_dnil)) (pa_dcons (pe_dtup (pa_dcons pe_dstr pa_dnil)) pa_dnil))))))))))))))))))))))
      (pss_cons (ps_set (i := 2) scD.nd rfl (Or.inl rfl) (pe_dlstL (pa_dcons (pe_ddict1 pe_dint) (pa_dcons (pe_dtup (pa_dcons pe_dstr (pa_dcons pe_dstr pa_dnil))) (pa_dcons (pe_dtup (pa_dcons pe_dstr (pa_dcons pe_dstr pa_dnil))) (pa_dcons (pe_dtup (pa_dcons (pe_dtup (pa_dcons pe_dstr (pa_dcons pe_dstr pa_dnil))) pa_dnil)) (pa_dcons (pe_dtup (pa_dcons pe_dstr (pa_dcons pe_dstr (pa_dcons pe_dstr pa_dnil)))) (pa_dcons (pe_dpow ⟨by decide, by decide, by decide⟩) (pa_dcons (pe_dlst (pa_dcons pe_dstr pa_dnil)) (pa_dcons (pe_dtup (pa_dcons (pe_dtup (pa_dcons pe_dstr (pa_dcons pe_dstr pa_dnil))) (pa_dcons pe_dstr pa_dnil))) pa_dnil))))))))))
      (pss_one (ps_ret (pe_call GO hr rfl gO FO.kp bO .nil pass0 (pa_cons (pv 0) (pa_cons (pe_op op_cat (pv 1) (pv 2)) pa_nil))))))), ?_⟩
    intro p1 v1 H1 s1 n1 e1 d1 p2 v2 H2 s2 n2 e2 d2
    refine ⟨_, rfl, _, rfl, _, rfl, p1, p2, v1, v2, rfl, rfl, s2 _ _ e1, e2, ?_, fun l hl => ?_⟩
    · rw [d1.len, d2.len]
      decide
    have s3 : Same H (L2.upd H2 l (.lst (v1 ++ v2))) := (s1.trans s2).trans (same_new hl)
    obtain ⟨o, ho, hpo⟩ := hp
    refine ⟨p, l, v1 ++ v2, n, rfl, ⟨o, s3 _ _ ho, hpo⟩, hn, upd_same, (fun z => by rw [z] at hl; rw [(s1.trans s2) _ _ ho] at hl; cases hl), ?_, ?_, fun i x H' hx e hp' => ?_⟩
    · rw [List.length_append, d1.len, d2.len]
      decide
    · rw [List.length_append, d1.len, d2.len]
      decide
    have dd := (d1.same (newIn_mono s2)).append (d2.same (newIn_preS s1))
    have hi : i < oddD.length := by
      have z := (List.getElem?_eq_some_iff.mp hx).1
      rw [dd.len] at z
      exact z
    have hd := dd.at_ i x oddD[i] hx (List.getElem?_eq_getElem hi)
    refine q x oddD[i] H' (List.getElem_mem hi) ((Ext.of s3).trans e) hp' (hd.same ?_)
    exact fun b u z => newIn_ext (p := p) (by rw [ho]; exact fun z => nomatch z) ((Ext.of (same_new hl)).trans e) b u z
end
end K00

set_option Elab.async false
set_option linter.all false
set_option maxRecDepth 100000
set_option maxHeartbeats 4000000
namespace K00
open PySem PySem.Spec PySem.W PySem.Calls PyProof.Rows L2 MX
abbrev FnE (K : PySem.W.Frag) (f : Addr) (fd : FuncData) : Prop := FunD K "__init__" "MeetError.__init__" (defArgs sErr) (defBody sErr) (defScope sErr) [] [] f fd
def cls (K : PySem.W.Frag) : List Addr := [He.ga K "BadHall", He.ga K "NoPerson", He.ga K "Alone", He.ga K "BadEvent", He.ga K "BadTimeline", He.ga K "BadSaying", He.ga K "BadSayings", He.ga K "Full", He.ga K "NoSaying", He.ga K "OtherHall", He.ga K "BadCases", He.ga K "NoTimeline", He.ga K "BadClaim", He.ga K "BadNumber", He.ga K "BadOrder", He.ga K "BadOffers", He.ga K "BadWishes", He.ga K "Contrary", He.ga K "NothingToUndo", He.ga K "NothingToRedo", He.ga K "NoTrial", He.ga K "BadJournal", He.ga K "BadLine"]
structure Err (K : PySem.W.Frag) (mg : Str → Option Value) (fI : Addr) : Prop where
  g : ∀ x, x ∈ errs → mg x = some (.ref (He.ga K x)) ∧ ExcT K (He.ga K x) fI
def spMade (K : PySem.W.Frag) : Sp := fun vs H Q _ => ∃ v, vs = [v] ∧ ∀ (l : Addr) (as : List Addr) (H' : Hp), Same H H' → H l = none → H' l = some (.lst (as.map V.ref)) → Excs H' v as (cls K) → Q (.ref l) H'
def spMarks (K : PySem.W.Frag) : Sp := fun vs H Q _ => ∃ (a D fI d : Addr) (fs : List (Str × V)), vs = [.ref a] ∧ ExcT K D fI ∧ H a = some (exo a D (some d)) ∧ H d = some (exd d fs) ∧
  (∀ C ∈ cls K, ∃ b, PySem.W.kitOne K (.ref D) (.ref C) = some b) ∧ ∀ (l : Addr) (H' : Hp), Same H H' → H l = none → H' l = some (.lst (((cls K).map (kb K D)).map V.bl)) → Q (.ref l) H'
section
variable {P : Program} {w : World} {K : PySem.W.Frag} {mg : Str → Option Value} {base : Heap} {f : Addr} {fd : FuncData}
theorem scMd : FnScope ["_law_value", "_law_found"] ["_law_value"] (defScope sMade) := ⟨rfl, rfl, rfl, by decide +kernel, rfl, by decide +kernel, by decide +kernel⟩
theorem ok_made {fI : Addr} {fdI : FuncData} (F : FnP K "_law_made" sMade f fd) (FI : FnE K fI fdI) (E : Err K mg fI) : FnOk P w K mg base CX0 3 f fd ["_law_value"] (spMade K) := by
  have GI : FnOk P w K mg base CX0 1 fI fdI ["self", "value"] (spErr K) := ok_err FI
  have bI : Binds K fdI ["self", "value"] [] := FI.bindsN fun _ _ _ _ _ _ us hl => match us, hl with | [_, _], _ => rfl
  refine F.ok scMd (fun vs H Q X h => ?_) (fun cdv A outer s H vs Q X hr h => ?_)
  · obtain ⟨v, rfl, _⟩ := h
    rfl
  · obtain ⟨v, rfl, q⟩ := h
    refine ⟨_, PSs.nox (pss_cons (ps_set (i := 1) scMd.nd rfl (Or.inl rfl) (pe_lst (pa_econs (pe_exc (i := 0) (E.g "BadHall" (by decide +kernel)).2 GI hr bI (E.g "BadHall" (by decide +kernel)).1) (pa_econs (pe_exc (i := 0) (E.g "NoPerson" (by decide +kernel)).2 GI hr bI (E.g "NoPerson" (by decide +kernel)).1) (pa_econs (pe_exc (i := 0) (E.g "Alone" (by decide +kernel)).2 GI hr bI (E.g "Alone" (by decide +kernel)).1) pa_enil)))))
      (pss_cons (ps_expr (pe_bm PySem.F.plainAttrs_list PySem.F.slot_list_extend PySem.F.type_list_extend mt_extend (pv 1) (pa_cons (pe_lst (pa_econs (pe_exc (i := 0) (E.g "BadEvent" (by decide +kernel)).2 GI hr bI (E.g "BadEvent" (by decide +kernel)).1) (pa_econs (pe_exc (i := 0) (E.g "BadTimeline" (by decide +kernel)).2 GI hr bI (E.g "BadTimeline" (by decide +kernel)).1) (pa_econs (pe_exc (i := 0) (E.g "BadSaying" (by decide +kernel)).2 GI hr bI (E.g "BadSaying" (by decide +kernel)).1) pa_enil)))) pa_nil)))
      (pss_cons (ps_expr (pe_bm PySem.F.plainAttrs_list PySem.F.slot_list_extend PySem.F.type_list_extend mt_extend (pv 1) (pa_cons (pe_lst (pa_econs (pe_exc (i := 0) (E.g "BadSayings" (by decide +kernel)).2 GI hr bI (E.g "BadSayings" (by decide +kernel)).1) (pa_econs (pe_exc (i := 0) (E.g "Full" (by decide +kernel)).2 GI hr bI (E.g "Full" (by decide +kernel)).1) (pa_econs (pe_exc (i := 0) (E.g "NoSaying" (by decide +kernel)).2 GI hr bI (E.g "NoSaying" (by decide +kernel)).1) pa_enil)))) pa_nil)))
      (pss_cons (ps_expr (pe_bm PySem.F.plainAttrs_list PySem.F.slot_list_extend PySem.F.type_list_extend mt_extend (pv 1) (pa_cons (pe_lst (pa_econs (pe_exc (i := 0) (E.g "OtherHall" (by decide +kernel)).2 GI hr bI (E.g "OtherHall" (by decide +kernel)).1) (pa_econs (pe_exc (i := 0) (E.g "BadCases" (by decide +kernel)).2 GI hr bI (E.g "BadCases" (by decide +kernel)).1) (pa_econs (pe_exc (i := 0) (E.g "NoTimeline" (by decide +kernel)).2 GI hr bI (E.g "NoTimeline" (by decide +kernel)).1) pa_enil)))) pa_nil)))
      (pss_cons (ps_expr (pe_bm PySem.F.plainAttrs_list PySem.F.slot_list_extend PySem.F.type_list_extend mt_extend (pv 1) (pa_cons (pe_lst (pa_econs (pe_exc (i := 0) (E.g "BadClaim" (by decide +kernel)).2 GI hr bI (E.g "BadClaim" (by decide +kernel)).1) (pa_econs (pe_exc (i := 0) (E.g "BadNumber" (by decide +kernel)).2 GI hr bI (E.g "BadNumber" (by decide +kernel)).1) (pa_econs (pe_exc (i := 0) (E.g "BadOrder" (by decide +kernel)).2 GI hr bI (E.g "BadOrder" (by decide +kernel)).1) pa_enil)))) pa_nil)))
      (pss_cons (ps_expr (pe_bm PySem.F.plainAttrs_list PySem.F.slot_list_extend PySem.F.type_list_extend mt_extend (pv 1) (pa_cons (pe_lst (pa_econs (pe_exc (i := 0) (E.g "BadOffers" (by decide +kernel)).2 GI hr bI (E.g "BadOffers" (by decide +kernel)).1) (pa_econs (pe_exc (i := 0) (E.g "BadWishes" (by decide +kernel)).2 GI hr bI (E.g "BadWishes" (by decide +kernel)).1) (pa_econs (pe_exc (i := 0) (E.g "Contrary" (by decide +kernel)).2 GI hr bI (E.g "Contrary" (by decide +kernel)).1) pa_enil)))) pa_nil)))
      (pss_cons (ps_expr (pe_bm PySem.F.plainAttrs_list PySem.F.slot_list_extend PySem.F.type_list_extend mt_extend (pv 1) (pa_cons (pe_lst (pa_econs (pe_exc (i := 0) (E.g "NothingToUndo" (by decide +kernel)).2 GI hr bI (E.g "NothingToUndo" (by decide +kernel)).1) (pa_econs (pe_exc (i := 0) (E.g "NothingToRedo" (by decide +kernel)).2 GI hr bI (E.g "NothingToRedo" (by decide +kernel)).1) (pa_econs (pe_exc (i := 0) (E.g "NoTrial" (by decide +kernel)).2 GI hr bI (E.g "NoTrial" (by decide +kernel)).1) pa_enil)))) pa_nil)))
      (pss_cons (ps_expr (pe_bm PySem.F.plainAttrs_list PySem.F.slot_list_extend PySem.F.type_list_extend mt_extend (pv 1) (pa_cons (pe_lst (pa_econs (pe_exc (i := 0) (E.g "BadJournal" (by decide +kernel)).2 GI hr bI (E.g "BadJournal" (by decide +kernel)).1) (pa_econs (pe_exc (i := 0) (E.g "BadLine" (by decide +kernel)).2 GI hr bI (E.g "BadLine" (by decide +kernel)).1) pa_enil))) pa_nil)))
      (pss_one (ps_ret (pv 1))))))))))), ?_⟩
    refine ⟨v, rfl, fun as H1 sH x => ⟨(by rw [List.length_map, x.len]; simp [sizeLine_eq]), fun l hl => ?_⟩⟩
    have eL : (L2.upd H1 l (.lst (as.map V.ref))) l = some (.lst (as.map V.ref)) := upd_same
    have nL : H l = none := sH.free hl
    replace x := x.same (same_new (o := .lst (as.map V.ref)) hl)
    replace sH := sH.trans (same_new (o := .lst (as.map V.ref)) hl)
    refine ⟨_, rfl, .inl ⟨rfl, _, SqL.of eL⟩, v, rfl, fun bs H1 s1 y => ⟨(by rw [List.length_map, y.len]; simp [sizeLine_eq]), fun b hb => ⟨l, b, _, _, rfl, rfl, same_new hb _ _ (s1 _ _ eL), upd_same, (by rw [List.length_map, List.length_map, x.len, y.len]; simp [sizeLine_eq]), ?_⟩⟩⟩
    obtain ⟨as, sH, nL, eL, x⟩ := MadeSt.step sH nL eL x s1 y hb
    refine ⟨_, rfl, .inl ⟨rfl, _, SqL.of eL⟩, v, rfl, fun bs H1 s1 y => ⟨(by rw [List.length_map, y.len]; simp [sizeLine_eq]), fun b hb => ⟨l, b, _, _, rfl, rfl, same_new hb _ _ (s1 _ _ eL), upd_same, (by rw [List.length_map, List.length_map, x.len, y.len]; simp [sizeLine_eq]), ?_⟩⟩⟩
    obtain ⟨as, sH, nL, eL, x⟩ := MadeSt.step sH nL eL x s1 y hb
    refine ⟨_, rfl, .inl ⟨rfl, _, SqL.of eL⟩, v, rfl, fun bs H1 s1 y => ⟨(by rw [List.length_map, y.len]; simp [sizeLine_eq]), fun b hb => ⟨l, b, _, _, rfl, rfl, same_new hb _ _ (s1 _ _ eL), upd_same, (by rw [List.length_map, List.length_map, x.len, y.len]; simp [sizeLine_eq]), ?_⟩⟩⟩
    obtain ⟨as, sH, nL, eL, x⟩ := MadeSt.step sH nL eL x s1 y hb
    refine ⟨_, rfl, .inl ⟨rfl, _, SqL.of eL⟩, v, rfl, fun bs H1 s1 y => ⟨(by rw [List.length_map, y.len]; simp [sizeLine_eq]), fun b hb => ⟨l, b, _, _, rfl, rfl, same_new hb _ _ (s1 _ _ eL), upd_same, (by rw [List.length_map, List.length_map, x.len, y.len]; simp [sizeLine_eq]), ?_⟩⟩⟩
    obtain ⟨as, sH, nL, eL, x⟩ := MadeSt.step sH nL eL x s1 y hb
    refine ⟨_, rfl, .inl ⟨rfl, _, SqL.of eL⟩, v, rfl, fun bs H1 s1 y => ⟨(by rw [List.length_map, y.len]; simp [sizeLine_eq]), fun b hb => ⟨l, b, _, _, rfl, rfl, same_new hb _ _ (s1 _ _ eL), upd_same, (by rw [List.length_map, List.length_map, x.len, y.len]; simp [sizeLine_eq]), ?_⟩⟩⟩
    obtain ⟨as, sH, nL, eL, x⟩ := MadeSt.step sH nL eL x s1 y hb
    refine ⟨_, rfl, .inl ⟨rfl, _, SqL.of eL⟩, v, rfl, fun bs H1 s1 y => ⟨(by rw [List.length_map, y.len]; simp [sizeLine_eq]), fun b hb => ⟨l, b, _, _, rfl, rfl, same_new hb _ _ (s1 _ _ eL), upd_same, (by rw [List.length_map, List.length_map, x.len, y.len]; simp [sizeLine_eq]), ?_⟩⟩⟩
    obtain ⟨as, sH, nL, eL, x⟩ := MadeSt.step sH nL eL x s1 y hb
    refine ⟨_, rfl, .inl ⟨rfl, _, SqL.of eL⟩, v, rfl, fun bs H1 s1 y => ⟨(by rw [List.length_map, y.len]; simp [sizeLine_eq]), fun b hb => ⟨l, b, _, _, rfl, rfl, same_new hb _ _ (s1 _ _ eL), upd_same, (by rw [List.length_map, List.length_map, x.len, y.len]; simp [sizeLine_eq]), ?_⟩⟩⟩
    obtain ⟨as, sH, nL, eL, x⟩ := MadeSt.step sH nL eL x s1 y hb
    exact ⟨_, rfl, q l as _ sH nL eL x⟩
theorem scMk : FnScope ["_law_error", "_law_found"] ["_law_error"] (defScope sMarks) := ⟨rfl, rfl, rfl, by decide +kernel, rfl, by decide +kernel, by decide +kernel⟩
theorem ok_marks {fI : Addr} (F : FnP K "_law_marks" sMarks f fd) (B : Blt mg) (E : Err K mg fI) : FnOk P w K mg base CX0 1 f fd ["_law_error"] (spMarks K) := by
  refine F.ok scMk (fun vs H Q X h => ?_) (fun cdv A outer s H vs Q X hr h => ?_)
  · obtain ⟨a, D, fI, d, fs, rfl, _⟩ := h
    rfl
  · obtain ⟨a, D, fI, d, fs, rfl, T, ea, ed, hk, q⟩ := h
    refine ⟨_, PSs.nox (pss_cons (ps_set (i := 1) scMk.nd rfl (Or.inl rfl) (pe_lst (pa_icons (i := 0) (pa_icons (i := 0) (pa_icons (i := 0) pa_inil B.isi rfl (E.g "Alone" (by decide +kernel)).1) B.isi rfl (E.g "NoPerson" (by decide +kernel)).1) B.isi rfl (E.g "BadHall" (by decide +kernel)).1)))
      (pss_cons (ps_expr (pe_bm PySem.F.plainAttrs_list PySem.F.slot_list_extend PySem.F.type_list_extend mt_extend (pv 1) (pa_cons (pe_lst (pa_icons (i := 0) (pa_icons (i := 0) (pa_icons (i := 0) pa_inil B.isi rfl (E.g "BadSaying" (by decide +kernel)).1) B.isi rfl (E.g "BadTimeline" (by decide +kernel)).1) B.isi rfl (E.g "BadEvent" (by decide +kernel)).1)) pa_nil)))
      (pss_cons (ps_expr (pe_bm PySem.F.plainAttrs_list PySem.F.slot_list_extend PySem.F.type_list_extend mt_extend (pv 1) (pa_cons (pe_lst (pa_icons (i := 0) (pa_icons (i := 0) (pa_icons (i := 0) pa_inil B.isi rfl (E.g "NoSaying" (by decide +kernel)).1) B.isi rfl (E.g "Full" (by decide +kernel)).1) B.isi rfl (E.g "BadSayings" (by decide +kernel)).1)) pa_nil)))
      (pss_cons (ps_expr (pe_bm PySem.F.plainAttrs_list PySem.F.slot_list_extend PySem.F.type_list_extend mt_extend (pv 1) (pa_cons (pe_lst (pa_icons (i := 0) (pa_icons (i := 0) (pa_icons (i := 0) pa_inil B.isi rfl (E.g "NoTimeline" (by decide +kernel)).1) B.isi rfl (E.g "BadCases" (by decide +kernel)).1) B.isi rfl (E.g "OtherHall" (by decide +kernel)).1)) pa_nil)))
      (pss_cons (ps_expr (pe_bm PySem.F.plainAttrs_list PySem.F.slot_list_extend PySem.F.type_list_extend mt_extend (pv 1) (pa_cons (pe_lst (pa_icons (i := 0) (pa_icons (i := 0) (pa_icons (i := 0) pa_inil B.isi rfl (E.g "BadOrder" (by decide +kernel)).1) B.isi rfl (E.g "BadNumber" (by decide +kernel)).1) B.isi rfl (E.g "BadClaim" (by decide +kernel)).1)) pa_nil)))
      (pss_cons (ps_expr (pe_bm PySem.F.plainAttrs_list PySem.F.slot_list_extend PySem.F.type_list_extend mt_extend (pv 1) (pa_cons (pe_lst (pa_icons (i := 0) (pa_icons (i := 0) (pa_icons (i := 0) pa_inil B.isi rfl (E.g "Contrary" (by decide +kernel)).1) B.isi rfl (E.g "BadWishes" (by decide +kernel)).1) B.isi rfl (E.g "BadOffers" (by decide +kernel)).1)) pa_nil)))
      (pss_cons (ps_expr (pe_bm PySem.F.plainAttrs_list PySem.F.slot_list_extend PySem.F.type_list_extend mt_extend (pv 1) (pa_cons (pe_lst (pa_icons (i := 0) (pa_icons (i := 0) (pa_icons (i := 0) pa_inil B.isi rfl (E.g "NoTrial" (by decide +kernel)).1) B.isi rfl (E.g "NothingToRedo" (by decide +kernel)).1) B.isi rfl (E.g "NothingToUndo" (by decide +kernel)).1)) pa_nil)))
      (pss_cons (ps_expr (pe_bm PySem.F.plainAttrs_list PySem.F.slot_list_extend PySem.F.type_list_extend mt_extend (pv 1) (pa_cons (pe_lst (pa_icons (i := 0) (pa_icons (i := 0) pa_inil B.isi rfl (E.g "BadLine" (by decide +kernel)).1) B.isi rfl (E.g "BadJournal" (by decide +kernel)).1)) pa_nil)))
      (pss_one (ps_ret (pv 1))))))))))), ?_⟩
    unfold cls at hk
    refine ⟨a, D, fI, d, fs, rfl, T, ea, ed, (fun C hC => hk C (by simp only [List.mem_cons, List.not_mem_nil, or_false] at hC ⊢; rcases hC with hC | hC | hC <;> simp [hC])), (by simp [sizeLine_eq]), fun l hl => ?_⟩
    have m : MarkSt K H (L2.upd H l (.lst (([He.ga K "BadHall", He.ga K "NoPerson", He.ga K "Alone"].map (kb K D)).map V.bl))) l D [He.ga K "BadHall", He.ga K "NoPerson", He.ga K "Alone"] := ⟨same_new hl, hl, upd_same⟩
    refine ⟨_, rfl, .inl ⟨rfl, _, SqL.of m.2.2⟩, a, D, fI, d, fs, rfl, T, m.1 _ _ ea, m.1 _ _ ed, (fun C hC => hk C (by simp only [List.mem_cons, List.not_mem_nil, or_false] at hC ⊢; rcases hC with hC | hC | hC <;> simp [hC])), (by simp [sizeLine_eq]), fun b hb => ⟨l, b, _, _, rfl, rfl, same_new hb _ _ m.2.2, upd_same, (by simp [sizeLine_eq]), ?_⟩⟩
    replace m := MarkSt.step (Ds := [He.ga K "BadEvent", He.ga K "BadTimeline", He.ga K "BadSaying"]) m hb
    refine ⟨_, rfl, .inl ⟨rfl, _, SqL.of m.2.2⟩, a, D, fI, d, fs, rfl, T, m.1 _ _ ea, m.1 _ _ ed, (fun C hC => hk C (by simp only [List.mem_cons, List.not_mem_nil, or_false] at hC ⊢; rcases hC with hC | hC | hC <;> simp [hC])), (by simp [sizeLine_eq]), fun b hb => ⟨l, b, _, _, rfl, rfl, same_new hb _ _ m.2.2, upd_same, (by simp [sizeLine_eq]), ?_⟩⟩
    replace m := MarkSt.step (Ds := [He.ga K "BadSayings", He.ga K "Full", He.ga K "NoSaying"]) m hb
    refine ⟨_, rfl, .inl ⟨rfl, _, SqL.of m.2.2⟩, a, D, fI, d, fs, rfl, T, m.1 _ _ ea, m.1 _ _ ed, (fun C hC => hk C (by simp only [List.mem_cons, List.not_mem_nil, or_false] at hC ⊢; rcases hC with hC | hC | hC <;> simp [hC])), (by simp [sizeLine_eq]), fun b hb => ⟨l, b, _, _, rfl, rfl, same_new hb _ _ m.2.2, upd_same, (by simp [sizeLine_eq]), ?_⟩⟩
    replace m := MarkSt.step (Ds := [He.ga K "OtherHall", He.ga K "BadCases", He.ga K "NoTimeline"]) m hb
    refine ⟨_, rfl, .inl ⟨rfl, _, SqL.of m.2.2⟩, a, D, fI, d, fs, rfl, T, m.1 _ _ ea, m.1 _ _ ed, (fun C hC => hk C (by simp only [List.mem_cons, List.not_mem_nil, or_false] at hC ⊢; rcases hC with hC | hC | hC <;> simp [hC])), (by simp [sizeLine_eq]), fun b hb => ⟨l, b, _, _, rfl, rfl, same_new hb _ _ m.2.2, upd_same, (by simp [sizeLine_eq]), ?_⟩⟩
    replace m := MarkSt.step (Ds := [He.ga K "BadClaim", He.ga K "BadNumber", He.ga K "BadOrder"]) m hb
    refine ⟨_, rfl, .inl ⟨rfl, _, SqL.of m.2.2⟩, a, D, fI, d, fs, rfl, T, m.1 _ _ ea, m.1 _ _ ed, (fun C hC => hk C (by simp only [List.mem_cons, List.not_mem_nil, or_false] at hC ⊢; rcases hC with hC | hC | hC <;> simp [hC])), (by simp [sizeLine_eq]), fun b hb => ⟨l, b, _, _, rfl, rfl, same_new hb _ _ m.2.2, upd_same, (by simp [sizeLine_eq]), ?_⟩⟩
    replace m := MarkSt.step (Ds := [He.ga K "BadOffers", He.ga K "BadWishes", He.ga K "Contrary"]) m hb
    refine ⟨_, rfl, .inl ⟨rfl, _, SqL.of m.2.2⟩, a, D, fI, d, fs, rfl, T, m.1 _ _ ea, m.1 _ _ ed, (fun C hC => hk C (by simp only [List.mem_cons, List.not_mem_nil, or_false] at hC ⊢; rcases hC with hC | hC | hC <;> simp [hC])), (by simp [sizeLine_eq]), fun b hb => ⟨l, b, _, _, rfl, rfl, same_new hb _ _ m.2.2, upd_same, (by simp [sizeLine_eq]), ?_⟩⟩
    replace m := MarkSt.step (Ds := [He.ga K "NothingToUndo", He.ga K "NothingToRedo", He.ga K "NoTrial"]) m hb
    refine ⟨_, rfl, .inl ⟨rfl, _, SqL.of m.2.2⟩, a, D, fI, d, fs, rfl, T, m.1 _ _ ea, m.1 _ _ ed, (fun C hC => hk C (by simp only [List.mem_cons, List.not_mem_nil, or_false] at hC ⊢; rcases hC with hC | hC <;> simp [hC])), (by simp [sizeLine_eq]), fun b hb => ⟨l, b, _, _, rfl, rfl, same_new hb _ _ m.2.2, upd_same, (by simp [sizeLine_eq]), ?_⟩⟩
    replace m := MarkSt.step (Ds := [He.ga K "BadJournal", He.ga K "BadLine"]) m hb
    exact ⟨_, rfl, q l _ m.1 m.2.1 m.2.2⟩
end
end K00

set_option Elab.async false
set_option linter.all false
set_option maxRecDepth 100000
set_option maxHeartbeats 4000000
namespace K00
open PySem PySem.Spec PySem.W PySem.Calls PyProof.Rows L2 MX
def showsB (d : PyData) : Bool := d.showable && (decide (d.depth ≤ 60) && decide (d.shown.length ≤ sizeLine))
theorem showsB_ok {d : PyData} (h : showsB d = true) : Shows d := by
  obtain ⟨h1, h2⟩ := He.ba h
  obtain ⟨h3, h4⟩ := He.ba h2
  exact ⟨h1, of_decide_eq_true h3, of_decide_eq_true h4⟩
theorem odd_shows : (oddD.all fun d => showsB d && (showsB (.tuple [d, .int 3]) && (showsB (.list [d]) && showsB (.dict [(.str "a", d)])))) = true := by decide +kernel
theorem odd_all {d : PyData} (h : d ∈ oddD) : Shows d ∧ Shows (.tuple [d, .int 3]) ∧ Shows (.list [d]) ∧ Shows (.dict [(.str "a", d)]) := by
  have z := List.all_eq_true.mp odd_shows d h
  obtain ⟨h1, z⟩ := He.ba z
  obtain ⟨h2, z⟩ := He.ba z
  obtain ⟨h3, h4⟩ := He.ba z
  exact ⟨showsB_ok h1, showsB_ok h2, showsB_ok h3, showsB_ok h4⟩
/-- what the head tells of the classes -/
structure Kit (K : PySem.W.Frag) (mg : Str → Option Value) (fI : Addr) : Prop where
  e : Err K mg fI
  gM : mg "MeetError" = some (.ref (He.ga K "MeetError"))
  tM : ExcT K (He.ga K "MeetError") fI
  ve : ∀ x, x ∈ errs → PySem.W.kitOne K (.ref (He.ga K x)) (.type "ValueError") = some true
  me : ∀ x, x ∈ errs → PySem.W.kitOne K (.ref (He.ga K x)) (.ref (He.ga K "MeetError")) = some true
  mv : PySem.W.kitOne K (.ref (He.ga K "MeetError")) (.type "ValueError") = some true
  mx : ∀ x, x ∈ errs → PySem.W.kitOne K (.ref (He.ga K "MeetError")) (.ref (He.ga K x)) = some false
  xx : ∀ x y, x ∈ errs → y ∈ errs → PySem.W.kitOne K (.ref (He.ga K x)) (.ref (He.ga K y)) = some (decide (x = y))
theorem cls_eq (K : PySem.W.Frag) : cls K = errs.map (He.ga K) := rfl
def spRight : Sp := fun vs H Q _ => ∃ (p : Addr), vs = [.ref p] ∧ Pot 0 H p ∧ ∀ H', Ext p H H' → Q (.bl true) H'
theorem ext_free {p b : Addr} {H H' : Hp} (e : Ext p H H') (hp' : H' p ≠ none) (h : H' b = none) : H b = none := by
  cases q : H b with
  | none => rfl
  | some u =>
    by_cases hb : b = p
    · rw [hb] at h
      exact absurd h hp'
    · rw [e b u hb q] at h
      cases h
theorem up {p : Addr} {H Ha Hb Hc : Hp} {v : V} {d : PyData} (h : Dq (newIn Ha Hb) v d) (e : Ext p H Ha) (ha : Ha p ≠ none) (e2 : Ext p Hb Hc) : Dq (newIn H Hc) v d :=
  (h.same (newIn_ext ha e2)).same (newIn_pre ha e)
theorem neP {n : Nat} {H : Hp} {p t : Addr} (hp : Pot n H p) (ht : H t = none) : t ≠ p := fun z => hp.some (z ▸ ht)
theorem potUp {n : Nat} {H : Hp} {p t : Addr} {o : HO} (hp : Pot n H p) (ht : H t = none) : Pot n (L2.upd H t o) p := let ⟨u, h, q⟩ := hp; ⟨u, same_new ht _ _ h, q⟩
theorem potMono {m n : Nat} {H : Hp} {p : Addr} (h : Pot m H p) (l : m ≤ n) : Pot n H p := let ⟨o, e, q⟩ := h; ⟨o, e, q.mono l⟩
theorem dp_bools {K : PySem.W.Frag} {H : Hp} : ∀ bs : List Bool, DpAll K H (bs.map V.bl) (bs.map PyData.bool)
  | [] => .nil
  | b :: bs => .cons (.bl b) (dp_bools bs)
theorem lay_bools : ∀ bs : List Bool, PyData.canLayAll0 (bs.map PyData.bool) = true
  | [] => by simp [PyData.canLayAll0]
  | b :: bs => by simp [PyData.canLayAll0, PyData.canLay0, lay_bools bs]
theorem deep_bools : ∀ bs : List Bool, PyData.depthAll (bs.map PyData.bool) = 0
  | [] => by simp [PyData.depthAll]
  | b :: bs => by simp [PyData.depthAll, PyData.depth, deep_bools bs]
theorem shaped_bools (bs : List Bool) : SeqAt.shaped (.list (bs.map PyData.bool)) = true := by
  have h1 : PyData.canLay0 (.list (bs.map PyData.bool)) = true := by
    simp only [PyData.canLay0]
    exact lay_bools bs
  have h2 : PyData.depth (.list (bs.map PyData.bool)) ≤ 64 := by
    simp only [PyData.depth, deep_bools bs]
    omega
  show (PyData.canLay0 _ && decide (PyData.depth _ ≤ 64)) = true
  rw [h1, decide_eq_true h2] <;> rfl
theorem eqv_bools : ∀ bs : List Bool, PyData.eqvAll (bs.map PyData.bool) (bs.map PyData.bool) = true
  | [] => by simp [PyData.eqvAll]
  | b :: bs => by simp [PyData.eqvAll, PyData.eqv, eqv_bools bs]
theorem errs_nodup : errs.Nodup := by decide +kernel
theorem marks_eq {K : PySem.W.Frag} {mg : Str → Option Value} {fI : Addr} (Z : Kit K mg fI) {i : Nat} {c : Str} (hc : errs[i]? = some c) :
    (cls K).map (kb K (He.ga K c)) = (List.range errs.length).map fun j => decide (i = j) := by
  apply List.ext_getElem?
  intro j
  rw [cls_eq, List.map_map, List.getElem?_map, List.getElem?_map]
  by_cases hj : j < errs.length
  · have ej : errs[j]? = some errs[j] := List.getElem?_eq_getElem hj
    rw [ej, List.getElem?_range hj, Option.map_some, Option.map_some]
    have e : kb K (He.ga K c) (He.ga K errs[j]) = decide (i = j) := by
      unfold kb
      rw [Z.xx c errs[j] (List.mem_of_getElem? hc) (List.getElem_mem hj)]
      by_cases h : i = j
      · subst h
        rw [ej] at hc
        rw [Option.some.inj hc]
        simp
      · have h' : c ≠ errs[j] := fun z => by
          rw [z] at hc
          obtain ⟨hi, z2⟩ := List.getElem?_eq_some_iff.mp hc
          exact h ((List.getElem_inj errs_nodup).mp z2)
        simp [h, h']
    exact congrArg some e
  · rw [List.getElem?_eq_none (by omega), List.getElem?_eq_none (by rw [List.length_range]; omega)]
    rfl
section
variable {P : Program} {w : World} {K : PySem.W.Frag} {mg : Str → Option Value} {base : Heap} {f : Addr} {fd : FuncData}
theorem scR : FnScope ["_law_pot_here", "_law_value", "_law_made_here", "_law_spot", "_law_error", "_law_base", "_law_place"] ["_law_pot_here"] (defScope sRight) := ⟨rfl, rfl, rfl, by decide +kernel, rfl, by decide +kernel, by decide +kernel⟩
theorem ok_right {fI fO fD fM fK : Addr} {fdI fdO fdD fdM fdK : FuncData} (F : FnP K "_law_right" sRight f fd) (B : Blt mg) (Z : Kit K mg fI) (FI : FnE K fI fdI)
    (FO : FnP K "_law_of" sOf fO fdO) (gO : mg "_law_of" = some (.ref fO)) (GO : FnOk P w K mg base CX0 2 fO fdO ["_law_pot_here", "_law_some"] spOf)
    (FD : FnP K "_law_odd" sOdd fD fdD) (gD : mg "_law_odd" = some (.ref fD)) (GD : FnOk P w K mg base CX0 3 fD fdD ["_law_pot_here"] spOdd)
    (FM : FnP K "_law_made" sMade fM fdM) (gM : mg "_law_made" = some (.ref fM)) (GM : FnOk P w K mg base CX0 3 fM fdM ["_law_value"] (spMade K))
    (FK : FnP K "_law_marks" sMarks fK fdK) (gK : mg "_law_marks" = some (.ref fK)) (GK : FnOk P w K mg base CX0 1 fK fdK ["_law_error"] (spMarks K)) :
    FnG P w K mg base CX0 5 f fd ["_law_pot_here"] spRight := by
  have GI : FnOk P w K mg base CX0 1 fI fdI ["self", "value"] (spErr K) := ok_err FI
  have bI : Binds K fdI ["self", "value"] [] := FI.bindsN fun _ _ _ _ _ _ us hl => match us, hl with | [_, _], _ => rfl
  have bO : Binds K fdO ["_law_pot_here", "_law_some"] [] := FO.bindsN fun _ _ _ _ _ _ us hl => match us, hl with | [_, _], _ => rfl
  have bD : Binds K fdD ["_law_pot_here"] [] := FD.bindsN fun _ _ _ _ _ _ us hl => match us, hl with | [_], _ => rfl
  have bM : Binds K fdM ["_law_value"] [] := FM.bindsN fun _ _ _ _ _ _ us hl => match us, hl with | [_], _ => rfl
  have bK : Binds K fdK ["_law_error"] [] := FK.bindsN fun _ _ _ _ _ _ us hl => match us, hl with | [_], _ => rfl
  refine okG F scR (fun vs H Q E h => ?_) (fun cdv A outer s H vs Q E hrg h => ?_)
  · obtain ⟨p, rfl, _⟩ := h
    rfl
  · obtain ⟨p, rfl, hp0, q⟩ := h
    have hr := hrg.r
    have hr2 := hr.mono (show 2 ≤ 4 by decide)
    have hr3 := hr.mono (show 3 ≤ 4 by decide)
    have hr1 := hr.mono (show 1 ≤ 4 by decide)
    have hu := hr.units
    refine ⟨_, PSs.nox (pss_cons (ps_set (i := 1) scR.nd rfl (Or.inl rfl) (pe_call GO hr2 rfl gO FO.kp bO .nil pass0 (pa_cons (pv 0) (pa_cons (pe_lst
        (pa_cons (pe_call GD hr3 rfl gD FD.kp bD .nil pass0 (pa_cons (pv 0) pa_nil))
        (pa_cons (pe_tup (pa_cons (pe_call GD hr3 rfl gD FD.kp bD .nil pass0 (pa_cons (pv 0) pa_nil)) (pa_cons pe_int pa_nil)))
        (pa_cons (pe_lstN (pa_cons (pe_call GD hr3 rfl gD FD.kp bD .nil pass0 (pa_cons (pv 0) pa_nil)) pa_nil))
        (pa_cons (pe_disp (pps_cons pe_str (pe_call GD hr3 rfl gD FD.kp bD .nil pass0 (pa_cons (pv 0) pa_nil)) pps_nil) rfl rfl (by simp) (by show 1 ≤ 15; omega)) pa_nil))))) pa_nil))))
      (pss_cons (ps_set (i := 2) scR.nd rfl (Or.inl rfl) (pe_call GM hr3 rfl gM FM.kp bM .nil pass0 (pa_cons (pv 1) pa_nil)))
      (pss_cons (ps_for PassesOwn.never rfl (pi_enum (by rfl) B.enum (pa_cons (pv 2) pa_nil)) (pg_tup rfl (pgs_cons (pg_name (i := 3) scR.nd rfl (Or.inr rfl)) (pgs_cons (pg_name (i := 4) scR.nd rfl (Or.inl rfl)) pgs_nil)))
        (pss_cons (ps_if (PW.pt (pw_or (pt_not (pt_val (pe_callB call_isX (by rfl) B.isi (by decide +kernel) (pa_cons (pv 4) (pa_cons (pe_glob rfl Z.gM (show RelV (.ref _) (.ref _) from rfl)) pa_nil)))))
            (pw_or1 (pt_not (pt_val (pe_callB call_isX (by rfl) B.isi (by decide +kernel) (pa_cons (pv 4) (pa_cons (pe_bltn (v := .ty "ValueError") (by rfl) B.ve PyProof.Rows.Boot.«ValueError» rfl) pa_nil))))))))
          (pss_one (ps_ret pe_bl)) pss_nil)
        (pss_one (ps_if (PW.pt (pw_or (pt_cmpR op_ne (pe_callB (call_repr hrg.g hu) (by rfl) B.repr bootS_repr (pa_cons (pe_xa (pv 4)) pa_nil)) (pe_callB (call_repr hrg.g hu) (by rfl) B.repr bootS_repr (pa_cons (pv 1) pa_nil)) (nomark _))
            (pw_or1 (pt_cmpR (op_neD hu) (pe_call GK hr1 rfl gK FK.kp bK .nil pass0 (pa_cons (pv 4) pa_nil))
              (pe_lc (own := [("_law_place", 6)]) (g := gName 6) (tt := tYes) rfl scR.nd (pi_range1 rfl B.range (pa_cons (pe_callB call_len_seq (by rfl) B.len PySem.boot_len (pa_cons (pv 2) pa_nil)) pa_nil))
                (blkOk_by (N := ["_law_pot_here", "_law_value", "_law_made_here", "_law_spot", "_law_error", "_law_base", "_law_place"]) (sc := defScope sRight) (by decide +kernel))
                (fun _ _ _ _ _ => pg_name (i := 6) scR.nd rfl (Or.inl rfl)) (fun _ _ _ _ _ => pts_nil) (fun _ _ _ _ _ => pe_cmpR op_eq (pv 3) (pv 6) (nomark _))) (nomark _)))))
          (pss_one (ps_ret pe_bl)) pss_nil))))
      (pss_cons (ps_set (i := 5) scR.nd rfl (Or.inl rfl) (pe_exc (i := 1) Z.tM GI hr2 bI Z.gM))
      (pss_one (ps_ret (pe_and (pe_cmpR op_eq (pe_callB (call_repr hrg.g hu) (by rfl) B.repr bootS_repr (pa_cons (pe_xa (pv 5)) pa_nil)) (pe_callB (call_repr hrg.g hu) (by rfl) B.repr bootS_repr (pa_cons (pv 1) pa_nil)) (nomark _))
        (pe_and (pe_callB call_isX (by rfl) B.isi (by decide +kernel) (pa_cons (pv 5) (pa_cons (pe_bltn (v := .ty "ValueError") (by rfl) B.ve PyProof.Rows.Boot.«ValueError» rfl) pa_nil)))
        (pe_one (pe_not (pe_callB (cr_any rfl) (by rfl) B.any boot_any (pa_cons (pe_call GK hr1 rfl gK FK.kp bK .nil pass0 (pa_cons (pv 5) pa_nil)) pa_nil)))))))))))), ?_⟩
    refine ⟨_, rfl, _, rfl, p, 0, rfl, hp0, by omega, fun v1 d1 H1 m1 e1 hp1 q1 => ?_⟩
    refine ⟨_, rfl, p, 1, rfl, hp1, by omega, fun v2 d2 H2 m2 e2 hp2 q2 => ?_⟩
    refine ⟨(by show 2 ≤ sizeLine; decide), fun t ht => ?_⟩
    refine ⟨_, rfl, p, 2, rfl, potUp hp2 ht, by omega, fun v3 d3 H3 m3 e3 hp3 q3 => ?_⟩
    refine ⟨(by show 1 ≤ sizeLine; decide), fun l3 hl3 nl3 => ?_⟩
    intro pd hpd
    have hp3' : Pot 3 (L2.upd (L2.upd H3 l3 (.lst [v3])) pd (.dK [])) p := potUp (potUp hp3 hl3) hpd
    refine ⟨_, rfl, p, 3, rfl, hp3', by omega, fun v4 d4 H4 m4 e4 hp4 q4 => ?_⟩
    have npd : pd ≠ p := neP (potUp hp3 hl3) hpd
    have hpd4 : H4 pd = some (.dK []) := e4 _ _ npd upd_same
    refine ⟨hpd4, [(Sum.inr "a", v4)], rfl, (by show 1 ≤ 15; omega), ?_⟩
    refine ⟨(by show 4 ≤ sizeLine; decide), fun l hl => ?_⟩
    -- the value: one of the four
    let H8 := L2.upd H4 pd (.dK (mergeK [] [(Sum.inr "a", v4)]))
    have hl8 : H8 l = none := hl
    have npd4 : H4 pd ≠ none := by rw [hpd4]; exact fun z => nomatch z
    have hl4 : H4 l = none := by
      by_cases hb : l = pd
      · rw [hb] at hl8
        have z : H8 pd = some (.dK (mergeK [] [(Sum.inr "a", v4)])) := upd_same
        rw [z] at hl8
        cases hl8
      · exact (upd_ne hb).symm.trans hl8
    have hp8 : Pot 4 H8 p := by
      obtain ⟨o, ho, hq⟩ := hp4
      exact ⟨o, (upd_ne (Ne.symm npd)).trans ho, hq⟩
    have hp9 : Pot 4 (L2.upd H8 l (.lst [v1, .ref t, .ref l3, .ref pd])) p := potUp hp8 hl8
    refine ⟨p, l, [v1, .ref t, .ref l3, .ref pd], 4, rfl, hp9, by omega, upd_same, neP hp8 hl8, (by show 0 < 4; omega), (by show 4 < 1000; omega), fun i x H5 hx e5 hp5 => ?_⟩
    have nH : H p ≠ none := hp0.some
    have ntp : t ≠ p := neP hp2 ht
    have nlp : l3 ≠ p := neP hp3 hl3
    have A2 : Ext p H H2 := e1.trans e2
    have A2' : Ext p H (L2.upd H2 t (.tup [v2, .int 3])) := A2.trans (Ext.of (same_new ht))
    have A3 : Ext p H H3 := A2'.trans e3
    have A3' : Ext p H (L2.upd H3 l3 (.lst [v3])) := A3.trans (Ext.of (same_new hl3))
    have A3'' : Ext p H (L2.upd (L2.upd H3 l3 (.lst [v3])) pd (.dK [])) := A3'.trans (Ext.of (same_new hpd))
    have A4 : Ext p H H4 := A3''.trans e4
    have hpdH : H pd = none := ext_free A3' (potUp hp3 hl3).some hpd
    have x48' : ∀ b o, b ≠ p → b ≠ pd → H4 b = some o → H5 b = some o := fun b o n1 n2 h => e5 b o n1 (same_new hl8 _ _ ((upd_ne n2).trans h))
    have B2 : ∀ b o, b ≠ p → (L2.upd H2 t (.tup [v2, .int 3])) b = some o → (L2.upd (L2.upd H3 l3 (.lst [v3])) pd (.dK [])) b = some o := fun b o n h => same_new hpd _ _ (same_new hl3 _ _ (e3 b o n h))
    have E15 : Ext p H1 H5 := fun b o n h => by
      have h3 := B2 b o n (same_new ht _ _ (e2 b o n h))
      have nb : b ≠ pd := fun z => by
        have := e3 b o n (same_new ht _ _ (e2 b o n h))
        rw [z] at this
        rw [same_new hl3 _ _ this] at hpd
        cases hpd
      exact x48' b o n nb (e4 b o n h3)
    have E2t5 : Ext p (L2.upd H2 t (.tup [v2, .int 3])) H5 := fun b o n h => by
      have h3 := e3 b o n h
      have nb : b ≠ pd := fun z => by
        rw [z] at h3
        rw [same_new hl3 _ _ h3] at hpd
        cases hpd
      exact x48' b o n nb (e4 b o n (B2 b o n h))
    have E3l5 : Ext p (L2.upd H3 l3 (.lst [v3])) H5 := fun b o n h => by
      have nb : b ≠ pd := fun z => by
        rw [z, hpd] at h
        cases h
      exact x48' b o n nb (e4 b o n (same_new hpd _ _ h))
    have E05 : Ext p H H5 := e1.trans E15
    have pd5 : H5 pd = some (.dK (mergeK [] [(Sum.inr "a", v4)])) := e5 _ _ npd (same_new hl8 _ _ upd_same)
    obtain ⟨D, hD, hsh⟩ : ∃ D, Dq (newIn H H5) x D ∧ Shows D := by
      have hi : i < 4 := (List.getElem?_eq_some_iff.mp hx).1
      match i, hi, hx with
      | 0, _, hx =>
        obtain rfl : v1 = x := Option.some.inj hx
        exact ⟨d1, q1.same (newIn_ext nH E15), (odd_all m1).1⟩
      | 1, _, hx =>
        obtain rfl : V.ref t = x := Option.some.inj hx
        refine ⟨_, .tup (newIn_of (ext_free A2 hp2.some ht) (E2t5 t _ ntp upd_same)) rfl ?_, (odd_all m2).2.1⟩
        intro j y d h1 h2
        match j, h1, h2 with
        | 0, h1, h2 =>
          obtain rfl : v2 = y := Option.some.inj h1
          obtain rfl : d2 = d := Option.some.inj h2
          exact up q2 e1 hp1.some ((Ext.of (same_new ht)).trans E2t5)
        | 1, h1, h2 =>
          obtain rfl : V.int 3 = y := Option.some.inj h1
          obtain rfl : PyData.int 3 = d := Option.some.inj h2
          exact .int 3
      | 2, _, hx =>
        obtain rfl : V.ref l3 = x := Option.some.inj hx
        refine ⟨_, .lst (newIn_of (ext_free A3 hp3.some hl3) (E3l5 l3 _ nlp upd_same)) nl3 rfl ?_, (odd_all m3).2.2.1⟩
        intro j y d h1 h2
        match j, h1, h2 with
        | 0, h1, h2 =>
          obtain rfl : v3 = y := Option.some.inj h1
          obtain rfl : d3 = d := Option.some.inj h2
          exact up q3 A2' (potUp hp2 ht).some ((Ext.of (same_new hl3)).trans E3l5)
      | 3, _, hx =>
        obtain rfl : V.ref pd = x := Option.some.inj hx
        refine ⟨_, .dct (kvs := [(Sum.inr "a", v4)]) (newIn_of hpdH pd5) rfl ?_, (odd_all m4).2.2.2⟩
        intro j y d h1 h2
        match j, h1, h2 with
        | 0, h1, h2 =>
          obtain rfl : v4 = y := Option.some.inj h1
          obtain rfl : d4 = d := Option.some.inj h2
          refine q4.same fun b o z => ?_
          obtain ⟨z0, z1⟩ := newIn_inv z
          have nb : b ≠ pd := fun e => by
            rw [e, upd_same] at z0
            cases z0
          have nbp : b ≠ p := fun e => hp3'.some (e ▸ z0)
          exact newIn_of (ext_free A3'' hp3'.some z0) (x48' b o nbp nb z1)
    have hD5 : Dq H5 x D := hD.same newIn_same
    -- made
    refine ⟨_, rfl, x, rfl, fun l as H6 s6 nl6 eL ex => ?_⟩
    have hal : as.length = (cls K).length := ex.len
    have cls_kits : ∀ {c : Str}, c ∈ errs → ∀ C ∈ cls K, ∃ b, PySem.W.kitOne K (.ref (He.ga K c)) (.ref C) = some b := fun {c} hc C hC => by
      rw [cls_eq] at hC
      obtain ⟨y, hy, rfl⟩ := List.mem_map.mp hC
      exact ⟨_, Z.xx c y hc hy⟩
    have hn : (((as.map V.ref).length : Nat) : Int).toNat = errs.length := by
      rw [List.length_map, hal, cls_eq, List.length_map]
      omega
    refine ⟨_, rfl, l, _, rfl, SqL.of eL, for_it walk_enum (fun i σ H' => (∃ u1 u2, σ = [some (.ref p), some x, some (.ref l), u1, u2, none, none]) ∧ Same H6 H') ⟨⟨_, _, rfl⟩, Same.refl H6⟩ (fun i σ H' _ z => SqL.of (z.2 _ _ eL)) ?_ ?_⟩
    · rintro i y σ H' H'' hi ⟨⟨u1, u2, rfl⟩, s7⟩ ⟨T, a1, a2, rfl, hT, rfl, e1, e2⟩
      obtain rfl : V.int (i : Int) = a1 := Option.some.inj e1
      obtain ⟨a, ha, rfl⟩ : ∃ a, as[i]? = some a ∧ V.ref a = a2 := by
        have e3 : (as.map V.ref)[i]? = some a2 := e2
        rw [List.getElem?_map] at e3
        cases z : as[i]? with
        | none =>
          rw [z] at e3
          cases e3
        | some a =>
          rw [z] at e3
          exact ⟨a, rfl, Option.some.inj e3⟩
      obtain ⟨C, hC, xa⟩ := ex.at_ i a ha
      obtain ⟨c, hc, rfl⟩ : ∃ c, errs[i]? = some c ∧ He.ga K c = C := by
        rw [cls_eq, List.getElem?_map] at hC
        cases z : errs[i]? with
        | none =>
          rw [z] at hC
          cases hC
        | some c =>
          rw [z] at hC
          exact ⟨c, rfl, Option.some.inj hC⟩
      have hm : c ∈ errs := List.mem_of_getElem? hc
      have Tc := (Z.e.g c hm).2
      have s8 := s7.trans (same_new (o := .tup [V.int (i : Int), V.ref a]) hT)
      obtain ⟨d, ea, ed⟩ := xa.same s8
      refine ⟨T, _, rfl, SqT.of upd_same, rfl, _, _, rfl, _, _, rfl, rfl, ?_⟩
      refine ⟨_, rfl, a, _, fI, d, _, .ref _, .ref _, true, rfl, Tc, ea, ed, (fun u r => r), Z.me c hm, _, rfl, iteF ?_⟩
      refine ⟨_, rfl, a, _, fI, d, _, .ty _, .type _, true, rfl, Tc, ea, ed, (fun u r => r), Z.ve c hm, _, rfl, iteF ?_⟩
      refine ⟨_, rfl, a, _, fI, d, _, x, rfl, Tc, Tc.nv, ea, ed, rfl, x, D, rfl, hD5.same (s6.trans s8), hsh, _, rfl, x, D, rfl, hD5.same (s6.trans s8), hsh, rfl, _, rfl, ?_⟩
      refine iteNS rfl ?_
      refine ⟨_, rfl, a, _, fI, d, _, rfl, Tc, ea, ed, cls_kits hm, fun lm H9 s9 nlm eM => ?_⟩
      have s10 := s8.trans s9
      refine ⟨_, rfl, l, _, rfl, .inl (SqL.of (s10 _ _ eL)), _, rfl, ?_, ?_, fun Dl nDl => lc_range (fun k H' => H' Dl = some (.lst (((List.range k).map fun j => decide (i = j)).map V.bl)) ∧ Same H9 H') ⟨upd_same, same_new nDl⟩ ?_ ?_⟩
      · omega
      · rw [List.length_map, hal]
        show ((errs.map (He.ga K)).length : Int) < 2 ^ 62
        rw [List.length_map]
        decide +kernel
      · rintro k H' hk ⟨e, s⟩
        refine ⟨rfl, _, rfl, _, rfl, rfl, _, e, ?_, ?_, ?_⟩
        · rw [List.length_map, List.length_map, List.length_range, sizeLine_eq]
          have : errs.length = 23 := by decide +kernel
          omega
        · rw [upd_same, List.range_succ, List.map_append, List.map_append]
          have ei : decide (V.int (i : Int) = V.int (0 + (k : Int))) = decide (i = k) := by
            by_cases h : i = k
            · subst h
              simp
            · have h' : ¬ V.int (i : Int) = V.int (0 + (k : Int)) := fun z => h (by
                have z2 := V.int.inj z
                omega)
              rw [decide_eq_false h, decide_eq_false h']
          rw [ei]
          rfl
        · exact fun b o z => (upd_ne (ne_of_none z nDl)).trans (s b o z)
      · rintro H' ⟨e, s⟩
        rw [hn] at e
        refine ⟨_, _, .lst (SqL.of (s _ _ eM)) (dp_bools _), .lst (SqL.of e) (dp_bools _), shaped_bools _, shaped_bools _, _, rfl, ?_⟩
        rw [marks_eq Z hc]
        simp only [PyData.eqv, eqv_bools]
        exact ⟨⟨_, _, rfl⟩, s10.trans s⟩
    · rintro σ H' ⟨⟨u1, u2, rfl⟩, s7⟩
      refine ⟨x, rfl, fun a H8 s8 n8 xa => ?_⟩
      obtain ⟨d, ea, ed⟩ := xa
      have hD8 := hD5.same ((s6.trans s7).trans s8)
      refine ⟨_, rfl, a, _, fI, d, _, x, rfl, Z.tM, Z.tM.nv, ea, ed, rfl, x, D, rfl, hD8, hsh, _, rfl, x, D, rfl, hD8, hsh, rfl, _, rfl, ?_⟩
      rw [if_pos (decide_eq_true rfl)]
      refine ⟨_, rfl, a, _, fI, d, _, .ty _, .type _, true, rfl, Z.tM, ea, ed, (fun u r => r), Z.mv, _, rfl, iteT ?_⟩
      refine ⟨_, rfl, a, _, fI, d, _, rfl, Z.tM, ea, ed, ?_, fun lm H9 s9 nlm eM => ⟨lm, _, rfl, SqL.of eM, _, rfl, ?_⟩⟩
      · intro C hC
        rw [cls_eq] at hC
        obtain ⟨y, hy, rfl⟩ := List.mem_map.mp hC
        exact ⟨_, Z.mx y hy⟩
      · have e : ((cls K).map (kb K (He.ga K "MeetError"))).any id = false := by
          rw [List.any_eq_false]
          intro b hb
          obtain ⟨C, hC, rfl⟩ := List.mem_map.mp hb
          rw [cls_eq] at hC
          obtain ⟨y, hy, rfl⟩ := List.mem_map.mp hC
          unfold kb
          rw [Z.mx y hy]
          simp
        rw [e]
        exact q _ (E05.trans (Ext.of (((s6.trans s7).trans s8).trans s9)))
end
end K00

set_option Elab.async false
set_option linter.all false
set_option maxRecDepth 100000
set_option maxHeartbeats 4000000
namespace K00
open PySem PySem.Spec PySem.W PySem.Calls PyProof.Rows L2 MX
def spLaw (K : PySem.W.Frag) : Sp := fun vs H Q _ => ∃ (a : Addr) (ns : List Int), vs = [.ref a] ∧ SqL K H a (ns.map V.int) ∧ ns.length ≤ 63 ∧ ∀ H', Q (.bl true) H'
section
variable {P : Program} {w : World} {K : PySem.W.Frag} {mg : Str → Option Value} {base : Heap} {f : Addr} {fd : FuncData}
theorem scW : FnScope ["_law_script", "_law_place"] ["_law_script"] (defScope sLaw) := ⟨rfl, rfl, rfl, by decide +kernel, rfl, by decide +kernel, by decide +kernel⟩
theorem ok_law {fP fL fR : Addr} {fdP fdL fdR : FuncData} (F : FnP K "law" sLaw f fd) (B : Blt mg)
    (FP : FnP K "_law_pot" sPot fP fdP) (gP : mg "_law_pot" = some (.ref fP)) (GP : FnOk P w K mg base CX0 1 fP fdP ["_law_script", "_law_k"] (spPot K))
    (FL : FnP K "_law_places" sPlaces fL fdL) (gL : mg "_law_places" = some (.ref fL)) (GL : FnOk P w K mg base CX0 1 fL fdL ["_law_script", "_law_most"] (spPlaces K 4))
    (FR : FnP K "_law_right" sRight fR fdR) (gR : mg "_law_right" = some (.ref fR)) (GR : FnG P w K mg base CX0 5 fR fdR ["_law_pot_here"] spRight) :
    FnG P w K mg base CX0 6 f fd ["_law_script"] (spLaw K) := by
  have bP : Binds K fdP ["_law_script", "_law_k"] [] := FP.bindsN fun _ _ _ _ _ _ us hl => match us, hl with | [_, _], _ => rfl
  have bL : Binds K fdL ["_law_script", "_law_most"] [] := FL.bindsN fun _ _ _ _ _ _ us hl => match us, hl with | [_, _], _ => rfl
  have bR : Binds K fdR ["_law_pot_here"] [] := FR.bindsN fun _ _ _ _ _ _ us hl => match us, hl with | [_], _ => rfl
  refine okG F scW (fun vs H Q E h => ?_) (fun cdv A outer s H vs Q E hrg h => ?_)
  · obtain ⟨a, ns, rfl, _⟩ := h
    rfl
  · obtain ⟨a, ns, rfl, hS, hn, q⟩ := h
    have hr1 := hrg.r.mono (show 1 ≤ 5 by decide)
    refine ⟨_, PSs.nox (pss_one (ps_ret (pe_callB (cr_all rfl) (by rfl) B.all boot_all (pa_cons
      (pe_lc (own := [("_law_place", 1)]) (g := gName 1) (tt := tYes) rfl scW.nd (pi_list (pe_call GL hr1 rfl gL FL.kp bL .nil pass0 (pa_cons (pv 0) (pa_cons pe_int pa_nil))))
        (blkOk_by (N := ["_law_script", "_law_place"]) (sc := defScope sLaw) (by decide +kernel))
        (fun _ _ _ _ _ => pg_name (i := 1) scW.nd rfl (Or.inl rfl)) (fun _ _ _ _ _ => pts_nil)
        (fun _ _ _ _ _ => pe_callG GR hrg rfl gR FR.kp bR .nil pass0 (pa_cons (pe_call GP hr1 rfl gP FP.kp bP .nil pass0 (pa_cons (pv 0) (pa_cons (pv 1) pa_nil))) pa_nil))) pa_nil)))), ?_⟩
    refine ⟨_, rfl, a, ns, rfl, hS, hn, fun pl H1 t s1 n1 ht eP => ⟨pl, rfl, ⟨_, SqL.of eP⟩, fun D nD => lc_list (xs := (List.range t).map fun (i : Nat) => V.int (i : Int))
      (fun k H' => H' D = some (.lst ((List.replicate k true).map V.bl)) ∧ Same H1 H') ⟨upd_same, same_new nD⟩ (fun k H' _ z => SqL.of (z.2 _ _ eP)) ?_ ?_⟩⟩
    · rintro k x H' hx ⟨eD, s⟩
      have hk : k < t := by
        have z := (List.getElem?_eq_some_iff.mp hx).1
        rw [List.length_map, List.length_range] at z
        exact z
      obtain rfl : V.int (k : Int) = x := by
        rw [List.getElem?_map, List.getElem?_range hk] at hx
        exact Option.some.inj hx
      refine ⟨rfl, _, rfl, _, rfl, a, ns, k, rfl, (s1.trans s).seq hS, hn, by omega, fun p o hp ho => ?_⟩
      have sp := same_new (o := o) hp
      refine ⟨p, rfl, ⟨o, upd_same, ho⟩, fun H2 e2 => ⟨_, e2 _ _ (ne_of_none eD hp) (sp _ _ eD), ?_, ?_, ?_⟩⟩
      · rw [List.length_map, List.length_replicate, sizeLine_eq]
        omega
      · rw [upd_same, List.replicate_succ', List.map_append]
        rfl
      · intro b u z
        have nb : b ≠ D := ne_of_none z nD
        rw [upd_ne nb]
        exact e2 b u (ne_of_none (s b u z) hp) (sp _ _ (s b u z))
    · rintro H' ⟨eD, s⟩
      refine ⟨D, _, rfl, SqL.of eD, ?_⟩
      have e : ∀ n : Nat, ((List.replicate n true).all id) = true := fun n => by
        rw [List.all_eq_true]
        intro b hb
        rw [(List.mem_replicate.mp hb).2]
        rfl
      rw [e]
      exact q _
end
end K00

set_option Elab.async false
set_option linter.all false
set_option maxRecDepth 100000
set_option maxHeartbeats 4000000
namespace K00
open PySem PySem.Spec PySem.W PySem.Calls PyProof.Rows L2 MX
theorem fact_of {fa : List He.Fa} {fn : List He.DefD} {fx : PySem.W.Frag → Bool} {K : PySem.W.Frag} (c : SaysX fa fn fx K) {f : He.Fa} (hf : f ∈ fa) : f.ok K = true := by
  have c1 : (((fa.all fun f => f.ok K) && fn.all fun d => d.ok K) && fx K) = true := congrArg (fun z : He.AlD => z.1) c
  exact List.all_eq_true.mp (He.ba (He.ba c1).1).1 f hf
section
variable {P : Program} {w : World} {K : PySem.W.Frag} {h : Heap} {mg : Str → Option Value} {f : Addr}
theorem glo_of (X : K.In h) (G : h.Ns mainGlobals mg) (c : SaysX fa fn fx K) {x : Str} (hx : x ∈ glos) : mg x = some (.ref (He.ga K x)) :=
  He.glo_ok X G (fact_of c (List.mem_append_left _ (List.mem_map_of_mem hx)))
theorem blt_of (X : K.In h) (G : h.Ns mainGlobals mg) (c : SaysX fa fn fx K) {x : Str} (hx : x ∈ blts) : mg x = none :=
  He.free_ok X G (fact_of c (List.mem_append_right _ (List.mem_map_of_mem hx)))
theorem kit_of (X : K.In h) (G : h.Ns mainGlobals mg) (c : SaysX fa fn fx K) : Kit K mg (fI K) := by
  have hx := c.x
  unfold fx at hx
  obtain ⟨hx, h3⟩ := He.ba hx
  obtain ⟨h1, h2⟩ := He.ba hx
  obtain ⟨hM, hE⟩ := He.ba h1
  have all2 := List.all_eq_true.mp h2
  refine ⟨⟨fun x hx => ⟨glo_of X G c (List.mem_append_left _ hx), excB_ok (List.all_eq_true.mp hE x hx)⟩⟩, glo_of X G c (by decide +kernel), excB_ok hM, fun x hx => ?_, fun x hx => ?_, of_decide_eq_true h3, fun x hx => ?_, fun x y hx hy => ?_⟩
  · exact of_decide_eq_true (He.ba (all2 x hx)).1
  · exact of_decide_eq_true (He.ba (He.ba (all2 x hx)).2).1
  · exact of_decide_eq_true (He.ba (He.ba (He.ba (all2 x hx)).2).2).1
  · exact of_decide_eq_true (List.all_eq_true.mp (He.ba (He.ba (He.ba (all2 x hx)).2).2).2 y hy)
theorem blts_of (X : K.In h) (G : h.Ns mainGlobals mg) (c : SaysX fa fn fx K) : Blt mg where
  len := blt_of X G c (by decide +kernel)
  int := blt_of X G c (by decide +kernel)
  abs := blt_of X G c (by decide +kernel)
  range := blt_of X G c (by decide +kernel)
  max := blt_of X G c (by decide +kernel)
  min := blt_of X G c (by decide +kernel)
  list := blt_of X G c (by decide +kernel)
  isi := blt_of X G c (by decide +kernel)
  repr := blt_of X G c (by decide +kernel)
  enum := blt_of X G c (by decide +kernel)
  all := blt_of X G c (by decide +kernel)
  any := blt_of X G c (by decide +kernel)
  ve := blt_of X G c (by decide +kernel)
theorem facts (X : K.In h) (G : h.Ns mainGlobals mg) (hfa : mg ("law" : Str) = some (.ref f)) (c : SaysX fa fn fx K) :
    ∃ fd : FuncData, (∀ (s : Shared) (v : Value), BindsTo s fd ⟨[v], []⟩ [("_law_script", v)]) ∧ ∀ base : Heap, K.In base → base.Ns mainGlobals mg → FnG P w K mg base CX0 6 f fd ["_law_script"] (spLaw K) := by
  obtain ⟨fdI, FI⟩ := c.d.def_ 0
  obtain ⟨fdP, FP⟩ := c.d.def_ 1
  obtain ⟨fdT, FT⟩ := c.d.def_ 2
  obtain ⟨fdO, FO⟩ := c.d.def_ 3
  obtain ⟨fdL, FL⟩ := c.d.def_ 4
  obtain ⟨fdD, FD⟩ := c.d.def_ 5
  obtain ⟨fdM, FM⟩ := c.d.def_ 6
  obtain ⟨fdK, FK⟩ := c.d.def_ 7
  obtain ⟨fdR, FR⟩ := c.d.def_ 8
  obtain ⟨fdW, FW⟩ := c.d.def_ 9
  have g : ∀ {x : Str}, x ∈ glos → mg x = some (.ref (He.ga K x)) := fun hx => glo_of X G c hx
  have e := hfa.symm.trans (g (x := "law") (by decide +kernel))
  cases e
  have B := blts_of X G c
  have Z := kit_of X G c
  have b := FunD.bindsA (ps := ["_law_script"]) FW fun _ _ _ _ _ _ us hl => match us, hl with | [_], _ => rfl
  refine ⟨fdW, fun s v => b s [v] rfl, fun base _ _ => ?_⟩
  have gT := g (x := "_law_take") (by decide +kernel)
  have gO := g (x := "_law_of") (by decide +kernel)
  have GO : FnOk P w K mg base CX0 2 _ fdO ["_law_pot_here", "_law_some"] spOf := ok_of FO B FT gT
  have GD : FnOk P w K mg base CX0 3 _ fdD ["_law_pot_here"] spOdd := ok_odd FD FO gO GO
  exact ok_law FW B FP (g (by decide +kernel)) (ok_pot FP B) FL (g (by decide +kernel)) (ok_places FL B (by decide)) FR (g (by decide +kernel))
    (ok_right FR B Z FI FO gO GO FD (g (by decide +kernel)) GD FM (g (by decide +kernel)) (ok_made FM FI Z.e) FK (g (by decide +kernel)) (ok_marks FK B Z.e))
end
end K00
open PySem PySem.W PySem.Calls PyProof.Rows
set_option maxRecDepth 100000 in
set_option maxHeartbeats 0 in
theorem PySem.Challenge.cw_metonce_k00_errors_keep_their_values_holds : PySem.Challenge.rw_metonce_k00_errors_keep_their_values.Holds := by
  w_on; o_law
  refine HandSHeadRun.head_any (r := OpenLaw.row PySem.Challenge.rw_metonce_k00_errors_keep_their_values) (q := view (OpenLaw.row PySem.Challenge.rw_metonce_k00_errors_keep_their_values).prog [34]) (H := K00.hk) (ob := K00.ob) (M := 9000) (loose := K00.loose) (d := HandSHeadRun.topDef (OpenLaw.row PySem.Challenge.rw_metonce_k00_errors_keep_their_values).prog 34) (kwd := []) K00.ob_eq
    (by kernel_rfl) (fun s => by kernel_rfl) K00.run (by kernel_rfl) (by kernel_rfl) (by kernel_rfl) (by rfl) (by first | assumption | decide +kernel) (by decide +kernel) ⟨rfl, rfl, rfl, rfl, rfl, by decide +kernel⟩ ?hw ?hc
  case hw => w_witness2
  case hc =>
    refine MX.walk_g (l := PySem.Challenge.rw_metonce_k00_errors_keep_their_values) (n := 63) (k := 6) (x := "_law_script") rfl (by decide) (by kernel_rfl) ⟨⟨rfl, by decide, by decide⟩, rfl⟩ ?F
    intro w mg fa h Y G hmg0
    obtain ⟨K, KX, c⟩ := Y
    have hmg : mg ("law" : PySem.Str) = some (.ref fa) := by
      have e : (HandSHeadRun.topDef (OpenLaw.row PySem.Challenge.rw_metonce_k00_errors_keep_their_values).prog 34).name = ("law" : PySem.Str) := by kernel_rfl
      rw [← e]
      exact hmg0
    obtain ⟨fd, hb, hF⟩ := K00.facts (P := (PySem.Challenge.rw_metonce_k00_errors_keep_their_values).prog) (w := w) KX G hmg c
    exact ⟨K, fd, K00.spLaw K, KX, hb, fun H a ns hl _ hS => ⟨a, ns, rfl, hS, hl, fun _ => rfl⟩, hF⟩
#print axioms PySem.Challenge.cw_metonce_k00_errors_keep_their_values_holds
