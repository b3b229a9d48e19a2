import PyProof.Rows.All
import Wide.All
import OpenK.AllK
import Wide.FinOn
import KE.KStateDown
import KE.KExcIs
import HandS.ForMost
import HandS.Exc
import HandS.TryOnly
import HandS.ExcOwn
import HandS.ExcInit
import HandS.IsInst
import HandS.Wide
import HandS.Defaults
import HandS.Flow
import HandS.Conv
import HandS.Style
import HandS.EndBits
import HandS.Head0
import HandS.Head1
import HandS.Head2
import HandS.HeadEnd
import HandS.HeadHook1
import HandS.HeadHook2
import PyProof.ReprRoads
import HandS.Strs
import KE.GoesEnumKw
import HandS.Walk
import HandS.Star
import HandS.ForList
import HandS.WordsExc
import HandS.EndTab
import HandS.HeadHook3
import HandS.HeadHook4
import HandS.HeadWalk
import HandS.Lambda
import HandS.DictComp
import HandS.NamedTupGet
import HandS.TupLen
import HandS.Zip
import KE.GoesMore
import HandS.Rev
import HandS.TupSets
import KE.KSortTupG
import HandS.Codes
import HandS.Deep
import PyProof.ReprLen
import HandS.TupAny
import HandS.TupMul
import HandS.TupLe
import PyProof.EqKinds
import PyProof.P3In
import KE.KEqDict
import HandS.OwnEq
import PyProof.InstEq
import KE.DataMinMax
import KE.KUnpack
import PyProof.CollectIter
import KE.KOpsOwn
import HandS.MakeKwOnly
import HandS.MakeKw
import PySem.Challenge.RW_metonce_k15_arguments_by_their_names
set_option Elab.async false
set_option linter.all false
set_option maxRecDepth 100000
set_option maxHeartbeats 4000000
namespace MX
open PySem PySem.Spec PyProof.Rows L2
/-! the head's facts, with a check of one's own -/
def obsX (fa : List He.Fa) (fn : List He.DefD) (fx : PySem.W.Frag → Bool) (K : PySem.W.Frag) : He.AlD :=
  (((fa.all fun f => f.ok K) && fn.all fun d => d.ok K) && fx K, fn.map fun d => He.fnW K d.at_)
def SaysX (fa : List He.Fa) (fn : List He.DefD) (fx : PySem.W.Frag → Bool) (K : PySem.W.Frag) : Prop := obsX fa fn fx K = He.valD fn
def obsXG (n : Nat) (fa : List He.Fa) (fn : List He.DefD) (fx : PySem.W.Frag → Bool) (g : Addr → Option Obj) : He.AlD := obsX fa fn fx (He.frG g (He.asD g n))
def hookX (n : Nat) (fa : List He.Fa) (fn : List He.DefD) (fx : PySem.W.Frag → Bool) : PySem.W.Hook where
  α := He.AlD
  obs := fun s => obsXG n fa fn fx s.heap.get?
  val := fun _ => He.valD fn
  says := fun _ h => ∃ K : PySem.W.Frag, K.In h ∧ SaysX fa fn fx K
  of := fun _ _ e => ⟨_, He.frG_in, e⟩
  keeps := fun _ _ _ ⟨K, hK, c⟩ k => ⟨K, PySem.W.Frag.In.keeps hK k, c⟩
section
variable {fa : List He.Fa} {fn : List He.DefD} {fx : PySem.W.Frag → Bool} {K : PySem.W.Frag}
theorem SaysX.d (c : SaysX fa fn fx K) : He.SaysD fa fn K := by
  have c1 : (((fa.all fun f => f.ok K) && fn.all fun d => d.ok K) && fx K) = true := congrArg (fun z : He.AlD => z.1) c
  have c2 : fn.map (fun d => He.fnW K d.at_) = fn.map He.DefD.val := congrArg (fun z : He.AlD => z.2) c
  show (_, _) = (_, _)
  rw [(He.ba c1).1, c2]
theorem SaysX.x (c : SaysX fa fn fx K) : fx K = true := by
  have c1 : (((fa.all fun f => f.ok K) && fn.all fun d => d.ok K) && fx K) = true := congrArg (fun z : He.AlD => z.1) c
  exact (He.ba c1).2
end
/-! exception classes over ValueError that share one __init__ -/
/-- the class x of the module: what is wanted of K -/
def excB (K : PySem.W.Frag) (C fI : Addr) : Bool :=
  (match K.lookup C with
   | some ⟨.type "type", _, .cls cd, sl⟩ => (match cd.mro, sl.toList with
     | .ref C' :: bm, [_, _, _, _, some (.builtin n), _] => C' == C && n == "ValueError.__new__" && !cd.hasDel && cd.hasDict && PySem.HandSPX.refsVE bm
     | _, _ => false)
   | _ => false)
  && (He.eqO (PySem.W.findIn K (.ref C) "__setattr__") (some (some (.builtin "object.__setattr__")))
  && (decide (PySem.W.subIn K (.ref C) (.type "BaseException") = some true)
  && (decide (PySem.W.typeIn K (.ref C) = some (.type "type"))
  && (PySem.W.keepIn K (.ref C)
  && (He.eqO (PySem.W.findIn K (.ref C) "__getattribute__") (some (some (.builtin "BaseException.__getattribute__")))
  && (He.eqO (PySem.W.findIn K (.ref C) "__getattr__") (some none)
  && (He.eqO (PySem.W.findIn K (.ref C) "__class__") (some (some (.builtin "object.__class__")))
  && (He.eqO (PySem.W.specialIn K (.builtin "object.__class__") "__get__") (some (some (.builtin "getset_descriptor.__get__")))
  && (decide (PySem.W.takesIn K (.builtin "object.__class__") = some true)
  && (decide (PySem.W.mroIn K C (.type "object") = some true)
  && (He.eqO (PySem.W.findIn K (.ref C) "value") (some none)
  && (He.eqO (PySem.W.findIn K (.ref C) "__init__") (some (some (.ref fI)))
  && decide (PySem.W.typeIn K (.ref fI) = some (.type "function"))))))))))))))
structure ExcT (K : PySem.W.Frag) (C fI : Addr) : Prop where
  oex : OexC K C
  ga : PySem.W.findIn K (.ref C) "__getattribute__" = some (some (.builtin "BaseException.__getattribute__"))
  gg : PySem.W.findIn K (.ref C) "__getattr__" = some none
  hd : PySem.W.hasDictIn K C = true
  cl : (PySem.W.clsIn K C).isSome = true
  ha : PySem.W.findIn K (.ref C) "__class__" = some (some (.builtin "object.__class__"))
  hn : PySem.W.specialIn K (.builtin "object.__class__") "__get__" = some (some (.builtin "getset_descriptor.__get__"))
  ht : PySem.W.takesIn K (.builtin "object.__class__") = some true
  hm : PySem.W.mroIn K C (.type "object") = some true
  nv : PySem.W.findIn K (.ref C) "value" = some none
  ic : PySem.W.findIn K (.ref C) "__init__" = some (some (.ref fI))
  ti : PySem.W.typeIn K (.ref fI) = some (.type "function")
theorem excB_ok {K : PySem.W.Frag} {C fI : Addr} (h : excB K C fI = true) : ExcT K C fI := by
  obtain ⟨h1, h⟩ := He.ba h
  obtain ⟨h2, h⟩ := He.ba h
  obtain ⟨h3, h⟩ := He.ba h
  obtain ⟨h4, h⟩ := He.ba h
  obtain ⟨h5, h⟩ := He.ba h
  obtain ⟨h6, h⟩ := He.ba h
  obtain ⟨h7, h⟩ := He.ba h
  obtain ⟨h8, h⟩ := He.ba h
  obtain ⟨h9, h⟩ := He.ba h
  obtain ⟨h10, h⟩ := He.ba h
  obtain ⟨h11, h⟩ := He.ba h
  obtain ⟨h12, h⟩ := He.ba h
  obtain ⟨h13, h14⟩ := He.ba h
  split at h1
  · rename_i dd cd sl ho
    split at h1
    · rename_i C' bm k0 k1 k2 k3 n k5 hm hs
      simp only [Bool.and_eq_true, beq_iff_eq, Bool.not_eq_true'] at h1
      obtain ⟨⟨⟨⟨rfl, rfl⟩, hdel⟩, hdi⟩, ht⟩ := h1
      obtain ⟨nm, bs, mro, ns, qn, hd, sn, sub, ab, col, del⟩ := cd
      dsimp only at hm hdel hdi
      subst hm hdel hdi
      have hsl : sl = #[k0, k1, k2, k3, some (.builtin "ValueError.__new__"), k5] := by
        obtain ⟨l⟩ := sl
        simp only at hs
        rw [hs]
      subst hsl
      have hcl : PySem.W.clsIn K C' = some { name := nm, bases := bs, mro := .ref C' :: bm, ns := ns, qualname := qn, hasDict := true, slotNames := sn, subclasses := sub, abstract := ab, collection := col, hasDel := false } := by unfold PySem.W.clsIn; rw [ho] <;> rfl
      exact ⟨⟨⟨nm, qn, ns, bs, bm, sn, sub, ab, col, dd, k0, k1, k2, k3, k5, ho, ht⟩, He.eqO_ok h2, of_decide_eq_true h3, of_decide_eq_true h4, h5⟩,
        He.eqO_ok h6, He.eqO_ok h7, by unfold PySem.W.hasDictIn; rw [hcl] <;> rfl, by rw [hcl]; rfl, He.eqO_ok h8, He.eqO_ok h9, of_decide_eq_true h10, of_decide_eq_true h11, He.eqO_ok h12, He.eqO_ok h13, of_decide_eq_true h14⟩
    · cases h1
  · cases h1
end MX

set_option Elab.async false
set_option linter.all false
set_option maxRecDepth 100000
set_option maxHeartbeats 4000000
namespace MX
open PySem PySem.Spec PySem.W PySem.Calls PyProof.Rows L2
/-! ### calls where no repr runs around -/
structure RoomG (k : Nat) (A : Around) : Prop where
  r : Room k A
  g : A.guards = some []
theorem RoomG.mono {j k : Nat} {A : Around} (x : RoomG k A) (h : j ≤ k) : RoomG j A := ⟨x.r.mono h, x.g⟩
theorem RoomG.deeper {k : Nat} {A : Around} (x : RoomG (k + 1) A) (env : Env) : RoomG k (A.deeper env) := ⟨x.r.deeper env, x.g⟩
/-- a def's promise, where no repr runs around -/
structure FnG (P : Program) (w : World) (K : PySem.W.Frag) (mg : Str → Option Value) (base : Heap) (CX : CXT) (k : Nat) (f : Addr) (fd : FuncData) (ps : List Str) (sp : Sp) : Prop where
  len : ∀ vs H Q E, sp vs H Q E → vs.length = ps.length
  run : ∀ (A : Around) (out : List PySem.Env) (s : Shared) (H : Hp) (gs : Args) (us : List Value) (vs : List V) (Q : VK) (E : XK),
    RoomG k A → Env0 P w K mg base A out s H → BindsTo s fd gs (ps.zip us) → Vals vs us → sp vs H Q E →
    codeAny (model P w) A (.call (.ref f) gs) (CR CX out P w H s Q E) s
section
variable {P : Program} {w : World} {K : PySem.W.Frag} {mg : Str → Option Value} {base : Heap} {CX : CXT} {k : Nat} {f : Addr} {fd : FuncData} {ps : List Str} {sp : Sp}
theorem gOf (F : FnOk P w K mg base CX k f fd ps sp) : FnG P w K mg base CX k f fd ps sp :=
  ⟨F.len, fun A out s H gs us vs Q E h => F.run A out s H gs us vs Q E h.r⟩
/-- a def of the text, its body walked where no repr runs around -/
theorem okG {x qual : Str} {params : Arguments} {body : List Stmt} {scope : Scope} {dvs : List V} {kws : List (Str × V)} {N : List Str}
    (F : FunD K x qual params body scope dvs kws f fd) (S : FnScope N ps scope) (hl : ∀ vs H Q E, sp vs H Q E → vs.length = ps.length)
    (hb : ∀ (cdv : Value) (A : Around) (out : List PySem.Env) (s : Shared) (H : Hp) (vs : List V) (Q : VK) (E : XK),
      RoomG k (A.deeper (envOfC qual scope s.heap.objs.size f cdv)) → sp vs H Q E →
      ∃ t, PSs (cxOf CX P w K mg base N qual scope f cdv A out s H E) body t ∧ t { nx := fun _ H' => Q .non H', rt := Q } (start N vs) H) :
    FnG P w K mg base CX (k + 1) f fd ps sp := by
  obtain ⟨oc, od, dV, kV, doc, pm, an, cdv, ct, osl, rfl, lk, hcd, _, _⟩ := F.ex
  constructor
  · exact hl
  intro A out s H gs us vs Q E hr z hbi rv hs
  have hlen := hl vs H Q E hs
  have kIn : K.In s.heap := z.mod.kin.keeps (fun b o e => (z.bs b o e).1)
  have nolim : s.heap.NoLimit := z.mod.nolimit.keeps (fun b o e => (z.bs b o e).1)
  refine codeAny_call_function hr.r.depth (kIn _ _ lk) rfl S.co S.gen rfl (PySem.W.codeRec_of kIn hcd) (hbi _ _ _ _ ?_)
  have kinds : ∀ y, y ∈ ps.zip us → scope.names.lookup y.1 = some .local ∨ (scope.names.lookup y.1 = some .cell ∧ ((cellsFrom (s.heap.objs.size + 1) scope.names []).lookup y.1).isSome = true) := by
    intro y hy
    obtain ⟨n, v⟩ := y
    cases S.par n (List.of_mem_zip hy).1 with
    | inl q => exact Or.inl q
    | inr q => exact Or.inr ⟨q, PySem.W.cellsFrom_some _ _ _ (Or.inl q)⟩
  refine wpAny_newFunctionEnv_cells S.kind kinds (fun env he s1 x => ?_)
  cases he
  refine ⟨nolim.keeps x.toInCall.keep, codeAny_func ?_⟩
  obtain ⟨t, ht, hq⟩ := hb cdv A out s H vs Q E (hr.deeper _) hs
  have J : Inv (cxOf CX P w K mg base N qual scope f cdv A out s H E) [] (start N vs) H s1 := inv_start S hr.r.hd z hlen rv x
  refine wpAny_mono (ht.run [] s1 (start N vs) H _ J hq) ?_ (fun _ _ q => q)
  intro fl s' q
  cases fl with
  | next =>
    obtain ⟨σ', H', J', q'⟩ := q
    exact ⟨V.non, H', J'.os, J'.bare, J'.base, J'.hok, rfl, q'⟩
  | ret u =>
    obtain ⟨v, σ', H', J', rr, q'⟩ := q
    exact ⟨v, H', J'.os, J'.bare, J'.base, J'.hok, rr, q'⟩
  | cont =>
    obtain ⟨_, _, _, q'⟩ := q
    exact q'.elim
  | brk =>
    obtain ⟨_, _, _, q'⟩ := q
    exact q'.elim
end
section
variable {X : Cx} {CX : CXT} {k : Nat} {f : Addr} {fd : FuncData} {ps : List Str} {sp : Sp} {dvs : List V} {ds : List Value} {E : XK} {x : Str} {p pos : Pos} {e : Expr} {es : List Expr} {t : TA}
end
/-! ### the law's end -/
theorem law_end {P : Program} {w : World} {K : PySem.W.Frag} {mg mb : Str → Option Value} {k : Nat} {fa a : Addr} {fd : FuncData} {x : Str} {sp : Sp} {s : Shared} {vs : List Value} {ns : List Int}
    (KX : K.In s.heap) (hm : s.heap.Ns mainGlobals mg) (hb : s.heap.Ns builtinsNs mb) (hbb : ∀ x : Str, x ≠ "__name__" → mb x = bootBuiltins x) (nolim : s.heap.NoLimit) (hg : s.gens = #[])
    (ha : s.heap.get? a = some { cls := .type "list", data := .seq vs.toArray }) (hi : IntsAre vs ns) (hl : ns.length ≤ sizeLine) (hr : RoomG k callerA)
    (F : ∀ bs : Heap, K.In bs → bs.Ns mainGlobals mg → FnG P w K mg bs CX0 k fa fd [x] sp) (bind : ∀ (s : Shared) (u : Value), BindsTo s fd ⟨[u], []⟩ [(x, u)])
    (hsp : ∀ H : Hp, Only H → SqL K H a (ns.map V.int) → sp [.ref a] H (fun v _ => v = .bl true) fun _ _ _ => False) :
    codeAny (model P w) callerA (.call (.ref fa) ⟨[.ref a], []⟩) (fun r s' => r = .ok (.ret (.bool true)) ∧ OldK s.heap s'.heap ∧ s'.os = s.os ∧ AllBare s'.gens) s := by
  have hv := vals_ints hi
  have hvl := hi.length
  have main : ∀ H : Hp, Only H → SqL K H a (ns.map V.int) → HOk P w H s.heap → (∀ b, H b ≠ none → b = a) → (H a ≠ none → K.lookup a = none) →
      codeAny (model P w) callerA (.call (.ref fa) ⟨[.ref a], []⟩) (fun r s' => r = .ok (.ret (.bool true)) ∧ OldK s.heap s'.heap ∧ s'.os = s.os ∧ AllBare s'.gens) s := by
    intro H only hS ok only_a off
    have free_of : ∀ {b : Addr} {o : Obj} {es : Array DictEntry} {ep : Nat}, s.heap.get? b = some o → o.data = .dict es ep → H b = none := by
      intro b o es ep e d
      refine Decidable.byContradiction fun q => ?_
      have eb := only_a b q
      rw [eb, ha] at e
      have eo := Option.some.inj e
      rw [← eo] at d
      cases d
    have ns_of : ∀ {b : Addr} {m : Str → Option Value}, s.heap.Ns b m → (hidT s.heap H).Ns b m := by
      rintro b m ⟨o, es, ep, e, d, r⟩
      exact ⟨o, es, ep, hidT_get e (free_of e d), d, r⟩
    have kin : K.In (hidT s.heap H) := by
      intro b o e
      refine hidT_get (KX b o e) (Decidable.byContradiction fun q => ?_)
      have eb := only_a b q
      rw [eb] at q e
      rw [off q] at e
      cases e
    obtain ⟨mc, l1, l2⟩ := nolim
    have md : Mod K mg (hidT s.heap H) := { kin := kin, glob := ns_of hm, blt := ⟨mb, ns_of hb, hbb⟩, nolimit := ⟨mc, ns_of l1, l2⟩ }
    have z : Env0 P w K mg (hidT s.heap H) callerA [] s H := {
      frames := rfl, mod := md, bs := fun b o e => of_hidT e, bsz := Nat.le_of_eq (hidT_size s.heap H), funs := trivial
      frf := (fun b q => absurd (show b ∈ ([] : List Addr) from q) List.not_mem_nil), hok := ok, bare := .of_eq hg }
    refine codeAny_mono ((F _ kin (ns_of hm)).run callerA [] s H ⟨[.ref a], []⟩ [.ref a] [.ref a] _ _ hr z (bind s (.ref a)) (.cons rfl .nil) (hsp H only hS)) ?_
    rintro (er | fl) s' q
    · exact q.elim
    cases fl with
    | next => exact q.elim
    | brk => exact q.elim
    | cont => exact q.elim
    | ret u =>
      obtain ⟨v, H', os, bare, un, ok', rv, ev⟩ := q
      have ev' : v = .bl true := ev
      subst ev'
      cases (show u = Value.bool true from rv)
      refine ⟨rfl, OldK.of_keep (fun b o e => ?_), os, bare⟩
      cases hb0 : H b with
      | none => exact un.keep b o e hb0 (fun q => absurd (show b ∈ ([] : List Addr) from q) List.not_mem_nil) (fun q => absurd q List.not_mem_nil)
      | some u =>
        cases only b with
        | inl n =>
          rw [n] at hb0
          cases hb0
        | inr n =>
          obtain ⟨ob, xs, n⟩ := n
          obtain ⟨c1, _⟩ := ok b _ n
          obtain ⟨c2, _⟩ := ok' b _ (un.frzs b ob _ n)
          rw [c1] at e
          rw [← Option.some.inj e]
          exact c2
  cases hk : K.lookup a with
  | none =>
    let H0 : Hp := fun b => if b = a then some (.frz { cls := .type "list", data := .seq vs.toArray } (.lst (ns.map V.int))) else none
    have at_a : H0 a = some (.frz { cls := .type "list", data := .seq vs.toArray } (.lst (ns.map V.int))) := if_pos rfl
    have off_a : ∀ b, b ≠ a → H0 b = none := fun b h => if_neg h
    refine main H0 (fun b => ?_) (.inl (.inr ⟨_, at_a⟩)) (fun b u q => ?_) (fun b q => ?_) (fun _ => hk)
    · by_cases h : b = a
      · rw [h]
        exact Or.inr ⟨_, _, at_a⟩
      · exact Or.inl (off_a b h)
    · by_cases h : b = a
      · rw [h] at q ⊢
        rw [at_a] at q
        cases q
        exact ⟨ha, (by rw [List.length_map]; exact hl), vs, _, hv, ha⟩
      · rw [off_a b h] at q
        cases q
    · exact Decidable.byContradiction fun h => q (off_a b h)
  | some o =>
    have e := KX a o hk
    rw [ha] at e
    cases e
    refine main (fun _ => none) (fun _ => Or.inl rfl) (Or.inr ⟨_, vs.toArray, _, hk, rfl, rfl, rfl, ?_, by simpa using hv⟩) (fun b u q => ?_) (fun b q => (q rfl).elim) (fun q => (q rfl).elim)
    · rw [List.size_toArray, hvl]
      exact hl
    · cases (show (none : Option HO) = some u from q)
theorem walk_g {l : PySem.W.OpenLaw} {n k : Nat} {q : Program} {loose : List Str} {XP : (Str → Option Value) → Heap → Prop} {YP : World → Heap → Prop} {d : DefRec} {x : Str}
    (hn : l.most = some n) (hn2 : n ≤ sizeLine) (hdf : d.params.defaults = []) (hr : RoomG k callerA)
    (F : ∀ (w : World) (mg : Str → Option Value) (fa : Addr) (h : Heap), YP w h → h.Ns mainGlobals mg → mg d.name = some (.ref fa) →
      ∃ (K : PySem.W.Frag) (fd : FuncData) (sp : Sp), K.In h ∧ (∀ (s : Shared) (u : Value), BindsTo s fd ⟨[u], []⟩ [(x, u)]) ∧
        (∀ (H : Hp) (a : Addr) (ns : List Int), ns.length ≤ n → (∀ z ∈ ns, Builtin.Int.intBits z ≤ 1048576) → SqL K H a (ns.map V.int) → sp [.ref a] H (fun v _ => v = .bl true) fun _ _ _ => False) ∧
        ∀ bs : Heap, K.In bs → bs.Ns mainGlobals mg → FnG l.prog w K mg bs CX0 k fa fd [x] sp) :
    PySem.W.WalkO q loose XP YP l.row.toRowW d [] (fun f vs => PySem.call f vs) := by
  refine Att.attach_callB hn hdf ?_
  intro w s₀ s mg mb fa o pm cd doc a vs ns G Y _ _ _ hmg hobj hints hlen hbits hg
  obtain ⟨K, fd, sp, KX, hb, hsp, hF⟩ := F w mg fa _ Y G.T.g hmg
  exact law_end KX G.T.g G.T.b G.T.builtins G.T.nolimit hg hobj hints (Nat.le_trans hlen hn2) hr hF hb (fun H _ hS => hsp H a ns hlen hbits hS)
end MX

set_option Elab.async false
set_option linter.all false
set_option maxRecDepth 100000
set_option maxHeartbeats 4000000
namespace MX
open PySem PySem.Spec PySem.W PySem.Calls PyProof.Rows L2
/-! ### data, dicts too, as the abstract heap holds them -/
def kD : Key → PyData
  | .inl i => .int i
  | .inr x => .str x
inductive Dq (H : Hp) : V → PyData → Prop
  | non : Dq H .non .none
  | bl (b : Bool) : Dq H (.bl b) (.bool b)
  | int (i : Int) : Dq H (.int i) (.int i)
  | str (x : Str) : Dq H (.str x) (.str x)
  | lst {a : Addr} {xs : List V} {ds : List PyData} : H a = some (.lst xs) → a ≠ sysModules → xs.length = ds.length → (∀ (i : Nat) (x : V) (d : PyData), xs[i]? = some x → ds[i]? = some d → Dq H x d) → Dq H (.ref a) (.list ds)
  | tup {a : Addr} {xs : List V} {ds : List PyData} : H a = some (.tup xs) → xs.length = ds.length → (∀ (i : Nat) (x : V) (d : PyData), xs[i]? = some x → ds[i]? = some d → Dq H x d) → Dq H (.ref a) (.tuple ds)
  | dct {a : Addr} {kvs : List (Key × V)} {ds : List (PyData × PyData)} : H a = some (.dK kvs) → kvs.map (fun p => kD p.1) = ds.map (·.1) → (∀ (i : Nat) (x : V) (d : PyData), (kvs.map (·.2))[i]? = some x → (ds.map (·.2))[i]? = some d → Dq H x d) → Dq H (.ref a) (.dict ds)
theorem Dq.same {H H' : Hp} {v : V} {d : PyData} (h : Dq H v d) (s : Same H H') : Dq H' v d := by
  induction h with
  | non => exact .non
  | bl b => exact .bl b
  | int i => exact .int i
  | str x => exact .str x
  | lst e n l _ ih => exact .lst (s _ _ e) n l ih
  | tup e l _ ih => exact .tup (s _ _ e) l ih
  | dct e l _ ih => exact .dct (s _ _ e) l ih
/-- only what is reached must stay: lists, tuples, dicts -/
theorem Dq.stay {H H' : Hp} {v : V} {d : PyData} (h : Dq H v d) (s : ∀ b o, H b = some o → (∃ xs, o = .lst xs) ∨ (∃ xs, o = .tup xs) ∨ (∃ xs, o = .dK xs) → H' b = some o) : Dq H' v d := by
  induction h with
  | non => exact .non
  | bl b => exact .bl b
  | int i => exact .int i
  | str x => exact .str x
  | lst e n l _ ih => exact .lst (s _ _ e (.inl ⟨_, rfl⟩)) n l ih
  | tup e l _ ih => exact .tup (s _ _ e (.inr (.inl ⟨_, rfl⟩))) l ih
  | dct e l _ ih => exact .dct (s _ _ e (.inr (.inr ⟨_, rfl⟩))) l ih
theorem vals_at {xs : List V} {us : List Value} (r : Vals xs us) {i : Nat} {u : Value} (e : us[i]? = some u) : ∃ x, xs[i]? = some x ∧ RelV x u := by
  cases q : xs[i]? with
  | none =>
    have z := Vals.none_of r q
    rw [z] at e
    cases e
  | some x =>
    obtain ⟨u', e', ru⟩ := Vals.get r q
    rw [e] at e'
    cases e'
    exact ⟨x, rfl, ru⟩
theorem kv_vals {κ : Type} {kvs : List (κ × V)} {vs : List (κ × Value)} (r : KV kvs vs) : Vals (kvs.map (·.2)) (vs.map (·.2)) := by
  induction r with
  | nil => exact .nil
  | cons a _ ih => exact .cons a.2 ih
theorem kv_keys {κ : Type} {kvs : List (κ × V)} {vs : List (κ × Value)} (r : KV kvs vs) : kvs.map (·.1) = vs.map (·.1) := by
  induction r with
  | nil => rfl
  | cons a _ ih => rw [List.map_cons, List.map_cons, a.1, ih]
theorem pairs_vals {P : Program} {w : World} {es : List DictEntry} {vs : List (Key × Value)} (p : Pairs (mixKind P w) es vs) : es.map (·.val) = vs.map (·.2) := by
  induction p with
  | nil => rfl
  | cons _ e _ ih => rw [List.map_cons, List.map_cons, e, ih]
theorem pairs_keys {h : Heap} {P : Program} {w : World} {es : List DictEntry} {vs : List (Key × Value)} (p : Pairs (mixKind P w) es vs) : ReadsAll h (es.map (·.key)) (vs.map fun q => kD q.1) [] := by
  induction p with
  | nil => exact .nil
  | @cons e kv es kvs hk _ _ ih =>
    have r : Reads h e.key (kD kv.1) [] := by
      rcases keyIs_shape (show keyIs kv.1 e.key = true from hk) with ⟨i, t, e1, e2⟩ | ⟨x, t, e1, e2⟩
      · rw [e1, e2]
        exact .int i t
      · rw [e1, e2]
        exact .str x t
    exact ReadsAll.cons r ih
/-! ### repr -/
/-- what may be shown -/
structure Shows (d : PyData) : Prop where
  s : d.showable = true
  p : d.depth ≤ 60
  z : d.shown.length ≤ sizeLine
/-! ### a new list, and that it is not sys.modules -/
/-! ### exceptions as values -/
/-- at a: an exception of the class at C, made with v -/
def ExcAt (H : Hp) (a C : Addr) (v : V) : Prop := ∃ d, H a = some (exo a C (some d)) ∧ H d = some (exd d [(("value" : Str), v)])
/-- MeetError.__init__ -/
def spErr (K : PySem.W.Frag) : Sp := fun vs H Q _ => ∃ (a C fI : Addr) (v : V), vs = [.ref a, v] ∧ ExcT K C fI ∧ H a = some (exo a C none) ∧
  ∀ dx, H dx = none → dx ≠ a → Q .non (upd (upd H dx (exd dx [(("value" : Str), v)])) a (exo a C (some dx)))
end MX

set_option Elab.async false
set_option linter.all false
set_option maxRecDepth 100000
set_option maxHeartbeats 4000000
namespace MX
open PySem PySem.Spec PySem.W PySem.Calls PyProof.Rows L2
/-! ### powers of great ints -/
def CPowW (i j : Int) : Prop := 0 ≤ j ∧ (Builtin.Int.intBits i : Int) * j ≤ 2 ^ 27
theorem op_powW {X : Cx} : OpR X (binaryOp .Pow) (rI CPowW fun i j => .int (i ^ j.toNat)) := opI fun _ _ _ _ _ _ _ hc q => pow_int hc.1 hc.2 q
/-! ### heaps -/
/-- all but what stands at p stays -/
def Ext (p : Addr) (H H' : Hp) : Prop := ∀ b o, b ≠ p → H b = some o → H' b = some o
theorem Ext.refl {p : Addr} (H : Hp) : Ext p H H := fun _ _ _ h => h
theorem Ext.trans {p : Addr} {H H1 H2 : Hp} (a : Ext p H H1) (b : Ext p H1 H2) : Ext p H H2 := fun c o n h => b c o n (a c o n h)
theorem Ext.of {p : Addr} {H H' : Hp} (s : Same H H') : Ext p H H' := fun b o _ h => s b o h
theorem Ext.upd (p : Addr) (H : Hp) (o : HO) : Ext p H (upd H p o) := fun b u n h => (upd_ne n).trans h
theorem same_new {H : Hp} {p : Addr} {o : HO} (h : H p = none) : Same H (upd H p o) := fun b u e => (upd_ne (ne_of_none e h)).trans e
/-! ### written data -/
inductive Dqs (H : Hp) : List V → List PyData → Prop
  | nil : Dqs H [] []
  | cons {v : V} {d : PyData} {vs : List V} {ds : List PyData} : Dq H v d → Dqs H vs ds → Dqs H (v :: vs) (d :: ds)
theorem Dqs.len {H : Hp} {vs : List V} {ds : List PyData} (h : Dqs H vs ds) : vs.length = ds.length := by
  induction h with
  | nil => rfl
  | cons _ _ ih => rw [List.length_cons, List.length_cons, ih]
theorem Dqs.at_ {H : Hp} {vs : List V} {ds : List PyData} (h : Dqs H vs ds) : ∀ (i : Nat) (x : V) (d : PyData), vs[i]? = some x → ds[i]? = some d → Dq H x d := by
  induction h with
  | nil =>
    intro i x d h1
    simp at h1
  | @cons v d vs ds a _ ih =>
    intro i x e h1 h2
    cases i with
    | zero =>
      simp at h1 h2
      rw [← h1, ← h2]
      exact a
    | succ i => exact ih i x e (by simpa using h1) (by simpa using h2)
theorem Dqs.same {H H' : Hp} {vs : List V} {ds : List PyData} (h : Dqs H vs ds) (s : Same H H') : Dqs H' vs ds := by
  induction h with
  | nil => exact .nil
  | cons a _ ih => exact .cons (a.same s) ih
theorem Dqs.append {H : Hp} {vs ws : List V} {ds es : List PyData} (h : Dqs H vs ds) (k : Dqs H ws es) : Dqs H (vs ++ ws) (ds ++ es) := by
  induction h with
  | nil => exact k
  | cons a _ ih => exact .cons a ih
section
variable {X : Cx} {e : Expr} {es : List Expr} {d : PyData} {ds : List PyData} {pos : Pos}
end
/-! ### draws -/
/-- a pot at p from which at most n were drawn by the mixed way -/
def PotO (n : Nat) (o : HO) : Prop := ∃ a s c : Int, o = .lst [.int a, .int s, .int c] ∧ 0 ≤ a ∧ 0 ≤ s ∧ s < 2305843009213693951 ∧ 0 ≤ c ∧ c ≤ n
def Pot (n : Nat) (H : Hp) (p : Addr) : Prop := ∃ o, H p = some o ∧ PotO n o
theorem PotO.mono {m n : Nat} {o : HO} (h : PotO m o) (l : m ≤ n) : PotO n o := by
  obtain ⟨a, s, c, e, h1, h2, h3, h4, h5⟩ := h
  exact ⟨a, s, c, e, h1, h2, h3, h4, by omega⟩
theorem Pot.some {n : Nat} {H : Hp} {p : Addr} (h : Pot n H p) : H p ≠ none := by
  obtain ⟨o, e, _⟩ := h
  rw [e]
  exact fun z => nomatch z
theorem Pot.upd {n : Nat} {H : Hp} {p : Addr} {o : HO} (h : PotO n o) : Pot n (upd H p o) p := ⟨o, upd_same, h⟩
/-- _law_pot(script, k) -/
def spPot (K : PySem.W.Frag) : Sp := fun vs H Q _ => ∃ (a : Addr) (ns : List Int) (k : Nat), vs = [.ref a, .int (k : Int)] ∧ SqL K H a (ns.map V.int) ∧ ns.length ≤ 63 ∧ k < 100 ∧
  ∀ (p : Addr) (o : HO), H p = none → PotO 0 o → Q (.ref p) (L2.upd H p o)
/-- _law_places(script, most) -/
def spPlaces (K : PySem.W.Frag) (m : Nat) : Sp := fun vs H Q _ => ∃ (a : Addr) (ns : List Int), vs = [.ref a, .int (m : Int)] ∧ SqL K H a (ns.map V.int) ∧ ns.length ≤ 63 ∧
  ∀ (p : Addr) (H' : Hp) (t : Nat), Same H H' → H p = none → t ≤ max 1 m → H' p = some (.lst ((List.range t).map fun (i : Nat) => V.int (i : Int))) → Q (.ref p) H'
end MX
namespace MX
open PySem PySem.Spec PySem.W PySem.Calls PyProof.Rows L2
/-! ### menus of any kind -/
end MX

set_option Elab.async false
set_option linter.all false
set_option maxRecDepth 100000
set_option maxHeartbeats 4000000
namespace MX
open PySem PySem.Spec PySem.W PySem.Calls PyProof.Rows L2
/-! ### many exceptions, made with one value -/
inductive Excs (H : Hp) (v : V) : List Addr → List Addr → Prop
  | nil : Excs H v [] []
  | cons {a C : Addr} {as Cs : List Addr} : ExcAt H a C v → Excs H v as Cs → Excs H v (a :: as) (C :: Cs)
theorem ExcAt.ext {H H' : Hp} {a C l : Addr} {v : V} {xs : List V} (h : ExcAt H a C v) (hl : H l = some (.lst xs)) (e : Ext l H H') : ExcAt H' a C v := by
  obtain ⟨d, ea, ed⟩ := h
  have na : a ≠ l := fun z => by
    rw [z, hl] at ea
    cases ea
  have nd : d ≠ l := fun z => by
    rw [z, hl] at ed
    cases ed
  exact ⟨d, e a _ na ea, e d _ nd ed⟩
theorem ExcAt.same {H H' : Hp} {a C : Addr} {v : V} (h : ExcAt H a C v) (s : Same H H') : ExcAt H' a C v :=
  let ⟨d, ea, ed⟩ := h
  ⟨d, s _ _ ea, s _ _ ed⟩
theorem Excs.ext {H H' : Hp} {l : Addr} {v : V} {xs : List V} {as Cs : List Addr} (h : Excs H v as Cs) (hl : H l = some (.lst xs)) (e : Ext l H H') : Excs H' v as Cs := by
  induction h with
  | nil => exact .nil
  | cons a _ ih => exact .cons (a.ext hl e) ih
theorem Excs.same {H H' : Hp} {v : V} {as Cs : List Addr} (h : Excs H v as Cs) (s : Same H H') : Excs H' v as Cs := by
  induction h with
  | nil => exact .nil
  | cons a _ ih => exact .cons (a.same s) ih
theorem Excs.append {H : Hp} {v : V} {as Cs bs Ds : List Addr} (h : Excs H v as Cs) (k : Excs H v bs Ds) : Excs H v (as ++ bs) (Cs ++ Ds) := by
  induction h with
  | nil => exact k
  | cons a _ ih => exact .cons a ih
theorem Excs.len {H : Hp} {v : V} {as Cs : List Addr} (h : Excs H v as Cs) : as.length = Cs.length := by
  induction h with
  | nil => rfl
  | cons _ _ ih => rw [List.length_cons, List.length_cons, ih]
theorem Excs.at_ {H : Hp} {v : V} {as Cs : List Addr} (h : Excs H v as Cs) : ∀ (i : Nat) (a : Addr), as[i]? = some a → ∃ C, Cs[i]? = some C ∧ ExcAt H a C v := by
  induction h with
  | nil =>
    intro i a h1
    simp at h1
  | @cons a C as Cs x _ ih =>
    intro i b h1
    cases i with
    | zero =>
      simp at h1
      rw [← h1]
      exact ⟨C, rfl, x⟩
    | succ i => exact ih i b (by simpa using h1)
section
variable {X : Cx} {i : Nat} {e : Expr} {es : List Expr} {C fI : Addr} {Cs : List Addr}
/-! ### what an exception is -/
def kb (K : PySem.W.Frag) (D C : Addr) : Bool := PySem.W.kitOne K (.ref D) (.ref C) == some true
end
/-- a list being made: at l, new behind H0, of the exceptions of Cs -/
def MadeSt (H0 H : Hp) (l : Addr) (v : V) (Cs : List Addr) : Prop := ∃ as : List Addr, Same H0 H ∧ H0 l = none ∧ H l = some (.lst (as.map V.ref)) ∧ Excs H v as Cs
theorem MadeSt.step {H0 H H1 : Hp} {l b : Addr} {v : V} {Cs Ds as bs : List Addr} (s : Same H0 H) (n : H0 l = none) (hl : H l = some (.lst (as.map V.ref))) (x : Excs H v as Cs) (s1 : Same H H1) (y : Excs H1 v bs Ds) (hb : H1 b = none) :
    MadeSt H0 (upd (upd H1 b (.lst (bs.map V.ref))) l (.lst (as.map V.ref ++ bs.map V.ref))) l v (Cs ++ Ds) := by
  have h1 : (upd H1 b (.lst (bs.map V.ref))) l = some (.lst (as.map V.ref)) := same_new hb _ _ (s1 _ _ hl)
  refine ⟨as ++ bs, fun c o e => ?_, n, by rw [upd_same, List.map_append], ((x.same s1).append y |>.same (same_new hb)).ext h1 (Ext.upd l _ _)⟩
  rw [upd_ne (ne_of_none e n)]
  exact same_new hb _ _ (s1 _ _ (s _ _ e))
def MarkSt (K : PySem.W.Frag) (H0 H : Hp) (l D : Addr) (Cs : List Addr) : Prop := Same H0 H ∧ H0 l = none ∧ H l = some (.lst ((Cs.map (kb K D)).map V.bl))
theorem MarkSt.step {K : PySem.W.Frag} {H0 H : Hp} {l b D : Addr} {Cs Ds : List Addr} (m : MarkSt K H0 H l D Cs) (hb : H b = none) :
    MarkSt K H0 (upd (upd H b (.lst ((Ds.map (kb K D)).map V.bl))) l (.lst ((Cs.map (kb K D)).map V.bl ++ (Ds.map (kb K D)).map V.bl))) l D (Cs ++ Ds) := by
  obtain ⟨s, n, hl⟩ := m
  refine ⟨fun c o e => ?_, n, by rw [upd_same, List.map_append, List.map_append]⟩
  rw [upd_ne (ne_of_none e n)]
  exact same_new hb _ _ (s _ _ e)
end MX

set_option Elab.async false
set_option linter.all false
set_option maxRecDepth 100000
set_option maxHeartbeats 4000000
namespace MX
open PySem PySem.Spec PySem.W PySem.Calls PyProof.Rows L2
/-! ### how many unlike texts -/
def dis (xs : List Str) : Nat → Nat
  | 0 => 0
  | i + 1 => dis xs i + (if xs.getD i Str.empty ∈ xs.take i then 0 else 1)
theorem dis_le (xs : List Str) : ∀ i, dis xs i ≤ i
  | 0 => Nat.le_refl _
  | i + 1 => by
    have h := dis_le xs i
    unfold dis
    split <;> omega
theorem take_snoc {α : Type} {xs : List α} {i : Nat} {d : α} (h : i < xs.length) : xs.take (i + 1) = xs.take i ++ [xs.getD i d] := by
  rw [List.take_succ, List.getElem?_eq_getElem h, List.getD_eq_getElem?_getD, List.getElem?_eq_getElem h]
  rfl
theorem dis_nodup {xs : List Str} : ∀ {i}, i ≤ xs.length → (dis xs i = i ↔ (xs.take i).Nodup)
  | 0, _ => by simp [dis]
  | i + 1, hi => by
    have ih := dis_nodup (xs := xs) (i := i) (by omega)
    have le := dis_le xs i
    rw [take_snoc (d := Str.empty) (by omega), List.nodup_append]
    unfold dis
    constructor
    · intro h
      have a : dis xs i = i ∧ ¬ xs.getD i Str.empty ∈ xs.take i := by
        split at h
        · omega
        · exact ⟨by omega, by assumption⟩
      refine ⟨ih.mp a.1, by simp, fun x hx y hy => ?_⟩
      rw [List.mem_singleton.mp hy]
      intro e
      exact a.2 (e ▸ hx)
    · rintro ⟨h1, _, h3⟩
      have nm : ¬ xs.getD i Str.empty ∈ xs.take i := fun hm => h3 _ hm _ (List.mem_singleton.mpr rfl) rfl
      rw [if_neg nm, ih.mpr h1]
section
variable {pg : Program} {w : World} {A : Around} {R : Result → Shared → Prop} {it : Addr} {fp wr : List Addr} {G : Array GenState → Array GenState → Prop} {n : Nat} {Pv : Nat → Value → Prop} {St : Nat → Shared → Prop}
def SetTx (pg : Program) (w : World) (h : Heap) (a : Addr) (xs : List Str) (i : Nat) : Prop := h.SetOf (PySem.strKind pg w) a (fun k => decide (k ∈ xs.take i)) (dis xs i)
theorem setTx_loop (W : WalksS pg w A.in1 it fp wr G n Pv St) (a : Addr) (out : a ∉ fp) (xs : List Str) (len : xs.length = n) (few : n + 1 < scanBound) (vals : ∀ i v, Pv i v → ∃ t, v = .str (xs.getD i Str.empty) t) :
    ∀ (left i : Nat) (z : Shared), n - i = left → i ≤ n → St i z → SetTx pg w z.heap a xs i → (∀ z', Moved (a :: wr) G z z' → SetTx pg w z'.heap a xs n → R (.ok (.ret .none)) z') →
      codeAny (model pg w) A (.builtin "set.update.loop" ⟨[.ref a, .ref it], []⟩) R z := by
  have away : a ∉ wr := fun q => out (W.sub _ q)
  have more : ∀ b ∈ wr, b ∈ a :: wr := fun b q => List.mem_cons_of_mem _ q
  have carry : ∀ {i : Nat} {z z' : Shared}, Moved wr G z z' → SetTx pg w z.heap a xs i → SetTx pg w z'.heap a xs i := fun m q => by
    obtain ⟨o, es, ep, t, e, q⟩ := q
    exact ⟨o, es, ep, t, m.heap a _ away e, q⟩
  intro left
  induction left with
  | zero =>
    intro i z hl hi st hs done
    obtain rfl : i = n := by omega
    refine codeAny_builtin PyProof.Rows.F.entry_set_update_loop (?_); rw [Around.under_plainId PyProof.Rows.F.plain_set_update_loop _]
    show wpAny _ (Around.in1 A) (pyNext (Value.ref it) >>= _) _ _ z
    exact wpAny_bind (W.done z _ _ st fun z' m => wpAny_pure (done z' (m.mono more) (carry m hs)))
  | succ left ih =>
    intro i z hl hi st hs done
    have lt : i < n := by omega
    refine codeAny_builtin PyProof.Rows.F.entry_set_update_loop (?_); rw [Around.under_plainId PyProof.Rows.F.plain_set_update_loop _]
    show wpAny _ (Around.in1 A) (pyNext (Value.ref it) >>= _) _ _ z
    refine wpAny_bind (W.item i z _ _ lt st ?_)
    intro v z' pv st' m
    obtain ⟨t, rfl⟩ := vals i v pv
    have hs' := carry m hs
    show wpAny _ (Around.in1 A) (holding [Value.str (xs.getD i Str.empty) t] (setAdd a (.str (xs.getD i Str.empty) t)) >>= _) _ _ z'
    refine wpAny_bind (wpAny_holding ?_); unfold setAdd; refine wpAny_holding (wpAny_bind ((PySem.strKind pg w).pyHash (k := xs.getD i Str.empty) (strKind_is _ _ _ _) ?_))
    have room : dis xs i + 1 < scanBound := by
      have := dis_le xs i
      omega
    refine wpAny_setAddHashed_of (knd := PySem.strKind pg w) (s := { z' with toks := z'.toks + 1 }) (strKind_is _ _ _ _) rfl hs' room ?_
    intro h' same hs2
    have hs3 : SetTx pg w h' a xs (i + 1) := by
      refine SetOf_congr hs2 (fun k => ?_) ?_
      · rw [take_snoc (d := Str.empty) (by omega)]
        by_cases q : k = xs.getD i Str.empty <;> simp [q]
      · show (if decide (xs.getD i Str.empty ∈ xs.take i) = true then dis xs i else dis xs i + 1) = dis xs i + (if xs.getD i Str.empty ∈ xs.take i then 0 else 1)
        by_cases q : xs.getD i Str.empty ∈ xs.take i
        · rw [if_pos q, if_pos (decide_eq_true q)]
          rfl
        · rw [if_neg q, if_neg (by rw [decide_eq_false q]; exact Bool.false_ne_true)]
    refine wpAny_pure ⟨plainId_quiet PyProof.Rows.F.plain_set_update_loop _, ih (i + 1) _ (by omega) lt (W.frame _ z' _ _ st' (Nat.le_succ _) ?_) hs3 ?_⟩
    · intro b hb o e
      rw [same.2 b (fun q : b = a => out (q ▸ hb))]
      exact e
    · intro z2 m2 q2
      refine done z2 (Moved.trans W.gtrans ((m.mono more).then_heap (Nat.le_succ _) ?_) m2) q2
      intro b o hb e
      rw [same.2 b (fun q : b = a => hb (q ▸ List.mem_cons_self))]
      exact e
end
section
variable {pg : Program} {w : World} {A : Around} {E : Value → Shared → Prop} {z : Shared}
def setNew (led : Bool) : Obj := { cls := .type "set", dict := none, data := .set #[] 0 (.fresh 0 0 led) }
/-- set(list of texts) -/
theorem call_setTx {l : Addr} {its : Array Value} {xs : List Str} {Q : Value → Shared → Prop} (calm : A.handled = none) (hl : z.heap.IsList l its) (hi : PyProof.Rows.StrsAre its.toList xs) (few : xs.length + 1 < scanBound)
    (h : ∀ (h' : Heap) (tk : Nat), SetTx pg w h' z.heap.objs.size xs xs.length → (∀ b o, b < z.heap.objs.size → z.heap.get? b = some o → h'.get? b = some o) → Q (.ref z.heap.objs.size) { z with heap := h', toks := tk }) :
    wpAny (model pg w) A (call (.type "set") [.ref l]) Q E z := by
  obtain ⟨c0, t0, mro⟩ := PySem.F.called_set.mro
  have k1 := PySem.F.called_set.made
  have k2 := PySem.F.called_set.sub
  refine wpAny_call (codeAny_of_tree (?_)); show wpAny _ _ (callAny (.type "set") _) _ _ _
  refine wpAny_pure ⟨Code.quiet_builtin _ (by decide +kernel), codeAny_builtin PySem.F.entry_type_call (?_)⟩; rw [Around.under_plain (weight_type_call_type "set" [.ref l] []) rfl]
  have k3 := PySem.F.called_set.notType
  have k4 := PySem.F.called_set.canCreate
  have k5 := PySem.F.typeCall_set_1 (.ref l)
  (repeat (any_goals (first | assumption | wp_step)))
  refine codeAny_mono (code_set_new_1 (.ref l) (E := E) (Q₁ := fun obj z1 => ∃ led : Bool, obj = .ref z.heap.objs.size ∧ z1 = { z with heap := z.heap.push (setNew led) }) (fun led => ⟨led, rfl, rfl⟩)) ?_
  rintro (er | fl) z1 hr
  · exact hr
  cases fl with
  | next => exact hr.elim
  | brk => exact hr.elim
  | cont => exact hr.elim
  | ret obj =>
    obtain ⟨led, rfl, rfl⟩ := hr
    have got : (z.heap.push (setNew led)).get? z.heap.objs.size = some (setNew led) := Heap.get?_push_size _ rfl
    have ty : Shared.TypeIs { z with heap := z.heap.push (setNew led) } (.ref z.heap.objs.size) "set" := ⟨_, got, rfl⟩
    have k6 := PySem.F.called_set.init.lookup
    have k7 := PySem.F.called_set.init.bind (.ref z.heap.objs.size)
    (repeat (any_goals (first | assumption | wp_step)))
    refine codeAny_mono (codeAny_call_builtin (R := wants (fun r z2 => r = .none ∧ ∃ h' tk, z2 = { z with heap := h', toks := tk } ∧ SetTx pg w h' z.heap.objs.size xs xs.length ∧
        (∀ b o, b < z.heap.objs.size → z.heap.get? b = some o → h'.get? b = some o)) E) PySem.F.called_set.init.plain PySem.F.entry_set_init (check_set_init_1 ty ?_)) ?_
    · obtain ⟨⟨oc, od, dt, osl⟩, ho, hc, nl, hd⟩ := hl
      simp only at hc hd; subst hc; subst hd
      have ho' : (z.heap.push (setNew led)).get? l = some { cls := .type "list", dict := od, data := .seq its nl, slots := osl } := Heap.get?_push_of_some _ ho
      have k8 := PySem.F.sub_list_set
      have k9 := PySem.F.sub_list_frozenset
      have k10 : (Value.type "list" == Value.type "dict") = false := by decide
      have isl : (z.heap.push (setNew led)).IsList l its := ⟨_, ho', rfl, nl, rfl⟩
      unfold Builtin.«set.__init__» noKeywords Builtin.Frozenset.updateFrom; generalize hPI : pyIter = PI
      wp_walk
      subst hPI
      refine wpAny_pyIter_list isl (wpAny_bind (wpAny_runValue (?_)))
      have hlS : l < z.heap.objs.size := Heap.lt_size ho
      have h3 : A.in1.in1.in1.handled = none := by simp [calm]
      have nI : l ≠ (z.heap.push (setNew led)).objs.size := by
        rw [Heap.size_push]
        exact Nat.ne_of_lt (Nat.lt_succ_of_lt hlS)
      have nS : z.heap.objs.size ∉ [(z.heap.push (setNew led)).objs.size, l] := by
        rw [Heap.size_push]
        intro q
        rcases List.mem_cons.mp q with q | q
        · exact Nat.ne_of_lt (Nat.lt_succ_self _) q
        · exact Nat.ne_of_gt hlS (List.mem_singleton.mp q)
      have len : xs.length = its.size := by rw [← StrsAre.len_eq hi, Array.length_toList]
      have vals : ∀ (i : Nat) (v : Value), its[i]? = some v → ∃ t, v = .str (xs.getD i Str.empty) t := fun i v hv => SS.strs_at hi i v (by rw [Array.getElem?_toList]; exact hv)
      refine setTx_loop ((Walks.list h3 _ l nI its).toS) z.heap.objs.size nS xs len (by omega) vals (its.size - 0) 0 _ (by omega) (Nat.zero_le _) ⟨⟨_, Heap.get?_push_size _ rfl, rfl, rfl⟩, (isl.push _)⟩ ?_ ?_
      · have got2 : ((z.heap.push (setNew led)).push { cls := .type "list_iterator", data := .fields #[.ref l, .int 0 0] }).get? z.heap.objs.size = some (setNew led) := Heap.get?_push_of_some _ got
        exact PyProof.Rows.SetOf_congr ((PyProof.Rows.setObjOf_fresh (knd := PySem.strKind pg w) led).setOf got2 (by unfold scanBound; omega)) (fun _ => by simp) rfl
      · rintro ⟨h', g', d', tk', os'⟩ m q
        obtain rfl : g' = z.gens := m.gens
        obtain rfl : d' = z.drawn := m.drawn
        obtain rfl : os' = z.os := m.os
        show wpAny _ _ _ _ _ _
        refine wpAny_pure (show wpAny _ _ (ret Value.none) _ _ _ from wpAny_pure ⟨rfl, h', tk', rfl, (by rw [len]; exact q), fun b o hb e => ?_⟩)
        refine m.heap b o (fun q => ?_) (Heap.get?_push_of_some _ (Heap.get?_push_of_some _ e))
        rcases List.mem_cons.mp q with q | q
        · exact Nat.ne_of_lt hb q
        · have q2 := List.mem_singleton.mp q
          rw [Heap.size_push] at q2
          exact Nat.ne_of_lt (Nat.lt_succ_of_lt hb) q2
    · rintro (er | fl2) z2 hr2
      · exact hr2
      cases fl2 with
      | next => exact hr2.elim
      | brk => exact hr2.elim
      | cont => exact hr2.elim
      | ret r =>
        obtain ⟨rfl, h', tk, rfl, q, k⟩ := hr2
        (repeat (any_goals (first | assumption | wp_step)))
        exact h _ _ q k
end
/-- len(set(x)), x a list of texts -/
def tLenSetT (K : PySem.W.Frag) (ta : TE) : TE := fun σ H Q => ta σ H fun x H1 => ∃ (l : Addr) (xs : List Str), x = .ref l ∧ SqL K H1 l (xs.map V.str) ∧ xs.length ≤ 1000 ∧ Q (.int ((dis xs xs.length : Nat) : Int)) H1
theorem pe_lenSetT {X : Cx} {a : Expr} {ta : TE} {p p2 q pos : Pos} (hc : X.calm = true) (hg : Gl X "len") (hm : X.mg "len" = none) (hg2 : Gl X "set") (hm2 : X.mg "set" = none) (ha : PE X a ta)
    (na : starEach [a] X.env = (false, eval a X.env) :: starEach [] X.env := by rfl) : PE X (.Call (.Name "len" p) [.Call (.Name "set" p2) [a] [] q] [] pos) (tLenSetT X.K ta) := by
  constructor
  intro pins s σ H Q I h
  refine Call_ (ld_blt I hg hm boot_len (PyProof.Rows.callWith_builtin1 (PyProof.Rows.args_cons ?_ rfl) rfl rfl))
  refine Call_ (ld_blt I hg2 hm2 boot_set (PyProof.Rows.callWith_type1 (PyProof.Rows.args_cons (thn (ha.run pins s σ H _ I h) ?_) na) na rfl))
  rintro v s1 ⟨x, H1, J, rx, l, xs, rfl, hq, few, q1⟩
  refine PyProof.Rows.args_nil ?_
  cases rx
  obtain ⟨its, rv, pl, hz⟩ := J.list hq
  refine call_setTx (J.ok.hd hc) pl.isList (by simpa using strsAre_of rv) (by unfold scanBound; omega) ?_
  intro h' tk hS hk
  refine PyProof.Rows.args_nil ?_
  obtain ⟨o, es, ep, t, ho, hex, hd, _, _, _, hf, hn⟩ := hS
  have J2 : Inv X pins σ H1 { s1 with heap := h', toks := tk } := J.kept fun b o e => hk b o (Heap.lt_size e) e
  have le := dis_le xs xs.length
  refine call_len_set ho hex hd hf (by rw [hn]; omega) ⟨.int ((dis xs xs.length : Nat) : Int), H1, J2.tok _, ⟨_, by rw [hn]⟩, q1⟩
end MX

set_option Elab.async false
set_option linter.all false
set_option maxRecDepth 100000
set_option maxHeartbeats 4000000
namespace MX
open PySem PySem.Spec PySem.W PySem.Calls PyProof.Rows L2
/-! ### x in o, o of an own class with __contains__ -/
section
variable {pg : Program} {w : World} {A : Around} {E : Value → Shared → Prop} {z : Shared} {K : PySem.W.Frag}
theorem contains_own {a C g : Addr} {ox : Obj} {od : Option Obj} {u : Value} {Q : Bool → Shared → Prop} (X : K.In z.heap) (J : PySem.W.InstAt z.heap a ox C od) (hs : PySem.W.findIn K (.ref C) "__contains__" = some (some (.ref g))) (hf : PySem.W.typeIn K (.ref g) = some (.type "function"))
    (h : wpAny (model pg w) A (call (.ref g) [.ref a, u]) (fun r z' => ∃ b, r = .bool b ∧ Q b z') E z) : wpAny (model pg w) A (contains (.ref a) u) Q E z := by
  have L : Looks (model pg w) z.heap (specialOf (.ref a) "__contains__") (some (.ref g)) := (J.type (M := model pg w)).andThen (looks_findIn X hs)
  have B : Looks (model pg w) z.heap (bindSpecial (.ref g) (.ref a)) (.ref g, [.ref a]) := PySem.W.bind_fn X (.ref a) hf
  unfold contains
  refine wpAny_holding ?_
  rw [stdlibNamesSay?_ref]
  refine wpAny_bind (L.here ?_)
  have n1 : (some (Value.ref g) == some Value.none) = false := rfl
  rw [n1]
  show wpAny _ _ (callSpecialUnlessNone? (.ref a) "__contains__" [u] _ >>= _) _ _ _
  unfold callSpecialUnlessNone?
  refine wpAny_bind (wpAny_bind (L.here (wpAny_holding (wpAny_bind (B.here ?_)))))
  have n2 : (Value.ref g == Value.none) = false := rfl
  simp only [n2]
  refine wpAny_bind (thn h ?_)
  rintro r z' ⟨b, rfl, q⟩
  exact wpAny_pure (wpAny_pure q)
end
def rInOwn (C : Addr) (sp : Sp) (neg : Bool) : R2 := fun x y H Q => ∃ a dx fs, y = .ref a ∧ H a = some (.ins C dx fs) ∧ sp [.ref a, x] H (fun v H' => ∃ b, v = .bl b ∧ Q (.bl (if neg then !b else b)) H') (fun _ _ _ => False)
theorem op_inOwn {X : Cx} {CX : CXT} {C g : Addr} {k : Nat} {fd : FuncData} {ps : List Str} {sp : Sp} (hs : PySem.W.findIn X.K (.ref C) "__contains__" = some (some (.ref g))) (hf : PySem.W.typeIn X.K (.ref g) = some (.type "function"))
    (F : FnOk X.prog X.w X.K X.mg X.base CX k g fd ps sp) (hr : Room k X.A) (hb : Binds X.K fd ps []) (hx : Passes CX X (fun _ _ _ => False)) : OpR X (compareOp .In) (rInOwn C sp false) := by
  intro pins s σ H x y v u Q I rx ry h
  obtain ⟨a, dx, fs, rfl, ea, q⟩ := h
  cases (show u = Value.ref a from ry)
  obtain ⟨mA, O, _⟩ := ins_get I.hok ea
  obtain ⟨od, J, _⟩ := O.look
  show wpAny _ _ (do return Value.bool (← contains (.ref a) v) : Sem Value) _ _ _
  refine wpAny_bind (contains_own I.kIn J hs hf ?_)
  refine thn (run_fn F hr hb .nil hx I (us := [.ref a, v]) (vs := [.ref a, x]) (.cons rfl (.cons rx .nil)) q) ?_
  rintro r s' ⟨v', H', J', rv, b, rfl, q'⟩
  cases (show r = Value.bool b from rv)
  exact ⟨b, rfl, wpAny_pure ⟨.bl b, H', J', rfl, q'⟩⟩
theorem op_notInOwn {X : Cx} {CX : CXT} {C g : Addr} {k : Nat} {fd : FuncData} {ps : List Str} {sp : Sp} (hs : PySem.W.findIn X.K (.ref C) "__contains__" = some (some (.ref g))) (hf : PySem.W.typeIn X.K (.ref g) = some (.type "function"))
    (F : FnOk X.prog X.w X.K X.mg X.base CX k g fd ps sp) (hr : Room k X.A) (hb : Binds X.K fd ps []) (hx : Passes CX X (fun _ _ _ => False)) : OpR X (compareOp .NotIn) (rInOwn C sp true) := by
  intro pins s σ H x y v u Q I rx ry h
  obtain ⟨a, dx, fs, rfl, ea, q⟩ := h
  cases (show u = Value.ref a from ry)
  obtain ⟨mA, O, _⟩ := ins_get I.hok ea
  obtain ⟨od, J, _⟩ := O.look
  show wpAny _ _ (do return Value.bool (!(← contains (.ref a) v)) : Sem Value) _ _ _
  refine wpAny_bind (contains_own I.kIn J hs hf ?_)
  refine thn (run_fn F hr hb .nil hx I (us := [.ref a, v]) (vs := [.ref a, x]) (.cons rfl (.cons rx .nil)) q) ?_
  rintro r s' ⟨v', H', J', rv, b, rfl, q'⟩
  cases (show r = Value.bool b from rv)
  exact ⟨b, rfl, wpAny_pure ⟨.bl (!b), H', J', rfl, q'⟩⟩
end MX

set_option Elab.async false
set_option linter.all false
set_option maxRecDepth 100000
set_option maxHeartbeats 4000000
namespace MX
open PySem PySem.Spec PySem.W PySem.Calls PyProof.Rows L2
/-! ### for n, x in enumerate(xs, start=k) -/
def IteS (K : PySem.W.Frag) (a : Addr) (k : Int) : It :=
  ⟨(Ite K a).go, fun i H v H' => ∃ T x, v = .ref T ∧ H T = none ∧ H' = upd H T (.tup [.int (k + (i : Nat)), x]) ∧ ∀ xs, SqL K H a xs → xs[i]? = some x, (Ite K a).stop⟩
theorem turn_enumS {P : Program} {w : World} {K : PySem.W.Frag} {elts : List Expr} {kk : Nat} {tpos : Pos} (a e it : Addr) (k : Int) :
    Turn P w K (.Tuple elts kk tpos) (IteS K a k) [e, it] e (fun i h => (∃ old, IsEnum h e it (k + ((i : Nat) : Int)) old) ∧ h.IsListIter it a i ∧ e ≠ it ∧ a ≠ it) where
  mem := List.mem_cons_self
  obj := by
    rintro i h ⟨⟨old, q⟩, ⟨o, ho, hc, hd⟩, _⟩ b hb
    rcases List.mem_cons.mp hb with z | z
    · refine ⟨_, (by rw [z]; exact q), fun v q => ?_⟩
      cases q
    · exact ⟨o, (by rw [List.mem_singleton.mp z]; exact ho), fun v q => by rw [hd] at q; cases q⟩
  keep := by
    rintro i h h' ⟨⟨old, q⟩, hi, n⟩ kp
    exact ⟨⟨old, kp e (by simp) _ q⟩, hi.at (fun o q => kp it (by simp) o q), n⟩
  self := fun A i s Q E st q => let ⟨⟨_, z⟩, _⟩ := st; wpAny_pyIter_enum z q
  done := by
    intro X e1 e2 e3 calm i pins s σ H E I hf st hg
    subst e1 e2 e3
    obtain ⟨⟨old, he⟩, hit, hne, hai⟩ := st
    obtain ⟨xs, hq, hx⟩ := hg
    obtain ⟨its, rv, p, hz⟩ := I.list hq
    have hl := Vals.length rv
    obtain ⟨f0, f1, f2, f3, f4, f5⟩ := hf it (by simp)
    have D := Draws.list (prog := X.prog) (w := X.w) (A := X.A.in1) (show X.A.in1.handled = none from I.ok.hd calm) it a hai its.toArray
    have hT : s.TypeIs (.ref e) "enumerate" := ⟨_, he, rfl⟩
    unfold pyNext
    refine wpAny_bind (wpAny_attempt (wpAny_callSpecial?_slot (name := Str.ofString "__next__") hT F.slot_enumerate_next (wpAny_call_entry F.slot_enumerate_next hT F.entry_enumerate_next ?_ (F.args_enumerate_next_1 _))))
    show wpAny _ _ (field (Value.ref e) 2 >>= _) _ _ _
    refine wpAny_bind (wpAny_field he rfl (x := .ref it) rfl (wpAny_bind (wpAny_nextOf_list_end (show X.A.in1.handled = none from I.ok.hd calm) hit p.isList (Array.getElem?_eq_none (by simp; omega)) ?_)))
    rintro h' x he' ⟨o, ho, hc⟩
    refine wpAny_bind (wpAny_isInstance (T := "StopIteration") (b := true) ⟨o, ho, hc⟩ isSubtype_stop (wpAny_pure ⟨rfl, ?_⟩))
    exact I.turned (t' := s.toks) (fun b o hb q => he' b o hb q) f0 f1 f3 f4 f5
  item := by
    intro X e1 e2 e3 calm i pins s σ H E I hf st hg
    subst e1 e2 e3
    obtain ⟨⟨old, he⟩, hit, hne, hai⟩ := st
    obtain ⟨xs, x, hq, hx⟩ := hg
    obtain ⟨its, rv, p, hz⟩ := I.list hq
    obtain ⟨u, hu, ru⟩ := Vals.get rv hx
    have le : e < s.heap.objs.size := Heap.lt_size he
    have li : it < s.heap.objs.size := by
      obtain ⟨_, q, _⟩ := hit
      exact Heap.lt_size q
    have D := Draws.list (prog := X.prog) (w := X.w) (A := X.A.in1) (show X.A.in1.handled = none from I.ok.hd calm) it a hai its.toArray
    have nel : e ∉ [it, a] := fun hm => by
      rcases List.mem_cons.mp hm with z | z
      · exact hne z
      · have z := List.mem_singleton.mp z
        obtain ⟨o, ho, hc, _⟩ := p.isList
        rw [← z] at ho
        have q := he.symm.trans ho
        have q2 := Option.some.inj q
        rw [← q2] at hc
        have hc2 : Value.type "enumerate" = Value.type "list" := hc
        exact absurd hc2 (by decide)
    have hii : i < its.toArray.size := by
      have q := (List.getElem?_eq_some_iff.mp hu).1
      simpa using q
    refine wpAny_pyNext_enum_itemC D he ⟨hit, p.isList⟩ hii hne nel ?_
    intro x' h' tk hP ho hs' hT hsz hk
    have eu : x' = u := by
      have q : its.toArray[i]? = some u := by simpa using hu
      exact Option.some.inj (hP.symm.trans q)
    subst eu
    refine ⟨_, rfl, wpAny_letOwnedTupleGo_enum (s := { s with heap := h', toks := tk + 1 }) ho ?_⟩
    intro h2 he2 sb
    have hT2 : h2.get? s.heap.objs.size = some { cls := .type "tuple", data := .seq #[.int (k + ((i : Nat) : Int)) tk, x'] } := (sb.2 _ (Nat.ne_of_gt le)).trans hT
    have new : ObjOk X.prog X.w (upd H s.heap.objs.size (.tup [.int (k + (i : Nat)), x])) h2 s.heap.objs.size (.tup [.int (k + (i : Nat)), x]) :=
      ⟨(by show 2 ≤ sizeLine; decide), [.int (k + ((i : Nat) : Int)) tk, x'], .cons ⟨tk, rfl⟩ (.cons ru .nil), ⟨_, hT2, rfl, _, rfl⟩⟩
    have J : Inv X pins σ (upd H s.heap.objs.size (.tup [.int (k + (i : Nat)), x])) { s with heap := h2, toks := tk + 1 } :=
      I.turnedNew (ch := [e, it]) (fun b ob hb q => (sb.2 b (fun z => hb (by simp [z]))).trans (hk b ob (fun z => hb (by simp [z])) (fun z => hb (by simp [z])) q)) hf (Nat.le_refl _) new
    refine ⟨.ref s.heap.objs.size, _, J, rfl, ⟨_, x, rfl, I.hok.fresh (Nat.le_refl _), rfl, fun ys hy => by rw [I.list_inj hy hq]; exact hx⟩, ⟨⟨x', ?_⟩, hs'.1.at fun o q => (sb.2 it (Ne.symm hne)).trans q, hne, hai⟩, ?_⟩
    · have e1 : k + ((i + 1 : Nat) : Int) = k + (i : Int) + 1 := by omega
      rw [e1]
      exact he2
    · intro b hb
      have hb' : b < s.heap.objs.size := by
        rcases List.mem_cons.mp hb with z | z
        · rw [z]
          exact le
        · rw [List.mem_singleton.mp z]
          exact li
      rw [upd_ne (Nat.ne_of_lt hb')]
      exact (hf b hb).1
section
variable {M : Model} {A : Around} {E : Value → Shared → Prop} {s : Shared} {env : Env}
theorem cw_tyK {pos : Pos} {T : String} {e : Expr} {rest : List Expr} {kws : List Keyword} {Q : Value → Shared → Prop}
    (h : wpAny M A (spliced (backTo pos (starEach (e :: rest) env))) (fun vs s1 => wpAny M A (evalAll ((backToKw pos (keywordEach kws env)).map (·.2)))
      (fun ks s2 => wpAny M A (call (.type T) vs (((backToKw pos (keywordEach kws env)).filterMap (·.1)).zip ks)) Q E s2) E s1) E s)
    (he : backTo pos (starEach (e :: rest) env) = (false, eval e env) :: backTo pos (starEach rest env)) (hpl : (backTo pos (starEach (e :: rest) env)).any (·.1) = false)
    (hall : (backToKw pos (keywordEach kws env)).all (·.1.isSome) = true) (hkw : (backToKw pos (keywordEach kws env)).any (·.1.isNone) = false) :
    wpAny M A (callWith pos (.type T) [] (backTo pos (starEach (e :: rest) env)) (backToKw pos (keywordEach kws env))) Q E s := by
  have g : wpAny M A (evalArgs (.type T) true (backTo pos (starEach (e :: rest) env)) (backToKw pos (keywordEach kws env))) (fun a s1 => wpAny M A (call (.type T) a.pos a.kw) Q E s1) E s := by
    rw [he] at h ⊢
    exact evalArgs_kwB hall h
  unfold callWith
  refine wpAny_bind (wpAny_holding (thn g ?_))
  intro a s1 h1
  refine wpAny_bind (wpAny_standAt ?_)
  simp only [hpl, hkw, Bool.or_false]
  refine wpAny_bind (wpAny_pure (wpAny_bind (thn h1 ?_)))
  intro r s2 hr
  exact wpAny_bind (wpAny_holding (wpAny_point (wpAny_pure hr)))
end
def iEnumS (K : PySem.W.Frag) (ta tk : TA) : TI := fun σ H R => ta σ H fun vs H1 => tk σ H1 fun zs H2 => ∃ a xs k, vs = [.ref a] ∧ zs = [.int k] ∧ -(2 ^ 63) ≤ k ∧ k < 2 ^ 63 ∧ SqL K H2 a xs ∧ R (IteS K a k) H2
theorem pi_enumS {X : Cx} {e : Expr} {kws : List Keyword} {ta tk : TA} {p pos tpos : Pos} {elts : List Expr} {kk : Nat} (hg : Gl X "enumerate") (hm : X.mg "enumerate" = none) (ha : PA X [e] ta) (hk : PK X kws tk)
    (he : backTo pos (starEach [e] X.env) = (false, eval e X.env) :: backTo pos (starEach [] X.env) := by rfl) (hpl : (backTo pos (starEach [e] X.env)).any (·.1) = false := by rfl)
    (hall : (backToKw pos (keywordEach kws X.env)).all (·.1.isSome) = true := by rfl) (hnone : (backToKw pos (keywordEach kws X.env)).any (·.1.isNone) = false := by rfl) (hks : (backToKw pos (keywordEach kws X.env)).filterMap (·.1) = (["start"] : List Str) := by rfl) :
    PI X (.Tuple elts kk tpos) (.Call (.Name "enumerate" p) [e] kws pos) (iEnumS X.K ta tk) := by
  constructor
  intro pins s σ H R I h
  refine wpAny_Call_Name_kw (ld_blt I hg hm PyProof.Rows.boot_enumerate ?_)
  refine cw_tyK (thn (ha.run pos pins s σ H _ I h) ?_) he hpl hall hnone
  rintro us s1 ⟨vs, H1, I1, r1, q1⟩
  refine thn (hk.run pos pins s1 σ H1 _ I1 q1) ?_
  rintro ws s2 ⟨zs, H2, I2, r2, a, xs, k, rfl, rfl, k0, k1, hq, q⟩
  rw [hks]
  cases r1 with
  | cons ra rn =>
    cases rn
    cases ra
    cases r2 with
    | cons rk rn =>
      cases rn
      obtain ⟨t, rfl⟩ := rk
      obtain ⟨its, rv, pl, hz⟩ := I2.list hq
      have la : a < s2.heap.objs.size := by
        obtain ⟨o, ho, _⟩ := pl.isList
        exact Heap.lt_size ho
      refine enum_begins_start (begins_list a its.toArray) pl.isList k0 k1 ?_
      intro h' hen hit hsz hkp
      refine wpAny_pyIter_enum hen ?_
      have I3 : Inv X pins σ H2 { s2 with heap := h' } := I2.kept (t' := s2.toks) hkp
      have ek : k + ((0 : Nat) : Int) = k := by omega
      refine ⟨s2.heap.objs.size + 1, [s2.heap.objs.size + 1, s2.heap.objs.size], _, _, H2, rfl, I3, turn_enumS a (s2.heap.objs.size + 1) s2.heap.objs.size k,
        ⟨⟨.none, by rw [ek]; exact hen⟩, ⟨_, hit, rfl, rfl⟩, Nat.succ_ne_self _, Nat.ne_of_lt la⟩, ?_, q⟩
      intro b hb
      have hle : s2.heap.objs.size ≤ b := by
        rcases List.mem_cons.mp hb with z | z
        · rw [z]
          exact Nat.le_succ _
        · rw [List.mem_singleton.mp z]
          exact Nat.le_refl _
      exact I2.fpOk hle (I2.hok.fresh hle)
theorem walk_enumS {K : PySem.W.Frag} {a : Addr} {xs : List V} {k : Int} : Walk (IteS K a k) xs.length (fun H => SqL K H a xs) (YPair (fun i => some (.int (k + (i : Nat)))) (fun i => xs[i]?)) where
  goes := fun i H hi hs => ⟨xs, xs[i], hs, List.getElem?_eq_getElem hi⟩
  stops := fun H hs => ⟨xs, hs, Nat.le_refl _⟩
  yields := fun i H x H' hi hs y => let ⟨T, x', e1, e2, e3, e4⟩ := y; ⟨T, _, x', e1, e2, e3, rfl, e4 xs hs⟩
end MX

set_option Elab.async false
set_option linter.all false
set_option maxRecDepth 100000
set_option maxHeartbeats 4000000
namespace MX
open PySem PySem.Spec PySem.W PySem.Calls PyProof.Rows L2
/-! ### what the small functions of halls tell -/
def letters : Str := "abcdefghijklmnopqrstuvwxyz"
def nameB (x : Str) : Bool := decide (1 ≤ x.length) && (decide (x.length ≤ 8) && x.cps.toList.all fun c => decide (c ∈ letters.cps.toList))
def amongB (xs ps : List Str) : Bool := decide xs.Nodup && xs.all fun x => decide (x ∈ ps)
def headIs (ws : List Str) (x : Str) : Bool := decide (ws[0]? = some x)
def peopleB (ws : List Str) : Bool := headIs ws "people" && (decide (1 ≤ (ws.drop 1).length) && (decide ((ws.drop 1).length ≤ 9) && (decide (ws.drop 1).Nodup && (ws.drop 1).all nameB)))
def metB (ws ps : List Str) : Bool := headIs ws "met" && (decide (2 ≤ (ws.drop 1).length) && amongB (ws.drop 1) ps)
def keyT (ws : List Str) : List Key := ws.map Sum.inr
def openB (ws ps : List Str) (T : List (List Key × V)) : Bool := headIs ws "open" && (decide ((ws.drop 1).length = 2) && (amongB (ws.drop 1) ps && (valV T (keyT (ws.drop 1))).isNone))
theorem cut1 (ws : List Str) : cutV (ws.map V.str) (some 1) none = (ws.drop 1).map V.str := by
  cases ws with
  | nil => rfl
  | cons w ws =>
    unfold cutV
    have e1 : HT.sIx ((w :: ws).map V.str).length 0 (some 1) = 1 := by
      unfold HT.sIx
      simp
    have e2 : HT.sIx ((w :: ws).map V.str).length ((w :: ws).map V.str).length none = ((w :: ws).map V.str).length := rfl
    rw [e1, e2]
    simp only [List.map_cons, List.drop_succ_cons, List.drop_zero, List.length_cons, List.length_map, Nat.add_sub_cancel]
    rw [← List.length_map (f := V.str), List.take_length]
/-- one turn of a comprehension whose element gives f x and leaves what stood -/
theorem lcStep {α : Type} {H1 H' H2 : Hp} {D : Addr} {xs : List α} {k : Nat} {x : α} {f : α → V} (eD : H' D = some (.lst ((xs.take k).map f))) (hx : xs[k]? = some x) (s : Same H1 H') (nD : H1 D = none) (s2 : Same H' H2) (few : xs.length ≤ 10000) :
    ∃ acc, H2 D = some (.lst acc) ∧ acc.length < sizeLine ∧ ((upd H2 D (.lst (acc ++ [f x]))) D = some (.lst ((xs.take (k + 1)).map f)) ∧ Same H1 (upd H2 D (.lst (acc ++ [f x])))) := by
  refine ⟨_, s2 _ _ eD, ?_, ?_, fun b o e => ?_⟩
  · rw [List.length_map, List.length_take, sizeLine_eq]
    omega
  · rw [upd_same, List.take_succ, hx, List.map_append]
    rfl
  · rw [upd_ne (ne_of_none e nD)]
    exact s2 _ _ (s _ _ e)
theorem inV_str (x : Str) (ps : List Str) : inV (.str x) (ps.map V.str) = decide (x ∈ ps) := by
  unfold inV
  induction ps with
  | nil => simp
  | cons p ps ih =>
    rw [List.map_cons, List.any_cons, ih]
    show ((p == x) || decide (x ∈ ps)) = decide (x ∈ p :: ps)
    by_cases h : p = x
    · subst h
      simp
    · have h' : (p == x) = false := by simpa using h
      rw [h']
      have h2 : (x ∈ p :: ps) ↔ x ∈ ps := by
        rw [List.mem_cons]
        exact ⟨fun q => q.elim (fun q => absurd q.symm h) id, Or.inr⟩
      simp [h2]
theorem flat_strs (ps : List Str) : (ps.map V.str).all flatV = true := by
  rw [List.all_eq_true]
  intro x hx
  obtain ⟨p, _, rfl⟩ := List.mem_map.mp hx
  rfl
theorem dis_len {xs : List Str} : decide (V.int ((dis xs xs.length : Nat) : Int) = V.int ((xs.length : Nat) : Int)) = decide xs.Nodup := by
  have h := dis_nodup (xs := xs) (Nat.le_refl xs.length)
  rw [List.take_length] at h
  by_cases q : xs.Nodup
  · rw [decide_eq_true q, h.mpr q]
    simp
  · rw [decide_eq_false q]
    refine decide_eq_false fun z => q (h.mp ?_)
    have z2 := V.int.inj z
    omega
/-! ### their promises -/
def spIsName : Sp := fun vs H Q _ => ∃ x : Str, vs = [.str x] ∧ x.length ≤ 10000 ∧ ∀ H', Same H H' → Q (.bl (nameB x)) H'
def spUnlike (K : PySem.W.Frag) : Sp := fun vs H Q _ => ∃ (l : Addr) (xs : List Str), vs = [.ref l] ∧ SqL K H l (xs.map V.str) ∧ xs.length ≤ 1000 ∧ Q (.bl (decide xs.Nodup)) H
def spAmong (K : PySem.W.Frag) : Sp := fun vs H Q _ => ∃ (l p : Addr) (xs ps : List Str), vs = [.ref l, .ref p] ∧ SqL K H l (xs.map V.str) ∧ xs.length ≤ 1000 ∧ SqT K H p (ps.map V.str) ∧ ∀ H', Same H H' → Q (.bl (amongB xs ps)) H'
def spPeople (K : PySem.W.Frag) : Sp := fun vs H Q _ => ∃ (l : Addr) (ws : List Str), vs = [.ref l] ∧ SqL K H l (ws.map V.str) ∧ 0 < ws.length ∧ ws.length ≤ 1000 ∧ (∀ w ∈ ws, w.length ≤ 10000) ∧ ∀ H', Same H H' → Q (.bl (peopleB ws)) H'
def spMet (K : PySem.W.Frag) : Sp := fun vs H Q _ => ∃ (l p : Addr) (ws ps : List Str), vs = [.ref l, .ref p] ∧ SqL K H l (ws.map V.str) ∧ 0 < ws.length ∧ ws.length ≤ 1000 ∧ SqT K H p (ps.map V.str) ∧ ∀ H', Same H H' → Q (.bl (metB ws ps)) H'
def spOpen (K : PySem.W.Frag) : Sp := fun vs H Q _ => ∃ (l p d : Addr) (ws ps : List Str) (T : List (List Key × V)), vs = [.ref l, .ref p, .ref d] ∧ SqL K H l (ws.map V.str) ∧ 0 < ws.length ∧ ws.length ≤ 1000 ∧ SqT K H p (ps.map V.str) ∧ H d = some (.dT T) ∧
  ∀ H', Same H H' → Q (.bl (openB ws ps T)) H'
end MX

set_option Elab.async false
set_option linter.all false
set_option maxRecDepth 100000
set_option maxHeartbeats 4000000
namespace K15
open PySem PySem.Spec PySem.W PySem.Calls PyProof.Rows L2 MX
def top (i : Nat) : Stmt := PySem.Challenge.pw_metonce_k15_arguments_by_their_names.main.body.getD i (.Pass ⟨0, 0, 0, 0⟩)
abbrev sErr : Stmt := inClass (top 1) 0
abbrev sIsName : Stmt := top 18
abbrev sUnlike : Stmt := top 19
abbrev sAmong : Stmt := top 20
abbrev sPeople : Stmt := top 21
abbrev sMet : Stmt := top 22
abbrev sOpen : Stmt := top 23
abbrev sInit : Stmt := inClass (top 26) 0
abbrev sTakes : Stmt := inClass (top 26) 1
abbrev sTell : Stmt := inClass (top 26) 2
abbrev FnP (K : PySem.W.Frag) (x : Str) (st : Stmt) (f : Addr) (fd : FuncData) : Prop := FunD K x x (defArgs st) (defBody st) (defScope st) [] [] f fd
/-- the built-ins' names that the module leaves alone, its numbers and letters -/
structure Blt (mg : Str → Option Value) : Prop where
  len : mg "len" = none
  set : mg "set" = none
  all : mg "all" = none
  tup : mg "tuple" = none
  isi : mg "isinstance" = none
  enum : mg "enumerate" = none
  str : mg "str" = none
  letters : ∃ t, mg "LETTERS" = some (.str letters t)
  mLetters : ∃ t, mg "MOST_LETTERS" = some (.int 8 t)
  mPeople : ∃ t, mg "MOST_PEOPLE" = some (.int 9 t)
  mMet : ∃ t, mg "MOST_MET" = some (.int 20 t)
  mOpen : ∃ t, mg "MOST_OPEN" = some (.int 4 t)
section
variable {P : Program} {w : World} {K : PySem.W.Frag} {mg : Str → Option Value} {base : Heap} {f : Addr} {fd : FuncData}
theorem scIsName : FnScope ["word", "sign"] ["word"] (defScope sIsName) := ⟨rfl, rfl, rfl, by decide +kernel, rfl, by decide +kernel, by decide +kernel⟩
theorem ok_isName (F : FnP K "is_name" sIsName f fd) (B : Blt mg) : FnOk P w K mg base CX0 1 f fd ["word"] spIsName := by
  refine F.ok scIsName (fun vs H Q E h => ?_) (fun cdv A outer s H vs Q E hr h => ?_)
  · obtain ⟨x, rfl, _⟩ := h
    rfl
  · obtain ⟨x, rfl, hl, q⟩ := h
    obtain ⟨t1, g1⟩ := B.letters
    obtain ⟨t2, g2⟩ := B.mLetters
    refine ⟨_, PSs.nox (pss_one (ps_ret (pe_and (pe_chain op_le op_le pe_int (pe_callB call_len_str (by rfl) B.len PySem.boot_len (pa_cons (pv 0) pa_nil)) (pe_glob (v := .int 8) rfl g2 ⟨_, rfl⟩))
      (pe_one (pe_callB (cr_all rfl) (by rfl) B.all boot_all (pa_cons (pe_lc (own := [("sign", 1)]) (g := gName 1) (tt := tYes) rfl scIsName.nd (pi_str (pv 0)) (blkOk_by (N := ["word", "sign"]) (sc := defScope sIsName) (by decide +kernel))
        (fun _ _ _ _ _ => pg_name (i := 1) scIsName.nd rfl (Or.inl rfl)) (fun _ _ _ _ _ => pts_nil) (fun _ _ _ _ _ => pe_cmpR op_in_sign (pv 1) (pe_glob (v := .str letters) rfl g1 ⟨_, rfl⟩) rfl)) pa_nil)))))), ?_⟩
    refine ⟨_, rfl, x, rfl, (by rw [sizeLine_eq]; omega), _, _, rfl, rfl, _, rfl, ite2 (fun h1 => ?_) (fun h1 => ?_)⟩
    · have h1 := of_decide_eq_true h1
      refine ⟨_, _, rfl, rfl, _, rfl, ite2 (fun h2 => ?_) (fun h2 => ?_)⟩
      · have h2 := of_decide_eq_true h2
        refine ⟨_, rfl, x, rfl, fun D nD => lc_it walk_str (fun k H' => H' D = some (.lst ((x.cps.toList.take k).map fun c => V.bl (decide (c ∈ letters.cps.toList)))) ∧ Same H H') ⟨by rw [upd_same]; rfl, same_new nD⟩ (fun _ _ _ _ => trivial) ?_ ?_⟩
        · rintro k y H' H'' hk ⟨eD, s⟩ ⟨rfl, c, hc, rfl⟩
          have hc' : x.cps.toList[k]? = some c := by rw [Array.getElem?_toList]; exact hc
          obtain ⟨acc, a1, a2, a3, a4⟩ := lcStep (f := fun c => V.bl (decide (c ∈ letters.cps.toList))) eD hc' s nD (Same.refl _) (by rw [Array.length_toList]; exact hl)
          exact ⟨rfl, _, rfl, c, letters, rfl, rfl, acc, a1, a2, a3, a4⟩
        · rintro H' ⟨eD, s⟩
          rw [show x.cps.size = x.cps.toList.length from (Array.length_toList).symm, List.take_length] at eD
          have e2 : (x.cps.toList.map fun c => V.bl (decide (c ∈ letters.cps.toList))) = (x.cps.toList.map fun c => decide (c ∈ letters.cps.toList)).map V.bl := by rw [List.map_map]; rfl
          rw [e2] at eD
          refine ⟨D, _, rfl, SqL.of eD, ?_⟩
          have e3 : ((x.cps.toList.map fun c => decide (c ∈ letters.cps.toList)).all id) = nameB x := by
            unfold nameB
            rw [decide_eq_true (show 1 ≤ x.length by omega), decide_eq_true (show x.length ≤ 8 by omega), List.all_map]
            rfl
          rw [e3]
          exact q H' s
      · have h2 : ¬ ((x.length : Nat) : Int) ≤ 8 := fun z => h2 (decide_eq_true z)
        have e3 : nameB x = false := by
          unfold nameB
          rw [decide_eq_false (show ¬ x.length ≤ 8 by omega)]
          simp
        have z := q H (Same.refl H)
        rw [e3] at z
        exact z
    · have h1 : ¬ (1 : Int) ≤ ((x.length : Nat) : Int) := fun z => h1 (decide_eq_true z)
      have e3 : nameB x = false := by
        unfold nameB
        rw [decide_eq_false (show ¬ 1 ≤ x.length by omega)]
        rfl
      refine ⟨_, rfl, iteF ?_⟩
      have z := q H (Same.refl H)
      rw [e3] at z
      exact z
theorem scUnlike : FnScope ["names"] ["names"] (defScope sUnlike) := ⟨rfl, rfl, rfl, by decide +kernel, rfl, by decide +kernel, by decide +kernel⟩
theorem ok_unlike (F : FnP K "are_unlike" sUnlike f fd) (B : Blt mg) : FnOk P w K mg base CX0 1 f fd ["names"] (spUnlike K) := by
  refine F.ok scUnlike (fun vs H Q E h => ?_) (fun cdv A outer s H vs Q E hr h => ?_)
  · obtain ⟨l, xs, rfl, _⟩ := h
    rfl
  · obtain ⟨l, xs, rfl, hS, hl, q⟩ := h
    refine ⟨_, PSs.nox (pss_one (ps_ret (pe_cmpR op_eq (pe_lenSetT rfl (by rfl) B.len (by rfl) B.set (pv 0)) (pe_callB call_len_seq (by rfl) B.len PySem.boot_len (pa_cons (pv 0) pa_nil)) (nomark _)))), ?_⟩
    refine ⟨_, rfl, l, xs, rfl, hS, hl, _, rfl, l, _, rfl, .inl hS, rfl, ?_⟩
    rw [List.length_map, dis_len]
    exact q
theorem scAmong : FnScope ["names", "people", "name"] ["names", "people"] (defScope sAmong) := ⟨rfl, rfl, rfl, by decide +kernel, rfl, by decide +kernel, by decide +kernel⟩
theorem ok_among {fU : Addr} {fdU : FuncData} (F : FnP K "are_among" sAmong f fd) (B : Blt mg) (FU : FnP K "are_unlike" sUnlike fU fdU) (gU : mg "are_unlike" = some (.ref fU)) : FnOk P w K mg base CX0 2 f fd ["names", "people"] (spAmong K) := by
  have GU : FnOk P w K mg base CX0 1 fU fdU ["names"] (spUnlike K) := ok_unlike FU B
  have bU : Binds K fdU ["names"] [] := FU.bindsN fun _ _ _ _ _ _ us hl => match us, hl with | [_], _ => rfl
  refine F.ok scAmong (fun vs H Q E h => ?_) (fun cdv A outer s H vs Q E hr h => ?_)
  · obtain ⟨l, p, xs, ps, rfl, _⟩ := h
    rfl
  · obtain ⟨l, p, xs, ps, rfl, hS, hl, hT, q⟩ := h
    refine ⟨_, PSs.nox (pss_one (ps_ret (pe_and (pe_call GU hr rfl gU FU.kp bU .nil pass0 (pa_cons (pv 0) pa_nil))
      (pe_one (pe_callB (cr_all rfl) (by rfl) B.all boot_all (pa_cons (pe_lc (own := [("name", 2)]) (g := gName 2) (tt := tYes) rfl scAmong.nd (pi_list (pv 0)) (blkOk_by (N := ["names", "people", "name"]) (sc := defScope sAmong) (by decide +kernel))
        (fun _ _ _ _ _ => pg_name (i := 2) scAmong.nd rfl (Or.inl rfl)) (fun _ _ _ _ _ => pts_nil) (fun _ _ _ _ _ => pe_cmpR (r := rIn K false) op_in_seq (pv 2) (pv 1) rfl)) pa_nil)))))), ?_⟩
    refine ⟨_, rfl, l, xs, rfl, hS, hl, _, rfl, ite2 (fun hn => ?_) (fun hn => ?_)⟩
    · have hn := of_decide_eq_true hn
      refine ⟨_, rfl, l, rfl, ⟨_, hS⟩, fun D nD => lc_list (xs := xs.map V.str) (fun k H' => H' D = some (.lst ((xs.take k).map fun x => V.bl (decide (x ∈ ps)))) ∧ Same H H') ⟨by rw [upd_same]; rfl, same_new nD⟩ (fun k H' _ z => z.2.seq hS) ?_ ?_⟩
      · rintro k y H' hy ⟨eD, s⟩
        rw [List.getElem?_map] at hy
        obtain ⟨x, hx, rfl⟩ := Option.map_eq_some_iff.mp hy
        obtain ⟨acc, a1, a2, a3, a4⟩ := lcStep (f := fun x => V.bl (decide (x ∈ ps))) eD hx s nD (Same.refl _) (by omega)
        refine ⟨rfl, _, rfl, _, rfl, p, ps.map V.str, rfl, .inr ?_, rfl, MX.flat_strs ps, acc, a1, a2, ?_⟩
        · rcases hT with (h | ⟨o, h⟩) | h
          · exact .inl (.inl (s _ _ h))
          · exact .inl (.inr ⟨o, s _ _ h⟩)
          · exact .inr h
        · rw [show (if false = true then !inV (V.str x) (ps.map V.str) else inV (V.str x) (ps.map V.str)) = decide (x ∈ ps) from inV_str x ps]
          exact ⟨a3, a4⟩
      · rintro H' ⟨eD, s⟩
        rw [List.length_map, List.take_length] at eD
        have e2 : (xs.map fun x => V.bl (decide (x ∈ ps))) = (xs.map fun x => decide (x ∈ ps)).map V.bl := by rw [List.map_map]; rfl
        rw [e2] at eD
        refine ⟨D, _, rfl, SqL.of eD, ?_⟩
        have e3 : ((xs.map fun x => decide (x ∈ ps)).all id) = amongB xs ps := by
          unfold amongB
          rw [decide_eq_true hn, List.all_map]
          rfl
        rw [e3]
        exact q H' s
    · have hn : ¬ xs.Nodup := fun z => hn (decide_eq_true z)
      have e3 : amongB xs ps = false := by
        unfold amongB
        rw [decide_eq_false hn]
        rfl
      have z := q H (Same.refl H)
      rw [e3] at z
      exact z
theorem scPeople : FnScope ["words", "names", "name"] ["words"] (defScope sPeople) := ⟨rfl, rfl, rfl, by decide +kernel, rfl, by decide +kernel, by decide +kernel⟩
theorem ok_people {fU fN : Addr} {fdU fdN : FuncData} (F : FnP K "is_people_line" sPeople f fd) (B : Blt mg) (FU : FnP K "are_unlike" sUnlike fU fdU) (gU : mg "are_unlike" = some (.ref fU)) (FN : FnP K "is_name" sIsName fN fdN) (gN : mg "is_name" = some (.ref fN)) :
    FnOk P w K mg base CX0 2 f fd ["words"] (spPeople K) := by
  have GU : FnOk P w K mg base CX0 1 fU fdU ["names"] (spUnlike K) := ok_unlike FU B
  have bU : Binds K fdU ["names"] [] := FU.bindsN fun _ _ _ _ _ _ us hl => match us, hl with | [_], _ => rfl
  have GN : FnOk P w K mg base CX0 1 fN fdN ["word"] spIsName := ok_isName FN B
  have bN : Binds K fdN ["word"] [] := FN.bindsN fun _ _ _ _ _ _ us hl => match us, hl with | [_], _ => rfl
  refine F.ok scPeople (fun vs H Q E h => ?_) (fun cdv A outer s H vs Q E hr h => ?_)
  · obtain ⟨l, ws, rfl, _⟩ := h
    rfl
  · obtain ⟨l, ws, rfl, hS, h0, hl, hw, q⟩ := h
    obtain ⟨t2, g2⟩ := B.mPeople
    refine ⟨_, PSs.nox (pss_cons (ps_set (i := 1) scPeople.nd rfl (Or.inl rfl) (pe_slice sl_list (pv 0) (po_some pe_int) po_none))
      (pss_cons (ps_if (PW.pt (pw_or (pt_cmpR op_ne (pe_ix ix_list (pv 0) pe_int (fun _ _ => rfl)) pe_str (nomark _)) (pw_or1 (pt_not (pt_chain op_le op_le pe_int (pe_callB call_len_seq (by rfl) B.len PySem.boot_len (pa_cons (pv 1) pa_nil)) (pe_glob (v := .int 9) rfl g2 ⟨_, rfl⟩))))))
        (pss_one (ps_ret pe_bl)) pss_nil)
      (pss_one (ps_ret (pe_and (pe_call GU hr rfl gU FU.kp bU .nil pass0 (pa_cons (pv 1) pa_nil))
        (pe_one (pe_callB (cr_all rfl) (by rfl) B.all boot_all (pa_cons (pe_lc (own := [("name", 2)]) (g := gName 2) (tt := tYes) rfl scPeople.nd (pi_list (pv 1)) (blkOk_by (N := ["words", "names", "name"]) (sc := defScope sPeople) (by decide +kernel))
          (fun _ _ _ _ _ => pg_name (i := 2) scPeople.nd rfl (Or.inl rfl)) (fun _ _ _ _ _ => pts_nil) (fun _ _ _ _ _ => pe_call GN hr rfl gN FN.kp bN .nil pass0 (pa_cons (pv 2) pa_nil))) pa_nil)))))))), ?_⟩
    refine ⟨_, rfl, _, rfl, l, _, rfl, hS, fun n hn => ?_⟩
    have sN := same_new (o := .lst (cutV (ws.map V.str) (some 1) none)) hn
    obtain ⟨w0, hw0⟩ : ∃ w0, ws[0]? = some w0 := ⟨ws[0], List.getElem?_eq_getElem h0⟩
    have eN : (L2.upd H n (.lst (cutV (ws.map V.str) (some 1) none))) n = some (.lst ((ws.drop 1).map V.str)) := by rw [upd_same, cut1]
    have bad : peopleB ws = false → Q (.bl false) (L2.upd H n (.lst (cutV (ws.map V.str) (some 1) none))) := fun z => by
      have z2 := q _ sN
      rw [z] at z2
      exact z2
    refine ⟨_, rfl, l, _, _, V.str w0, rfl, rfl, sN.seq hS, atI_nat (by rw [List.getElem?_map, hw0]; rfl), rfl, _, rfl, ?_⟩
    by_cases e0 : w0 = "people"
    · rw [e0, decide_eq_true rfl]
      refine iteF ⟨_, rfl, n, _, rfl, .inl (SqL.of eN), _, _, rfl, rfl, _, rfl, ite2 (fun h1 => ?_) (fun h1 => ?_)⟩
      · have h1 := of_decide_eq_true h1
        refine ⟨_, _, rfl, rfl, _, rfl, ?_⟩
        by_cases h9 : (((ws.drop 1).map V.str).length : Int) ≤ 9
        · rw [decide_eq_true h9]
          rw [List.length_map] at h1 h9
          have hlN : (ws.drop 1).length ≤ 1000 := by omega
          refine iteF ⟨_, rfl, n, ws.drop 1, rfl, SqL.of eN, hlN, _, rfl, ite2 (fun hu => ?_) (fun hu => ?_)⟩
          · have hu := of_decide_eq_true hu
            refine ⟨_, rfl, n, rfl, ⟨_, SqL.of eN⟩, fun D nD => lc_list (xs := (ws.drop 1).map V.str) (fun k H' => H' D = some (.lst (((ws.drop 1).take k).map fun x => V.bl (nameB x))) ∧ Same (L2.upd H n (.lst (cutV (ws.map V.str) (some 1) none))) H')
              ⟨by rw [upd_same]; rfl, same_new nD⟩ (fun k H' _ z => SqL.of (z.2 _ _ eN)) ?_ ?_⟩
            · rintro k y H' hy ⟨eD, s⟩
              rw [List.getElem?_map] at hy
              obtain ⟨x, hx, rfl⟩ := Option.map_eq_some_iff.mp hy
              refine ⟨rfl, _, rfl, x, rfl, hw x (List.mem_of_mem_drop (List.mem_of_getElem? hx)), fun H2 s2 => ?_⟩
              exact lcStep (f := fun x => V.bl (nameB x)) eD hx s nD s2 (by omega)
            · rintro H' ⟨eD, s⟩
              rw [List.length_map, List.take_length] at eD
              have e2 : ((ws.drop 1).map fun x => V.bl (nameB x)) = ((ws.drop 1).map nameB).map V.bl := by rw [List.map_map]; rfl
              rw [e2] at eD
              refine ⟨D, _, rfl, SqL.of eD, ?_⟩
              have e3 : (((ws.drop 1).map nameB).all id) = peopleB ws := by
                unfold peopleB headIs
                rw [decide_eq_true (show ws[0]? = some ("people" : Str) by rw [hw0, e0]), decide_eq_true (show 1 ≤ (ws.drop 1).length by omega), decide_eq_true (show (ws.drop 1).length ≤ 9 by omega), decide_eq_true hu, List.all_map]
                rfl
              rw [e3]
              exact q H' (sN.trans s)
          · have hu : ¬ (ws.drop 1).Nodup := fun z => hu (decide_eq_true z)
            refine bad ?_
            unfold peopleB
            rw [decide_eq_false hu]
            simp
        · rw [decide_eq_false h9]
          refine iteT (bad ?_)
          rw [List.length_map] at h9
          unfold peopleB
          rw [decide_eq_false (show ¬ (ws.drop 1).length ≤ 9 by omega)]
          simp
      · have h1 : ¬ (1 : Int) ≤ (((ws.drop 1).map V.str).length : Int) := fun z => h1 (decide_eq_true z)
        refine ⟨_, rfl, iteT (bad ?_)⟩
        rw [List.length_map] at h1
        unfold peopleB
        rw [decide_eq_false (show ¬ 1 ≤ (ws.drop 1).length by omega)]
        simp
    · have e0' : decide (V.str w0 = V.str "people") = false := decide_eq_false fun z => e0 (V.str.inj z)
      rw [e0']
      refine iteT (bad ?_)
      unfold peopleB headIs
      rw [decide_eq_false (show ¬ ws[0]? = some ("people" : Str) by rw [hw0]; exact fun z => e0 (Option.some.inj z))]
      rfl
theorem scMet : FnScope ["words", "people", "names"] ["words", "people"] (defScope sMet) := ⟨rfl, rfl, rfl, by decide +kernel, rfl, by decide +kernel, by decide +kernel⟩
theorem seqT_same {H H' : Hp} {p : Addr} {xs : List V} (s : Same H H') (h : SqT K H p xs) : SqT K H' p xs := by
  rcases h with (h | ⟨o, h⟩) | h
  · exact .inl (.inl (s _ _ h))
  · exact .inl (.inr ⟨o, s _ _ h⟩)
  · exact .inr h
theorem ok_met {fU fA : Addr} {fdU fdA : FuncData} (F : FnP K "is_met_line" sMet f fd) (B : Blt mg) (FU : FnP K "are_unlike" sUnlike fU fdU) (gU : mg "are_unlike" = some (.ref fU)) (FA : FnP K "are_among" sAmong fA fdA) (gA : mg "are_among" = some (.ref fA)) :
    FnOk P w K mg base CX0 3 f fd ["words", "people"] (spMet K) := by
  have GA : FnOk P w K mg base CX0 2 fA fdA ["names", "people"] (spAmong K) := ok_among FA B FU gU
  have bA : Binds K fdA ["names", "people"] [] := FA.bindsN fun _ _ _ _ _ _ us hl => match us, hl with | [_, _], _ => rfl
  refine F.ok scMet (fun vs H Q E h => ?_) (fun cdv A outer s H vs Q E hr h => ?_)
  · obtain ⟨l, p, ws, ps, rfl, _⟩ := h
    rfl
  · obtain ⟨l, p, ws, ps, rfl, hS, h0, hl, hT, q⟩ := h
    refine ⟨_, PSs.nox (pss_cons (ps_set (i := 2) scMet.nd rfl (Or.inl rfl) (pe_slice sl_list (pv 0) (po_some pe_int) po_none))
      (pss_one (ps_ret (pe_and (pe_cmpR op_eq (pe_ix ix_list (pv 0) pe_int (fun _ _ => rfl)) pe_str (nomark _))
        (pe_and (pe_cmpR op_ge (pe_callB call_len_seq (by rfl) B.len PySem.boot_len (pa_cons (pv 2) pa_nil)) pe_int (nomark _))
        (pe_one (pe_call GA hr rfl gA FA.kp bA .nil pass0 (pa_cons (pv 2) (pa_cons (pv 1) pa_nil))))))))), ?_⟩
    refine ⟨_, rfl, _, rfl, l, _, rfl, hS, fun n hn => ?_⟩
    have sN := same_new (o := .lst (cutV (ws.map V.str) (some 1) none)) hn
    obtain ⟨w0, hw0⟩ : ∃ w0, ws[0]? = some w0 := ⟨ws[0], List.getElem?_eq_getElem h0⟩
    have eN : (L2.upd H n (.lst (cutV (ws.map V.str) (some 1) none))) n = some (.lst ((ws.drop 1).map V.str)) := by rw [upd_same, cut1]
    have bad : metB ws ps = false → Q (.bl false) (L2.upd H n (.lst (cutV (ws.map V.str) (some 1) none))) := fun z => by
      have z2 := q _ sN
      rw [z] at z2
      exact z2
    refine ⟨_, rfl, l, _, _, V.str w0, rfl, rfl, sN.seq hS, atI_nat (by rw [List.getElem?_map, hw0]; rfl), rfl, _, rfl, ?_⟩
    by_cases e0 : w0 = "met"
    · rw [e0, decide_eq_true rfl]
      refine iteT ⟨_, rfl, n, _, rfl, .inl (SqL.of eN), _, _, rfl, rfl, _, rfl, ite2 (fun h2 => ?_) (fun h2 => ?_)⟩
      · have h2 := of_decide_eq_true h2
        rw [List.length_map] at h2
        have hlN : (ws.drop 1).length ≤ 1000 := by
          rw [List.length_drop]
          omega
        refine ⟨_, rfl, _, rfl, n, p, ws.drop 1, ps, rfl, SqL.of eN, hlN, seqT_same sN hT, fun H' s' => ?_⟩
        have e3 : amongB (ws.drop 1) ps = metB ws ps := by
          unfold metB headIs
          rw [decide_eq_true (show ws[0]? = some ("met" : Str) by rw [hw0, e0]), decide_eq_true (show 2 ≤ (ws.drop 1).length by omega)]
          rfl
        rw [e3]
        exact q H' (sN.trans s')
      · have h2 : ¬ (2 : Int) ≤ (((ws.drop 1).map V.str).length : Int) := fun z => h2 (decide_eq_true z)
        rw [List.length_map] at h2
        refine bad ?_
        unfold metB
        rw [decide_eq_false (show ¬ 2 ≤ (ws.drop 1).length by omega)]
        simp
    · have e0' : decide (V.str w0 = V.str "met") = false := decide_eq_false fun z => e0 (V.str.inj z)
      rw [e0']
      refine iteF (bad ?_)
      unfold metB headIs
      rw [decide_eq_false (show ¬ ws[0]? = some ("met" : Str) by rw [hw0]; exact fun z => e0 (Option.some.inj z))]
      rfl
theorem scOpen : FnScope ["words", "people", "told", "names"] ["words", "people", "told"] (defScope sOpen) := ⟨rfl, rfl, rfl, by decide +kernel, rfl, by decide +kernel, by decide +kernel⟩
theorem ok_open {fU fA : Addr} {fdU fdA : FuncData} (F : FnP K "is_open_line" sOpen f fd) (B : Blt mg) (FU : FnP K "are_unlike" sUnlike fU fdU) (gU : mg "are_unlike" = some (.ref fU)) (FA : FnP K "are_among" sAmong fA fdA) (gA : mg "are_among" = some (.ref fA)) :
    FnOk P w K mg base CX0 3 f fd ["words", "people", "told"] (spOpen K) := by
  have GA : FnOk P w K mg base CX0 2 fA fdA ["names", "people"] (spAmong K) := ok_among FA B FU gU
  have bA : Binds K fdA ["names", "people"] [] := FA.bindsN fun _ _ _ _ _ _ us hl => match us, hl with | [_, _], _ => rfl
  refine F.ok scOpen (fun vs H Q E h => ?_) (fun cdv A outer s H vs Q E hr h => ?_)
  · obtain ⟨l, p, d, ws, ps, T, rfl, _⟩ := h
    rfl
  · obtain ⟨l, p, d, ws, ps, T, rfl, hS, h0, hl, hT, hd, q⟩ := h
    have hu := hr.units
    refine ⟨_, PSs.nox (pss_cons (ps_set (i := 3) scOpen.nd rfl (Or.inl rfl) (pe_slice sl_list (pv 0) (po_some pe_int) po_none))
      (pss_one (ps_ret (pe_and (pe_cmpR op_eq (pe_ix ix_list (pv 0) pe_int (fun _ _ => rfl)) pe_str (nomark _))
        (pe_and (pe_cmpR op_eq (pe_callB call_len_seq (by rfl) B.len PySem.boot_len (pa_cons (pv 3) pa_nil)) pe_int (nomark _))
        (pe_and (pe_call GA hr rfl gA FA.kp bA .nil pass0 (pa_cons (pv 3) (pa_cons (pv 1) pa_nil)))
        (pe_one (pe_cmp (pc_dnotin (hu_of hr) (pe_callTy call_tuple_of (by rfl) B.tup boot_tuple (pa_cons (pv 3) pa_nil)) (pv 2)) rfl)))))))), ?_⟩
    refine ⟨_, rfl, _, rfl, l, _, rfl, hS, fun n hn => ?_⟩
    have sN := same_new (o := .lst (cutV (ws.map V.str) (some 1) none)) hn
    obtain ⟨w0, hw0⟩ : ∃ w0, ws[0]? = some w0 := ⟨ws[0], List.getElem?_eq_getElem h0⟩
    have eN : (L2.upd H n (.lst (cutV (ws.map V.str) (some 1) none))) n = some (.lst ((ws.drop 1).map V.str)) := by rw [upd_same, cut1]
    have bad : openB ws ps T = false → ∀ H', Same H H' → Q (.bl false) H' := fun z H' s' => by
      have z2 := q H' s'
      rw [z] at z2
      exact z2
    refine ⟨_, rfl, l, _, _, V.str w0, rfl, rfl, sN.seq hS, atI_nat (by rw [List.getElem?_map, hw0]; rfl), rfl, _, rfl, ?_⟩
    by_cases e0 : w0 = "open"
    · rw [e0, decide_eq_true rfl]
      refine iteT ⟨_, rfl, n, _, rfl, .inl (SqL.of eN), rfl, _, rfl, ite2 (fun h2 => ?_) (fun h2 => ?_)⟩
      · have h2 : (ws.drop 1).length = 2 := by
          have z := V.int.inj (of_decide_eq_true h2)
          rw [List.length_map] at z
          omega
        refine ⟨_, rfl, _, rfl, n, p, ws.drop 1, ps, rfl, SqL.of eN, by omega, seqT_same sN hT, fun H' s' => ⟨_, rfl, ite2 (fun ha => ?_) (fun ha => ?_)⟩⟩
        · refine ⟨_, rfl, n, (ws.drop 1).map V.str, rfl, .inl ⟨SqL.of (s' _ _ eN), fun t ht => ?_⟩⟩
          have s2 := (sN.trans s').trans (same_new (o := .tup ((ws.drop 1).map V.str)) ht)
          have ek : ((ws.drop 1).map V.str) = (keyT (ws.drop 1)).map kV := by
            unfold keyT
            rw [List.map_map]
            rfl
          refine ⟨_, rfl, d, _, rfl, DGet.t (k := keyT (ws.drop 1)) (s2 _ _ hd) (by rw [upd_same, ek]), ?_⟩
          have e3 : (!(valV T (keyT (ws.drop 1))).isSome) = openB ws ps T := by
            unfold openB headIs
            rw [decide_eq_true (show ws[0]? = some ("open" : Str) by rw [hw0, e0]), decide_eq_true h2, ha]
            cases valV T (keyT (ws.drop 1)) <;> rfl
          rw [e3]
          exact q _ s2
        · have ha : amongB (ws.drop 1) ps = false := by
            cases z : amongB (ws.drop 1) ps with
            | true => exact absurd z ha
            | false => rfl
          refine bad ?_ _ (sN.trans s')
          unfold openB
          rw [ha]
          simp
      · have h2 : ¬ (ws.drop 1).length = 2 := fun z => h2 (decide_eq_true (by rw [List.length_map, z]; rfl))
        refine bad ?_ _ sN
        unfold openB
        rw [decide_eq_false h2]
        simp
    · have e0' : decide (V.str w0 = V.str "open") = false := decide_eq_false fun z => e0 (V.str.inj z)
      rw [e0']
      refine iteF (bad ?_ _ sN)
      unfold openB headIs
      rw [decide_eq_false (show ¬ ws[0]? = some ("open" : Str) by rw [hw0]; exact fun z => e0 (Option.some.inj z))]
      rfl
end
end K15

set_option Elab.async false
set_option linter.all false
set_option maxRecDepth 100000
set_option maxHeartbeats 4000000
namespace MX
open PySem PySem.Spec PySem.W PySem.Calls PyProof.Rows L2
/-! ### heaps alike but at some places -/
def But (S : List Addr) (H H' : Hp) : Prop := ∀ b o, H b = some o → b ∉ S → H' b = some o
theorem But.refl {S : List Addr} {H : Hp} : But S H H := fun _ _ e _ => e
theorem But.trans {S : List Addr} {H H1 H2 : Hp} (a : But S H H1) (b : But S H1 H2) : But S H H2 := fun x o e n => b x o (a x o e n) n
theorem But.of {S : List Addr} {H H' : Hp} (s : Same H H') : But S H H' := fun x o e _ => s x o e
theorem But.up {S : List Addr} {H H' : Hp} {a : Addr} {o : HO} (s : But S H H') (h : a ∈ S) : But S H (upd H' a o) := fun b o' e n => by
  have z : b ≠ a := fun z => n (by rw [z]; exact h)
  rw [upd_ne z]
  exact s b o' e n
theorem But.new {S : List Addr} {H H' : Hp} {a : Addr} {o : HO} (s : But S H H') (h : H' a = none) : But S H (upd H' a o) := fun b o' e n => by
  have z := s b o' e n
  rw [upd_ne (ne_of_none z h)]
  exact z
theorem But.mono {S S' : List Addr} {H H' : Hp} (s : But S H H') (h : ∀ a ∈ S, a ∈ S') : But S' H H' := fun b o e n => s b o e fun z => n (h b z)
theorem But.seqL {S : List Addr} {H H' : Hp} {K : PySem.W.Frag} {l : Addr} {xs : List V} (s : But S H H') (h : SqL K H l xs) (n : ∀ a ∈ S, ¬ Rd H a (.lst xs)) : SqL K H' l xs := by
  rcases h with h | h
  · have nl : l ∉ S := fun z => n l z h
    rcases h with h | ⟨o, h⟩
    · exact .inl (.inl (s _ _ h nl))
    · exact .inl (.inr ⟨o, s _ _ h nl⟩)
  · exact .inr h
theorem nrd_t {H : Hp} {d : Addr} {T : List (List Key × V)} {o : HO} (e : H d = some (.dT T)) (n : ∀ T, o ≠ .dT T) (m : ∀ ob x, o ≠ .frz ob x) : ∀ a ∈ [d], ¬ Rd H a o := by
  intro a ha z
  rw [List.mem_singleton.mp ha] at z
  rcases z with z | ⟨ob, z⟩
  · rw [e] at z
    exact n T (Option.some.inj z).symm
  · rw [e] at z
    cases z
/-! ### what is told -/
abbrev Tm := List (List Key × V)
def tell1 (x y : Str) (w : Str) (T : Tm) : Tm := if x = y then T else putK T [Sum.inr x, Sum.inr y] (.str w)
def tellR (x : Str) (w : Str) (ys : List Str) (T : Tm) : Tm := ys.foldl (fun T y => tell1 x y w T) T
def tellA (ys xs : List Str) (w : Str) (T : Tm) : Tm := xs.foldl (fun T x => tellR x w ys T) T
theorem put_len {T : Tm} {k : List Key} {v : V} : (putK T k v).length ≤ T.length + 1 := by
  unfold putK
  split
  · rw [List.length_map]; omega
  · rw [List.length_append]; simp
theorem tell1_len {x y w : Str} {T : Tm} : (tell1 x y w T).length ≤ T.length + 1 := by
  unfold tell1
  split
  · omega
  · exact put_len
theorem tellR_len {x w : Str} : ∀ (ys : List Str) (T : Tm), (tellR x w ys T).length ≤ T.length + ys.length
  | [], T => Nat.le_refl _
  | y :: ys, T => by
    have h := tellR_len (x := x) (w := w) ys (tell1 x y w T)
    have h2 := tell1_len (x := x) (y := y) (w := w) (T := T)
    show (tellR x w ys (tell1 x y w T)).length ≤ T.length + (ys.length + 1)
    omega
theorem tellA_len {w : Str} {ys : List Str} : ∀ (xs : List Str) (T : Tm), (tellA ys xs w T).length ≤ T.length + xs.length * ys.length
  | [], T => by simp [tellA]
  | x :: xs, T => by
    have h := tellA_len (w := w) (ys := ys) xs (tellR x w ys T)
    have h2 := tellR_len (x := x) (w := w) ys T
    show (tellA ys xs w (tellR x w ys T)).length ≤ T.length + (xs.length + 1) * ys.length
    rw [Nat.succ_mul]
    omega
theorem tellA_snoc {w : Str} {ys xs : List Str} {x : Str} {T : Tm} : tellA ys (xs ++ [x]) w T = tellR x w ys (tellA ys xs w T) := by
  unfold tellA
  rw [List.foldl_append]
  rfl
theorem tellR_snoc {w x y : Str} {ys : List Str} {T : Tm} : tellR x w (ys ++ [y]) T = tell1 x y w (tellR x w ys T) := by
  unfold tellR
  rw [List.foldl_append]
  rfl
theorem take_snocE {α : Type} {xs : List α} {i : Nat} {x : α} (h : xs[i]? = some x) : xs.take (i + 1) = xs.take i ++ [x] := by
  rw [List.take_succ, h]
  rfl
/-- self._told is d -/
structure ToldAt (K : PySem.W.Frag) (H : Hp) (p C d : Addr) (T : Tm) : Prop where
  ex : ∃ dx fs, H p = some (.ins C dx fs) ∧ fs.lookup ("_told" : Str) = some (V.ref d)
  t : H d = some (.dT T)
theorem ToldAt.ne {K : PySem.W.Frag} {H : Hp} {p C d : Addr} {T : Tm} (h : ToldAt K H p C d T) : p ≠ d := fun z => by
  obtain ⟨dx, fs, e, _⟩ := h.ex
  have e2 := h.t
  rw [← z, e] at e2
  cases e2
theorem ToldAt.on {K : PySem.W.Frag} {H H' : Hp} {p C d : Addr} {T T' : Tm} (h : ToldAt K H p C d T) (s : But [d] H H') (e : H' d = some (.dT T')) : ToldAt K H' p C d T' := by
  obtain ⟨dx, fs, e1, e2⟩ := h.ex
  exact ⟨⟨dx, fs, s _ _ e1 (by simpa using h.ne), e2⟩, e⟩
def spTell (K : PySem.W.Frag) (C : Addr) : Sp := fun vs H Q _ => ∃ (p l d : Addr) (ns : List Str) (w : Str) (T : Tm), vs = [.ref p, .ref l, .str w] ∧ ToldAt K H p C d T ∧ SqL K H l (ns.map V.str) ∧ T.length + ns.length * ns.length ≤ 10000000 ∧
  ∀ H', But [d] H H' → H' d = some (.dT (tellA ns ns w T)) → Q .non H'
/-! ### what a line behind the first one does -/
abbrev Ops := List (List Str)
def stepT (ps : List Str) (n : Nat) (ws : List Str) (ot : Ops × Tm) : Option (Ops × Tm) :=
  if (decide (n ≤ 21) && (decide (ot.1.length = 0) && metB ws ps)) = true then some (ot.1, tellA (ws.drop 1) (ws.drop 1) "met" ot.2)
  else if (decide (ot.1.length < 4) && openB ws ps ot.2) = true then some (ot.1 ++ [ws.drop 1], tellA (ws.drop 1) (ws.drop 1) "open" ot.2)
  else none
def runT (ps : List Str) : Nat → List (List Str) → Ops × Tm → Nat ⊕ (Ops × Tm)
  | _, [], ot => .inr ot
  | n, ws :: r, ot => match stepT ps n ws ot with
    | none => .inl n
    | some ot' => runT ps (n + 1) r ot'
def hallLines (x : Str) : List (List Str) := (Txt.split x "\n").map fun l => Txt.split l " "
def parseH (x : Str) : Nat ⊕ (Ops × Tm) :=
  match hallLines x with
  | [] => .inl 1
  | ws :: r => if peopleB ws = true then runT (ws.drop 1) 2 r ([], []) else .inl 1
/-- a tuple of tuples of texts -/
def OpsAt (K : PySem.W.Frag) (H : Hp) (o : Addr) (ops : Ops) : Prop := ∃ qs : List Addr, H o = some (.tup (qs.map V.ref)) ∧ qs.length = ops.length ∧ ∀ (i : Nat) (q : Addr) (op : List Str), qs[i]? = some q → ops[i]? = some op → H q = some (.tup (op.map V.str))
theorem dpS (K : PySem.W.Frag) (H : Hp) : ∀ xs : List Str, DpAll K H (xs.map V.str) (xs.map PyData.str)
  | [] => .nil
  | x :: xs => .cons (.str x) (dpS K H xs)
theorem dpOps {K : PySem.W.Frag} {H : Hp} : ∀ (qs : List Addr) (ops : Ops), qs.length = ops.length → (∀ (i : Nat) (q : Addr) (op : List Str), qs[i]? = some q → ops[i]? = some op → H q = some (.tup (op.map V.str))) →
    DpAll K H (qs.map V.ref) (ops.map fun op => .tuple (op.map PyData.str))
  | [], [], _, _ => .nil
  | [], _ :: _, l, _ => by cases l
  | _ :: _, [], l, _ => by cases l
  | q :: qs, op :: ops, l, f => .cons (.tup (SqT.of (f 0 q op rfl rfl)) (dpS K H op)) (dpOps qs ops (Nat.succ.inj l) fun i x y h1 h2 => f (i + 1) x y (by simpa using h1) (by simpa using h2))
theorem OpsAt.dp {K : PySem.W.Frag} {H : Hp} {o : Addr} {ops : Ops} (h : OpsAt K H o ops) : Dp K H (.ref o) (.tuple (ops.map fun op => .tuple (op.map PyData.str))) := by
  obtain ⟨qs, e, l, f⟩ := h
  exact .tup (SqT.of e) (dpOps qs ops l f)
theorem canS : ∀ xs : List Str, (∀ x ∈ xs, PyData.strOk x = true) → PyData.canLayAll0 (xs.map PyData.str) = true
  | [], _ => rfl
  | x :: xs, h => by
    have z := canS xs fun y hy => h y (List.mem_cons_of_mem _ hy)
    simp [PyData.canLayAll0, PyData.canLay0, h x List.mem_cons_self, z]
theorem depS : ∀ xs : List Str, PyData.depthAll (xs.map PyData.str) ≤ 1
  | [] => by simp [PyData.depthAll]
  | x :: xs => by
    have z := depS xs
    simp only [List.map_cons, PyData.depthAll, PyData.depth]
    omega
theorem canOps : ∀ ops : Ops, (∀ op ∈ ops, ∀ x ∈ op, PyData.strOk x = true) → PyData.canLayAll0 (ops.map fun op => .tuple (op.map PyData.str)) = true ∧ PyData.depthAll (ops.map fun op => .tuple (op.map PyData.str)) ≤ 5
  | [], _ => ⟨rfl, by simp [PyData.depthAll]⟩
  | op :: ops, h => by
    obtain ⟨z1, z2⟩ := canOps ops fun y hy => h y (List.mem_cons_of_mem _ hy)
    have z3 := canS op (h op List.mem_cons_self)
    have z4 := depS op
    refine ⟨by simp [PyData.canLayAll0, PyData.canLay0, z1, z3], ?_⟩
    simp only [List.map_cons, PyData.depthAll, PyData.depth]
    omega
theorem shOps {ops : Ops} (h : ∀ op ∈ ops, ∀ x ∈ op, PyData.strOk x = true) : SeqAt.shaped (.tuple (ops.map fun op => .tuple (op.map PyData.str))) = true := by
  obtain ⟨z1, z2⟩ := canOps ops h
  unfold SeqAt.shaped
  rw [Bool.and_eq_true]
  refine ⟨by simpa [PyData.canLay0] using z1, decide_eq_true ?_⟩
  simp only [PyData.depth]
  omega
theorem nameOk {x : Str} (h : nameB x = true) : PyData.strOk x = true := by
  unfold nameB at h
  simp only [Bool.and_eq_true] at h
  obtain ⟨_, _, h3⟩ := h
  unfold PyData.strOk
  rw [← Array.all_toList, List.all_eq_true]
  intro c hc
  have z := of_decide_eq_true (List.all_eq_true.mp h3 c hc)
  have q : ∀ c ∈ letters.cps.toList, decide (c < 1114112) = true := by decide +kernel
  exact q c z
theorem eqv_nil {ds : List PyData} : PyData.eqv (.tuple ds) (.tuple []) = decide (ds.length = 0) := by
  cases ds with
  | nil => rfl
  | cons d ds => rfl
/-! ### a hall as it stands -/
def fsH (x : Str) (pp o d : Addr) : List (Str × V) := [("text", .str x), ("people", .ref pp), ("opens", .ref o), ("_told", .ref d)]
structure HallAt (K : PySem.W.Frag) (H : Hp) (C p : Addr) (x : Str) (pp o d : Addr) (ps : List Str) (ops : Ops) (T : Tm) : Prop where
  ex : ∃ dx, H p = some (.ins C dx (fsH x pp o d))
  pe : H pp = some (.tup (ps.map V.str))
  op : OpsAt K H o ops
  t : H d = some (.dT T)
  ok : ∀ op ∈ ops, ∀ x ∈ op, PyData.strOk x = true
theorem HallAt.told {K : PySem.W.Frag} {H : Hp} {C p : Addr} {x : Str} {pp o d : Addr} {ps : List Str} {ops : Ops} {T : Tm} (h : HallAt K H C p x pp o d ps ops T) : ToldAt K H p C d T := by
  obtain ⟨dx, e⟩ := h.ex
  exact ⟨⟨dx, _, e, rfl⟩, h.t⟩
theorem OpsAt.but {K : PySem.W.Frag} {H H' : Hp} {S : List Addr} {o : Addr} {ops : Ops} (h : OpsAt K H o ops) (s : But S H H') (n : ∀ a ∈ S, ∀ xs, H a ≠ some (.tup xs)) : OpsAt K H' o ops := by
  obtain ⟨qs, e, l, f⟩ := h
  exact ⟨qs, s _ _ e fun z => n _ z _ e, l, fun i q op h1 h2 => s _ _ (f i q op h1 h2) fun z => n _ z _ (f i q op h1 h2)⟩
/-- only the dict of what is told changed -/
theorem HallAt.on {K : PySem.W.Frag} {H H' : Hp} {C p : Addr} {x : Str} {pp o d : Addr} {ps : List Str} {ops : Ops} {T T' : Tm} (h : HallAt K H C p x pp o d ps ops T) (s : But [d] H H') (e : H' d = some (.dT T')) : HallAt K H' C p x pp o d ps ops T' := by
  obtain ⟨dx, e1⟩ := h.ex
  have n : ∀ a ∈ [d], ∀ xs, H a ≠ some (.tup xs) := fun a ha xs z => by
    rw [List.mem_singleton.mp ha, h.t] at z
    cases z
  refine ⟨⟨dx, s _ _ e1 fun z => ?_⟩, s _ _ h.pe fun z => n _ z _ h.pe, h.op.but s n, e, h.ok⟩
  rw [List.mem_singleton.mp z, h.t] at e1
  cases e1
theorem HallAt.same {K : PySem.W.Frag} {H H' : Hp} {C p : Addr} {x : Str} {pp o d : Addr} {ps : List Str} {ops : Ops} {T : Tm} (h : HallAt K H C p x pp o d ps ops T) (s : Same H H') : HallAt K H' C p x pp o d ps ops T :=
  h.on (But.of s) (s _ _ h.t)
theorem HallAt.opened {K : PySem.W.Frag} {H H1 : Hp} {C p : Addr} {x : Str} {pp o d : Addr} {ps : List Str} {ops : Ops} {T : Tm} (h : HallAt K H C p x pp o d ps ops T) {o' : Addr} {ops' : Ops} (h' : OpsAt K H o' ops') (ok : ∀ op ∈ ops', ∀ x ∈ op, PyData.strOk x = true) {dx : Addr}
    (e : H1 = upd H p (.ins C dx (fsH x pp o' d))) : HallAt K H1 C p x pp o' d ps ops' T := by
  subst e
  obtain ⟨dx0, e0⟩ := h.ex
  have s : But [p] H (upd H p (.ins C dx (fsH x pp o' d))) := (But.refl (S := [p])).up (List.mem_singleton.mpr rfl)
  have n : ∀ a ∈ [p], ∀ xs, H a ≠ some (.tup xs) := fun a ha xs z => by
    rw [List.mem_singleton.mp ha, e0] at z
    cases z
  refine ⟨⟨dx, upd_same⟩, s _ _ h.pe fun z => n _ z _ h.pe, h'.but s n, s _ _ h.t fun z => ?_, ok⟩
  have z2 := h.t
  rw [List.mem_singleton.mp z, e0] at z2
  cases z2
def spTakes (K : PySem.W.Frag) (C : Addr) : Sp := fun vs H Q _ => ∃ (p l pp o d : Addr) (n : Nat) (x : Str) (ws ps : List Str) (ops : Ops) (T : Tm), vs = [.ref p, .int (n : Int), .ref l] ∧ HallAt K H C p x pp o d ps ops T ∧ SqL K H l (ws.map V.str) ∧ 0 < ws.length ∧ ws.length ≤ 100 ∧
  (∀ y ∈ ps, PyData.strOk y = true) ∧ ops.length ≤ 1000 ∧ T.length ≤ 9000000 ∧
  (stepT ps n ws (ops, T) = none → ∀ H', Same H H' → Q (.bl false) H') ∧
  (∀ ops' T', stepT ps n ws (ops, T) = some (ops', T') → ∀ H' o', But [p, d] H H' → HallAt K H' C p x pp o' d ps ops' T' → Q (.bl true) H')
theorem OpsAt.snoc {K : PySem.W.Frag} {H H' : Hp} {o o' q : Addr} {ops : Ops} {op : List Str} {ovs : List V} (h : OpsAt K H o ops) (s : Same H H') (ho : H o = some (.tup ovs)) (e : H' o' = some (.tup (ovs ++ [V.ref q]))) (eq : H' q = some (.tup (op.map V.str))) : OpsAt K H' o' (ops ++ [op]) := by
  obtain ⟨qs, e1, l, f⟩ := h
  rw [e1] at ho
  have z : ovs = qs.map V.ref := by
    have := Option.some.inj ho
    cases this
    rfl
  subst z
  refine ⟨qs ++ [q], ?_, by simp [l], fun i a b h1 h2 => ?_⟩
  · rw [e, List.map_append]
    rfl
  · by_cases hi : i < qs.length
    · rw [List.getElem?_append_left hi] at h1
      rw [List.getElem?_append_left (l ▸ hi)] at h2
      exact s _ _ (f i a b h1 h2)
    · rw [List.getElem?_append_right (by omega)] at h1
      rw [List.getElem?_append_right (by omega)] at h2
      have hq : i - qs.length = 0 := by
        cases k : i - qs.length with
        | zero => rfl
        | succ k' =>
          rw [k] at h1
          simp at h1
      rw [hq] at h1
      rw [← l, hq] at h2
      have ha : q = a := by simpa using h1
      have hb : op = b := by simpa using h2
      rw [← ha, ← hb]
      exact eq
theorem amongOk {xs ps : List Str} (h : amongB xs ps = true) (ok : ∀ y ∈ ps, PyData.strOk y = true) : ∀ x ∈ xs, PyData.strOk x = true := by
  unfold amongB at h
  rw [Bool.and_eq_true] at h
  intro x hx
  exact ok x (of_decide_eq_true (List.all_eq_true.mp h.2 x hx))
end MX

set_option Elab.async false
set_option linter.all false
set_option maxRecDepth 100000
set_option maxHeartbeats 4000000
namespace MX
open PySem PySem.Spec PySem.W PySem.Calls PyProof.Rows L2
/-- C(v) made, to be raised -/
theorem mkO_ok {K : PySem.W.Frag} {C fI : Addr} {H1 : Hp} {v : V} {Qx : XK} (T : ExcT K C fI) (h : ∀ dx, H1 dx = none → Qx (.ref C) (some dx) (upd H1 dx (.xd [(("value" : Str), v)]))) :
    ([v] : List V).length ≤ 1000 ∧ ∀ a, H1 a = none → spErr K (.ref a :: ([v] ++ [])) (upd H1 a (exo a C none))
      (fun u H2 => u = .non ∧ ∃ (d : Addr) (fs : List (Str × V)), H2 a = some (exo a C (some d)) ∧ H2 d = some (exd d fs) ∧ H1 d = none ∧ Qx (.ref C) (some d) (upd (del H2 a) d (.xd fs))) (fun _ _ _ => False) := by
  refine ⟨(show 1 ≤ 1000 by decide), fun a ha => ⟨a, C, fI, v, rfl, T, upd_same, fun dx hdx ne => ⟨rfl, dx, [(("value" : Str), v)], upd_same, ?_, ?_, ?_⟩⟩⟩
  · rw [upd_ne ne, upd_same]
  · rw [upd_ne ne] at hdx
    exact hdx
  · have h1 : H1 dx = none := by
      rw [upd_ne ne] at hdx
      exact hdx
    have z := h dx h1
    have e : upd (del (upd (upd (upd H1 a (exo a C none)) dx (exd dx [(("value" : Str), v)])) a (exo a C (some dx))) a) dx (.xd [(("value" : Str), v)]) = upd H1 dx (.xd [(("value" : Str), v)]) := by
      funext b
      by_cases hb : b = dx
      · rw [hb, upd_same, upd_same]
      · rw [upd_ne hb, upd_ne hb]
        by_cases hba : b = a
        · rw [hba, del_same, ha]
        · rw [del_ne hba, upd_ne hba, upd_ne hb, upd_ne hba]
    rw [e]
    exact z
theorem cut1G (xs : List V) : cutV xs (some 1) none = xs.drop 1 := by
  cases xs with
  | nil => rfl
  | cons w ws =>
    unfold cutV
    have e1 : HT.sIx (w :: ws).length 0 (some 1) = 1 := by
      unfold HT.sIx
      simp
    have e2 : HT.sIx (w :: ws).length (w :: ws).length none = (w :: ws).length := rfl
    rw [e1, e2]
    simp only [List.drop_succ_cons, List.drop_zero, List.length_cons, Nat.add_sub_cancel]
    rw [List.take_length]
/-- a list of lists of texts -/
def LinesAt (H : Hp) (L : Addr) (wss : List (List Str)) : Prop := ∃ qs : List Addr, H L = some (.lst (qs.map V.ref)) ∧ qs.length = wss.length ∧ ∀ (i : Nat) (q : Addr) (ws : List Str), qs[i]? = some q → wss[i]? = some ws → H q = some (.lst (ws.map V.str))
theorem LinesAt.but {H H' : Hp} {S : List Addr} {L : Addr} {wss : List (List Str)} (h : LinesAt H L wss) (s : But S H H') (n : ∀ a ∈ S, ∀ xs, H a ≠ some (.lst xs)) : LinesAt H' L wss := by
  obtain ⟨qs, e, l, f⟩ := h
  exact ⟨qs, s _ _ e fun z => n _ z _ e, l, fun i q ws h1 h2 => s _ _ (f i q ws h1 h2) fun z => n _ z _ (f i q ws h1 h2)⟩
theorem LinesAt.same {H H' : Hp} {L : Addr} {wss : List (List Str)} (h : LinesAt H L wss) (s : Same H H') : LinesAt H' L wss := h.but (S := []) (But.of s) fun _ z => by cases z
theorem LinesAt.nil {H : Hp} {L : Addr} (e : H L = some (.lst [])) : LinesAt H L [] := ⟨[], e, rfl, fun i q ws h1 _ => by simp at h1⟩
theorem LinesAt.apart {H : Hp} {L : Addr} {wss : List (List Str)} {qs : List Addr} (e1 : H L = some (.lst (qs.map V.ref))) {i : Nat} {a : Addr} {ws : List Str} (h1 : qs[i]? = some a) (e2 : H a = some (.lst (ws.map V.str))) : a ≠ L := fun z => by
  rw [z, e1] at e2
  have e3 : qs.map V.ref = ws.map V.str := by
    have := Option.some.inj e2
    injection this
  have e4 := congrArg (fun l => l[i]?) e3
  simp only [List.getElem?_map, h1] at e4
  cases q : ws[i]? with
  | none =>
    rw [q] at e4
    cases e4
  | some y =>
    rw [q] at e4
    cases e4
theorem LinesAt.snoc {H H' : Hp} {L q : Addr} {wss : List (List Str)} {ws : List Str} {qs : List Addr} (h : LinesAt H L wss) (e1 : H L = some (.lst (qs.map V.ref))) (s : But [L] H H') (e : H' L = some (.lst (qs.map V.ref ++ [V.ref q]))) (eq : H' q = some (.lst (ws.map V.str))) : LinesAt H' L (wss ++ [ws]) := by
  obtain ⟨qs', e1', l, f⟩ := h
  have z : qs' = qs := by
    rw [e1] at e1'
    have e3 : qs.map V.ref = qs'.map V.ref := by
      have := Option.some.inj e1'
      injection this
    have inj : ∀ (a b : List Addr), a.map V.ref = b.map V.ref → b = a := by
      intro a
      induction a with
      | nil => intro b hb; cases b with
        | nil => rfl
        | cons _ _ => cases hb
      | cons x r ih => intro b hb; cases b with
        | nil => cases hb
        | cons y r2 =>
          rw [List.map_cons, List.map_cons] at hb
          injection hb with h1 h2
          injection h1 with h1
          rw [ih r2 h2, h1]
    exact inj qs qs' e3
  subst z
  refine ⟨qs' ++ [q], ?_, by simp [l], fun i a b h1 h2 => ?_⟩
  · rw [e, List.map_append]
    rfl
  · by_cases hi : i < qs'.length
    · rw [List.getElem?_append_left hi] at h1
      rw [List.getElem?_append_left (l ▸ hi)] at h2
      have e2 := f i a b h1 h2
      exact s _ _ e2 (by simpa using LinesAt.apart (wss := wss) e1 h1 e2)
    · rw [List.getElem?_append_right (by omega)] at h1
      rw [List.getElem?_append_right (by omega)] at h2
      have hq : i - qs'.length = 0 := by
        cases k : i - qs'.length with
        | zero => rfl
        | succ k' =>
          rw [k] at h1
          simp at h1
      rw [hq] at h1
      rw [← l, hq] at h2
      have ha : q = a := by simpa using h1
      have hb : ws = b := by simpa using h2
      rw [← ha, ← hb]
      exact eq
structure TextOk (x : Str) : Prop where
  len : x.length ≤ 10000000
  few : (hallLines x).length ≤ 500
  one : 0 < (hallLines x).length
  sh : ∀ l ∈ Txt.split x "\n", l.length ≤ 100000
  ws : ∀ ws ∈ hallLines x, 0 < ws.length ∧ ws.length ≤ 100 ∧ ∀ w ∈ ws, w.length ≤ 10000
def peopleOf (x : Str) : List Str := ((hallLines x).headD []).drop 1
theorem step_len {ps ws : List Str} {n : Nat} {ops ops' : Ops} {T T' : Tm} (h : MX.stepT ps n ws (ops, T) = some (ops', T')) (hl : ws.length ≤ 100) : ops'.length ≤ ops.length + 1 ∧ T'.length ≤ T.length + 10000 := by
  have z : (ws.drop 1).length ≤ 100 := by rw [List.length_drop]; omega
  have z2 := Nat.mul_le_mul z z
  unfold MX.stepT at h
  split at h
  · cases h
    have := tellA_len (w := "met") (ys := ws.drop 1) (ws.drop 1) T
    dsimp only
    exact ⟨by omega, by omega⟩
  · split at h
    · cases h
      have := tellA_len (w := "open") (ys := ws.drop 1) (ws.drop 1) T
      dsimp only
      exact ⟨by simp, by omega⟩
    · cases h
end MX

set_option Elab.async false
set_option linter.all false
set_option maxRecDepth 100000
set_option maxHeartbeats 4000000
namespace MX
open PySem PySem.Spec PySem.W PySem.Calls PyProof.Rows L2
end MX

set_option Elab.async false
set_option linter.all false
set_option maxRecDepth 100000
set_option maxHeartbeats 4000000
namespace MX
open PySem PySem.Spec PySem.W PySem.Calls PyProof.Rows L2
/-! ### what the head is asked of classes -/
def tyNs : List String := ["NoneType", "bool", "int", "str", "tuple", "list", "dict"]
def insB (K : PySem.W.Frag) (C : Addr) : Bool := decide (PySem.W.findIn K (.ref C) "__class__" = some (some (.builtin "object.__class__"))) && (decide (PySem.W.specialIn K (.builtin "object.__class__") "__get__" = some (some (.builtin "getset_descriptor.__get__"))) &&
  (decide (PySem.W.takesIn K (.builtin "object.__class__") = some true) && decide (PySem.W.mroIn K C (.type "object") = some true)))
def isB (K : PySem.W.Frag) (g : Str → Addr) (es : List (Str × Bool)) (os : List Str) (c : Str) : Bool := tyNs.all (fun T => decide (PySem.W.kitOne K (.type T) (.ref (g c)) = some false)) && (es.all (fun e => decide (PySem.W.kitOne K (.ref (g e.1)) (.ref (g c)) = some e.2)) &&
  os.all (fun o => insB K (g o) && decide (PySem.W.kitOne K (.ref (g o)) (.ref (g c)) = some (decide (o = c)))))
def eqB (K : PySem.W.Frag) (C : Addr) : Bool := decide (PySem.W.findIn K (.ref C) "__ne__" = some (some (.builtin "object.__ne__"))) && decide (PySem.W.mroIn K C (.type "object") = some true)
def emptyB (K : PySem.W.Frag) (a : Addr) : Bool := match K.lookup a with
  | some o => (match o.data with
    | .seq its _ => decide (o.cls = .type "tuple") && its.isEmpty
    | _ => false)
  | none => false
end MX

set_option Elab.async false
set_option linter.all false
set_option maxRecDepth 100000
set_option maxHeartbeats 4000000
namespace K15
open PySem PySem.Spec PySem.W PySem.Calls PyProof.Rows L2 MX
def mkD (at_ : Str × Option Str) (name qual : Str) (st : Stmt) : He.DefD := ⟨at_, name, qual, defArgs st, defBody st, defScope st, [], []⟩
def mkF (x : Str) (st : Stmt) : He.DefD := mkD (x, none) x x st
abbrev s_line_without : Stmt := (top 24)
abbrev s_require_two : Stmt := (top 25)
abbrev s_Hall_told : Stmt := (inClass (top 26) 3)
abbrev s_Hall_without : Stmt := (inClass (top 26) 4)
abbrev s_Hall_len : Stmt := (inClass (top 26) 5)
abbrev s_Hall_contains : Stmt := (inClass (top 26) 6)
abbrev s_Hall_eq : Stmt := (inClass (top 26) 7)
abbrev s_is_event : Stmt := (top 29)
abbrev s_places_of : Stmt := (top 30)
abbrev s_is_timeline : Stmt := (top 31)
abbrev s_require_timeline : Stmt := (top 32)
abbrev s_meet : Stmt := (top 33)
abbrev s_met_by : Stmt := (top 34)
abbrev s_keeps : Stmt := (top 35)
abbrev s_there : Stmt := (top 36)
abbrev s_order_of : Stmt := (top 37)
abbrev s_turned : Stmt := (top 38)
abbrev s_is_tuple_of : Stmt := (top 40)
abbrev s_is_number : Stmt := (top 41)
abbrev s_is_saying : Stmt := (top 44)
abbrev s_require_saying : Stmt := (top 45)
abbrev s_holds : Stmt := (top 46)
abbrev s_is_so : Stmt := (top 47)
abbrev s_contrary : Stmt := (top 48)
abbrev s_are_sayings : Stmt := (top 51)
abbrev s_Book_fits : Stmt := (inClass (top 52) 1)
abbrev s_Book_broken : Stmt := (inClass (top 52) 2)
abbrev s_Book_without : Stmt := (inClass (top 52) 3)
abbrev s_Book_eq : Stmt := (inClass (top 52) 9)
abbrev s__law_take : Stmt := (top 55)
abbrev s__law_of : Stmt := (top 56)
abbrev s__law_some : Stmt := (top 57)
abbrev s__law_names : Stmt := (top 59)
abbrev s__law_right : Stmt := (top 60)
def fn : List He.DefD := ([mkD ("MeetError", some "__init__") "__init__" "MeetError.__init__" (inClass (top 1) 0), mkF "is_name" (top 18), mkF "are_unlike" (top 19), mkF "are_among" (top 20), mkF "is_people_line" (top 21), mkF "is_met_line" (top 22), mkF "is_open_line" (top 23), mkF "line_without" (top 24), mkF "require_two" (top 25), mkD ("Hall", some "__init__") "__init__" "Hall.__init__" (inClass (top 26) 0), mkD ("Hall", some "_takes") "_takes" "Hall._takes" (inClass (top 26) 1), mkD ("Hall", some "_tell") "_tell" "Hall._tell" (inClass (top 26) 2), mkD ("Hall", some "told") "told" "Hall.told" (inClass (top 26) 3), mkD ("Hall", some "without") "without" "Hall.without" (inClass (top 26) 4), mkD ("Hall", some "__len__") "__len__" "Hall.__len__" (inClass (top 26) 5), mkD ("Hall", some "__contains__") "__contains__" "Hall.__contains__" (inClass (top 26) 6), mkD ("Hall", some "__eq__") "__eq__" "Hall.__eq__" (inClass (top 26) 7), mkF "is_event" (top 29), mkF "places_of" (top 30), mkF "is_timeline" (top 31), mkF "require_timeline" (top 32), mkF "meet" (top 33), mkF "met_by" (top 34), mkF "keeps" (top 35)] : List He.DefD) ++
  ([mkF "there" (top 36), mkF "order_of" (top 37), mkF "turned" (top 38), mkF "is_tuple_of" (top 40), mkF "is_number" (top 41), mkF "is_saying" (top 44), mkF "require_saying" (top 45), mkF "holds" (top 46), mkF "is_so" (top 47), mkF "contrary" (top 48), mkF "are_sayings" (top 51), ⟨("Book", some "__init__"), "__init__", "Book.__init__", defArgs (inClass (top 52) 0), defBody (inClass (top 52) 0), defScope (inClass (top 52) 0), [.adr (He.dflAt ("Book", some "__init__") 0)], []⟩, mkD ("Book", some "fits") "fits" "Book.fits" (inClass (top 52) 1), mkD ("Book", some "broken") "broken" "Book.broken" (inClass (top 52) 2), mkD ("Book", some "without") "without" "Book.without" (inClass (top 52) 3), mkD ("Book", some "__add__") "__add__" "Book.__add__" (inClass (top 52) 4), mkD ("Book", some "__or__") "__or__" "Book.__or__" (inClass (top 52) 5), mkD ("Book", some "__len__") "__len__" "Book.__len__" (inClass (top 52) 6), mkD ("Book", some "__contains__") "__contains__" "Book.__contains__" (inClass (top 52) 7), mkD ("Book", some "__iter__") "__iter__" "Book.__iter__" (inClass (top 52) 8), mkD ("Book", some "__eq__") "__eq__" "Book.__eq__" (inClass (top 52) 9), mkF "_law_pot" (top 54), mkF "_law_take" (top 55), mkF "_law_of" (top 56)] : List He.DefD) ++
  ([mkF "_law_some" (top 57), mkF "_law_places" (top 58), mkF "_law_names" (top 59), mkF "_law_right" (top 60), mkF "law" (top 61)] : List He.DefD)
def blts : List Str := (["abs", "all", "bool", "enumerate", "int", "isinstance", "len", "list", "max", "min", "range", "reversed", "set", "sorted", "str", "tuple"] : List Str)
def glos : List Str := (["MeetError", "BadHall", "NoPerson", "Alone", "BadEvent", "BadTimeline", "BadSaying", "BadSayings", "Full", "NoSaying", "OtherHall", "is_name", "are_unlike", "are_among", "is_people_line", "is_met_line", "is_open_line", "line_without", "require_two", "Hall", "TURNED", "is_event", "places_of", "is_timeline"] : List Str) ++
  (["require_timeline", "meet", "met_by", "keeps", "there", "order_of", "turned", "is_tuple_of", "is_number", "CONTRARY", "is_saying", "require_saying", "holds", "is_so", "contrary", "are_sayings", "Book", "_law_pot", "_law_take", "_law_of", "_law_some", "_law_places", "_law_names", "_law_right"] : List Str) ++
  (["law"] : List Str)
def more : List He.Fa := ([.str "LETTERS" MX.letters, .int "MOST_LETTERS" 8, .int "MOST_PEOPLE" 9, .int "MOST_MET" 20, .int "MOST_OPEN" 4, .int "MOST_SAYINGS" 30, .cls "Hall", .noat "Hall" "text", .noat "Hall" "people", .noat "Hall" "opens", .noat "Hall" "_told", .mkr "Hall", .meth "Hall" "_takes", .meth "Hall" "_tell", .meth "Hall" "told", .meth "Hall" "without", .meth "Hall" "__len__", .meth "Hall" "__contains__", .meth "Hall" "__eq__", .cls "Book", .noat "Book" "hall", .noat "Book" "sayings", .mkr "Book", .meth "Book" "fits"] : List He.Fa) ++
  ([.meth "Book" "broken", .meth "Book" "without", .meth "Book" "__add__", .meth "Book" "__or__", .meth "Book" "__len__", .meth "Book" "__contains__", .meth "Book" "__iter__", .meth "Book" "__eq__"] : List He.Fa)
def fa : List He.Fa := glos.map He.Fa.glo ++ blts.map He.Fa.free ++ more
def fE (K : PySem.W.Frag) : Addr := He.ma K (He.ga K "MeetError") "__init__"
def tabs (K : PySem.W.Frag) : List (Addr × Str) := []
def fx (K : PySem.W.Frag) : Bool := excB K (He.ga K "BadHall") (fE K) && (excB K (He.ga K "NoPerson") (fE K) && (excB K (He.ga K "Alone") (fE K) && (excB K (He.ga K "BadEvent") (fE K) && (excB K (He.ga K "BadTimeline") (fE K) && (excB K (He.ga K "BadSaying") (fE K) && (excB K (He.ga K "BadSayings") (fE K) && (excB K (He.ga K "Full") (fE K) && (excB K (He.ga K "NoSaying") (fE K) && (excB K (He.ga K "OtherHall") (fE K) && (He.valsB K (He.ga K "CONTRARY") [("met", .str "not"), ("not", .str "met")] && (He.valsB K (He.ga K "TURNED") [("in", .str "out"), ("out", .str "in")] && (isB K (He.ga K) [] ["Book"] "Book" && (isB K (He.ga K) [] ["Hall"] "Hall" && (isB K (He.ga K) [("BadHall", false), ("NoPerson", false), ("Alone", false), ("BadEvent", false), ("BadTimeline", false), ("BadSaying", false), ("BadSayings", false), ("Full", false), ("NoSaying", false), ("OtherHall", false)] ["Hall", "Book"] "Book" && (isB K (He.ga K) [("BadHall", false), ("NoPerson", false), ("Alone", false), ("BadEvent", false), ("BadTimeline", false), ("BadSaying", false), ("BadSayings", false), ("Full", false), ("NoSaying", false), ("OtherHall", false)] ["Hall", "Book"] "Hall" && (emptyB K (He.dflAt ("Book", some "__init__") 0 K) && (eqB K (He.ga K "Book") && (eqB K (He.ga K "Hall") && (decide ((tabs K).map (·.1)).Nodup && (true))))))))))))))))))))
def ts : List He.Tab := [(fun K => He.ga K "CONTRARY", ["met", "not"]), (fun K => He.ga K "TURNED", ["in", "out"])]
def tf : List He.Defn := []
abbrev R : PySem.W.OpenRow := PySem.W.OpenLaw.row PySem.Challenge.rw_metonce_k15_arguments_by_their_names
abbrev hk : PySem.W.Hook := He.hookX 6 fa fn ts tf fx
def ob (s : PySem.W.SharedT) : He.AlX := He.obsX 6 fa fn ts tf fx (HandSHeadRun.getT s)
theorem ob_eq (s : PySem.W.SharedT) : ob s = hk.obs s.abs := He.obsX_eq (HandSHeadRun.getT_eq s)
def loose : List Str := (["MeetError", "BadHall", "NoPerson", "Alone", "BadEvent", "BadTimeline", "BadSaying", "BadSayings", "Full", "NoSaying", "OtherHall", "LETTERS", "MOST_LETTERS", "MOST_PEOPLE", "MOST_MET", "MOST_OPEN", "is_name", "are_unlike", "are_among", "is_people_line", "is_met_line", "is_open_line", "line_without", "require_two"] : List Str) ++
  (["Hall", "TURNED", "is_event", "places_of", "is_timeline", "require_timeline", "meet", "met_by", "keeps", "there", "order_of", "turned", "is_tuple_of", "is_number", "CONTRARY", "is_saying", "require_saying", "holds", "is_so", "contrary", "MOST_SAYINGS", "are_sayings", "Book", "_law_pot"] : List Str) ++
  (["_law_take", "_law_of", "_law_some", "_law_places", "_law_names", "_law_right"] : List Str)
end K15

set_option Elab.async false
set_option linter.all false
set_option maxRecDepth 100000
set_option maxHeartbeats 0
namespace K15
open PySem PySem.Spec PyProof.Rows L2 MX
theorem run_f (w : World) : HandSHeadRun.RunEq R (PySem.W.view R.prog [61]) hk ob 16000 loose (w.withFollow "special-get-raises" false) := by
  intro os
  kernel_rfl
theorem run_t (w : World) : HandSHeadRun.RunEq R (PySem.W.view R.prog [61]) hk ob 16000 loose (w.withFollow "special-get-raises" true) := by
  intro os
  kernel_rfl
theorem run (w : World) : HandSHeadRun.RunEq R (PySem.W.view R.prog [61]) hk ob 16000 loose w := by
  have key : ∀ (b : Bool) (w : World), HandSHeadRun.RunEq R (PySem.W.view R.prog [61]) hk ob 16000 loose (w.withFollow "special-get-raises" b) := fun b w => by
    cases b
    · exact run_f w
    · exact run_t w
  have z := key (w.params.followText "special-get-raises") w
  rw [World.withFollow_self] at z
  exact z
end K15

set_option Elab.async false
set_option linter.all false
set_option maxRecDepth 100000
set_option maxHeartbeats 4000000
namespace K15
open PySem PySem.Spec PySem.W PySem.Calls PyProof.Rows L2 MX
abbrev sPot : Stmt := top 54
abbrev sSome : Stmt := top 57
abbrev sPlaces : Stmt := top 58
structure BltD (mg : Str → Option Value) : Prop where
  len : mg "len" = none
  int : mg "int" = none
  abs : mg "abs" = none
  range : mg "range" = none
  max : mg "max" = none
  min : mg "min" = none
  list : mg "list" = none
theorem b01 (b : Bool) : -(2 ^ 64) < (if b = true then (1 : Int) else 0) ∧ (if b = true then (1 : Int) else 0) < 2 ^ 64 := by cases b <;> decide
theorem pot0 (x : Int) {m y : Int} {b : Bool} (hm : 0 < m) : PotO 0 (.lst [.int (x % m * (if b = true then 1 else 0)), .int (y % 2305843009213693921), .int 0]) := by
  refine ⟨_, _, _, rfl, ?_, Int.emod_nonneg _ (by decide), ?_, Int.le_refl _, Int.le_refl _⟩
  · have h := Int.emod_nonneg x (show m ≠ 0 by omega)
    cases b
    · simp
    · simpa using h
  · have h := Int.emod_lt_of_pos y (show (0 : Int) < 2305843009213693921 by decide)
    omega
section
variable {P : Program} {w : World} {K : PySem.W.Frag} {mg : Str → Option Value} {base : Heap} {f : Addr} {fd : FuncData}
theorem scP : FnScope ["_law_script", "_law_k", "_law_cell", "_law_own", "_law_small"] ["_law_script", "_law_k"] (defScope sPot) := ⟨rfl, rfl, rfl, by decide +kernel, rfl, by decide +kernel, by decide +kernel⟩
theorem ok_pot (F : FnP K "_law_pot" sPot f fd) (B : BltD mg) : FnOk P w K mg base CX0 1 f fd ["_law_script", "_law_k"] (spPot K) := by
  refine F.ok scP (fun vs H Q E h => ?_) (fun cdv A outer s H vs Q E hr h => ?_)
  · obtain ⟨a, ns, k, rfl, _⟩ := h
    rfl
  · obtain ⟨a, ns, k, rfl, hS, hn, hk, q⟩ := h
    refine ⟨_, PSs.nox (pss_cons (ps_set (i := 2) scP.nd rfl (Or.inl rfl) (pe_ifExp (pt_cmpR op_lt (pv 1) (pe_callB call_len_seq (by rfl) B.len PySem.boot_len (pa_cons (pv 0) pa_nil)) (nomark _)) (pe_ix ix_list (pv 0) (pv 1) (fun _ _ => rfl)) (pe_op op_add (pe_op op_mul pe_int (pv 1)) pe_int)))
      (pss_cons (ps_set (i := 3) scP.nd rfl (Or.inl rfl) (pe_op op_mul (pe_op op_mod (pe_callTy call_int1 (by rfl) B.int boot_int (pa_cons (pe_callB call_abs (by rfl) B.abs boot_abs (pa_cons (pv 2) pa_nil)) pa_nil)) (pe_op op_powW (pe_op op_powW pe_int pe_int) pe_int))
          (pe_callTy call_int1 (by rfl) B.int boot_int (pa_cons (pe_cmpR op_ge (pe_callB call_abs (by rfl) B.abs boot_abs (pa_cons (pv 2) pa_nil)) (pe_op op_powW pe_int pe_int) (nomark _)) pa_nil))))
      (pss_cons (ps_set (i := 4) scP.nd rfl (Or.inl rfl) (pe_op op_mod (pe_callTy call_int1 (by rfl) B.int boot_int (pa_cons (pv 2) pa_nil)) pe_int))
      (pss_one (ps_ret (pe_lst (pa_cons (pv 3) (pa_cons (pe_op op_mod (pe_callTy call_int1 (by rfl) B.int boot_int (pa_cons (pe_op op_add (pe_op op_add (pe_op op_mul (pv 4) pe_int) (pe_op op_mul (pe_op op_mul pe_int (pv 1)) (pv 1))) pe_int) pa_nil)) pe_int) (pa_cons pe_int pa_nil))))))))), ?_⟩
    have len_eq : (ns.map V.int).length = ns.length := List.length_map _
    refine ⟨_, rfl, _, rfl, _, _, rfl, .inl hS, _, _, rfl, rfl, _, rfl, ite2 (fun hlt => ?_) (fun hlt => ?_)⟩
    · have hlt' : k < ns.length := by have z := of_decide_eq_true hlt; rw [len_eq] at z; omega
      refine ⟨_, rfl, _, rfl, _, _, _, _, rfl, rfl, hS, atI_nat (v := V.int ns[k]) (by rw [List.getElem?_map, List.getElem?_eq_getElem hlt']; rfl), ?_⟩
      generalize ns[k] = c
      exact ⟨_, rfl, c, rfl, .inl ⟨_, rfl, _, _, rfl, rfl, ⟨by decide, by decide +kernel⟩, _, _, rfl, rfl, ⟨by decide, by decide +kernel⟩, _, _, rfl, rfl, (show (0 : Int) < (10 ^ Int.toNat 60) ^ Int.toNat 5 by decide +kernel),
        _, rfl, c, rfl, _, _, rfl, rfl, ⟨by decide, by decide +kernel⟩, _, _, rfl, rfl, .inr ⟨_, rfl, _, _, rfl, rfl, .inr (b01 _),
        _, rfl, .inl ⟨_, rfl, _, _, rfl, rfl, (by decide : (0 : Int) < 2305843009213693951),
        _, rfl, _, rfl, _, _, rfl, rfl, .inr ⟨by decide, by decide⟩, _, rfl, _, _, rfl, rfl, .inl ⟨by decide, by decide⟩, _, rfl, _, _, rfl, rfl, .inr ⟨by omega, by omega⟩, _, _, rfl, rfl, _, _, rfl, rfl,
        .inl ⟨_, rfl, _, _, rfl, rfl, (by decide : (0 : Int) < 2305843009213693921), (by show 3 ≤ sizeLine; decide), fun p hp => q p _ hp (pot0 _ (by decide +kernel))⟩⟩⟩⟩⟩
    · refine ⟨_, rfl, _, _, rfl, rfl, .inl ⟨by decide, by decide⟩, _, _, rfl, rfl, ?_⟩
      exact ⟨_, rfl, _, rfl, .inl ⟨_, rfl, _, _, rfl, rfl, ⟨by decide, by decide +kernel⟩, _, _, rfl, rfl, ⟨by decide, by decide +kernel⟩, _, _, rfl, rfl, (show (0 : Int) < (10 ^ Int.toNat 60) ^ Int.toNat 5 by decide +kernel),
        _, rfl, _, rfl, _, _, rfl, rfl, ⟨by decide, by decide +kernel⟩, _, _, rfl, rfl, .inr ⟨_, rfl, _, _, rfl, rfl, .inr (b01 _),
        _, rfl, .inl ⟨_, rfl, _, _, rfl, rfl, (by decide : (0 : Int) < 2305843009213693951),
        _, rfl, _, rfl, _, _, rfl, rfl, .inr ⟨by decide, by decide⟩, _, rfl, _, _, rfl, rfl, .inl ⟨by decide, by decide⟩, _, rfl, _, _, rfl, rfl, .inr ⟨by omega, by omega⟩, _, _, rfl, rfl, _, _, rfl, rfl,
        .inl ⟨_, rfl, _, _, rfl, rfl, (by decide : (0 : Int) < 2305843009213693921), (by show 3 ≤ sizeLine; decide), fun p hp => q p _ hp (pot0 _ (by decide +kernel))⟩⟩⟩⟩⟩
theorem scL : FnScope ["_law_script", "_law_most"] ["_law_script", "_law_most"] (defScope sPlaces) := ⟨rfl, rfl, rfl, by decide +kernel, rfl, by decide +kernel, by decide +kernel⟩
theorem ok_places (F : FnP K "_law_places" sPlaces f fd) (B : BltD mg) {m : Nat} (hm : m ≤ 60) : FnOk P w K mg base CX0 1 f fd ["_law_script", "_law_most"] (spPlaces K m) := by
  refine F.ok scL (fun vs H Q E h => ?_) (fun cdv A outer s H vs Q E hr h => ?_)
  · obtain ⟨a, ns, rfl, _⟩ := h
    rfl
  · obtain ⟨a, ns, rfl, hS, hn, q⟩ := h
    refine ⟨_, PSs.nox (pss_one (ps_ret (pe_listRg rfl (by rfl) B.list (prg_1 (by rfl) B.range (pe_callB (call_max2 rfl) (by rfl) B.max boot_max (pa_cons pe_int (pa_cons (pe_callB (call_min2 rfl) (by rfl) B.min boot_min (pa_cons (pv 1) (pa_cons (pe_callB call_len_seq (by rfl) B.len PySem.boot_len (pa_cons (pv 0) pa_nil)) pa_nil))) pa_nil))))))), ?_⟩
    refine ⟨_, rfl, _, rfl, a, _, rfl, .inl hS, _, _, rfl, _, _, rfl, _, rfl, ?_⟩
    have key : ∀ N : Int, 0 ≤ N → N ≤ 64 → N.toNat ≤ max 1 m → RgOk 0 N ∧ ∀ p, H p = none → Q (.ref p) (L2.upd H p (.lst (rgV 0 N))) := fun N h0 h1 h2 =>
      ⟨RgOk.of_le (by omega) (by omega) (by omega) h0, fun p hp => q p _ N.toNat (same_new hp) hp h2 (by
        rw [upd_same]
        unfold rgV
        simp)⟩
    refine key _ ?_ ?_ ?_ <;> (repeat' split) <;> omega

theorem erase_perm : ∀ (l : List V) (j : Nat) (h : j < l.length), List.Perm (l[j] :: l.eraseIdx j) l
  | [], _, h => absurd h (Nat.not_lt_zero _)
  | x :: r, 0, _ => List.Perm.refl _
  | x :: r, j + 1, h => (List.Perm.swap _ _ _).trans (List.Perm.cons x (erase_perm r j (Nat.lt_of_succ_lt_succ h)))
def pool14 : List Str := ["a", "b", "c", "ann", "bob", "met", "open", "people", "heard", "in", "out", "zzzzzzzz", "x", "not"]
def unS : V → Str
  | .str x => x
  | _ => ""
end
end K15

set_option Elab.async false
set_option linter.all false
set_option maxRecDepth 100000
set_option maxHeartbeats 4000000
namespace K15
open PySem PySem.Spec PySem.W PySem.Calls PyProof.Rows L2 MX
/-- what the class must keep -/
structure HallC (K : PySem.W.Frag) (C fT fK : Addr) : Prop where
  cls : Cls K C
  nText : NoAttr K C "text"
  nPeople : NoAttr K C "people"
  nOpens : NoAttr K C "opens"
  nTold : NoAttr K C "_told"
  mTell : Meth K C "_tell" fT
  mTakes : Meth K C "_takes" fK
abbrev FnM (K : PySem.W.Frag) (x q : Str) (st : Stmt) (f : Addr) (fd : FuncData) : Prop := FunD K x q (defArgs st) (defBody st) (defScope st) [] [] f fd
section
variable {P : Program} {w : World} {K : PySem.W.Frag} {mg : Str → Option Value} {base : Heap} {f C fT fK : Addr} {fd : FuncData}
theorem scTell : FnScope ["self", "names", "word", "one", "other"] ["self", "names", "word"] (defScope sTell) := ⟨rfl, rfl, rfl, by decide +kernel, rfl, by decide +kernel, by decide +kernel⟩
theorem ok_tell (F : FnM K "_tell" "Hall._tell" sTell f fd) (Z : HallC K C fT fK) : FnOk P w K mg base CX0 1 f fd ["self", "names", "word"] (spTell K C) := by
  refine F.ok scTell (fun vs H Q E h => ?_) (fun cdv A outer s H vs Q E hr h => ?_)
  · obtain ⟨p, l, d, ns, wd, T, rfl, _⟩ := h
    rfl
  · obtain ⟨p, l, d, ns, wd, T, rfl, hT, hL, hl, q⟩ := h
    have hu := hu_of hr
    refine ⟨_, PSs.nox (pss_one (ps_for PassesOwn.never rfl (pi_list (pv 1)) (pg_name (i := 3) scTell.nd rfl (Or.inl rfl))
      (pss_one (ps_for PassesOwn.never rfl (pi_list (pv 1)) (pg_name (i := 4) scTell.nd rfl (Or.inl rfl))
        (pss_one (ps_if (pt_cmpR op_ne (pv 3) (pv 4) (nomark _))
          (pss_one (ps_dput hu (pe_fld (pv 0) (by rfl)) (pe_tup (pa_cons (pv 3) (pa_cons (pv 4) pa_nil))) (pv 2) (by rfl))) pss_nil)))))), ?_⟩
    have hLL : ∀ H', But [d] H H' → SqL K H' l (ns.map V.str) := fun H' s => s.seqL hL (nrd_t hT.t (fun _ z => by cases z) (fun _ _ z => by cases z))
    refine ⟨_, rfl, l, rfl, ⟨_, hL⟩, for_list (xs := ns.map V.str) (fun i σ H' => (∃ u1 u2, σ = [some (.ref p), some (.ref l), some (.str wd), u1, u2]) ∧ But [d] H H' ∧ H' d = some (.dT (tellA ns (ns.take i) wd T))) ⟨⟨_, _, rfl⟩, But.refl, hT.t⟩ (fun i σ H' _ z => hLL H' z.2.1) ?_ ?_⟩
    · rintro i y σ H1 hy ⟨⟨u1, u2, rfl⟩, s1, e1⟩
      rw [List.getElem?_map] at hy
      obtain ⟨x, hx, rfl⟩ := Option.map_eq_some_iff.mp hy
      refine ⟨_, rfl, l, rfl, ⟨_, hLL H1 s1⟩, for_list (xs := ns.map V.str) (fun j σ H' => (∃ u2, σ = [some (.ref p), some (.ref l), some (.str wd), some (.str x), u2]) ∧ But [d] H H' ∧ H' d = some (.dT (tellR x wd (ns.take j) (tellA ns (ns.take i) wd T)))) ⟨⟨_, rfl⟩, s1, e1⟩ (fun j σ H' _ z => hLL H' z.2.1) ?_ ?_⟩
      · rintro j y σ H2 hy ⟨⟨u2, rfl⟩, s2, e2⟩
        rw [List.getElem?_map] at hy
        obtain ⟨z, hz, rfl⟩ := Option.map_eq_some_iff.mp hy
        have L2' := tellR_len (x := x) (w := wd) (ns.take j) (tellA ns (ns.take i) wd T)
        have hi : i < ns.length := by
          by_cases c : i < ns.length
          · exact c
          · rw [List.getElem?_eq_none (by omega)] at hx; cases hx
        have hj : j < ns.length := by
          by_cases c : j < ns.length
          · exact c
          · rw [List.getElem?_eq_none (by omega)] at hz; cases hz
        have L1' := tellA_len (w := wd) (ys := ns) (ns.take i) T
        rw [List.length_take, Nat.min_eq_left (by omega)] at L1' L2'
        have L3 : i * ns.length + ns.length ≤ ns.length * ns.length := by
          rw [← Nat.succ_mul]
          exact Nat.mul_le_mul_right _ hi
        have eS : tellR x wd (ns.take (j + 1)) (tellA ns (ns.take i) wd T) = tell1 x z wd (tellR x wd (ns.take j) (tellA ns (ns.take i) wd T)) := by rw [take_snocE hz, tellR_snoc]
        refine ⟨_, rfl, _, rfl, rfl, ?_⟩
        by_cases h : x = z
        · subst h
          rw [show (!decide (V.str x = V.str x)) = false by simp]
          refine ⟨_, rfl, iteF ⟨⟨_, rfl⟩, s2, ?_⟩⟩
          rw [eS, e2]
          unfold tell1
          rw [if_pos rfl]
        · rw [show (!decide (V.str x = V.str z)) = true by simpa using h]
          obtain ⟨dx, fs, o1, o2⟩ := (hT.on s2 e2).ex
          refine ⟨_, rfl, iteT ⟨_, rfl, _, rfl, p, C, dx, fs, _, rfl, o1, Z.cls, Z.nTold, o2, _, rfl, _, rfl, (by rw [sizeLine_eq]; show 2 ≤ _; omega), fun t ht => ?_⟩⟩
          have e2' : (L2.upd H2 t (.tup [V.str x, V.str z])) d = some (.dT (tellR x wd (ns.take j) (tellA ns (ns.take i) wd T))) := by
            rw [upd_ne (ne_of_none e2 ht)]
            exact e2
          refine ⟨d, _, rfl, DPut.t (k := [Sum.inr x, Sum.inr z]) e2' upd_same (by rw [sizeLine_eq]; omega), ⟨_, rfl⟩, (s2.new ht).up (List.mem_singleton.mpr rfl), ?_⟩
          rw [upd_same, eS]
          unfold tell1
          rw [if_neg h]
      · rintro σ H2 ⟨⟨u2, rfl⟩, s2, e2⟩
        refine ⟨⟨_, _, rfl⟩, s2, ?_⟩
        rw [e2, List.length_map, List.take_length, take_snocE hx, tellA_snoc]
    · rintro σ H1 ⟨_, s1, e1⟩
      rw [List.length_map, List.take_length] at e1
      exact q H1 s1 e1
theorem scTakes : FnScope ["self", "number", "words"] ["self", "number", "words"] (defScope sTakes) := ⟨rfl, rfl, rfl, by decide +kernel, rfl, by decide +kernel, by decide +kernel⟩
theorem ok_takes {fTe fM fO fU fA : Addr} {fdTe fdM fdO fdU fdA : FuncData} (F : FnM K "_takes" "Hall._takes" sTakes f fd) (Z : HallC K C fTe fK) (B : Blt mg) (FT : FnM K "_tell" "Hall._tell" sTell fTe fdTe)
    (FM : FnP K "is_met_line" sMet fM fdM) (gM : mg "is_met_line" = some (.ref fM)) (FO : FnP K "is_open_line" sOpen fO fdO) (gO : mg "is_open_line" = some (.ref fO))
    (FU : FnP K "are_unlike" sUnlike fU fdU) (gU : mg "are_unlike" = some (.ref fU)) (FA : FnP K "are_among" sAmong fA fdA) (gA : mg "are_among" = some (.ref fA)) :
    FnOk P w K mg base CX0 4 f fd ["self", "number", "words"] (spTakes K C) := by
  have GT : FnOk P w K mg base CX0 1 fTe fdTe ["self", "names", "word"] (spTell K C) := ok_tell FT Z
  have bT : Binds K fdTe ["self", "names", "word"] [] := FT.bindsN fun _ _ _ _ _ _ us hl => match us, hl with | [_, _, _], _ => rfl
  have GM : FnOk P w K mg base CX0 3 fM fdM ["words", "people"] (spMet K) := ok_met FM B FU gU FA gA
  have bM : Binds K fdM ["words", "people"] [] := FM.bindsN fun _ _ _ _ _ _ us hl => match us, hl with | [_, _], _ => rfl
  have GO : FnOk P w K mg base CX0 3 fO fdO ["words", "people", "told"] (spOpen K) := ok_open FO B FU gU FA gA
  have bO : Binds K fdO ["words", "people", "told"] [] := FO.bindsN fun _ _ _ _ _ _ us hl => match us, hl with | [_, _, _], _ => rfl
  obtain ⟨t3, gMet⟩ := B.mMet
  obtain ⟨t4, gOpen⟩ := B.mOpen
  refine F.ok scTakes (fun vs H Q E h => ?_) (fun cdv A outer s H vs Q E hr h => ?_)
  · obtain ⟨p, l, pp, o, d, n, x, ws, ps, ops, T, rfl, _⟩ := h
    rfl
  · obtain ⟨p, l, pp, o, d, n, x, ws, ps, ops, T, rfl, hA, hL, h0, hl, hps, hlo, hlT, qN, qS⟩ := h
    have hu := hr.units
    have hr1 := hr.mono (show 1 ≤ 3 by decide)
    obtain ⟨dx, e0⟩ := hA.ex
    have hlen : T.length + (ws.drop 1).length * (ws.drop 1).length ≤ 10000000 := by
      have z : (ws.drop 1).length ≤ 100 := by rw [List.length_drop]; omega
      have z2 := Nat.mul_le_mul z z
      omega
    have hcut : cutV (ws.map V.str) (some 1) none = (ws.drop 1).map V.str := cut1 ws
    obtain ⟨t2, h2, k2⟩ : ∃ t2, PSs (cxOf CX0 P w K mg base ["self", "number", "words"] "Hall._takes" (defScope sTakes) f cdv A outer s H E).nox ((defBody sTakes).drop 1) t2 ∧
        ∀ H1, Same H H1 → ¬ (decide (n ≤ 21) && (decide (ops.length = 0) && metB ws ps)) = true → t2 { nx := fun _ H' => Q .non H', rt := Q } (start ["self", "number", "words"] [.ref p, .int (n : Int), .ref l]) H1 := by
      refine ⟨_, pss_cons (ps_if (PW.pt (pw_and (pt_cmpR op_lt (pe_callB call_len_seq (by rfl) B.len PySem.boot_len (pa_cons (pe_fld (pv 0) (by rfl)) pa_nil)) (pe_glob (v := .int 4) rfl gOpen ⟨_, rfl⟩) (nomark _))
        (pw_and1 (pt_val (pe_call GO hr rfl gO FO.kp bO .nil pass0 (pa_cons (pv 2) (pa_cons (pe_fld (pv 0) (by rfl)) (pa_cons (pe_fld (pv 0) (by rfl)) pa_nil))))))))
        (pss_cons (ps_expr (pe_meth (pv 0) Z.cls Z.mTell GT hr1 bT .nil pass0 (pa_cons (pe_slice sl_list (pv 2) (po_some pe_int) po_none) (pa_cons pe_str pa_nil))))
          (pss_cons (ps_fld (pv 0) (pe_tup (StX.pa_star (pe_fld (pv 0) (by rfl)) (pa_cons (pe_callTy call_tuple_of (by rfl) B.tup boot_tuple (pa_cons (pe_slice sl_list (pv 2) (po_some pe_int) po_none) pa_nil)) pa_nil))) (by rfl))
          (pss_one (ps_ret pe_bl)))) pss_nil)
        (pss_one (ps_ret pe_bl)), fun H1 s1 hn => ?_⟩
      have A1 := hA.same s1
      obtain ⟨dx1, e1⟩ := A1.ex
      obtain ⟨qs, eo, lo, fo⟩ := id A1.op
      have hn2 : (decide (n ≤ 21) && (decide (ops.length = 0) && metB ws ps)) = false := by simpa using hn
      refine ⟨_, rfl, p, C, dx1, _, _, rfl, e1, Z.cls, Z.nOpens, rfl, o, _, rfl, .inr (SqT.of eo), _, _, rfl, rfl, _, rfl, ite2 (fun h4 => ?_) (fun h4 => ?_)⟩
      · have h4 := of_decide_eq_true h4
        rw [List.length_map] at h4
        refine ⟨_, rfl, _, rfl, p, C, dx1, _, _, rfl, e1, Z.cls, Z.nPeople, rfl, _, rfl, p, C, dx1, _, _, rfl, e1, Z.cls, Z.nTold, rfl, l, pp, d, ws, ps, T, rfl, s1.seq hL, h0, by omega, SqT.of A1.pe, A1.t, fun H2 s2 => ?_⟩
        have s12 := s1.trans s2
        refine ⟨_, rfl, ite2 (fun ho => ?_) (fun ho => ?_)⟩
        · have A2 := hA.same s12
          obtain ⟨dx2, e2⟩ := A2.ex
          refine ⟨_, rfl, p, dx2, _, rfl, e2, rfl, _, rfl, _, rfl, l, _, rfl, s12.seq hL, fun n1 hn1 => ?_⟩
          have s3 := s12.trans (same_new (o := .lst (cutV (ws.map V.str) (some 1) none)) hn1)
          refine ⟨p, n1, d, ws.drop 1, "open", T, rfl, (hA.same s3).told, SqL.of (by rw [upd_same, hcut]), hlen, fun H4 b4 e4 => ?_⟩
          have A4 := (hA.same s3).on b4 e4
          obtain ⟨dx4, e4p⟩ := A4.ex
          obtain ⟨qs4, eo4, lo4, fo4⟩ := id A4.op
          have hL4 : SqL K H4 l (ws.map V.str) := b4.seqL (s3.seq hL) (nrd_t ((hA.same s3).t) (fun _ z => by cases z) (fun _ _ z => by cases z))
          refine ⟨_, rfl, p, C, dx4, _, _, rfl, e4p, Z.cls, Z.nOpens, rfl, o, _, rfl, .inl (SqT.of eo4), _, rfl, _, rfl, l, _, rfl, hL4, fun n5 hn5 => ?_⟩
          have s5 := same_new (o := .lst (cutV (ws.map V.str) (some 1) none)) hn5
          refine ⟨n5, _, rfl, .inl ⟨SqL.of upd_same, fun q hq => ?_⟩⟩
          have s6 := s5.trans (same_new (o := .tup (cutV (ws.map V.str) (some 1) none)) hq)
          refine ⟨?_, fun o' ho' => ?_⟩
          · rw [sizeLine_eq]
            show (qs4.map V.ref ++ [V.ref q]).length ≤ _
            rw [List.length_append, List.length_map, lo4]
            show ops.length + 1 ≤ _
            omega
          have s7 := s6.trans (same_new (o := .tup (qs4.map V.ref ++ [V.ref q])) ho')
          have A7 := A4.same s7
          have hwo : ∀ y ∈ ws.drop 1, PyData.strOk y = true := by
            unfold openB at ho
            simp only [Bool.and_eq_true] at ho
            exact amongOk ho.2.2.1 hps
          have hO : OpsAt K (L2.upd (L2.upd (L2.upd H4 n5 (.lst (cutV (ws.map V.str) (some 1) none))) q (.tup (cutV (ws.map V.str) (some 1) none))) o' (.tup (qs4.map V.ref ++ [V.ref q]))) o' (ops ++ [ws.drop 1]) :=
            A4.op.snoc (q := q) s7 eo4 upd_same (by rw [← hcut]; exact (same_new ho') _ _ upd_same)
          refine ⟨_, rfl, p, C, dx4, _, rfl, s7 _ _ e4p, Z.cls, Z.nOpens, (show 4 < 1000 by decide), ?_⟩
          refine qS _ _ (by unfold MX.stepT; rw [hn2, if_neg (by simp), if_pos (by simp [show ops.length < 4 by omega, ho])]) _ o' ?_ (A7.opened hO (fun op hop => ?_) rfl)
          · have b7 : But [p, d] H (L2.upd (L2.upd (L2.upd H4 n5 (.lst (cutV (ws.map V.str) (some 1) none))) q (.tup (cutV (ws.map V.str) (some 1) none))) o' (.tup (qs4.map V.ref ++ [V.ref q]))) :=
              ((But.of s3).trans (b4.mono fun a ha => by rw [List.mem_singleton.mp ha]; simp)).trans (But.of s7)
            exact b7.up (by simp)
          · rcases List.mem_append.mp hop with hop | hop
            · exact hA.ok op hop
            · rw [List.mem_singleton.mp hop]
              exact hwo
        · refine qN ?_ H2 s12
          unfold MX.stepT
          rw [hn2, if_neg (by simp), if_neg (by simp [ho])]
      · refine qN ?_ H1 s1
        have h4 : ¬ ops.length < 4 := fun z => h4 (decide_eq_true (by rw [List.length_map]; omega))
        unfold MX.stepT
        rw [hn2, if_neg (by simp), if_neg (by simp [h4])]
    refine ⟨_, PSs.nox (pss_cons (ps_if (PW.pt (pw_and (pt_cmpR op_le (pv 1) (pe_op op_add pe_int (pe_glob (v := .int 20) rfl gMet ⟨_, rfl⟩)) (nomark _))
        (pw_and (pt_cmpR (op_eqD hu) (pe_fld (pv 0) (by rfl)) (pe_tup pa_nil) (nomark _))
        (pw_and1 (pt_val (pe_call GM hr rfl gM FM.kp bM .nil pass0 (pa_cons (pv 2) (pa_cons (pe_fld (pv 0) (by rfl)) pa_nil))))))))
        (pss_cons (ps_expr (pe_meth (pv 0) Z.cls Z.mTell GT hr1 bT .nil pass0 (pa_cons (pe_slice sl_list (pv 2) (po_some pe_int) po_none) (pa_cons pe_str pa_nil))))
          (pss_one (ps_ret pe_bl))) pss_nil) h2), ?_⟩
    refine ⟨_, rfl, _, _, rfl, rfl, _, _, rfl, rfl, _, rfl, ite2 (fun hn => ?_) (fun hn => ?_)⟩
    · have hn : n ≤ 21 := by have := of_decide_eq_true hn; omega
      refine ⟨_, rfl, p, C, dx, _, _, rfl, e0, Z.cls, Z.nOpens, rfl, Nat.zero_le _, fun t0 ht0 => ?_⟩
      have s0 := same_new (o := .tup []) ht0
      have A0 := hA.same s0
      refine ⟨_, _, A0.op.dp, .tup (SqT.of upd_same) .nil, shOps hA.ok, (by decide +kernel), ?_⟩
      rw [eqv_nil, List.length_map]
      refine ⟨_, rfl, ite2 (fun hz => ?_) (fun hz => ?_)⟩
      · have hz := of_decide_eq_true hz
        obtain ⟨dx0, e00⟩ := A0.ex
        refine ⟨_, rfl, _, rfl, p, C, dx0, _, _, rfl, e00, Z.cls, Z.nPeople, rfl, l, pp, ws, ps, rfl, s0.seq hL, h0, by omega, SqT.of A0.pe, fun H1 s1 => ?_⟩
        have s01 := s0.trans s1
        refine ⟨_, rfl, ite2 (fun hm => ?_) (fun hm => ?_)⟩
        · have A1 := hA.same s01
          obtain ⟨dx1, e1⟩ := A1.ex
          refine ⟨_, rfl, p, dx1, _, rfl, e1, rfl, _, rfl, _, rfl, l, _, rfl, s01.seq hL, fun n1 hn1 => ?_⟩
          have s2 := s01.trans (same_new (o := .lst (cutV (ws.map V.str) (some 1) none)) hn1)
          refine ⟨p, n1, d, ws.drop 1, "met", T, rfl, (hA.same s2).told, SqL.of (by rw [upd_same, hcut]), hlen, fun H2 b2 e2 => ?_⟩
          refine qS _ _ (by unfold MX.stepT; rw [if_pos (by simp [hn, hz, hm])]) H2 o ((But.of s2).trans (b2.mono fun a ha => by rw [List.mem_singleton.mp ha]; simp)) ((hA.same s2).on b2 ?_)
          have hops : ops = [] := List.length_eq_zero_iff.mp hz
          exact e2
        · exact k2 H1 s01 (by simp [hm])
      · exact k2 _ s0 (by simp [of_decide_eq_false (by simpa using hz)])
    · exact k2 H (Same.refl H) (by simp [show ¬ n ≤ 21 from fun z => hn (decide_eq_true (by omega))])

end
end K15

set_option Elab.async false
set_option linter.all false
set_option maxRecDepth 100000
set_option maxHeartbeats 4000000
namespace MX
open PySem PySem.Spec PySem.W PySem.Calls PyProof.Rows L2
/-! ### an exception that is kept behind its except suite -/
def exk (a : Addr) (cls : Value) (d : Option Addr) : HO := .ext fun h => ∃ (oe : Obj) (vs : Array Value), h.get? a = some oe ∧ Zc cls d oe ∧ oe.data = .fields vs
theorem exk_at {P : Program} {w : World} {H : Hp} {h : Heap} {a : Addr} {cls : Value} {d : Option Addr} (k : HOk P w H h) (e : H a = some (exk a cls d)) : ∃ (oe : Obj) (vs : Array Value), h.get? a = some oe ∧ Zc cls d oe ∧ oe.data = .fields vs := by
  have z : ObjOk P w H h a (.ext fun h => ∃ (oe : Obj) (vs : Array Value), h.get? a = some oe ∧ Zc cls d oe ∧ oe.data = .fields vs) := k a _ e
  exact z.1
/-- what stands untracked and new is known from now on -/
theorem Inv.known {X : Cx} {pins : List (Addr × Obj)} {σ : L2.St} {H : Hp} {s : Shared} (J : L2.Inv X pins σ H s) {a : Addr} {cls : Value} {d : Option Addr} {oe : Obj} {vs : Array Value} (na : H a = none) (ea : s.heap.get? a = some oe) (hz : Zc cls d oe) (hd : oe.data = .fields vs)
    (new : X.s_0.heap.get? a = none) (nL : a ≠ X.env.locals) (np : ∀ p ∈ X.pn ++ pins, p.1 ≠ a) : L2.Inv X pins σ (upd H a (exk a cls d)) s := by
  have ne : ∀ b o, H b = some o → b ≠ a := fun b o e => ne_of_none e na
  refine ⟨J.ok, J.os, J.bare, ⟨J.base.keep, J.base.slot, fun b o e n x => ?_, J.base.there, fun b xs e => ?_, fun b o u e => ?_, fun b ps e => ?_⟩, J.loc, J.cell, ?_, fun y c e => ?_, fun p hp => ?_, fun b u e => ?_, J.len⟩
  · have q : b ≠ a := fun z => by rw [z, new] at e; cases e
    rw [upd_ne q]; exact J.base.free b o e n x
  · have q := J.base.tups b xs e
    rw [upd_ne (ne _ _ q)]; exact q
  · have q := J.base.frzs b o u e
    rw [upd_ne (ne _ _ q)]; exact q
  · obtain ⟨more, q⟩ := J.base.tbls b ps e
    exact ⟨more, by rw [upd_ne (ne _ _ q)]; exact q⟩
  · rw [upd_ne (Ne.symm nL)]; exact J.free
  · have q : c ≠ a := fun z => by
      obtain ⟨v, o, ho, hc⟩ := J.cell y c e
      rw [z, ea] at ho
      cases ho
      rw [hd] at hc
      cases hc
    rw [upd_ne q]; exact J.freeC y c e
  · obtain ⟨q1, q2, q3, q4, q5⟩ := J.pin p hp
    exact ⟨q1, by rw [upd_ne (np p hp)]; exact q2, q3, q4, q5⟩
  · by_cases q : b = a
    · rw [q, upd_same] at e
      cases e
      rw [q]
      exact ⟨⟨oe, vs, ea, hz, hd⟩, ⟨oe, ea⟩, fun h1 h2 ⟨o, v, x1, x2, x3⟩ st => ⟨o, v, st _ x1, x2, x3⟩⟩
    · rw [upd_ne q] at e
      exact (J.hok b u e).stay (fun _ _ _ z => z) (fun b' z => by rw [upd_ne (ne _ _ z)]; exact z) fun b' xs z => by rw [upd_ne (ne _ _ z)]; exact z
section
variable {X : Cx} {x n : Str} {c : Value} {i : Nat} {body rest : List Stmt} {st : Stmt} {q1 q2 q3 : Pos} {tb : WX → TS} {ts : Addr → Value → Option Addr → TS} {Wo : WX}
end
/-- the pair that _law_told gives back, v what came back -/
def toldBack (f : Addr) (Q : VK) (v : V) (G : Hp) : Prop := tRet (tTup (tCons (tVar 1) (tCons (tVar 2) tNil))) { nx := fun _ G => Q .non G, rt := Q } [some (.ref f), some .non, some v, none] G
theorem toldBack.by {f : Addr} {Q : VK} {v : V} {G : Hp} (h : ∀ r, G r = none → Q (.ref r) (upd G r (.tup [.non, v]))) : toldBack f Q v G := ⟨_, rfl, _, rfl, (show 2 ≤ sizeLine by decide), fun r hr => h r hr⟩
/-- what _law_told makes of the lambda's reading: (caught, None) or (None, back) -/
def TKept (K : PySem.W.Frag) (CM : Addr) : (XK → Hp → VK → Prop) → Hp → VK → Prop := fun tl H Q => ∀ f z, H z = none →
  tl (fun cls d G => ∃ b, PySem.W.exmOne K cls (.ref CM) = some b ∧ (b = true → ∀ a, G a = none → ∀ r, (upd G a (exk a cls d)) r = none → Q (.ref r) (upd (upd G a (exk a cls d)) r (.tup [.ref a, .non]))) ∧ (b = false → False))
    (upd H z (.tup [.non, .non])) (toldBack f Q)
/-! ### a lambda handed to a def that calls it, the slots known when it raises -/
section
variable {X : Cx} {pins : List (Addr × Obj)} {σ : L2.St} {H : Hp} {s : Shared}
abbrev gotCx (X : Cx) (Ng : List Str) (x : Str) (sg : Scope) (g : Addr) (cdg : Value) (s : Shared) (H : Hp) : Cx := cxOf C8.CX0 X.prog X.w X.K X.mg X.base Ng x sg g cdg X.A X.stack s H C8.E0
/-- what the def that got the lambda does with it -/
def GivesK (X : Cx) (Ng : List Str) (x : Str) (sg : Scope) (g : Addr) (cdg : Value) (bg : List Stmt) (a q : Str) (TT : (XK → Hp → VK → Prop) → Hp → VK → Prop) : Prop :=
  ∀ (f c' : Addr) (s : Shared) (H : Hp) (Q : VK) (tl : XK → Hp → VK → Prop),
    (∀ (W : WX) (pn : List (Addr × Obj)) (xe : Value → Shared → Prop) (p1 p2 : Pos), Takes ((gotCx X Ng x sg g cdg s H).tr pn xe) W →
      PE ((gotCx X Ng x sg g cdg s H).tr pn xe) (.Call (.Name a p1) [] [] p2) (fun τ G Q => ∃ E : XK, (∀ cls d G', E cls d G' → W cls d τ G') ∧ τ[0]? = some (some (.ref f)) ∧ G c' = some (LamX.CodeO c' q) ∧ tl E G Q)) →
    H c' = some (LamX.CodeO c' q) → TT tl H Q → ∃ t, PSs (gotCx X Ng x sg g cdg s H).nox bg t ∧ t { nx := fun _ G => Q .non G, rt := Q } (L2.start Ng [.ref f]) H
end
/-! ### reading a kept exception -/
theorem inst_kept {X : Cx} {pins : List (Addr × Obj)} {σ : L2.St} {H : Hp} {s : Shared} {a C d : Addr} {fs : List (Str × V)} (I : L2.Inv X pins σ H s) (ea : H a = some (exk a (.ref C) (some d))) (ed : H d = some (.xd fs)) :
    ∃ (oe oD : Obj) (mA : Str → Option Value), PySem.W.InstAt s.heap a oe C (some oD) ∧ (∀ f, PySem.W.lookIn f oD = some (mA f)) ∧ ∀ f, RelO (fs.lookup f) (mA f) := by
  obtain ⟨oe, vs, h1, ⟨h2, h3⟩, h4⟩ := exk_at I.hok ea
  obtain ⟨mA, hns, rel⟩ := (show ObjOk X.prog X.w H s.heap d (.xd fs) from I.hok d _ ed)
  obtain ⟨oD, hD, hl⟩ := lookIn_ns hns
  refine ⟨oe, oD, mA, ⟨h1, h2, ?_, ?_⟩, hl, rel⟩
  · unfold PySem.W.notCls; rw [h4]
  · rw [h3]
    exact hD
/-- isinstance(e, c) of a kept exception -/
def rIsK (K : PySem.W.Frag) : List V → Hp → VK → Prop := fun xs H Q => ∃ (a C fI d : Addr) (fs : List (Str × V)) (c : V) (cv : Value) (b : Bool), xs = [.ref a, c] ∧ ExcT K C fI ∧ H a = some (exk a (.ref C) (some d)) ∧ H d = some (.xd fs) ∧
  (∀ u, RelV c u → u = cv) ∧ PySem.W.kitOne K (.ref C) cv = some b ∧ Q (.bl b) H
theorem call_isK {X : Cx} : CallR X (.builtin "isinstance") (rIsK X.K) := by
  intro pins s σ H xs us Q I r h
  obtain ⟨a, C, fI, d, fs, c, cv, b, rfl, T, ea, ed, hc, hk, q⟩ := h
  match us, r with
  | [_, u], .cons rfl (.cons rc .nil) =>
    obtain rfl := hc u rc
    obtain ⟨oe, oD, mA, io, _, _⟩ := inst_kept I ea ed
    exact PySem.W.kia_one (PySem.W.kitx_exc T.cl T.ga T.gg T.oex.exC T.ha T.hn T.ht T.hm) I.kIn io hk (fun z => nomatch z) fun tk => ⟨.bl b, H, I.kept (t' := tk) fun _ _ z => z, rfl, q⟩
end MX

set_option Elab.async false
set_option linter.all false
set_option maxRecDepth 100000
set_option maxHeartbeats 4000000
namespace MX
open PySem PySem.Spec PySem.W PySem.Calls PyProof.Rows L2
/-! ### what a value is, told so that it lasts -/
structure Rd where
  R : V → Hp → Prop
  st : ∀ v H H', LamX.ExtN H H' → R v H → R v H'
def All2 : List Rd → List V → Hp → Prop
  | [], [], _ => True
  | r :: rs, v :: vs, H => r.R v H ∧ All2 rs vs H
  | _, _, _ => False
theorem All2.st {H H' : Hp} (x : LamX.ExtN H H') : ∀ {rs : List Rd} {vs : List V}, All2 rs vs H → All2 rs vs H'
  | [], [], _ => trivial
  | r :: rs, v :: vs, h => ⟨r.st v H H' x h.1, All2.st x h.2⟩
  | [], _ :: _, h => h.elim
  | _ :: _, [], h => h.elim
theorem All2.len {H : Hp} : ∀ {rs : List Rd} {vs : List V}, All2 rs vs H → vs.length = rs.length
  | [], [], _ => rfl
  | r :: rs, v :: vs, h => congrArg Nat.succ (All2.len h.2)
  | [], _ :: _, h => h.elim
  | _ :: _, [], h => h.elim
theorem All2.app {H : Hp} : ∀ {rs ss : List Rd} {vs us : List V}, All2 rs vs H → All2 ss us H → All2 (rs ++ ss) (vs ++ us) H
  | [], _, [], _, _, g => g
  | r :: rs, _, v :: vs, _, h, g => ⟨h.1, All2.app h.2 g⟩
  | [], _, _ :: _, _, h, _ => h.elim
  | _ :: _, _, [], _, h, _ => h.elim
theorem All2.at {H : Hp} : ∀ {rs : List Rd} {vs : List V} {k : Nat} {x : V}, All2 rs vs H → vs[k]? = some x → ∃ r, rs[k]? = some r ∧ r.R x H
  | [], [], _, _, _, e => by simp at e
  | r :: rs, v :: vs, 0, x, h, e => ⟨r, rfl, by
    obtain rfl : v = x := by simpa using e
    exact h.1⟩
  | r :: rs, v :: vs, k + 1, x, h, e => All2.at (k := k) h.2 (by simpa using e)
  | [], _ :: _, _, _, h, _ => h.elim
  | _ :: _, [], _, _, h, _ => h.elim
theorem All2.get {H : Hp} : ∀ {rs : List Rd} {vs : List V} {k : Nat} {r : Rd}, All2 rs vs H → rs[k]? = some r → ∃ x, vs[k]? = some x ∧ r.R x H
  | [], [], _, _, _, e => by simp at e
  | r :: rs, v :: vs, 0, x, h, e => ⟨v, rfl, by
    obtain rfl : r = x := by simpa using e
    exact h.1⟩
  | r :: rs, v :: vs, k + 1, x, h, e => All2.get (k := k) h.2 (by simpa using e)
  | [], _ :: _, _, _, h, _ => h.elim
  | _ :: _, [], _, _, h, _ => h.elim
theorem All2.take {H : Hp} : ∀ {rs : List Rd} {vs : List V} (k : Nat), All2 rs vs H → All2 (rs.take k) (vs.take k) H
  | _, _, 0, _ => by simp [All2]
  | [], [], k + 1, _ => by simp [All2]
  | r :: rs, v :: vs, k + 1, h => ⟨h.1, All2.take k h.2⟩
  | [], _ :: _, _, h => h.elim
  | _ :: _, [], _, h => h.elim
theorem All2.drop {H : Hp} : ∀ {rs : List Rd} {vs : List V} (k : Nat), All2 rs vs H → All2 (rs.drop k) (vs.drop k) H
  | _, _, 0, h => h
  | [], [], k + 1, _ => trivial
  | r :: rs, v :: vs, k + 1, h => All2.drop k h.2
  | [], _ :: _, _, h => h.elim
  | _ :: _, [], _, h => h.elim
def oS (x : Str) : Rd := ⟨fun v _ => v = .str x, fun _ _ _ _ h => h⟩
def oT (rs : List Rd) : Rd := ⟨fun v H => ∃ a vs, v = .ref a ∧ H a = some (.tup vs) ∧ All2 rs vs H, fun v H H' x h => by
  obtain ⟨a, vs, e, h1, h2⟩ := h
  exact ⟨a, vs, e, x a _ h1 (fun _ z => by cases z), h2.st x⟩⟩
theorem all_oS {H : Hp} : ∀ {xs : List Str} {vs : List V}, All2 (xs.map oS) vs H ↔ vs = xs.map V.str
  | [], [] => by simp [All2]
  | x :: xs, v :: vs => by
    show (v = V.str x ∧ All2 (xs.map oS) vs H) ↔ (v :: vs) = V.str x :: xs.map V.str
    rw [all_oS (xs := xs) (vs := vs), List.cons.injEq]
  | [], _ :: _ => by simp [All2]
  | _ :: _, [] => by simp [All2]
/-! ### the heap but for some places -/
def msk (M : List Addr) (H : Hp) : Hp := fun a => if a ∈ M then none else H a
theorem msk_of {M : List Addr} {H : Hp} {a : Addr} {o : HO} (h : msk M H a = some o) : H a = some o ∧ a ∉ M := by
  unfold msk at h
  by_cases c : a ∈ M
  · rw [if_pos c] at h; cases h
  · rw [if_neg c] at h; exact ⟨h, c⟩
theorem msk_in {M : List Addr} {H : Hp} {a : Addr} (h : a ∉ M) : msk M H a = H a := if_neg h
theorem msk_ext {M : List Addr} {H H' : Hp} (x : LamX.ExtN H H') : LamX.ExtN (msk M H) (msk M H') := fun b o h n => by
  obtain ⟨h, c⟩ := msk_of h
  rw [msk_in c]
  exact x b o h n
theorem msk_same {M : List Addr} {H H' : Hp} (x : Same H H') : Same (msk M H) (msk M H') := fun b o h => by
  obtain ⟨h, c⟩ := msk_of h
  rw [msk_in c]
  exact x b o h
theorem msk_sub {M : List Addr} {H : Hp} : Same (msk M H) H := fun _ _ h => (msk_of h).1
def Live (M : List Addr) (H : Hp) : Prop := ∀ b ∈ M, ∃ vs, H b = some (.lst vs)
theorem Live.nil {H : Hp} : Live [] H := fun _ h => by cases h
theorem Live.ext {M : List Addr} {H H' : Hp} (h : Live M H) (x : LamX.ExtN H H') : Live M H' := fun b hb => by
  obtain ⟨vs, e⟩ := h b hb
  exact ⟨vs, x b _ e fun _ z => by cases z⟩
theorem Live.free {M : List Addr} {H : Hp} {p : Addr} (h : Live M H) (n : H p = none) : p ∉ M := fun m => by
  obtain ⟨vs, e⟩ := h p m
  rw [n] at e
  cases e
/-! ### readings of plain expressions in a state that new things leave -/
section
variable {ι : Type} {Ev : ι → L2.St → Hp → Prop} {M : ι → List Addr}
/-- new things leave it -/
def Env (Ev : ι → L2.St → Hp → Prop) : Prop := ∀ i σ H H', Same H H' → Ev i σ H → Ev i σ H'
def EOk (Ev : ι → L2.St → Hp → Prop) (M : ι → List Addr) (i : ι) (σ : L2.St) (H : Hp) : Prop := Ev i σ (msk (M i) H) ∧ Live (M i) H
theorem EOk.same (E : Env Ev) {i : ι} {σ : L2.St} {H H' : Hp} (h : EOk Ev M i σ H) (s : Same H H') : EOk Ev M i σ H' := ⟨E i σ _ _ (msk_same s) h.1, h.2.ext (LamX.ExtN.of s)⟩
section
variable {X : Cx} {a b c e o : Expr} {es : List Expr} {t t' : TE} {ta : TA} {pos : Pos}
theorem pe_mono (h : PE X e t) (m : ∀ σ H Q, t' σ H Q → t σ H Q) : PE X e t' := ⟨fun pins s σ H Q I q => h.run pins s σ H Q I (m σ H Q q)⟩
theorem pa_mono {u u' : TA} (h : PA X es u) (m : ∀ σ H Q, u' σ H Q → u σ H Q) : PA X es u' := ⟨fun pos pins s σ H Q I q => h.run pos pins s σ H Q I (m σ H Q q)⟩
end
/-! ### a list that grows -/
def Grow (M : List Addr) (b : Addr) (rs : List Rd) (H : Hp) : Prop := ∃ vs, H b = some (.lst vs) ∧ All2 rs vs (msk M H)
theorem Grow.ext {M : List Addr} {b : Addr} {rs : List Rd} {H H' : Hp} (h : Grow M b rs H) (x : LamX.ExtN H H') : Grow M b rs H' := by
  obtain ⟨vs, e, a⟩ := h
  exact ⟨vs, x b _ e (fun _ z => by cases z), a.st (msk_ext x)⟩
theorem Live.upd {M : List Addr} {H : Hp} {b : Addr} {vs : List V} (h : Live M H) : Live M (L2.upd H b (.lst vs)) := fun c hc => by
  by_cases z : c = b
  · rw [z, upd_same]; exact ⟨_, rfl⟩
  · rw [upd_ne z]; exact h c hc
section
variable {X : Cx} {e : Expr} {pos apos pos' : Pos} {y : Str} {py : Pos}
end
end
end MX

set_option Elab.async false
set_option linter.all false
set_option maxRecDepth 100000
set_option maxHeartbeats 4000000
namespace MX
open PySem PySem.Spec PySem.W PySem.Calls PyProof.Rows L2
section
variable {ι : Type} {Ev : ι → L2.St → Hp → Prop} {M : ι → List Addr} {X : Cx} {e : Expr} {pos : Pos}
/-- a state with a line in the slot k -/
def EvL (Ev : ι → L2.St → Hp → Prop) (k : Nat) (j : ι × Str) (σ : L2.St) (H : Hp) : Prop := Ev j.1 σ H ∧ σ[k]? = some (some (.str j.2))
theorem EvL.env (E : Env Ev) (k : Nat) : Env (EvL Ev k) := fun j σ H H' s h => ⟨E j.1 σ H H' s h.1, h.2⟩
end
end MX

set_option Elab.async false
set_option linter.all false
set_option maxRecDepth 100000
set_option maxHeartbeats 4000000
namespace MX
open PySem PySem.Spec PySem.W PySem.Calls PyProof.Rows L2
/-! ### states told slot by slot -/
section
variable {ι : Type} {P : ι → Prop} {Γ : ι → List (Option Rd)} {M : ι → List Addr} {X : Cx}
abbrev Gm := List (Option Rd)
structure EvT (P : ι → Prop) (Γ : ι → Gm) (i : ι) (σ : L2.St) (H : Hp) : Prop where
  p : P i
  l : σ.length = (Γ i).length
  at_ : ∀ (k : Nat) (r : Rd), (Γ i)[k]? = some (some r) → ∃ v, σ[k]? = some (some v) ∧ r.R v H
/-- another telling of the same state -/
theorem EvT.as {ι' : Type} {P' : ι' → Prop} {Γ' : ι' → Gm} {i : ι} {i' : ι'} {σ : L2.St} {H : Hp} (h : EvT P Γ i σ H) (p : P' i') (l : (Γ' i').length = (Γ i).length) (g : ∀ (k : Nat) (r : Rd), (Γ' i')[k]? = some (some r) → (Γ i)[k]? = some (some r)) : EvT P' Γ' i' σ H :=
  ⟨p, h.l.trans l.symm, fun k r e => h.at_ k r (g k r e)⟩
theorem EvT.set {i : ι} {σ : L2.St} {H : Hp} (h : EvT P Γ i σ H) (k : Nat) {r : Rd} {v : V} (hr : r.R v H) {Γ' : ι → Gm} (hΓ : Γ' i = (Γ i).set k (some r)) : EvT P Γ' i (σ.set k (some v)) H :=
  ⟨h.p, by rw [hΓ, List.length_set, List.length_set]; exact h.l, fun j q e => by
    rw [hΓ] at e
    by_cases c : k = j
    · subst c
      have hk : k < (Γ i).length := by
        by_cases z : k < (Γ i).length
        · exact z
        · rw [List.getElem?_eq_none (by rw [List.length_set]; omega)] at e; cases e
      rw [List.getElem?_set_self hk] at e
      have e' : r = q := Option.some.inj (Option.some.inj e)
      subst e'
      exact ⟨v, by rw [List.getElem?_set_self (by rw [h.l]; exact hk)], hr⟩
    · rw [List.getElem?_set_ne c] at e ⊢
      exact h.at_ j q e⟩
theorem EvT.wipe {i : ι} {σ : L2.St} {H : Hp} (h : EvT P Γ i σ H) : ∀ (vs : List Nat), (∀ k ∈ vs, (Γ i)[k]? = some none) → EvT P Γ i (L2.wipe σ vs) H
  | [], _ => h
  | k :: vs, hv => by
    have z := EvT.wipe h vs fun j hj => hv j (List.mem_cons_of_mem _ hj)
    have hk := hv k List.mem_cons_self
    refine ⟨z.p, by rw [wipe_length]; exact h.l, fun j q e => ?_⟩
    have c : k ≠ j := fun c => by rw [← c, hk] at e; cases e
    show ∃ v, ((L2.wipe σ vs).set k none)[j]? = some (some v) ∧ q.R v H
    rw [List.getElem?_set_ne c]
    exact z.at_ j q e
/-! ### bodies -/
variable {r res : ι → Rd} {e c : Expr} {a : List Stmt} {rest : List Stmt} {pos pos' : Pos}
theorem pss_mono {X : Cx} {st : List Stmt} {t t' : TS} (h : PSs X st t) (m : ∀ D σ H, t' D σ H → t D σ H) : PSs X st t' := ⟨fun pins s σ H D I q => h.run pins s σ H D I (m D σ H q)⟩
/-! ### bools -/
section
variable {Ev : ι → L2.St → Hp → Prop}
end
end
end MX

set_option Elab.async false
set_option linter.all false
set_option maxRecDepth 100000
set_option maxHeartbeats 4000000
namespace MX
open PySem PySem.Spec PySem.W PySem.Calls PyProof.Rows L2
theorem all_map {α : Type} {f g : α → Rd} {xs : List α} {vs : List V} {H : Hp} (h : All2 (xs.map f) vs H) (m : ∀ x ∈ xs, ∀ v, (f x).R v H → (g x).R v H) : All2 (xs.map g) vs H := by
  induction xs generalizing vs with
  | nil => exact h
  | cons x xs ih =>
    match vs, h with
    | v :: vs, h => exact ⟨m x List.mem_cons_self v h.1, ih h.2 fun y hy => m y (List.mem_cons_of_mem _ hy)⟩
section
variable {ι : Type} {Ev : ι → L2.St → Hp → Prop} {M : ι → List Addr} {X : Cx}
/-! ### calls of pure functions -/
end
end MX

set_option Elab.async false
set_option linter.all false
set_option maxRecDepth 100000
set_option maxHeartbeats 4000000
namespace MX
open PySem PySem.Spec PySem.W PySem.Calls PyProof.Rows L2
/-! ### dict comprehensions whose keys are tuples -/
theorem d_dictSetT {X : Cx} {pins : List (Addr × Obj)} {σ : L2.St} {H : Hp} {s : Shared} {E : Value → Shared → Prop} {D b : Addr} {kvs : List (List Key × V)} {k : List Key} {v : V} {u r : Value} {Q : Unit → Shared → Prop} (hu : X.A.units + 1 < cLine) (I : Inv X pins σ H s) (hD : H D = some (.dT kvs)) (eb : H b = some (.tup (k.map kV)))
    (hz : kvs.length < sizeLine) (ry : RelV (.ref b) u) (rv : RelV v r) (h : ∀ s', Inv X pins σ (L2.upd H D (.dT (putK kvs k v))) s' → Q () s') : wpAny (model X.prog X.w) X.A (dictSet D u r) Q E s := by
  cases (show u = Value.ref b from ry); obtain ⟨z, hd, xs, rel, dd⟩ := dt_of I.hok hD
  have z1 : xs.length ≤ sizeLine := by rw [← Paired.length rel]; exact z
  have z2 : (putK kvs k v).length ≤ sizeLine := by have := length_putK kvs k v; omega
  refine wpAny_dictSet_heap (hsz := z1) (knd := tupleKind (mixKind X.prog X.w)) (Nat.lt_of_succ_lt hu) (key_of I.hok eb) dd fun h' dd' sb => h _ ?_
  obtain ⟨q, es, ep, e1, e2, e3, e4, _, e5⟩ := dd'
  refine d_write I (by rw [hD]; exact True.intro) sb ⟨q, e1⟩ ⟨z2, hd, _, (rel.put k eb rv).keeps fun c ys ec => ?_, q, es, ep, e1, e2, e3, e4, e5⟩
  rw [L2.upd_ne (fun y => by rw [y, hD] at ec; cases ec)]; exact ec
section
variable {X : Cx}
def tDcT (wi : TI) (g : TG) (tt : TT) (tk tv : TE) (vs : List Nat) : TE := fun σ H Q => wi σ H fun J H1 => ∀ D, H1 D = none → ∃ W : Nat → Nat → Hp → Prop, (∃ m, W 0 m (L2.upd H1 D (.dT []))) ∧ ∀ i m H, W i m H →
  (J.stop i H ∧ Q (.ref D) H) ∨ (J.go i H ∧ ∃ Nx : Hp → Prop, (∀ H', Nx H' → ∃ m', m' < m ∧ W (i + 1) m' H') ∧ ∀ x H', J.yld i H x H' → g x (wipe σ vs) H' fun σ2 G2 => wipe σ2 vs = wipe σ vs ∧ tt σ2 G2 fun b G3 =>
    if b = true then tk σ2 G3 fun y H4 => tv σ2 H4 fun z G5 => ∃ kvs k b, y = .ref b ∧ G5 D = some (.dT kvs) ∧ G5 b = some (.tup (k.map kV)) ∧ kvs.length < sizeLine ∧ Nx (L2.upd G5 D (.dT (putK kvs k z))) else Nx G3)
theorem dcT_core {pins : List (Addr × Obj)} {s : Shared} {σ : L2.St} {H : Hp} {Q : VK} {kx vx tg iter : Expr} {ifs : List Expr} {scope : Scope} {own : List (Str × Nat)} {pos posx : Pos} {wi : TI} {g : TG} {tt : TT} {tk tv : TE} {use : Option (Value → Sem Unit)} {Qf : Value → Shared → Prop}
    (unit_ : X.A.units + 1 < cLine) (calm : X.calm = true) (nd : X.N.Nodup) (I : Inv X pins σ H s) (it_ : PI X tg iter wi) (bk : BlkOk X.N X.env.scope scope own)
    (tg_ : ∀ (s : Shared) (H : Hp) (C : Addr) (cl : List (Str × Addr)) (fps : List Addr), PG (X.blk s H scope (compEnvC scope cl C X.env) fps) tg g) (ts_ : ∀ (s : Shared) (H : Hp) (C : Addr) (cl : List (Str × Addr)) (fps : List Addr), PTs (X.blk s H scope (compEnvC scope cl C X.env) fps) ifs tt)
    (kk_ : ∀ (s : Shared) (H : Hp) (C : Addr) (cl : List (Str × Addr)) (fps : List Addr), PE (X.blk s H scope (compEnvC scope cl C X.env) fps) kx tk)
    (vv_ : ∀ (s : Shared) (H : Hp) (C : Addr) (cl : List (Str × Addr)) (fps : List Addr), PE (X.blk s H scope (compEnvC scope cl C X.env) fps) vx tv) (fold_ : ∀ x, foldedSetIterable iter X.env x = pure x)
    (h : tDcT wi g tt tk tv (own.map (·.2)) σ H Q)
    (fin_ : ∀ D C s' m H', Inv X pins σ H' s' → Q (.ref D) H' → s'.heap.Ns C m → FpOk X pins H' C → compPost (model X.prog X.w) X.A X.xe use Qf (.ref D) C (.ok .next) s') :
    wpAny (model X.prog X.w) X.A (comprehension (.DictComp kx vx [⟨tg, iter, ifs, 0⟩] scope pos) scope X.env posx newDict false (eval iter X.env) use) Qf X.xe s := by
  have free_ : ∀ y ∈ scope.names, y.2 = .free → ∃ c, X.env.cells.lookup y.1 = some c := fun y hy e => by
    rcases bk.free y hy e with k | k
    · exact I.ok.has _ (.inl k)
    · exact I.ok.has _ (.inr k)
  refine wpAny_comprehension_free (use := use) rfl fold_ (closure_ok free_) bk.kind (fun y hy e => by rw [bk.uniq y hy, e])
    (thn (it_.run pins s σ H _ I h) fun xv z1 hx => thn hx fun itv z2 h2 => ?_)
  obtain ⟨it, fps, turnAt, J, G2, e, J2, T, a2, f2_, q⟩ := h2
  subst e
  refine wpAny_newObj_type (newEnv_comp ?_); generalize eD_ : z2.heap.objs.size = D
  have nD_ : G2 D = none := J2.hok.fresh (Nat.le_of_eq eD_)
  obtain ⟨W, ⟨m0, w0⟩, turn_⟩ := q D nD_
  -- the new list
  generalize hz3 : ({ z2 with heap := z2.heap.push { cls := .type "dict", data := .dict #[] } } : Shared) = z3
  have J3 : Inv X pins σ (L2.upd G2 D (.dT [])) z3 := by
    rw [← hz3]
    refine J2.laid (t' := z2.toks) (fun b o e => Heap.get?_push_of_some _ e) (Nat.le_of_eq eD_) ?_
    rw [← eD_]
    exact dt_empty z2.heap J2.big
  have h3_ : z3.heap = z2.heap.push { cls := .type "dict", data := .dict #[] } := by rw [← hz3]
  have sz_ : ∀ b ∈ fps, b < z2.heap.objs.size := fun b hb => by
    obtain ⟨o, e, _⟩ := T.obj _ _ a2 b hb
    exact Heap.lt_size e
  have f3_ : ∀ b ∈ fps, FpOk X pins (L2.upd G2 D (.dT [])) b ∧ b < z3.heap.objs.size := fun b hb => by
    have hlt := sz_ b hb
    refine ⟨⟨?_, (f2_ b hb).2⟩, by rw [h3_, Heap.size_push]; exact Nat.lt_succ_of_lt hlt⟩
    rw [L2.upd_ne (by rw [← eD_]; exact Nat.ne_of_lt hlt)]
    exact (f2_ b hb).1
  have a3 : turnAt 0 z3.heap := T.keep _ _ _ a2 fun b _ o e => by rw [h3_]; exact Heap.get?_push_of_some _ e
  have J4 := block_start J3 bk nd f3_
  have pg_ := tg_ z3 (L2.upd G2 D (.dT [])) z3.heap.objs.size (cellsFrom (z3.heap.objs.size + 1) scope.names (cloFrom X.env.cells scope.names [])) fps
  have pt_ := ts_ z3 (L2.upd G2 D (.dT [])) z3.heap.objs.size (cellsFrom (z3.heap.objs.size + 1) scope.names (cloFrom X.env.cells scope.names [])) fps
  have pk_ := kk_ z3 (L2.upd G2 D (.dT [])) z3.heap.objs.size (cellsFrom (z3.heap.objs.size + 1) scope.names (cloFrom X.env.cells scope.names [])) fps
  have pe_ := vv_ z3 (L2.upd G2 D (.dT [])) z3.heap.objs.size (cellsFrom (z3.heap.objs.size + 1) scope.names (cloFrom X.env.cells scope.names [])) fps
  show codeAny _ _ (.compStart (.DictComp kx vx [⟨tg, iter, ifs, 0⟩] scope pos) 0 (.ref it) (.ref D) (compEnvC scope (cellsFrom (z3.heap.objs.size + 1) scope.names (cloFrom X.env.cells scope.names [])) z3.heap.objs.size X.env)) (compPost (model X.prog X.w) X.A X.xe use Qf (.ref D) z3.heap.objs.size) { z3 with heap := pushCells (z3.heap.push { cls := .type "dict", data := .dict #[] }) scope.names }
  have nfps : ∀ b ∈ fps, (L2.upd G2 D (.dT [])) b = none := fun b hb => (f3_ b hb).1.1
  generalize hce_ : compEnvC scope (cellsFrom (z3.heap.objs.size + 1) scope.names (cloFrom X.env.cells scope.names [])) z3.heap.objs.size X.env = ce_ at J4 pg_ pt_ pk_ pe_ ⊢
  have cL_ : ce_.locals = z3.heap.objs.size := by subst hce_; rfl
  generalize hG3 : L2.upd G2 D (.dT []) = G3 at J3 J4 pg_ pt_ pk_ pe_ w0 nfps f3_
  generalize hz4 : ({ z3 with heap := pushCells (z3.heap.push { cls := .type "dict", data := .dict #[] }) scope.names } : Shared) = z4 at J4 ⊢
  have a4 : turnAt 0 z4.heap := T.keep _ _ _ a3 fun b _ o e => by rw [← hz4]; exact pushCells_keeps _ _ _ _ (Heap.get?_push_of_some _ e)
  have stay : ∀ {σ' : L2.St} {H' : Hp} {s' : Shared}, Inv (X.blk z3 G3 scope ce_ fps) [] σ' H' s' → (∀ b ∈ fps, H' b = none) → ∀ b ∈ fps, FpOk (X.blk z3 G3 scope ce_ fps) [] H' b := fun {σ' H' s'} J' hn b hb =>
    ⟨hn b hb, (J'.ok.exf b hb).1, J'.ok.exfs b hb, .inl hb, fun x c e => (J'.ok.exf b hb).2 x c e, fun p hp => absurd (show p ∈ ([] : List (Addr × Obj)) ++ [] from hp) (by simp)⟩
  have loop_ : codeAny (model X.prog X.w) X.A (.compLoop (.DictComp kx vx [⟨tg, iter, ifs, 0⟩] scope pos) 0 (.ref it) (.ref D) ce_) (compPost (model X.prog X.w) X.A X.xe use Qf (.ref D) z3.heap.objs.size) z4 := by
    refine compLoop_anyD (fun n s' => ∃ i H', Inv (X.blk z3 G3 scope ce_ fps) [] (wipe σ (own.map (·.2))) H' s' ∧ turnAt i s'.heap ∧ (∀ b ∈ fps, H' b = none) ∧ W i n H') ?_ m0 ⟨0, G3, J4, a4, nfps, w0⟩
    rintro n z5 ⟨i, G5, J5, a5, f5_, w5_⟩
    rcases turn_ i n G5 w5_ with ⟨stop_, qq⟩ | ⟨go_, Nx, hNx_, step_⟩
    · have td_ := T.done (X.blk z3 G3 scope ce_ fps) rfl rfl rfl calm i [] z5 _ G5 (fun _ _ => False) J5 (stay J5 f5_) a5 stop_
      refine thnF td_ fun r z6 ⟨hr, J6⟩ => ?_
      subst hr
      -- back in the def's context
      have J7 : Inv X pins σ G5 z6 := J3.call' (ch := fps) J6.os J6.base J6.hok J6.bare fun b hb => ⟨(f3_ b hb).1.2.2.2.1, (f3_ b hb).1.2.1, (f3_ b hb).1.2.2.2.2.1, (f3_ b hb).1.2.2.2.2.2⟩
      have nC_ : G5 z3.heap.objs.size = none := by
        have z : G5 ce_.locals = none := J6.free
        rw [cL_] at z
        exact z
      obtain ⟨m, hn, _⟩ := J6.loc
      have hn : z6.heap.Ns ce_.locals m := hn
      rw [cL_] at hn
      exact fin_ D z3.heap.objs.size z6 m G5 J7 qq hn (J3.fpOk (Nat.le_refl _) nC_)
    · have ti_ := T.item (X.blk z3 G3 scope ce_ fps) rfl rfl rfl calm i [] z5 _ G5 (fun _ _ => False) J5 (stay J5 f5_) a5 go_
      refine thnF ti_ fun r z6 ⟨u, hr, h6⟩ => ?_
      subst hr
      refine thnF h6 fun _ z7 ⟨x, G7, J7, r7, y7, a7, f7_⟩ => ?_
      have I7' := J7.pinned (stay J7 f7_) (T.obj _ _ a7)
      refine thnF (pg_.run _ z7 _ G7 x u _ I7' r7 (step_ x G7 y7)) fun _ z8 ⟨σ8, G8, J8, hw8, q8⟩ => ?_
      refine thnF (pt_.run _ z8 σ8 G8 _ J8 q8) fun b z9 ⟨G9, J9, q9⟩ => ?_
      -- the turn's end
      have fin : ∀ {s' : Shared} {H' : Hp}, Inv (X.blk z3 G3 scope ce_ fps) ([] ++ pinsAt fps z7.heap) σ8 H' s' → Nx H' → ∃ m, m < n ∧ ∃ i H', Inv (X.blk z3 G3 scope ce_ fps) [] (wipe σ (own.map (·.2))) H' s' ∧ turnAt i s'.heap ∧ (∀ b ∈ fps, H' b = none) ∧ W i m H' := fun {s' H'} J' nx_ => by
        obtain ⟨m', hm_, w'⟩ := hNx_ H' nx_
        have pins_ : ∀ b ∈ fps, ∀ o, z7.heap.get? b = some o → s'.heap.get? b = some o ∧ H' b = none := fun b hb o e =>
          let z := J'.pin (b, o) (List.mem_append_right _ (List.mem_append_right _ (mem_pinsAt hb e)))
          ⟨z.1, z.2.1⟩
        have hl_ : (wipe σ (own.map (·.2))).length = σ8.length := by rw [← hw8, wipe_length]
        refine ⟨m', hm_, i + 1, H', (J'.unpinned (pins := [])).weak hl_ (fun j v e => ?_), T.keep _ _ _ a7 fun b hb o e => (pins_ b hb o e).1, fun b hb => ?_, w'⟩
        · rw [← hw8] at e
          exact (wipe_some e).1
        · obtain ⟨o, e, _⟩ := T.obj _ _ a7 b hb
          exact (pins_ b hb o e).2
      cases b with
      | false =>
        simp only [Bool.false_eq_true, if_false] at q9 ⊢; exact fin J9 q9
      | true =>
        simp only [if_true] at q9 ⊢
        refine thnF (pk_.run _ z9 σ8 G9 _ J9 q9) fun z z10 ⟨yk, G10, J10, r10, q10⟩ => ?_
        refine thnF (pe_.run _ z10 σ8 G10 _ J10 q10) fun z2 z11 ⟨yv, G11, J11, r11, kvs, k, kb, ek, hD11, hkb, hz11, nx_⟩ => ?_
        subst ek
        exact d_dictSetT (X := X.blk z3 G3 scope ce_ fps) unit_ J11 hD11 hkb hz11 r10 r11 fun z12 J12 => fin J12 nx_
  exact codeAny_compStart_dict loop_ (T.self X.A 0 _ _ _ a4 loop_)
/-- as a value -/
theorem pe_dcT {kx vx tg iter : Expr} {ifs : List Expr} {scope : Scope} {own : List (Str × Nat)} {pos : Pos} {wi : TI} {g : TG} {tt : TT} {tk tv : TE} (unit_ : X.A.units + 1 < cLine) (calm : X.calm = true) (nd : X.N.Nodup) (it_ : PI X tg iter wi) (bk : BlkOk X.N X.env.scope scope own)
    (tg_ : ∀ (s : Shared) (H : Hp) (C : Addr) (cl : List (Str × Addr)) (fps : List Addr), PG (X.blk s H scope (compEnvC scope cl C X.env) fps) tg g) (ts_ : ∀ (s : Shared) (H : Hp) (C : Addr) (cl : List (Str × Addr)) (fps : List Addr), PTs (X.blk s H scope (compEnvC scope cl C X.env) fps) ifs tt)
    (kk_ : ∀ (s : Shared) (H : Hp) (C : Addr) (cl : List (Str × Addr)) (fps : List Addr), PE (X.blk s H scope (compEnvC scope cl C X.env) fps) kx tk)
    (vv_ : ∀ (s : Shared) (H : Hp) (C : Addr) (cl : List (Str × Addr)) (fps : List Addr), PE (X.blk s H scope (compEnvC scope cl C X.env) fps) vx tv) (fold_ : ∀ x, foldedSetIterable iter X.env x = pure x := by intro _; rfl) :
    PE X (.DictComp kx vx [⟨tg, iter, ifs, 0⟩] scope pos) (tDcT wi g tt tk tv (own.map (·.2))) := by
  refine ⟨fun pins s σ H Q I h => ?_⟩; rw [arm_eval_DictComp]
  refine dcT_core unit_ calm nd I it_ bk tg_ ts_ kk_ vv_ fold_ h fun D C s' m H' J' q hn f => ⟨m, hn, fun h'' sb => ?_⟩
  obtain ⟨f0, f1, f2_, f3_, f4, f5⟩ := f
  exact ⟨.ref D, H', J'.turned (t' := s'.toks) (fun b o hb e => (sb.2 b hb).trans e) f0 f1 f3_ f4 f5, rfl, q⟩
end
end MX

set_option Elab.async false
set_option linter.all false
set_option maxRecDepth 100000
set_option maxHeartbeats 4000000
namespace MX
open PySem PySem.Spec PySem.W PySem.Calls PyProof.Rows L2
/-! ### len(o), o of an own class with __len__ -/
section
variable {pg : Program} {w : World} {A : Around} {E : Value → Shared → Prop} {z : Shared} {K : PySem.W.Frag}
theorem len_own {a C g : Addr} {ox : Obj} {od : Option Obj} {Q : Value → Shared → Prop} (X : K.In z.heap) (J : PySem.W.InstAt z.heap a ox C od) (hs : PySem.W.findIn K (.ref C) "__len__" = some (some (.ref g))) (hf : PySem.W.typeIn K (.ref g) = some (.type "function"))
    (h : wpAny (model pg w) A.in1 (call (.ref g) [.ref a]) (fun r z' => ∃ (n : Nat) (t : Tok), r = .int (n : Int) t ∧ n < 2 ^ 62 ∧ Q (.int (n : Int) z'.toks) { z' with toks := z'.toks + 1 }) E z) : wpAny (model pg w) A (call (.builtin "len") [.ref a]) Q E z := by
  have L : Looks (model pg w) z.heap (specialOf (.ref a) "__len__") (some (.ref g)) := (J.type (M := model pg w)).andThen (looks_findIn X hs)
  have B : Looks (model pg w) z.heap (bindSpecial (.ref g) (.ref a)) (.ref g, [.ref a]) := PySem.W.bind_fn X (.ref a) hf
  refine Calls.call_function_entry kind_len plain_len entry_len (args_len1 _) ?_
  unfold Builtin.«len»
  refine wpAny_bind (m := oneArg "len" _) (wpAny_pure ?_)
  refine wpAny_bind (m := callSpecial? (.ref a) (PySem.Str.ofString "__len__")) ?_
  simp only [callSpecial?]
  refine wpAny_bind (L.here (wpAny_holding (wpAny_bind (B.here ?_))))
  show wpAny _ _ (do return some (← call (.ref g) [.ref a])) _ _ _
  refine wpAny_bind (thn h ?_)
  rintro r z' ⟨n, t, rfl, hn, q⟩
  refine wpAny_pure ?_
  refine wpAny_bind (wpAny_holding (wpAny_pure ?_)); refine wpAny_bind (wpAny_letGo ?_)
  show wpAny _ _ (if ((n : Nat) : Int) < 0 then _ else _) _ _ _
  rw [if_neg (by omega)]
  show wpAny _ _ (if ((n : Nat) : Int) ≥ 2 ^ 63 then _ else _) _ _ _
  rw [if_neg (by omega)]
  exact wpAny_bind (wpAny_mkInt (wpAny_pure ⟨_, rfl, q⟩))
end
theorem run_in1 {X : Cx} {CX : CXT} {k : Nat} {f : Addr} {fd : FuncData} {ps : List Str} {sp : Sp} {pins : List (Addr × Obj)} {σ : L2.St} {H : Hp} {s : Shared} {Q : VK} {us : List Value} {vs : List V} (F : FnOk X.prog X.w X.K X.mg X.base CX k f fd ps sp) (hr : Room (k + 1) X.A) (hb : Binds X.K fd ps [])
    (hx : Passes CX X (fun _ _ _ => False)) (I : Inv X pins σ H s) (rv : Vals vs us) (q : sp vs H Q (fun _ _ _ => False)) : wpAny (model X.prog X.w) X.A.in1 (call (.ref f) us) (EP X pins σ Q) X.xe s := by
  have hl : us.length = ps.length := (Vals.length rv).symm.trans (F.len _ _ _ _ q)
  refine wpAny_call (codeAny_mono (F.run X.A.in1 X.stack s H ⟨us, []⟩ _ _ Q _ hr.in1 I.env0.in1 (by simpa using hb s us I.kIn (by simpa using hl)) rv q) ?_)
  rintro (er | fl) s' hq
  · exact hx pins σ H s er s' I hq
  · cases fl with
    | ret u => exact I.after hq
    | cont => exact hq.elim
    | brk => exact hq.elim
    | next => exact hq.elim
def rLenOwn (C : Addr) (sp : Sp) : List V → Hp → VK → Prop := fun xs H Q => ∃ a dx fs, xs = [.ref a] ∧ H a = some (.ins C dx fs) ∧ sp [.ref a] H (fun v H' => ∃ n : Nat, v = .int (n : Int) ∧ n < 2 ^ 62 ∧ Q (.int (n : Int)) H') (fun _ _ _ => False)
theorem call_lenOwn {X : Cx} {CX : CXT} {C g : Addr} {k : Nat} {fd : FuncData} {ps : List Str} {sp : Sp} (hs : PySem.W.findIn X.K (.ref C) "__len__" = some (some (.ref g))) (hf : PySem.W.typeIn X.K (.ref g) = some (.type "function"))
    (F : FnOk X.prog X.w X.K X.mg X.base CX k g fd ps sp) (hr : Room (k + 1) X.A) (hb : Binds X.K fd ps []) (hx : Passes CX X (fun _ _ _ => False)) : CallR X (.builtin "len") (rLenOwn C sp) := by
  intro pins s σ H xs us Q I r h
  obtain ⟨a, dx, fs, rfl, ea, q⟩ := h
  obtain ⟨u, rfl, ru⟩ := vals1 r
  obtain rfl : u = Value.ref a := ru
  obtain ⟨mA, O, _⟩ := ins_get I.hok ea
  obtain ⟨od, J, _⟩ := O.look
  refine len_own I.kIn J hs hf ?_
  refine thn (run_in1 F hr hb hx I (us := [.ref a]) (vs := [.ref a]) (.cons rfl .nil) q) ?_
  rintro r' s' ⟨v', H', J', rv, n, rfl, hn, q'⟩
  obtain ⟨t, rfl⟩ := (show ∃ t, r' = Value.int (n : Int) t from rv)
  exact ⟨n, t, rfl, hn, .int (n : Int), H', J'.tok _, ⟨_, rfl⟩, q'⟩
end MX

set_option Elab.async false
set_option linter.all false
set_option maxRecDepth 100000
set_option maxHeartbeats 4000000
namespace MX
open PySem PySem.Spec PySem.W PySem.Calls PyProof.Rows L2
/-! ### readings of halls, events, timelines, dicts of places -/
structure HI where
  x : Str
  ps : List Str
  ops : Ops
  T : Tm
theorem OpsAt.ext {K : PySem.W.Frag} {H H' : Hp} {o : Addr} {ops : Ops} (h : OpsAt K H o ops) (x : LamX.ExtN H H') : OpsAt K H' o ops := by
  obtain ⟨qs, e, l, f⟩ := h
  exact ⟨qs, x _ _ e (fun _ z => by cases z), l, fun i q op h1 h2 => x _ _ (f i q op h1 h2) (fun _ z => by cases z)⟩
theorem HallAt.ext {K : PySem.W.Frag} {H H' : Hp} {C p : Addr} {x : Str} {pp o d : Addr} {ps : List Str} {ops : Ops} {T : Tm} (h : HallAt K H C p x pp o d ps ops T) (e : LamX.ExtN H H') : HallAt K H' C p x pp o d ps ops T := by
  obtain ⟨dx, e1⟩ := h.ex
  exact ⟨⟨dx, e _ _ e1 (fun _ z => by cases z)⟩, e _ _ h.pe (fun _ z => by cases z), h.op.ext e, e _ _ h.t (fun _ z => by cases z), h.ok⟩
def hR (K : PySem.W.Frag) (C : Addr) (h : HI) : Rd := ⟨fun v H => ∃ p pp o d, v = .ref p ∧ HallAt K H C p h.x pp o d h.ps h.ops h.T, fun v H H' x hh => by
  obtain ⟨p, pp, o, d, e, A⟩ := hh
  exact ⟨p, pp, o, d, e, A.ext x⟩⟩
abbrev Evt := Str × Str
def evR (e : Evt) : Rd := oT [oS e.1, oS e.2]
def ek (e : Evt) : List Key := [Sum.inr e.1, Sum.inr e.2]
def oD (kvs : Tm) : Rd := ⟨fun v H => ∃ d, v = .ref d ∧ H d = some (.dT kvs), fun v H H' x h => by
  obtain ⟨d, e, h⟩ := h
  exact ⟨d, e, x _ _ h (fun _ z => by cases z)⟩⟩
section
variable {ι : Type} {Ev : ι → L2.St → Hp → Prop} {M : ι → List Addr} {X : Cx}
end
/-! ### unpacking, more of bodies -/
section
variable {ι : Type} {P : ι → Prop} {Γ : ι → Gm} {M : ι → List Addr} {X : Cx} {res : ι → Rd} {e : Expr} {rest : List Stmt} {pos : Pos}
end
end MX

set_option Elab.async false
set_option linter.all false
set_option maxRecDepth 100000
set_option maxHeartbeats 4000000
namespace MX
open PySem PySem.Spec PySem.W PySem.Calls PyProof.Rows L2
/-! ### tests -/
section
variable {ι : Type} {P : ι → Prop} {Γ : ι → Gm} {M : ι → List Addr} {X : Cx} {Ev : ι → L2.St → Hp → Prop} {pos : Pos}
variable {res : ι → Rd} {c : Expr} {a rest : List Stmt}
end
section
variable {ι : Type} {P : ι → Prop} {Γ : ι → Gm} {X : Cx}
end
end MX

set_option Elab.async false
set_option linter.all false
set_option maxRecDepth 100000
set_option maxHeartbeats 4000000
namespace MX
open PySem PySem.Spec PySem.W PySem.Calls PyProof.Rows L2
/-! ### for n, x in enumerate(a tuple) -/
def IteP (K : PySem.W.Frag) (a : Addr) (k : Int) : It :=
  ⟨(Itt K a).go, fun i H v H' => ∃ T x, v = .ref T ∧ H T = none ∧ H' = upd H T (.tup [.int (k + (i : Nat)), x]) ∧ ∀ xs, SqT K H a xs → xs[i]? = some x, (Itt K a).stop⟩
theorem turn_enumP {P : Program} {w : World} {K : PySem.W.Frag} {elts : List Expr} {kk : Nat} {tpos : Pos} (a e it : Addr) (k : Int) :
    Turn P w K (.Tuple elts kk tpos) (IteP K a k) [e, it] e (fun i h => (∃ old, IsEnum h e it (k + ((i : Nat) : Int)) old) ∧ h.IsTupleIter it a i ∧ e ≠ it ∧ a ≠ it) where
  mem := List.mem_cons_self
  obj := by
    rintro i h ⟨⟨old, q⟩, ⟨o, ho, hc, hd⟩, _⟩ b hb
    rcases List.mem_cons.mp hb with z | z
    · refine ⟨_, (by rw [z]; exact q), fun v q => ?_⟩
      cases q
    · exact ⟨o, (by rw [List.mem_singleton.mp z]; exact ho), fun v q => by rw [hd] at q; cases q⟩
  keep := by
    rintro i h h' ⟨⟨old, q⟩, hi, n⟩ kp
    exact ⟨⟨old, kp e (by simp) _ q⟩, hi.at (fun o q => kp it (by simp) o q), n⟩
  self := fun A i s Q E st q => let ⟨⟨_, z⟩, _⟩ := st; wpAny_pyIter_enum z q
  done := by
    intro X e1 e2 e3 calm i pins s σ H E I hf st hg
    subst e1 e2 e3
    obtain ⟨⟨old, he⟩, hit, hne, hai⟩ := st
    obtain ⟨xs, hq, hx⟩ := hg
    obtain ⟨its, rv, p0, hz⟩ := I.tuple hq
    have p : s.heap.IsTuple a its.toArray := p0
    have hl := Vals.length rv
    obtain ⟨f0, f1, f2, f3, f4, f5⟩ := hf it (by simp)
    have D := Draws.tuple (prog := X.prog) (w := X.w) (A := X.A.in1) (show X.A.in1.handled = none from I.ok.hd calm) it a hai its.toArray
    have hT : s.TypeIs (.ref e) "enumerate" := ⟨_, he, rfl⟩
    unfold pyNext
    refine wpAny_bind (wpAny_attempt (wpAny_callSpecial?_slot (name := Str.ofString "__next__") hT F.slot_enumerate_next (wpAny_call_entry F.slot_enumerate_next hT F.entry_enumerate_next ?_ (F.args_enumerate_next_1 _))))
    show wpAny _ _ (field (Value.ref e) 2 >>= _) _ _ _
    refine wpAny_bind (wpAny_field he rfl (x := .ref it) rfl (wpAny_bind (wpAny_nextOf_tuple_end (show X.A.in1.handled = none from I.ok.hd calm) hit p (Array.getElem?_eq_none (by simp; omega)) ?_)))
    rintro h' x he' ⟨o, ho, hc⟩
    refine wpAny_bind (wpAny_isInstance (T := "StopIteration") (b := true) ⟨o, ho, hc⟩ isSubtype_stop (wpAny_pure ⟨rfl, ?_⟩))
    exact I.turned (t' := s.toks) (fun b o hb q => he' b o hb q) f0 f1 f3 f4 f5
  item := by
    intro X e1 e2 e3 calm i pins s σ H E I hf st hg
    subst e1 e2 e3
    obtain ⟨⟨old, he⟩, hit, hne, hai⟩ := st
    obtain ⟨xs, x, hq, hx⟩ := hg
    obtain ⟨its, rv, p0, hz⟩ := I.tuple hq
    have p : s.heap.IsTuple a its.toArray := p0
    obtain ⟨u, hu, ru⟩ := Vals.get rv hx
    have le : e < s.heap.objs.size := Heap.lt_size he
    have li : it < s.heap.objs.size := by
      obtain ⟨_, q, _⟩ := hit
      exact Heap.lt_size q
    have D := Draws.tuple (prog := X.prog) (w := X.w) (A := X.A.in1) (show X.A.in1.handled = none from I.ok.hd calm) it a hai its.toArray
    have nel : e ∉ [it, a] := fun hm => by
      rcases List.mem_cons.mp hm with z | z
      · exact hne z
      · have z := List.mem_singleton.mp z
        obtain ⟨o, ho, hc, _⟩ := p
        rw [← z] at ho
        have q := he.symm.trans ho
        have q2 := Option.some.inj q
        rw [← q2] at hc
        have hc2 : Value.type "enumerate" = Value.type "tuple" := hc
        exact absurd hc2 (by decide)
    have hii : i < its.toArray.size := by
      have q := (List.getElem?_eq_some_iff.mp hu).1
      simpa using q
    refine wpAny_pyNext_enum_itemC D he ⟨hit, p⟩ hii hne nel ?_
    intro x' h' tk hP ho hs' hT hsz hk
    have eu : x' = u := by
      have q : its.toArray[i]? = some u := by simpa using hu
      exact Option.some.inj (hP.symm.trans q)
    subst eu
    refine ⟨_, rfl, wpAny_letOwnedTupleGo_enum (s := { s with heap := h', toks := tk + 1 }) ho ?_⟩
    intro h2 he2 sb
    have hT2 : h2.get? s.heap.objs.size = some { cls := .type "tuple", data := .seq #[.int (k + ((i : Nat) : Int)) tk, x'] } := (sb.2 _ (Nat.ne_of_gt le)).trans hT
    have new : ObjOk X.prog X.w (upd H s.heap.objs.size (.tup [.int (k + (i : Nat)), x])) h2 s.heap.objs.size (.tup [.int (k + (i : Nat)), x]) :=
      ⟨(by show 2 ≤ sizeLine; decide), [.int (k + ((i : Nat) : Int)) tk, x'], .cons ⟨tk, rfl⟩ (.cons ru .nil), ⟨_, hT2, rfl, _, rfl⟩⟩
    have J : Inv X pins σ (upd H s.heap.objs.size (.tup [.int (k + (i : Nat)), x])) { s with heap := h2, toks := tk + 1 } :=
      I.turnedNew (ch := [e, it]) (fun b ob hb q => (sb.2 b (fun z => hb (by simp [z]))).trans (hk b ob (fun z => hb (by simp [z])) (fun z => hb (by simp [z])) q)) hf (Nat.le_refl _) new
    refine ⟨.ref s.heap.objs.size, _, J, rfl, ⟨_, x, rfl, I.hok.fresh (Nat.le_refl _), rfl, fun ys hy => by rw [I.tuple_inj hy hq]; exact hx⟩, ⟨⟨x', ?_⟩, hs'.1.at fun o q => (sb.2 it (Ne.symm hne)).trans q, hne, hai⟩, ?_⟩
    · have e1 : k + ((i + 1 : Nat) : Int) = k + (i : Int) + 1 := by omega
      rw [e1]
      exact he2
    · intro b hb
      have hb' : b < s.heap.objs.size := by
        rcases List.mem_cons.mp hb with z | z
        · rw [z]
          exact le
        · rw [List.mem_singleton.mp z]
          exact li
      rw [upd_ne (Nat.ne_of_lt hb')]
      exact (hf b hb).1

theorem meets_enum1 {v : Value} {o : Obj} {H : Heap → Prop} (B : Begins v o H) :
    Meets (Builtin.«enumerate.__new__» ⟨[.type "enumerate", v], []⟩) (fun _ R s => H s.heap ∧
      R (.ok (.ret (.ref (s.heap.push o).objs.size))) { s with heap := (s.heap.push o).push { cls := .type "enumerate", data := .fields #[.none, .bool false, .ref s.heap.objs.size, rawInt 0, .none, .none] } }) :=
  .of_wp fun prog w A R s h => by
    obtain ⟨hp, ge, dr, tk, os⟩ := s; obtain ⟨h1, h⟩ := h
    have hsub := sub_enumerate
    have q1 : ∀ {A' : Around} {E' : Value → Shared → Prop} {Q' : Value → Shared → Prop}, Q' (.ref hp.objs.size) ⟨hp.push o, ge, dr, tk, os⟩ → wpAny (model prog w) A' (pyIter v) Q' E' ⟨hp, ge, dr, tk, os⟩ := fun q => B.iter prog w _ _ ⟨hp, ge, dr, tk, os⟩ _ h1 q
    wp_walk using q1
    refine wpAny_stack_any fun stk => wpAny_pure ?_
    split
    · rename_i c _ _ _ _ _; cases (c == Value.type "enumerate") <;> (wp_walk using q1; exact ⟨_, rfl, h⟩)
    · wp_walk using q1; exact ⟨_, rfl, h⟩
theorem enum_begins1 {prog : Program} {w : World} {A : Around} {E : Value → Shared → Prop} {s : Shared} {v : Value} {o : Obj} {H : Heap → Prop} {Q : Value → Shared → Prop} (B : Begins v o H) (h1 : H s.heap)
    (h : ∀ h', IsEnum h' (s.heap.objs.size + 1) s.heap.objs.size 0 .none → h'.get? s.heap.objs.size = some o → (∀ b u, s.heap.get? b = some u → h'.get? b = some u) → Q (.ref (s.heap.objs.size + 1)) { s with heap := h' }) :
    wpAny (model prog w) A (call (.type "enumerate") [v]) Q E s := by
  refine callType_new F.called_enumerate (by decide) (F.typeCall_enumerate_1 _) (F.newCall_enumerate_1 _) (fun ob => F.args_object_init_2 ob _) F.entry_enumerate_new (meets_enum1 B) ⟨h1, ?_⟩
  have hz : (s.heap.push o).objs.size = s.heap.objs.size + 1 := Heap.size_push ..
  show _ ∧ _; rw [hz]
  have he : IsEnum ((s.heap.push o).push { cls := .type "enumerate", data := .fields #[.none, .bool false, .ref s.heap.objs.size, rawInt 0, .none, .none] }) (s.heap.objs.size + 1) s.heap.objs.size 0 .none := by
    have z := Heap.get?_push_size (s.heap.push o) (o := { cls := .type "enumerate", data := .fields #[.none, .bool false, .ref s.heap.objs.size, rawInt 0, .none, .none] }) rfl
    rw [hz] at z; exact z
  exact ⟨⟨_, he, rfl⟩, h _ he (Heap.get?_push_of_some _ (Heap.get?_push_size _ B.free)) fun b u x => Heap.get?_push_of_some _ (Heap.get?_push_of_some _ x)⟩
def iEnumP (K : PySem.W.Frag) (ta : TA) : TI := fun σ H R => ta σ H fun vs H1 => ∃ a xs, vs = [.ref a] ∧ SqT K H1 a xs ∧ R (IteP K a 0) H1
theorem pi_enumP {X : Cx} {e : Expr} {ta : TA} {p pos tpos : Pos} {elts : List Expr} {kk : Nat} (hg : Gl X "enumerate") (hm : X.mg "enumerate" = none) (ha : PA X [e] ta) (hs : starEach [e] X.env = [(false, eval e X.env)] := by rfl) :
    PI X (.Tuple elts kk tpos) (.Call (.Name "enumerate" p) [e] [] pos) (iEnumP X.K ta) := by
  constructor
  intro pins s σ H R I h
  refine Call_ (ld_blt I hg hm PyProof.Rows.boot_enumerate (PyProof.Rows.callWith_type1 (thn (ha.run pos pins s σ H _ I h) ?_) hs rfl))
  rintro us s2 ⟨vs, H2, I2, r1, a, xs, rfl, hq, q⟩
  cases r1 with
  | cons ra rn =>
    cases rn
    cases ra
    obtain ⟨its, rv, pl0, hz⟩ := I2.tuple hq
    have pl : s2.heap.IsTuple a its.toArray := pl0
    have la : a < s2.heap.objs.size := by
      obtain ⟨o, ho, _⟩ := pl
      exact Heap.lt_size ho
    refine enum_begins1 (begins_tuple a its.toArray) pl ?_
    intro h' hen hit hkp
    refine wpAny_pyIter_enum hen ?_
    have I3 : Inv X pins σ H2 { s2 with heap := h' } := I2.kept (t' := s2.toks) hkp
    refine ⟨s2.heap.objs.size + 1, [s2.heap.objs.size + 1, s2.heap.objs.size], _, _, H2, rfl, I3, turn_enumP a (s2.heap.objs.size + 1) s2.heap.objs.size 0,
      ⟨⟨.none, hen⟩, ⟨_, hit, rfl, rfl⟩, Nat.succ_ne_self _, Nat.ne_of_lt la⟩, ?_, q⟩
    intro b hb
    have hle : s2.heap.objs.size ≤ b := by
      rcases List.mem_cons.mp hb with z | z
      · rw [z]; exact Nat.le_succ _
      · rw [List.mem_singleton.mp z]; exact Nat.le_refl _
    exact I2.fpOk hle (I2.hok.fresh hle)
theorem walk_enumP {K : PySem.W.Frag} {a : Addr} {xs : List V} {k : Int} : Walk (IteP K a k) xs.length (fun H => SqT K H a xs) (YPair (fun i => some (.int (k + (i : Nat)))) (fun i => xs[i]?)) where
  goes := fun i H hi hs => ⟨xs, xs[i], hs, List.getElem?_eq_getElem hi⟩
  stops := fun H hs => ⟨xs, hs, Nat.le_refl _⟩
  yields := fun i H x H' hi hs y => let ⟨T, x', e1, e2, e3, e4⟩ := y; ⟨T, _, x', e1, e2, e3, rfl, e4 xs hs⟩
end MX

set_option Elab.async false
set_option linter.all false
set_option maxRecDepth 100000
set_option maxHeartbeats 4000000
namespace MX
open PySem PySem.Spec PySem.W PySem.Calls PyProof.Rows L2
section
variable {ι : Type} {P : ι → Prop} {Γ : ι → Gm} {M : ι → List Addr} {X : Cx}
end
end MX

set_option Elab.async false
set_option linter.all false
set_option maxRecDepth 100000
set_option maxHeartbeats 4000000
namespace MX
open PySem PySem.Spec PySem.W PySem.Calls PyProof.Rows L2
/-! ### comprehensions with tests, with two sources -/
section
variable {ι α : Type} {Ev : ι → L2.St → Hp → Prop} {M : ι → List Addr} {xs : ι → List α} {r : ι → α → Rd} {K : PySem.W.Frag}
end
section
variable {ι α β : Type} {Ev : ι → L2.St → Hp → Prop} {M : ι → List Addr} {xs : ι → List α} {r : ι → α → Rd} {EvE : ι × α × Addr → L2.St → Hp → Prop}
end
end MX

set_option Elab.async false
set_option linter.all false
set_option maxRecDepth 100000
set_option maxHeartbeats 4000000
namespace MX
open PySem PySem.Spec PySem.W PySem.Calls PyProof.Rows L2
theorem wipe_in {σ : L2.St} {m : Nat} : ∀ {vs : List Nat}, m ∈ vs → m < σ.length → (wipe σ vs)[m]? = some none
  | [], h, _ => by cases h
  | v :: vs, h, l => by
    show ((wipe σ vs).set v none)[m]? = _
    by_cases c : v = m
    · rw [c, List.getElem?_set_self (by rw [wipe_length]; exact l)]
    · rw [List.getElem?_set_ne c]
      exact wipe_in ((List.mem_cons.mp h).resolve_left (fun z => c z.symm)) l
theorem wipe_eq {σ τ : L2.St} {vs : List Nat} (l : τ.length = σ.length) (h : ∀ m, m ∉ vs → τ[m]? = σ[m]?) : wipe τ vs = wipe σ vs := by
  apply List.ext_getElem?
  intro m
  by_cases c : m ∈ vs
  · by_cases z : m < σ.length
    · rw [wipe_in c z, wipe_in c (by rw [l]; exact z)]
    · rw [List.getElem?_eq_none (by rw [wipe_length]; omega), List.getElem?_eq_none (by rw [wipe_length]; omega)]
  · rw [wipe_out c, wipe_out c]
    exact h m c
section
variable {ι α : Type} {P : ι → Prop} {Γ : ι → Gm} {xs : ι → List α}
end
section
variable {ι α : Type} {Ev : ι → L2.St → Hp → Prop} {M : ι → List Addr} {xs : ι → List α} {r : ι → α → Rd} {X : Cx}
theorem walk_rt {K : PySem.W.Frag} {a : Addr} {vs : List V} : Walk (RT.ItvT K a vs.length) vs.length (fun H => SqT K H a vs) (fun i H x H' => H' = H ∧ vs[vs.length - 1 - i]? = some x) :=
  ⟨fun i _ hi q => ⟨hi, vs, vs[vs.length - 1 - i]'(by omega), q, by simp [show vs.length - 1 - i < vs.length by omega]⟩, fun _ _ => Nat.le_refl _, fun _ _ _ _ _ q y => ⟨y.1, y.2 vs q⟩⟩
end
section
variable {ι α β : Type} {P : ι → Prop} {Γ : ι → Gm} {M : ι → List Addr} {xs : ι → List α} {r res : ι → α → Rd} {b : ι → α → Bool} {Γ' : ι × α × Addr → Gm} {X : Cx} {elt tg iter c : Expr} {scope : Scope} {own : List (Str × Nat)} {pos spos py : Pos} {wi : TI} {g : TG} {rs : ι → Rd} {rest : List Stmt} {y : Str} {k : Nat}
end
end MX

set_option Elab.async false
set_option linter.all false
set_option maxRecDepth 100000
set_option maxHeartbeats 4000000
namespace MX
open PySem PySem.Spec PySem.W PySem.Calls PyProof.Rows L2
section
variable {ι : Type} {P : ι → Prop} {Γ : ι → Gm} {M : ι → List Addr} {X : Cx} {Ev : ι → L2.St → Hp → Prop} {pos : Pos}
end
end MX

set_option Elab.async false
set_option linter.all false
set_option maxRecDepth 100000
set_option maxHeartbeats 4000000
namespace MX
open PySem PySem.Spec PySem.W PySem.Calls PyProof.Rows L2
section
variable {ι : Type} {P : ι → Prop} {Γ : ι → Gm} {M : ι → List Addr} {X : Cx} {Ev : ι → L2.St → Hp → Prop} {pos : Pos}
end
end MX

set_option Elab.async false
set_option linter.all false
set_option maxRecDepth 100000
set_option maxHeartbeats 4000000
namespace MX
open PySem PySem.Spec PySem.W PySem.Calls PyProof.Rows L2
/-! ### sorted of a list of pairs of texts -/
def ekc (e : Evt) : List (Int ⊕ List Nat) := [Sum.inr e.1.cps.toList, Sum.inr e.2.cps.toList]
theorem str_cps {x y : Str} (h : x.cps.toList = y.cps.toList) : x = y := by
  have h : x.cps = y.cps := Array.toList_inj.mp h
  cases x; cases y
  simp only [Str.mk.injEq]
  exact h
theorem ekc_inj {e f : Evt} (h : ekc e = ekc f) : e = f := by
  unfold ekc at h
  injection h with h1 h2
  injection h2 with h2 _
  exact Prod.ext (str_cps (Sum.inr.inj h1)) (str_cps (Sum.inr.inj h2))
def evLt (e f : Evt) : Bool := lexLt itemOrd (ekc e) (ekc f)
def Sd (l : List Evt) : Prop := l.Pairwise fun e f => evLt f e = false
theorem sd_unique : ∀ {l m : List Evt}, l.Perm m → Sd l → Sd m → l = m
  | [], m, p, _, _ => (p.symm.eq_nil).symm
  | x :: l, [], p, _, _ => absurd p.length_eq (by simp)
  | x :: l, y :: m, p, h1, h2 => by
    have a1 := List.pairwise_cons.mp h1
    have a2 := List.pairwise_cons.mp h2
    have e : x = y := by
      rcases List.mem_cons.mp (p.mem_iff.mp List.mem_cons_self) with c | c
      · exact c
      rcases List.mem_cons.mp (p.symm.mem_iff.mp List.mem_cons_self) with d | d
      · exact d.symm
      exact ekc_inj (lex_total (O := itemOrd) _ _ (a2.1 x c) (a1.1 y d))
    subst e
    rw [sd_unique (List.Perm.cons_inv p) a1.2 a2.2]
open Classical in
noncomputable def srtE (es : List Evt) : List Evt := if h : ∃ l : List Evt, l.Perm es ∧ Sd l then h.choose else []
theorem srtE_eq {l es : List Evt} (p : l.Perm es) (s : Sd l) : srtE es = l := by
  have h : ∃ l : List Evt, l.Perm es ∧ Sd l := ⟨l, p, s⟩
  unfold srtE
  rw [dif_pos h]
  exact sd_unique (h.choose_spec.1.trans p.symm) h.choose_spec.2 s
/-- what a value is, read off the heap -/
def evtOf (H : Hp) : Value → Evt
  | .ref t => match H t with
    | some (.tup [.str a, .str b]) => (a, b)
    | _ => ("", "")
  | _ => ("", "")
theorem evtOf_at {H : Hp} {t : Addr} {e : Evt} (h : H t = some (.tup [V.str e.1, V.str e.2])) : evtOf H (.ref t) = e := by
  unfold evtOf
  simp only [h]
theorem evR_iff {H : Hp} {v : V} {e : Evt} : (evR e).R v H ↔ ∃ t, v = .ref t ∧ H t = some (.tup [V.str e.1, V.str e.2]) := by
  constructor
  · rintro ⟨a, vs, e1, h1, h2⟩
    have e2 : vs = [V.str e.1, V.str e.2] := all_oS (xs := [e.1, e.2]).mp h2
    exact ⟨a, e1, e2 ▸ h1⟩
  · rintro ⟨a, e1, h1⟩
    exact ⟨a, _, e1, h1, all_oS (xs := [e.1, e.2]).mpr rfl⟩
theorem evs_at {H : Hp} : ∀ {es : List Evt} {xs : List V} {us : List Value}, Vals xs us → All2 (es.map evR) xs H → (∀ u ∈ us, ∃ t, u = Value.ref t ∧ H t = some (.tup [V.str (evtOf H u).1, V.str (evtOf H u).2])) ∧ us.map (evtOf H) = es
  | [], [], _, .nil, _ => ⟨fun u h => (by cases h), rfl⟩
  | e :: es, x :: xs, u :: us, .cons r t, h => by
    obtain ⟨a, ex, ha⟩ := evR_iff.mp h.1
    subst ex
    cases r
    obtain ⟨h1, h2⟩ := evs_at t h.2
    have z := evtOf_at ha
    refine ⟨fun u hu => ?_, by rw [List.map_cons, z, h2]⟩
    rcases List.mem_cons.mp hu with hu | hu
    · rw [hu, z]
      exact ⟨a, rfl, ha⟩
    · exact h1 u hu
  | [], _ :: _, _, .cons _ _, h => h.elim
theorem evs_back {H : Hp} : ∀ {us : List Value}, (∀ u ∈ us, ∃ t, u = Value.ref t ∧ H t = some (.tup [V.str (evtOf H u).1, V.str (evtOf H u).2])) → All2 ((us.map (evtOf H)).map evR) (us.map bkV) H
  | [], _ => trivial
  | u :: us, h => ⟨by
      obtain ⟨t, e, ht⟩ := h u List.mem_cons_self
      exact evR_iff.mpr ⟨t, by rw [e]; rfl, ht⟩, evs_back fun u hu => h u (List.mem_cons_of_mem _ hu)⟩
theorem vals2 {a b : Str} {its : List Value} (r : Vals [V.str a, V.str b] its) : ∃ t u, its = [Value.str a t, Value.str b u] := by
  cases r with
  | cons r1 r2 =>
    cases r2 with
    | cons r3 r4 =>
      cases r4
      obtain ⟨t, e1⟩ := r1
      obtain ⟨u, e2⟩ := r3
      exact ⟨t, u, by rw [e1, e2]⟩
section
variable {X : Cx}
abbrev shS : Nat → Bool := fun _ => true
theorem tup_raw {pins : List (Addr × Obj)} {σ : L2.St} {H : Hp} {s : Shared} (I : Inv X pins σ H s) {t : Addr} {a b : Str} (h : H t = some (.tup [V.str a, V.str b])) : ∃ o u1 u2 n, s.heap.get? t = some o ∧ o.cls = .type "tuple" ∧ o.data = .seq #[Value.str a u1, Value.str b u2] n := by
  obtain ⟨its, rv, ⟨o, ho, hc, n, hd⟩, _⟩ := I.tuple (SqT.of h)
  obtain ⟨u1, u2, e⟩ := vals2 rv
  subst e
  exact ⟨o, u1, u2, n, ho, hc, hd⟩
theorem key_raw {h : Heap} {t : Addr} {o : Obj} {a b : Str} {u1 u2 : Tok} {n : Nat} (ho : h.get? t = some o) (hc : o.cls = .type "tuple") (hd : o.data = .seq #[Value.str a u1, Value.str b u2] n) : G.tupKeyC h shS (.ref t) = some (ekc (a, b)) := by
  have e1 : G.isTupObj h (.ref t) = true := by
    unfold G.isTupObj
    simp only [ho, hc]
    decide
  unfold G.tupKeyC
  rw [if_pos e1]
  unfold tupKey
  simp only [ho, hd]
  simp [tupItems, ekc]
theorem tups_raw {h : Heap} : ∀ {us : List Value}, (∀ u ∈ us, ∃ t o a b u1 u2 n, u = Value.ref t ∧ h.get? t = some o ∧ o.cls = .type "tuple" ∧ o.data = .seq #[Value.str a u1, Value.str b u2] n) → ∃ fs, TupsOf h shS us fs
  | [], _ => ⟨[], .nil⟩
  | u :: us, k => by
    obtain ⟨fs, r⟩ := tups_raw fun u hu => k u (List.mem_cons_of_mem _ hu)
    obtain ⟨t, o, a, b, u1, u2, n, e, ho, hc, hd⟩ := k u List.mem_cons_self
    exact ⟨Value.str a u1 :: fs, .cons ⟨t, o, _, n, e, ho, hc, hd, rfl, fun z => (nomatch z), fun _ => ⟨a, u1, rfl⟩⟩ r⟩
def rSortE (K : PySem.W.Frag) : List V → Hp → VK → Prop := fun vs H Q => ∃ (a : Addr) (xs : List V) (es : List Evt), vs = [V.ref a] ∧ SqL K H a xs ∧ ∃ D : Hp, Same D H ∧ All2 (es.map evR) xs D ∧ ∀ p ys, H p = none → All2 ((srtE es).map evR) ys D → Q (.ref p) (upd H p (.lst ys))
theorem cr_sortE : CallR X (.builtin "sorted") (rSortE X.K) := by
  intro pins s σ H vs us Q I r h
  obtain ⟨a, xs, es, rfl, hs, D, sD, al, q⟩ := h
  obtain ⟨its, rv, hl, hz⟩ := I.list hs
  rw [Vals.ref1 r]
  obtain ⟨e1, e2⟩ := evs_at rv al
  have raw : ∀ u ∈ its, ∃ t o a b u1 u2 n, u = Value.ref t ∧ s.heap.get? t = some o ∧ o.cls = .type "tuple" ∧ o.data = .seq #[Value.str a u1, Value.str b u2] n := fun u hu => by
    obtain ⟨t, e, ht⟩ := e1 u hu
    obtain ⟨o, u1, u2, n, ho, hc, hd⟩ := tup_raw I (sD _ _ ht)
    exact ⟨t, o, _, _, u1, u2, n, e, ho, hc, hd⟩
  have key : ∀ u ∈ its, G.tupKeyC s.heap shS u = some (ekc (evtOf D u)) := fun u hu => by
    obtain ⟨t, e, ht⟩ := e1 u hu
    obtain ⟨o, u1, u2, n, ho, hc, hd⟩ := tup_raw I (sD _ _ ht)
    have z := key_raw ho hc hd
    rw [← e] at z
    exact z
  obtain ⟨fs, ht⟩ := tups_raw raw
  refine G.sorted_tups (shape := shS) hl.isList ht (fun u hu => ⟨_, key u hu⟩) (by rw [← rv.length]; exact hz) fun st' hp hst _ => ?_
  have hl' : (arrOf st').toList.Perm (its.zip its) := by rw [← pairsOf_toList]; exact Array.perm_iff_toList_perm.mp hp
  have hmem : ∀ p, p ∈ (arrOf st').toList → p.1 = p.2 ∧ p.1 ∈ its := fun p hp' => mem_zip_self (hl'.mem_iff.mp hp')
  have eout : ((arrOf st').map (·.2)).toList = (arrOf st').toList.map (·.1) := by
    rw [Array.toList_map]
    exact List.map_congr_left fun p hp' => (hmem p hp').1.symm
  have pout : ((arrOf st').map (·.2)).toList.Perm its := by
    rw [eout]
    have z := hl'.map (·.1)
    rw [List.map_fst_zip (Nat.le_refl _)] at z
    exact z
  have sd : Sd (((arrOf st').map (·.2)).toList.map (evtOf D)) := by
    rw [eout, List.map_map]
    have hk0 : KeysOf (G.tupKindC s.heap shS) (arrOf st') := fun p hp' => ⟨_, key _ (hmem p hp').2⟩
    have z := keyLe_of_sorted hk0 (by rw [hp.size_eq]; exact hst)
    unfold Sd
    rw [List.pairwise_map]
    refine z.imp_of_mem fun {p} {q} hp1 hq1 ⟨k1, k2, h1, h2, h3⟩ => ?_
    have w1 : some (ekc (evtOf D p.1)) = some k1 := (key _ (hmem p hp1).2).symm.trans h1
    have w2 : some (ekc (evtOf D q.1)) = some k2 := (key _ (hmem q hq1).2).symm.trans h2
    cases w1
    cases w2
    exact h3
  have e3 : srtE es = ((arrOf st').map (·.2)).toList.map (evtOf D) := srtE_eq (by rw [← e2]; exact pout.map _) sd
  obtain ⟨ep, he'⟩ := PyProof.Rows.sortedAll_at s.heap its ((arrOf st').map (·.2))
  have e4 : ∀ u ∈ ((arrOf st').map (·.2)).toList, ∃ t, u = Value.ref t ∧ D t = some (.tup [V.str (evtOf D u).1, V.str (evtOf D u).2]) := fun u hu => e1 u (pout.mem_iff.mp hu)
  have hlen : (((arrOf st').map (·.2)).toList.map bkV).length ≤ sizeLine := by
    rw [List.length_map, pout.length_eq, ← rv.length]
    exact hz
  refine ⟨.ref _, upd H (s.heap.objs.size + 1) (.lst (((arrOf st').map (·.2)).toList.map bkV)), I.laid (t' := s.toks) (fun _ _ => PyProof.Rows.sortedAll_old) (Nat.le_succ _) ⟨hlen, ((arrOf st').map (·.2)).toList, ep, bkV_vals (fun u hu => ⟨_, (e4 u hu).choose_spec.1⟩), he'⟩, rfl, q _ _ (I.hok.fresh (Nat.le_succ _)) ?_⟩
  rw [e3]
  exact evs_back e4
end
section
variable {ι : Type} {Ev : ι → L2.St → Hp → Prop} {M : ι → List Addr} {X : Cx}
end
end MX

set_option Elab.async false
set_option linter.all false
set_option maxRecDepth 100000
set_option maxHeartbeats 4000000
namespace MX
open PySem PySem.Spec PySem.W PySem.Calls PyProof.Rows L2
/-! ### tuples of the heap or of the program -/
theorem SqT.extN {K : PySem.W.Frag} {H H' : Hp} {a : Addr} {vs : List V} (x : LamX.ExtN H H') (h : SqT K H a vs) : SqT K H' a vs := by
  rcases h with (h | ⟨o, h⟩) | h
  · exact .inl (.inl (x _ _ h fun _ z => by cases z))
  · exact .inl (.inr ⟨o, x _ _ h fun _ z => by cases z⟩)
  · exact .inr h
theorem SqT.unmsk {K : PySem.W.Frag} {M : List Addr} {H : Hp} {a : Addr} {vs : List V} (h : SqT K (msk M H) a vs) : SqT K H a vs := SqT.extN (LamX.ExtN.of msk_sub) h
theorem tyx_tup {K : PySem.W.Frag} {H : Hp} {a : Addr} {vs : List V} (h : SqT K H a vs) : TyX K H (.ref a) (.type "tuple") := by
  rcases h with (h | ⟨o, h⟩) | ⟨o, its, n, h, c, _⟩
  · exact .base (.tup h)
  · exact .fTuple h
  · exact .kTuple h c
section
variable {ι : Type} {Ev : ι → L2.St → Hp → Prop} {M : ι → List Addr} {X : Cx}
end
section
variable {ι α : Type} {Ev : ι → L2.St → Hp → Prop} {M : ι → List Addr} {xs : ι → List α} {r : ι → α → Rd} {X : Cx} {K : PySem.W.Frag}
end
end MX

set_option Elab.async false
set_option linter.all false
set_option maxRecDepth 100000
set_option maxHeartbeats 4000000
namespace MX
open PySem PySem.Spec PySem.W PySem.Calls PyProof.Rows L2
/-! ### for n, c in enumerate(a text) -/
end MX

set_option Elab.async false
set_option linter.all false
set_option maxRecDepth 100000
set_option maxHeartbeats 4000000
namespace MX
open PySem PySem.Spec PySem.W PySem.Calls PyProof.Rows L2
/-! ### text[::-1] -/
end MX

set_option Elab.async false
set_option linter.all false
set_option maxRecDepth 100000
set_option maxHeartbeats 4000000
namespace MX
open PySem PySem.Spec PySem.W PySem.Calls PyProof.Rows L2
/-! ### typed loops, lists that grow -/
/-! growing -/
section
variable {ι : Type} {Ev : ι → L2.St → Hp → Prop} {M : ι → List Addr} {X : Cx} {e : Expr} {pos apos pos' : Pos} {y : Str} {py : Pos}
end
section
variable {ι α : Type} {P : ι → Prop} {Γ Γ0 : ι → Gm} {M : ι → List Addr} {X : Cx} {res : ι → Rd} {rest body : List Stmt} {pos pos' : Pos} {e c tg iter : Expr} {a : List Stmt} {r : ι → Rd}
/-! growing -/
end
end MX

set_option Elab.async false
set_option linter.all false
set_option maxRecDepth 100000
set_option maxHeartbeats 4000000
namespace MX
open PySem PySem.Spec PySem.W PySem.Calls PyProof.Rows L2
/-! ### readings that tell data -/
def IsQ (r : Rd) (d : PyData) : Prop := ∀ v H, r.R v H → Dq H v d
def IsD (r : Rd) (d : PyData) : Prop := ∀ K v H, r.R v H → Dp K H v d
def evD (e : Evt) : PyData := .tuple [.str e.1, .str e.2]
theorem IsD.msk {r : Rd} {d : PyData} (h : IsD r d) {K : PySem.W.Frag} {M : List Addr} {v : V} {H : Hp} (q : r.R v (msk M H)) : Dp K H v d := h K v H (r.st _ _ _ (LamX.ExtN.of msk_sub) q)
theorem IsQ.msk {r : Rd} {d : PyData} (h : IsQ r d) {M : List Addr} {v : V} {H : Hp} (q : r.R v (msk M H)) : Dq H v d := h v H (r.st _ _ _ (LamX.ExtN.of msk_sub) q)
section
variable {ι : Type} {Ev : ι → L2.St → Hp → Prop} {M : ι → List Addr} {X : Cx} {a b e : Expr} {pos p : Pos}
end
/-! enumerate(a text) -/
section
variable {ι : Type} {Ev : ι → L2.St → Hp → Prop} {M : ι → List Addr}
end
end MX

set_option Elab.async false
set_option linter.all false
set_option maxRecDepth 100000
set_option maxHeartbeats 4000000
namespace MX
open PySem PySem.Spec PySem.W PySem.Calls PyProof.Rows L2
/-! ### halls and books made as values -/
section
variable {ι : Type} {Ev : ι → L2.St → Hp → Prop} {X : Cx} {e : Expr} {pos p : Pos} {x : Str}
end
end MX

set_option Elab.async false
set_option linter.all false
set_option maxRecDepth 100000
set_option maxHeartbeats 4000000
namespace MX
open PySem PySem.Spec PySem.W PySem.Calls PyProof.Rows L2
section
variable {ι : Type} {P : ι → Prop} {Γ : ι → Gm} {M : ι → List Addr} {X : Cx}
end
end MX

set_option Elab.async false
set_option linter.all false
set_option maxRecDepth 100000
set_option maxHeartbeats 4000000
namespace QX
open PySem PySem.Spec PySem.W PySem.Calls PyProof.Rows L2 MX
/-! ### values told as trees -/
inductive PV where
  | non | bl (b : Bool) | int (i : Int) | str (x : Str)
  | tup (f : Bool) (xs : List PV) | lst (xs : List PV)
  | dct (ks vs : List PV)
  | obj (c : Str) (ns : List Str) (vs : List PV)
  | exc (c : Str) (v : PV)
  | fn (i : Nat) (q : Str) (o : Addr → Addr → HO)
/-- where classes stand -/
structure CA where
  f : Str → Addr
  T : List (Addr × Str)
instance : CoeFun CA (fun _ => Str → Addr) := ⟨CA.f⟩
instance : Coe (Str → Addr) CA := ⟨fun f => ⟨f, []⟩⟩
structure Kx where
  K : PySem.W.Frag
  cA : CA
def keyOf : PV → Option Key
  | .int i => some (.inl i)
  | .str x => some (.inr x)
  | _ => none
def keysOf : List PV → Option (List Key)
  | [] => some []
  | k :: ks => match keyOf k, keysOf ks with
    | some a, some b => some (a :: b)
    | _, _ => none
/-- the keys of a dict that has any -/
def fkeys : List PV → Option (List Key)
  | [] => none
  | k :: ks => keysOf (k :: ks)
def tkeyOf : PV → Option (List Key)
  | .tup false xs => keysOf xs
  | _ => none
/-- what a dict is asked for, or told by: a tuple that is not empty -/
def tkeyK : PV → Option (List Key)
  | .tup false (x :: xs) => keysOf (x :: xs)
  | _ => none
def tkeysOf : List PV → Option (List (List Key))
  | [] => some []
  | k :: ks => match tkeyOf k, tkeysOf ks with
    | some a, some b => some (a :: b)
    | _, _ => none
def excO (κ : Kx) (a : Addr) (c : Str) (d : Addr) : HO := exk a (.ref (κ.cA c)) (some d)
/-- a tuple that stood at first -/
def FzT (K : PySem.W.Frag) (a : Addr) (vs : List V) : Prop := ∃ (o : Obj) (its : Array Value) (n : Nat), K.lookup a = some o ∧ o.cls = .type "tuple" ∧ o.data = .seq its n ∧ its.size ≤ sizeLine ∧ Vals vs its.toList
/-- a tuple: as it is tracked, or stood at first (false), or told with its object (true) -/
def TupO (K : PySem.W.Frag) (f : Bool) (H : Hp) (a : Addr) (vs : List V) : Prop := match f with
  | false => H a = some (.tup vs) ∨ (vs = [] ∧ FzT K a vs)
  | true => ∃ o, H a = some (.frz o (.tup vs)) ∧ o.dict = none
theorem TupO.sq {K : PySem.W.Frag} {f : Bool} {H : Hp} {a : Addr} {vs : List V} (h : TupO K f H a vs) : SqT K H a vs := by
  cases f with
  | false => exact h.elim (fun h => SqT.of h) fun h => .inr h.2
  | true =>
    obtain ⟨o, h, _⟩ := h
    exact .inl (.inr ⟨o, h⟩)
theorem TupO.extN {K : PySem.W.Frag} {f : Bool} {H H' : Hp} {a : Addr} {vs : List V} (x : LamX.ExtN H H') (h : TupO K f H a vs) : TupO K f H' a vs := by
  cases f with
  | false => exact h.elim (fun h => .inl (x _ _ h (fun _ z => by cases z))) .inr
  | true =>
    obtain ⟨o, h, d⟩ := h
    exact ⟨o, x _ _ h (fun _ z => by cases z), d⟩
theorem TupO.unmsk {K : PySem.W.Frag} {f : Bool} {M : List Addr} {H : Hp} {a : Addr} {vs : List V} (h : TupO K f (msk M H) a vs) : TupO K f H a vs := h.extN (LamX.ExtN.of msk_sub)
mutual
def Rp (κ : Kx) : PV → V → Hp → Prop
  | .non, v, _ => v = .non
  | .bl b, v, _ => v = .bl b
  | .int i, v, _ => v = .int i
  | .str x, v, _ => v = .str x
  | .tup f xs, v, H => ∃ a vs, v = .ref a ∧ TupO κ.K f H a vs ∧ RpA κ xs vs H
  | .lst xs, v, H => ∃ a vs, v = .ref a ∧ H a = some (.lst vs) ∧ RpA κ xs vs H
  | .dct ks ws, v, H => ∃ a us, v = .ref a ∧ ((∃ kk, fkeys ks = some kk ∧ H a = some (.dK (kk.zip us))) ∨ (∃ kk, tkeysOf ks = some kk ∧ H a = some (.dT (kk.zip us)))) ∧ ks.length = us.length ∧ RpA κ ws us H
  | .obj c ns ws, v, H => ∃ a dx us, v = .ref a ∧ H a = some (.ins (κ.cA c) dx (ns.zip us)) ∧ ns.length = us.length ∧ RpA κ ws us H
  | .exc c w, v, H => ∃ a d u, v = .ref a ∧ H a = some (excO κ a c d) ∧ H d = some (.xd [("value", u)]) ∧ Rp κ w u H
  | .fn _ q o, v, H => ∃ a c, v = .ref a ∧ H a = some (o a c) ∧ H c = some (LamX.CodeO c q) ∧ ∀ ps, o a c ≠ .tbl ps
def RpA (κ : Kx) : List PV → List V → Hp → Prop
  | [], [], _ => True
  | x :: xs, v :: vs, H => Rp κ x v H ∧ RpA κ xs vs H
  | _, _, _ => False
end
mutual
theorem Rp.st {κ : Kx} {H H' : Hp} (x : LamX.ExtN H H') : ∀ {p : PV} {v : V}, Rp κ p v H → Rp κ p v H'
  | .non, v, h => by unfold Rp at h ⊢; exact h
  | .bl b, v, h => by unfold Rp at h ⊢; exact h
  | .int i, v, h => by unfold Rp at h ⊢; exact h
  | .str y, v, h => by unfold Rp at h ⊢; exact h
  | .tup f xs, v, h => by
    unfold Rp at h ⊢
    obtain ⟨a, vs, e, h1, h2⟩ := h
    exact ⟨a, vs, e, h1.extN x, RpA.st x h2⟩
  | .lst xs, v, h => by
    unfold Rp at h ⊢
    obtain ⟨a, vs, e, h1, h2⟩ := h
    exact ⟨a, vs, e, x _ _ h1 (fun _ z => by cases z), RpA.st x h2⟩
  | .dct ks ws, v, h => by
    unfold Rp at h ⊢
    obtain ⟨a, us, e, h1, l, h2⟩ := h
    refine ⟨a, us, e, ?_, l, RpA.st x h2⟩
    rcases h1 with ⟨kk, e1, e2⟩ | ⟨kk, e1, e2⟩
    · exact .inl ⟨kk, e1, x _ _ e2 (fun _ z => by cases z)⟩
    · exact .inr ⟨kk, e1, x _ _ e2 (fun _ z => by cases z)⟩
  | .obj c ns ws, v, h => by
    unfold Rp at h ⊢
    obtain ⟨a, dx, us, e, h1, l, h2⟩ := h
    exact ⟨a, dx, us, e, x _ _ h1 (fun _ z => by cases z), l, RpA.st x h2⟩
  | .exc c w, v, h => by
    unfold Rp at h ⊢
    obtain ⟨a, d, u, e, h1, h2, h3⟩ := h
    exact ⟨a, d, u, e, x _ _ h1 (fun _ z => by cases z), x _ _ h2 (fun _ z => by cases z), Rp.st x h3⟩
  | .fn i q o, v, h => by
    unfold Rp at h ⊢
    obtain ⟨a, c, e, h1, h2, h3⟩ := h
    exact ⟨a, c, e, x _ _ h1 h3, x _ _ h2 (fun _ z => by cases z), h3⟩
theorem RpA.st {κ : Kx} {H H' : Hp} (x : LamX.ExtN H H') : ∀ {ps : List PV} {vs : List V}, RpA κ ps vs H → RpA κ ps vs H'
  | [], [], h => by unfold RpA at h ⊢; trivial
  | p :: ps, v :: vs, h => by
    unfold RpA at h ⊢
    exact ⟨Rp.st x h.1, RpA.st x h.2⟩
  | [], _ :: _, h => by unfold RpA at h; exact h.elim
  | _ :: _, [], h => by unfold RpA at h; exact h.elim
end
def rd (κ : Kx) (p : PV) : MX.Rd := ⟨Rp κ p, fun _ _ _ x h => Rp.st x h⟩
theorem rpA_iff {κ : Kx} {H : Hp} : ∀ {ps : List PV} {vs : List V}, RpA κ ps vs H ↔ All2 (ps.map (rd κ)) vs H
  | [], [] => by simp [RpA, All2]
  | p :: ps, v :: vs => by
    unfold RpA
    show _ ↔ (Rp κ p v H ∧ All2 (ps.map (rd κ)) vs H)
    rw [rpA_iff (ps := ps) (vs := vs)]
  | [], _ :: _ => by simp [RpA, All2]
  | _ :: _, [] => by simp [RpA, All2]
theorem RpA.len {κ : Kx} {H : Hp} {ps : List PV} {vs : List V} (h : RpA κ ps vs H) : vs.length = ps.length := by
  have := (rpA_iff.mp h).len
  rw [List.length_map] at this
  exact this
theorem RpA.app {κ : Kx} {H : Hp} {ps qs : List PV} {vs us : List V} (h : RpA κ ps vs H) (g : RpA κ qs us H) : RpA κ (ps ++ qs) (vs ++ us) H := by
  rw [rpA_iff, List.map_append]
  exact (rpA_iff.mp h).app (rpA_iff.mp g)
theorem RpA.take {κ : Kx} {H : Hp} {ps : List PV} {vs : List V} (k : Nat) (h : RpA κ ps vs H) : RpA κ (ps.take k) (vs.take k) H := by
  rw [rpA_iff, List.map_take]
  exact (rpA_iff.mp h).take k
theorem RpA.drop {κ : Kx} {H : Hp} {ps : List PV} {vs : List V} (k : Nat) (h : RpA κ ps vs H) : RpA κ (ps.drop k) (vs.drop k) H := by
  rw [rpA_iff, List.map_drop]
  exact (rpA_iff.mp h).drop k
theorem RpA.at {κ : Kx} {H : Hp} {ps : List PV} {vs : List V} {k : Nat} {x : V} (h : RpA κ ps vs H) (e : vs[k]? = some x) : ∃ p, ps[k]? = some p ∧ Rp κ p x H := by
  obtain ⟨r, hr, hx⟩ := (rpA_iff.mp h).at e
  rw [List.getElem?_map] at hr
  obtain ⟨p, hp, rfl⟩ := Option.map_eq_some_iff.mp hr
  exact ⟨p, hp, hx⟩
theorem RpA.get {κ : Kx} {H : Hp} {ps : List PV} {vs : List V} {k : Nat} {p : PV} (h : RpA κ ps vs H) (e : ps[k]? = some p) : ∃ x, vs[k]? = some x ∧ Rp κ p x H := by
  obtain ⟨x, hx, r⟩ := (rpA_iff.mp h).get (k := k) (r := rd κ p) (by rw [List.getElem?_map, e]; rfl)
  exact ⟨x, hx, r⟩
theorem rpA_nil {κ : Kx} {H : Hp} : RpA κ [] [] H := by unfold RpA; trivial
theorem rpA_cons {κ : Kx} {H : Hp} {p : PV} {ps : List PV} {v : V} {vs : List V} : RpA κ (p :: ps) (v :: vs) H ↔ Rp κ p v H ∧ RpA κ ps vs H := by
  conv => lhs; unfold RpA
theorem rp_int {κ : Kx} {H : Hp} {i : Int} {v : V} : Rp κ (.int i) v H ↔ v = .int i := by unfold Rp; exact Iff.rfl
theorem rp_bl {κ : Kx} {H : Hp} {i : Bool} {v : V} : Rp κ (.bl i) v H ↔ v = .bl i := by unfold Rp; exact Iff.rfl
theorem rp_str {κ : Kx} {H : Hp} {i : Str} {v : V} : Rp κ (.str i) v H ↔ v = .str i := by unfold Rp; exact Iff.rfl
theorem rp_non {κ : Kx} {H : Hp} {v : V} : Rp κ .non v H ↔ v = .non := by unfold Rp; exact Iff.rfl
theorem rp_tup {κ : Kx} {H : Hp} {f : Bool} {xs : List PV} {v : V} : Rp κ (.tup f xs) v H ↔ ∃ a vs, v = .ref a ∧ TupO κ.K f H a vs ∧ RpA κ xs vs H := by
  conv => lhs; unfold Rp
theorem rp_lst {κ : Kx} {H : Hp} {xs : List PV} {v : V} : Rp κ (.lst xs) v H ↔ ∃ a vs, v = .ref a ∧ H a = some (.lst vs) ∧ RpA κ xs vs H := by
  conv => lhs; unfold Rp
/-! ### slots -/
inductive SV where
  | un | va (v : PV) | ow (io : Bool) (v : PV)
abbrev En := List SV
/-- what an owned thing holds -/
def OwR (κ : Kx) : PV → Addr → Hp → Hp → Prop
  | .lst xs, a, H, Hm => ∃ vs, H a = some (.lst vs) ∧ RpA κ xs vs Hm
  | .dct ks ws, a, H, Hm => ∃ us, ((∃ kk, fkeys ks = some kk ∧ H a = some (.dK (kk.zip us))) ∨ (∃ kk, tkeysOf ks = some kk ∧ H a = some (.dT (kk.zip us)))) ∧ ks.length = us.length ∧ RpA κ ws us Hm
  | _, _, _, _ => False
theorem OwR.some {κ : Kx} {p : PV} {a : Addr} {H Hm : Hp} (h : OwR κ p a H Hm) : H a ≠ none := by
  cases p <;> try exact h.elim
  · obtain ⟨vs, e, _⟩ := h
    rw [e]; exact fun z => by cases z
  · obtain ⟨us, e, _⟩ := h
    rcases e with ⟨_, _, e⟩ | ⟨_, _, e⟩ <;> (rw [e]; exact fun z => by cases z)
theorem OwR.st {κ : Kx} {p : PV} {a : Addr} {H H' Hm Hm' : Hp} (h : OwR κ p a H Hm) (e : H' a = H a) (x : LamX.ExtN Hm Hm') : OwR κ p a H' Hm' := by
  cases p <;> try exact h.elim
  · obtain ⟨vs, e1, r⟩ := h
    exact ⟨vs, by rw [e]; exact e1, RpA.st x r⟩
  · obtain ⟨us, e1, l, r⟩ := h
    exact ⟨us, by rw [e]; exact e1, l, RpA.st x r⟩
/-- an owned thing that is given away -/
theorem OwR.give {κ : Kx} {p : PV} {a : Addr} {H Hm Hm' : Hp} (h : OwR κ p a H Hm) (e : Hm' a = H a) (x : LamX.ExtN Hm Hm') : Rp κ p (.ref a) Hm' := by
  cases p <;> try exact h.elim
  · obtain ⟨vs, e1, r⟩ := h
    unfold Rp
    exact ⟨a, vs, rfl, by rw [e]; exact e1, RpA.st x r⟩
  · obtain ⟨us, e1, l, r⟩ := h
    unfold Rp
    exact ⟨a, us, rfl, by rw [e]; exact e1, l, RpA.st x r⟩
def Own (Γ : En) (σ : L2.St) (b : Addr) : Prop := ∃ (k : Nat) (io : Bool) (v : PV), Γ[k]? = some (.ow io v) ∧ σ[k]? = some (some (.ref b))
/-- lists and dicts -/
def Mut (o : HO) : Prop := (∃ xs, o = .lst xs) ∨ (∃ kv, o = .dK kv) ∨ ∃ kv, o = .dT kv
def Alive (M : List Addr) (H : Hp) : Prop := ∀ b ∈ M, ∃ o, H b = some o ∧ Mut o
theorem Alive.nn {M : List Addr} {H : Hp} {b : Addr} (h : Alive M H) (hb : b ∈ M) : H b ≠ none := fun z => by
  obtain ⟨o, e, _⟩ := h b hb
  rw [z] at e
  cases e
theorem Alive.free {M : List Addr} {H : Hp} {p : Addr} (h : Alive M H) (n : H p = none) : p ∉ M := fun m => h.nn m n
theorem Alive.same {M : List Addr} {H H' : Hp} (h : Alive M H) (s : ∀ b o, b ∈ M → H b = some o → H' b = some o) : Alive M H' := fun b hb => by
  obtain ⟨o, e, m⟩ := h b hb
  exact ⟨o, s b o hb e, m⟩
theorem Alive.tup {M : List Addr} {H : Hp} {a : Addr} {vs : List V} (h : Alive M H) (e : H a = some (.tup vs)) : a ∉ M := fun m => by
  obtain ⟨o, e1, m⟩ := h a m
  rw [e] at e1
  cases e1
  rcases m with ⟨_, z⟩ | ⟨_, z⟩ | ⟨_, z⟩ <;> cases z
theorem Live.alive {M : List Addr} {H : Hp} (h : Live M H) : Alive M H := fun b hb => by
  obtain ⟨vs, e⟩ := h b hb
  exact ⟨_, e, .inl ⟨_, rfl⟩⟩
theorem OwR.mut {κ : Kx} {p : PV} {a : Addr} {H Hm : Hp} (h : OwR κ p a H Hm) : ∃ o, H a = Option.some o ∧ Mut o := by
  cases p <;> try exact h.elim
  · obtain ⟨vs, e, _⟩ := h
    exact ⟨_, e, .inl ⟨_, rfl⟩⟩
  · obtain ⟨us, e, _⟩ := h
    rcases e with ⟨_, _, e⟩ | ⟨_, _, e⟩
    · exact ⟨_, e, .inr (.inl ⟨_, rfl⟩)⟩
    · exact ⟨_, e, .inr (.inr ⟨_, rfl⟩)⟩
/-- the tables of lambdas stay tables -/
theorem tabs_upd {T : List (Addr × Str)} {H : Hp} {t : Addr} {o : HO} (h : LamX.Tabs T H) (ht : H t = none ∨ ∃ o', H t = some o' ∧ Mut o') : LamX.Tabs T (L2.upd H t o) := fun p hp => by
  obtain ⟨ps, h1, h2, h3⟩ := h p hp
  have n1 : p.1 ≠ t := fun z => by
    rw [z] at h1
    rcases ht with e | ⟨o', e, m⟩
    · rw [e] at h1; cases h1
    · rw [e] at h1
      cases h1
      rcases m with ⟨_, z⟩ | ⟨_, z⟩ | ⟨_, z⟩ <;> cases z
  refine ⟨ps, by rw [upd_ne n1]; exact h1, h2, fun pos cv hc => ?_⟩
  obtain ⟨c, e1, e2⟩ := h3 pos cv hc
  have n2 : c ≠ t := fun z => by
    rw [z] at e2
    rcases ht with e | ⟨o', e, m⟩
    · rw [e] at e2; cases e2
    · rw [e] at e2
      cases e2
      rcases m with ⟨_, z⟩ | ⟨_, z⟩ | ⟨_, z⟩ <;> cases z
  exact ⟨c, e1, by rw [upd_ne n2]; exact e2⟩
abbrev NT (o : HO) : Prop := ∀ ps, o ≠ .tbl ps
theorem Mut.nt {o : HO} (m : Mut o) : NT o := fun ps z => by
  subst z
  rcases m with ⟨_, z⟩ | ⟨_, z⟩ | ⟨_, z⟩ <;> cases z
structure EOK (κ : Kx) (M0 M : List Addr) (Γ : En) (σ : L2.St) (H : Hp) : Prop where
  len : σ.length = Γ.length
  va : ∀ (k : Nat) (v : PV), Γ[k]? = some (.va v) → ∃ u, σ[k]? = some (some u) ∧ Rp κ v u (msk M H)
  ow : ∀ (k : Nat) (io : Bool) (v : PV), Γ[k]? = some (.ow io v) → ∃ a, σ[k]? = some (some (.ref a)) ∧ a ∈ M ∧ a ∉ M0 ∧ OwR κ v a H (msk M H)
  inj : ∀ (j k : Nat) (a : Addr) (io jo : Bool) (v w : PV), Γ[j]? = some (.ow io v) → Γ[k]? = some (.ow jo w) → σ[j]? = some (some (.ref a)) → σ[k]? = some (some (.ref a)) → j = k
  sub : ∀ b ∈ M0, b ∈ M
  alive : Alive M H
  tab : LamX.Tabs κ.cA.T H
def Chg (Γ : En) (σ : L2.St) (H H' : Hp) : Prop := ∀ (b : Addr) (o : HO), H b = some o → ¬ Own Γ σ b → NT o → H' b = some o
/-- all but the tables stays; the tables stay tables -/
structure Stay (κ : Kx) (H H' : Hp) : Prop where
  ext : LamX.ExtN H H'
  liv : ∀ b, H b ≠ none → H' b ≠ none
  tab : LamX.Tabs κ.cA.T H'

def OwS (Γ' Γ : En) : Prop := ∀ (k : Nat) (io : Bool) (v' : PV), Γ'[k]? = some (.ow io v') → ∃ v, Γ[k]? = some (.ow io v)
structure Stp (κ : Kx) (M0 M : List Addr) (Γ : En) (σ : L2.St) (H : Hp) (M' : List Addr) (Γ' : En) (H' : Hp) : Prop where
  eok : EOK κ M0 M' Γ' σ H'
  sub : ∀ b ∈ M', b ∈ M
  chg : Chg Γ σ H H'
  ows : OwS Γ' Γ
  liv : ∀ b, H b ≠ none → H' b ≠ none
section
variable {κ : Kx} {M0 M M1 M2 : List Addr} {Γ Γ1 Γ2 : En} {σ : L2.St} {H H1 H2 : Hp}
theorem OwS.own (h : OwS Γ1 Γ) {b : Addr} (o : Own Γ1 σ b) : Own Γ σ b := by
  obtain ⟨k, io, v, e1, e2⟩ := o
  obtain ⟨w, e⟩ := h k io v e1
  exact ⟨k, io, w, e, e2⟩
theorem EOK.own (h : EOK κ M0 M Γ σ H) {b : Addr} (o : Own Γ σ b) : b ∈ M ∧ b ∉ M0 := by
  obtain ⟨k, io, v, e1, e2⟩ := o
  obtain ⟨a, ha, hm, hn, _⟩ := h.ow k io v e1
  rw [ha] at e2
  cases e2
  exact ⟨hm, hn⟩
theorem Stp.refl (h : EOK κ M0 M Γ σ H) : Stp κ M0 M Γ σ H M Γ H := ⟨h, fun _ hb => hb, fun _ _ e _ _ => e, fun _ _ v e => ⟨v, e⟩, fun _ h => h⟩
theorem Stp.trans (a : Stp κ M0 M Γ σ H M1 Γ1 H1) (b : Stp κ M0 M1 Γ1 σ H1 M2 Γ2 H2) : Stp κ M0 M Γ σ H M2 Γ2 H2 :=
  ⟨b.eok, fun c hc => a.sub c (b.sub c hc), fun c o e n nt => b.chg c o (a.chg c o e n nt) (fun z => n (a.ows.own z)) nt, fun k io v e => by
    obtain ⟨w, e⟩ := b.ows k io v e
    exact a.ows k io w e, fun c h => b.liv c (a.liv c h)⟩
theorem Stp.same (h : EOK κ M0 M Γ σ H) (a : Stp κ M0 M Γ σ H M1 Γ1 H1) : LamX.ExtN (msk M H) (msk M1 H1) := fun b o e nt => by
  obtain ⟨e, n⟩ := msk_of e
  rw [msk_in (fun z => n (a.sub b z))]
  exact a.chg b o e (fun z => n (h.own z).1) nt
theorem Stp.keep (h : EOK κ M0 M Γ σ H) (a : Stp κ M0 M Γ σ H M1 Γ1 H1) {p : PV} {u : V} (r : Rp κ p u (msk M H)) : Rp κ p u (msk M1 H1) := Rp.st (a.same h) r
theorem Stp.keepA (h : EOK κ M0 M Γ σ H) (a : Stp κ M0 M Γ σ H M1 Γ1 H1) {p : List PV} {u : List V} (r : RpA κ p u (msk M H)) : RpA κ p u (msk M1 H1) := RpA.st (a.same h) r
/-- new things leave the state -/
theorem EOK.same (h : EOK κ M0 M Γ σ H) (s : Same H H1) : EOK κ M0 M Γ σ H1 :=
  ⟨h.len, fun k v e => by
    obtain ⟨u, e1, r⟩ := h.va k v e
    exact ⟨u, e1, Rp.st (LamX.ExtN.of (msk_same s)) r⟩, fun k io v e => by
    obtain ⟨a, e1, m, n, r⟩ := h.ow k io v e
    refine ⟨a, e1, m, n, r.st ?_ (LamX.ExtN.of (msk_same s))⟩
    cases z : H a with
    | none => exact absurd z (h.alive.nn m)
    | some o => exact s _ _ z, h.inj, h.sub, h.alive.same fun b o _ e => s b o e, h.tab.ext s⟩
theorem Same.liv (s : Same H H1) : ∀ b, H b ≠ none → H1 b ≠ none := fun b h => by
  cases z : H b with
  | none => exact absurd z h
  | some o => rw [s _ _ z]; exact fun z => by cases z
theorem Stp.of (h : EOK κ M0 M Γ σ H) (s : Same H H1) : Stp κ M0 M Γ σ H M Γ H1 := ⟨h.same s, fun _ hb => hb, fun b o e _ _ => s _ _ e, fun _ _ v e => ⟨v, e⟩, Same.liv s⟩
theorem msk_extN (s : LamX.ExtN H H1) : LamX.ExtN (msk M H) (msk M H1) := fun b o e nt => by
  obtain ⟨e, n⟩ := msk_of e
  rw [msk_in n]
  exact s b o e nt
theorem Stay.of (t : LamX.Tabs κ.cA.T H) (s : Same H H1) : Stay κ H H1 := ⟨LamX.ExtN.of s, Same.liv s, t.ext s⟩
theorem Stay.refl (t : LamX.Tabs κ.cA.T H) : Stay κ H H := ⟨LamX.ExtN.refl _, fun _ h => h, t⟩
theorem Stay.trans (a : Stay κ H H1) (b : Stay κ H1 H2) : Stay κ H H2 := ⟨a.ext.trans b.ext, fun c h => b.liv c (a.liv c h), b.tab⟩
theorem Stay.own (s : Stay κ H H1) {a : Addr} {o : HO} (e : H a = some o) (m : Mut o) : H1 a = some o := s.ext a o e m.nt
theorem EOK.stay (h : EOK κ M0 M Γ σ H) (s : Stay κ H H1) : EOK κ M0 M Γ σ H1 :=
  ⟨h.len, fun k v e => by
    obtain ⟨u, e1, r⟩ := h.va k v e
    exact ⟨u, e1, Rp.st (msk_extN s.ext) r⟩, fun k io v e => by
    obtain ⟨a, e1, m, n, r⟩ := h.ow k io v e
    refine ⟨a, e1, m, n, r.st ?_ (msk_extN s.ext)⟩
    obtain ⟨o, z, mo⟩ := h.alive a m
    rw [z]
    exact s.own z mo, h.inj, h.sub, fun b hb => by
    obtain ⟨o, z, mo⟩ := h.alive b hb
    exact ⟨o, s.own z mo, mo⟩, s.tab⟩
theorem Stp.stay (h : EOK κ M0 M Γ σ H) (s : Stay κ H H1) : Stp κ M0 M Γ σ H M Γ H1 := ⟨h.stay s, fun _ hb => hb, fun b o e _ nt => s.ext _ _ e nt, fun _ _ v e => ⟨v, e⟩, s.liv⟩
end
/-! ### results -/
inductive Rs (α : Type) where
  | ok (a : α) (Γ : En) | ex (c : Str) (v : PV) (Γ : En) | no
def Rs.bind {α β : Type} (r : Rs α) (k : α → En → Rs β) : Rs β := match r with
  | .ok a Γ => k a Γ
  | .ex c v Γ => .ex c v Γ
  | .no => .no
abbrev SE := En → Rs PV
abbrev SA := En → Rs (List PV)
section
variable {κ : Kx} {W : WX}
def OutX (κ : Kx) (W : WX) (M0 M : List Addr) (Γ : En) (σ : L2.St) (H : Hp) (c : Str) (v : PV) (Γ' : En) : Prop :=
  ∀ M' H' d u, Stp κ M0 M Γ σ H M' Γ' H' → H' d = some (.xd [("value", u)]) → Rp κ v u (msk M' H') → W (.ref (κ.cA c)) (some d) σ H'
def Out (κ : Kx) (W : WX) (M0 M : List Addr) (Γ : En) (σ : L2.St) (H : Hp) (r : Rs PV) (Q : VK) : Prop := match r with
  | .ok v Γ' => ∀ M' H' u, Stp κ M0 M Γ σ H M' Γ' H' → Rp κ v u (msk M' H') → Q u H'
  | .ex c v Γ' => OutX κ W M0 M Γ σ H c v Γ'
  | .no => False
def OutA (κ : Kx) (W : WX) (M0 M : List Addr) (Γ : En) (σ : L2.St) (H : Hp) (r : Rs (List PV)) (Q : List V → Hp → Prop) : Prop := match r with
  | .ok v Γ' => ∀ M' H' u, Stp κ M0 M Γ σ H M' Γ' H' → RpA κ v u (msk M' H') → Q u H'
  | .ex c v Γ' => OutX κ W M0 M Γ σ H c v Γ'
  | .no => False
def tP (κ : Kx) (W : WX) (f : SE) : TE := fun σ H Q => ∃ M0 M Γ, EOK κ M0 M Γ σ H ∧ Out κ W M0 M Γ σ H (f Γ) Q
def tPA (κ : Kx) (W : WX) (f : SA) : TA := fun σ H Q => ∃ M0 M Γ, EOK κ M0 M Γ σ H ∧ OutA κ W M0 M Γ σ H (f Γ) Q
variable {M0 M M1 : List Addr} {Γ Γ1 : En} {σ : L2.St} {H H1 : Hp} {Q : VK}
theorem OutX.from {c : Str} {v : PV} {Γ2 : En} (s : Stp κ M0 M Γ σ H M1 Γ1 H1) (h : OutX κ W M0 M Γ σ H c v Γ2) : OutX κ W M0 M1 Γ1 σ H1 c v Γ2 :=
  fun M' H' d u s' e r => h M' H' d u (s.trans s') e r
theorem Out.from {r : Rs PV} (s : Stp κ M0 M Γ σ H M1 Γ1 H1) (h : Out κ W M0 M Γ σ H r Q) : Out κ W M0 M1 Γ1 σ H1 r Q := by
  cases r with
  | ok v Γ' => exact fun M' H' u s' r => h M' H' u (s.trans s') r
  | ex c v Γ' => exact OutX.from s h
  | no => exact h
theorem OutA.from {r : Rs (List PV)} {Q : List V → Hp → Prop} (s : Stp κ M0 M Γ σ H M1 Γ1 H1) (h : OutA κ W M0 M Γ σ H r Q) : OutA κ W M0 M1 Γ1 σ H1 r Q := by
  cases r with
  | ok v Γ' => exact fun M' H' u s' r => h M' H' u (s.trans s') r
  | ex c v Γ' => exact OutX.from s h
  | no => exact h
/-- after one result -/
theorem Out.bind {r : Rs PV} {k : PV → En → Rs PV} (h : Out κ W M0 M Γ σ H (r.bind k) Q) : Out κ W M0 M Γ σ H r fun x H1 => ∃ v M1 Γ1, Stp κ M0 M Γ σ H M1 Γ1 H1 ∧ Rp κ v x (msk M1 H1) ∧ r = .ok v Γ1 ∧ Out κ W M0 M1 Γ1 σ H1 (k v Γ1) Q := by
  cases r with
  | ok v Γ' => exact fun M' H' u s r => ⟨v, M', Γ', s, r, rfl, Out.from s h⟩
  | ex c v Γ' => exact h
  | no => exact h
theorem Out.bindA {r : Rs PV} {k : PV → En → Rs (List PV)} {Q : List V → Hp → Prop} (h : OutA κ W M0 M Γ σ H (r.bind k) Q) : Out κ W M0 M Γ σ H r fun x H1 => ∃ v M1 Γ1, Stp κ M0 M Γ σ H M1 Γ1 H1 ∧ Rp κ v x (msk M1 H1) ∧ r = .ok v Γ1 ∧ OutA κ W M0 M1 Γ1 σ H1 (k v Γ1) Q := by
  cases r with
  | ok v Γ' => exact fun M' H' u s r => ⟨v, M', Γ', s, r, rfl, OutA.from s h⟩
  | ex c v Γ' => exact h
  | no => exact h
theorem OutA.bind {r : Rs (List PV)} {k : List PV → En → Rs PV} (h : Out κ W M0 M Γ σ H (r.bind k) Q) : OutA κ W M0 M Γ σ H r fun x H1 => ∃ v M1 Γ1, Stp κ M0 M Γ σ H M1 Γ1 H1 ∧ RpA κ v x (msk M1 H1) ∧ r = .ok v Γ1 ∧ Out κ W M0 M1 Γ1 σ H1 (k v Γ1) Q := by
  cases r with
  | ok v Γ' => exact fun M' H' u s r => ⟨v, M', Γ', s, r, rfl, Out.from s h⟩
  | ex c v Γ' => exact h
  | no => exact h
theorem Out.mono {r : Rs PV} {Q' : VK} (h : Out κ W M0 M Γ σ H r Q) (m : ∀ u H', Q u H' → Q' u H') : Out κ W M0 M Γ σ H r Q' := by
  cases r with
  | ok v Γ' => exact fun M' H' u s r => m _ _ (h M' H' u s r)
  | ex c v Γ' => exact h
  | no => exact h
end
end QX

set_option Elab.async false
set_option linter.all false
set_option maxRecDepth 100000
set_option maxHeartbeats 4000000
namespace QX
open PySem PySem.Spec PySem.W PySem.Calls PyProof.Rows L2 MX
abbrev kx (X : Cx) (cA : CA) : Kx := ⟨X.K, cA⟩
def ofO {α : Type} (o : Option α) (Γ : En) : Rs α := match o with
  | some v => .ok v Γ
  | none => .no
def tPT (κ : Kx) (W : WX) (f : SE) : TT := fun σ H Q => ∃ M0 M Γ, EOK κ M0 M Γ σ H ∧ Out κ W M0 M Γ σ H (f Γ) fun u H' => ∃ b, u = .bl b ∧ Q b H'
theorem pt_mono' {X : Cx} {e : Expr} {t t' : TT} (h : PT X e t) (m : ∀ σ H Q, t' σ H Q → t σ H Q) : PT X e t' := ⟨fun pins s σ H Q I q => h.run pins s σ H Q I (m σ H Q q)⟩
/-! ### names, constants -/
def sVar (k : Nat) : SE := fun Γ => match Γ[k]? with
  | some (.va v) => .ok v Γ
  | _ => .no
def sMove (k : Nat) : SE := fun Γ => match Γ[k]? with
  | some (.ow false v) => .ok v (Γ.set k (.va v))
  | _ => .no
def sC (v : PV) : SE := fun Γ => .ok v Γ
section
variable {X : Cx} {cA : CA} {W : WX} {x : Str} {pos : Pos} {a b c e : Expr} {fa fb fc : SE} {rest es : List Expr}
theorem p_var (k : Nat) (hN : X.N[k]? = some x := by rfl) (hv : Vis X.env.scope x := by first | exact Or.inl rfl | exact Or.inr (Or.inl rfl) | exact Or.inr (Or.inr rfl)) (hd : (x == ("__debug__" : Str)) = false := by decide)
    (hcd : (x == ("__classdict__" : Str)) = false := by decide) : PE X (.Name x pos) (tP (kx X cA) W (sVar k)) :=
  pe_mono (pe_var hN hv hd hcd) fun σ H Q ⟨M0, M, Γ, ok, q⟩ => by
    unfold sVar at q
    split at q
    · rename_i v hk
      obtain ⟨u, e1, r⟩ := ok.va k v hk
      exact ⟨u, e1, q M H u (Stp.refl ok) r⟩
    · exact q.elim
theorem EOK.move {κ : Kx} {M0 M : List Addr} {Γ : En} {σ : L2.St} {H : Hp} (h : EOK κ M0 M Γ σ H) {k : Nat} {v : PV} (hk : Γ[k]? = some (.ow false v)) :
    ∃ a M', σ[k]? = some (some (.ref a)) ∧ Stp κ M0 M Γ σ H M' (Γ.set k (.va v)) H ∧ Rp κ v (.ref a) (msk M' H) := by
  obtain ⟨a, e, hm, hn, r⟩ := h.ow k false v hk
  have ma : ∀ b, b ∈ M.filter (fun b => decide (b ≠ a)) ↔ b ∈ M ∧ b ≠ a := fun b => by simp
  have sm : Same (msk M H) (msk (M.filter (fun b => decide (b ≠ a))) H) := fun b o eb => by
    obtain ⟨eb, nb⟩ := msk_of eb
    rw [msk_in (fun z => nb ((ma b).mp z).1)]
    exact eb
  have give : Rp κ v (.ref a) (msk (M.filter (fun b => decide (b ≠ a))) H) := r.give (msk_in (fun z => ((ma a).mp z).2 rfl)) (LamX.ExtN.of sm)
  have kl : k < Γ.length := (List.getElem?_eq_some_iff.mp hk).1
  refine ⟨a, M.filter (fun b => decide (b ≠ a)), e, ⟨⟨by rw [List.length_set]; exact h.len, fun j w ej => ?_, fun j io w ej => ?_, fun i j b io jo w w' ei ej si sj => ?_, fun b hb => (ma b).mpr ⟨h.sub b hb, fun z => hn (by rw [← z]; exact hb)⟩, fun b hb => h.alive b ((ma b).mp hb).1, h.tab⟩, fun b hb => ((ma b).mp hb).1, fun _ _ e _ _ => e, fun j io w ej => ?_, fun _ h => h⟩, give⟩
  · by_cases c : k = j
    · subst c
      rw [List.getElem?_set_self kl] at ej
      cases ej
      exact ⟨_, e, give⟩
    · rw [List.getElem?_set_ne c] at ej
      obtain ⟨u, eu, ru⟩ := h.va j w ej
      exact ⟨u, eu, Rp.st (LamX.ExtN.of sm) ru⟩
  · by_cases c : k = j
    · subst c
      rw [List.getElem?_set_self kl] at ej
      cases ej
    · rw [List.getElem?_set_ne c] at ej
      obtain ⟨b, eb, mb, nb, rb⟩ := h.ow j io w ej
      exact ⟨b, eb, (ma b).mpr ⟨mb, fun z => c (h.inj k j a _ _ _ _ hk ej e (by rw [← z]; exact eb))⟩, nb, rb.st rfl (LamX.ExtN.of sm)⟩
  · have ci : k ≠ i := fun c => by
      subst c
      rw [List.getElem?_set_self kl] at ei
      cases ei
    have cj : k ≠ j := fun c => by
      subst c
      rw [List.getElem?_set_self kl] at ej
      cases ej
    rw [List.getElem?_set_ne ci] at ei
    rw [List.getElem?_set_ne cj] at ej
    exact h.inj i j b io jo w w' ei ej si sj
  · have c : k ≠ j := fun c => by
      subst c
      rw [List.getElem?_set_self kl] at ej
      cases ej
    rw [List.getElem?_set_ne c] at ej
    exact ⟨w, ej⟩
theorem p_move (k : Nat) (hN : X.N[k]? = some x := by rfl) (hv : Vis X.env.scope x := by first | exact Or.inl rfl | exact Or.inr (Or.inl rfl) | exact Or.inr (Or.inr rfl)) (hd : (x == ("__debug__" : Str)) = false := by decide)
    (hcd : (x == ("__classdict__" : Str)) = false := by decide) : PE X (.Name x pos) (tP (kx X cA) W (sMove k)) :=
  pe_mono (pe_var hN hv hd hcd) fun σ H Q ⟨M0, M, Γ, ok, q⟩ => by
    unfold sMove at q
    split at q
    · rename_i v hk
      obtain ⟨a, M', e, s, r⟩ := ok.move hk
      exact ⟨_, e, q M' H _ s r⟩
    · exact q.elim
theorem p_int {n : Int} {j} : PE X (.Constant (.int n) j pos) (tP (kx X cA) W (sC (.int n))) := pe_mono pe_int fun σ H Q ⟨M0, M, Γ, ok, q⟩ => q M H _ (Stp.refl ok) (rp_int.mpr rfl)
theorem p_str {n : Str} {j} : PE X (.Constant (.str n) j pos) (tP (kx X cA) W (sC (.str n))) := pe_mono pe_str fun σ H Q ⟨M0, M, Γ, ok, q⟩ => q M H _ (Stp.refl ok) (rp_str.mpr rfl)
theorem p_bl {n : Bool} {j} : PE X (.Constant (.bool n) j pos) (tP (kx X cA) W (sC (.bl n))) := pe_mono pe_bl fun σ H Q ⟨M0, M, Γ, ok, q⟩ => q M H _ (Stp.refl ok) (rp_bl.mpr rfl)
/-- a name of the module that holds a plain value -/
theorem p_glob {v : PV} {w : V} {u : Value} (hg : Gl X x) (hm : X.mg x = some u) (r : RelV w u) (hv : ∀ H, Rp (kx X cA) v w H) (hdb : (x == ("__debug__" : Str)) = false := by decide) : PE X (.Name x pos) (tP (kx X cA) W (sC v)) :=
  pe_mono (pe_glob hg hm r hdb) fun σ H Q ⟨M0, M, Γ, ok, q⟩ => q M H _ (Stp.refl ok) (hv _)
/-! ### operators -/
def sBin (g : PV → PV → Option PV) (fa fb : SE) : SE := fun Γ => (fa Γ).bind fun a Γ1 => (fb Γ1).bind fun b Γ2 => ofO (g a b) Γ2
def RDo (κ : Kx) (r : R2) (g : PV → PV → Option PV) : Prop := ∀ a b c x y M H Q, g a b = some c → Rp κ a x (msk M H) → Rp κ b y (msk M H) → Alive M H → (∀ H' u, Same H H' → Rp κ c u (msk M H') → Q u H') → r x y H Q
theorem bin_out {κ : Kx} {r : R2} {g : PV → PV → Option PV} (hg : RDo κ r g) {σ : L2.St} {H : Hp} {Q : VK} (h : tP κ W (sBin g fa fb) σ H Q) : tOp r (tP κ W fa) (tP κ W fb) σ H Q := by
  obtain ⟨M0, M, Γ, ok, q⟩ := h
  refine ⟨M0, M, Γ, ok, (Out.bind q).mono fun x H1 ⟨v, M1, Γ1, s1, r1, _, q1⟩ => ⟨M0, M1, Γ1, s1.eok, (Out.bind q1).mono fun y H2 ⟨w, M2, Γ2, s2, r2, _, q2⟩ => ?_⟩⟩
  cases hgw : g v w with
  | none => rw [hgw] at q2; exact q2.elim
  | some c =>
    rw [hgw] at q2
    exact hg v w c x y M2 H2 Q hgw (s2.keep s1.eok r1) r2 s2.eok.alive fun H' u s r => q2 M2 H' u (Stp.of s2.eok s) r
theorem p_bin {op : Operator} {r : R2} {g : PV → PV → Option PV} (ho : OpR X (binaryOp op) r) (hg : RDo (kx X cA) r g) (ha : PE X a (tP (kx X cA) W fa)) (hb : PE X b (tP (kx X cA) W fb)) : PE X (.BinOp a op b pos) (tP (kx X cA) W (sBin g fa fb)) :=
  pe_mono (pe_op ho ha hb) fun σ H Q h => bin_out hg h
theorem p_cmp {op : CmpOp} {r : R2} {g : PV → PV → Option PV} (ho : OpR X (compareOp op) r) (hg : RDo (kx X cA) r g) (ha : PE X a (tP (kx X cA) W fa)) (hb : PE X b (tP (kx X cA) W fb)) (h1 : behindInMarks op b = false := by first | exact nobehind _ (by decide) (by decide) | rfl) :
    PE X (.Compare a [op] [b] pos) (tP (kx X cA) W (sBin g fa fb)) := pe_mono (pe_cmpR ho ha hb h1) fun σ H Q h => bin_out hg h
theorem q_cmp {op : CmpOp} {r : R2} {g : PV → PV → Option PV} (ho : OpR X (compareOp op) r) (hg : RDo (kx X cA) r g) (ha : PE X a (tP (kx X cA) W fa)) (hb : PE X b (tP (kx X cA) W fb)) (h1 : behindInMarks op b = false := by first | exact nobehind _ (by decide) (by decide) | rfl) :
    PT X (.Compare a [op] [b] pos) (tPT (kx X cA) W (sBin g fa fb)) := pt_mono' (pt_cmpR ho ha hb h1) fun σ H Q h => bin_out hg h
/-! ### and, or, not, if -/
def sAnd (fa fb : SE) : SE := fun Γ => (fa Γ).bind fun a Γ1 => match a with
  | .bl true => fb Γ1
  | .bl false => .ok (.bl false) Γ1
  | _ => .no
def sOr (fa fb : SE) : SE := fun Γ => (fa Γ).bind fun a Γ1 => match a with
  | .bl false => fb Γ1
  | .bl true => .ok (.bl true) Γ1
  | _ => .no
def sNot (fa : SE) : SE := fun Γ => (fa Γ).bind fun a Γ1 => match a with
  | .bl b => .ok (.bl (!b)) Γ1
  | _ => .no
def sIf (fc fa fb : SE) : SE := fun Γ => (fc Γ).bind fun c Γ1 => match c with
  | .bl true => fa Γ1
  | .bl false => fb Γ1
  | _ => .no
theorem p_one {op} (h : PE X a (tP (kx X cA) W fa)) : PE X (.BoolOp op [a] pos) (tP (kx X cA) W fa) := pe_one h
theorem p_and (ha : PE X a (tP (kx X cA) W fa)) (hb : PE X (.BoolOp .And (b :: rest) pos) (tP (kx X cA) W fb)) : PE X (.BoolOp .And (a :: b :: rest) pos) (tP (kx X cA) W (sAnd fa fb)) :=
  pe_mono (pe_and ha hb) fun σ H Q ⟨M0, M, Γ, ok, q⟩ => ⟨M0, M, Γ, ok, (Out.bind q).mono fun x H1 ⟨v, M1, Γ1, s1, r1, hv, q1⟩ => by
    cases v <;> try exact q1.elim
    rename_i b
    have e := rp_bl.mp r1
    refine ⟨b, e, ?_⟩
    cases b with
    | true => exact iteT ⟨M0, M1, Γ1, s1.eok, q1⟩
    | false => exact iteF (q1 M1 H1 _ (Stp.refl s1.eok) (rp_bl.mpr rfl))⟩
theorem p_not (ha : PE X a (tP (kx X cA) W fa)) : PE X (.UnaryOp .Not a pos) (tP (kx X cA) W (sNot fa)) :=
  pe_mono (pe_not ha) fun σ H Q ⟨M0, M, Γ, ok, q⟩ => ⟨M0, M, Γ, ok, (Out.bind q).mono fun x H1 ⟨v, M1, Γ1, s1, r1, hv, q1⟩ => by
    cases v <;> try exact q1.elim
    rename_i b
    exact ⟨b, rp_bl.mp r1, q1 M1 H1 _ (Stp.refl s1.eok) (rp_bl.mpr rfl)⟩⟩
theorem q_val (h : PE X e (tP (kx X cA) W fa)) (he : ∀ whole, isTrue e X.env whole = (do let v ← whole; standAt e.pos; holding [v] (truthy v)) := by intro _; rfl) : PT X e (tPT (kx X cA) W fa) :=
  pt_mono' (pt_val h he) fun σ H Q ⟨M0, M, Γ, ok, q⟩ => ⟨M0, M, Γ, ok, q⟩
theorem q_not (ha : PT X a (tPT (kx X cA) W fa)) : PT X (.UnaryOp .Not a pos) (tPT (kx X cA) W (sNot fa)) :=
  pt_mono' (pt_not ha) fun σ H Q ⟨M0, M, Γ, ok, q⟩ => ⟨M0, M, Γ, ok, (Out.bind q).mono fun x H1 ⟨v, M1, Γ1, s1, r1, hv, q1⟩ => by
    cases v <;> try exact q1.elim
    rename_i b
    refine ⟨b, rp_bl.mp r1, ?_⟩
    obtain ⟨c, hc, q2⟩ := q1 M1 H1 _ (Stp.refl s1.eok) (rp_bl.mpr rfl)
    cases hc
    exact q2⟩
/-- a chain of and, or as a test -/
structure PWP (X : Cx) (cA : CA) (W : WX) (e : Expr) (f : SE) : Prop where
  pw : PW X e (tPT (kx X cA) W f)
theorem pw_mono' {X : Cx} {e : Expr} {t t' : TT} (h : PW X e t) (m : ∀ σ H Q, t' σ H Q → t σ H Q) : PW X e t' := ⟨fun wh pins s σ H Q I q => h.run wh pins s σ H Q I (m σ H Q q)⟩
theorem q_chain {e : Expr} (h : PWP X cA W e fa) : PT X e (tPT (kx X cA) W fa) := h.pw.pt
theorem w_and1 (ha : PT X a (tPT (kx X cA) W fa)) : PWP X cA W (.BoolOp .And [a] pos) fa := ⟨pw_and1 ha⟩
theorem w_or1 (ha : PT X a (tPT (kx X cA) W fa)) : PWP X cA W (.BoolOp .Or [a] pos) fa := ⟨pw_or1 ha⟩
theorem w_and (ha : PT X a (tPT (kx X cA) W fa)) (hb : PWP X cA W (.BoolOp .And (b :: rest) pos) fb) : PWP X cA W (.BoolOp .And (a :: b :: rest) pos) (sAnd fa fb) :=
  ⟨pw_mono' (pw_and ha hb.pw) fun σ H Q ⟨M0, M, Γ, ok, q⟩ => ⟨M0, M, Γ, ok, (Out.bind q).mono fun x H1 ⟨v, M1, Γ1, s1, r1, hv, q1⟩ => by
    cases v <;> try exact q1.elim
    rename_i b
    refine ⟨b, rp_bl.mp r1, ?_⟩
    cases b with
    | true => exact iteT ⟨M0, M1, Γ1, s1.eok, q1⟩
    | false =>
      obtain ⟨c, hc, q2⟩ := q1 M1 H1 _ (Stp.refl s1.eok) (rp_bl.mpr rfl)
      cases hc
      exact iteF q2⟩⟩
theorem w_or (ha : PT X a (tPT (kx X cA) W fa)) (hb : PWP X cA W (.BoolOp .Or (b :: rest) pos) fb) : PWP X cA W (.BoolOp .Or (a :: b :: rest) pos) (sOr fa fb) :=
  ⟨pw_mono' (pw_or ha hb.pw) fun σ H Q ⟨M0, M, Γ, ok, q⟩ => ⟨M0, M, Γ, ok, (Out.bind q).mono fun x H1 ⟨v, M1, Γ1, s1, r1, hv, q1⟩ => by
    cases v <;> try exact q1.elim
    rename_i b
    refine ⟨b, rp_bl.mp r1, ?_⟩
    cases b with
    | false => exact iteF ⟨M0, M1, Γ1, s1.eok, q1⟩
    | true =>
      obtain ⟨c, hc, q2⟩ := q1 M1 H1 _ (Stp.refl s1.eok) (rp_bl.mpr rfl)
      cases hc
      exact iteT q2⟩⟩
/-! ### lists of arguments, displays -/
def sNil : SA := fun Γ => .ok [] Γ
def sCons (f : SE) (g : SA) : SA := fun Γ => (f Γ).bind fun v Γ1 => (g Γ1).bind fun vs Γ2 => .ok (v :: vs) Γ2
theorem OutA.mono {κ : Kx} {M0 M : List Addr} {Γ : En} {σ : L2.St} {H : Hp} {r : Rs (List PV)} {Q Q' : List V → Hp → Prop} (h : OutA κ W M0 M Γ σ H r Q) (m : ∀ u H', Q u H' → Q' u H') : OutA κ W M0 M Γ σ H r Q' := by
  cases r with
  | ok v Γ' => exact fun M' H' u s r => m _ _ (h M' H' u s r)
  | ex c v Γ' => exact h
  | no => exact h
theorem OutA.bindA {κ : Kx} {M0 M : List Addr} {Γ : En} {σ : L2.St} {H : Hp} {r : Rs (List PV)} {k : List PV → En → Rs (List PV)} {Q : List V → Hp → Prop} (h : OutA κ W M0 M Γ σ H (r.bind k) Q) : OutA κ W M0 M Γ σ H r fun x H1 => ∃ v M1 Γ1, Stp κ M0 M Γ σ H M1 Γ1 H1 ∧ RpA κ v x (msk M1 H1) ∧ r = .ok v Γ1 ∧ OutA κ W M0 M1 Γ1 σ H1 (k v Γ1) Q := by
  cases r with
  | ok v Γ' => exact fun M' H' u s r => ⟨v, M', Γ', s, r, rfl, OutA.from s h⟩
  | ex c v Γ' => exact h
  | no => exact h
theorem a_nil : PA X [] (tPA (kx X cA) W sNil) := pa_mono pa_nil fun σ H Q ⟨M0, M, Γ, ok, q⟩ => q M H [] (Stp.refl ok) rpA_nil
theorem a_cons {g : SA} (he : PE X e (tP (kx X cA) W fa)) (ht : PA X es (tPA (kx X cA) W g)) (hs : starEach (e :: es) X.env = (false, eval e X.env) :: starEach es X.env := by rfl) : PA X (e :: es) (tPA (kx X cA) W (sCons fa g)) :=
  pa_mono (pa_cons he ht hs) fun σ H Q ⟨M0, M, Γ, ok, q⟩ => ⟨M0, M, Γ, ok, (Out.bindA q).mono fun x H1 ⟨v, M1, Γ1, s1, r1, _, q1⟩ => ⟨M0, M1, Γ1, s1.eok, (OutA.bindA q1).mono fun xs H2 ⟨vs, M2, Γ2, s2, r2, _, q2⟩ => q2 M2 H2 _ (Stp.refl s2.eok) (rpA_cons.mpr ⟨s2.keep s1.eok r1, r2⟩)⟩⟩
def sTup (g : SA) : SE := fun Γ => (g Γ).bind fun vs Γ1 => if vs.length ≤ 1000000 then .ok (.tup false vs) Γ1 else .no
def sLst (g : SA) : SE := fun Γ => (g Γ).bind fun vs Γ1 => if vs.length ≤ 1000000 then .ok (.lst vs) Γ1 else .no
theorem sz_le {n : Nat} (h : n ≤ 1000000) : n ≤ sizeLine := by rw [sizeLine_eq]; omega
theorem msk_newA {M : List Addr} {H : Hp} {p : Addr} {o : HO} (h : Alive M H) (n : H p = none) : msk M (L2.upd H p o) p = some o := by
  rw [msk_in (h.free n), upd_same]
theorem rp_newT {κ : Kx} {M : List Addr} {H : Hp} {p : Addr} {xs : List PV} {vs : List V} (h : Alive M H) (n : H p = none) (r : RpA κ xs vs (msk M H)) : Rp κ (.tup false xs) (.ref p) (msk M (L2.upd H p (.tup vs))) :=
  rp_tup.mpr ⟨p, vs, rfl, .inl (msk_newA h n), RpA.st (LamX.ExtN.of (msk_same (same_new n))) r⟩
theorem rp_newL {κ : Kx} {M : List Addr} {H : Hp} {p : Addr} {xs : List PV} {vs : List V} (h : Alive M H) (n : H p = none) (r : RpA κ xs vs (msk M H)) : Rp κ (.lst xs) (.ref p) (msk M (L2.upd H p (.lst vs))) :=
  rp_lst.mpr ⟨p, vs, rfl, msk_newA h n, RpA.st (LamX.ExtN.of (msk_same (same_new n))) r⟩
theorem p_tup {g : SA} {x1} (h : PA X es (tPA (kx X cA) W g)) : PE X (.Tuple es x1 pos) (tP (kx X cA) W (sTup g)) :=
  pe_mono (pe_tup h) fun σ H Q ⟨M0, M, Γ, ok, q⟩ => ⟨M0, M, Γ, ok, (OutA.bind q).mono fun xs H1 ⟨vs, M1, Γ1, s1, r1, _, q1⟩ => by
    by_cases l : vs.length ≤ 1000000
    · rw [if_pos l] at q1
      exact ⟨by rw [r1.len]; exact sz_le l, fun p hp => q1 M1 _ _ (Stp.of s1.eok (same_new hp)) (rp_newT s1.eok.alive hp r1)⟩
    · rw [if_neg l] at q1
      exact q1.elim⟩
theorem p_lst {g : SA} (h : PA X es (tPA (kx X cA) W g)) : PE X (.List es pos) (tP (kx X cA) W (sLst g)) :=
  pe_mono (pe_lst h) fun σ H Q ⟨M0, M, Γ, ok, q⟩ => ⟨M0, M, Γ, ok, (OutA.bind q).mono fun xs H1 ⟨vs, M1, Γ1, s1, r1, _, q1⟩ => by
    by_cases l : vs.length ≤ 1000000
    · rw [if_pos l] at q1
      exact ⟨by rw [r1.len]; exact sz_le l, fun p hp => q1 M1 _ _ (Stp.of s1.eok (same_new hp)) (rp_newL s1.eok.alive hp r1)⟩
    · rw [if_neg l] at q1
      exact q1.elim⟩
end
end QX

set_option Elab.async false
set_option linter.all false
set_option maxRecDepth 100000
set_option maxHeartbeats 4000000
namespace MX
open PySem PySem.Spec PySem.W PySem.Calls PyProof.Rows L2
/-! ### drawing: a pot at p that changes, beside typed states -/
theorem ext_msk {a : Addr} {M : List Addr} {H H' : Hp} (x : Ext a H H') : Same (msk (a :: M) H) (msk (a :: M) H') := fun b o h => by
  obtain ⟨h, c⟩ := msk_of h
  rw [msk_in c]
  exact x b o (fun z => c (by rw [z]; exact List.mem_cons_self)) h
theorem pot_live {m : Nat} {H : Hp} {a : Addr} (h : Pot m H a) : ∃ vs, H a = some (.lst vs) := by
  obtain ⟨o, e, x, y, z, rfl, _⟩ := h
  exact ⟨_, e⟩
theorem Pot.same {m : Nat} {H H' : Hp} {a : Addr} (h : Pot m H a) (s : Same H H') : Pot m H' a := by
  obtain ⟨o, e, z⟩ := h
  exact ⟨o, s _ _ e, z⟩
theorem Pot.up {m n : Nat} {H : Hp} {a : Addr} (h : Pot m H a) (l : m ≤ n) : Pot n H a := by
  obtain ⟨o, e, z⟩ := h
  exact ⟨o, e, z.mono l⟩
section
variable {ι : Type} {Ev : ι → L2.St → Hp → Prop} {p : ι → Addr} {M : ι → List Addr} {X : Cx} {e : Expr} {es : List Expr} {pos : Pos}
structure DOk (Ev : ι → L2.St → Hp → Prop) (p : ι → Addr) (M : ι → List Addr) (i : ι) (σ : L2.St) (H : Hp) (m : Nat) : Prop where
  ev : Ev i σ (msk (p i :: M i) H)
  pot : Pot m H (p i)
  live : Live (M i) H
  out : p i ∉ M i
theorem DOk.eo {i : ι} {σ : L2.St} {H : Hp} {m : Nat} (h : DOk Ev p M i σ H m) : EOk Ev (fun i => p i :: M i) i σ H := ⟨h.ev, fun b hb => by
  rcases List.mem_cons.mp hb with hb | hb
  · rw [hb]; exact (pot_live h.pot)
  · exact h.live b hb⟩
theorem DOk.ext (E : Env Ev) {i : ι} {σ : L2.St} {H H' : Hp} {m m' : Nat} (h : DOk Ev p M i σ H m) (x : Ext (p i) H H') (q : Pot m' H' (p i)) : DOk Ev p M i σ H' m' :=
  ⟨E i σ _ _ (ext_msk x) h.ev, q, fun b hb => by
    obtain ⟨vs, e⟩ := h.live b hb
    exact ⟨vs, x b _ (fun z => h.out (by rw [← z]; exact hb)) e⟩, h.out⟩
theorem DOk.same (E : Env Ev) {i : ι} {σ : L2.St} {H H' : Hp} {m : Nat} (h : DOk Ev p M i σ H m) (s : Same H H') : DOk Ev p M i σ H' m := h.ext E (Ext.of s) (h.pot.same s)
end
end MX

set_option Elab.async false
set_option linter.all false
set_option maxRecDepth 100000
set_option maxHeartbeats 4000000
namespace MX
open PySem PySem.Spec PySem.W PySem.Calls PyProof.Rows L2
/-! ### statements that draw -/
section
variable {ι : Type} {P : ι → Prop} {Γ : ι → Gm} {p : ι → Addr} {M : ι → List Addr} {X : Cx} {e : Expr} {es : List Expr} {pos pos' : Pos} {res r : ι → Rd} {N : ι → L2.St → Hp → Nat → Prop} {rest a b : List Stmt} {x : Str} {c c1 c2 : Nat}
theorem DOk.up {Ev : ι → L2.St → Hp → Prop} {i : ι} {σ : L2.St} {H : Hp} {m n : Nat} (h : DOk Ev p M i σ H m) (l : m ≤ n) : DOk Ev p M i σ H n := ⟨h.ev, h.pot.up l, h.live, h.out⟩
end
end MX

set_option Elab.async false
set_option linter.all false
set_option maxRecDepth 100000
set_option maxHeartbeats 4000000
namespace MX
open PySem PySem.Spec PySem.W PySem.Calls PyProof.Rows L2
/-! ### a tuple read backward by a slice -/
section
variable {prog : Program} {w : World} {A : Around} {E : Value → Shared → Prop} {s : Shared}
end
section
variable {ι : Type} {Ev : ι → L2.St → Hp → Prop} {M : ι → List Addr} {X : Cx} {e o : Expr} {pos : Pos}
end
/-! ### t.index(x), t of data -/
end MX

set_option Elab.async false
set_option linter.all false
set_option maxRecDepth 100000
set_option maxHeartbeats 4000000
namespace MX
open PySem PySem.Spec PySem.W PySem.Calls PyProof.Rows L2
/-! ### events as data -/
def OkS (x : Str) : Prop := PyData.strOk x = true ∧ x.length ≤ 20
def OkE (e : Evt) : Prop := OkS e.1 ∧ OkS e.2
theorem eqv_ev (x y : Evt) : PyData.eqv (evD x) (evD y) = decide (x = y) := by
  obtain ⟨a, b⟩ := x
  obtain ⟨c, d⟩ := y
  unfold evD
  simp only [PyData.eqv, PyData.eqvAll, Prod.mk.injEq]
  by_cases h1 : a = c
  · by_cases h2 : b = d
    · simp [h1, h2]
    · simp [h1, h2]
  · simp [h1]
theorem lay_evs : ∀ {es : List Evt}, (∀ e ∈ es, OkE e) → PyData.canLayAll0 (es.map evD) = true ∧ PyData.depthAll (es.map evD) ≤ 1
  | [], _ => ⟨by simp [PyData.canLayAll0], by simp [PyData.depthAll]⟩
  | e :: es, h => by
    obtain ⟨h1, h2⟩ := lay_evs fun e he => h e (List.mem_cons_of_mem _ he)
    obtain ⟨⟨a, _⟩, ⟨b, _⟩⟩ := h e List.mem_cons_self
    refine ⟨by simp [PyData.canLayAll0, PyData.canLay0, evD, h1, a, b], ?_⟩
    rw [List.map_cons]
    simp only [PyData.depthAll, PyData.depth, evD]
    omega
theorem shaped_evs {es : List Evt} (h : ∀ e ∈ es, OkE e) : SeqAt.shaped (.tuple (es.map evD)) = true ∧ SeqAt.shaped (.list (es.map evD)) = true := by
  obtain ⟨h1, h2⟩ := lay_evs h
  unfold SeqAt.shaped
  have h3 : decide (PyData.depth (.tuple (es.map evD)) ≤ 64) = true := decide_eq_true (by simp only [PyData.depth]; omega)
  have h4 : decide (PyData.depth (.list (es.map evD)) ≤ 64) = true := decide_eq_true (by simp only [PyData.depth]; omega)
  rw [h3, h4]
  simp [PyData.canLay0, h1]
/-! ### dicts of four texts -/
section
variable {ι : Type} {Ev : ι → L2.St → Hp → Prop} {M : ι → List Addr} {X : Cx} {o : Expr} {pos : Pos}
end
end MX

set_option Elab.async false
set_option linter.all false
set_option maxRecDepth 100000
set_option maxHeartbeats 4000000
namespace QX
open PySem PySem.Spec PySem.W PySem.Calls PyProof.Rows L2 MX
/-! ### two ints -/
def gI (c : Int → Int → Bool) (f : Int → Int → PV) : PV → PV → Option PV
  | .int i, .int j => if c i j = true then some (f i j) else none
  | _, _ => none
theorem rdo_I0 {κ : Kx} {g : Int → Int → V} {f : Int → Int → PV} (hg : ∀ i j H, Rp κ (f i j) (g i j) H) : RDo κ (rI0 g) (gI (fun _ _ => true) f) := fun a b c x y M H Q e ra rb al q => by
  cases a <;> cases b <;> (first | (cases e; done) | skip)
  rename_i i j
  have e : some (f i j) = some c := e
  cases e
  exact ⟨i, j, rp_int.mp ra, rp_int.mp rb, q H _ (Same.refl H) (hg i j _)⟩
theorem rdo_I {κ : Kx} {C : Int → Int → Prop} {c : Int → Int → Bool} (hc : ∀ i j, c i j = true → C i j) {g : Int → Int → V} {f : Int → Int → PV} (hg : ∀ i j H, Rp κ (f i j) (g i j) H) : RDo κ (rI C g) (gI c f) := fun a b d x y M H Q e ra rb al q => by
  cases a <;> cases b <;> (first | (cases e; done) | skip)
  rename_i i j
  have e : (if c i j = true then some (f i j) else none) = some d := e
  by_cases h : c i j = true
  · rw [if_pos h] at e
    cases e
    exact ⟨i, j, rp_int.mp ra, rp_int.mp rb, hc i j h, q H _ (Same.refl H) (hg i j _)⟩
  · rw [if_neg h] at e
    cases e
abbrev yes2 : Int → Int → Bool := fun _ _ => true
abbrev gLt : PV → PV → Option PV := gI yes2 fun i j => .bl (decide (i < j))
abbrev gLe : PV → PV → Option PV := gI yes2 fun i j => .bl (decide (i ≤ j))
abbrev gGt : PV → PV → Option PV := gI yes2 fun i j => .bl (decide (j < i))
abbrev gMod : PV → PV → Option PV := gI (fun _ j => decide (0 < j)) fun i j => .int (i % j)
abbrev gDiv : PV → PV → Option PV := gI (fun _ j => decide (0 < j ∧ j.natAbs.log2 < 9000)) fun i j => .int (i / j)
abbrev gPow : PV → PV → Option PV := gI (fun i j => decide (0 ≤ j ∧ (Builtin.Int.intBits i : Int) * j ≤ 2 ^ 27)) fun i j => .int (i ^ j.toNat)
/-! ### sums, products -/
def gAdd : PV → PV → Option PV
  | .int i, .int j => some (.int (i + j))
  | .str a, .str b => if a.length + b.length ≤ 1000000 then some (.str (a ++ b)) else none
  | .lst a, .lst b => if a.length + b.length ≤ 1000000 then some (.lst (a ++ b)) else none
  | .tup f a, .tup g b => if a.length + b.length ≤ 1000000 then some (if a.isEmpty = true then .tup g b else if b.isEmpty = true then .tup f a else .tup false (a ++ b)) else none
  | _, _ => none
def gMul : PV → PV → Option PV
  | .int i, .int j => if i.natAbs.log2 + j.natAbs.log2 < 1000000 then some (.int (i * j)) else none
  | .lst a, .int k => if 0 ≤ k ∧ k ≤ 1000 ∧ a.length * k.toNat ≤ 1000000 then some (.lst (List.replicate k.toNat a).flatten) else none
  | _, _ => none
section
variable {X : Cx} {κ : Kx}
abbrev rAdd (K : PySem.W.Frag) : R2 := fun x y H Q => rI0 (fun i j => .int (i + j)) x y H Q ∨ ((∃ i j : Str, x = .str i ∧ y = .str j ∧ i.length + j.length ≤ sizeLine ∧ Q (.str (i ++ j)) H) ∨ (rCat x y H Q ∨ rCatA K x y H Q))
theorem op_addP : OpR X (binaryOp .Add) (rAdd X.K) := op_add.or (OpR.or (fun pins s σ H x y v u Q I rx ry h => by
  obtain ⟨i, j, h1, h2, h3, h4⟩ := h
  exact op_add_str pins s σ H x y v u Q I rx ry ⟨i, j, h1, h2, h3, h4⟩) (op_cat.or op_catA))
theorem rdo_add : RDo κ (rAdd κ.K) gAdd := fun a b c x y M H Q e ra rb al q => by
  cases a <;> cases b <;> (first | (cases e; done) | skip)
  · rename_i i j
    have e : some (PV.int (i + j)) = some c := e
    cases e
    exact .inl ⟨i, j, rp_int.mp ra, rp_int.mp rb, q H _ (Same.refl H) (rp_int.mpr rfl)⟩
  · rename_i i j
    have e : (if i.length + j.length ≤ 1000000 then some (PV.str (i ++ j)) else none) = some c := e
    by_cases l : i.length + j.length ≤ 1000000
    · rw [if_pos l] at e
      cases e
      exact .inr (.inl ⟨i, j, rp_str.mp ra, rp_str.mp rb, sz_le l, q H _ (Same.refl H) (rp_str.mpr rfl)⟩)
    · rw [if_neg l] at e
      cases e
  · rename_i f i g j
    have e : (if i.length + j.length ≤ 1000000 then some (if i.isEmpty = true then PV.tup g j else if j.isEmpty = true then .tup f i else .tup false (i ++ j)) else none) = some c := e
    by_cases l : i.length + j.length ≤ 1000000
    · rw [if_pos l] at e
      have e := Option.some.inj e
      obtain ⟨p, vs, e1, h1, r1⟩ := rp_tup.mp ra
      obtain ⟨p', us, e2, h2, r2⟩ := rp_tup.mp rb
      have empt : ∀ {zs : List PV} {ws : List V} {H : Hp}, RpA κ zs ws H → (ws = [] ↔ zs = []) := fun {zs ws H} r => by
        have := r.len
        constructor
        · intro e
          rw [e] at this
          exact List.eq_nil_of_length_eq_zero this.symm
        · intro e
          rw [e] at this
          exact List.eq_nil_of_length_eq_zero this
      refine .inr (.inr (.inr ⟨p, p', vs, us, e1, e2, h1.unmsk.sq, h2.unmsk.sq, by rw [r1.len, r2.len]; exact sz_le l, fun z => ?_, fun y z => ?_, fun y z t ht => ?_⟩))
      · have := (empt r1).mp z
        subst this
        rw [← e] at q
        exact q H _ (Same.refl H) (rp_tup.mpr ⟨p', us, rfl, h2, r2⟩)
      · have z := (empt r2).mp z
        have y : i ≠ [] := fun w => y ((empt r1).mpr w)
        subst z
        rw [if_neg (by simpa using y), if_pos (show ([] : List PV).isEmpty = true from rfl)] at e
        rw [← e] at q
        exact q H _ (Same.refl H) (rp_tup.mpr ⟨p, vs, rfl, h1, r1⟩)
      · have z : j ≠ [] := fun w => z ((empt r2).mpr w)
        have y : i ≠ [] := fun w => y ((empt r1).mpr w)
        rw [if_neg (by simpa using y), if_neg (by simpa using z)] at e
        rw [← e] at q
        exact q _ _ (same_new ht) (rp_newT al ht (r1.app r2))
    · rw [if_neg l] at e
      cases e
  · rename_i i j
    have e : (if i.length + j.length ≤ 1000000 then some (PV.lst (i ++ j)) else none) = some c := e
    by_cases l : i.length + j.length ≤ 1000000
    · rw [if_pos l] at e
      cases e
      obtain ⟨p, vs, e1, h1, r1⟩ := rp_lst.mp ra
      obtain ⟨p', us, e2, h2, r2⟩ := rp_lst.mp rb
      exact .inr (.inr (.inl ⟨p, p', vs, us, e1, e2, (msk_of h1).1, (msk_of h2).1, by rw [r1.len, r2.len]; exact sz_le l, fun t ht => q _ _ (same_new ht) (rp_newL al ht (r1.app r2))⟩))
    · rw [if_neg l] at e
      cases e
abbrev rMul : R2 := fun x y H Q => rI CMulW (fun i j => .int (i * j)) x y H Q ∨ rRep x y H Q
theorem op_mulP : OpR X (binaryOp .Mult) rMul := op_mulW.or op_rep
theorem rpA_rep {zs : List PV} {ws : List V} {H : Hp} (r : RpA κ zs ws H) : ∀ k : Nat, RpA κ (List.replicate k zs).flatten (List.replicate k ws).flatten H
  | 0 => rpA_nil
  | k + 1 => by
    rw [List.replicate_succ, List.replicate_succ, List.flatten_cons, List.flatten_cons]
    exact r.app (rpA_rep r k)
theorem rdo_mul : RDo κ rMul gMul := fun a b c x y M H Q e ra rb al q => by
  cases a <;> cases b <;> (first | (cases e; done) | skip)
  · rename_i i j
    have e : (if i.natAbs.log2 + j.natAbs.log2 < 1000000 then some (PV.int (i * j)) else none) = some c := e
    by_cases l : i.natAbs.log2 + j.natAbs.log2 < 1000000
    · rw [if_pos l] at e
      cases e
      exact .inl ⟨i, j, rp_int.mp ra, rp_int.mp rb, l, q H _ (Same.refl H) (rp_int.mpr rfl)⟩
    · rw [if_neg l] at e
      cases e
  · rename_i i k
    have e : (if 0 ≤ k ∧ k ≤ 1000 ∧ i.length * k.toNat ≤ 1000000 then some (PV.lst (List.replicate k.toNat i).flatten) else none) = some c := e
    by_cases l : 0 ≤ k ∧ k ≤ 1000 ∧ i.length * k.toNat ≤ 1000000
    · rw [if_pos l] at e
      cases e
      obtain ⟨p, vs, e1, h1, r1⟩ := rp_lst.mp ra
      exact .inr ⟨p, k, vs, e1, rp_int.mp rb, (msk_of h1).1, by omega, by omega, by rw [r1.len]; exact sz_le l.2.2, fun t ht => q _ _ (same_new ht) (rp_newL al ht (rpA_rep r1 _))⟩
    · rw [if_neg l] at e
      cases e
end
end QX

set_option Elab.async false
set_option linter.all false
set_option maxRecDepth 100000
set_option maxHeartbeats 4000000
namespace PySem.SeqAt
open AutoSeq1 (wpAny_loadPart')
open MeetsSeq
/-- a dict stands there -/
def _root_.PySem.Heap.IsDict (h : Heap) (a : Addr) : Prop := ∃ o es n, h.get? a = some o ∧ o.cls = .type "dict" ∧ o.data = .dict es n
theorem sub_dict_NoneType' : isSubtype (.type "dict") (.type "NoneType") = pure false := by rw [isSubtype_type]; kernel_rfl
theorem sub_dict_bool' : isSubtype (.type "dict") (.type "bool") = pure false := by rw [isSubtype_type]; kernel_rfl
theorem sub_dict_int' : isSubtype (.type "dict") (.type "int") = pure false := by rw [isSubtype_type]; kernel_rfl
theorem sub_dict_str' : isSubtype (.type "dict") (.type "str") = pure false := by rw [isSubtype_type]; kernel_rfl
theorem sub_dict_list' : isSubtype (.type "dict") (.type "list") = pure false := by rw [isSubtype_type]; kernel_rfl
theorem sub_dict_tuple' : isSubtype (.type "dict") (.type "tuple") = pure false := by rw [isSubtype_type]; kernel_rfl
theorem sub_NoneType_dict' : isSubtype (.type "NoneType") (.type "dict") = pure false := by rw [isSubtype_type]; kernel_rfl
theorem sub_bool_dict' : isSubtype (.type "bool") (.type "dict") = pure false := by rw [isSubtype_type]; kernel_rfl
theorem sub_int_dict' : isSubtype (.type "int") (.type "dict") = pure false := by rw [isSubtype_type]; kernel_rfl
theorem sub_str_dict' : isSubtype (.type "str") (.type "dict") = pure false := by rw [isSubtype_type]; kernel_rfl
theorem sub_list_dict' : isSubtype (.type "list") (.type "dict") = pure false := by rw [isSubtype_type]; kernel_rfl
theorem sub_tuple_dict' : isSubtype (.type "tuple") (.type "dict") = pure false := by rw [isSubtype_type]; kernel_rfl
section
variable {A : Around} {s : Shared} {prog : Program} {w : World} {E : Value → Shared → Prop}
theorem IsDict.typeIs {a : Addr} (h : s.heap.IsDict a) : s.TypeIs (.ref a) "dict" := by
  obtain ⟨o, _, _, ho, hc, _⟩ := h
  exact ⟨o, ho, hc⟩
theorem dict_decl {l : Addr} {x : Value} {T : String} (ha : s.TypeIs (.ref l) "dict") (hx : s.TypeIs x T) (hs : isSubtype (.type T) (.type "dict") = pure false) (Q' : Value → Shared → Prop) (hq : Q' .notImplemented s) :
    wpAny (model prog w) A (call (.builtin "dict.__eq__") [.ref l, x]) Q' E s := by
  refine wpAny_call_entry PySem.F.slot_dict_eq ha PySem.F.entry_dict_eq ?_ (PySem.F.args_dict_eq_2 _ _)
  show wpAny _ _ (Builtin.Dict.dictSlotArgs "__eq__" ⟨[.ref l, x], []⟩ >>= _) _ _ s
  refine wpAny_bind ?_
  unfold Builtin.Dict.dictSlotArgs
  refine wpAny_bind (wpAny_notOrdered_dict ha ?_)
  show wpAny _ _ (pure (Value.ref l, x)) _ _ s
  refine wpAny_pure ?_
  refine wpAny_bind (wpAny_isInstance hx hs ?_)
  simp only [Bool.not_false, if_true]
  exact wpAny_bind (wpAny_rule (wpAny_bind (wpAny_pure (wpAny_pure ⟨_, rfl, hq⟩))))
theorem bool_decl_dict (b : Bool) (l : Addr) (dd : Option Addr) (es : Array DictEntry) (n : Nat) (sl : Array (Option Value)) :
    Meets (Builtin.«int.__eq__» ⟨[.bool b, .ref l], []⟩) (fun _ R s => s.heap.get? l = some { cls := .type "dict", dict := dd, data := .dict es n, slots := sl } ∧ R (.ok (.ret .notImplemented)) s) :=
  .of_wp fun prog w A R s h => by obtain ⟨hp, g, d, tk, os⟩ := s; obtain ⟨hl, h⟩ := h; wp_walk using wpAny_loadPart' hl, wpAny_load hl; exact ⟨_, rfl, h⟩
theorem int_decl_dict (b : Int) (u : Tok) (l : Addr) (dd : Option Addr) (es : Array DictEntry) (n : Nat) (sl : Array (Option Value)) :
    Meets (Builtin.«int.__eq__» ⟨[.int b u, .ref l], []⟩) (fun _ R s => s.heap.get? l = some { cls := .type "dict", dict := dd, data := .dict es n, slots := sl } ∧ R (.ok (.ret .notImplemented)) s) :=
  .of_wp fun prog w A R s h => by obtain ⟨hp, g, d, tk, os⟩ := s; obtain ⟨hl, h⟩ := h; wp_walk using wpAny_loadPart' hl, wpAny_load hl; exact ⟨_, rfl, h⟩
theorem str_decl_dict (b : Str) (u : Tok) (l : Addr) (dd : Option Addr) (es : Array DictEntry) (n : Nat) (sl : Array (Option Value)) :
    Meets (Builtin.«str.__eq__» ⟨[.str b u, .ref l], []⟩) (fun _ R s => s.heap.get? l = some { cls := .type "dict", dict := dd, data := .dict es n, slots := sl } ∧ R (.ok (.ret .notImplemented)) s) :=
  .of_wp fun prog w A R s h => by obtain ⟨hp, g, d, tk, os⟩ := s; obtain ⟨hl, h⟩ := h; wp_walk using wpAny_loadPart' hl, wpAny_load hl; exact ⟨_, rfl, h⟩
theorem list_decl_dict (l b : Addr) (items : Array Value) (n n2 : Nat) (dd dd2 : Option Addr) (es : Array DictEntry) (sl sl2 : Array (Option Value)) :
    Meets (Builtin.«list.__eq__» ⟨[.ref l, .ref b], []⟩) (fun _ R s => s.heap.get? l = some { cls := .type "list", dict := dd, data := .seq items n, slots := sl } ∧ s.heap.get? b = some { cls := .type "dict", dict := dd2, data := .dict es n2, slots := sl2 } ∧ R (.ok (.ret .notImplemented)) s) :=
  .of_wp fun prog w A R s h => by obtain ⟨hp, g, d, tk, os⟩ := s; obtain ⟨hl, hb, h⟩ := h; have f1 := sub_dict_list'; wp_walk using wpAny_loadPart' hl, wpAny_loadPart' hb; exact ⟨_, rfl, h⟩
theorem tuple_decl_dict (l b : Addr) (items : Array Value) (n n2 : Nat) (dd dd2 : Option Addr) (es : Array DictEntry) (sl sl2 : Array (Option Value)) :
    Meets (Builtin.«tuple.__eq__» ⟨[.ref l, .ref b], []⟩) (fun _ R s => s.heap.get? l = some { cls := .type "tuple", dict := dd, data := .seq items n, slots := sl } ∧ s.heap.get? b = some { cls := .type "dict", dict := dd2, data := .dict es n2, slots := sl2 } ∧ R (.ok (.ret .notImplemented)) s) :=
  .of_wp fun prog w A R s h => by obtain ⟨hp, g, d, tk, os⟩ := s; obtain ⟨hl, hb, h⟩ := h; have f1 := sub_dict_tuple'; wp_walk using wpAny_loadPart' hl, wpAny_loadPart' hb; exact ⟨_, rfl, h⟩
theorem RcAt.none_dict {d : Addr} (hd : s.heap.IsDict d) (hu : A.units < cLine) : RcAt A s .none (.ref d) false := fun prog w E Q h => by
  have ht := IsDict.typeIs hd
  obtain ⟨⟨cls, dd, data, sl⟩, es, n, ho, hc, hd⟩ := hd
  simp only at hc hd
  subst hc hd
  exact rc_eq_decline_or (k := false) rfl ht (by decide) sub_dict_NoneType' F.slot_NoneType_eq PySem.F.slot_dict_eq_refl
    (fun _ hq => call_gives F.slot_NoneType_eq rfl F.entry_NoneType_eq (F.args_NoneType_eq_2 _ _) (NoneType___eq___none_ref_0 d) hq)
    (fun Q' hq => dict_decl (x := .none) (T := "NoneType") ht rfl sub_NoneType_dict' Q' hq)
    (fun _ hq => wpAny_of_eq (rfl : isSame .none (.ref d) = pure false) hq) (.inr hu) h
theorem RcAt.dict_none {d : Addr} (hd : s.heap.IsDict d) (hu : A.units < cLine) : RcAt A s (.ref d) .none false := fun prog w E Q h => by
  have ht := IsDict.typeIs hd
  obtain ⟨⟨cls, dd, data, sl⟩, es, n, ho, hc, hd⟩ := hd
  simp only at hc hd
  subst hc hd
  exact rc_eq_decline_or (k := false) ht rfl (by decide) sub_NoneType_dict' PySem.F.slot_dict_eq F.slot_NoneType_eq_refl
    (fun Q' hq => dict_decl (x := .none) (T := "NoneType") ht rfl sub_NoneType_dict' Q' hq)
    (fun _ hq => call_gives F.slot_NoneType_eq_refl rfl F.entry_NoneType_eq (F.args_NoneType_eq_2 _ _) (NoneType___eq___none_ref_0 d) hq)
    (fun _ hq => wpAny_of_eq (rfl : isSame (.ref d) .none = pure false) hq) (.inr hu) h
theorem EqAt.none_dict {d : Addr} (hd : s.heap.IsDict d) (hu : A.units < cLine) : EqAt A s .none (.ref d) false := fun prog w E Q h => by
  unfold eqBool
  refine wpAny_holding ?_
  refine wpAny_ite_split (fun hab => absurd (eq_of_beq hab) nofun) (fun _ => ?_)
  exact wpAny_bind (RcAt.none_dict hd hu prog w E _ (wpAny_truthy_bool h))
theorem EqAt.dict_none {d : Addr} (hd : s.heap.IsDict d) (hu : A.units < cLine) : EqAt A s (.ref d) .none false := fun prog w E Q h => by
  unfold eqBool
  refine wpAny_holding ?_
  refine wpAny_ite_split (fun hab => absurd (eq_of_beq hab) nofun) (fun _ => ?_)
  exact wpAny_bind (RcAt.dict_none hd hu prog w E _ (wpAny_truthy_bool h))
theorem RcAt.bool_dict {d : Addr} (b : Bool) (hd : s.heap.IsDict d) (hu : A.units < cLine) : RcAt A s (.bool b) (.ref d) false := fun prog w E Q h => by
  have ht := IsDict.typeIs hd
  obtain ⟨⟨cls, dd, data, sl⟩, es, n, ho, hc, hd⟩ := hd
  simp only at hc hd
  subst hc hd
  exact rc_eq_decline_or (k := false) rfl ht (by decide) sub_dict_bool' F.slot_bool_eq PySem.F.slot_dict_eq_refl
    (fun _ hq => call_meets F.slot_bool_eq rfl F.entry_int_eq (F.args_int_eq_2 _ _) (bool_decl_dict b d dd es n sl) ⟨ho, hq⟩)
    (fun Q' hq => dict_decl (x := .bool b) (T := "bool") ht rfl sub_bool_dict' Q' hq)
    (fun _ hq => wpAny_of_eq (rfl : isSame (.bool b) (.ref d) = pure false) hq) (.inr hu) h
theorem RcAt.dict_bool {d : Addr} (b : Bool) (hd : s.heap.IsDict d) (hu : A.units < cLine) : RcAt A s (.ref d) (.bool b) false := fun prog w E Q h => by
  have ht := IsDict.typeIs hd
  obtain ⟨⟨cls, dd, data, sl⟩, es, n, ho, hc, hd⟩ := hd
  simp only at hc hd
  subst hc hd
  exact rc_eq_decline_or (k := false) ht rfl (by decide) sub_bool_dict' PySem.F.slot_dict_eq F.slot_bool_eq_refl
    (fun Q' hq => dict_decl (x := .bool b) (T := "bool") ht rfl sub_bool_dict' Q' hq)
    (fun _ hq => call_meets F.slot_bool_eq_refl rfl F.entry_int_eq (F.args_int_eq_2 _ _) (bool_decl_dict b d dd es n sl) ⟨ho, hq⟩)
    (fun _ hq => wpAny_of_eq (rfl : isSame (.ref d) (.bool b) = pure false) hq) (.inr hu) h
theorem EqAt.bool_dict {d : Addr} (b : Bool) (hd : s.heap.IsDict d) (hu : A.units < cLine) : EqAt A s (.bool b) (.ref d) false := fun prog w E Q h => by
  unfold eqBool
  refine wpAny_holding ?_
  refine wpAny_ite_split (fun hab => absurd (eq_of_beq hab) nofun) (fun _ => ?_)
  exact wpAny_bind (RcAt.bool_dict b hd hu prog w E _ (wpAny_truthy_bool h))
theorem EqAt.dict_bool {d : Addr} (b : Bool) (hd : s.heap.IsDict d) (hu : A.units < cLine) : EqAt A s (.ref d) (.bool b) false := fun prog w E Q h => by
  unfold eqBool
  refine wpAny_holding ?_
  refine wpAny_ite_split (fun hab => absurd (eq_of_beq hab) nofun) (fun _ => ?_)
  exact wpAny_bind (RcAt.dict_bool b hd hu prog w E _ (wpAny_truthy_bool h))
theorem RcAt.int_dict {d : Addr} (b : Int) (u : Tok) (hd : s.heap.IsDict d) (hu : A.units < cLine) : RcAt A s (.int b u) (.ref d) false := fun prog w E Q h => by
  have ht := IsDict.typeIs hd
  obtain ⟨⟨cls, dd, data, sl⟩, es, n, ho, hc, hd⟩ := hd
  simp only at hc hd
  subst hc hd
  exact rc_eq_decline_or (k := false) (typeIs_int s b u) ht (by decide) sub_dict_int' F.slot_int_eq PySem.F.slot_dict_eq_refl
    (fun _ hq => call_meets F.slot_int_eq (typeIs_int s b u) F.entry_int_eq (F.args_int_eq_2 _ _) (int_decl_dict b u d dd es n sl) ⟨ho, hq⟩)
    (fun Q' hq => dict_decl (x := .int b u) (T := "int") ht (typeIs_int s b u) sub_int_dict' Q' hq)
    (fun _ hq => wpAny_of_eq (rfl : isSame (.int b u) (.ref d) = pure false) hq) (.inr hu) h
theorem RcAt.dict_int {d : Addr} (b : Int) (u : Tok) (hd : s.heap.IsDict d) (hu : A.units < cLine) : RcAt A s (.ref d) (.int b u) false := fun prog w E Q h => by
  have ht := IsDict.typeIs hd
  obtain ⟨⟨cls, dd, data, sl⟩, es, n, ho, hc, hd⟩ := hd
  simp only at hc hd
  subst hc hd
  exact rc_eq_decline_or (k := false) ht (typeIs_int s b u) (by decide) sub_int_dict' PySem.F.slot_dict_eq F.slot_int_eq_refl
    (fun Q' hq => dict_decl (x := .int b u) (T := "int") ht (typeIs_int s b u) sub_int_dict' Q' hq)
    (fun _ hq => call_meets F.slot_int_eq_refl (typeIs_int s b u) F.entry_int_eq (F.args_int_eq_2 _ _) (int_decl_dict b u d dd es n sl) ⟨ho, hq⟩)
    (fun _ hq => wpAny_of_eq (rfl : isSame (.ref d) (.int b u) = pure false) hq) (.inr hu) h
theorem EqAt.int_dict {d : Addr} (b : Int) (u : Tok) (hd : s.heap.IsDict d) (hu : A.units < cLine) : EqAt A s (.int b u) (.ref d) false := fun prog w E Q h => by
  unfold eqBool
  refine wpAny_holding ?_
  refine wpAny_ite_split (fun hab => absurd (eq_of_beq hab) nofun) (fun _ => ?_)
  exact wpAny_bind (RcAt.int_dict b u hd hu prog w E _ (wpAny_truthy_bool h))
theorem EqAt.dict_int {d : Addr} (b : Int) (u : Tok) (hd : s.heap.IsDict d) (hu : A.units < cLine) : EqAt A s (.ref d) (.int b u) false := fun prog w E Q h => by
  unfold eqBool
  refine wpAny_holding ?_
  refine wpAny_ite_split (fun hab => absurd (eq_of_beq hab) nofun) (fun _ => ?_)
  exact wpAny_bind (RcAt.dict_int b u hd hu prog w E _ (wpAny_truthy_bool h))
theorem RcAt.str_dict {d : Addr} (b : Str) (u : Tok) (hd : s.heap.IsDict d) (hu : A.units < cLine) : RcAt A s (.str b u) (.ref d) false := fun prog w E Q h => by
  have ht := IsDict.typeIs hd
  obtain ⟨⟨cls, dd, data, sl⟩, es, n, ho, hc, hd⟩ := hd
  simp only at hc hd
  subst hc hd
  exact rc_eq_decline_or (k := false) (typeIs_str s b u) ht (by decide) sub_dict_str' F.slot_str_eq PySem.F.slot_dict_eq_refl
    (fun _ hq => call_meets F.slot_str_eq (typeIs_str s b u) F.entry_str_eq (F.args_str_eq_2 _ _) (str_decl_dict b u d dd es n sl) ⟨ho, hq⟩)
    (fun Q' hq => dict_decl (x := .str b u) (T := "str") ht (typeIs_str s b u) sub_str_dict' Q' hq)
    (fun _ hq => wpAny_of_eq (rfl : isSame (.str b u) (.ref d) = pure false) hq) (.inr hu) h
theorem RcAt.dict_str {d : Addr} (b : Str) (u : Tok) (hd : s.heap.IsDict d) (hu : A.units < cLine) : RcAt A s (.ref d) (.str b u) false := fun prog w E Q h => by
  have ht := IsDict.typeIs hd
  obtain ⟨⟨cls, dd, data, sl⟩, es, n, ho, hc, hd⟩ := hd
  simp only at hc hd
  subst hc hd
  exact rc_eq_decline_or (k := false) ht (typeIs_str s b u) (by decide) sub_str_dict' PySem.F.slot_dict_eq F.slot_str_eq_refl
    (fun Q' hq => dict_decl (x := .str b u) (T := "str") ht (typeIs_str s b u) sub_str_dict' Q' hq)
    (fun _ hq => call_meets F.slot_str_eq_refl (typeIs_str s b u) F.entry_str_eq (F.args_str_eq_2 _ _) (str_decl_dict b u d dd es n sl) ⟨ho, hq⟩)
    (fun _ hq => wpAny_of_eq (rfl : isSame (.ref d) (.str b u) = pure false) hq) (.inr hu) h
theorem EqAt.str_dict {d : Addr} (b : Str) (u : Tok) (hd : s.heap.IsDict d) (hu : A.units < cLine) : EqAt A s (.str b u) (.ref d) false := fun prog w E Q h => by
  unfold eqBool
  refine wpAny_holding ?_
  refine wpAny_ite_split (fun hab => absurd (eq_of_beq hab) nofun) (fun _ => ?_)
  exact wpAny_bind (RcAt.str_dict b u hd hu prog w E _ (wpAny_truthy_bool h))
theorem EqAt.dict_str {d : Addr} (b : Str) (u : Tok) (hd : s.heap.IsDict d) (hu : A.units < cLine) : EqAt A s (.ref d) (.str b u) false := fun prog w E Q h => by
  unfold eqBool
  refine wpAny_holding ?_
  refine wpAny_ite_split (fun hab => absurd (eq_of_beq hab) nofun) (fun _ => ?_)
  exact wpAny_bind (RcAt.dict_str b u hd hu prog w E _ (wpAny_truthy_bool h))
theorem ne_of_list_dict {l d : Addr} {items : Array Value} (hl : s.heap.IsList l items) (hd : s.heap.IsDict d) : l ≠ d := fun e => by
  subst e
  obtain ⟨o, ho, hc, _⟩ := hl
  obtain ⟨o2, _, _, ho2, hc2, _⟩ := hd
  rw [ho] at ho2
  cases ho2
  rw [hc] at hc2
  exact absurd hc2 (by simp)
theorem RcAt.list_dict {l d : Addr} {items : Array Value} (hl : s.heap.IsList l items) (hd : s.heap.IsDict d) (hu : A.units < cLine) : RcAt A s (.ref l) (.ref d) false := fun prog w E Q h => by
  have hne := ne_of_list_dict hl hd
  have ht := IsDict.typeIs hd
  obtain ⟨⟨cls, dd, data, sl⟩, ho, hc, n, hdd⟩ := id hl
  obtain ⟨⟨cls2, dd2, data2, sl2⟩, es, n2, ho2, hc2, hd2⟩ := id hd
  simp only at hc hdd hc2 hd2
  subst hc hdd hc2 hd2
  exact (rc_eq_decline_or (k := false) ⟨_, ho, rfl⟩ ht (by decide) sub_dict_list' F.slot_list_eq PySem.F.slot_dict_eq_refl
    (fun _ hq => call_meets F.slot_list_eq ⟨_, ho, rfl⟩ F.entry_list_eq (F.args_list_eq_2 _ _) (list_decl_dict l d items n n2 dd dd2 es sl sl2) ⟨ho, ho2, hq⟩)
    (fun Q' hq => dict_decl (x := .ref l) (T := "list") ht ⟨_, ho, rfl⟩ sub_list_dict' Q' hq)
    (fun _ hq => wpAny_isSame_ref_other' hne ho ho2 (by simp) hq) (.inr hu) h)
theorem RcAt.dict_list {l d : Addr} {items : Array Value} (hl : s.heap.IsList l items) (hd : s.heap.IsDict d) (hu : A.units < cLine) : RcAt A s (.ref d) (.ref l) false := fun prog w E Q h => by
  have hne := (ne_of_list_dict hl hd).symm
  have ht := IsDict.typeIs hd
  obtain ⟨⟨cls, dd, data, sl⟩, ho, hc, n, hdd⟩ := id hl
  obtain ⟨⟨cls2, dd2, data2, sl2⟩, es, n2, ho2, hc2, hd2⟩ := id hd
  simp only at hc hdd hc2 hd2
  subst hc hdd hc2 hd2
  exact (rc_eq_decline_or (k := false) ht ⟨_, ho, rfl⟩ (by decide) sub_list_dict' PySem.F.slot_dict_eq F.slot_list_eq_refl
    (fun Q' hq => dict_decl (x := .ref l) (T := "list") ht ⟨_, ho, rfl⟩ sub_list_dict' Q' hq)
    (fun _ hq => call_meets F.slot_list_eq_refl ⟨_, ho, rfl⟩ F.entry_list_eq (F.args_list_eq_2 _ _) (list_decl_dict l d items n n2 dd dd2 es sl sl2) ⟨ho, ho2, hq⟩)
    (fun _ hq => wpAny_isSame_ref_other hne ho2 ho (by simp) hq) (.inr hu) h)
theorem EqAt.list_dict {l d : Addr} {items : Array Value} (hl : s.heap.IsList l items) (hd : s.heap.IsDict d) (hu : A.units < cLine) : EqAt A s (.ref l) (.ref d) false := .of_refs (ne_of_list_dict hl hd) (.list_dict hl hd hu)
theorem EqAt.dict_list {l d : Addr} {items : Array Value} (hl : s.heap.IsList l items) (hd : s.heap.IsDict d) (hu : A.units < cLine) : EqAt A s (.ref d) (.ref l) false := .of_refs (ne_of_list_dict hl hd).symm (.dict_list hl hd hu)
theorem ne_of_tuple_dict {l d : Addr} {items : Array Value} (hl : s.heap.IsTuple l items) (hd : s.heap.IsDict d) : l ≠ d := fun e => by
  subst e
  obtain ⟨o, ho, hc, _⟩ := hl
  obtain ⟨o2, _, _, ho2, hc2, _⟩ := hd
  rw [ho] at ho2
  cases ho2
  rw [hc] at hc2
  exact absurd hc2 (by simp)
theorem RcAt.tuple_dict {l d : Addr} {items : Array Value} (hl : s.heap.IsTuple l items) (hd : s.heap.IsDict d) (hu : A.units < cLine) : RcAt A s (.ref l) (.ref d) false := fun prog w E Q h => by
  have hne := ne_of_tuple_dict hl hd
  have ht := IsDict.typeIs hd
  obtain ⟨⟨cls, dd, data, sl⟩, ho, hc, n, hdd⟩ := id hl
  obtain ⟨⟨cls2, dd2, data2, sl2⟩, es, n2, ho2, hc2, hd2⟩ := id hd
  simp only at hc hdd hc2 hd2
  subst hc hdd hc2 hd2
  exact (rc_eq_decline_or (k := false) ⟨_, ho, rfl⟩ ht (by decide) sub_dict_tuple' F.slot_tuple_eq PySem.F.slot_dict_eq_refl
    (fun _ hq => call_meets F.slot_tuple_eq ⟨_, ho, rfl⟩ F.entry_tuple_eq (F.args_tuple_eq_2 _ _) (tuple_decl_dict l d items n n2 dd dd2 es sl sl2) ⟨ho, ho2, hq⟩)
    (fun Q' hq => dict_decl (x := .ref l) (T := "tuple") ht ⟨_, ho, rfl⟩ sub_tuple_dict' Q' hq)
    (fun _ hq => wpAny_isSame_ref_other' hne ho ho2 (by simp) hq) (.inr hu) h)
theorem RcAt.dict_tuple {l d : Addr} {items : Array Value} (hl : s.heap.IsTuple l items) (hd : s.heap.IsDict d) (hu : A.units < cLine) : RcAt A s (.ref d) (.ref l) false := fun prog w E Q h => by
  have hne := (ne_of_tuple_dict hl hd).symm
  have ht := IsDict.typeIs hd
  obtain ⟨⟨cls, dd, data, sl⟩, ho, hc, n, hdd⟩ := id hl
  obtain ⟨⟨cls2, dd2, data2, sl2⟩, es, n2, ho2, hc2, hd2⟩ := id hd
  simp only at hc hdd hc2 hd2
  subst hc hdd hc2 hd2
  exact (rc_eq_decline_or (k := false) ht ⟨_, ho, rfl⟩ (by decide) sub_tuple_dict' PySem.F.slot_dict_eq F.slot_tuple_eq_refl
    (fun Q' hq => dict_decl (x := .ref l) (T := "tuple") ht ⟨_, ho, rfl⟩ sub_tuple_dict' Q' hq)
    (fun _ hq => call_meets F.slot_tuple_eq_refl ⟨_, ho, rfl⟩ F.entry_tuple_eq (F.args_tuple_eq_2 _ _) (tuple_decl_dict l d items n n2 dd dd2 es sl sl2) ⟨ho, ho2, hq⟩)
    (fun _ hq => wpAny_isSame_ref_other hne ho2 ho (by simp) hq) (.inr hu) h)
theorem EqAt.tuple_dict {l d : Addr} {items : Array Value} (hl : s.heap.IsTuple l items) (hd : s.heap.IsDict d) (hu : A.units < cLine) : EqAt A s (.ref l) (.ref d) false := .of_refs (ne_of_tuple_dict hl hd) (.tuple_dict hl hd hu)
theorem EqAt.dict_tuple {l d : Addr} {items : Array Value} (hl : s.heap.IsTuple l items) (hd : s.heap.IsDict d) (hu : A.units < cLine) : EqAt A s (.ref d) (.ref l) false := .of_refs (ne_of_tuple_dict hl hd).symm (.dict_tuple hl hd hu)
end
end PySem.SeqAt

set_option Elab.async false
set_option linter.all false
set_option maxRecDepth 100000
set_option maxHeartbeats 4000000
namespace PySem.SeqAt
open MeetsSeq
/-! ### data beside data, dicts too, but no dict beside a dict -/
mutual
def cmpX : PyData → PyData → Bool
  | .dict _, .dict _ => false
  | .list xs, .list ys => cmpXs xs ys
  | .tuple xs, .tuple ys => cmpXs xs ys
  | _, _ => true
def cmpXs : List PyData → List PyData → Bool
  | x :: xs, y :: ys => cmpX x y && cmpXs xs ys
  | _, _ => true
end
mutual
theorem cmp_lay : ∀ d e : PyData, d.canLay0 = true → cmpX d e = true
  | .none, e, h => by cases e <;> simp [cmpX]
  | .bool _, e, h => by cases e <;> simp [cmpX]
  | .int _, e, h => by cases e <;> simp [cmpX]
  | .str _, e, h => by cases e <;> simp [cmpX]
  | .list xs, e, h => by
    cases e <;> simp only [cmpX]
    exact cmps_lay xs _ (by simpa [PyData.canLay0] using h)
  | .tuple xs, e, h => by
    cases e <;> simp only [cmpX]
    exact cmps_lay xs _ (by simpa [PyData.canLay0] using h)
  | .dict _, e, h => by simp [PyData.canLay0] at h
theorem cmps_lay : ∀ ds es : List PyData, PyData.canLayAll0 ds = true → cmpXs ds es = true
  | [], es, h => by simp [cmpXs]
  | d :: ds, [], h => by simp [cmpXs]
  | d :: ds, e :: es, h => by
    have h : d.canLay0 = true ∧ PyData.canLayAll0 ds = true := by simpa [PyData.canLayAll0] using h
    simp only [cmpXs, cmp_lay d e h.1, cmps_lay ds es h.2, Bool.and_self]
end
mutual
/-- one thing, read twice -/
theorem read2 {h : Heap} : ∀ (d e : PyData) (v : Value) (as bs : List Addr), cmpX d e = true → Reads h v d as → Reads h v e bs → PyData.eqv d e = true
  | .none, _, _, _, _, _, r, q => by cases r; cases q; simp [PyData.eqv]
  | .bool _, _, _, _, _, _, r, q => by cases r; cases q; simp [PyData.eqv]
  | .int _, _, _, _, _, _, r, q => by cases r; cases q; simp [PyData.eqv]
  | .str _, _, _, _, _, _, r, q => by cases r; cases q; simp [PyData.eqv]
  | .list xs, e, _, _, _, c, r, q => by
    cases r with
    | list a1 a2 a3 a4 =>
      cases q with
      | list b1 b2 b3 b4 =>
        rw [a1] at b1; cases b1
        rw [a3] at b3; cases b3
        simp only [cmpX] at c
        simp only [PyData.eqv]
        exact reads2 xs _ _ _ _ c a4 b4
      | tuple b1 b2 b3 b4 => rw [a1] at b1; cases b1; rw [a2] at b2; exact absurd b2 (by simp)
      | dict b1 b2 b3 b4 b5 => rw [a1] at b1; cases b1; rw [a2] at b2; exact absurd b2 (by simp)
  | .tuple xs, e, _, _, _, c, r, q => by
    cases r with
    | tuple a1 a2 a3 a4 =>
      cases q with
      | tuple b1 b2 b3 b4 =>
        rw [a1] at b1; cases b1
        rw [a3] at b3; cases b3
        simp only [cmpX] at c
        simp only [PyData.eqv]
        exact reads2 xs _ _ _ _ c a4 b4
      | list b1 b2 b3 b4 => rw [a1] at b1; cases b1; rw [a2] at b2; exact absurd b2 (by simp)
      | dict b1 b2 b3 b4 b5 => rw [a1] at b1; cases b1; rw [a2] at b2; exact absurd b2 (by simp)
  | .dict _, e, _, _, _, c, r, q => by
    cases r with
    | dict a1 a2 a3 a4 a5 =>
      cases q with
      | list b1 b2 b3 b4 => rw [a1] at b1; cases b1; rw [a2] at b2; exact absurd b2 (by simp)
      | tuple b1 b2 b3 b4 => rw [a1] at b1; cases b1; rw [a2] at b2; exact absurd b2 (by simp)
      | dict b1 b2 b3 b4 b5 => simp [cmpX] at c
theorem reads2 {h : Heap} : ∀ (xs ys : List PyData) (vs : List Value) (as bs : List Addr), cmpXs xs ys = true → ReadsAll h vs xs as → ReadsAll h vs ys bs → PyData.eqvAll xs ys = true
  | [], _, _, _, _, _, r, q => by cases r; cases q; simp [PyData.eqvAll]
  | x :: xs, _, _, _, _, c, r, q => by
    cases r with
    | cons a1 a2 =>
      cases q with
      | cons b1 b2 =>
        simp only [cmpXs, Bool.and_eq_true] at c
        simp only [PyData.eqvAll, read2 x _ _ _ _ c.1 a1 b1, reads2 xs _ _ _ _ c.2 a2 b2, Bool.and_self]
end
section
variable {A : Around} {s : Shared}
/-- things of two kinds -/
theorem unlike_at {da db : PyData} {a b : Value} {as bs : List Addr} (ra : Reads s.heap a da as) (rb : Reads s.heap b db bs) (c : cmpX da db = true) (hu : A.units < cLine)
    (hl : ∀ xs ys, da = .list xs → db = .list ys → False) (ht : ∀ xs ys, da = .tuple xs → db = .tuple ys → False) : EqAt A s a b (PyData.eqv da db) ∧ RcAt A s a b (PyData.eqv da db) := by
  cases ra with
  | none =>
    cases rb with
    | none => exact ⟨EqAt.same _, RcAt.none_none⟩
    | bool y => exact ⟨EqAt.none_bool y, RcAt.none_bool y⟩
    | int y u => exact ⟨EqAt.none_int y u, RcAt.none_int y u⟩
    | str y u => exact ⟨EqAt.none_str y u, RcAt.none_str y u⟩
    | list k1 k2 k3 k4 => exact ⟨EqAt.none_list ⟨_, k1, k2, _, k3⟩ hu, RcAt.none_list ⟨_, k1, k2, _, k3⟩ hu⟩
    | tuple k1 k2 k3 k4 => exact ⟨EqAt.none_tuple ⟨_, k1, k2, _, k3⟩ hu, RcAt.none_tuple ⟨_, k1, k2, _, k3⟩ hu⟩
    | dict k1 k2 k3 k4 k5 => exact ⟨EqAt.none_dict ⟨_, _, _, k1, k2, k3⟩ hu, RcAt.none_dict ⟨_, _, _, k1, k2, k3⟩ hu⟩
  | bool x =>
    cases rb with
    | none => exact ⟨EqAt.bool_none x, RcAt.bool_none x⟩
    | bool y => exact ⟨EqAt.bool_bool x y, RcAt.bool_bool x y⟩
    | int y u => exact ⟨EqAt.bool_int x y u, RcAt.bool_int x y u⟩
    | str y u => exact ⟨EqAt.bool_str x y u, RcAt.bool_str x y u⟩
    | list k1 k2 k3 k4 => exact ⟨EqAt.bool_list x ⟨_, k1, k2, _, k3⟩ hu, RcAt.bool_list x ⟨_, k1, k2, _, k3⟩ hu⟩
    | tuple k1 k2 k3 k4 => exact ⟨EqAt.bool_tuple x ⟨_, k1, k2, _, k3⟩ hu, RcAt.bool_tuple x ⟨_, k1, k2, _, k3⟩ hu⟩
    | dict k1 k2 k3 k4 k5 => exact ⟨EqAt.bool_dict x ⟨_, _, _, k1, k2, k3⟩ hu, RcAt.bool_dict x ⟨_, _, _, k1, k2, k3⟩ hu⟩
  | int x t =>
    cases rb with
    | none => exact ⟨EqAt.int_none x t, RcAt.int_none x t⟩
    | bool y => exact ⟨EqAt.int_bool x t y, RcAt.int_bool x t y⟩
    | int y u => exact ⟨EqAt.int_int x t y u, RcAt.int_int x t y u⟩
    | str y u => exact ⟨EqAt.int_str x t y u, RcAt.int_str x t y u⟩
    | list k1 k2 k3 k4 => exact ⟨EqAt.int_list x t ⟨_, k1, k2, _, k3⟩ hu, RcAt.int_list x t ⟨_, k1, k2, _, k3⟩ hu⟩
    | tuple k1 k2 k3 k4 => exact ⟨EqAt.int_tuple x t ⟨_, k1, k2, _, k3⟩ hu, RcAt.int_tuple x t ⟨_, k1, k2, _, k3⟩ hu⟩
    | dict k1 k2 k3 k4 k5 => exact ⟨EqAt.int_dict x t ⟨_, _, _, k1, k2, k3⟩ hu, RcAt.int_dict x t ⟨_, _, _, k1, k2, k3⟩ hu⟩
  | str x t =>
    cases rb with
    | none => exact ⟨EqAt.str_none x t, RcAt.str_none x t⟩
    | bool y => exact ⟨EqAt.str_bool x t y, RcAt.str_bool x t y⟩
    | int y u => exact ⟨EqAt.str_int x t y u, RcAt.str_int x t y u⟩
    | str y u => exact ⟨EqAt.str_str x t y u, RcAt.str_str x t y u⟩
    | list k1 k2 k3 k4 => exact ⟨EqAt.str_list x t ⟨_, k1, k2, _, k3⟩ hu, RcAt.str_list x t ⟨_, k1, k2, _, k3⟩ hu⟩
    | tuple k1 k2 k3 k4 => exact ⟨EqAt.str_tuple x t ⟨_, k1, k2, _, k3⟩ hu, RcAt.str_tuple x t ⟨_, k1, k2, _, k3⟩ hu⟩
    | dict k1 k2 k3 k4 k5 => exact ⟨EqAt.str_dict x t ⟨_, _, _, k1, k2, k3⟩ hu, RcAt.str_dict x t ⟨_, _, _, k1, k2, k3⟩ hu⟩
  | @list l o vs n xs as₁ h1 h2 h3 h4 =>
    have il : s.heap.IsList l vs := ⟨_, h1, h2, _, h3⟩
    cases rb with
    | none => exact ⟨EqAt.list_none il hu, RcAt.list_none il hu⟩
    | bool y => exact ⟨EqAt.list_bool y il hu, RcAt.list_bool y il hu⟩
    | int y u => exact ⟨EqAt.list_int y u il hu, RcAt.list_int y u il hu⟩
    | str y u => exact ⟨EqAt.list_str y u il hu, RcAt.list_str y u il hu⟩
    | list k1 k2 k3 k4 => exact (hl _ _ rfl rfl).elim
    | tuple k1 k2 k3 k4 => exact ⟨EqAt.list_tuple il ⟨_, k1, k2, _, k3⟩ hu, RcAt.list_tuple il ⟨_, k1, k2, _, k3⟩ hu⟩
    | dict k1 k2 k3 k4 k5 => exact ⟨EqAt.list_dict il ⟨_, _, _, k1, k2, k3⟩ hu, RcAt.list_dict il ⟨_, _, _, k1, k2, k3⟩ hu⟩
  | @tuple l o vs n xs as₁ h1 h2 h3 h4 =>
    have il : s.heap.IsTuple l vs := ⟨_, h1, h2, _, h3⟩
    cases rb with
    | none => exact ⟨EqAt.tuple_none il hu, RcAt.tuple_none il hu⟩
    | bool y => exact ⟨EqAt.tuple_bool y il hu, RcAt.tuple_bool y il hu⟩
    | int y u => exact ⟨EqAt.tuple_int y u il hu, RcAt.tuple_int y u il hu⟩
    | str y u => exact ⟨EqAt.tuple_str y u il hu, RcAt.tuple_str y u il hu⟩
    | list k1 k2 k3 k4 => exact ⟨EqAt.tuple_list il ⟨_, k1, k2, _, k3⟩ hu, RcAt.tuple_list il ⟨_, k1, k2, _, k3⟩ hu⟩
    | tuple k1 k2 k3 k4 => exact (ht _ _ rfl rfl).elim
    | dict k1 k2 k3 k4 k5 => exact ⟨EqAt.tuple_dict il ⟨_, _, _, k1, k2, k3⟩ hu, RcAt.tuple_dict il ⟨_, _, _, k1, k2, k3⟩ hu⟩
  | @dict l o es n kvs as₁ bs₁ h1 h2 h3 h4 h5 =>
    have il : s.heap.IsDict l := ⟨_, _, _, h1, h2, h3⟩
    cases rb with
    | none => exact ⟨EqAt.dict_none il hu, RcAt.dict_none il hu⟩
    | bool y => exact ⟨EqAt.dict_bool y il hu, RcAt.dict_bool y il hu⟩
    | int y u => exact ⟨EqAt.dict_int y u il hu, RcAt.dict_int y u il hu⟩
    | str y u => exact ⟨EqAt.dict_str y u il hu, RcAt.dict_str y u il hu⟩
    | list k1 k2 k3 k4 => exact ⟨EqAt.dict_list ⟨_, k1, k2, _, k3⟩ il hu, RcAt.dict_list ⟨_, k1, k2, _, k3⟩ il hu⟩
    | tuple k1 k2 k3 k4 => exact ⟨EqAt.dict_tuple ⟨_, k1, k2, _, k3⟩ il hu, RcAt.dict_tuple ⟨_, k1, k2, _, k3⟩ il hu⟩
    | dict k1 k2 k3 k4 k5 => simp [cmpX] at c
end
theorem lt_low {u a b : Nat} (h : u + min a b < cLine) : u < cLine := by omega
theorem depths_in {u : Nat} {xs ys : List PyData} (h : u + min (PyData.depth (.list xs)) (PyData.depth (.list ys)) < cLine) : u + 1 + min (PyData.depthAll xs) (PyData.depthAll ys) < cLine := by
  simp only [PyData.depth] at h
  omega
mutual
theorem eqX_at : ∀ (da db : PyData) (A : Around) (s : Shared) (a b : Value) (as bs : List Addr), Reads s.heap a da as → Reads s.heap b db bs → cmpX da db = true → A.units + min da.depth db.depth < cLine → EqAt A s a b (PyData.eqv da db)
  | .none, db, A, s, a, b, as, bs, ra, rb, c, hu => (unlike_at ra rb c (lt_low hu) (fun _ _ z => by cases z) fun _ _ z => by cases z).1
  | .bool _, db, A, s, a, b, as, bs, ra, rb, c, hu => (unlike_at ra rb c (lt_low hu) (fun _ _ z => by cases z) fun _ _ z => by cases z).1
  | .int _, db, A, s, a, b, as, bs, ra, rb, c, hu => (unlike_at ra rb c (lt_low hu) (fun _ _ z => by cases z) fun _ _ z => by cases z).1
  | .str _, db, A, s, a, b, as, bs, ra, rb, c, hu => (unlike_at ra rb c (lt_low hu) (fun _ _ z => by cases z) fun _ _ z => by cases z).1
  | .dict _, db, A, s, a, b, as, bs, ra, rb, c, hu => (unlike_at ra rb c (lt_low hu) (fun _ _ z => by cases z) fun _ _ z => by cases z).1
  | .list xs, db, A, s, a, b, as, bs, ra, rb, c, hu => by
    by_cases hk : ∃ ys, db = .list ys
    · obtain ⟨ys, rfl⟩ := hk
      cases ra with
      | @list l o vs n _ as₁ h1 h2 h3 h4 =>
      cases rb with
      | @list l' o' vs' n' _ bs₁ k1 k2 k3 k4 =>
      have il : s.heap.IsList l vs := ⟨_, h1, h2, _, h3⟩
      have il' : s.heap.IsList l' vs' := ⟨_, k1, k2, _, k3⟩
      have n1 : vs.size = xs.length := by simpa using ReadsAll.length _ _ _ h4
      have n2 : vs'.size = ys.length := by simpa using ReadsAll.length _ _ _ k4
      by_cases same : l = l'
      · subst same
        rw [read2 _ _ _ _ _ c (.list h1 h2 h3 h4) (.list k1 k2 k3 k4)]
        exact EqAt.same _
      · have hd := depths_in hu
        simp only [cmpX] at c
        simp only [PyData.eqv]
        by_cases sz : vs.size = vs'.size
        · rw [← eqvAll_same_length (show xs.length = ys.length by omega), ← n1]
          exact EqAt.of_refs same (RcAt.lists il il' sz (lt_low hu) fun j j1 j2 => by
            have z := eqXs_at xs ys A.in1 s vs.toList vs'.toList _ _ h4 k4 c hd j (by simpa using j1) (by simpa using j2)
            simpa using z)
        · rw [eqvAll_other_length (show xs.length ≠ ys.length by omega)]
          exact EqAt.of_refs same (RcAt.lists_lengths il il' (by simpa using sz) (lt_low hu))
    · exact (unlike_at ra rb c (lt_low hu) (fun _ ys _ z => hk ⟨ys, z⟩) fun _ _ z => by cases z).1
  | .tuple xs, db, A, s, a, b, as, bs, ra, rb, c, hu => by
    by_cases hk : ∃ ys, db = .tuple ys
    · obtain ⟨ys, rfl⟩ := hk
      cases ra with
      | @tuple l o vs n _ as₁ h1 h2 h3 h4 =>
      cases rb with
      | @tuple l' o' vs' n' _ bs₁ k1 k2 k3 k4 =>
      have il : s.heap.IsTuple l vs := ⟨_, h1, h2, _, h3⟩
      have il' : s.heap.IsTuple l' vs' := ⟨_, k1, k2, _, k3⟩
      have n1 : vs.size = xs.length := by simpa using ReadsAll.length _ _ _ h4
      have n2 : vs'.size = ys.length := by simpa using ReadsAll.length _ _ _ k4
      by_cases same : l = l'
      · subst same
        rw [read2 _ _ _ _ _ c (.tuple h1 h2 h3 h4) (.tuple k1 k2 k3 k4)]
        exact EqAt.same _
      · have hd := depths_in (xs := xs) (ys := ys) (by simpa only [PyData.depth] using hu)
        simp only [cmpX] at c
        simp only [PyData.eqv]
        rw [← eqvAll_eq xs ys, ← n1, ← n2]
        exact EqAt.of_refs same (RcAt.tuples il il' (lt_low hu) fun j j1 j2 => by
            have z := eqXs_at xs ys A.in1 s vs.toList vs'.toList _ _ h4 k4 c hd j (by simpa using j1) (by simpa using j2)
            simpa using z)
    · exact (unlike_at ra rb c (lt_low hu) (fun _ _ z => by cases z) fun _ ys _ z => hk ⟨ys, z⟩).1
theorem eqXs_at : ∀ (xs ys : List PyData) (A : Around) (s : Shared) (vs ws : List Value) (as bs : List Addr), ReadsAll s.heap vs xs as → ReadsAll s.heap ws ys bs → cmpXs xs ys = true →
    A.units + min (PyData.depthAll xs) (PyData.depthAll ys) < cLine → ∀ (j : Nat) (h1 : j < vs.length) (h2 : j < ws.length), EqAt A s vs[j] ws[j] (pairEq xs ys j)
  | [], ys, A, s, vs, ws, as, bs, ra, rb, c, hu, j, h1, h2 => by
    cases ra
    simp at h1
  | x :: xs, [], A, s, vs, ws, as, bs, ra, rb, c, hu, j, h1, h2 => by
    cases rb
    simp at h2
  | x :: xs, y :: ys, A, s, vs, ws, as, bs, ra, rb, c, hu, j, h1, h2 => by
    simp only [cmpXs, Bool.and_eq_true] at c
    simp only [PyData.depthAll] at hu
    cases ra with
    | cons r rs =>
    cases rb with
    | cons q qs =>
    match j, h1, h2 with
    | 0, h1, h2 => exact eqX_at x y A s _ _ _ _ r q c.1 (by omega)
    | j + 1, h1, h2 => exact eqXs_at xs ys A s _ _ _ _ rs qs c.2 (by omega) j (by simpa using h1) (by simpa using h2)
end
theorem rcX_at {da db : PyData} {A : Around} {s : Shared} {a b : Value} {as bs : List Addr} (ra : Reads s.heap a da as) (rb : Reads s.heap b db bs) (c : cmpX da db = true) (hu : A.units + min da.depth db.depth < cLine) : RcAt A s a b (PyData.eqv da db) := by
  by_cases hk : (∃ xs ys, da = .list xs ∧ db = .list ys) ∨ (∃ xs ys, da = .tuple xs ∧ db = .tuple ys)
  · rcases hk with ⟨xs, ys, rfl, rfl⟩ | ⟨xs, ys, rfl, rfl⟩
    · cases ra with
      | @list l o vs n _ as₁ h1 h2 h3 h4 =>
      cases rb with
      | @list l' o' vs' n' _ bs₁ k1 k2 k3 k4 =>
      have il : s.heap.IsList l vs := ⟨_, h1, h2, _, h3⟩
      have il' : s.heap.IsList l' vs' := ⟨_, k1, k2, _, k3⟩
      have n1 : vs.size = xs.length := by simpa using ReadsAll.length _ _ _ h4
      have n2 : vs'.size = ys.length := by simpa using ReadsAll.length _ _ _ k4
      have hd := depths_in hu
      simp only [cmpX] at c
      simp only [PyData.eqv]
      by_cases sz : vs.size = vs'.size
      · rw [← eqvAll_same_length (show xs.length = ys.length by omega), ← n1]
        exact RcAt.lists il il' sz (lt_low hu) fun j j1 j2 => by
            have z := eqXs_at xs ys A.in1 s vs.toList vs'.toList _ _ h4 k4 c hd j (by simpa using j1) (by simpa using j2)
            simpa using z
      · rw [eqvAll_other_length (show xs.length ≠ ys.length by omega)]
        exact RcAt.lists_lengths il il' (by simpa using sz) (lt_low hu)
    · cases ra with
      | @tuple l o vs n _ as₁ h1 h2 h3 h4 =>
      cases rb with
      | @tuple l' o' vs' n' _ bs₁ k1 k2 k3 k4 =>
      have il : s.heap.IsTuple l vs := ⟨_, h1, h2, _, h3⟩
      have il' : s.heap.IsTuple l' vs' := ⟨_, k1, k2, _, k3⟩
      have n1 : vs.size = xs.length := by simpa using ReadsAll.length _ _ _ h4
      have n2 : vs'.size = ys.length := by simpa using ReadsAll.length _ _ _ k4
      have hd := depths_in (xs := xs) (ys := ys) (by simpa only [PyData.depth] using hu)
      simp only [cmpX] at c
      simp only [PyData.eqv]
      rw [← eqvAll_eq xs ys, ← n1, ← n2]
      exact RcAt.tuples il il' (lt_low hu) fun j j1 j2 => by
            have z := eqXs_at xs ys A.in1 s vs.toList vs'.toList _ _ h4 k4 c hd j (by simpa using j1) (by simpa using j2)
            simpa using z
  · exact (unlike_at ra rb c (lt_low hu) (fun xs ys z1 z2 => hk (.inl ⟨xs, ys, z1, z2⟩)) fun xs ys z1 z2 => hk (.inr ⟨xs, ys, z1, z2⟩)).2
section
variable {prog : Program} {w : World} {A : Around} {E : Value → Shared → Prop} {s : Shared}
/-- items that have no dict, beside any thing -/
theorem itemsX {vs : Array Value} {xs : List PyData} {as bs : List Addr} {x : Value} {d : PyData} (rs : ReadsAll s.heap vs.toList xs as) (rx : Reads s.heap x d bs) (hx : PyData.canLayAll0 xs = true) (hu : A.units + 1 + PyData.depthAll xs < cLine) :
    ∀ y, y ∈ vs → EqAt A.in1 s y x (PyData.eqv (readOf s.heap y) d) := fun y hy => by
  obtain ⟨e, cs, re, he, le⟩ := readsAll_mem xs _ _ hx rs y (by simpa using hy)
  rw [readOf_eq he re]
  exact eqX_at e d A.in1 s y x _ _ re rx (cmp_lay e d he) (by show A.units + 1 + min e.depth d.depth < cLine; omega)
end
end PySem.SeqAt

set_option Elab.async false
set_option linter.all false
set_option maxRecDepth 100000
set_option maxHeartbeats 4000000
namespace QX
open PySem PySem.Spec PySem.W PySem.Calls PyProof.Rows L2 MX
/-! ### data -/
mutual
def toD : PV → Option PyData
  | .non => some .none
  | .bl b => some (.bool b)
  | .int i => some (.int i)
  | .str x => some (.str x)
  | .tup _ xs => (toDs xs).map .tuple
  | .lst xs => (toDs xs).map .list
  | .dct ks vs => match fkeys ks with
    | some kk => if kk.length = vs.length then (toDs vs).map fun ds => .dict ((kk.map kD).zip ds) else none
    | none => match ks, vs with
      | [], [] => some (.dict [])
      | _, _ => none
  | _ => none
def toDs : List PV → Option (List PyData)
  | [] => some []
  | x :: xs => (toD x).bind fun d => (toDs xs).map fun ds => d :: ds
end
theorem toDs_len : ∀ {ps : List PV} {ds : List PyData}, toDs ps = some ds → ds.length = ps.length
  | [], ds, e => by
    unfold toDs at e
    cases e
    rfl
  | p :: ps, ds, e => by
    unfold toDs at e
    obtain ⟨d, _, e⟩ := Option.bind_eq_some_iff.mp e
    obtain ⟨ds', e2, rfl⟩ := Option.map_eq_some_iff.mp e
    rw [List.length_cons, List.length_cons, toDs_len e2]
mutual
theorem rp_dp {κ : Kx} {H : Hp} : ∀ {p : PV} {v : V} {d : PyData}, toD p = some d → d.canLay0 = true → Rp κ p v H → Dp κ.K H v d
  | .non, v, d, e, _, r => by
    cases e
    rw [rp_non.mp r]
    exact .non
  | .bl b, v, d, e, _, r => by
    cases e
    rw [rp_bl.mp r]
    exact .bl b
  | .int b, v, d, e, _, r => by
    cases e
    rw [rp_int.mp r]
    exact .int b
  | .str b, v, d, e, _, r => by
    cases e
    rw [rp_str.mp r]
    exact .str b
  | .tup f xs, v, d, e, l, r => by
    unfold toD at e
    obtain ⟨ds, e1, rfl⟩ := Option.map_eq_some_iff.mp e
    obtain ⟨a, vs, rfl, h, r⟩ := rp_tup.mp r
    exact .tup h.sq (rp_dps e1 (by simpa [PyData.canLay0] using l) r)
  | .lst xs, v, d, e, l, r => by
    unfold toD at e
    obtain ⟨ds, e1, rfl⟩ := Option.map_eq_some_iff.mp e
    obtain ⟨a, vs, rfl, h, r⟩ := rp_lst.mp r
    exact .lst (SqL.of h) (rp_dps e1 (by simpa [PyData.canLay0] using l) r)
  | .dct ks vs, v, d, e, l, r => by
    unfold toD at e
    split at e
    · split at e
      · obtain ⟨ds, _, rfl⟩ := Option.map_eq_some_iff.mp e
        simp [PyData.canLay0] at l
      · cases e
    · split at e
      · cases e
        simp [PyData.canLay0] at l
      · cases e
  | .obj c ns vs, v, d, e, _, r => by unfold toD at e; cases e
  | .exc c w, v, d, e, _, r => by unfold toD at e; cases e
  | .fn _ _ _, v, d, e, _, r => by unfold toD at e; cases e
theorem rp_dps {κ : Kx} {H : Hp} : ∀ {ps : List PV} {vs : List V} {ds : List PyData}, toDs ps = some ds → PyData.canLayAll0 ds = true → RpA κ ps vs H → DpAll κ.K H vs ds
  | [], vs, ds, e, _, r => by
    unfold toDs at e
    cases e
    have := r.len
    rw [List.eq_nil_of_length_eq_zero this]
    exact .nil
  | p :: ps, vs, ds, e, l, r => by
    unfold toDs at e
    obtain ⟨d, e1, e⟩ := Option.bind_eq_some_iff.mp e
    obtain ⟨ds', e2, rfl⟩ := Option.map_eq_some_iff.mp e
    have l : d.canLay0 = true ∧ PyData.canLayAll0 ds' = true := by simpa [PyData.canLayAll0] using l
    match vs, r with
    | [], r => unfold RpA at r; exact r.elim
    | v :: vs, r =>
      obtain ⟨r1, r2⟩ := rpA_cons.mp r
      exact .cons (rp_dp e1 l.1 r1) (rp_dps e2 l.2 r2)
end
theorem dp_unmsk {K : PySem.W.Frag} {M : List Addr} {H : Hp} {κ : Kx} {p : PV} {v : V} {d : PyData} (e : toD p = some d) (l : d.canLay0 = true) (r : Rp κ p v (msk M H)) : Dp κ.K H v d := rp_dp e l (Rp.st (LamX.ExtN.of msk_sub) r)
/-! data without lists, dicts may be -/
mutual
def noLL : PyData → Bool
  | .list _ => false
  | .dict kvs => noLLv kvs
  | .tuple ds => noLLs ds
  | _ => true
def noLLs : List PyData → Bool
  | [] => true
  | d :: ds => noLL d && noLLs ds
def noLLv : List (PyData × PyData) → Bool
  | [] => true
  | (_, d) :: ds => noLL d && noLLv ds
end
theorem noLLv_zip : ∀ {ks : List PyData} {ds : List PyData}, ks.length = ds.length → noLLv (ks.zip ds) = true → noLLs ds = true
  | [], [], _, _ => by simp [noLLs]
  | k :: ks, d :: ds, l, h => by
    rw [List.zip_cons_cons] at h
    simp only [noLLv, Bool.and_eq_true] at h
    simp only [noLLs, h.1, noLLv_zip (Nat.succ.inj l) h.2, Bool.and_self]
  | [], _ :: _, l, _ => by cases l
  | _ :: _, [], l, _ => by cases l
section
variable {X : Cx} {pins : List (Addr × Obj)} {σ : L2.St} {H : Hp} {s : Shared} {κ : Kx}
/-! what is told of is read -/
mutual
theorem rp_reads (I : L2.Inv X pins σ H s) (hK : κ.K = X.K) : ∀ {p : PV} {v : V} {d : PyData}, toD p = some d → Rp κ p v H → ∀ u, RelV v u → ∃ as, Reads s.heap u d as ∧ (noLL d = true → sysModules ∉ as)
  | .non, v, d, e, r, u, ru => by
    cases e
    rw [rp_non.mp r] at ru
    cases ru
    exact ⟨_, .none, fun _ => List.not_mem_nil⟩
  | .bl b, v, d, e, r, u, ru => by
    cases e
    rw [rp_bl.mp r] at ru
    cases ru
    exact ⟨_, .bool b, fun _ => List.not_mem_nil⟩
  | .int b, v, d, e, r, u, ru => by
    cases e
    rw [rp_int.mp r] at ru
    obtain ⟨t, rfl⟩ := ru
    exact ⟨_, .int b t, fun _ => List.not_mem_nil⟩
  | .str b, v, d, e, r, u, ru => by
    cases e
    rw [rp_str.mp r] at ru
    obtain ⟨t, rfl⟩ := ru
    exact ⟨_, .str b t, fun _ => List.not_mem_nil⟩
  | .tup f xs, v, d, e, r, u, ru => by
    unfold toD at e
    obtain ⟨ds, e1, rfl⟩ := Option.map_eq_some_iff.mp e
    obtain ⟨a, vs, rfl, h, r⟩ := rp_tup.mp r
    cases ru
    obtain ⟨its, rv, ⟨o, ho, hc, m, hd⟩, _⟩ := I.tuple (by rw [← hK]; exact h.sq)
    obtain ⟨as, ra, na⟩ := rpA_reads I hK e1 r its rv
    exact ⟨as, Reads.tuple ho hc hd (by simpa using ra), fun z => na (by simpa only [noLL] using z)⟩
  | .lst xs, v, d, e, r, u, ru => by
    unfold toD at e
    obtain ⟨ds, e1, rfl⟩ := Option.map_eq_some_iff.mp e
    obtain ⟨a, vs, rfl, h, r⟩ := rp_lst.mp r
    cases ru
    obtain ⟨_, its, m, rv, ho⟩ := (show ObjOk X.prog X.w H s.heap a (.lst vs) from I.hok a _ h)
    obtain ⟨as, ra, na⟩ := rpA_reads I hK e1 r its rv
    exact ⟨a :: as, Reads.list ho rfl rfl (by simpa using ra), fun z => by simp [noLL] at z⟩
  | .dct ks ws, v, d, e, r, u, ru => by
    unfold Rp at r
    obtain ⟨a, us, rfl, h, l, r⟩ := r
    cases ru
    rcases h with ⟨kk, ek, ha⟩ | ⟨kk, ek, ha⟩
    · unfold toD at e
      rw [ek] at e
      have e : (if kk.length = ws.length then (toDs ws).map fun ds => PyData.dict ((kk.map kD).zip ds) else none) = some d := e
      by_cases hl : kk.length = ws.length
      · rw [if_pos hl] at e
        obtain ⟨ds, e1, rfl⟩ := Option.map_eq_some_iff.mp e
        have lu : us.length = ws.length := r.len
        have ld : ds.length = ws.length := toDs_len e1
        obtain ⟨_, nsm, vs, kv, o, es, ep, ho, hx, hd, _, hp, _⟩ := (show ObjOk X.prog X.w H s.heap a (.dK (kk.zip us)) from I.hok a _ ha)
        have rv := kv_vals kv
        rw [show (kk.zip us).map (·.2) = us from List.map_snd_zip (by omega)] at rv
        obtain ⟨as, ra, na⟩ := rpA_reads I hK e1 r (vs.map (·.2)) rv
        have rk := pairs_keys (h := s.heap) hp
        have ekk : (vs.map fun q => kD q.1) = ((kk.map kD).zip ds).map (·.1) := by
          have z := congrArg (List.map kD) (kv_keys kv)
          rw [List.map_map, List.map_map] at z
          rw [List.map_fst_zip (by rw [List.length_map]; omega)]
          refine (show _ = _ from z.symm).trans ?_
          rw [← List.map_map, List.map_fst_zip (by omega)]
        rw [ekk] at rk
        rw [← pairs_vals hp, show ds = ((kk.map kD).zip ds).map (·.2) from (List.map_snd_zip (by rw [List.length_map]; omega)).symm] at ra
        refine ⟨a :: [] ++ as, Reads.dict ho hx.1 hd rk ra, fun z m => ?_⟩
        simp only [noLL] at z
        have m : sysModules = a ∨ sysModules ∈ as := by simpa using m
        rcases m with m | m
        · rw [← m] at nsm
          exact absurd nsm (by decide)
        · exact na (noLLv_zip (by rw [List.length_map]; omega) z) m
      · rw [if_neg hl] at e
        cases e
    · unfold toD at e
      split at e
      · rename_i kk' ek'
        cases ks with
        | nil => cases ek'
        | cons k ks =>
          exfalso
          unfold tkeysOf at ek
          have ek' : keysOf (k :: ks) = some kk' := ek'
          unfold keysOf at ek'
          cases k <;> simp [tkeyOf, keyOf] at ek ek'
      · split at e
        · cases e
          have lu : us = [] := List.eq_nil_of_length_eq_zero l.symm
          subst lu
          rw [List.zip_nil_right] at ha
          obtain ⟨_, nsm, xs, pr, o, es, ep, ho, hx, hd, hes, _⟩ := (show ObjOk X.prog X.w H s.heap a (.dT []) from I.hok a _ ha)
          cases pr
          have he : es.toList = [] := hes
          refine ⟨a :: [] ++ [], Reads.dict (kvs := []) ho hx.1 hd (by rw [he]; exact .nil) (by rw [he]; exact .nil), fun z m => ?_⟩
          have m : sysModules = a := by simpa using m
          rw [← m] at nsm
          exact absurd nsm (by decide)
        · cases e
  | .obj c ns vs, v, d, e, r, u, ru => by unfold toD at e; cases e
  | .exc c w, v, d, e, r, u, ru => by unfold toD at e; cases e
  | .fn _ _ _, v, d, e, r, u, ru => by unfold toD at e; cases e
theorem rpA_reads (I : L2.Inv X pins σ H s) (hK : κ.K = X.K) : ∀ {ps : List PV} {vs : List V} {ds : List PyData}, toDs ps = some ds → RpA κ ps vs H → ∀ us, Vals vs us → ∃ as, ReadsAll s.heap us ds as ∧ (noLLs ds = true → sysModules ∉ as)
  | [], vs, ds, e, r, us, ru => by
    unfold toDs at e
    cases e
    have := r.len
    rw [List.eq_nil_of_length_eq_zero this] at ru
    cases ru
    exact ⟨[], .nil, fun _ => List.not_mem_nil⟩
  | p :: ps, vs, ds, e, r, us, ru => by
    unfold toDs at e
    obtain ⟨d, e1, e⟩ := Option.bind_eq_some_iff.mp e
    obtain ⟨ds', e2, rfl⟩ := Option.map_eq_some_iff.mp e
    match vs, r with
    | [], r => unfold RpA at r; exact r.elim
    | v :: vs, r =>
      obtain ⟨r1, r2⟩ := rpA_cons.mp r
      cases ru with
      | cons q1 q2 =>
        obtain ⟨as, h1, n1⟩ := rp_reads I hK e1 r1 _ q1
        obtain ⟨bs, h2, n2⟩ := rpA_reads I hK e2 r2 _ q2
        refine ⟨as ++ bs, .cons h1 h2, fun z m => ?_⟩
        simp only [noLLs, Bool.and_eq_true] at z
        exact (List.mem_append.mp m).elim (n1 z.1) (n2 z.2)
end
end
/-- two things that may be held beside one another -/
def cmpB (d e : PyData) : Bool := SeqAt.cmpX d e && (decide (d.depth ≤ 64) || decide (e.depth ≤ 64))
theorem cmpB_shaped {d e : PyData} (h : SeqAt.shaped d = true) : cmpB d e = true := by
  unfold cmpB
  rw [SeqAt.cmp_lay d e (SeqAt.canLay_of_shaped h), decide_eq_true (SeqAt.depth_of_shaped h)]
  rfl
def eqDP (a b : PV) : Option Bool := match toD a, toD b with
  | some d, some e => if cmpB d e = true then some (PyData.eqv d e) else none
  | _, _ => none
theorem eqDP_of {a b : PV} {d e : PyData} (h1 : toD a = some d) (h2 : toD b = some e) (h : SeqAt.shaped d = true) : eqDP a b = some (PyData.eqv d e) := by
  unfold eqDP
  rw [h1, h2]
  exact if_pos (cmpB_shaped h)
/-- a == b -/
def eqPV : PV → PV → Option Bool
  | .str x, .str y => some (decide (x = y))
  | .int x, .int y => some (decide (x = y))
  | .bl x, .bl y => some (decide (x = y))
  | a, b => eqDP a b
def gEq (a b : PV) : Option PV := (eqPV a b).map .bl
/-- a != b: data without dicts -/
def nePV : PV → PV → Option Bool
  | .str x, .str y => some (decide (x = y))
  | .int x, .int y => some (decide (x = y))
  | .bl x, .bl y => some (decide (x = y))
  | a, b => match toD a, toD b with
    | some d, some e => if SeqAt.shaped d = true ∧ SeqAt.shaped e = true then some (PyData.eqv d e) else none
    | _, _ => none
def gNe (a b : PV) : Option PV := (nePV a b).map fun k => .bl (!k)
theorem nePV_of {a b : PV} {d e : PyData} (h1 : toD a = some d) (h2 : toD b = some e) (h : SeqAt.shaped d = true) (h' : SeqAt.shaped e = true) : nePV a b = some (PyData.eqv d e) := by
  unfold nePV
  split
  · cases h1; cases h2; simp only [PyData.eqv]; exact congrArg some (Bool.beq_eq_decide_eq _ _).symm
  · cases h1; cases h2; simp only [PyData.eqv]; exact congrArg some (Bool.beq_eq_decide_eq _ _).symm
  · cases h1; cases h2; simp only [PyData.eqv]; exact congrArg some (Bool.beq_eq_decide_eq _ _).symm
  · rw [h1, h2]
    exact if_pos ⟨h, h'⟩
theorem eqPV_of {a b : PV} {d e : PyData} (h1 : toD a = some d) (h2 : toD b = some e) (h : SeqAt.shaped d = true) : eqPV a b = some (PyData.eqv d e) := by
  unfold eqPV
  split
  · cases h1; cases h2; simp only [PyData.eqv]; exact congrArg some (Bool.beq_eq_decide_eq _ _).symm
  · cases h1; cases h2; simp only [PyData.eqv]; exact congrArg some (Bool.beq_eq_decide_eq _ _).symm
  · cases h1; cases h2; simp only [PyData.eqv]; exact congrArg some (Bool.beq_eq_decide_eq _ _).symm
  · exact eqDP_of h1 h2 h
/-- the same, by == and by != -/
def same2 (a b : PV) : Prop := eqPV a b = some true ∧ nePV a b = some true
theorem same2_of {a b : PV} {d e : PyData} (h1 : toD a = some d) (h2 : toD b = some e) (h : SeqAt.shaped d = true) (h' : SeqAt.shaped e = true) (q : PyData.eqv d e = true) : same2 a b :=
  ⟨by rw [eqPV_of h1 h2 h, q], by rw [nePV_of h1 h2 h h', q]⟩
section
variable {X : Cx} {κ : Kx}
/-- what is told of both -/
def rEqX (K : PySem.W.Frag) : R2 := fun x y H Q => ∃ (κ : Kx) (p q : PV) (d e : PyData), κ.K = K ∧ Rp κ p x H ∧ Rp κ q y H ∧ toD p = some d ∧ toD q = some e ∧ cmpB d e = true ∧ Q (.bl (PyData.eqv d e)) H
theorem op_eqX (hu : X.A.units + 64 < cLine) : OpR X (compareOp .Eq) (rEqX X.K) := by
  intro pins s σ H x y v u Q I rx ry h
  obtain ⟨κ, p, q, d, e, hK, h1, h2, h3, h4, h5, q'⟩ := h
  obtain ⟨as, r1, _⟩ := rp_reads I hK h3 h1 v rx
  obtain ⟨bs, r2, _⟩ := rp_reads I hK h4 h2 u ry
  unfold cmpB at h5
  rw [Bool.and_eq_true, Bool.or_eq_true, decide_eq_true_eq, decide_eq_true_eq] at h5
  exact SeqAt.rcX_at r1 r2 h5.1 (by omega) _ _ _ _ ⟨.bl _, H, I, rfl, q'⟩
abbrev rEqP (K : PySem.W.Frag) : R2 := fun x y H Q => rEq x y H Q ∨ rEqX K x y H Q
abbrev rNeP (K : PySem.W.Frag) : R2 := fun x y H Q => rNe x y H Q ∨ rNeD K x y H Q
theorem op_eqP (hu : X.A.units + 64 < cLine) : OpR X (compareOp .Eq) (rEqP X.K) := op_eq.or (op_eqX hu)
theorem op_neP (hu : X.A.units + 64 < cLine) : OpR X (compareOp .NotEq) (rNeP X.K) := op_ne.or (op_neD hu)
theorem eq_cases {a b : PV} {k : Bool} (e : eqPV a b = some k) : (∃ x y, a = .str x ∧ b = .str y ∧ k = decide (x = y)) ∨ (∃ x y, a = .int x ∧ b = .int y ∧ k = decide (x = y)) ∨ (∃ x y, a = .bl x ∧ b = .bl y ∧ k = decide (x = y)) ∨ eqDP a b = some k := by
  unfold eqPV at e
  split at e
  · exact .inl ⟨_, _, rfl, rfl, (Option.some.inj e).symm⟩
  · exact .inr (.inl ⟨_, _, rfl, rfl, (Option.some.inj e).symm⟩)
  · exact .inr (.inr (.inl ⟨_, _, rfl, rfl, (Option.some.inj e).symm⟩))
  · exact .inr (.inr (.inr e))
theorem eqDP_cases {a b : PV} {k : Bool} (e : eqDP a b = some k) : ∃ d f, toD a = some d ∧ toD b = some f ∧ cmpB d f = true ∧ k = PyData.eqv d f := by
  unfold eqDP at e
  split at e
  · rename_i d f h1 h2
    by_cases c : cmpB d f = true
    · rw [if_pos c] at e
      exact ⟨d, f, h1, h2, c, (Option.some.inj e).symm⟩
    · rw [if_neg c] at e
      cases e
  · cases e
theorem ne_cases {a b : PV} {k : Bool} (e : nePV a b = some k) : (∃ x y, a = .str x ∧ b = .str y ∧ k = decide (x = y)) ∨ (∃ x y, a = .int x ∧ b = .int y ∧ k = decide (x = y)) ∨ (∃ x y, a = .bl x ∧ b = .bl y ∧ k = decide (x = y)) ∨
    ∃ d f, toD a = some d ∧ toD b = some f ∧ SeqAt.shaped d = true ∧ SeqAt.shaped f = true ∧ k = PyData.eqv d f := by
  unfold nePV at e
  split at e
  · exact .inl ⟨_, _, rfl, rfl, (Option.some.inj e).symm⟩
  · exact .inr (.inl ⟨_, _, rfl, rfl, (Option.some.inj e).symm⟩)
  · exact .inr (.inr (.inl ⟨_, _, rfl, rfl, (Option.some.inj e).symm⟩))
  · split at e
    · rename_i d f h1 h2
      by_cases c : SeqAt.shaped d = true ∧ SeqAt.shaped f = true
      · rw [if_pos c] at e
        exact .inr (.inr (.inr ⟨d, f, h1, h2, c.1, c.2, (Option.some.inj e).symm⟩))
      · rw [if_neg c] at e
        cases e
    · cases e
theorem rdo_eq : RDo κ (rEqP κ.K) gEq := fun a b c x y M H Q e ra rb al q => by
  obtain ⟨k, ek, rfl⟩ := Option.map_eq_some_iff.mp e
  rcases eq_cases ek with ⟨i, j, rfl, rfl, rfl⟩ | ⟨i, j, rfl, rfl, rfl⟩ | ⟨i, j, rfl, rfl, rfl⟩ | ek
  · rw [rp_str.mp ra, rp_str.mp rb]
    refine .inl ⟨rfl, q H _ (Same.refl H) (rp_bl.mpr ?_)⟩
    congr 1
    exact decide_eq_decide.mpr ⟨V.str.inj, congrArg V.str⟩
  · rw [rp_int.mp ra, rp_int.mp rb]
    refine .inl ⟨rfl, q H _ (Same.refl H) (rp_bl.mpr ?_)⟩
    congr 1
    exact decide_eq_decide.mpr ⟨V.int.inj, congrArg V.int⟩
  · rw [rp_bl.mp ra, rp_bl.mp rb]
    refine .inl ⟨rfl, q H _ (Same.refl H) (rp_bl.mpr ?_)⟩
    congr 1
    exact decide_eq_decide.mpr ⟨V.bl.inj, congrArg V.bl⟩
  · obtain ⟨d, f, h1, h2, h3, rfl⟩ := eqDP_cases ek
    exact .inr ⟨κ, a, b, d, f, rfl, Rp.st (LamX.ExtN.of msk_sub) ra, Rp.st (LamX.ExtN.of msk_sub) rb, h1, h2, h3, q H _ (Same.refl H) (rp_bl.mpr rfl)⟩
theorem rdo_ne : RDo κ (rNeP κ.K) gNe := fun a b c x y M H Q e ra rb al q => by
  obtain ⟨k, ek, rfl⟩ := Option.map_eq_some_iff.mp e
  rcases ne_cases ek with ⟨i, j, rfl, rfl, rfl⟩ | ⟨i, j, rfl, rfl, rfl⟩ | ⟨i, j, rfl, rfl, rfl⟩ | ⟨d, f, h1, h2, h3, h4, rfl⟩
  · rw [rp_str.mp ra, rp_str.mp rb]
    refine .inl ⟨rfl, q H _ (Same.refl H) (rp_bl.mpr ?_)⟩
    congr 2
    exact decide_eq_decide.mpr ⟨V.str.inj, congrArg V.str⟩
  · rw [rp_int.mp ra, rp_int.mp rb]
    refine .inl ⟨rfl, q H _ (Same.refl H) (rp_bl.mpr ?_)⟩
    congr 2
    exact decide_eq_decide.mpr ⟨V.int.inj, congrArg V.int⟩
  · rw [rp_bl.mp ra, rp_bl.mp rb]
    refine .inl ⟨rfl, q H _ (Same.refl H) (rp_bl.mpr ?_)⟩
    congr 2
    exact decide_eq_decide.mpr ⟨V.bl.inj, congrArg V.bl⟩
  · exact .inr ⟨d, f, dp_unmsk (K := κ.K) h1 (SeqAt.canLay_of_shaped h3) ra, dp_unmsk (K := κ.K) h2 (SeqAt.canLay_of_shaped h4) rb, h3, h4, q H _ (Same.refl H) (rp_bl.mpr rfl)⟩
/-! ### in -/
def flatP : PV → Bool
  | .non => true
  | .bl _ => true
  | .int _ => true
  | .str _ => true
  | _ => false
def inSeq (a : PV) (ys : List PV) (list : Bool) : Option Bool := match toD a, toDs ys with
  | some d, some ds => if flatP a = true ∧ ys.all flatP = true then some (ds.any fun z => PyData.eqv z d)
      else if PyData.canLayAll0 ds = true ∧ PyData.depthAll ds ≤ 64 then some (ds.any fun z => PyData.eqv z d) else none
  | _, _ => none
/-- a in b -/
def inPV : PV → PV → Option Bool
  | .str c, .str z => if c.cps.size = 1 then some (decide (c.cps[0]! ∈ z.cps.toList)) else none
  | a, .lst ys => inSeq a ys true
  | a, .tup _ ys => inSeq a ys false
  | _, _ => none
def gIn (a b : PV) : Option PV := (inPV a b).map .bl
def gNotIn (a b : PV) : Option PV := (inPV a b).map fun k => .bl (!k)
theorem eqV_flat {H H' : Hp} {p q : PV} {v u : V} {d e : PyData} (fp : flatP p = true) (fq : flatP q = true) (rp : Rp κ p v H) (rq : Rp κ q u H') (hd : toD p = some d) (he : toD q = some e) : eqV v u = PyData.eqv d e ∧ flatV v = true := by
  cases p <;> (first | (cases fp; done) | skip) <;> cases q <;> (first | (cases fq; done) | skip) <;> cases hd <;> cases he
  all_goals (try rw [rp_non.mp rp]) <;> (try rw [rp_bl.mp rp]) <;> (try rw [rp_int.mp rp]) <;> (try rw [rp_str.mp rp]) <;> (try rw [rp_non.mp rq]) <;> (try rw [rp_bl.mp rq]) <;> (try rw [rp_int.mp rq]) <;> (try rw [rp_str.mp rq])
  all_goals exact ⟨by first | rfl | simp [eqV, PyData.eqv], rfl⟩
theorem inV_flat {H H' : Hp} {p : PV} {v : V} {d : PyData} (fp : flatP p = true) (rp : Rp κ p v H) (hd : toD p = some d) : ∀ {ys : List PV} {vs : List V} {ds : List PyData}, ys.all flatP = true → RpA κ ys vs H' → toDs ys = some ds → inV v vs = (ds.any fun z => PyData.eqv z d) ∧ vs.all flatV = true
  | [], vs, ds, _, r, e => by
    unfold toDs at e
    cases e
    have := r.len
    rw [List.eq_nil_of_length_eq_zero this]
    exact ⟨rfl, rfl⟩
  | y :: ys, vs, ds, f, r, e => by
    unfold toDs at e
    obtain ⟨f1, e1, e⟩ := Option.bind_eq_some_iff.mp e
    obtain ⟨ds', e2, rfl⟩ := Option.map_eq_some_iff.mp e
    rw [List.all_cons, Bool.and_eq_true] at f
    match vs, r with
    | [], r => unfold RpA at r; exact r.elim
    | v' :: vs, r =>
      obtain ⟨r1, r2⟩ := rpA_cons.mp r
      obtain ⟨g1, g2⟩ := inV_flat fp rp hd f.2 r2 e2
      obtain ⟨h1, h2⟩ := eqV_flat f.1 fp r1 rp e1 hd
      refine ⟨?_, by rw [List.all_cons, h2, g2]; rfl⟩
      unfold inV at g1 ⊢
      rw [List.any_cons, List.any_cons, g1, h1]

def rInX (K : PySem.W.Frag) (neg : Bool) : R2 := fun x y H Q => ∃ (κ : Kx) (p : PV) (ys : List PV) (a : Addr) (vs : List V) (d : PyData) (ds : List PyData), κ.K = K ∧ Rp κ p x H ∧ y = .ref a ∧ (H a = some (.lst vs) ∨ ∃ f, TupO K f H a vs) ∧ RpA κ ys vs H ∧ toD p = some d ∧ toDs ys = some ds ∧ PyData.canLayAll0 ds = true ∧ PyData.depthAll ds ≤ 64 ∧ Q (.bl (if neg = true then !(ds.any fun z => PyData.eqv z d) else ds.any fun z => PyData.eqv z d)) H
theorem op_inX (hu : X.A.units + 65 < cLine) : OpR X (compareOp .In) (rInX X.K false) := by
  intro pins s σ H x y v u Q I rx ry h
  obtain ⟨κ, p, ys, a, vs, d, ds, hK, h1, rfl, h2, h3, h4, h5, h6, h7, q⟩ := h
  cases ry
  obtain ⟨as, r1, _⟩ := rp_reads I hK h4 h1 v rx
  rcases h2 with h2 | ⟨f, h2⟩
  · obtain ⟨_, its, m, rv, ho⟩ := (show ObjOk X.prog X.w H s.heap a (.lst vs) from I.hok a _ h2)
    obtain ⟨bs, ra, _⟩ := rpA_reads I hK h5 h3 its rv
    have ra : ReadsAll s.heap its.toArray.toList ds bs := by simpa using ra
    exact SeqAt.in_listAt _ ⟨_, ho, rfl, _, rfl⟩ (SeqAt.itemsX ra r1 h6 (by omega)) (by rw [SeqAt.any_by_data ra h6]; exact ⟨.bl _, H, I, rfl, q⟩)
  · obtain ⟨its, rv, pl, _⟩ := I.tuple h2.sq
    obtain ⟨bs, ra, _⟩ := rpA_reads I hK h5 h3 its rv
    have ra : ReadsAll s.heap its.toArray.toList ds bs := by simpa using ra
    exact SeqAt.in_tupleAt _ pl (SeqAt.itemsX ra r1 h6 (by omega)) (by rw [SeqAt.any_by_data ra h6]; exact ⟨.bl _, H, I, rfl, q⟩)
theorem op_notInX (hu : X.A.units + 65 < cLine) : OpR X (compareOp .NotIn) (rInX X.K true) := by
  intro pins s σ H x y v u Q I rx ry h
  obtain ⟨κ, p, ys, a, vs, d, ds, hK, h1, rfl, h2, h3, h4, h5, h6, h7, q⟩ := h
  cases ry
  obtain ⟨as, r1, _⟩ := rp_reads I hK h4 h1 v rx
  rcases h2 with h2 | ⟨f, h2⟩
  · obtain ⟨_, its, m, rv, ho⟩ := (show ObjOk X.prog X.w H s.heap a (.lst vs) from I.hok a _ h2)
    obtain ⟨bs, ra, _⟩ := rpA_reads I hK h5 h3 its rv
    have ra : ReadsAll s.heap its.toArray.toList ds bs := by simpa using ra
    exact SeqAt.notIn_listAt _ ⟨_, ho, rfl, _, rfl⟩ (SeqAt.itemsX ra r1 h6 (by omega)) (by rw [SeqAt.any_by_data ra h6]; exact ⟨.bl _, H, I, rfl, q⟩)
  · obtain ⟨its, rv, pl, _⟩ := I.tuple h2.sq
    obtain ⟨bs, ra, _⟩ := rpA_reads I hK h5 h3 its rv
    have ra : ReadsAll s.heap its.toArray.toList ds bs := by simpa using ra
    exact SeqAt.notIn_tupleAt _ pl (SeqAt.itemsX ra r1 h6 (by omega)) (by rw [SeqAt.any_by_data ra h6]; exact ⟨.bl _, H, I, rfl, q⟩)
def rSgn : R2 := fun x y H Q => ∃ (c : Nat) (z : Str), x = .str ⟨#[c]⟩ ∧ y = .str z ∧ Q (.bl (decide (c ∈ z.cps.toList))) H
def rNSgn : R2 := fun x y H Q => ∃ (c : Nat) (z : Str), x = .str ⟨#[c]⟩ ∧ y = .str z ∧ Q (.bl (!decide (c ∈ z.cps.toList))) H
abbrev rInP (K : PySem.W.Frag) : R2 := fun x y H Q => rSgn x y H Q ∨ (rIn K false x y H Q ∨ rInX K false x y H Q)
abbrev rNotInP (K : PySem.W.Frag) : R2 := fun x y H Q => rNSgn x y H Q ∨ (rIn K true x y H Q ∨ rInX K true x y H Q)
theorem op_sgn : OpR X (compareOp .In) rSgn := by
  intro pins s σ H x y v u Q I rx ry h
  obtain ⟨c, z, e1, e2, q⟩ := h
  exact op_in_sign pins s σ H x y v u Q I rx ry ⟨c, z, e1, e2, q⟩
theorem op_nsgn : OpR X (compareOp .NotIn) rNSgn := by
  intro pins s σ H x y v u Q I rx ry h
  obtain ⟨c, z, e1, e2, q⟩ := h
  exact op_notIn_sign pins s σ H x y v u Q I rx ry ⟨c, z, e1, e2, q⟩
theorem op_inP (hu : X.A.units + 65 < cLine) : OpR X (compareOp .In) (rInP X.K) := op_sgn.or (op_in_seq.or (op_inX hu))
theorem op_notInP (hu : X.A.units + 65 < cLine) : OpR X (compareOp .NotIn) (rNotInP X.K) := op_nsgn.or (op_notIn_seq.or (op_notInX hu))
theorem inSeq_cases {a : PV} {ys : List PV} {l k : Bool} (e : inSeq a ys l = some k) : ∃ d ds, toD a = some d ∧ toDs ys = some ds ∧ k = (ds.any fun z => PyData.eqv z d) ∧ ((flatP a = true ∧ ys.all flatP = true) ∨ (PyData.canLayAll0 ds = true ∧ PyData.depthAll ds ≤ 64)) := by
  unfold inSeq at e
  split at e
  · rename_i d ds h1 h2
    by_cases c : flatP a = true ∧ ys.all flatP = true
    · rw [if_pos c] at e
      exact ⟨d, ds, h1, h2, (Option.some.inj e).symm, .inl c⟩
    · rw [if_neg c] at e
      by_cases c2 : PyData.canLayAll0 ds = true ∧ PyData.depthAll ds ≤ 64
      · rw [if_pos c2] at e
        exact ⟨d, ds, h1, h2, (Option.some.inj e).symm, .inr c2⟩
      · rw [if_neg c2] at e
        cases e
  · cases e
theorem in_cases {a b : PV} {k : Bool} (e : inPV a b = some k) : (∃ c z, a = .str ⟨#[c]⟩ ∧ b = .str z ∧ k = decide (c ∈ z.cps.toList)) ∨ (∃ ys, b = .lst ys ∧ inSeq a ys true = some k) ∨ (∃ f ys, b = .tup f ys ∧ inSeq a ys false = some k) := by
  unfold inPV at e
  split at e
  · rename_i c z
    by_cases h : c.cps.size = 1
    · rw [if_pos h] at e
      obtain ⟨⟨l⟩⟩ := c
      match l, h with
      | [x], _ => exact .inl ⟨x, z, rfl, rfl, (Option.some.inj e).symm⟩
    · rw [if_neg h] at e
      cases e
  · exact .inr (.inl ⟨_, rfl, e⟩)
  · exact .inr (.inr ⟨_, _, rfl, e⟩)
  · cases e
theorem rdo_in : RDo κ (rInP κ.K) gIn := fun a b c x y M H Q e ra rb al q => by
  obtain ⟨k, ek, rfl⟩ := Option.map_eq_some_iff.mp e
  rcases in_cases ek with ⟨c, z, rfl, rfl, rfl⟩ | ⟨ys, rfl, ek2⟩ | ⟨f, ys, rfl, ek2⟩
  · exact .inl ⟨c, z, rp_str.mp ra, rp_str.mp rb, q H _ (Same.refl H) (rp_bl.mpr rfl)⟩
  · obtain ⟨d, ds, h1, h2, rfl, h3 | h3⟩ := inSeq_cases ek2
    · obtain ⟨p, vs, e2, hp, r2⟩ := rp_lst.mp rb
      obtain ⟨g1, g2⟩ := inV_flat h3.1 ra h1 h3.2 r2 h2
      exact .inr (.inl ⟨p, vs, e2, .inl (SqL.of (msk_of hp).1), (eqV_flat h3.1 h3.1 ra ra h1 h1).2, g2, by rw [if_neg (by simp), g1]; exact q H _ (Same.refl H) (rp_bl.mpr rfl)⟩)
    · obtain ⟨p, vs, e2, hp, r2⟩ := rp_lst.mp (Rp.st (LamX.ExtN.of msk_sub) rb)
      exact .inr (.inr ⟨κ, a, ys, p, vs, d, ds, rfl, Rp.st (LamX.ExtN.of msk_sub) ra, e2, .inl hp, r2, h1, h2, h3.1, h3.2, q H _ (Same.refl H) (rp_bl.mpr rfl)⟩)
  · obtain ⟨d, ds, h1, h2, rfl, h3 | h3⟩ := inSeq_cases ek2
    · obtain ⟨p, vs, e2, hp, r2⟩ := rp_tup.mp rb
      obtain ⟨g1, g2⟩ := inV_flat h3.1 ra h1 h3.2 r2 h2
      exact .inr (.inl ⟨p, vs, e2, .inr hp.unmsk.sq, (eqV_flat h3.1 h3.1 ra ra h1 h1).2, g2, by rw [if_neg (by simp), g1]; exact q H _ (Same.refl H) (rp_bl.mpr rfl)⟩)
    · obtain ⟨p, vs, e2, hp, r2⟩ := rp_tup.mp (Rp.st (LamX.ExtN.of msk_sub) rb)
      exact .inr (.inr ⟨κ, a, ys, p, vs, d, ds, rfl, Rp.st (LamX.ExtN.of msk_sub) ra, e2, .inr ⟨f, hp⟩, r2, h1, h2, h3.1, h3.2, q H _ (Same.refl H) (rp_bl.mpr rfl)⟩)
theorem rdo_notin : RDo κ (rNotInP κ.K) gNotIn := fun a b c x y M H Q e ra rb al q => by
  obtain ⟨k, ek, rfl⟩ := Option.map_eq_some_iff.mp e
  rcases in_cases ek with ⟨c, z, rfl, rfl, rfl⟩ | ⟨ys, rfl, ek2⟩ | ⟨f, ys, rfl, ek2⟩
  · exact .inl ⟨c, z, rp_str.mp ra, rp_str.mp rb, q H _ (Same.refl H) (rp_bl.mpr rfl)⟩
  · obtain ⟨d, ds, h1, h2, rfl, h3 | h3⟩ := inSeq_cases ek2
    · obtain ⟨p, vs, e2, hp, r2⟩ := rp_lst.mp rb
      obtain ⟨g1, g2⟩ := inV_flat h3.1 ra h1 h3.2 r2 h2
      exact .inr (.inl ⟨p, vs, e2, .inl (SqL.of (msk_of hp).1), (eqV_flat h3.1 h3.1 ra ra h1 h1).2, g2, by rw [if_pos rfl, g1]; exact q H _ (Same.refl H) (rp_bl.mpr rfl)⟩)
    · obtain ⟨p, vs, e2, hp, r2⟩ := rp_lst.mp (Rp.st (LamX.ExtN.of msk_sub) rb)
      exact .inr (.inr ⟨κ, a, ys, p, vs, d, ds, rfl, Rp.st (LamX.ExtN.of msk_sub) ra, e2, .inl hp, r2, h1, h2, h3.1, h3.2, q H _ (Same.refl H) (rp_bl.mpr rfl)⟩)
  · obtain ⟨d, ds, h1, h2, rfl, h3 | h3⟩ := inSeq_cases ek2
    · obtain ⟨p, vs, e2, hp, r2⟩ := rp_tup.mp rb
      obtain ⟨g1, g2⟩ := inV_flat h3.1 ra h1 h3.2 r2 h2
      exact .inr (.inl ⟨p, vs, e2, .inr hp.unmsk.sq, (eqV_flat h3.1 h3.1 ra ra h1 h1).2, g2, by rw [if_pos rfl, g1]; exact q H _ (Same.refl H) (rp_bl.mpr rfl)⟩)
    · obtain ⟨p, vs, e2, hp, r2⟩ := rp_tup.mp (Rp.st (LamX.ExtN.of msk_sub) rb)
      exact .inr (.inr ⟨κ, a, ys, p, vs, d, ds, rfl, Rp.st (LamX.ExtN.of msk_sub) ra, e2, .inr ⟨f, hp⟩, r2, h1, h2, h3.1, h3.2, q H _ (Same.refl H) (rp_bl.mpr rfl)⟩)
/-! ### is -/
end
end QX

set_option Elab.async false
set_option linter.all false
set_option maxRecDepth 100000
set_option maxHeartbeats 4000000
namespace MX
open PySem PySem.Spec PySem.W PySem.Calls PyProof.Rows L2
/-! ### tuples told with their object -/
theorem call_tuple_frz {X : Cx} : CallR X (.type "tuple") (fun xs H Q => ∃ p ys, xs = [.ref p] ∧ SqL X.K H p ys ∧ ∀ l o, H l = none → o.dict = none → Q (.ref l) (upd H l (.frz o (.tup ys)))) := by
  intro pins s σ H xs us Q I r h
  obtain ⟨p, ys, rfl, hq, q⟩ := h
  obtain ⟨u, rfl, rx⟩ := vals1 r
  cases rx
  obtain ⟨its, r', pl, hz⟩ := I.list hq
  have hlen := r'.length
  refine call_tuple_list pl.isList (fun h' kp => ?_) (by simp only [List.size_toArray] <;> omega)
  have I1 : Inv X pins σ H { s with heap := h' } := I.kept (t' := s.toks) kp
  have I2 : Inv X pins σ (upd H h'.objs.size (.frz { cls := .type "tuple", data := .seq its.toArray } (.tup ys))) { s with heap := h'.push { cls := .type "tuple", data := .seq its.toArray } } :=
    I1.laid (t' := s.toks) (fun b o e => Heap.get?_push_of_some _ e) (Nat.le_refl _) (show ObjOk X.prog X.w _ _ _ (.frz _ (.tup ys)) from ⟨Heap.get?_push_size _ rfl, hz, its, r', IsTup.new _ _⟩)
  exact ⟨.ref h'.objs.size, _, I2, rfl, q _ _ (I1.hok.fresh (Nat.le_refl _)) rfl⟩
section
variable {ι : Type} {Ev : ι → L2.St → Hp → Prop} {M : ι → List Addr} {X : Cx} {o e : Expr} {apos pos p : Pos}
end
section
variable {ι α : Type} {Ev : ι → L2.St → Hp → Prop} {M : ι → List Addr} {xs : ι → List α} {r : ι → α → Rd} {K : PySem.W.Frag}
end
end MX

set_option Elab.async false
set_option linter.all false
set_option maxRecDepth 100000
set_option maxHeartbeats 4000000
namespace MX
open PySem PySem.Spec PySem.W PySem.Calls PyProof.Rows L2
section
variable {X : Cx} {o e : Expr} {es : List Expr} {to : TE} {t : TA} {name : Str} {apos cpos : Pos} {id : String} {r : V → List V → Hp → VK → Prop}
end
section
variable {ι : Type} {Ev : ι → L2.St → Hp → Prop} {M : ι → List Addr} {X : Cx} {o e : Expr} {apos pos : Pos}
end
section
variable {ι : Type} {P : ι → Prop} {Γ : ι → Gm} {M : ι → List Addr} {X : Cx}
end
end MX

set_option Elab.async false
set_option linter.all false
set_option maxRecDepth 100000
set_option maxHeartbeats 4000000
namespace QX
open PySem PySem.Spec PySem.W PySem.Calls PyProof.Rows L2 MX
/-! ### items, slices -/
theorem atI_map {α β : Type} {xs : List α} {ys : List β} (h : ys.length = xs.length) {i : Int} {x : α} (e : atI xs i = some x) : ∃ (j : Nat) (y : β), xs[j]? = some x ∧ ys[j]? = some y ∧ atI ys i = some y := by
  unfold atI at e ⊢
  rw [h]
  obtain ⟨j, e1, e2⟩ := Option.bind_eq_some_iff.mp e
  have hj : j < ys.length := by rw [h]; exact (List.getElem?_eq_some_iff.mp e2).1
  exact ⟨j, ys[j], e2, List.getElem?_eq_getElem hj, by rw [e1]; exact List.getElem?_eq_getElem hj⟩
/-- a[i] of a list, a tuple, a text -/
def gIx : PV → PV → Option PV
  | .lst xs, .int i => atI xs i
  | .tup _ xs, .int i => atI xs i
  | .str x, .int i => if x.length ≤ 1000000 then (atI x.cps.toList i).map fun c => .str ⟨#[c]⟩ else none
  | _, _ => none
section
variable {X : Cx} {κ : Kx}
theorem rdo_ix : RDo κ (rIx κ.K) gIx := fun a b c x y M H Q e ra rb al q => by
  cases a <;> cases b <;> (first | (cases e; done) | skip)
  · rename_i z i
    have e : (if z.length ≤ 1000000 then (atI z.cps.toList i).map fun c => PV.str ⟨#[c]⟩ else none) = some c := e
    by_cases l : z.length ≤ 1000000
    · rw [if_pos l] at e
      obtain ⟨d, hd, rfl⟩ := Option.map_eq_some_iff.mp e
      exact .inr (.inr ⟨z, i, d, rp_str.mp ra, rp_int.mp rb, sz_le l, hd, q H _ (Same.refl H) (rp_str.mpr rfl)⟩)
    · rw [if_neg l] at e
      cases e
  · rename_i f xs i
    obtain ⟨p, vs, e1, h1, r1⟩ := rp_tup.mp ra
    obtain ⟨j, v, h2, h3, h4⟩ := atI_map r1.len (show atI xs i = some c from e)
    obtain ⟨v', h5, h6⟩ := r1.get h2
    rw [h3] at h5
    cases h5
    exact .inr (.inl ⟨p, vs, i, v, e1, rp_int.mp rb, h1.unmsk.sq, h4, q H _ (Same.refl H) h6⟩)
  · rename_i xs i
    obtain ⟨p, vs, e1, h1, r1⟩ := rp_lst.mp ra
    obtain ⟨j, v, h2, h3, h4⟩ := atI_map r1.len (show atI xs i = some c from e)
    obtain ⟨v', h5, h6⟩ := r1.get h2
    rw [h3] at h5
    cases h5
    exact .inl ⟨p, vs, i, v, e1, rp_int.mp rb, SqL.of (msk_of h1).1, h4, q H _ (Same.refl H) h6⟩
end
section
variable {X : Cx} {cA : CA} {W : WX} {x : Str} {pos p p2 : Pos} {a b c e : Expr} {fa fb fc : SE} {es : List Expr} {fs : SA}
theorem p_ix (ha : PE X a (tP (kx X cA) W fa)) (hb : PE X b (tP (kx X cA) W fb)) (hs : PlainIx b := by intro _ _; rfl) : PE X (.Subscript a b pos) (tP (kx X cA) W (sBin gIx fa fb)) :=
  pe_mono (pe_ix ix_seq ha hb hs) fun σ H Q h => bin_out rdo_ix h
/-! parts of a slice -/
def cutP {α : Type} (xs : List α) (lo hi : Option Int) : List α := (xs.drop (HT.sIx xs.length 0 lo)).take (HT.sIx xs.length xs.length hi - HT.sIx xs.length 0 lo)
abbrev SO := En → Rs (Option Int)
def sNone : SO := fun Γ => .ok none Γ
def sSome (f : SE) : SO := fun Γ => (f Γ).bind fun v Γ1 => match v with
  | .int i => .ok (some i) Γ1
  | _ => .no
def OutO (κ : Kx) (W : WX) (M0 M : List Addr) (Γ : En) (σ : L2.St) (H : Hp) (r : Rs (Option Int)) (Q : Option Int → Hp → Prop) : Prop := match r with
  | .ok v Γ' => ∀ M' H', Stp κ M0 M Γ σ H M' Γ' H' → Q v H'
  | .ex c v Γ' => OutX κ W M0 M Γ σ H c v Γ'
  | .no => False
def tPO (κ : Kx) (W : WX) (f : SO) : L2.TO := fun σ H Q => ∃ M0 M Γ, EOK κ M0 M Γ σ H ∧ OutO κ W M0 M Γ σ H (f Γ) Q
theorem po_mono {X : Cx} {e : Option Expr} {t t' : L2.TO} (h : PO X e t) (m : ∀ σ H Q, t' σ H Q → t σ H Q) : PO X e t' := ⟨fun pins s σ H Q I q => h.run pins s σ H Q I (m σ H Q q)⟩
theorem o_none : PO X none (tPO (kx X cA) W sNone) := po_mono po_none fun σ H Q ⟨M0, M, Γ, ok, q⟩ => q M H (Stp.refl ok)
theorem OutO.from {κ : Kx} {M0 M M1 : List Addr} {Γ Γ1 : En} {σ : L2.St} {H H1 : Hp} {Q : Option Int → Hp → Prop} {r : Rs (Option Int)} (s : Stp κ M0 M Γ σ H M1 Γ1 H1) (h : OutO κ W M0 M Γ σ H r Q) : OutO κ W M0 M1 Γ1 σ H1 r Q := by
  cases r with
  | ok v Γ' => exact fun M' H' s' => h M' H' (s.trans s')
  | ex c v Γ' => exact OutX.from s h
  | no => exact h
theorem o_some (h : PE X e (tP (kx X cA) W fa)) : PO X (some e) (tPO (kx X cA) W (sSome fa)) := po_mono (po_some h) fun σ H Q ⟨M0, M, Γ, ok, q⟩ => ⟨M0, M, Γ, ok, by
  unfold sSome at q
  cases hf : fa Γ with
  | ok v Γ' =>
    rw [hf] at q
    intro M' H' u s r
    cases v <;> (first | exact q.elim | skip)
    rename_i i
    exact ⟨i, rp_int.mp r, q M' H' s⟩
  | ex c v Γ' =>
    rw [hf] at q
    exact q
  | no =>
    rw [hf] at q
    exact q⟩
def gSl (a : PV) (lo hi : Option Int) : Option PV := match a with
  | .lst xs => some (.lst (cutP xs lo hi))
  | .tup f xs => some (if HT.sIx xs.length 0 lo = 0 ∧ HT.sIx xs.length xs.length hi = xs.length then .tup f xs else .tup false (cutP xs lo hi))
  | .str x => if x.length ≤ 1000000 then some (.str (cutS x lo hi)) else none
  | _ => none
def sSl (f : SE) (lo hi : SO) : SE := fun Γ => (f Γ).bind fun v Γ1 => (lo Γ1).bind fun l Γ2 => (hi Γ2).bind fun h Γ3 => ofO (gSl v l h) Γ3
theorem cut_rp {κ : Kx} {xs : List PV} {vs : List V} {H : Hp} (r : RpA κ xs vs H) (lo hi : Option Int) : RpA κ (cutP xs lo hi) (cutV vs lo hi) H := by
  unfold cutP cutV
  rw [r.len]
  exact (r.drop _).take _
abbrev rSlP (K : PySem.W.Frag) : V → Option Int → Option Int → Hp → VK → Prop := fun x lo hi H Q => rSlL K x lo hi H Q ∨ (rSlA K x lo hi H Q ∨ rSlS x lo hi H Q)
theorem sl_P : SlR X (rSlP X.K) := sl_list.or (sl_tupA.or sl_str)
theorem OutO.bind {κ : Kx} {M0 M : List Addr} {Γ : En} {σ : L2.St} {H : Hp} {r : Rs (Option Int)} {k : Option Int → En → Rs PV} {Q : VK} (h : Out κ W M0 M Γ σ H (r.bind k) Q) : OutO κ W M0 M Γ σ H r fun o H1 => ∃ M1 Γ1, Stp κ M0 M Γ σ H M1 Γ1 H1 ∧ Out κ W M0 M1 Γ1 σ H1 (k o Γ1) Q := by
  cases r with
  | ok v Γ' => exact fun M' H' s => ⟨M', Γ', s, Out.from s h⟩
  | ex c v Γ' => exact h
  | no => exact h
theorem OutO.mono {κ : Kx} {M0 M : List Addr} {Γ : En} {σ : L2.St} {H : Hp} {r : Rs (Option Int)} {Q Q' : Option Int → Hp → Prop} (h : OutO κ W M0 M Γ σ H r Q) (m : ∀ u H', Q u H' → Q' u H') : OutO κ W M0 M Γ σ H r Q' := by
  cases r with
  | ok v Γ' => exact fun M' H' s => m _ _ (h M' H' s)
  | ex c v Γ' => exact h
  | no => exact h
theorem rds {κ : Kx} {v : PV} {l h : Option Int} {c : PV} {x : V} {M : List Addr} {H : Hp} {Q : VK} (e : gSl v l h = some c) (r : Rp κ v x (msk M H)) (al : Alive M H) (q : ∀ H' u, Same H H' → Rp κ c u (msk M H') → Q u H') : rSlP κ.K x l h H Q := by
  cases v <;> (first | (cases e; done) | skip)
  · rename_i z
    have e : (if z.length ≤ 1000000 then some (PV.str (cutS z l h)) else none) = some c := e
    by_cases hz : z.length ≤ 1000000
    · rw [if_pos hz] at e
      cases e
      exact .inr (.inr ⟨z, rp_str.mp r, sz_le hz, q H _ (Same.refl H) (rp_str.mpr rfl)⟩)
    · rw [if_neg hz] at e
      cases e
  · rename_i f xs
    obtain ⟨t, vs, e1, h1, r4⟩ := rp_tup.mp r
    have e := Option.some.inj e
    refine .inr (.inl ⟨t, vs, e1, h1.unmsk.sq, fun z => ?_, fun z t2 ht => ?_⟩)
    · rw [r4.len] at z
      rw [if_pos z] at e
      subst e
      exact q H _ (Same.refl H) (rp_tup.mpr ⟨t, vs, rfl, h1, r4⟩)
    · rw [r4.len] at z
      rw [if_neg z] at e
      subst e
      exact q _ _ (same_new ht) (rp_newT al ht (cut_rp r4 l h))
  · rename_i xs
    obtain ⟨t, vs, e1, h1, r4⟩ := rp_lst.mp r
    have e := Option.some.inj e
    subst e
    exact .inl ⟨t, vs, e1, SqL.of (msk_of h1).1, fun t2 ht => q _ _ (same_new ht) (rp_newL al ht (cut_rp r4 l h))⟩
theorem p_slice {lo hi : Option Expr} {fl fh : SO} (ha : PE X a (tP (kx X cA) W fa)) (hl : PO X lo (tPO (kx X cA) W fl)) (hh : PO X hi (tPO (kx X cA) W fh)) : PE X (.Subscript a (.Slice lo hi none p2) pos) (tP (kx X cA) W (sSl fa fl fh)) :=
  pe_mono (pe_slice sl_P ha hl hh) fun σ H Q ⟨M0, M, Γ, ok, q⟩ => ⟨M0, M, Γ, ok, (Out.bind q).mono fun u H1 ⟨v, M1, Γ1, s1, r1, _, q1⟩ => ⟨M0, M1, Γ1, s1.eok, (OutO.bind q1).mono fun l H2 ⟨M2, Γ2, s2, q2⟩ => ⟨M0, M2, Γ2, s2.eok, (OutO.bind q2).mono fun h H3 ⟨M3, Γ3, s3, q3⟩ => by
    have r3 := s3.keep s2.eok (s2.keep s1.eok r1)
    cases hg : gSl v l h with
    | none => rw [hg] at q3; exact q3.elim
    | some c =>
      rw [hg] at q3
      exact rds (κ := kx X cA) hg r3 s3.eok.alive fun H' u s r => q3 M3 H' u (Stp.of s3.eok s) r⟩⟩⟩
/-! ### built-ins -/
def sB (g : List PV → Option PV) (fs : SA) : SE := fun Γ => (fs Γ).bind fun vs Γ1 => ofO (g vs) Γ1
def RDc (κ : Kx) (r : List V → Hp → VK → Prop) (g : List PV → Option PV) : Prop := ∀ as c xs M H Q, g as = some c → RpA κ as xs (msk M H) → Alive M H → (∀ H' u, Same H H' → Rp κ c u (msk M H') → Q u H') → r xs H Q
theorem call_out {κ : Kx} {r : List V → Hp → VK → Prop} {g : List PV → Option PV} (hg : RDc κ r g) {σ : L2.St} {H : Hp} {Q : VK} (h : tP κ W (sB g fs) σ H Q) : tCB r (tPA κ W fs) σ H Q := by
  obtain ⟨M0, M, Γ, ok, q⟩ := h
  refine ⟨M0, M, Γ, ok, (OutA.bind q).mono fun xs H1 ⟨vs, M1, Γ1, s1, r1, _, q1⟩ => ?_⟩
  cases hgv : g vs with
  | none => rw [hgv] at q1; exact q1.elim
  | some c =>
    rw [hgv] at q1
    exact hg vs c xs M1 H1 Q hgv r1 s1.eok.alive fun H' u s r => q1 M1 H' u (Stp.of s1.eok s) r
theorem p_callB {id : String} {r : List V → Hp → VK → Prop} {g : List PV → Option PV} (hc : CallR X (.builtin id) r) (hr : RDc (kx X cA) r g) (hg : Gl X x) (hm : X.mg x = none) (hv : bootBuiltins x = some (.builtin id)) (ha : PA X (e :: es) (tPA (kx X cA) W fs)) (hn : x ≠ "__name__" := by decide) (hdb : (x == ("__debug__" : Str)) = false := by decide)
    (he : starEach (e :: es) X.env = (false, eval e X.env) :: starEach es X.env := by rfl) (hpl : (backTo pos (starEach es X.env)).any (·.1) = false := by rfl) : PE X (.Call (.Name x p) (e :: es) [] pos) (tP (kx X cA) W (sB g fs)) :=
  pe_mono (pe_callB hc hg hm hv ha hn hdb he hpl) fun σ H Q h => call_out hr h
theorem p_callT {T : String} {r : List V → Hp → VK → Prop} {g : List PV → Option PV} (hc : CallR X (.type T) r) (hr : RDc (kx X cA) r g) (hg : Gl X x) (hm : X.mg x = none) (hv : bootBuiltins x = some (.type T)) (ha : PA X (e :: es) (tPA (kx X cA) W fs)) (hn : x ≠ "__name__" := by decide) (hdb : (x == ("__debug__" : Str)) = false := by decide)
    (he : starEach (e :: es) X.env = (false, eval e X.env) :: starEach es X.env := by rfl) (hpl : (backTo pos (starEach es X.env)).any (·.1) = false := by rfl) : PE X (.Call (.Name x p) (e :: es) [] pos) (tP (kx X cA) W (sB g fs)) :=
  pe_mono (pe_callTy hc hg hm hv ha hn hdb he hpl) fun σ H Q h => call_out hr h
end
section
variable {X : Cx} {κ : Kx}
theorem rpA1 {p : PV} {xs : List V} {H : Hp} (r : RpA κ [p] xs H) : ∃ x, xs = [x] ∧ Rp κ p x H := by
  match xs, r with
  | [], r => unfold RpA at r; exact r.elim
  | [x], r => exact ⟨x, rfl, (rpA_cons.mp r).1⟩
  | x :: y :: z, r => have := r.len; simp at this
theorem rpA2 {p p' : PV} {xs : List V} {H : Hp} (r : RpA κ [p, p'] xs H) : ∃ x y, xs = [x, y] ∧ Rp κ p x H ∧ Rp κ p' y H := by
  match xs, r with
  | [], r => unfold RpA at r; exact r.elim
  | x :: ys, r =>
    obtain ⟨r1, r2⟩ := rpA_cons.mp r
    obtain ⟨y, rfl, r3⟩ := rpA1 r2
    exact ⟨x, y, rfl, r1, r3⟩
/-- len of a list, a tuple, a text -/
def gLen : List PV → Option PV
  | [.lst xs] => some (.int xs.length)
  | [.tup _ xs] => some (.int xs.length)
  | [.str x] => if x.length ≤ 1000000 then some (.int x.length) else none
  | _ => none
abbrev rLenP (K : PySem.W.Frag) : List V → Hp → VK → Prop := fun xs H Q => (∃ p ys, xs = [.ref p] ∧ (SqL K H p ys ∨ SqT K H p ys) ∧ Q (.int ys.length) H) ∨ (∃ z, xs = [.str z] ∧ z.length ≤ sizeLine ∧ Q (.int z.length) H)
theorem CallR.or {f : Value} {r r' : List V → Hp → VK → Prop} (h : CallR X f r) (h' : CallR X f r') : CallR X f (fun xs H Q => r xs H Q ∨ r' xs H Q) := by
  intro pins s σ H xs us Q I rs q
  rcases q with q | q
  · exact h pins s σ H xs us Q I rs q
  · exact h' pins s σ H xs us Q I rs q
theorem call_lenP : CallR X (.builtin "len") (rLenP X.K) := CallR.or call_len_seq call_len_str
theorem rdc_len : RDc κ (rLenP κ.K) gLen := fun as c xs M H Q e r al q => by
  unfold gLen at e
  split at e
  · cases e
    obtain ⟨x, rfl, r1⟩ := rpA1 r
    obtain ⟨p, vs, rfl, h1, r2⟩ := rp_lst.mp r1
    exact .inl ⟨p, vs, rfl, .inl (SqL.of (msk_of h1).1), q H _ (Same.refl H) (rp_int.mpr (by rw [r2.len]))⟩
  · cases e
    obtain ⟨x, rfl, r1⟩ := rpA1 r
    obtain ⟨p, vs, rfl, h1, r2⟩ := rp_tup.mp r1
    exact .inl ⟨p, vs, rfl, .inr h1.unmsk.sq, q H _ (Same.refl H) (rp_int.mpr (by rw [r2.len]))⟩
  · rename_i z
    by_cases l : z.length ≤ 1000000
    · rw [if_pos l] at e
      cases e
      obtain ⟨x, rfl, r1⟩ := rpA1 r
      exact .inr ⟨z, by rw [rp_str.mp r1], sz_le l, q H _ (Same.refl H) (rp_int.mpr rfl)⟩
    · rw [if_neg l] at e
      cases e
  · cases e
def gInt : List PV → Option PV
  | [.int i] => some (.int i)
  | [.bl b] => some (.int (if b then 1 else 0))
  | _ => none
theorem rdc_int : RDc κ (fun xs H Q => (∃ i, xs = [.int i] ∧ Q (.int i) H) ∨ ∃ k, xs = [.bl k] ∧ Q (.int (if k then 1 else 0)) H) gInt := fun as c xs M H Q e r al q => by
  unfold gInt at e
  split at e
  · cases e
    obtain ⟨x, rfl, r1⟩ := rpA1 r
    exact .inl ⟨_, by rw [rp_int.mp r1], q H _ (Same.refl H) (rp_int.mpr rfl)⟩
  · cases e
    obtain ⟨x, rfl, r1⟩ := rpA1 r
    exact .inr ⟨_, by rw [rp_bl.mp r1], q H _ (Same.refl H) (rp_int.mpr rfl)⟩
  · cases e
def gMin : List PV → Option PV
  | [.int i, .int j] => some (.int (if j < i then j else i))
  | _ => none
/-- list(a list, a tuple) -/
def gList : List PV → Option PV
  | [.lst xs] => some (.lst xs)
  | [.tup _ xs] => some (.lst xs)
  | _ => none
/-- tuple(a list), tuple(a tuple) -/
def gTuple : List PV → Option PV
  | [.lst xs] => some (.tup true xs)
  | [.tup f xs] => some (.tup f xs)
  | _ => none
abbrev rTupP (K : PySem.W.Frag) : List V → Hp → VK → Prop := fun xs H Q => (∃ p ys, xs = [.ref p] ∧ SqL K H p ys ∧ ∀ l o, H l = none → o.dict = none → Q (.ref l) (upd H l (.frz o (.tup ys)))) ∨ (∃ a ys, xs = [.ref a] ∧ SqT K H a ys ∧ Q (.ref a) H)
theorem call_tupP : CallR X (.type "tuple") (rTupP X.K) := CallR.or call_tuple_frz call_tupleT
theorem rdc_tup : RDc κ (rTupP κ.K) gTuple := fun as c xs M H Q e r al q => by
  unfold gTuple at e
  split at e
  · cases e
    obtain ⟨x, rfl, r1⟩ := rpA1 r
    obtain ⟨p, vs, rfl, h1, r2⟩ := rp_lst.mp r1
    exact .inl ⟨p, vs, rfl, SqL.of (msk_of h1).1, fun l o hl hd => q _ _ (same_new hl) (rp_tup.mpr ⟨l, vs, rfl, ⟨o, msk_newA al hl, hd⟩, RpA.st (LamX.ExtN.of (msk_same (same_new hl))) r2⟩)⟩
  · cases e
    obtain ⟨x, rfl, r1⟩ := rpA1 r
    obtain ⟨p, vs, rfl, h1, r2⟩ := rp_tup.mp r1
    exact .inr ⟨p, vs, rfl, h1.unmsk.sq, q H _ (Same.refl H) (rp_tup.mpr ⟨p, vs, rfl, h1, r2⟩)⟩
  · cases e
/-- lists of bools -/
def blsOf : List PV → Option (List Bool)
  | [] => some []
  | .bl b :: r => (blsOf r).map fun bs => b :: bs
  | _ :: _ => none
theorem rp_bls {H : Hp} : ∀ {ps : List PV} {vs : List V} {bs : List Bool}, blsOf ps = some bs → RpA κ ps vs H → vs = bs.map V.bl
  | [], vs, bs, e, r => by
    cases e
    exact List.eq_nil_of_length_eq_zero r.len
  | p :: ps, [], bs, e, r => by unfold RpA at r; exact r.elim
  | p :: ps, v :: vs, bs, e, r => by
    obtain ⟨r1, r2⟩ := rpA_cons.mp r
    cases p <;> (first | (cases e; done) | skip)
    obtain ⟨bs', e2, rfl⟩ := Option.map_eq_some_iff.mp e
    rw [rp_bl.mp r1, rp_bls e2 r2]
    rfl
def gAll : List PV → Option PV
  | [.lst xs] => (blsOf xs).map fun bs => .bl (bs.all id)
  | _ => none
theorem rdc_all : RDc κ (rAll κ.K) gAll := fun as c xs M H Q e r al q => by
  unfold gAll at e
  split at e
  · obtain ⟨bs, e2, rfl⟩ := Option.map_eq_some_iff.mp e
    obtain ⟨x, rfl, r1⟩ := rpA1 r
    obtain ⟨p, vs, rfl, h1, r2⟩ := rp_lst.mp r1
    exact ⟨p, bs, rfl, by rw [← rp_bls e2 r2]; exact SqL.of (msk_of h1).1, q H _ (Same.refl H) (rp_bl.mpr rfl)⟩
  · cases e
end
end QX

set_option Elab.async false
set_option linter.all false
set_option maxRecDepth 100000
set_option maxHeartbeats 4000000
namespace QX
open PySem PySem.Spec PySem.W PySem.Calls PyProof.Rows L2 MX
/-! ### sorted pairs of texts -/
def evP (e : Evt) : PV := .tup false [.str e.1, .str e.2]
def unEv : PV → Option Evt
  | .tup false [.str a, .str b] => some (a, b)
  | _ => none
def unEvs : List PV → Option (List Evt)
  | [] => some []
  | p :: ps => match unEv p, unEvs ps with
    | some e, some es => some (e :: es)
    | _, _ => none
theorem unEv_some {p : PV} {e : Evt} (h : unEv p = some e) : p = evP e := by
  unfold unEv at h
  split at h
  · cases h; rfl
  · cases h
theorem unEvs_some : ∀ {ps : List PV} {es : List Evt}, unEvs ps = some es → ps = es.map evP
  | [], es, h => by cases h; rfl
  | p :: ps, es, h => by
    unfold unEvs at h
    split at h
    · rename_i e es' h1 h2
      cases h
      rw [unEv_some h1, unEvs_some h2]
      rfl
    · cases h
theorem rp_ev {κ : Kx} {H : Hp} {e : Evt} {v : V} : Rp κ (evP e) v H ↔ (evR e).R v H := by
  rw [evR_iff]
  constructor
  · intro r
    obtain ⟨a, vs, e1, h1, r1⟩ := rp_tup.mp r
    obtain ⟨x, y, rfl, r2, r3⟩ : ∃ x y, vs = [x, y] ∧ Rp κ (.str e.1) x H ∧ Rp κ (.str e.2) y H := by
      match vs, r1 with
      | [x, y], r1 =>
        obtain ⟨r2, r3⟩ := rpA_cons.mp r1
        obtain ⟨r3, _⟩ := rpA_cons.mp r3
        exact ⟨x, y, rfl, r2, r3⟩
      | [], r1 => have := r1.len; simp at this
      | [_], r1 => have := r1.len; simp at this
      | _ :: _ :: _ :: _, r1 => have := r1.len; simp at this
    rw [rp_str.mp r2, rp_str.mp r3] at h1
    rcases h1 with h1 | ⟨h1, _⟩
    · exact ⟨a, e1, h1⟩
    · cases h1
  · rintro ⟨t, rfl, h⟩
    exact rp_tup.mpr ⟨t, _, rfl, .inl h, rpA_cons.mpr ⟨rp_str.mpr rfl, rpA_cons.mpr ⟨rp_str.mpr rfl, rpA_nil⟩⟩⟩
theorem rp_evs {κ : Kx} {H : Hp} : ∀ {es : List Evt} {vs : List V}, RpA κ (es.map evP) vs H ↔ All2 (es.map evR) vs H
  | [], [] => by simp [RpA, All2]
  | e :: es, v :: vs => by
    show RpA κ (evP e :: es.map evP) (v :: vs) H ↔ ((evR e).R v H ∧ All2 (es.map evR) vs H)
    rw [rpA_cons, rp_ev, rp_evs]
  | [], _ :: _ => by simp [RpA, All2]
  | _ :: _, [] => by simp [RpA, All2]
noncomputable def gSortE : List PV → Option PV
  | [.lst xs] => (unEvs xs).map fun es => .lst ((srtE es).map evP)
  | _ => none
/-! ### repr of data without lists -/
mutual
def noL : PyData → Bool
  | .list _ => false
  | .dict _ => false
  | .tuple ds => noLs ds
  | _ => true
def noLs : List PyData → Bool
  | [] => true
  | d :: ds => noL d && noLs ds
end
mutual
theorem noLL_of : ∀ d : PyData, noL d = true → noLL d = true
  | .none, _ => by simp [noLL]
  | .bool _, _ => by simp [noLL]
  | .int _, _ => by simp [noLL]
  | .str _, _ => by simp [noLL]
  | .list _, h => by simp [noL] at h
  | .dict _, h => by simp [noL] at h
  | .tuple ds, h => by
    simp only [noL] at h
    simp only [noLL]
    exact noLLs_of ds h
theorem noLLs_of : ∀ ds : List PyData, noLs ds = true → noLLs ds = true
  | [], _ => by simp [noLLs]
  | d :: ds, h => by
    simp only [noLs, Bool.and_eq_true] at h
    simp only [noLLs, noLL_of d h.1, noLLs_of ds h.2, Bool.and_self]
end
/-- what repr may show: dicts without lists, or no dicts -/
def okR (d : PyData) : Bool := noLL d || !d.hasDict
def showB (d : PyData) : Bool := d.showable && decide (d.depth ≤ 60) && decide (d.shown.length ≤ 16777216)
def gRepr : List PV → Option PV
  | [p] => match toD p with
    | some d => if okR d = true ∧ showB d = true then some (.str d.shown) else none
    | none => none
  | _ => none
/-! ### methods -/
def gIndex (xs : List PV) (y : PV) : Option PV := match toDs xs, toD y with
    | some ds, some d => if SeqAt.shaped (.list ds) = true ∧ SeqAt.shaped d = true then (ds.findIdx? fun z => PyData.eqv z d).map (fun (j : Nat) => PV.int (j : Int)) else none
    | _, _ => none
def strsOf : List PV → Option (List Str)
  | [] => some []
  | .str x :: r => (strsOf r).map fun xs => x :: xs
  | _ :: _ => none
def seqOf : PV → Option (List PV)
  | .lst xs => some xs
  | .tup _ xs => some xs
  | _ => none
def gJoin (a : Str) (p : PV) : Option PV := match (seqOf p).bind strsOf with
    | some ys => if (ys.map (·.length)).sum + ys.length * a.length ≤ 16777216 then some (.str (Txt.join a ys)) else none
    | none => none
def gSplit (a : Str) (p : PV) : Option PV := match p with
  | .str b => if b.length ≠ 0 ∧ a.length ≤ 1000000 then some (.lst ((Txt.split a b).map .str)) else none
  | _ => none
/-- methods of texts, of tuples -/
def sStrM (g : Str → PV → Option PV) (f fe : SE) : SE := fun Γ => (f Γ).bind fun v Γ1 => match v with
  | .str z => (fe Γ1).bind fun w Γ2 => ofO (g z w) Γ2
  | _ => .no
def sTupM (g : List PV → PV → Option PV) (f fe : SE) : SE := fun Γ => (f Γ).bind fun v Γ1 => match v with
  | .tup true xs => (fe Γ1).bind fun w Γ2 => ofO (g xs w) Γ2
  | _ => .no
section
variable {X : Cx} {κ : Kx}
theorem rdc_sortE : RDc κ (rSortE κ.K) gSortE := fun as c xs M H Q e r al q => by
  unfold gSortE at e
  split at e
  · obtain ⟨es, e2, rfl⟩ := Option.map_eq_some_iff.mp e
    obtain ⟨x, rfl, r1⟩ := rpA1 r
    obtain ⟨p, vs, rfl, h1, r2⟩ := rp_lst.mp r1
    rw [unEvs_some e2] at r2
    exact ⟨p, vs, es, rfl, SqL.of (msk_of h1).1, _, msk_sub (M := M), rp_evs.mp r2, fun p ys hp al2 => q _ _ (same_new hp) (rp_newL al hp (rp_evs.mpr al2))⟩
  · cases e
theorem rp_strs {H : Hp} : ∀ {ps : List PV} {vs : List V} {ys : List Str}, strsOf ps = some ys → RpA κ ps vs H → vs = ys.map V.str
  | [], vs, ys, e, r => by
    cases e
    exact List.eq_nil_of_length_eq_zero r.len
  | p :: ps, [], ys, e, r => by unfold RpA at r; exact r.elim
  | p :: ps, v :: vs, ys, e, r => by
    obtain ⟨r1, r2⟩ := rpA_cons.mp r
    cases p <;> (first | (cases e; done) | skip)
    obtain ⟨ys', e2, rfl⟩ := Option.map_eq_some_iff.mp e
    rw [rp_str.mp r1, rp_strs e2 r2]
    rfl
theorem rp_ofStrs {H : Hp} : ∀ ys : List Str, RpA κ (ys.map .str) (ys.map V.str) H
  | [] => rpA_nil
  | y :: ys => rpA_cons.mpr ⟨rp_str.mpr rfl, rp_ofStrs ys⟩
end
section
variable {X : Cx} {cA : CA} {W : WX} {x : Str} {pos p p2 apos : Pos} {a b c e o : Expr} {fa fb fc : SE} {es : List Expr} {fs : SA}
theorem str_out {r : V → List V → Hp → VK → Prop} {g : Str → PV → Option PV} (hg : ∀ z w c y M H Q, g z w = some c → Rp (kx X cA) w y (msk M H) → Alive M H → (∀ H' u, Same H H' → Rp (kx X cA) c u (msk M H') → Q u H') → r (.str z) [y] H Q) {σ : L2.St} {H : Hp} {Q : VK} (h : tP (kx X cA) W (sStrM g fa fb) σ H Q) : tM1 r (tP (kx X cA) W fa) (tP (kx X cA) W fb) σ H Q := by
  obtain ⟨M0, M, Γ, ok, q⟩ := h
  refine ⟨M0, M, Γ, ok, (Out.bind q).mono fun u H1 ⟨v, M1, Γ1, s1, r1, hv, q1⟩ => ?_⟩
  cases v <;> (first | (exact q1.elim) | skip)
  rename_i z
  rw [rp_str.mp r1]
  refine ⟨⟨z, rfl⟩, M0, M1, Γ1, s1.eok, (Out.bind q1).mono fun y H2 ⟨w, M2, Γ2, s2, r2, hw, q2⟩ => ?_⟩
  cases hgv : g z w with
  | none => rw [hgv] at q2; exact q2.elim
  | some c =>
    rw [hgv] at q2
    exact hg z w c y M2 H2 Q hgv r2 s2.eok.alive fun H' u s r => q2 M2 H' u (Stp.of s2.eok s) r
theorem p_join (ho : PE X o (tP (kx X cA) W fa)) (he : PE X e (tP (kx X cA) W fb)) (hs : starEach [e] X.env = [(false, eval e X.env)] := by rfl) (hbase : attributeBase o "join" X.env (eval o X.env) = eval o X.env := by rfl) (hline : (apos.endLine == pos.line) = true := by rfl) :
    PE X (.Call (.Attribute o "join" apos) [e] [] pos) (tP (kx X cA) W (sStrM gJoin fa fb)) :=
  pe_mono (pe_join ho he hs hbase hline) fun σ H Q h => str_out (fun z w c y M H Q e r al q => by
    unfold gJoin at e
    split at e
    · rename_i ys hy
      by_cases l : (ys.map (·.length)).sum + ys.length * z.length ≤ 16777216
      · rw [if_pos l] at e
        cases e
        obtain ⟨xs, h1, h2⟩ := Option.bind_eq_some_iff.mp hy
        cases w <;> (first | (cases h1; done) | skip)
        · cases h1
          obtain ⟨t, vs, rfl, ht, r2⟩ := rp_tup.mp r
          exact ⟨z, t, ys, rfl, rfl, .inr (by rw [← rp_strs h2 r2]; exact ht.unmsk.sq), l, q H _ (Same.refl H) (rp_str.mpr rfl)⟩
        · cases h1
          obtain ⟨t, vs, rfl, ht, r2⟩ := rp_lst.mp r
          exact ⟨z, t, ys, rfl, rfl, .inl (by rw [← rp_strs h2 r2]; exact SqL.of (msk_of ht).1), l, q H _ (Same.refl H) (rp_str.mpr rfl)⟩
      · rw [if_neg l] at e
        cases e
    · cases e) h
theorem p_split (ho : PE X o (tP (kx X cA) W fa)) (he : PE X e (tP (kx X cA) W fb)) (hs : starEach [e] X.env = [(false, eval e X.env)] := by rfl) (hbase : attributeBase o "split" X.env (eval o X.env) = eval o X.env := by rfl) (hline : (apos.endLine == pos.line) = true := by rfl) :
    PE X (.Call (.Attribute o "split" apos) [e] [] pos) (tP (kx X cA) W (sStrM gSplit fa fb)) :=
  pe_mono (pe_split ho he hs hbase hline) fun σ H Q h => str_out (fun z w c y M H Q e r al q => by
    unfold gSplit at e
    split at e
    · rename_i b
      by_cases l : b.length ≠ 0 ∧ z.length ≤ 1000000
      · rw [if_pos l] at e
        cases e
        exact ⟨z, b, rfl, by rw [rp_str.mp r], by simpa using l.1, by rw [sizeLine_eq]; omega, fun p hp => q _ _ (same_new hp) (rp_newL al hp (rp_ofStrs _))⟩
      · rw [if_neg l] at e
        cases e
    · cases e) h
end
end QX

set_option Elab.async false
set_option linter.all false
set_option maxRecDepth 100000
set_option maxHeartbeats 4000000
namespace QX
open PySem PySem.Spec PySem.W PySem.Calls PyProof.Rows L2 MX
/-! ### dicts -/
def lookK {κ' : Type} [DecidableEq κ'] (kk : List κ') (vs : List PV) (k : κ') : Option PV := ((kk.zip vs).find? fun q => decide (q.1 = k)).map (·.2)
def gGet (ks vs : List PV) (k : PV) : Option (Option PV) := match fkeys ks, keyOf k with
  | some kk, some key => some (lookK kk vs key)
  | _, _ => match tkeysOf ks, tkeyK k with
    | some kk, some key => some (lookK kk vs key)
    | _, _ => none
theorem look_rp {κ : Kx} {κ' : Type} [DecidableEq κ'] {k : κ'} {H : Hp} : ∀ {kk : List κ'} {vs : List PV} {us : List V}, RpA κ vs us H → match lookK kk vs k with
    | some p => ∃ u, valV (kk.zip us) k = some u ∧ Rp κ p u H
    | none => valV (kk.zip us) k = none
  | [], vs, us, _ => by simp [lookK, valV]
  | q :: kk, [], us, r => by
    have := List.eq_nil_of_length_eq_zero r.len
    subst this
    simp [lookK, valV]
  | q :: kk, v :: vs, [], r => by unfold RpA at r; exact r.elim
  | q :: kk, v :: vs, u :: us, r => by
    obtain ⟨r1, r2⟩ := rpA_cons.mp r
    have ih := look_rp (k := k) (kk := kk) r2
    unfold lookK valV at *
    rw [List.zip_cons_cons, List.zip_cons_cons, List.find?_cons, List.find?_cons]
    by_cases c : q = k
    · simp only [c, decide_true]
      exact ⟨u, rfl, r1⟩
    · simp only [c, decide_false]
      exact ih
theorem key_kV {κ : Kx} {H : Hp} {p : PV} {k : Key} {v : V} (h : keyOf p = some k) (r : Rp κ p v H) : v = kV k := by
  cases p <;> (first | (cases h; done) | skip)
  · cases h; exact rp_int.mp r
  · cases h; exact rp_str.mp r
theorem keys_kV {κ : Kx} {H : Hp} : ∀ {ps : List PV} {ks : List Key} {vs : List V}, keysOf ps = some ks → RpA κ ps vs H → vs = ks.map kV
  | [], ks, vs, h, r => by
    cases h
    exact List.eq_nil_of_length_eq_zero r.len
  | p :: ps, ks, [], h, r => by unfold RpA at r; exact r.elim
  | p :: ps, ks, v :: vs, h, r => by
    obtain ⟨r1, r2⟩ := rpA_cons.mp r
    unfold keysOf at h
    split at h
    · rename_i a b h1 h2
      cases h
      rw [key_kV h1 r1, keys_kV h2 r2]
      rfl
    · cases h
theorem tkey_kV {κ : Kx} {H : Hp} {p : PV} {k : List Key} {v : V} (h : tkeyK p = some k) (r : Rp κ p v H) : ∃ b, v = .ref b ∧ H b = some (.tup (k.map kV)) := by
  unfold tkeyK at h
  split at h
  · obtain ⟨a, vs, e, h1, r1⟩ := rp_tup.mp r
    rcases h1 with h1 | ⟨rfl, _⟩
    · rw [keys_kV h r1] at h1
      exact ⟨a, e, h1⟩
    · exact absurd r1.len (by simp)
  · cases h
theorem fkeys_k {ks : List PV} {a : List Key} (h : fkeys ks = some a) : keysOf ks = some a := by
  cases ks with
  | nil => cases h
  | cons p ps => exact h
theorem excl {ks : List PV} {a : List Key} {b : List (List Key)} (h1 : fkeys ks = some a) (h2 : tkeysOf ks = some b) : False := by
  cases ks with
  | nil => cases h1
  | cons p ps =>
    have h1 := fkeys_k h1
    unfold keysOf at h1
    unfold tkeysOf at h2
    split at h1
    · rename_i x y e1 e2
      split at h2
      · rename_i z w e3 e4
        cases p <;> (first | (cases e1; done) | (cases e3; done))
      · cases h2
    · cases h1
/-- what a dict's place tells of a key -/
theorem get_rp {κ : Kx} {M : List Addr} {H : Hp} {ks vs : List PV} {k : PV} {o : Option PV} {x y : V} (e : gGet ks vs k = some o) (rd : Rp κ (.dct ks vs) x (msk M H)) (rk : Rp κ k y (msk M H)) :
    ∃ a, x = .ref a ∧ IsD H a ∧ match o with
      | some p => ∃ u, DGet H a y (some u) ∧ Rp κ p u (msk M H)
      | none => DGet H a y none := by
  unfold Rp at rd
  obtain ⟨a, us, rfl, h, l, r⟩ := rd
  have isd : IsD H a := by
    rcases h with ⟨kk, _, h⟩ | ⟨kk, _, h⟩
    · exact .inl ⟨_, .inl (msk_of h).1⟩
    · exact .inr ⟨_, .inl (msk_of h).1⟩
  refine ⟨a, rfl, isd, ?_⟩
  unfold gGet at e
  split at e
  · rename_i kk key h1 h2
    rcases h with ⟨kk', h3, h⟩ | ⟨kk', h3, h⟩
    · rw [h1] at h3
      cases h3
      have z := look_rp (k := key) (kk := kk) r
      rw [Option.some.inj e] at z
      rw [key_kV h2 rk]
      cases o with
      | some p =>
        obtain ⟨u, z1, z2⟩ := z
        exact ⟨u, by rw [← z1]; exact DGet.k (msk_of h).1, z2⟩
      | none =>
        show DGet H a (kV key) none
        rw [← z]
        exact DGet.k (msk_of h).1
    · exact (excl h1 h3).elim
  · split at e
    · rename_i hno kk key h1 h2
      rcases h with ⟨kk', h3, h⟩ | ⟨kk', h3, h⟩
      · exact (excl h3 h1).elim
      · rw [h1] at h3
        cases h3
        obtain ⟨b, rfl, hb⟩ := tkey_kV h2 rk
        have z := look_rp (k := key) (kk := kk) r
        rw [Option.some.inj e] at z
        cases o with
        | some p =>
          obtain ⟨u, z1, z2⟩ := z
          exact ⟨u, by rw [← z1]; exact DGet.t (msk_of h).1 (msk_of hb).1, z2⟩
        | none =>
          show DGet H a (.ref b) none
          rw [← z]
          exact DGet.t (msk_of h).1 (msk_of hb).1
    · cases e
def gDict (d k : PV) : Option PV := match d with
  | .dct ks vs => (gGet ks vs k).bind id
  | _ => none
/-! ### a place beside the state -/
section
variable {κ : Kx} {M0 M M1 : List Addr} {Γ Γ1 : En} {σ : L2.St} {H H1 : Hp} {t : Addr} {o o' : HO}
theorem msk_push (ht : H t = none) : msk (t :: M) (L2.upd H t o) = msk M H := funext fun b => by
  unfold msk
  by_cases c : b = t
  · subst c
    rw [if_pos List.mem_cons_self, ht]
    split <;> rfl
  · by_cases m : b ∈ M
    · rw [if_pos (List.mem_cons_of_mem _ m), if_pos m]
    · rw [if_neg (by simp [c, m]), if_neg m, upd_ne c]
theorem upd_some {b : Addr} (h : H b ≠ none) : L2.upd H t o b ≠ none := by
  by_cases c : b = t
  · rw [c, upd_same]; exact fun z => by cases z
  · rw [upd_ne c]; exact h
theorem EOK.push (ok : EOK κ M0 M Γ σ H) (ht : H t = none) (hm : Mut o := by first | exact .inl ⟨_, rfl⟩ | exact .inr (.inr ⟨_, rfl⟩) | exact .inr (.inl ⟨_, rfl⟩)) : EOK κ (t :: M0) (t :: M) Γ σ (L2.upd H t o) :=
  ⟨ok.len, fun k v e => by
    obtain ⟨u, e1, r⟩ := ok.va k v e
    exact ⟨u, e1, by rw [msk_push ht]; exact r⟩, fun k io v e => by
    obtain ⟨a, e1, m, n, r⟩ := ok.ow k io v e
    have c : a ≠ t := fun z => ok.alive.nn m (by rw [z]; exact ht)
    exact ⟨a, e1, List.mem_cons_of_mem _ m, by simp [c, n], r.st (upd_ne c) (by rw [msk_push ht]; exact LamX.ExtN.refl _)⟩, ok.inj, fun b hb => by
    rcases List.mem_cons.mp hb with hb | hb
    · rw [hb]; exact List.mem_cons_self
    · exact List.mem_cons_of_mem _ (ok.sub b hb), fun b hb => by
    rcases List.mem_cons.mp hb with hb | hb
    · rw [hb, upd_same]; exact ⟨_, rfl, hm⟩
    · obtain ⟨o2, e2, m2⟩ := ok.alive b hb
      exact ⟨o2, by rw [upd_ne (ne_of_none e2 ht)]; exact e2, m2⟩, tabs_upd ok.tab (.inl ht)⟩
abbrev wo (t : Addr) (M : List Addr) : List Addr := M.filter fun b => decide (b ≠ t)
theorem mem_wo {b : Addr} : b ∈ wo t M ↔ b ∈ M ∧ b ≠ t := by simp
theorem Stp.at (s : Stp κ (t :: M0) (t :: M) Γ σ (L2.upd H t o) M1 Γ1 H1) (ok : EOK κ M0 M Γ σ H) (ht : H t = none) (hm' : Mut o := by first | exact .inl ⟨_, rfl⟩ | exact .inr (.inr ⟨_, rfl⟩) | exact .inr (.inl ⟨_, rfl⟩)) : H1 t = some o :=
  s.chg t o upd_same (fun z => ok.alive.nn (ok.own z).1 ht) hm'.nt
theorem pop_same (hm : t ∈ M1) : Same (msk M1 H1) (msk (wo t M1) (L2.upd H1 t o')) := fun b u e => by
  obtain ⟨e, n⟩ := msk_of e
  have c : b ≠ t := fun z => n (by rw [z]; exact hm)
  rw [msk_in (fun z => n (mem_wo.mp z).1), upd_ne c]
  exact e
theorem Stp.pop (s : Stp κ (t :: M0) (t :: M) Γ σ (L2.upd H t o) M1 Γ1 H1) (ok : EOK κ M0 M Γ σ H) (ht : H t = none) : Stp κ M0 M Γ σ H (wo t M1) Γ1 (L2.upd H1 t o') := by
  have hm : t ∈ M1 := s.eok.sub t List.mem_cons_self
  have sm : Same (msk M1 H1) (msk (wo t M1) (L2.upd H1 t o')) := pop_same hm
  have ntM : t ∉ M := ok.alive.free ht
  refine ⟨⟨s.eok.len, fun k v e => ?_, fun k io v e => ?_, s.eok.inj, fun b hb => mem_wo.mpr ⟨s.eok.sub b (List.mem_cons_of_mem _ hb), fun z => ntM (by rw [← z]; exact ok.sub b hb)⟩, fun b hb => ?_, tabs_upd s.eok.tab (.inr (s.eok.alive t hm))⟩, fun b hb => ?_, fun b u e n nt => ?_, s.ows, fun b hb => ?_⟩
  · obtain ⟨u, e1, r⟩ := s.eok.va k v e
    exact ⟨u, e1, Rp.st (LamX.ExtN.of sm) r⟩
  · obtain ⟨a, e1, m, n, r⟩ := s.eok.ow k io v e
    have c : a ≠ t := fun z => n (by rw [z]; exact List.mem_cons_self)
    exact ⟨a, e1, mem_wo.mpr ⟨m, c⟩, fun z => n (List.mem_cons_of_mem _ z), r.st (upd_ne c) (LamX.ExtN.of sm)⟩
  · obtain ⟨hb, c⟩ := mem_wo.mp hb
    rw [upd_ne c]
    exact s.eok.alive b hb
  · obtain ⟨hb, c⟩ := mem_wo.mp hb
    rcases List.mem_cons.mp (s.sub b hb) with z | z
    · exact absurd z c
    · exact z
  · have c : b ≠ t := ne_of_none e ht
    rw [upd_ne c]
    exact s.chg b u (by rw [upd_ne c]; exact e) n nt
  · exact upd_some (s.liv b (upd_some hb))
theorem upd_id {H : Hp} {a : Addr} {o : HO} (h : H a = some o) : L2.upd H a o = H := funext fun b => by
  by_cases c : b = a
  · rw [c, upd_same, h]
  · rw [upd_ne c]
theorem Stp.pop0 (s : Stp κ (t :: M0) (t :: M) Γ σ (L2.upd H t o) M1 Γ1 H1) (ok : EOK κ M0 M Γ σ H) (ht : H t = none) (hm' : Mut o := by first | exact .inl ⟨_, rfl⟩ | exact .inr (.inr ⟨_, rfl⟩) | exact .inr (.inl ⟨_, rfl⟩)) : Stp κ M0 M Γ σ H (wo t M1) Γ1 H1 ∧ Same (msk M1 H1) (msk (wo t M1) H1) := by
  have z := s.pop (o' := o) ok ht
  have e : L2.upd H1 t o = H1 := upd_id (s.at ok ht hm')
  have w := pop_same (o' := o) (H1 := H1) (s.eok.sub t List.mem_cons_self)
  rw [e] at z w
  exact ⟨z, w⟩
end
section
variable {X : Cx} {cA : CA} {W : WX} {x : Str} {pos p p1 p2 p3 apos : Pos} {a b c e o : Expr} {fa fb fc : SE} {es : List Expr} {fs : SA}
/-- d[k] -/
theorem p_dget (hu : X.A.units + 64 < cLine) (ha : PE X a (tP (kx X cA) W fa)) (hb : PE X b (tP (kx X cA) W fb)) (hs : NoSl b := by intro _ _; rfl) : PE X (.Subscript a b pos) (tP (kx X cA) W (sBin gDict fa fb)) :=
  pe_mono (pe_dget (by omega) ha hb hs) fun σ H Q ⟨M0, M, Γ, ok, q⟩ => ⟨M0, M, Γ, ok, (Out.bind q).mono fun x H1 ⟨v, M1, Γ1, s1, r1, _, q1⟩ => ⟨M0, M1, Γ1, s1.eok, (Out.bind q1).mono fun y H2 ⟨w, M2, Γ2, s2, r2, _, q2⟩ => by
    have r3 := s2.keep s1.eok r1
    cases hg : gDict v w with
    | none => rw [hg] at q2; exact q2.elim
    | some c =>
      rw [hg] at q2
      unfold gDict at hg
      split at hg
      · obtain ⟨o, h1, h2⟩ := Option.bind_eq_some_iff.mp hg
        obtain rfl : o = some c := h2
        obtain ⟨a, rfl, _, u, h3, h4⟩ := get_rp h1 r3 r2
        exact ⟨a, u, rfl, h3, q2 M2 H2 u (Stp.refl s2.eok) h4⟩
      · cases hg⟩⟩
/-- d.get(k, z) -/
def sGet2 (fa fb fc : SE) : SE := fun Γ => (fa Γ).bind fun d Γ1 => match d with
  | .dct ks vs => (fb Γ1).bind fun k Γ2 => (fc Γ2).bind fun z Γ3 => match gGet ks vs k with
    | some (some v) => .ok v Γ3
    | some none => .ok z Γ3
    | none => .no
  | _ => .no
theorem p_get2 (hu : X.A.units + 64 < cLine) (ho : PE X o (tP (kx X cA) W fa)) (hb : PE X b (tP (kx X cA) W fb)) (hc : PE X c (tP (kx X cA) W fc)) (m : M2 X o "get" apos b c pos) : PE X (.Call (.Attribute o "get" apos) [b, c] [] pos) (tP (kx X cA) W (sGet2 fa fb fc)) :=
  pe_mono (pe_dget2 (by omega) ho hb hc m) fun σ H Q ⟨M0, M, Γ, ok, q⟩ => ⟨M0, M, Γ, ok, (Out.bind q).mono fun x H1 ⟨v, M1, Γ1, s1, r1, hv, q1⟩ => by
    cases v <;> (first | (exact q1.elim) | skip)
    rename_i ks vs
    have isd : ∃ t, x = .ref t ∧ IsD H1 t := by
      have r := r1
      unfold Rp at r
      obtain ⟨t, us, e, h, _⟩ := r
      refine ⟨t, e, ?_⟩
      rcases h with ⟨kk, _, h⟩ | ⟨kk, _, h⟩
      · exact .inl ⟨_, .inl (msk_of h).1⟩
      · exact .inr ⟨_, .inl (msk_of h).1⟩
    obtain ⟨t, e, d⟩ := isd
    refine ⟨t, e, d, M0, M1, Γ1, s1.eok, (Out.bind q1).mono fun y H2 ⟨k, M2, Γ2, s2, r2, hk, q2⟩ => ⟨M0, M2, Γ2, s2.eok, (Out.bind q2).mono fun z H3 ⟨z', M3, Γ3, s3, r3, hz, q3⟩ => ?_⟩⟩
    have rd := s3.keep s2.eok (s2.keep s1.eok r1)
    have rk := s3.keep s2.eok r2
    cases hg : gGet ks vs k with
    | none => rw [hg] at q3; exact q3.elim
    | some o =>
      rw [hg] at q3
      obtain ⟨t', e', _, h⟩ := get_rp hg rd rk
      rw [e] at e'
      cases e'
      cases o with
      | some w =>
        obtain ⟨u, h1, h2⟩ := h
        exact ⟨some u, h1, q3 M3 H3 u (Stp.refl s3.eok) h2⟩
      | none => exact ⟨none, h, q3 M3 H3 z (Stp.refl s3.eok) r3⟩⟩
/-! displays with texts as keys -/
structure PD (X : Cx) (cA : CA) (W : WX) (pos : Pos) (keys : List (Option Expr)) (values : List Expr) (ks : List Str) (fs : SA) : Prop where
  go : ∃ trs, PPs X pos keys values trs ∧ ∀ σ H Q, tPA (kx X cA) W fs σ H (fun vs H' => vs.length = ks.length ∧ Q ((ks.map V.str).zip vs) H') → tPairs trs σ H Q
def sDict (ks : List Str) (fs : SA) : SE := fun Γ => (fs Γ).bind fun vs Γ1 => if vs.length = ks.length then .ok (.dct (ks.map .str) vs) Γ1 else .no
end
end QX

set_option Elab.async false
set_option linter.all false
set_option maxRecDepth 100000
set_option maxHeartbeats 4000000
namespace QX
open PySem PySem.Spec PySem.W PySem.Calls PyProof.Rows L2 MX
/-! ### fields, kinds, reversals -/
def lookF : List Str → List PV → Str → Option PV
  | n :: ns, v :: vs, f => if f = n then some v else lookF ns vs f
  | _, _, _ => none
theorem lookF_rp {κ : Kx} {H : Hp} {f : Str} : ∀ {ns : List Str} {ws : List PV} {us : List V} {p : PV}, RpA κ ws us H → lookF ns ws f = some p → ∃ u, (ns.zip us).lookup f = some u ∧ Rp κ p u H
  | [], ws, us, p, _, e => by cases ws <;> cases e
  | n :: ns, [], us, p, _, e => by cases e
  | n :: ns, w :: ws, [], p, r, e => by unfold RpA at r; exact r.elim
  | n :: ns, w :: ws, u :: us, p, r, e => by
    obtain ⟨r1, r2⟩ := rpA_cons.mp r
    unfold lookF at e
    rw [List.zip_cons_cons, List.lookup_cons]
    by_cases c : f = n
    · rw [if_pos c] at e
      cases e
      rw [show (f == n) = true from beq_iff_eq.mpr c]
      exact ⟨u, rfl, r1⟩
    · rw [if_neg c] at e
      rw [show (f == n) = false from beq_eq_false_iff_ne.mpr c]
      exact lookF_rp r2 e
def gFld (c f : Str) : PV → Option PV
  | .obj c' ns vs => if c' = c then lookF ns vs f else none
  | _ => none
def sU (g : PV → Option PV) (fa : SE) : SE := fun Γ => (fa Γ).bind fun v Γ1 => ofO (g v) Γ1
def tyN : PV → Option String
  | .non => some "NoneType"
  | .bl _ => some "bool"
  | .int _ => some "int"
  | .str _ => some "str"
  | .tup _ _ => some "tuple"
  | .lst _ => some "list"
  | .dct _ _ => some "dict"
  | _ => none
def gIsTy (T : String) (v : PV) : Option PV := (tyN v).bind fun t => (kitB t T).map .bl
section
variable {X : Cx} {cA : CA} {W : WX} {x y : Str} {pos p p1 p2 p3 apos : Pos} {a b c e o : Expr} {fa fb fc : SE} {es : List Expr} {fs : SA}
theorem p_fld (cl f : Str) (hc : Cls X.K (cA cl)) (hn : NoAttr X.K (cA cl) f) (he : PE X e (tP (kx X cA) W fa)) (hb : attributeBase e f X.env (eval e X.env) = eval e X.env := by rfl) : PE X (.Attribute e f pos) (tP (kx X cA) W (sU (gFld cl f) fa)) :=
  pe_mono (pe_fld he hb) fun σ H Q ⟨M0, M, Γ, ok, q⟩ => ⟨M0, M, Γ, ok, (Out.bind q).mono fun x H1 ⟨v, M1, Γ1, s1, r1, _, q1⟩ => by
    cases v with
    | obj c' ns ws =>
      have q2 : Out (kx X cA) W M0 M1 Γ1 σ H1 (ofO (if c' = cl then lookF ns ws f else none) Γ1) Q := q1
      clear q1
      by_cases z : c' = cl
      · rw [if_pos z] at q2
        subst z
        cases hg : lookF ns ws f with
        | none => rw [hg] at q2; exact q2.elim
        | some w =>
          rw [hg] at q2
          have r := r1
          unfold Rp at r
          obtain ⟨t, dx, us, rfl, h1, l, r2⟩ := r
          obtain ⟨u, h2, h3⟩ := lookF_rp r2 hg
          exact ⟨t, cA c', dx, _, u, rfl, (msk_of h1).1, hc, hn, h2, q2 M1 H1 u (Stp.refl s1.eok) h3⟩
      · rw [if_neg z] at q2
        exact q2.elim
    | _ => exact q1.elim⟩
theorem p_isTy (T : String) (hg : Gl X x) (hm : X.mg x = none) (hv : bootBuiltins x = some (.builtin "isinstance")) (hg2 : Gl X y) (hm2 : X.mg y = none) (hv2 : bootBuiltins y = some (.type T)) (he : PE X e (tP (kx X cA) W fa)) (hn : x ≠ "__name__" := by decide) (hdb : (x == ("__debug__" : Str)) = false := by decide)
    (hn2 : y ≠ "__name__" := by decide) (hdb2 : (y == ("__debug__" : Str)) = false := by decide) (hs : starEach [e, .Name y p2] X.env = (false, eval e X.env) :: starEach [.Name y p2] X.env := by rfl) (hpl : (backTo pos (starEach [.Name y p2] X.env)).any (·.1) = false := by rfl) :
    PE X (.Call (.Name x p) [e, .Name y p2] [] pos) (tP (kx X cA) W (sU (gIsTy T) fa)) :=
  pe_mono (pe_callB call_isi hg hm hv (pa_cons he (pa_cons (pe_bltn (v := .ty T) hg2 hm2 hv2 rfl hn2 hdb2) pa_nil) hs) hn hdb hs hpl) fun σ H Q ⟨M0, M, Γ, ok, q⟩ => ⟨M0, M, Γ, ok, (Out.bind q).mono fun u H1 ⟨v, M1, Γ1, s1, r1, _, q1⟩ => by
    cases hg : gIsTy T v with
    | none => rw [hg] at q1; exact q1.elim
    | some w =>
      rw [hg] at q1
      unfold gIsTy at hg
      obtain ⟨t, h1, h2⟩ := Option.bind_eq_some_iff.mp hg
      obtain ⟨k, h3, rfl⟩ := Option.map_eq_some_iff.mp h2
      have ty : TyX X.K H1 u (.type t) := by
        cases v <;> cases h1
        · rw [rp_non.mp r1]; exact .base .non
        · rw [rp_bl.mp r1]; exact .base (.bl _)
        · rw [rp_int.mp r1]; exact .base (.int _)
        · rw [rp_str.mp r1]; exact .base (.str _)
        · rename_i f xs
          obtain ⟨a, vs, rfl, h, _⟩ := rp_tup.mp r1
          exact tyx_tup h.unmsk.sq
        · obtain ⟨a, vs, rfl, h, _⟩ := rp_lst.mp r1
          exact .base (.lst (msk_of h).1)
        · have r := r1
          unfold Rp at r
          obtain ⟨a, us, rfl, h, _⟩ := r
          rcases h with ⟨kk, _, h⟩ | ⟨kk, _, h⟩
          · exact .base (.dK (msk_of h).1)
          · exact .base (.dT (msk_of h).1)
      exact ⟨u, _, .type t, .type T, k, rfl, .ty _, ty, kit_ty h3, q1 M1 H1 _ (Stp.refl s1.eok) (rp_bl.mpr rfl)⟩⟩
def gRevT : PV → Option PV
  | .tup _ xs => some (.tup false xs.reverse)
  | _ => none
/-! chains of two comparisons -/
def sChain (g g' : PV → PV → Option PV) (fa fb fc : SE) : SE := fun Γ => (fa Γ).bind fun a Γ1 => (fb Γ1).bind fun b Γ2 => match g a b with
  | some (.bl true) => (fc Γ2).bind fun c Γ3 => ofO (g' b c) Γ3
  | some (.bl false) => .ok (.bl false) Γ2
  | _ => .no
theorem chain_out {κ : Kx} {r r' : R2} {g g' : PV → PV → Option PV} (hg : RDo κ r g) (hg' : RDo κ r' g') {σ : L2.St} {H : Hp} {Q : VK} (h : tP κ W (sChain g g' fa fb fc) σ H Q) : tChain r r' (tP κ W fa) (tP κ W fb) (tP κ W fc) σ H Q := by
  obtain ⟨M0, M, Γ, ok, q⟩ := h
  refine ⟨M0, M, Γ, ok, (Out.bind q).mono fun x H1 ⟨v, M1, Γ1, s1, r1, _, q1⟩ => ⟨M0, M1, Γ1, s1.eok, (Out.bind q1).mono fun y H2 ⟨w, M2, Γ2, s2, r2, _, q2⟩ => ?_⟩⟩
  cases hgw : g v w with
  | none => rw [hgw] at q2; exact q2.elim
  | some d =>
    rw [hgw] at q2
    refine hg v w d x y M2 H2 _ hgw (s2.keep s1.eok r1) r2 s2.eok.alive fun H3 u s r => ?_
    cases d <;> (first | (exact q2.elim) | skip)
    rename_i k
    refine ⟨k, rp_bl.mp r, ?_⟩
    have s3 := Stp.of s2.eok s
    cases k with
    | true =>
      refine iteT ⟨M0, M2, Γ2, s3.eok, (Out.bind (Out.from s3 q2)).mono fun z H4 ⟨c, M4, Γ4, s4, r4, _, q4⟩ => ?_⟩
      cases hgc : g' w c with
      | none => rw [hgc] at q4; exact q4.elim
      | some d' =>
        rw [hgc] at q4
        exact hg' w c d' y z M4 H4 Q hgc (s4.keep s3.eok (s3.keep s2.eok r2)) r4 s4.eok.alive fun H' u s r => q4 M4 H' u (Stp.of s4.eok s) r
    | false => exact iteF (q2 M2 H3 _ s3 (rp_bl.mpr rfl))
theorem p_chain {op op' : CmpOp} {r r' : R2} {g g' : PV → PV → Option PV} (ho : OpR X (compareOp op) r) (hg : RDo (kx X cA) r g) (ho' : OpR X (compareOp op') r') (hg' : RDo (kx X cA) r' g') (ha : PE X a (tP (kx X cA) W fa)) (hb : PE X b (tP (kx X cA) W fb)) (hc : PE X c (tP (kx X cA) W fc)) (hm : lastMarks [op, op'] [b, c] = false := by with_unfolding_all rfl) :
    PE X (.Compare a [op, op'] [b, c] pos) (tP (kx X cA) W (sChain g g' fa fb fc)) := pe_mono (pe_chain ho ho' ha hb hc hm) fun σ H Q h => chain_out hg hg' h
theorem q_chain2 {op op' : CmpOp} {r r' : R2} {g g' : PV → PV → Option PV} (ho : OpR X (compareOp op) r) (hg : RDo (kx X cA) r g) (ho' : OpR X (compareOp op') r') (hg' : RDo (kx X cA) r' g') (ha : PE X a (tP (kx X cA) W fa)) (hb : PE X b (tP (kx X cA) W fb)) (hc : PE X c (tP (kx X cA) W fc)) (hm : lastMarks [op, op'] [b, c] = false := by with_unfolding_all rfl) :
    PT X (.Compare a [op, op'] [b, c] pos) (tPT (kx X cA) W (sChain g g' fa fb fc)) := pt_mono' (pt_chain ho ho' ha hb hc hm) fun σ H Q h => chain_out hg hg' h
end
/-! ### calls -/
inductive Ro where
  | ok (v : PV) | ex (c : Str) (v : PV) | no
inductive Rw where
  | ok (v p : PV) | ex (c : Str) (v p : PV) | no
/-- what a def gives, by its arguments -/
def spV (κ : Kx) (g : List PV → Ro) : Sp := fun vs H Q E => ∃ M as, Alive M H ∧ LamX.Tabs κ.cA.T H ∧ RpA κ as vs (msk M H) ∧ match g as with
  | .ok r => ∀ u H', Stay κ H H' → Rp κ r u (msk M H') → Q u H'
  | .ex c v => ∀ d u H', Stay κ H H' → H' d = some (.xd [("value", u)]) → Rp κ v u (msk M H') → E (.ref (κ.cA c)) (some d) H'
  | .no => False
/-- all but the thing at p and the tables stays -/
structure StayP (κ : Kx) (p : Addr) (H H' : Hp) : Prop where
  ext : ∀ b o, b ≠ p → H b = some o → NT o → H' b = some o
  liv : ∀ b, H b ≠ none → H' b ≠ none
  tab : LamX.Tabs κ.cA.T H'
theorem StayP.upd {κ : Kx} {p : Addr} {H : Hp} {o o' : HO} (t : LamX.Tabs κ.cA.T H) (e : H p = some o') (m : Mut o') : StayP κ p H (L2.upd H p o) := ⟨fun b u n e _ => by rw [upd_ne n]; exact e, fun b hb => by
  by_cases c : b = p
  · rw [c, upd_same]; exact fun z => by cases z
  · rw [upd_ne c]; exact hb, tabs_upd t (.inr ⟨_, e, m⟩)⟩
/-- .. whose first argument changes -/
def spW (κ : Kx) (g : PV → List PV → Rw) : Sp := fun vs H Q E => ∃ M p pv us as, vs = .ref p :: us ∧ Alive (p :: M) H ∧ LamX.Tabs κ.cA.T H ∧ p ∉ M ∧ OwR κ pv p H (msk (p :: M) H) ∧ RpA κ as us (msk (p :: M) H) ∧ match g pv as with
  | .ok r pv' => ∀ u H', StayP κ p H H' → OwR κ pv' p H' (msk (p :: M) H') → Rp κ r u (msk (p :: M) H') → Q u H'
  | .ex c v pv' => ∀ d u H', StayP κ p H H' → OwR κ pv' p H' (msk (p :: M) H') → H' d = some (.xd [("value", u)]) → Rp κ v u (msk (p :: M) H') → E (.ref (κ.cA c)) (some d) H'
  | .no => False
def sCall (g : List PV → Ro) (fs : SA) : SE := fun Γ => (fs Γ).bind fun vs Γ1 => match g vs with
  | .ok v => .ok v Γ1
  | .ex c v => .ex c v Γ1
  | .no => .no
def sCallW (g : PV → List PV → Rw) (k : Nat) (fs : SA) : SE := fun Γ => match Γ[k]? with
  | some (.ow _ _) => (fs Γ).bind fun vs Γ1 => match Γ1[k]? with
    | some (.ow io pv) => match g pv vs with
      | .ok v p => .ok v (Γ1.set k (.ow io p))
      | .ex c v p => .ex c v (Γ1.set k (.ow io p))
      | .no => .no
    | _ => .no
  | _ => .no
section
variable {X : Cx} {CX : CXT} {k : Nat} {f : Addr} {fd : FuncData} {ps : List Str} {sp : Sp} {E : L2.St → XK} {x : Str} {p pos : Pos} {e : Expr} {es : List Expr} {t : TA}
theorem run_gS {pins : List (Addr × Obj)} {σ : L2.St} {H : Hp} {s : Shared} {Q : VK} {us : List Value} {vs : List V} (F : FnG X.prog X.w X.K X.mg X.base CX k f fd ps sp) (hr : RoomG k X.A) (hb : Binds X.K fd ps []) (hx : PassesAt CX X σ (E σ))
    (I : Inv X pins σ H s) (r : Vals vs us) (h : sp vs H Q (E σ)) : wpAny (model X.prog X.w) X.A (call (.ref f) us) (EP X pins σ Q) X.xe s := by
  have hl : us.length = ps.length := by rw [← r.length]; exact F.len _ _ _ _ h
  have b := hb s us I.kIn (by rw [List.append_nil]; exact hl)
  rw [List.append_nil] at b
  refine wpAny_call (codeAny_mono (F.run X.A X.stack s H ⟨us, []⟩ us vs Q (E σ) hr I.env0 b r h) fun r s' hq => ?_)
  cases r with
  | error e => exact hx pins H s e s' I hq
  | ok fl =>
    cases fl with
    | ret u => exact I.after hq
    | next => exact False.elim hq
    | brk => exact False.elim hq
    | cont => exact False.elim hq
theorem pe_callGS (F : FnG X.prog X.w X.K X.mg X.base CX k f fd ps sp) (hr : RoomG k X.A) (hg : Gl X x) (hm : X.mg x = some (.ref f)) (hk : PySem.W.keepIn X.K (.ref f) = true) (hb : Binds X.K fd ps []) (hx : ∀ σ, PassesAt CX X σ (E σ))
    (ha : PA X (e :: es) t) (hdb : (x == ("__debug__" : Str)) = false := by decide) (he : starEach (e :: es) X.env = (false, eval e X.env) :: starEach es X.env := by rfl) (hpl : (backTo pos (starEach es X.env)).any (·.1) = false := by rfl) :
    PE X (.Call (.Name x p) (e :: es) [] pos) (tCallS sp E t) := by
  refine ⟨fun pins s σ H Q I h => ?_⟩
  refine wpAny_Call_Name_kw (ld_glob I hg hm ?_ hdb)
  refine PySem.W.callWith_K (h₀ := X.base) I.ok.mod.kin hk (thn (ha.run pos pins s σ H _ I h) fun us s1 ⟨vs, H1, I1, r, q⟩ => ⟨I1.kIn, ?_⟩) he hpl
  exact run_gS F hr hb (hx σ) I1 r q
end
/-- a def of the module, told by its name -/
structure FnN (P : Program) (w : World) (K : PySem.W.Frag) (mg : Str → Option Value) (base : Heap) (x : Str) (k : Nat) (sp : Sp) : Prop where
  go : ∃ f fd ps, mg x = some (.ref f) ∧ PySem.W.keepIn K (.ref f) = true ∧ Binds K fd ps [] ∧ FnG P w K mg base (L2.CX P w) k f fd ps sp
section
variable {X : Cx} {cA : CA} {W : WX} {x y : Str} {pos p p1 p2 p3 apos : Pos} {a b c e o : Expr} {fa fb fc : SE} {es : List Expr} {fs : SA} {k : Nat}
/-- the owned thing at a slot has become another -/
theorem EOK.put {κ : Kx} {M0 M : List Addr} {Γ : En} {σ : L2.St} {H H' : Hp} (h : EOK κ M0 M Γ σ H) {k : Nat} {io : Bool} {v v' : PV} {t : Addr} (hk : Γ[k]? = some (.ow io v)) (ht : σ[k]? = some (some (.ref t))) (x : StayP κ t H H') (r : OwR κ v' t H' (msk M H')) :
    Stp κ M0 M Γ σ H M (Γ.set k (.ow io v')) H' := by
  obtain ⟨t', ht', hm, hn, _⟩ := h.ow k io v hk
  rw [ht] at ht'
  cases ht'
  have kl : k < Γ.length := (List.getElem?_eq_some_iff.mp hk).1
  have sm : LamX.ExtN (msk M H) (msk M H') := fun b o e nt => by
    obtain ⟨e, n⟩ := msk_of e
    rw [msk_in n]
    exact x.ext b o (fun z => n (by rw [z]; exact hm)) e nt
  refine ⟨⟨by rw [List.length_set]; exact h.len, fun j w e => ?_, fun j jo w e => ?_, fun i j b io' jo w w' ei ej si sj => ?_, h.sub, fun b hb => by
    obtain ⟨o2, e2, m2⟩ := h.alive b hb
    by_cases c : b = t
    · rw [c]; exact r.mut
    · exact ⟨o2, x.ext b o2 c e2 m2.nt, m2⟩, x.tab⟩, fun _ hb => hb, fun b o e n nt => x.ext b o (fun z => n ⟨k, io, v, hk, by rw [z]; exact ht⟩) e nt, fun j jo w e => ?_, x.liv⟩
  · by_cases c : k = j
    · subst c
      rw [List.getElem?_set_self kl] at e
      cases e
    · rw [List.getElem?_set_ne c] at e
      obtain ⟨u, e1, r⟩ := h.va j w e
      exact ⟨u, e1, Rp.st sm r⟩
  · by_cases c : k = j
    · subst c
      rw [List.getElem?_set_self kl] at e
      cases e
      exact ⟨t, ht, hm, hn, r⟩
    · rw [List.getElem?_set_ne c] at e
      obtain ⟨b, e1, m, n, rb⟩ := h.ow j jo w e
      have cb : b ≠ t := fun z => c (h.inj k j t _ _ _ _ hk e ht (by rw [← z]; exact e1))
      refine ⟨b, e1, m, n, rb.st ?_ sm⟩
      obtain ⟨o, z, mo⟩ := h.alive b m
      rw [z]
      exact x.ext b o cb z mo.nt
  · have fi : ∃ w, Γ[i]? = some (.ow io' w) := by
      by_cases c : k = i
      · subst c
        rw [List.getElem?_set_self kl] at ei
        cases ei
        exact ⟨v, hk⟩
      · rw [List.getElem?_set_ne c] at ei
        exact ⟨_, ei⟩
    have fj : ∃ w, Γ[j]? = some (.ow jo w) := by
      by_cases c : k = j
      · subst c
        rw [List.getElem?_set_self kl] at ej
        cases ej
        exact ⟨v, hk⟩
      · rw [List.getElem?_set_ne c] at ej
        exact ⟨_, ej⟩
    obtain ⟨w1, f1⟩ := fi
    obtain ⟨w2, f2⟩ := fj
    exact h.inj i j b io' jo w1 w2 f1 f2 si sj
  · by_cases c : k = j
    · subst c
      rw [List.getElem?_set_self kl] at e
      cases e
      exact ⟨v, hk⟩
    · rw [List.getElem?_set_ne c] at e
      exact ⟨w, e⟩
theorem p_callW {g : PV → List PV → Rw} (j : Nat) (F : FnN X.prog X.w X.K X.mg X.base x k (spW (kx X cA) g)) (hr : RoomG k X.A) (hg : Gl X x) (hx : ∀ σ, PassesAt (L2.CX X.prog X.w) X σ (WE W σ)) (ha : PA X es (tPA (kx X cA) W fs)) (hN : X.N[j]? = some y := by rfl) (hv : Vis X.env.scope y := by first | exact Or.inl rfl | exact Or.inr (Or.inl rfl) | exact Or.inr (Or.inr rfl)) (hd : (y == ("__debug__" : Str)) = false := by decide)
    (hcd : (y == ("__classdict__" : Str)) = false := by decide) (hdb : (x == ("__debug__" : Str)) = false := by decide)
    (he : starEach (.Name y p2 :: es) X.env = (false, eval (.Name y p2) X.env) :: starEach es X.env := by rfl) (hpl : (backTo pos (starEach es X.env)).any (·.1) = false := by rfl) : PE X (.Call (.Name x p) (.Name y p2 :: es) [] pos) (tP (kx X cA) W (sCallW g j fs)) := by
  obtain ⟨f, fd, ps, hm, hk, hb, F⟩ := F.go
  refine pe_mono (pe_callGS F hr hg hm hk hb hx (pa_cons (pe_var (i := j) hN hv hd hcd) ha he) hdb he hpl) fun σ H Q ⟨M0, M, Γ, ok, q⟩ => ?_
  unfold sCallW at q
  split at q
  · rename_i io0 pv0 hj
    obtain ⟨t, ht, hm, hn, _⟩ := ok.ow j io0 pv0 hj
    refine ⟨_, ht, M0, M, Γ, ok, (OutA.bind q).mono fun us H1 ⟨vs, M1, Γ1, s1, r1, _, q1⟩ => ?_⟩
    split at q1
    · rename_i io pv hj1
      obtain ⟨t', ht', hm1, hn1, rw1⟩ := s1.eok.ow j io pv hj1
      rw [ht] at ht'
      cases ht'
      have mk : ∀ b, b ∈ M1 ↔ b ∈ t :: wo t M1 := fun b => by
        by_cases c : b = t
        · simp [c, hm1]
        · simp [c]
      have mq : ∀ {G : Hp}, msk (t :: wo t M1) G = msk M1 G := fun {G} => funext fun b => by
        unfold msk
        by_cases z : b ∈ M1
        · rw [if_pos z, if_pos ((mk b).mp z)]
        · rw [if_neg z, if_neg (fun w => z ((mk b).mpr w))]
      refine ⟨wo t M1, t, pv, us, vs, rfl, fun b hb => s1.eok.alive b ((mk b).mpr hb), s1.eok.tab, fun z => (mem_wo.mp z).2 rfl, by rw [mq]; exact rw1, by rw [mq]; exact r1, ?_⟩
      cases hgv : g pv vs with
      | ok v p' =>
        rw [hgv] at q1
        intro u H' x ro rv
        rw [mq] at ro rv
        exact q1 M1 H' u (s1.eok.put hj1 ht x ro) rv
      | ex c v p' =>
        rw [hgv] at q1
        intro d u H' x ro e rv
        rw [mq] at ro rv
        exact q1 M1 H' d u (s1.eok.put hj1 ht x ro) e rv
      | no =>
        rw [hgv] at q1
        exact q1.elim
    · exact q1.elim
  · exact q.elim
end
end QX

set_option Elab.async false
set_option linter.all false
set_option maxRecDepth 100000
set_option maxHeartbeats 4000000
namespace QX
open PySem PySem.Spec PySem.W PySem.Calls PyProof.Rows L2 MX
/-! ### statements -/
inductive Fl where
  | nx (Γ : En) | rt (v : PV) (Γ : En) | bk (Γ : En) | ct (Γ : En) | ex (c : Str) (v : PV) (Γ : En) | no
abbrev SS := En → Fl
def Rs.fl {α : Type} (r : Rs α) (k : α → En → Fl) : Fl := match r with
  | .ok a Γ => k a Γ
  | .ex c v Γ => .ex c v Γ
  | .no => .no
/-- where a def's body began -/
structure Am where
  M0 : List Addr
  IO : Addr → Prop
  H0 : Hp
structure SOK (κ : Kx) (A : Am) (M : List Addr) (Γ : En) (σ : L2.St) (H : Hp) : Prop where
  eok : EOK κ A.M0 M Γ σ H
  frm : ∀ b o, A.H0 b = some o → ¬ A.IO b → NT o → H b = some o
  own : ∀ b, Own Γ σ b → A.IO b ∨ A.H0 b = none
  liv : ∀ b, A.H0 b ≠ none → H b ≠ none
def PinS (Γ : En) (σ : L2.St) (Γ' : En) (σ' : L2.St) : Prop := ∀ (k : Nat) (v' : PV), Γ'[k]? = some (.ow true v') → (∃ v, Γ[k]? = some (.ow true v)) ∧ σ'[k]? = σ[k]?
structure Nxt (κ : Kx) (A : Am) (M : List Addr) (Γ : En) (σ : L2.St) (H : Hp) (M' : List Addr) (Γ' : En) (σ' : L2.St) (H' : Hp) : Prop where
  sok : SOK κ A M' Γ' σ' H'
  sam : LamX.ExtN (msk M H) (msk M' H')
  pin : PinS Γ σ Γ' σ'
section
variable {κ : Kx} {W : WX} {A : Am} {M M1 M2 : List Addr} {Γ Γ1 Γ2 : En} {σ σ1 σ2 : L2.St} {H H1 H2 : Hp} {D : Ends}
theorem PinS.refl : PinS Γ σ Γ σ := fun k v e => ⟨⟨v, e⟩, rfl⟩
theorem PinS.trans (a : PinS Γ σ Γ1 σ1) (b : PinS Γ1 σ1 Γ2 σ2) : PinS Γ σ Γ2 σ2 := fun k v e => by
  obtain ⟨⟨w, e1⟩, e2⟩ := b k v e
  obtain ⟨e3, e4⟩ := a k w e1
  exact ⟨e3, e2.trans e4⟩
theorem Nxt.refl (h : SOK κ A M Γ σ H) : Nxt κ A M Γ σ H M Γ σ H := ⟨h, LamX.ExtN.refl _, PinS.refl⟩
theorem Nxt.trans (a : Nxt κ A M Γ σ H M1 Γ1 σ1 H1) (b : Nxt κ A M1 Γ1 σ1 H1 M2 Γ2 σ2 H2) : Nxt κ A M Γ σ H M2 Γ2 σ2 H2 := ⟨b.sok, a.sam.trans b.sam, a.pin.trans b.pin⟩
/-- behind an expression -/
theorem SOK.stp (h : SOK κ A M Γ σ H) (s : Stp κ A.M0 M Γ σ H M1 Γ1 H1) : Nxt κ A M Γ σ H M1 Γ1 σ H1 :=
  ⟨⟨s.eok, fun b o e n nt => s.chg b o (h.frm b o e n nt) (fun z => (h.own b z).elim n (fun z => by rw [e] at z; cases z)) nt, fun b z => h.own b (s.ows.own z), fun b z => s.liv b (h.liv b z)⟩, s.same h.eok, fun k v e => by
    obtain ⟨w, e⟩ := s.ows k true v e
    exact ⟨⟨w, e⟩, rfl⟩⟩
def Fin (κ : Kx) (W : WX) (A : Am) (M : List Addr) (Γ : En) (σ : L2.St) (H : Hp) (f : Fl) (D : Ends) : Prop := match f with
  | .nx Γ' => ∀ M' σ' H', Nxt κ A M Γ σ H M' Γ' σ' H' → D.nx σ' H'
  | .rt v Γ' => ∀ M' σ' H' u, Nxt κ A M Γ σ H M' Γ' σ' H' → Rp κ v u (msk M' H') → D.rt u H'
  | .bk Γ' => ∀ M' σ' H', Nxt κ A M Γ σ H M' Γ' σ' H' → D.bk σ' H'
  | .ct Γ' => ∀ M' σ' H', Nxt κ A M Γ σ H M' Γ' σ' H' → D.ct σ' H'
  | .ex c v Γ' => ∀ M' σ' H' d u, Nxt κ A M Γ σ H M' Γ' σ' H' → H' d = some (.xd [("value", u)]) → Rp κ v u (msk M' H') → W (.ref (κ.cA c)) (some d) σ' H'
  | .no => False
theorem Fin.from {f : Fl} (s : Nxt κ A M Γ σ H M1 Γ1 σ1 H1) (h : Fin κ W A M Γ σ H f D) : Fin κ W A M1 Γ1 σ1 H1 f D := by
  cases f with
  | nx Γ' => exact fun M' σ' H' s' => h M' σ' H' (s.trans s')
  | rt v Γ' => exact fun M' σ' H' u s' r => h M' σ' H' u (s.trans s') r
  | bk Γ' => exact fun M' σ' H' s' => h M' σ' H' (s.trans s')
  | ct Γ' => exact fun M' σ' H' s' => h M' σ' H' (s.trans s')
  | ex c v Γ' => exact fun M' σ' H' d u s' e r => h M' σ' H' d u (s.trans s') e r
  | no => exact h
def tS (κ : Kx) (W : WX) (f : SS) : TS := fun D σ H => ∃ A M Γ, SOK κ A M Γ σ H ∧ Fin κ W A M Γ σ H (f Γ) D
/-- a statement that begins with an expression -/
theorem Fin.out {r : Rs PV} {k : PV → En → Fl} (ok : SOK κ A M Γ σ H) (h : Fin κ W A M Γ σ H (r.fl k) D) : Out κ W A.M0 M Γ σ H r fun u H1 => ∃ v M1 Γ1, Nxt κ A M Γ σ H M1 Γ1 σ H1 ∧ Rp κ v u (msk M1 H1) ∧ r = .ok v Γ1 ∧ Fin κ W A M1 Γ1 σ H1 (k v Γ1) D := by
  cases r with
  | ok v Γ' => exact fun M' H' u s r => ⟨v, M', Γ', ok.stp s, r, rfl, Fin.from (ok.stp s) h⟩
  | ex c v Γ' => exact fun M' H' d u s e r => h M' σ H' d u (ok.stp s) e r
  | no => exact h
end
/-! blocks -/
def sSkip : SS := fun Γ => .nx Γ
def sSeq (f g : SS) : SS := fun Γ => match f Γ with
  | .nx Γ1 => g Γ1
  | r => r
section
variable {X : Cx} {cA : CA} {W : WX} {x y z : Str} {pos pos' p p1 p2 p3 : Pos} {a b c e : Expr} {fa fb fc : SE} {es : List Expr} {fs : SA} {st : Stmt} {rest sa sb : List Stmt} {f g : SS} {k : Nat}
theorem ps_mono' {X : Cx} {st : Stmt} {t t' : TS} (h : PS X st t) (m : ∀ D σ H, t' D σ H → t D σ H) : PS X st t' := ⟨fun pins s σ H D I q => h.run pins s σ H D I (m D σ H q)⟩
theorem s_nil : PSs X [] (tS (kx X cA) W sSkip) := pss_mono pss_nil fun D σ H ⟨A, M, Γ, ok, q⟩ => q M σ H (Nxt.refl ok)
theorem seq_out {κ : Kx} {D : Ends} {σ : L2.St} {H : Hp} (h : tS κ W (sSeq f g) D σ H) : tSeq (tS κ W f) (tS κ W g) D σ H := by
  obtain ⟨A, M, Γ, ok, q⟩ := h
  refine ⟨A, M, Γ, ok, ?_⟩
  unfold sSeq at q
  cases hf : f Γ with
  | nx Γ1 =>
    rw [hf] at q
    exact fun M' σ' H' s => ⟨A, M', Γ1, s.sok, Fin.from s q⟩
  | rt v Γ1 => rw [hf] at q; exact q
  | bk Γ1 => rw [hf] at q; exact q
  | ct Γ1 => rw [hf] at q; exact q
  | ex c v Γ1 => rw [hf] at q; exact q
  | no => rw [hf] at q; exact q
theorem s_cons (h1 : PS X st (tS (kx X cA) W f)) (h2 : PSs X rest (tS (kx X cA) W g)) : PSs X (st :: rest) (tS (kx X cA) W (sSeq f g)) := pss_mono (pss_cons h1 h2) fun D σ H h => seq_out h
theorem s_one (h1 : PS X st (tS (kx X cA) W f)) : PSs X [st] (tS (kx X cA) W f) := pss_one h1
def sRet (f : SE) : SS := fun Γ => (f Γ).fl fun v Γ1 => .rt v Γ1
theorem s_ret (he : PE X e (tP (kx X cA) W fa)) : PS X (.Return (some e) pos) (tS (kx X cA) W (sRet fa)) :=
  ps_mono' (ps_ret he) fun D σ H ⟨A, M, Γ, ok, q⟩ => ⟨A.M0, M, Γ, ok.eok, (Fin.out ok q).mono fun u H1 ⟨v, M1, Γ1, s, r, _, q1⟩ => q1 M1 σ H1 u (Nxt.refl s.sok) r⟩
def sExpr (f : SE) : SS := fun Γ => (f Γ).fl fun _ Γ1 => .nx Γ1
theorem s_expr (he : PE X e (tP (kx X cA) W fa)) (hs : swapsWith e none pos.line X.env = pure false := by rfl) : PS X (.Expr e pos) (tS (kx X cA) W (sExpr fa)) :=
  ps_mono' (ps_expr he hs) fun D σ H ⟨A, M, Γ, ok, q⟩ => ⟨A.M0, M, Γ, ok.eok, (Fin.out ok q).mono fun u H1 ⟨v, M1, Γ1, s, r, _, q1⟩ => q1 M1 σ H1 (Nxt.refl s.sok)⟩
def sIfS (fc : SE) (f g : SS) : SS := fun Γ => (fc Γ).fl fun v Γ1 => match v with
  | .bl true => f Γ1
  | .bl false => g Γ1
  | _ => .no
theorem s_if (hc : PT X c (tPT (kx X cA) W fc)) (ha : PSs X sa (tS (kx X cA) W f)) (hb : PSs X sb (tS (kx X cA) W g)) : PS X (.If c sa sb pos) (tS (kx X cA) W (sIfS fc f g)) :=
  ps_mono' (ps_if hc ha hb) fun D σ H ⟨A, M, Γ, ok, q⟩ => ⟨A.M0, M, Γ, ok.eok, (Fin.out ok q).mono fun u H1 ⟨v, M1, Γ1, s, r, hv, q1⟩ => by
    cases v <;> (first | (exact q1.elim) | skip)
    rename_i k
    refine ⟨k, rp_bl.mp r, ?_⟩
    cases k with
    | true => exact iteT ⟨A, M1, Γ1, s.sok, q1⟩
    | false => exact iteF ⟨A, M1, Γ1, s.sok, q1⟩⟩
/-! stores -/
def okSet (Γ : En) (k : Nat) : Bool := match Γ[k]? with
  | some .un => true
  | some (.va _) => true
  | some (.ow false _) => true
  | _ => false
theorem okSet_ne {Γ : En} {k : Nat} (h : okSet Γ k = true) : k < Γ.length ∧ ∀ v, Γ[k]? ≠ some (.ow true v) := by
  unfold okSet at h
  split at h
  · rename_i e
    exact ⟨(List.getElem?_eq_some_iff.mp e).1, fun v z => by rw [e] at z; cases z⟩
  · rename_i e
    exact ⟨(List.getElem?_eq_some_iff.mp e).1, fun v z => by rw [e] at z; cases z⟩
  · rename_i e
    exact ⟨(List.getElem?_eq_some_iff.mp e).1, fun v z => by rw [e] at z; cases z⟩
  · cases h
/-- a value is stored at a slot -/
theorem SOK.setV {κ : Kx} {A : Am} {M : List Addr} {Γ : En} {σ : L2.St} {H : Hp} (h : SOK κ A M Γ σ H) {k : Nat} {v : PV} {u : V} (hk : okSet Γ k = true) (r : Rp κ v u (msk M H)) : Nxt κ A M Γ σ H M (Γ.set k (.va v)) (σ.set k (some u)) H := by
  obtain ⟨kl, kn⟩ := okSet_ne hk
  have kl' : k < σ.length := by rw [h.eok.len]; exact kl
  refine ⟨⟨⟨by rw [List.length_set, List.length_set]; exact h.eok.len, fun j w e => ?_, fun j io w e => ?_, fun i j b io jo w w' ei ej si sj => ?_, h.eok.sub, h.eok.alive, h.eok.tab⟩, h.frm, fun b z => ?_, h.liv⟩, LamX.ExtN.refl _, fun j w e => ?_⟩
  · by_cases c : k = j
    · subst c
      rw [List.getElem?_set_self kl] at e
      cases e
      exact ⟨u, List.getElem?_set_self kl', r⟩
    · rw [List.getElem?_set_ne c] at e ⊢
      exact h.eok.va j w e
  · by_cases c : k = j
    · subst c
      rw [List.getElem?_set_self kl] at e
      cases e
    · rw [List.getElem?_set_ne c] at e ⊢
      exact h.eok.ow j io w e
  · have ci : k ≠ i := fun c => by
      subst c
      rw [List.getElem?_set_self kl] at ei
      cases ei
    have cj : k ≠ j := fun c => by
      subst c
      rw [List.getElem?_set_self kl] at ej
      cases ej
    rw [List.getElem?_set_ne ci] at ei si
    rw [List.getElem?_set_ne cj] at ej sj
    exact h.eok.inj i j b io jo w w' ei ej si sj
  · obtain ⟨j, io, w, e1, e2⟩ := z
    have c : k ≠ j := fun c => by
      subst c
      rw [List.getElem?_set_self kl] at e1
      cases e1
    rw [List.getElem?_set_ne c] at e1 e2
    exact h.own b ⟨j, io, w, e1, e2⟩
  · have c : k ≠ j := fun c => by
      subst c
      rw [List.getElem?_set_self kl] at e
      cases e
    rw [List.getElem?_set_ne c] at e ⊢
    exact ⟨⟨w, e⟩, rfl⟩
def putV (k : Nat) (v : PV) (Γ : En) : Fl := if okSet Γ k = true then .nx (Γ.set k (.va v)) else .no
theorem Fin.putV {κ : Kx} {A : Am} {M : List Addr} {Γ : En} {σ : L2.St} {H : Hp} {D : Ends} {k : Nat} {v : PV} {u : V} (ok : SOK κ A M Γ σ H) (q : Fin κ W A M Γ σ H (putV k v Γ) D) (r : Rp κ v u (msk M H)) : D.nx (σ.set k (some u)) H := by
  unfold QX.putV at q
  by_cases c : okSet Γ k = true
  · rw [if_pos c] at q
    exact q M _ H (ok.setV c r)
  · rw [if_neg c] at q
    exact q.elim
def sSet (k : Nat) (f : SE) : SS := fun Γ => (f Γ).fl fun v Γ1 => putV k v Γ1
theorem s_set (k : Nat) (hN : X.N.Nodup) (he : PE X e (tP (kx X cA) W fa)) (hi : X.N[k]? = some x := by rfl) (hx : Loc X.env.scope x := by first | exact Or.inl rfl | exact Or.inr rfl) (hs : swapsWith e (some (.Name x pos')) pos.line X.env = pure false := by rfl)
    (hf : X.fn x = true ∨ X.env.scope.names.lookup x = some .local := by first | exact .inl rfl | exact .inr rfl) : PS X (.Assign [.Name x pos'] e pos) (tS (kx X cA) W (sSet k fa)) :=
  ps_mono' (ps_set hN hi hx he hs hf) fun D σ H ⟨A, M, Γ, ok, q⟩ => ⟨A.M0, M, Γ, ok.eok, (Fin.out ok q).mono fun u H1 ⟨v, M1, Γ1, s, r, _, q1⟩ => Fin.putV s.sok q1 r⟩
/-! targets of names -/
abbrev SG := PV → SS
structure Off (ks : List Nat) (Γ : En) (σ : L2.St) (Γ' : En) (σ' : L2.St) : Prop where
  lg : Γ'.length = Γ.length
  ls : σ'.length = σ.length
  out : ∀ k, k ∉ ks → Γ'[k]? = Γ[k]? ∧ σ'[k]? = σ[k]?
  inn : ∀ (k : Nat), k ∈ ks → ∀ (io : Bool) (v : PV), Γ'[k]? ≠ some (.ow io v)
theorem Off.refl {Γ : En} {σ : L2.St} : Off [] Γ σ Γ σ := ⟨rfl, rfl, fun _ _ => ⟨rfl, rfl⟩, fun _ h => by cases h⟩
theorem Off.trans {ks js : List Nat} {Γ Γ1 Γ2 : En} {σ σ1 σ2 : L2.St} (a : Off ks Γ σ Γ1 σ1) (b : Off js Γ1 σ1 Γ2 σ2) : Off (ks ++ js) Γ σ Γ2 σ2 :=
  ⟨b.lg.trans a.lg, b.ls.trans a.ls, fun k h => by
    have h1 : k ∉ ks := fun z => h (List.mem_append_left _ z)
    have h2 : k ∉ js := fun z => h (List.mem_append_right _ z)
    exact ⟨(b.out k h2).1.trans (a.out k h1).1, (b.out k h2).2.trans (a.out k h1).2⟩, fun k h io v e => by
    by_cases c : k ∈ js
    · exact b.inn k c io v e
    · rw [(b.out k c).1] at e
      exact a.inn k ((List.mem_append.mp h).resolve_right c) io v e⟩
theorem Off.own {ks : List Nat} {Γ Γ1 : En} {σ σ1 : L2.St} (a : Off ks Γ σ Γ1 σ1) {b : Addr} (o : Own Γ1 σ1 b) : Own Γ σ b := by
  obtain ⟨k, io, v, e1, e2⟩ := o
  by_cases c : k ∈ ks
  · exact absurd e1 (a.inn k c io v)
  · rw [(a.out k c).1] at e1
    rw [(a.out k c).2] at e2
    exact ⟨k, io, v, e1, e2⟩
def tPG (κ : Kx) (ks : List Nat) (f : SG) : TG := fun u σ H Q => ∃ M0 M Γ v, EOK κ M0 M Γ σ H ∧ Rp κ v u (msk M H) ∧ match f v Γ with
  | .nx Γ' => ∀ σ', EOK κ M0 M Γ' σ' H → Off ks Γ σ Γ' σ' → Q σ' H
  | _ => False
def gV (k : Nat) : SG := fun v Γ => putV k v Γ
theorem EOK.setV {κ : Kx} {M0 M : List Addr} {Γ : En} {σ : L2.St} {H : Hp} (h : EOK κ M0 M Γ σ H) {k : Nat} {v : PV} {u : V} (hk : okSet Γ k = true) (r : Rp κ v u (msk M H)) : EOK κ M0 M (Γ.set k (.va v)) (σ.set k (some u)) H ∧ Off [k] Γ σ (Γ.set k (.va v)) (σ.set k (some u)) := by
  obtain ⟨kl, kn⟩ := okSet_ne hk
  have z := (SOK.setV (A := ⟨M0, fun _ => True, fun _ => none⟩) ⟨h, fun b o e _ _ => (by cases e), fun b _ => .inl trivial, fun b z => absurd rfl z⟩ hk r).sok.eok
  refine ⟨z, by rw [List.length_set], by rw [List.length_set], fun j hj => ?_, fun j hj io w e => ?_⟩
  · have c : k ≠ j := fun c => hj (by rw [c]; exact List.mem_singleton.mpr rfl)
    exact ⟨List.getElem?_set_ne c, List.getElem?_set_ne c⟩
  · rw [List.mem_singleton.mp hj, List.getElem?_set_self kl] at e
    cases e
theorem g_name (k : Nat) (hN : X.N.Nodup) (hi : X.N[k]? = some x := by rfl) (hx : Loc X.env.scope x := by first | exact Or.inl rfl | exact Or.inr rfl) (hf : X.fn x = true ∨ X.env.scope.names.lookup x = some .local := by first | exact .inl rfl | exact .inr rfl) : PG X (.Name x pos) (tPG (kx X cA) [k] (gV k)) :=
  ⟨fun pins s σ H u u' Q I r ⟨M0, M, Γ, v, ok, rv, q⟩ => (pg_name hN hi hx hf).run pins s σ H u u' Q I r (by
    unfold gV putV at q
    by_cases c : okSet Γ k = true
    · rw [if_pos c] at q
      obtain ⟨z1, z2⟩ := ok.setV c rv
      exact q _ z1 z2
    · rw [if_neg c] at q
      exact q.elim)⟩
abbrev SGs := List PV → SS
def tPGs (κ : Kx) (ks : List Nat) (f : SGs) : TGs := fun us σ H Q => ∃ M0 M Γ vs, EOK κ M0 M Γ σ H ∧ RpA κ vs us (msk M H) ∧ match f vs Γ with
  | .nx Γ' => ∀ σ', EOK κ M0 M Γ' σ' H → Off ks Γ σ Γ' σ' → Q σ' H
  | _ => False
def gsNil : SGs := fun vs Γ => match vs with
  | [] => .nx Γ
  | _ => .no
def gsCons (f : SG) (g : SGs) : SGs := fun vs Γ => match vs with
  | v :: vs => match f v Γ with
    | .nx Γ1 => g vs Γ1
    | _ => .no
  | [] => .no
theorem pgs_mono {ts : List Expr} {t t' : TGs} (h : PGs X ts t) (m : ∀ vs σ H Q, t' vs σ H Q → t vs σ H Q) : PGs X ts t' := ⟨fun pins s σ H vs us Q I r q => h.run pins s σ H vs us Q I r (m _ _ _ _ q)⟩
theorem pg_mono {t : Expr} {f f' : TG} (h : PG X t f) (m : ∀ v σ H Q, f' v σ H Q → f v σ H Q) : PG X t f' := ⟨fun pins s σ H v u Q I r q => h.run pins s σ H v u Q I r (m _ _ _ _ q)⟩
theorem gs_nil : PGs X [] (tPGs (kx X cA) [] gsNil) := pgs_mono pgs_nil fun us σ H Q ⟨M0, M, Γ, vs, ok, r, q⟩ => by
  cases vs with
  | nil => exact ⟨List.eq_nil_of_length_eq_zero r.len, q σ ok Off.refl⟩
  | cons v vs => exact q.elim
theorem gs_cons {ts : List Expr} {ks js : List Nat} {gf : SG} {gs : SGs} (h1 : PG X e (tPG (kx X cA) ks gf)) (h2 : PGs X ts (tPGs (kx X cA) js gs)) (hs : (assignEach (e :: ts) X.env).map (·.2) = assign e X.env :: (assignEach ts X.env).map (·.2) := by rfl) : PGs X (e :: ts) (tPGs (kx X cA) (ks ++ js) (gsCons gf gs)) :=
  pgs_mono (pgs_cons h1 h2 hs) fun us σ H Q ⟨M0, M, Γ, vs, ok, r, q⟩ => by
    cases vs with
    | nil => exact q.elim
    | cons v vs =>
      cases us with
      | nil => unfold RpA at r; exact r.elim
      | cons u us =>
        obtain ⟨r1, r2⟩ := rpA_cons.mp r
        refine ⟨u, us, rfl, M0, M, Γ, v, ok, r1, ?_⟩
        unfold gsCons at q
        cases hf : gf v Γ with
        | nx Γ1 =>
          simp only [hf] at q
          intro σ1 ok1 o1
          refine ⟨M0, M, Γ1, vs, ok1, r2, ?_⟩
          cases hg : gs vs Γ1 with
          | nx Γ2 =>
            simp only [hg] at q
            exact fun σ2 ok2 o2 => q σ2 ok2 (o1.trans o2)
          | _ => simp only [hg] at q
        | _ => simp only [hf] at q
def gT (n : Nat) (g : SGs) : SG := fun v Γ => match v with
  | .tup _ xs => if xs.length = n then g xs Γ else .no
  | _ => .no
theorem g_tup {n kk : Nat} {ks : List Nat} {ts : List Expr} {gs : SGs} (hc : X.calm = true) (h : PGs X ts (tPGs (kx X cA) ks gs)) (hn : (assignEach ts X.env).length = n := by rfl) (hst : (assignEach ts X.env).findIdx? (·.1) = none := by rfl) : PG X (.Tuple ts kk pos) (tPG (kx X cA) ks (gT n gs)) :=
  pg_mono (pg_tup hc h hn hst) fun u σ H Q ⟨M0, M, Γ, v, ok, r, q⟩ => by
    cases v with
    | tup f xs =>
      obtain ⟨a, vs, rfl, ht, r2⟩ := rp_tup.mp r
      unfold gT at q
      by_cases l : xs.length = n
      · simp only [l, if_true] at q
        exact ⟨a, vs, rfl, ht.unmsk.sq, r2.len.trans l, M0, M, Γ, xs, ok, r2, q⟩
      · simp only [l, if_false] at q
    | _ => exact q.elim
/-- a target within a def's body -/
theorem SOK.off {κ : Kx} {A : Am} {M : List Addr} {Γ Γ' : En} {σ σ' : L2.St} {H : Hp} {ks : List Nat} (h : SOK κ A M Γ σ H) (ok : EOK κ A.M0 M Γ' σ' H) (o : Off ks Γ σ Γ' σ') : Nxt κ A M Γ σ H M Γ' σ' H :=
  ⟨⟨ok, h.frm, fun b z => h.own b (o.own z), h.liv⟩, LamX.ExtN.refl _, fun k v e => by
    by_cases c : k ∈ ks
    · exact absurd e (o.inn k c true v)
    · rw [(o.out k c).1] at e
      exact ⟨⟨v, e⟩, (o.out k c).2⟩⟩
/-- (a, b) = e -/
def sAsg (f : SE) (g : SG) : SS := fun Γ => (f Γ).fl fun v Γ1 => match g v Γ1 with
  | .nx Γ2 => .nx Γ2
  | _ => .no
theorem s_asg {tg : Expr} {ks : List Nat} {gf : SG} (he : PE X e (tP (kx X cA) W fa)) (hg : PG X tg (tPG (kx X cA) ks gf)) (hs : swapsWithSole [tg] e pos.line X.env = pure false := by rfl) (hw : swappedStores [tg] e X.env = pure none := by rfl)
    (h1 : (assignEach [tg] X.env).map (·.2) = [assign tg X.env] := by rfl) : PS X (.Assign [tg] e pos) (tS (kx X cA) W (sAsg fa gf)) :=
  ps_mono' (ps_asg he hg hs hw h1) fun D σ H ⟨A, M, Γ, ok, q⟩ => ⟨A.M0, M, Γ, ok.eok, (Fin.out ok q).mono fun u H1 ⟨v, M1, Γ1, s, r, _, q1⟩ => ⟨A.M0, M1, Γ1, v, s.sok.eok, r, by
    cases hf : gf v Γ1 with
    | nx Γ2 =>
      simp only [hf] at q1
      exact fun σ' ok' o => q1 M1 σ' H1 (s.sok.off ok' o)
    | _ => simp only [hf] at q1; exact q1.elim⟩⟩
end
end QX

set_option Elab.async false
set_option linter.all false
set_option maxRecDepth 100000
set_option maxHeartbeats 4000000
namespace QX
open PySem PySem.Spec PySem.W PySem.Calls PyProof.Rows L2 MX
/-! ### what is stored: a value, or a new thing that will change -/
abbrev SX := En → Rs SV
def OutF (κ : Kx) (W : WX) (M0 M : List Addr) (Γ : En) (σ : L2.St) (H : Hp) (r : Rs SV) (Q : VK) : Prop := match r with
  | .ok (.va v) Γ' => ∀ M' H' u, Stp κ M0 M Γ σ H M' Γ' H' → Rp κ v u (msk M' H') → Q u H'
  | .ok (.ow _ v) Γ' => ∀ M' H' a, H a = none → Stp κ M0 M Γ σ H M' Γ' H' → EOK κ (a :: M0) (a :: M') Γ' σ H' → OwR κ v a H' (msk (a :: M') H') → Q (.ref a) H'
  | .ok .un _ => False
  | .ex c v Γ' => OutX κ W M0 M Γ σ H c v Γ'
  | .no => False
def tPX (κ : Kx) (W : WX) (f : SX) : TE := fun σ H Q => ∃ M0 M Γ, EOK κ M0 M Γ σ H ∧ OutF κ W M0 M Γ σ H (f Γ) Q
def xVa (f : SE) : SX := fun Γ => (f Γ).bind fun v Γ1 => .ok (.va v) Γ1
/-- a new list, a new dict -/
def xNew (f : SE) : SX := fun Γ => (f Γ).bind fun v Γ1 => .ok (.ow false v) Γ1
section
variable {κ : Kx} {W : WX} {M0 M M1 M2 : List Addr} {Γ Γ1 : En} {σ : L2.St} {H H1 H2 : Hp}
theorem OutF.from {r : Rs SV} {Q : VK} (s : Stp κ M0 M Γ σ H M1 Γ1 H1) (h : OutF κ W M0 M Γ σ H r Q) : OutF κ W M0 M1 Γ1 σ H1 r Q := by
  cases r with
  | ok v Γ' =>
    cases v with
    | un => exact h
    | va v => exact fun M' H' u s' r => h M' H' u (s.trans s') r
    | ow io v => exact fun M' H' a ha s' e r => h M' H' a (by
        cases z : H a with
        | none => rfl
        | some o => exact absurd ha (s.liv a (by rw [z]; exact fun z => by cases z))) (s.trans s') e r
  | ex c v Γ' => exact OutX.from s h
  | no => exact h
/-- a new list is laid -/
theorem new_lst (ok : EOK κ M0 M Γ σ H) {a : Addr} {xs : List PV} {vs : List V} (ha : H a = none) (r : RpA κ xs vs (msk M H)) :
    Stp κ M0 M Γ σ H M Γ (L2.upd H a (.lst vs)) ∧ EOK κ (a :: M0) (a :: M) Γ σ (L2.upd H a (.lst vs)) ∧ OwR κ (.lst xs) a (L2.upd H a (.lst vs)) (msk (a :: M) (L2.upd H a (.lst vs))) :=
  ⟨Stp.of ok (same_new ha), ok.push ha, vs, upd_same, by rw [msk_push ha]; exact r⟩
end
section
variable {X : Cx} {cA : CA} {W : WX} {x y z : Str} {pos pos' p p1 p2 p3 apos : Pos} {a b c e : Expr} {fa fb fc : SE} {es : List Expr} {fs : SA} {st : Stmt} {k : Nat}
theorem x_va (he : PE X e (tP (kx X cA) W fa)) : PE X e (tPX (kx X cA) W (xVa fa)) := pe_mono he fun σ H Q ⟨M0, M, Γ, ok, q⟩ => ⟨M0, M, Γ, ok, by
  unfold xVa at q
  cases hf : fa Γ with
  | ok v Γ1 => rw [hf] at q; exact q
  | ex c v Γ1 => rw [hf] at q; exact q
  | no => rw [hf] at q; exact q⟩
theorem fOutA {κ : Kx} {M0 M : List Addr} {Γ : En} {σ : L2.St} {H : Hp} {r : Rs (List PV)} {k : List PV → En → Rs SV} {Q : VK} (h : OutF κ W M0 M Γ σ H (r.bind k) Q) : OutA κ W M0 M Γ σ H r fun x H1 => ∃ v M1 Γ1, Stp κ M0 M Γ σ H M1 Γ1 H1 ∧ RpA κ v x (msk M1 H1) ∧ r = .ok v Γ1 ∧ OutF κ W M0 M1 Γ1 σ H1 (k v Γ1) Q := by
  cases r with
  | ok v Γ' => exact fun M' H' u s r => ⟨v, M', Γ', s, r, rfl, OutF.from s h⟩
  | ex c v Γ' => exact h
  | no => exact h
theorem fOut {κ : Kx} {M0 M : List Addr} {Γ : En} {σ : L2.St} {H : Hp} {r : Rs PV} {k : PV → En → Rs SV} {Q : VK} (h : OutF κ W M0 M Γ σ H (r.bind k) Q) : Out κ W M0 M Γ σ H r fun x H1 => ∃ v M1 Γ1, Stp κ M0 M Γ σ H M1 Γ1 H1 ∧ Rp κ v x (msk M1 H1) ∧ r = .ok v Γ1 ∧ OutF κ W M0 M1 Γ1 σ H1 (k v Γ1) Q := by
  cases r with
  | ok v Γ' => exact fun M' H' u s r => ⟨v, M', Γ', s, r, rfl, OutF.from s h⟩
  | ex c v Γ' => exact h
  | no => exact h
theorem bind_assoc {α β γ : Type} (r : Rs α) (f : α → En → Rs β) (g : β → En → Rs γ) : (r.bind f).bind g = r.bind fun a Γ => (f a Γ).bind g := by cases r <;> rfl
/-- [a, ..] -/
theorem x_lst (h : PA X es (tPA (kx X cA) W fs)) : PE X (.List es pos) (tPX (kx X cA) W (xNew (sLst fs))) :=
  pe_mono (pe_lst h) fun σ H Q ⟨M0, M, Γ, ok, q⟩ => ⟨M0, M, Γ, ok, by
    unfold xNew sLst at q
    rw [bind_assoc] at q
    refine (fOutA q).mono fun xs H1 ⟨vs, M1, Γ1, s1, r1, _, q1⟩ => ?_
    by_cases l : vs.length ≤ 1000000
    · rw [if_pos l] at q1
      exact ⟨by rw [r1.len]; exact sz_le l, fun t ht => by
        obtain ⟨z1, z2, z3⟩ := new_lst s1.eok ht r1
        exact q1 M1 _ t ht z1 z2 z3⟩
    · rw [if_neg l] at q1
      exact q1.elim⟩
/-- list(e) -/
theorem x_list {cpos : Pos} (hg : Gl X x) (hm : X.mg x = none) (hv : bootBuiltins x = some (.type "list")) (he : PE X e (tP (kx X cA) W fa)) (hn : x ≠ "__name__" := by decide) (hdb : (x == ("__debug__" : Str)) = false := by decide)
    (hs : starEach [e] X.env = (false, eval e X.env) :: starEach [] X.env := by rfl) (hpl : (backTo pos (starEach [] X.env)).any (·.1) = false := by rfl) : PE X (.Call (.Name x p) [e] [] pos) (tPX (kx X cA) W (xNew (sU (fun v => gList [v]) fa))) :=
  pe_mono (pe_callTy call_list_of hg hm hv (pa_cons he pa_nil hs) hn hdb hs hpl) fun σ H Q ⟨M0, M, Γ, ok, q⟩ => ⟨M0, M, Γ, ok, by
    unfold xNew sU at q
    rw [bind_assoc] at q
    refine (fOut q).mono fun u H1 ⟨v, M1, Γ1, s1, r1, _, q1⟩ => ?_
    cases v <;> (first | (exact q1.elim) | skip)
    · obtain ⟨a, vs, rfl, h, r2⟩ := rp_tup.mp r1
      exact ⟨a, vs, rfl, .inr h.unmsk.sq, fun t ht => by
        obtain ⟨z1, z2, z3⟩ := new_lst s1.eok ht r2
        exact q1 M1 _ t ht z1 z2 z3⟩
    · obtain ⟨a, vs, rfl, h, r2⟩ := rp_lst.mp r1
      exact ⟨a, vs, rfl, .inl (SqL.of (msk_of h).1), fun t ht => by
        obtain ⟨z1, z2, z3⟩ := new_lst s1.eok ht r2
        exact q1 M1 _ t ht z1 z2 z3⟩⟩
/-- a list times a number, a sum of lists: new -/
def gMulL : PV → PV → Option PV
  | .lst a, .int k => if 0 ≤ k ∧ k ≤ 1000 ∧ a.length * k.toNat ≤ 1000000 then some (.lst (List.replicate k.toNat a).flatten) else none
  | _, _ => none
end
section
variable {κ : Kx} {W : WX} {A : Am} {N M M1 M2 : List Addr} {Γ Γ1 : En} {σ : L2.St} {H H1 H2 : Hp} {D : Ends} {k : Nat}
/-- with other things beside -/
abbrev Am.w (A : Am) (N : List Addr) : Am := ⟨N, A.IO, A.H0⟩
/-- a new thing is stored at a slot -/
theorem SOK.setO {p : PV} {t : Addr} (h : SOK κ (A.w (t :: N)) M Γ σ H) (tN : t ∉ N) (t0 : A.H0 t = none) (hk : okSet Γ k = true) (r : OwR κ p t H (msk M H)) :
    SOK κ (A.w N) M (Γ.set k (.ow false p)) (σ.set k (some (.ref t))) H ∧ PinS Γ σ (Γ.set k (.ow false p)) (σ.set k (some (.ref t))) := by
  obtain ⟨kl, kn⟩ := okSet_ne hk
  have kl' : k < σ.length := by rw [h.eok.len]; exact kl
  refine ⟨⟨⟨by rw [List.length_set, List.length_set]; exact h.eok.len, fun j w ej => ?_, fun j io w ej => ?_, fun i j b io jo w w' ei ej si sj => ?_, fun b hb => h.eok.sub b (List.mem_cons_of_mem _ hb), h.eok.alive, h.eok.tab⟩, h.frm, fun b z => ?_, h.liv⟩, fun j w ej => ?_⟩
  · by_cases c : k = j
    · subst c
      rw [List.getElem?_set_self kl] at ej
      cases ej
    · rw [List.getElem?_set_ne c] at ej ⊢
      exact h.eok.va j w ej
  · by_cases c : k = j
    · subst c
      rw [List.getElem?_set_self kl] at ej
      cases ej
      exact ⟨t, List.getElem?_set_self kl', h.eok.sub t List.mem_cons_self, tN, r⟩
    · rw [List.getElem?_set_ne c] at ej ⊢
      obtain ⟨b, e1, m, n, rb⟩ := h.eok.ow j io w ej
      exact ⟨b, e1, m, fun z => n (List.mem_cons_of_mem _ z), rb⟩
  · have nt : ∀ {j : Nat} {jo : Bool} {w : PV}, Γ[j]? = some (.ow jo w) → σ[j]? ≠ some (some (.ref t)) := fun {j jo w} ej sj => by
      obtain ⟨b, e1, m, n, rb⟩ := h.eok.ow j jo w ej
      rw [sj] at e1
      cases e1
      exact n List.mem_cons_self
    by_cases ci : k = i
    · by_cases cj : k = j
      · exact ci.symm.trans cj
      · subst ci
        rw [List.getElem?_set_self kl'] at si
        cases si
        rw [List.getElem?_set_ne cj] at ej sj
        exact absurd sj (nt ej)
    · by_cases cj : k = j
      · subst cj
        rw [List.getElem?_set_self kl'] at sj
        cases sj
        rw [List.getElem?_set_ne ci] at ei si
        exact absurd si (nt ei)
      · rw [List.getElem?_set_ne ci] at ei si
        rw [List.getElem?_set_ne cj] at ej sj
        exact h.eok.inj i j b io jo w w' ei ej si sj
  · obtain ⟨j, io, w, e1, e2⟩ := z
    by_cases c : k = j
    · subst c
      rw [List.getElem?_set_self kl'] at e2
      cases e2
      exact .inr t0
    · rw [List.getElem?_set_ne c] at e1 e2
      exact h.own b ⟨j, io, w, e1, e2⟩
  · have c : k ≠ j := fun c => by
      subst c
      rw [List.getElem?_set_self kl] at ej
      cases ej
    rw [List.getElem?_set_ne c] at ej ⊢
    exact ⟨⟨w, ej⟩, rfl⟩
def putX (k : Nat) (v : SV) (Γ : En) : Fl := match v with
  | .va p => putV k p Γ
  | .ow false p => if okSet Γ k = true then .nx (Γ.set k (.ow false p)) else .no
  | _ => .no
theorem fresh0 (h : SOK κ A M Γ σ H) {t : Addr} (n : H t = none) : A.H0 t = none := by
  cases z : A.H0 t with
  | none => rfl
  | some o => exact absurd n (h.liv t (by rw [z]; exact fun z => by cases z))
theorem new_same (ok : EOK κ N M Γ σ H) (s : Stp κ N M Γ σ H M1 Γ1 H1) {T : List Addr} (hT : ∀ t ∈ T, H t = none) : LamX.ExtN (msk M H) (msk (T ++ M1) H1) := fun b o e nt => by
  have z := s.same ok b o e nt
  obtain ⟨e1, n1⟩ := msk_of e
  obtain ⟨e2, n2⟩ := msk_of z
  rw [msk_in (fun z => ?_)]
  · exact e2
  · rcases List.mem_append.mp z with z | z
    · rw [hT b z] at e1; cases e1
    · exact n2 z
theorem Fin.putX {r : Rs SV} (ok : SOK κ A M Γ σ H) (q : Fin κ W A M Γ σ H (r.fl fun v Γ1 => putX k v Γ1) D) : OutF κ W A.M0 M Γ σ H r fun u H1 => D.nx (σ.set k (some u)) H1 := by
  cases r with
  | ok v Γ' =>
    cases v with
    | un => exact q
    | va v => exact fun M' H' u s r => Fin.putV (ok.stp s).sok (Fin.from (ok.stp s) q) r
    | ow io v =>
      cases io with
      | true => exact q.elim
      | false =>
        intro M' H' a ha s e r
        have q : Fin κ W A M Γ σ H (if okSet Γ' k = true then .nx (Γ'.set k (.ow false v)) else .no) D := q
        by_cases c : okSet Γ' k = true
        · rw [if_pos c] at q
          have z := ok.stp s
          obtain ⟨w1, w2⟩ := SOK.setO (A := A) (N := A.M0) ⟨e, z.sok.frm, z.sok.own, z.sok.liv⟩ (ok.eok.alive.free ha |> fun w z => w (ok.eok.sub a z)) (fresh0 ok ha) c r
          exact q _ _ H' ⟨w1, new_same (T := [a]) ok.eok s (fun t ht => by rw [List.mem_singleton.mp ht]; exact ha), z.pin.trans w2⟩
        · rw [if_neg c] at q
          exact q.elim
  | ex c v Γ' => exact fun M' H' d u s e r => q M' σ H' d u (ok.stp s) e r
  | no => exact q
end
section
variable {X : Cx} {cA : CA} {W : WX} {x y z : Str} {pos pos' p p1 p2 p3 apos : Pos} {a b c e : Expr} {fa fb fc : SE} {es : List Expr} {fs : SA} {st : Stmt} {k : Nat} {f : SX}
def sPut (k : Nat) (f : SX) : SS := fun Γ => (f Γ).fl fun v Γ1 => putX k v Γ1
theorem s_put (k : Nat) (hN : X.N.Nodup) (he : PE X e (tPX (kx X cA) W f)) (hi : X.N[k]? = some x := by rfl) (hx : Loc X.env.scope x := by first | exact Or.inl rfl | exact Or.inr rfl) (hs : swapsWith e (some (.Name x pos')) pos.line X.env = pure false := by rfl)
    (hf : X.fn x = true ∨ X.env.scope.names.lookup x = some .local := by first | exact .inl rfl | exact .inr rfl) : PS X (.Assign [.Name x pos'] e pos) (tS (kx X cA) W (sPut k f)) :=
  ps_mono' (ps_set hN hi hx he hs hf) fun D σ H ⟨A, M, Γ, ok, q⟩ => ⟨A.M0, M, Γ, ok.eok, Fin.putX ok q⟩
end
end QX

set_option Elab.async false
set_option linter.all false
set_option maxRecDepth 100000
set_option maxHeartbeats 4000000
namespace QX
open PySem PySem.Spec PySem.W PySem.Calls PyProof.Rows L2 MX
/-! ### a, b = e, e' -/
section
variable {κ : Kx} {W : WX} {M0 M0' M M' M1 M2 N : List Addr} {Γ Γ1 Γ2 : En} {σ : L2.St} {H H1 H2 : Hp} {a t : Addr} {D : Ends}
theorem msk_congr (e : ∀ b, b ∈ M ↔ b ∈ M') : msk M H = msk M' H := funext fun b => by
  unfold msk
  by_cases z : b ∈ M
  · rw [if_pos z, if_pos ((e b).mp z)]
  · rw [if_neg z, if_neg (fun w => z ((e b).mpr w))]
theorem EOK.congr (h : EOK κ M0 M Γ σ H) (e0 : ∀ b, b ∈ M0 ↔ b ∈ M0') (e : ∀ b, b ∈ M ↔ b ∈ M') : EOK κ M0' M' Γ σ H :=
  ⟨h.len, fun k v z => by rw [← msk_congr e]; exact h.va k v z, fun k io v z => by
    obtain ⟨b, e1, m, n, r⟩ := h.ow k io v z
    exact ⟨b, e1, (e b).mp m, fun w => n ((e0 b).mpr w), by rw [← msk_congr e]; exact r⟩, h.inj, fun b hb => (e b).mp (h.sub b ((e0 b).mpr hb)), fun b hb => h.alive b ((e b).mpr hb), h.tab⟩
/-- a thing beside is let go -/
theorem Stp.let (ok : EOK κ M0 M Γ σ H) (s0 : Stp κ M0 M Γ σ H M1 Γ1 H1) (ha : H a = none) (ok1 : EOK κ (a :: M0) (a :: M1) Γ1 σ H1) (s : Stp κ (a :: M0) (a :: M1) Γ1 σ H1 M2 Γ2 H2) : Stp κ M0 M Γ σ H (wo a M2) Γ2 H2 ∧ Same (msk M2 H2) (msk (wo a M2) H2) := by
  have naM : a ∉ M := ok.alive.free ha
  have sm : Same (msk M2 H2) (msk (wo a M2) H2) := fun b o e => by
    obtain ⟨e, n⟩ := msk_of e
    rw [msk_in (fun z => n (mem_wo.mp z).1)]
    exact e
  refine ⟨⟨⟨s.eok.len, fun k v e => ?_, fun k io v e => ?_, s.eok.inj, fun b hb => mem_wo.mpr ⟨s.eok.sub b (List.mem_cons_of_mem _ hb), fun z => naM (by rw [← z]; exact ok.sub b hb)⟩, fun b hb => s.eok.alive b (mem_wo.mp hb).1, s.eok.tab⟩, fun b hb => ?_, fun b u e n nt => ?_, fun k io v e => ?_, fun b hb => s.liv b (s0.liv b hb)⟩, sm⟩
  · obtain ⟨u, e1, r⟩ := s.eok.va k v e
    exact ⟨u, e1, Rp.st (LamX.ExtN.of sm) r⟩
  · obtain ⟨b, e1, m, n, r⟩ := s.eok.ow k io v e
    exact ⟨b, e1, mem_wo.mpr ⟨m, fun z => n (by rw [z]; exact List.mem_cons_self)⟩, fun z => n (List.mem_cons_of_mem _ z), r.st rfl (LamX.ExtN.of sm)⟩
  · obtain ⟨hb, c⟩ := mem_wo.mp hb
    rcases List.mem_cons.mp (s.sub b hb) with z | z
    · exact absurd z c
    · exact s0.sub b z
  · exact s.chg b u (s0.chg b u e n nt) (fun z => n (s0.ows.own z)) nt
  · obtain ⟨w, e⟩ := s.ows k io v e
    exact s0.ows k io w e
/-- values and new things -/
def Rx (κ : Kx) (H Hm : Hp) : List SV → List V → List Addr → Prop
  | [], [], [] => True
  | .va v :: vs, u :: us, T => Rp κ v u Hm ∧ Rx κ H Hm vs us T
  | .ow false v :: vs, u :: us, t :: T => u = .ref t ∧ OwR κ v t H Hm ∧ Rx κ H Hm vs us T
  | _, _, _ => False
theorem Rx.st {Hm Hm' : Hp} (x : LamX.ExtN Hm Hm') (e : ∀ b, H b ≠ none → H1 b = H b) : ∀ {vs : List SV} {us : List V} {T : List Addr}, Rx κ H Hm vs us T → Rx κ H1 Hm' vs us T
  | [], [], [], h => h
  | .va v :: vs, u :: us, T, h => ⟨Rp.st x h.1, Rx.st x e h.2⟩
  | .ow false v :: vs, u :: us, t :: T, h => ⟨h.1, h.2.1.st (e t h.2.1.some) x, Rx.st x e h.2.2⟩
  | [], _ :: _, _, h => by unfold Rx at h; exact h.elim
  | [], [], _ :: _, h => by unfold Rx at h; exact h.elim
  | .un :: _, _, _, h => by unfold Rx at h; exact h.elim
  | .ow true _ :: _, _, _, h => by unfold Rx at h; exact h.elim
  | .va _ :: _, [], _, h => by unfold Rx at h; exact h.elim
  | .ow false _ :: _, [], _, h => by unfold Rx at h; exact h.elim
  | .ow false _ :: _, _ :: _, [], h => by unfold Rx at h; exact h.elim
abbrev SXA := En → Rs (List SV)
def OutL (κ : Kx) (W : WX) (M0 M : List Addr) (Γ : En) (σ : L2.St) (H : Hp) (r : Rs (List SV)) (Q : List V → Hp → Prop) : Prop := match r with
  | .ok vs Γ' => ∀ T M' H' us, (∀ t ∈ T, H t = none) → T.Nodup → Stp κ M0 M Γ σ H M' Γ' H' → EOK κ (T ++ M0) (T ++ M') Γ' σ H' → Rx κ H' (msk (T ++ M') H') vs us T → Q us H'
  | .ex c v Γ' => OutX κ W M0 M Γ σ H c v Γ'
  | .no => False
def tPXA (κ : Kx) (W : WX) (f : SXA) : TA := fun σ H Q => ∃ M0 M Γ, EOK κ M0 M Γ σ H ∧ OutL κ W M0 M Γ σ H (f Γ) Q
def okN : SV → Bool
  | .va _ => true
  | .ow false _ => true
  | _ => false
def xsNil : SXA := fun Γ => .ok [] Γ
def xsCons (f : SX) (g : SXA) : SXA := fun Γ => (f Γ).bind fun v Γ1 => if okN v = true then (g Γ1).bind fun vs Γ2 => .ok (v :: vs) Γ2 else .no
theorem xs_step {r : Rs SV} {g : SXA} {Q : List V → Hp → Prop} (ok : EOK κ M0 M Γ σ H) (q : OutL κ W M0 M Γ σ H (r.bind fun v Γ1 => if okN v = true then (g Γ1).bind fun vs Γ2 => .ok (v :: vs) Γ2 else .no) Q) :
    OutF κ W M0 M Γ σ H r fun u H1 => tPXA κ W g σ H1 fun us H2 => Q (u :: us) H2 := by
  cases r with
  | ex c v Γ' => exact q
  | no => exact q
  | ok v Γ1 =>
    have q : OutL κ W M0 M Γ σ H (if okN v = true then (g Γ1).bind fun vs Γ2 => .ok (v :: vs) Γ2 else .no) Q := q
    cases v with
    | un => exact q.elim
    | va v =>
      have q : OutL κ W M0 M Γ σ H ((g Γ1).bind fun vs Γ2 => .ok (.va v :: vs) Γ2) Q := q
      intro M1 H1 u s r
      refine ⟨M0, M1, Γ1, s.eok, ?_⟩
      cases hg : g Γ1 with
      | no => rw [hg] at q; exact q
      | ex c w Γ2 => rw [hg] at q; exact OutX.from s q
      | ok vs Γ2 =>
        rw [hg] at q
        intro T M2 H2 us fT nd s2 e2 r2
        have fT0 : ∀ t ∈ T, H t = none := fun t ht => by
          cases z : H t with
          | none => rfl
          | some o => exact absurd (fT t ht) (s.liv t (by rw [z]; exact fun z => by cases z))
        exact q T M2 H2 (u :: us) fT0 nd (s.trans s2) e2 ⟨Rp.st (new_same s.eok s2 fT) r, r2⟩
    | ow io v =>
      cases io with
      | true => exact q.elim
      | false =>
        have q : OutL κ W M0 M Γ σ H ((g Γ1).bind fun vs Γ2 => .ok (.ow false v :: vs) Γ2) Q := q
        intro M1 H1 a ha s e r
        refine ⟨a :: M0, a :: M1, Γ1, e, ?_⟩
        cases hg : g Γ1 with
        | no => rw [hg] at q; exact q
        | ex c w Γ2 =>
          rw [hg] at q
          intro M2 H2 d u s2 ed rd
          obtain ⟨z1, z2⟩ := Stp.let ok s ha e s2
          exact q _ H2 d u z1 ed (Rp.st (LamX.ExtN.of z2) rd)
        | ok vs Γ2 =>
          rw [hg] at q
          intro T M2 H2 us fT nd s2 e2 r2
          obtain ⟨z1, z2⟩ := Stp.let ok s ha e s2
          have fT0 : ∀ t ∈ T, H t = none := fun t ht => by
            cases z : H t with
            | none => rfl
            | some o => exact absurd (fT t ht) (s.liv t (by rw [z]; exact fun z => by cases z))
          have am : a ∈ M2 := s2.eok.sub a List.mem_cons_self
          have aT : a ∉ T := fun z => e.alive.nn List.mem_cons_self (fT a z)
          have c0 : ∀ b, b ∈ T ++ a :: M0 ↔ b ∈ (a :: T) ++ M0 := fun b => by simp [or_left_comm]
          have c1 : ∀ b, b ∈ T ++ M2 ↔ b ∈ (a :: T) ++ wo a M2 := fun b => by
            by_cases z : b = a
            · simp [z, am]
            · simp [z]
          have ea : H2 a = H1 a := by
            obtain ⟨o, z, mo⟩ := e.alive a List.mem_cons_self
            rw [z]
            exact s2.chg a o z (fun w => (e.own w).2 List.mem_cons_self) mo.nt
          refine q (a :: T) (wo a M2) H2 (.ref a :: us) (fun t ht => ?_) (List.nodup_cons.mpr ⟨aT, nd⟩) z1 (e2.congr c0 c1) ?_
          · rcases List.mem_cons.mp ht with z | z
            · rw [z]; exact ha
            · exact fT0 t z
          · rw [← msk_congr c1]
            exact ⟨rfl, r.st ea (new_same e s2 fT), r2⟩
/-- the stores -/
def putL : List Nat → List SV → En → Fl
  | [], [], Γ => .nx Γ
  | k :: ks, v :: vs, Γ => match putX k v Γ with
    | .nx Γ1 => putL ks vs Γ1
    | _ => .no
  | _, _, _ => .no
def setL : List Nat → List V → L2.St → L2.St
  | k :: ks, u :: us, σ => setL ks us (σ.set k (some u))
  | _, _, σ => σ
theorem putX_nx {k : Nat} {v : SV} (h : putX k v Γ = .nx Γ1) : okSet Γ k = true ∧ Γ1 = Γ.set k v ∧ okN v = true := by
  cases v with
  | un => cases h
  | va v =>
    have h : putV k v Γ = .nx Γ1 := h
    unfold putV at h
    by_cases c : okSet Γ k = true
    · rw [if_pos c] at h
      exact ⟨c, (Fl.nx.inj h).symm, rfl⟩
    · rw [if_neg c] at h
      cases h
  | ow io v =>
    cases io with
    | true => cases h
    | false =>
      have h : (if okSet Γ k = true then Fl.nx (Γ.set k (.ow false v)) else .no) = .nx Γ1 := h
      by_cases c : okSet Γ k = true
      · rw [if_pos c] at h
        exact ⟨c, (Fl.nx.inj h).symm, rfl⟩
      · rw [if_neg c] at h
        cases h
theorem par_sok {A : Am} {N : List Addr} : ∀ {ks : List Nat} {vs : List SV} {us : List V} {T : List Addr} {Γ : En} {σ : L2.St}, SOK κ (A.w (T ++ N)) M Γ σ H → T.Nodup → (∀ t ∈ T, t ∉ N) → (∀ t ∈ T, A.H0 t = none) → Rx κ H (msk M H) vs us T → putL ks vs Γ = .nx Γ1 →
    SOK κ (A.w N) M Γ1 (setL ks us σ) H ∧ PinS Γ σ Γ1 (setL ks us σ) ∧ us.length = vs.length
  | [], [], us, T, Γ, σ, ok, nd, dn, t0, r, e => by
    have e := Fl.nx.inj e
    subst e
    match us, T, r with
    | [], [], r => exact ⟨ok, PinS.refl, rfl⟩
  | k :: ks, v :: vs, us, T, Γ, σ, ok, nd, dn, t0, r, e => by
    cases hp : putX k v Γ with
    | nx Γ2 =>
      have e : putL ks vs Γ2 = .nx Γ1 := by
        have : putL (k :: ks) (v :: vs) Γ = putL ks vs Γ2 := by
          show (match putX k v Γ with | .nx Γ1 => putL ks vs Γ1 | _ => .no) = _
          rw [hp]
        rw [← this]
        exact e
      obtain ⟨hk, rfl, hv⟩ := putX_nx hp
      cases v with
      | un => cases hv
      | va v =>
        match us, r with
        | u :: us, r =>
          obtain ⟨z1, z2, z3⟩ := par_sok (ok.setV hk r.1).sok nd dn t0 r.2 e
          exact ⟨z1, (ok.setV hk r.1).pin.trans z2, by rw [List.length_cons, List.length_cons, z3]⟩
      | ow io v =>
        cases io with
        | true => cases hv
        | false =>
          match us, T, r with
          | u :: us, t :: T, r =>
            obtain ⟨rfl, r1, r2⟩ := r
            obtain ⟨n1, n2⟩ := List.nodup_cons.mp nd
            obtain ⟨w1, w2⟩ := SOK.setO (A := A) (N := T ++ N) ok (fun z => (List.mem_append.mp z).elim n1 (dn t List.mem_cons_self)) (t0 t List.mem_cons_self) hk r1
            obtain ⟨z1, z2, z3⟩ := par_sok w1 n2 (fun t ht => dn t (List.mem_cons_of_mem _ ht)) (fun t ht => t0 t (List.mem_cons_of_mem _ ht)) r2 e
            exact ⟨z1, w2.trans z2, by rw [List.length_cons, List.length_cons, z3]⟩
    | rt v Γ2 => rw [putL, hp] at e; cases e
    | bk Γ2 => rw [putL, hp] at e; cases e
    | ct Γ2 => rw [putL, hp] at e; cases e
    | ex c v Γ2 => rw [putL, hp] at e; cases e
    | no => rw [putL, hp] at e; cases e
  | [], v :: vs, us, T, Γ, σ, ok, nd, dn, t0, r, e => by cases e
  | k :: ks, [], us, T, Γ, σ, ok, nd, dn, t0, r, e => by cases e
theorem putL_len : ∀ {ks : List Nat} {vs : List SV} {Γ Γ1 : En}, putL ks vs Γ = .nx Γ1 → vs.length = ks.length
  | [], [], _, _, _ => rfl
  | k :: ks, v :: vs, Γ, Γ1, e => by
    have e : (match QX.putX k v Γ with | .nx Γ1 => putL ks vs Γ1 | _ => .no) = Fl.nx Γ1 := e
    cases hq : QX.putX k v Γ with
    | nx Γ3 =>
      simp only [hq] at e
      rw [List.length_cons, List.length_cons, putL_len e]
    | _ => simp only [hq] at e; cases e
  | [], _ :: _, _, _, e => by cases e
  | _ :: _, [], _, _, e => by cases e
def sPar (ks : List Nat) (fs : SXA) : SS := fun Γ => (fs Γ).fl fun vs Γ1 => match putL ks vs Γ1 with
  | .nx Γ2 => .nx Γ2
  | _ => .no
theorem Fin.par {A : Am} {ks : List Nat} {fs : SXA} (ok : SOK κ A M Γ σ H) (q : Fin κ W A M Γ σ H (sPar ks fs Γ) D) : OutL κ W A.M0 M Γ σ H (fs Γ) fun us H1 => us.length = ks.length ∧ D.nx (setL ks us σ) H1 := by
  unfold sPar at q
  cases hf : fs Γ with
  | no => rw [hf] at q; exact q
  | ex c v Γ1 =>
    rw [hf] at q
    exact fun M' H' d u s e r => q M' σ H' d u (ok.stp s) e r
  | ok vs Γ1 =>
    rw [hf] at q
    intro T M1 H1 us fT nd s e r
    have q : Fin κ W A M Γ σ H (match putL ks vs Γ1 with | .nx Γ2 => .nx Γ2 | _ => .no) D := q
    cases hp : putL ks vs Γ1 with
    | nx Γ2 =>
      simp only [hp] at q
      have z := ok.stp s
      obtain ⟨w1, w2, w3⟩ := par_sok (A := A) (N := A.M0) ⟨e, z.sok.frm, z.sok.own, z.sok.liv⟩ nd (fun t ht w => ok.eok.alive.nn (ok.eok.sub t w) (fT t ht)) (fun t ht => fresh0 ok (fT t ht)) r hp
      have lk := putL_len hp
      exact ⟨w3.trans lk, q _ _ H1 ⟨w1, new_same ok.eok s fT, z.pin.trans w2⟩⟩
    | _ => simp only [hp] at q; exact q.elim
end
section
variable {X : Cx} {cA : CA} {W : WX} {x y z : Str} {pos pos' p p1 p2 p3 pt apos : Pos} {a b c e : Expr} {fa fb fc : SE} {es : List Expr} {fs : SXA} {st : Stmt} {f : SX}
theorem xs_nil : PA X [] (tPXA (kx X cA) W xsNil) := pa_mono pa_nil fun σ H Q ⟨M0, M, Γ, ok, q⟩ => q [] M H [] (fun t ht => by cases ht) List.nodup_nil (Stp.refl ok) ok trivial
theorem xs_cons (he : PE X e (tPX (kx X cA) W f)) (ht : PA X es (tPXA (kx X cA) W fs)) (hs : starEach (e :: es) X.env = (false, eval e X.env) :: starEach es X.env := by rfl) : PA X (e :: es) (tPXA (kx X cA) W (xsCons f fs)) :=
  pa_mono (pa_cons he ht hs) fun σ H Q ⟨M0, M, Γ, ok, q⟩ => ⟨M0, M, Γ, ok, xs_step ok q⟩
theorem s_par {kt k2 : Nat} {pt2 : Pos} (i j : Nat) (hc : X.calm = true) (hN : X.N.Nodup) (h : PA X [a, b] (tPXA (kx X cA) W fs)) (hw : swappedStores [.Tuple [.Name x p1, .Name y p2] kt pt] (.Tuple [a, b] k2 pt2) X.env = pure (some [x, y]) := by rfl) (hi : X.N[i]? = some x := by rfl) (hj : X.N[j]? = some y := by rfl) (ij : i ≠ j := by decide)
    (hx : X.env.scope.names.lookup x = some .local := by rfl) (hy : X.env.scope.names.lookup y = some .local := by rfl) (hs : swapsWithSole [.Tuple [.Name x p1, .Name y p2] kt pt] (.Tuple [a, b] k2 pt2) pos.line X.env = pure false := by rfl) :
    PS X (.Assign [.Tuple [.Name x p1, .Name y p2] kt pt] (.Tuple [a, b] k2 pt2) pos) (tS (kx X cA) W (sPar [i, j] fs)) :=
  ps_mono' (ps_par hc hN hi hj ij hx hy h hw hs) fun D σ H ⟨A, M, Γ, ok, q⟩ => ⟨A.M0, M, Γ, ok.eok, by
    have z := Fin.par ok q
    cases hf : fs Γ with
    | no => rw [hf] at z; exact z
    | ex c v Γ1 => rw [hf] at z; exact z
    | ok vs Γ1 =>
      rw [hf] at z
      intro T M1 H1 us a1 a2 a3 a4 a5
      obtain ⟨l, d⟩ := z T M1 H1 us a1 a2 a3 a4 a5
      match us, l, d with
      | [v, w], l, d => exact ⟨v, w, rfl, d⟩⟩
end
end QX

set_option Elab.async false
set_option linter.all false
set_option maxRecDepth 100000
set_option maxHeartbeats 4000000
namespace QX
open PySem PySem.Spec PySem.W PySem.Calls PyProof.Rows L2 MX
/-! ### a look at what is owned -/
def atom : PV → Bool
  | .non => true
  | .bl _ => true
  | .int _ => true
  | .str _ => true
  | _ => false
theorem rp_atom {κ : Kx} {p : PV} {u : V} {H H' : Hp} (a : atom p = true) (r : Rp κ p u H) : Rp κ p u H' := by
  cases p <;> (first | (cases a; done) | skip)
  · exact rp_non.mpr (rp_non.mp r)
  · exact rp_bl.mpr (rp_bl.mp r)
  · exact rp_int.mpr (rp_int.mp r)
  · exact rp_str.mpr (rp_str.mp r)
def lend : SV → SV
  | .ow _ v => .va v
  | s => s
def lendA (Γ : En) : En := Γ.map lend
section
variable {κ : Kx} {W : WX} {M0 M M1 : List Addr} {Γ Γ1 : En} {σ : L2.St} {H H1 : Hp}
theorem EOK.lend (h : EOK κ M0 M Γ σ H) : EOK κ M0 M0 (lendA Γ) σ H := by
  have sm : Same (msk M H) (msk M0 H) := fun b o e => by
    obtain ⟨e, n⟩ := msk_of e
    rw [msk_in (fun z => n (h.sub b z))]
    exact e
  have nw : ∀ {k : Nat} {io : Bool} {v : PV}, (lendA Γ)[k]? ≠ some (.ow io v) := fun {k io v} e => by
    unfold lendA at e
    rw [List.getElem?_map] at e
    obtain ⟨s, _, e⟩ := Option.map_eq_some_iff.mp e
    cases s <;> cases e
  refine ⟨by unfold lendA; rw [List.length_map]; exact h.len, fun k v e => ?_, fun k io v e => absurd e nw, fun j k a io jo v w e _ _ _ => absurd e nw, fun _ hb => hb, fun b hb => h.alive b (h.sub b hb), h.tab⟩
  unfold lendA at e
  rw [List.getElem?_map] at e
  obtain ⟨s, es, e⟩ := Option.map_eq_some_iff.mp e
  cases s with
  | un => cases e
  | va w =>
    cases e
    obtain ⟨u, e1, r⟩ := h.va k v es
    exact ⟨u, e1, Rp.st (LamX.ExtN.of sm) r⟩
  | ow io w =>
    cases e
    obtain ⟨a, e1, m, n, r⟩ := h.ow k io v es
    exact ⟨_, e1, r.give (msk_in n) (LamX.ExtN.of sm)⟩
theorem lend_own : ¬ ∃ b, Own (lendA Γ) σ b := fun ⟨b, k, io, v, e, _⟩ => by
  unfold lendA at e
  rw [List.getElem?_map] at e
  obtain ⟨s, _, e⟩ := Option.map_eq_some_iff.mp e
  cases s <;> cases e
def sPeek (f : SE) : SE := fun Γ => match f (lendA Γ) with
  | .ok w _ => if atom w = true then .ok w Γ else .no
  | _ => .no
theorem peek_out {f : SE} {Q : VK} (ok : EOK κ M0 M Γ σ H) (q : Out κ W M0 M Γ σ H (sPeek f Γ) Q) : Out κ W M0 M0 (lendA Γ) σ H (f (lendA Γ)) Q := by
  unfold sPeek at q
  cases hf : f (lendA Γ) with
  | no => rw [hf] at q; exact q
  | ex c v Γ1 => rw [hf] at q; exact q.elim
  | ok w Γ1 =>
    rw [hf] at q
    intro M' H' u s r
    have q : Out κ W M0 M Γ σ H (if atom w = true then .ok w Γ else .no) Q := q
    by_cases c : atom w = true
    · rw [if_pos c] at q
      exact q M H' u (Stp.stay ok ⟨fun b o e nt => s.chg b o e (fun z => lend_own ⟨b, z⟩) nt, s.liv, s.eok.tab⟩) (rp_atom c r)
    · rw [if_neg c] at q
      exact q.elim
end
section
variable {X : Cx} {cA : CA} {W : WX} {x y z : Str} {pos pos' cpos p p1 p2 p3 pt apos : Pos} {a b c e : Expr} {fa fb fc : SE} {es : List Expr} {st : Stmt}
theorem p_peek (h : PE X e (tP (kx X cA) W fa)) : PE X e (tP (kx X cA) W (sPeek fa)) := pe_mono h fun σ H Q ⟨M0, M, Γ, ok, q⟩ => ⟨M0, M0, lendA Γ, ok.lend, peek_out ok q⟩
theorem q_peek (h : PT X e (tPT (kx X cA) W fa)) : PT X e (tPT (kx X cA) W (sPeek fa)) := pt_mono' h fun σ H Q ⟨M0, M, Γ, ok, q⟩ => ⟨M0, M0, lendA Γ, ok.lend, peek_out ok q⟩
/-! ### an owned list changes -/
/-- one list of an owned slot -/
def sOwn (k : Nat) (f : SE) (g : List PV → PV → Option (PV × List PV)) : SE := fun Γ => match Γ[k]? with
  | some (.ow _ (.lst _)) => (f Γ).bind fun v Γ1 => match Γ1[k]? with
    | some (.ow io (.lst xs)) => match g xs v with
      | some (r, ys) => .ok r (Γ1.set k (.ow io (.lst ys)))
      | none => .no
    | _ => .no
  | _ => .no
def ROw (κ : Kx) (r : V → List V → Hp → VK → Prop) (g : List PV → PV → Option (PV × List PV)) : Prop := ∀ t vs x w res ys u M H Q, g x w = some (res, ys) → H t = some (.lst vs) → t ∈ M → RpA κ x vs (msk M H) → Rp κ w u (msk M H) →
  (∀ us H' z, RpA κ ys us (msk M H) → H' = L2.upd H t (.lst us) → Rp κ res z (msk M H) → Q z H') → r (.ref t) [u] H Q
theorem own_run {r : V → List V → Hp → VK → Prop} {g : List PV → PV → Option (PV × List PV)} (k : Nat) {κ : Kx} (hr : ROw κ r g) {M0 M : List Addr} {Γ : En} {σ : L2.St} {H : Hp} {Q : VK} (ok : EOK κ M0 M Γ σ H) (q : Out κ W M0 M Γ σ H (sOwn k fa g Γ) Q) :
    ∃ t, σ[k]? = some (some (.ref t)) ∧ (∃ vs, H t = some (.lst vs)) ∧ Out κ W M0 M Γ σ H (fa Γ) fun u H1 => r (.ref t) [u] H1 Q := by
  unfold sOwn at q
  split at q
  · rename_i io0 xs0 hk
    obtain ⟨t, ht, hm, hn, vs0, e0, r0⟩ := ok.ow k io0 (.lst xs0) hk
    refine ⟨t, ht, ⟨vs0, e0⟩, (Out.bind q).mono fun u H1 ⟨v, M1, Γ1, s1, r1, _, q1⟩ => ?_⟩
    split at q1
    · rename_i io xs hk1
      obtain ⟨t', ht', hm1, hn1, vs, e1, rv⟩ := s1.eok.ow k io (.lst xs) hk1
      rw [ht] at ht'
      cases ht'
      split at q1
      · rename_i res ys hg
        refine hr t vs xs v res ys u M1 H1 Q hg e1 hm1 rv r1 fun us H' z hy eH hz => ?_
        subst eH
        have sm : Same (msk M1 H1) (msk M1 (L2.upd H1 t (.lst us))) := fun b o e => by
          obtain ⟨e, n⟩ := msk_of e
          rw [msk_in n, upd_ne (fun z => n (by rw [z]; exact hm1))]
          exact e
        exact q1 M1 _ z (s1.eok.put hk1 ht (StayP.upd s1.eok.tab e1 (.inl ⟨_, rfl⟩)) ⟨us, upd_same, RpA.st (LamX.ExtN.of sm) hy⟩) (Rp.st (LamX.ExtN.of sm) hz)
      · exact q1.elim
    · exact q1.elim
  · exact q.elim
theorem p_own {r : V → List V → Hp → VK → Prop} {g : List PV → PV → Option (PV × List PV)} {name : Str} {id : String} (k : Nat) (sl : Slot "list" name id) (hty : typeOf (.builtin id) = pure (.type "method_descriptor")) (hm : MtM X id r) (hr : ROw (kx X cA) r g) (he : PE X e (tP (kx X cA) W fa))
    (hN : X.N[k]? = some y := by rfl) (hv : Vis X.env.scope y := by first | exact Or.inl rfl | exact Or.inr (Or.inl rfl) | exact Or.inr (Or.inr rfl)) (hd : (y == ("__debug__" : Str)) = false := by decide) (hcd : (y == ("__classdict__" : Str)) = false := by decide)
    (hbase : attributeBase (.Name y p) name X.env (eval (.Name y p) X.env) = eval (.Name y p) X.env := by rfl)
    (hfew : (((backTo cpos (starEach [e] X.env)).all fun x => !x.1) && ((backToKw cpos (keywordEach [] X.env)).all fun x => x.1.isSome) && decide (([e].length + ([] : List Keyword).length + if ([] : List Keyword).isEmpty then 0 else 1) < 30)) = true := by rfl)
    (hline : (apos.endLine == cpos.line) = true := by rfl) (hst : starEach [e] X.env = (false, eval e X.env) :: starEach [] X.env := by rfl) (hpl : (backTo cpos (starEach [] X.env)).any (·.1) = false := by rfl) :
    PE X (.Call (.Attribute (.Name y p) name apos) [e] [] cpos) (tP (kx X cA) W (sOwn k fa g)) :=
  pe_mono (pe_bm PySem.F.plainAttrs_list sl hty hm (pe_var hN hv hd hcd) (pa_cons he pa_nil hst) hbase hfew hline hst hpl) fun σ H Q ⟨M0, M, Γ, ok, q⟩ => by
    obtain ⟨t, ht, ⟨vs, e0⟩, o⟩ := own_run (κ := kx X cA) k hr ok q
    exact ⟨.ref t, ht, .inl ⟨rfl, vs, SqL.of e0⟩, M0, M, Γ, ok, o⟩
def gAppend (xs : List PV) (v : PV) : Option (PV × List PV) := if xs.length < 1000000 then some (.non, xs ++ [v]) else none
def gExtend (xs : List PV) (v : PV) : Option (PV × List PV) := match v with
  | .lst ys => if xs.length + ys.length ≤ 1000000 then some (.non, xs ++ ys) else none
  | _ => none
def gPopAt (xs : List PV) (v : PV) : Option (PV × List PV) := match v with
  | .int i => if -9000000000000000000 ≤ i ∧ i < 9000000000000000000 then match seqIndex? i xs.length with
    | some k => match xs[k]? with
      | some y => some (y, xs.eraseIdx k)
      | none => none
    | none => none else none
  | _ => none
theorem rp_snoc {κ : Kx} {xs : List PV} {vs : List V} {w : PV} {u : V} {H : Hp} (r : RpA κ xs vs H) (s : Rp κ w u H) : RpA κ (xs ++ [w]) (vs ++ [u]) H := r.app (rpA_cons.mpr ⟨s, rpA_nil⟩)
theorem row_append {κ : Kx} : ROw κ rAppend gAppend := fun t vs x w res ys u M H Q hg e0 hm rv rw_ q => by
  unfold gAppend at hg
  by_cases l : x.length < 1000000
  · rw [if_pos l] at hg
    cases hg
    exact ⟨t, vs, u, rfl, rfl, e0, by rw [rv.len, sizeLine_eq]; omega, q _ _ _ (rp_snoc rv rw_) rfl (rp_non.mpr rfl)⟩
  · rw [if_neg l] at hg
    cases hg
theorem row_extend {κ : Kx} : ROw κ rExtend gExtend := fun t vs x w res ys u M H Q hg e0 hm rv rw_ q => by
  cases w <;> (first | (cases hg; done) | skip)
  rename_i zs
  have hg : (if x.length + zs.length ≤ 1000000 then some (PV.non, x ++ zs) else none) = some (res, ys) := hg
  by_cases l : x.length + zs.length ≤ 1000000
  · rw [if_pos l] at hg
    cases hg
    obtain ⟨b, us, rfl, hb, r2⟩ := rp_lst.mp rw_
    exact ⟨t, b, vs, us, rfl, rfl, e0, (msk_of hb).1, by rw [rv.len, r2.len]; exact sz_le l, q _ _ _ (rv.app r2) rfl (rp_non.mpr rfl)⟩
  · rw [if_neg l] at hg
    cases hg
theorem RpA.erase {κ : Kx} {H : Hp} {ps : List PV} {vs : List V} (r : RpA κ ps vs H) (k : Nat) : RpA κ (ps.eraseIdx k) (vs.eraseIdx k) H := by
  rw [List.eraseIdx_eq_take_drop_succ, List.eraseIdx_eq_take_drop_succ]
  exact (r.take k).app (r.drop (k + 1))
theorem row_popAt {κ : Kx} : ROw κ rPopAt gPopAt := fun t vs x w res ys u M H Q hg e0 hm rv rw_ q => by
  cases w <;> (first | (cases hg; done) | skip)
  rename_i i
  unfold gPopAt at hg
  simp only at hg
  by_cases l : -9000000000000000000 ≤ i ∧ i < 9000000000000000000
  · rw [if_pos l] at hg
    split at hg
    · rename_i k hk
      split at hg
      · rename_i y hy
        cases hg
        obtain ⟨z, hz, rz⟩ := rv.get hy
        exact ⟨t, vs, i, k, z, rfl, by rw [rp_int.mp rw_], e0, by omega, by omega, by rw [rv.len]; exact hk, hz, q _ _ _ (rv.erase k) rfl rz⟩
      · cases hg
    · cases hg
  · rw [if_neg l] at hg
    cases hg
def sAppend (k : Nat) (f : SE) : SE := sOwn k f gAppend
def sExtend (k : Nat) (f : SE) : SE := sOwn k f gExtend
def sPopAt (k : Nat) (f : SE) : SE := sOwn k f gPopAt
/-! pop() -/
/-! o[i] = e -/
def sOwSet (k : Nat) (i : Int) (f : SE) : SS := fun Γ => (f Γ).fl fun v Γ1 => match Γ1[k]? with
  | some (.ow io (.lst xs)) => match ixN xs.length i with
    | some j => .nx (Γ1.set k (.ow io (.lst (xs.set j v))))
    | none => .no
  | _ => .no
theorem RpA.set {κ : Kx} {H : Hp} {w : PV} {u : V} (s : Rp κ w u H) : ∀ {ps : List PV} {vs : List V} (k : Nat), RpA κ ps vs H → RpA κ (ps.set k w) (vs.set k u) H
  | [], [], _, r => r
  | p :: ps, v :: vs, 0, r => by
    obtain ⟨r1, r2⟩ := rpA_cons.mp r
    exact rpA_cons.mpr ⟨s, r2⟩
  | p :: ps, v :: vs, k + 1, r => by
    obtain ⟨r1, r2⟩ := rpA_cons.mp r
    exact rpA_cons.mpr ⟨r1, RpA.set s k r2⟩
  | [], _ :: _, _, r => by unfold RpA at r; exact r.elim
  | _ :: _, [], _, r => by unfold RpA at r; exact r.elim
theorem s_owset {i : Int} {j} (k : Nat) (he : PE X e (tP (kx X cA) W fa)) (hN : X.N[k]? = some y := by rfl) (hv : Vis X.env.scope y := by first | exact Or.inl rfl | exact Or.inr (Or.inl rfl) | exact Or.inr (Or.inr rfl)) (hd : (y == ("__debug__" : Str)) = false := by decide) (hcd : (y == ("__classdict__" : Str)) = false := by decide)
    (hb : ∀ (v : Value), assign ((Expr.Name y p).Subscript (.Constant (.int i) j p1) pos) X.env v = (do
                let ov ← holding [v] (eval (.Name y p) X.env)
                let iv ← holding [v, ov] (eval (.Constant (.int i) j p1) X.env)
                standAt pos
                holding [v, ov, iv] (setItem ov iv v)
                release [v, ov, iv] []) := by intro _; rfl) (hs : swapsWithSole [.Subscript (.Name y p) (.Constant (.int i) j p1) pos] e pos'.line X.env = pure false := by rfl) (hw : swappedStores [.Subscript (.Name y p) (.Constant (.int i) j p1) pos] e X.env = pure none := by rfl)
    (h1 : (assignEach [.Subscript (.Name y p) (.Constant (.int i) j p1) pos] X.env).map (·.2) = [assign (.Subscript (.Name y p) (.Constant (.int i) j p1) pos) X.env] := by rfl) :
    PS X (.Assign [.Subscript (.Name y p) (.Constant (.int i) j p1) pos] e pos') (tS (kx X cA) W (sOwSet k i fa)) :=
  ps_mono' (ps_asg he (pg_sub (pe_var hN hv hd hcd) pe_int set_list hb) hs hw h1) fun D σ H ⟨A, M, Γ, ok, q⟩ => ⟨A.M0, M, Γ, ok.eok, (Fin.out ok q).mono fun u H1 ⟨v, M1, Γ1, s, r, _, q1⟩ => by
    cases hk : Γ1[k]? with
    | none => simp only [hk] at q1; exact q1.elim
    | some sv =>
      cases sv with
      | un => simp only [hk] at q1; exact q1.elim
      | va v => simp only [hk] at q1; exact q1.elim
      | ow io pv =>
        cases pv <;> (try (simp only [hk] at q1; exact q1.elim; done))
        rename_i xs
        simp only [hk] at q1
        obtain ⟨t, ht, hm, hn, vs, e0, rv⟩ := s.sok.eok.ow k io (.lst xs) hk
        cases hj : ixN xs.length i with
        | none => simp only [hj] at q1; exact q1.elim
        | some j =>
          simp only [hj] at q1
          have sm : Same (msk M1 H1) (msk M1 (L2.upd H1 t (.lst (vs.set j u)))) := fun b o e => by
            obtain ⟨e, n⟩ := msk_of e
            rw [msk_in n, upd_ne (fun z => n (by rw [z]; exact hm))]
            exact e
          exact ⟨.ref t, ht, t, vs, i, j, rfl, rfl, e0, by rw [rv.len]; exact hj, q1 M1 σ _ (s.sok.stp (s.sok.eok.put hk ht (StayP.upd s.sok.eok.tab e0 (.inl ⟨_, rfl⟩)) ⟨_, upd_same, RpA.st (LamX.ExtN.of sm) (rv.set r j)⟩))⟩⟩
end
end QX

set_option Elab.async false
set_option linter.all false
set_option maxRecDepth 100000
set_option maxHeartbeats 4000000
namespace QX
open PySem PySem.Spec PySem.W PySem.Calls PyProof.Rows L2 MX
/-! ### what is gone through -/
abbrev SIt := En → Rs (List PV)
/-- a walk that gives these values -/
def ItOk (κ : Kx) (M : List Addr) (H : Hp) (J : It) (ys : List PV) : Prop := ∃ (G : Hp → Prop) (Y : Nat → Hp → V → Hp → Prop), L2.Walk J ys.length G Y ∧
  ∀ M2 H2, LamX.ExtN (msk M H) (msk M2 H2) → G H2 ∧ (Alive M2 H2 → ∀ i x H3, i < ys.length → Y i H2 x H3 → Same H2 H3 ∧ ∃ y, ys[i]? = some y ∧ Rp κ y x (msk M2 H3))
def OutI (κ : Kx) (W : WX) (M0 M : List Addr) (Γ : En) (σ : L2.St) (H : Hp) (r : Rs (List PV)) (R : It → Hp → Prop) : Prop := match r with
  | .ok ys Γ' => ∀ M' H' J, Stp κ M0 M Γ σ H M' Γ' H' → ItOk κ M' H' J ys → R J H'
  | .ex c v Γ' => OutX κ W M0 M Γ σ H c v Γ'
  | .no => False
def tPI (κ : Kx) (W : WX) (f : SIt) : TI := fun σ H R => ∃ M0 M Γ, EOK κ M0 M Γ σ H ∧ OutI κ W M0 M Γ σ H (f Γ) R
theorem pi_mono {X : Cx} {tg it : Expr} {w w' : TI} (h : PI X tg it w) (m : ∀ σ H R, w' σ H R → w σ H R) : PI X tg it w' := ⟨fun pins s σ H R I q => h.run pins s σ H R I (m σ H R q)⟩
theorem pi_or {X : Cx} {tg it : Expr} {w w' : TI} (h : PI X tg it w) (h' : PI X tg it w') : PI X tg it (fun σ H R => w σ H R ∨ w' σ H R) := ⟨fun pins s σ H R I q => q.elim (h.run pins s σ H R I) (h'.run pins s σ H R I)⟩
section
variable {κ : Kx} {W : WX} {M0 M M1 : List Addr} {Γ Γ1 : En} {σ : L2.St} {H H1 : Hp} {R : It → Hp → Prop}
theorem ItOk.mk {J : It} {G : Hp → Prop} {Y : Nat → Hp → V → Hp → Prop} {ys : List PV} {n : Nat} (wk : L2.Walk J n G Y) (l : ys.length = n) (h : ∀ M2 H2, LamX.ExtN (msk M H) (msk M2 H2) → G H2 ∧ (Alive M2 H2 → ∀ i x H3, i < ys.length → Y i H2 x H3 → Same H2 H3 ∧ ∃ y, ys[i]? = some y ∧ Rp κ y x (msk M2 H3))) : ItOk κ M H J ys := ⟨G, Y, l ▸ wk, h⟩
theorem itok_list {a : Addr} {xs : List PV} {vs : List V} (e : msk M H a = some (.lst vs)) (r : RpA κ xs vs (msk M H)) : ItOk κ M H (Itl κ.K a) xs :=
  .mk (walk_list (K := κ.K) (a := a) (xs := vs)) r.len.symm fun M2 H2 s => ⟨SqL.of (msk_of (s _ _ e (fun _ z => by cases z))).1, fun al i x H3 hi ⟨e3, y⟩ => by
    subst e3
    obtain ⟨p, hp, rp⟩ := (RpA.st (s) r).at y
    exact ⟨Same.refl _, p, hp, rp⟩⟩
theorem itok_tup {f : Bool} {a : Addr} {xs : List PV} {vs : List V} (e : TupO κ.K f (msk M H) a vs) (r : RpA κ xs vs (msk M H)) : ItOk κ M H (Itt κ.K a) xs :=
  .mk (walk_tup (K := κ.K) (a := a) (xs := vs)) r.len.symm fun M2 H2 s => ⟨(e.extN (s)).unmsk.sq, fun al i x H3 hi ⟨e3, y⟩ => by
    subst e3
    obtain ⟨p, hp, rp⟩ := (RpA.st (s) r).at y
    exact ⟨Same.refl _, p, hp, rp⟩⟩
def chrs (x : Str) : List PV := x.cps.toList.map fun c => .str ⟨#[c]⟩
theorem itok_str {x : Str} : ItOk κ M H (Its x) (chrs x) := by
  have l : (chrs x).length = x.cps.size := by unfold chrs; simp
  refine .mk (walk_str (z := x)) l fun M2 H2 s => ⟨trivial, fun al i v H3 hi ⟨e3, c, hc, ev⟩ => ?_⟩
  subst e3
  refine ⟨Same.refl _, .str ⟨#[c]⟩, ?_, rp_str.mpr ev⟩
  unfold chrs
  rw [List.getElem?_map, Array.getElem?_toList, hc]
  rfl
def upto (lo : Int) (n : Nat) : List PV := (List.range n).map fun (i : Nat) => .int (lo + (i : Int))
theorem upto_len {lo : Int} {n : Nat} : (upto lo n).length = n := by unfold upto; simp
theorem itok_range {lo : Int} {n : Nat} : ItOk κ M H (Itr lo n) (upto lo n) := by
  refine .mk (walk_range (lo := lo) (n := n)) upto_len fun M2 H2 s => ⟨trivial, fun al i v H3 hi y => ?_⟩
  obtain ⟨e3, ev⟩ := y
  subst e3
  refine ⟨Same.refl _, .int (lo + (i : Int)), ?_, rp_int.mpr ev⟩
  unfold upto
  rw [List.getElem?_map, List.getElem?_range (by rw [upto_len] at hi; exact hi)]
  rfl
/-- pairs -/
theorem itok_pair {J : It} {G : Hp → Prop} {us ws : Nat → Option V} {ps qs : List PV} {n : Nat} (wk : L2.Walk J n G (YPair us ws)) (hG : ∀ M2 H2, LamX.ExtN (msk M H) (msk M2 H2) → G H2) (ln : (ps.zip qs).length = n)
    (hu : ∀ i v, us i = some v → ∃ p, ps[i]? = some p ∧ Rp κ p v (msk M H)) (hw : ∀ i v, ws i = some v → ∃ p, qs[i]? = some p ∧ Rp κ p v (msk M H)) : ItOk κ M H J ((ps.zip qs).map fun p => .tup false [p.1, p.2]) := by
  have l : ((ps.zip qs).map fun p => PV.tup false [p.1, p.2]).length = n := by rw [List.length_map]; exact ln
  refine .mk wk l fun M2 H2 s => ⟨hG M2 H2 s, fun al i v H3 hi ⟨T, x, y, e, hT, e3, e4, e5⟩ => ?_⟩
  subst e3
  obtain ⟨p, hp, rp⟩ := hu i x e4
  obtain ⟨q, hq, rq⟩ := hw i y e5
  refine ⟨same_new hT, .tup false [p, q], ?_, ?_⟩
  · rw [List.getElem?_map, (List.getElem?_zip_eq_some (z := (p, q))).mpr ⟨hp, hq⟩]
    rfl
  · rw [e]
    exact rp_newT al hT (rpA_cons.mpr ⟨Rp.st (s) rp, rpA_cons.mpr ⟨Rp.st (s) rq, rpA_nil⟩⟩)
theorem OutI.from {r : Rs (List PV)} (s : Stp κ M0 M Γ σ H M1 Γ1 H1) (h : OutI κ W M0 M Γ σ H r R) : OutI κ W M0 M1 Γ1 σ H1 r R := by
  cases r with
  | ok v Γ' => exact fun M' H' u s' r => h M' H' u (s.trans s') r
  | ex c v Γ' => exact OutX.from s h
  | no => exact h
theorem Out.bindI {r : Rs PV} {k : PV → En → Rs (List PV)} (h : OutI κ W M0 M Γ σ H (r.bind k) R) : Out κ W M0 M Γ σ H r fun x H1 => ∃ v M1 Γ1, Stp κ M0 M Γ σ H M1 Γ1 H1 ∧ Rp κ v x (msk M1 H1) ∧ r = .ok v Γ1 ∧ OutI κ W M0 M1 Γ1 σ H1 (k v Γ1) R := by
  cases r with
  | ok v Γ' => exact fun M' H' u s r => ⟨v, M', Γ', s, r, rfl, OutI.from s h⟩
  | ex c v Γ' => exact h
  | no => exact h
theorem OutA.bindI {r : Rs (List PV)} {k : List PV → En → Rs (List PV)} (h : OutI κ W M0 M Γ σ H (r.bind k) R) : OutA κ W M0 M Γ σ H r fun x H1 => ∃ v M1 Γ1, Stp κ M0 M Γ σ H M1 Γ1 H1 ∧ RpA κ v x (msk M1 H1) ∧ r = .ok v Γ1 ∧ OutI κ W M0 M1 Γ1 σ H1 (k v Γ1) R := by
  cases r with
  | ok v Γ' => exact fun M' H' u s r => ⟨v, M', Γ', s, r, rfl, OutI.from s h⟩
  | ex c v Γ' => exact h
  | no => exact h
end
section
variable {X : Cx} {cA : CA} {W : WX} {x y z : Str} {pos pos' cpos p p1 p2 p3 pt tpos : Pos} {tg a b c e e2 : Expr} {fa fb fc : SE} {es elts : List Expr} {fs gs : SA} {kk : Nat}
def iSeq (f : SE) : SIt := fun Γ => (f Γ).bind fun v Γ1 => match v with
  | .lst xs => .ok xs Γ1
  | .tup _ xs => .ok xs Γ1
  | .str x => .ok (chrs x) Γ1
  | _ => .no
theorem i_seq (h : PE X e (tP (kx X cA) W fa)) : PI X tg e (tPI (kx X cA) W (iSeq fa)) :=
  pi_mono (pi_or (pi_list h) (pi_or (pi_tup h) (pi_str h))) fun σ H R ⟨M0, M, Γ, ok, q⟩ => by
    unfold iSeq at q
    have qb := Out.bindI q
    cases hf : fa Γ with
    | no => rw [hf] at q; exact q.elim
    | ex c v Γ1 => exact .inl ⟨M0, M, Γ, ok, by rw [hf] at q ⊢; exact q⟩
    | ok v Γ1 =>
      cases v with
      | lst xs => exact .inl ⟨M0, M, Γ, ok, qb.mono fun u H1 ⟨v, M1, Γ2, s1, r1, hv, q1⟩ => by
          rw [hf] at hv
          cases hv
          obtain ⟨t, vs, rfl, ht, rv⟩ := rp_lst.mp r1
          exact ⟨t, rfl, ⟨vs, SqL.of (msk_of ht).1⟩, q1 M1 H1 _ (Stp.refl s1.eok) (itok_list ht rv)⟩⟩
      | tup f xs => exact .inr (.inl ⟨M0, M, Γ, ok, qb.mono fun u H1 ⟨v, M1, Γ2, s1, r1, hv, q1⟩ => by
          rw [hf] at hv
          cases hv
          obtain ⟨t, vs, rfl, ht, rv⟩ := rp_tup.mp r1
          exact ⟨t, rfl, ⟨vs, ht.unmsk.sq⟩, q1 M1 H1 _ (Stp.refl s1.eok) (itok_tup ht rv)⟩⟩)
      | str x => exact .inr (.inr ⟨M0, M, Γ, ok, qb.mono fun u H1 ⟨v, M1, Γ2, s1, r1, hv, q1⟩ => by
          rw [hf] at hv
          cases hv
          exact ⟨x, rp_str.mp r1, q1 M1 H1 _ (Stp.refl s1.eok) itok_str⟩⟩)
      | _ => rw [hf] at q; exact q.elim
def iRange (fs : SA) : SIt := fun Γ => (fs Γ).bind fun vs Γ1 => match vs with
  | [.int j] => if -4000000000000000000 ≤ j ∧ j < 4000000000000000000 then .ok (upto 0 j.toNat) Γ1 else .no
  | [.int i, .int j] => if -4000000000000000000 ≤ i ∧ i < 4000000000000000000 ∧ -4000000000000000000 ≤ j ∧ j < 4000000000000000000 then .ok (upto i (j - i).toNat) Γ1 else .no
  | _ => .no
theorem i_range1 (hg : Gl X "range") (hm : X.mg "range" = none) (ha : PA X [a] (tPA (kx X cA) W fs)) (hs : starEach [a] X.env = [(false, eval a X.env)] := by rfl) (h1 : ∀ Γ vs Γ', fs Γ = .ok vs Γ' → vs.length = 1) : PI X tg (.Call (.Name "range" p) [a] [] pos) (tPI (kx X cA) W (iRange fs)) :=
  pi_mono (pi_range1 hg hm ha hs) fun σ H R ⟨M0, M, Γ, ok, q⟩ => ⟨M0, M, Γ, ok, (OutA.bindI q).mono fun us H1 ⟨vs, M1, Γ1, s1, r1, hv, q1⟩ => by
    have l := h1 _ _ _ hv
    match vs, l, q1, r1 with
    | [v], _, q1, r1 =>
      cases v with
      | int j =>
        obtain ⟨u, rfl, ru⟩ := rpA1 r1
        have q1 : OutI (kx X cA) W M0 M1 Γ1 σ H1 (if -4000000000000000000 ≤ j ∧ j < 4000000000000000000 then .ok (upto 0 j.toNat) Γ1 else .no) R := q1
        by_cases c : -4000000000000000000 ≤ j ∧ j < 4000000000000000000
        · rw [if_pos c] at q1
          exact ⟨j, by rw [rp_int.mp ru], by omega, by omega, q1 M1 H1 _ (Stp.refl s1.eok) itok_range⟩
        · rw [if_neg c] at q1
          exact q1.elim
      | _ => exact q1.elim⟩
theorem sNil_len : ∀ Γ vs Γ', sNil Γ = .ok vs Γ' → vs.length = 0 := fun Γ vs Γ' h => by cases h; rfl
theorem sCons_len {n : Nat} (h : ∀ Γ vs Γ', gs Γ = .ok vs Γ' → vs.length = n) : ∀ Γ vs Γ', sCons fa gs Γ = .ok vs Γ' → vs.length = n + 1 := fun Γ vs Γ' e => by
  unfold sCons at e
  cases hf : fa Γ with
  | no => rw [hf] at e; cases e
  | ex c v Γ1 => rw [hf] at e; cases e
  | ok v Γ1 =>
    rw [hf] at e
    have e : ((gs Γ1).bind fun vs Γ2 => Rs.ok (v :: vs) Γ2) = .ok vs Γ' := e
    cases hg : gs Γ1 with
    | no => rw [hg] at e; cases e
    | ex c v Γ1 => rw [hg] at e; cases e
    | ok ws Γ2 =>
      rw [hg] at e
      cases e
      rw [List.length_cons, h _ _ _ hg]
/-- enumerate(e) -/
def enumP (k : Int) (xs : List PV) : List PV := ((upto k xs.length).zip xs).map fun p => .tup false [p.1, p.2]
def iEnu (f : SE) : SIt := fun Γ => (f Γ).bind fun v Γ1 => match v with
  | .lst xs => .ok (enumP 0 xs) Γ1
  | .tup _ xs => .ok (enumP 0 xs) Γ1
  | _ => .no
theorem upto_at {k : Int} {n i : Nat} (h : i < n) : (upto k n)[i]? = some (.int (k + (i : Int))) := by
  unfold upto
  rw [List.getElem?_map, List.getElem?_range h]
  rfl
theorem RpA.at' {κ : Kx} {H : Hp} {ps : List PV} {vs : List V} (h : RpA κ ps vs H) : ∀ (i : Nat) (v : V), vs[i]? = some v → ∃ p, ps[i]? = some p ∧ Rp κ p v H := fun i v e => h.at e
theorem a_one {te : TE} (he : PE X e te) (hs : starEach [e] X.env = [(false, eval e X.env)] := by rfl) : PA X [e] (fun σ H Q => te σ H fun u H1 => Q [u] H1) := pa_mono (pa_cons he pa_nil hs) fun σ H Q h => h
theorem enum_l {κ : Kx} {H : Hp} {n : Nat} {k : Int} (vs : List V) (hl : vs.length = n) : ∀ (i : Nat) (v : V), (fun (i : Nat) => if i < vs.length then some (V.int (k + (i : Int))) else none) i = some v → ∃ p, (upto k n)[i]? = some p ∧ Rp κ p v H := fun i v e => by
  simp only at e
  by_cases c : i < vs.length
  · rw [if_pos c] at e
    cases e
    exact ⟨_, upto_at (by omega), rp_int.mpr rfl⟩
  · rw [if_neg c] at e
    cases e
theorem walk_cut {J : It} {n : Nat} {G : Hp → Prop} {us us' ws : Nat → Option V} (wk : L2.Walk J n G (YPair us ws)) (h : ∀ i, i < n → us i = us' i) : L2.Walk J n G (YPair us' ws) :=
  ⟨wk.goes, wk.stops, fun i H v H' hi g y => by
    obtain ⟨T, x, y, e1, e2, e3, e4, e5⟩ := wk.yields i H v H' hi g y
    exact ⟨T, x, y, e1, e2, e3, by rw [← h i hi]; exact e4, e5⟩⟩
theorem itok_enum {κ : Kx} {M : List Addr} {H : Hp} {J : It} {G : Hp → Prop} {k : Int} {xs : List PV} {vs : List V} (wk : L2.Walk J vs.length G (YPair (fun i => some (.int (k + (i : Nat)))) (fun i => vs[i]?))) (hG : ∀ M2 H2, LamX.ExtN (msk M H) (msk M2 H2) → G H2) (r : RpA κ xs vs (msk M H)) : ItOk κ M H J (enumP k xs) :=
  itok_pair (walk_cut (us' := fun (i : Nat) => if i < vs.length then some (V.int (k + (i : Int))) else none) wk fun i hi => by rw [if_pos hi]) hG (by rw [List.length_zip, upto_len, r.len]; omega) (enum_l vs r.len) r.at'
theorem i_enum (hg : Gl X "enumerate") (hm : X.mg "enumerate" = none) (ha : PE X e (tP (kx X cA) W fa)) (hs : starEach [e] X.env = [(false, eval e X.env)] := by rfl) : PI X (.Tuple elts kk tpos) (.Call (.Name "enumerate" p) [e] [] pos) (tPI (kx X cA) W (iEnu fa)) :=
  pi_mono (pi_or (L2.pi_enum hg hm (a_one ha hs) hs) (pi_enumP hg hm (a_one ha hs) hs)) fun σ H R ⟨M0, M, Γ, ok, q⟩ => by
    unfold iEnu at q
    have qb := Out.bindI q
    cases hf : fa Γ with
    | no => rw [hf] at q; exact q.elim
    | ex c v Γ1 => exact .inl ⟨M0, M, Γ, ok, by rw [hf] at q ⊢; exact q⟩
    | ok v Γ1 =>
      cases v with
      | lst xs => exact .inl ⟨M0, M, Γ, ok, qb.mono fun u H1 ⟨v, M1, Γ2, s1, r1, hv, q1⟩ => by
          rw [hf] at hv
          cases hv
          obtain ⟨t, vs, rfl, ht, rv⟩ := rp_lst.mp r1
          refine ⟨t, vs, rfl, SqL.of (msk_of ht).1, q1 M1 H1 _ (Stp.refl s1.eok) (itok_enum (k := 0) (G := fun H => SqL X.K H t vs) ?_ (fun M2 H2 s => SqL.of (msk_of (s _ _ ht (fun _ z => by cases z))).1) rv)⟩
          have z := walk_enum (K := X.K) (a := t) (xs := vs)
          simp only [Int.zero_add]
          exact z⟩
      | tup f xs => exact .inr ⟨M0, M, Γ, ok, qb.mono fun u H1 ⟨v, M1, Γ2, s1, r1, hv, q1⟩ => by
          rw [hf] at hv
          cases hv
          obtain ⟨t, vs, rfl, ht, rv⟩ := rp_tup.mp r1
          exact ⟨t, vs, rfl, ht.unmsk.sq, q1 M1 H1 _ (Stp.refl s1.eok) (itok_enum (k := 0) walk_enumP (fun M2 H2 s => (ht.extN (s)).unmsk.sq) rv)⟩⟩
      | _ => rw [hf] at q; exact q.elim
/-- reversed(e) -/
def iRev (f : SE) : SIt := fun Γ => (f Γ).bind fun v Γ1 => match v with
  | .lst xs => .ok xs.reverse Γ1
  | .tup _ xs => .ok xs.reverse Γ1
  | _ => .no
theorem rev_at {κ : Kx} {H : Hp} {xs : List PV} {vs : List V} (r : RpA κ xs vs H) {i : Nat} {x : V} (hi : i < vs.length) (e : vs[vs.length - 1 - i]? = some x) : ∃ y, xs.reverse[i]? = some y ∧ Rp κ y x H := by
  obtain ⟨p, hp, rp⟩ := r.at e
  refine ⟨p, ?_, rp⟩
  rw [List.getElem?_reverse (by rw [← r.len]; exact hi), ← r.len]
  exact hp
theorem i_rev (hg : Gl X "reversed") (hm : X.mg "reversed" = none) (ha : PE X e (tP (kx X cA) W fa)) (hs : starEach [e] X.env = (false, eval e X.env) :: starEach [] X.env := by rfl) : PI X tg (.Call (.Name "reversed" p) [e] [] pos) (tPI (kx X cA) W (iRev fa)) :=
  pi_mono (RT.pi_revA hg hm ha hs) fun σ H R ⟨M0, M, Γ, ok, q⟩ => ⟨M0, M, Γ, ok, (Out.bindI q).mono fun u H1 ⟨v, M1, Γ2, s1, r1, hv, q1⟩ => by
    cases v with
    | lst xs =>
      obtain ⟨t, vs, rfl, ht, rv⟩ := rp_lst.mp r1
      refine ⟨t, vs, rfl, .inl ⟨SqL.of (msk_of ht).1, q1 M1 H1 _ (Stp.refl s1.eok) (.mk (walk_rev (K := X.K) (a := t) (xs := vs)) (by rw [List.length_reverse, rv.len]) fun M2 H2 s => ⟨SqL.of (msk_of (s _ _ ht (fun _ z => by cases z))).1, fun al i x H3 hi ⟨e3, y⟩ => ?_⟩)⟩⟩
      subst e3
      rw [List.length_reverse] at hi
      exact ⟨Same.refl _, rev_at (RpA.st (s) rv) (by rw [rv.len]; exact hi) y⟩
    | tup f xs =>
      obtain ⟨t, vs, rfl, ht, rv⟩ := rp_tup.mp r1
      refine ⟨t, vs, rfl, .inr ⟨ht.unmsk.sq, q1 M1 H1 _ (Stp.refl s1.eok) (.mk (walk_rt (K := X.K) (a := t) (vs := vs)) (by rw [List.length_reverse, rv.len]) fun M2 H2 s => ⟨(ht.extN (s)).unmsk.sq, fun al i x H3 hi ⟨e3, y⟩ => ?_⟩)⟩⟩
      subst e3
      rw [List.length_reverse] at hi
      exact ⟨Same.refl _, rev_at (RpA.st (s) rv) (by rw [rv.len]; exact hi) y⟩
    | _ => exact q1.elim⟩
end
end QX

set_option Elab.async false
set_option linter.all false
set_option maxRecDepth 100000
set_option maxHeartbeats 4000000
namespace QX
open PySem PySem.Spec PySem.W PySem.Calls PyProof.Rows L2 MX
/-! ### loops -/
def sForL (g : SG) (b : SS) : List PV → SS
  | [], Γ => .nx Γ
  | y :: ys, Γ => match g y Γ with
    | .nx Γ1 => match b Γ1 with
      | .nx Γ2 => sForL g b ys Γ2
      | .ct Γ2 => sForL g b ys Γ2
      | .bk Γ2 => .nx Γ2
      | .rt v Γ2 => .rt v Γ2
      | .ex c v Γ2 => .ex c v Γ2
      | .no => .no
    | _ => .no
def sFor (it : SIt) (g : SG) (b : SS) : SS := fun Γ => (it Γ).fl fun ys Γ1 => sForL g b ys Γ1
section
variable {κ : Kx} {W : WX} {A : Am} {M0 M M1 : List Addr} {Γ Γ1 : En} {σ : L2.St} {H H1 : Hp} {D : Ends}
theorem Fin.outI {r : Rs (List PV)} {k : List PV → En → Fl} (ok : SOK κ A M Γ σ H) (h : Fin κ W A M Γ σ H (r.fl k) D) : OutI κ W A.M0 M Γ σ H r fun J H1 => ∃ v M1 Γ1, Nxt κ A M Γ σ H M1 Γ1 σ H1 ∧ ItOk κ M1 H1 J v ∧ r = .ok v Γ1 ∧ Fin κ W A M1 Γ1 σ H1 (k v Γ1) D := by
  cases r with
  | ok v Γ' => exact fun M' H' J s r => ⟨v, M', Γ', ok.stp s, r, rfl, Fin.from (ok.stp s) h⟩
  | ex c v Γ' => exact fun M' H' d u s e r => h M' σ H' d u (ok.stp s) e r
  | no => exact h
theorem for_out {ks : List Nat} {g : SG} {b : SS} {J : It} {ys : List PV} (ok : SOK κ A M Γ σ H) (it : ItOk κ M H J ys) (q : Fin κ W A M Γ σ H (sForL g b ys Γ) D) :
    ∃ Wv : Nat → Nat → L2.St → Hp → Prop, (∃ m, Wv 0 m σ H) ∧ ∀ (i m : Nat) (σ : L2.St) (H : Hp), Wv i m σ H → J.stop i H ∧ D.nx σ H ∨ J.go i H ∧ ∃ N, (∀ (σ' : L2.St) (H' : Hp), N σ' H' → ∃ m', m' < m ∧ Wv (i + 1) m' σ' H') ∧
      ∀ (x : V) (H' : Hp), J.yld i H x H' → tPG κ ks g x σ H' fun σ2 H2 => tS κ W b { nx := N, rt := D.rt, bk := D.nx, ct := N } σ2 H2 := by
  obtain ⟨G, Y, wk, hg⟩ := it
  refine for_it wk (fun i σ' H' => ∃ M' Γ', Nxt κ A M Γ σ H M' Γ' σ' H' ∧ Fin κ W A M' Γ' σ' H' (sForL g b (ys.drop i) Γ') D) ⟨M, Γ, Nxt.refl ok, by rw [List.drop_zero]; exact q⟩ (fun i σ' H' hi ⟨M', Γ', n, _⟩ => (hg M' H' n.sam).1) (fun i x σ' H' H2 hi ⟨M', Γ', n, f⟩ y => ?_) (fun σ' H' ⟨M', Γ', n, f⟩ => ?_)
  · obtain ⟨sm, p, hp, rp⟩ := (hg M' H' n.sam).2 n.sok.eok.alive i x H2 hi y
    have ed : ys.drop i = p :: ys.drop (i + 1) := by
      rw [List.drop_eq_getElem_cons hi]
      congr 1
      exact (List.getElem?_eq_some_iff.mp hp).2
    rw [ed] at f
    have n2 := n.trans (n.sok.stp (Stp.of n.sok.eok sm))
    have f2 := Fin.from (n.sok.stp (Stp.of n.sok.eok sm)) f
    refine ⟨A.M0, M', Γ', p, n2.sok.eok, rp, ?_⟩
    unfold sForL at f2
    cases hq : g p Γ' with
    | nx Γ1 =>
      simp only [hq] at f2
      intro σ3 ok3 o3
      have n3 := n2.sok.off ok3 o3
      have f3 := Fin.from n3 f2
      refine ⟨A, M', Γ1, n3.sok, ?_⟩
      cases hb : b Γ1 with
      | nx Γ2 =>
        simp only [hb] at f3
        exact fun M4 σ4 H4 n4 => ⟨M4, Γ2, n2.trans (n3.trans n4), Fin.from n4 f3⟩
      | ct Γ2 =>
        simp only [hb] at f3
        exact fun M4 σ4 H4 n4 => ⟨M4, Γ2, n2.trans (n3.trans n4), Fin.from n4 f3⟩
      | bk Γ2 =>
        simp only [hb] at f3
        exact f3
      | rt v Γ2 =>
        simp only [hb] at f3
        exact f3
      | ex c v Γ2 =>
        simp only [hb] at f3
        exact f3
      | no =>
        simp only [hb] at f3
        exact f3
    | _ => simp only [hq] at f2; exact f2.elim
  · rw [List.drop_length] at f
    exact f M' σ' H' (Nxt.refl n.sok)
end
/-! while -/
def sWhN (c : SE) (b : SS) : Nat → SS
  | 0, _ => .no
  | n + 1, Γ => (c Γ).fl fun v Γ1 => match v with
    | .bl true => match b Γ1 with
      | .nx Γ2 => sWhN c b n Γ2
      | .ct Γ2 => sWhN c b n Γ2
      | .bk Γ2 => .nx Γ2
      | .rt v Γ2 => .rt v Γ2
      | .ex c v Γ2 => .ex c v Γ2
      | .no => .no
    | .bl false => .nx Γ1
    | _ => .no
open Classical in
noncomputable def sWhile (c : SE) (b : SS) : SS := fun Γ => if h : ∃ n, sWhN c b n Γ ≠ .no then sWhN c b h.choose Γ else .no
section
variable {X : Cx} {cA : CA} {W : WX} {x y z : Str} {pos pos' cpos p p1 p2 p3 pt tpos : Pos} {tg iter a b c e e2 : Expr} {fa fb fc : SE} {es elts : List Expr} {fs gs : SA} {kk : Nat} {body : List Stmt} {fi : SIt} {gf : SG} {ks : List Nat} {f : SS}
theorem s_for (hp : PassesOwn (model X.prog X.w) X.A X.env X.xe) (hc : X.calm = true) (hi : PI X tg iter (tPI (kx X cA) W fi)) (hg : PG X tg (tPG (kx X cA) ks gf)) (hb : PSs X body (tS (kx X cA) W f)) (hf : ∀ v, foldedSetIterable iter X.env v = pure v := by intro _; rfl) : PS X (.For tg iter body [] pos) (tS (kx X cA) W (sFor fi gf f)) :=
  ps_mono' (ps_for hp hc hi hg hb hf) fun D σ H ⟨A, M, Γ, ok, q⟩ => ⟨A.M0, M, Γ, ok.eok, by
    have z := Fin.outI ok q
    cases hi : fi Γ with
    | no => rw [hi] at z; exact z
    | ex c v Γ1 => rw [hi] at z; exact z
    | ok ys Γ1 =>
      rw [hi] at z
      intro M' H' J s it
      obtain ⟨v, M1, Γ2, n, it', e, f⟩ := z M' H' J s it
      exact for_out n.sok it' f⟩
end
end QX

set_option Elab.async false
set_option linter.all false
set_option maxRecDepth 100000
set_option maxHeartbeats 4000000
namespace QX
open PySem PySem.Spec PySem.W PySem.Calls PyProof.Rows L2 MX
/-! ### comprehensions -/
def W0 : WX := fun _ _ _ _ => False
/-- the slots of a comprehension are empty -/
def wipeE : List Nat → En → En
  | [], Γ => Γ
  | k :: ks, Γ => (wipeE ks Γ).set k .un
def rest : List Nat → En → En → En
  | [], _, Γ => Γ
  | k :: ks, Γ0, Γ => match Γ0[k]? with
    | some s => (rest ks Γ0 Γ).set k s
    | none => rest ks Γ0 Γ
def okW : List Nat → En → Bool
  | [], _ => true
  | k :: ks, Γ => (match Γ[k]? with
    | some .un => true
    | some (.va _) => true
    | _ => false) && okW ks Γ
def lcL (vs : List Nat) (g : SG) (t : SE) (e : SE) : List PV → En → Rs (List PV)
  | [], Γ => .ok [] Γ
  | y :: ys, Γ => match g y (wipeE vs Γ) with
    | .nx Γ1 => match t Γ1 with
      | .ok (.bl true) Γ2 => match e Γ2 with
        | .ok w Γ3 => match lcL vs g t e ys (wipeE vs Γ3) with
          | .ok ws Γ4 => .ok (w :: ws) Γ4
          | _ => .no
        | _ => .no
      | .ok (.bl false) Γ2 => lcL vs g t e ys (wipeE vs Γ2)
      | _ => .no
    | _ => .no
def sLc (vs : List Nat) (it : SIt) (g : SG) (t : SE) (e : SE) : SE := fun Γ => (it Γ).bind fun ys Γ1 => if okW vs Γ1 = true then (match lcL vs g t e ys (wipeE vs Γ1) with
    | .ok ws Γ2 => if ws.length ≤ 1000000 then .ok (.lst ws) (rest vs Γ1 Γ2) else .no
    | _ => .no) else .no
theorem wipeE_len : ∀ {vs : List Nat} {Γ : En}, (wipeE vs Γ).length = Γ.length
  | [], _ => rfl
  | k :: ks, Γ => by
    show ((wipeE ks Γ).set k .un).length = _
    rw [List.length_set, wipeE_len]
theorem wipeE_out {k : Nat} : ∀ {vs : List Nat} {Γ : En}, k ∉ vs → (wipeE vs Γ)[k]? = Γ[k]?
  | [], _, _ => rfl
  | j :: ks, Γ, h => by
    show ((wipeE ks Γ).set j .un)[k]? = _
    rw [List.getElem?_set_ne (fun c => h (by rw [← c]; exact List.mem_cons_self)), wipeE_out (fun z => h (List.mem_cons_of_mem _ z))]
theorem wipeE_in {k : Nat} : ∀ {vs : List Nat} {Γ : En}, k ∈ vs → k < Γ.length → (wipeE vs Γ)[k]? = some .un
  | j :: ks, Γ, h, l => by
    show ((wipeE ks Γ).set j .un)[k]? = _
    by_cases c : j = k
    · rw [c, List.getElem?_set_self (by rw [wipeE_len]; exact l)]
    · rw [List.getElem?_set_ne c]
      exact wipeE_in ((List.mem_cons.mp h).resolve_left (fun z => c z.symm)) l
theorem okW_at : ∀ {vs : List Nat} {Γ : En}, okW vs Γ = true → ∀ k ∈ vs, Γ[k]? = some .un ∨ ∃ v, Γ[k]? = some (.va v)
  | k :: ks, Γ, h, j, hj => by
    have h : ((match Γ[k]? with
    | some .un => true
    | some (.va _) => true
    | _ => false) && okW ks Γ) = true := h
    obtain ⟨h1, h2⟩ := Bool.and_eq_true_iff.mp h
    rcases List.mem_cons.mp hj with c | c
    · subst c
      split at h1
      · rename_i e; exact .inl e
      · rename_i v e; exact .inr ⟨v, e⟩
      · cases h1
    · exact okW_at h2 j c
theorem rest_len : ∀ {vs : List Nat} {Γ0 Γ : En}, (rest vs Γ0 Γ).length = Γ.length
  | [], _, _ => rfl
  | k :: ks, Γ0, Γ => by
    unfold rest
    split
    · rw [List.length_set, rest_len]
    · exact rest_len
theorem rest_out {k : Nat} : ∀ {vs : List Nat} {Γ0 Γ : En}, k ∉ vs → (rest vs Γ0 Γ)[k]? = Γ[k]?
  | [], _, _, _ => rfl
  | j :: ks, Γ0, Γ, h => by
    unfold rest
    have c : j ≠ k := fun c => h (by rw [← c]; exact List.mem_cons_self)
    split
    · rw [List.getElem?_set_ne c, rest_out (fun z => h (List.mem_cons_of_mem _ z))]
    · exact rest_out (fun z => h (List.mem_cons_of_mem _ z))
theorem rest_in {k : Nat} : ∀ {vs : List Nat} {Γ0 Γ : En}, k ∈ vs → k < Γ.length → Γ0.length = Γ.length → (rest vs Γ0 Γ)[k]? = Γ0[k]?
  | j :: ks, Γ0, Γ, h, l, e => by
    unfold rest
    split
    · rename_i s hs
      by_cases c : j = k
      · subst c
        rw [List.getElem?_set_self (by rw [rest_len]; exact l), hs]
      · rw [List.getElem?_set_ne c]
        exact rest_in ((List.mem_cons.mp h).resolve_left (fun z => c z.symm)) l e
    · rename_i hn
      by_cases c : j = k
      · subst c
        rw [List.getElem?_eq_getElem (by omega)] at hn
        cases hn
      · exact rest_in ((List.mem_cons.mp h).resolve_left (fun z => c z.symm)) l e
section
variable {κ : Kx} {M0 M M1 M2 : List Addr} {Γ Γ1 Γ2 : En} {σ : L2.St} {H H1 H2 : Hp} {vs : List Nat}
theorem EOK.wipe (h : EOK κ M0 M Γ σ H) (σ' : L2.St) (e : wipe σ' vs = wipe σ vs) (l : σ'.length = σ.length) : EOK κ M0 M (wipeE vs Γ) (wipe σ vs) H := by
  have out : ∀ {k : Nat} {s : SV}, (wipeE vs Γ)[k]? = some s → s ≠ .un → Γ[k]? = some s ∧ (L2.wipe σ vs)[k]? = σ[k]? := fun {k s} e ns => by
    by_cases c : k ∈ vs
    · by_cases l : k < Γ.length
      · rw [wipeE_in c l] at e
        exact absurd (Option.some.inj e).symm ns
      · rw [List.getElem?_eq_none (by rw [wipeE_len]; omega)] at e
        cases e
    · rw [wipeE_out c] at e
      exact ⟨e, wipe_out c⟩
  refine ⟨by rw [wipe_length, wipeE_len]; exact h.len, fun k v e => ?_, fun k io v e => ?_, fun j k a io jo v w ej ek sj sk => ?_, h.sub, h.alive, h.tab⟩
  · obtain ⟨e1, e2⟩ := out e (fun z => by cases z)
    rw [e2]
    exact h.va k v e1
  · obtain ⟨e1, e2⟩ := out e (fun z => by cases z)
    rw [e2]
    exact h.ow k io v e1
  · obtain ⟨e1, e2⟩ := out ej (fun z => by cases z)
    obtain ⟨e3, e4⟩ := out ek (fun z => by cases z)
    rw [e2] at sj
    rw [e4] at sk
    exact h.inj j k a io jo v w e1 e3 sj sk
theorem wipeE_own {b : Addr} (o : Own (wipeE vs Γ) (wipe σ vs) b) : Own Γ σ b := by
  obtain ⟨k, io, v, e1, e2⟩ := o
  by_cases c : k ∈ vs
  · by_cases l : k < Γ.length
    · rw [wipeE_in c l] at e1
      cases e1
    · rw [List.getElem?_eq_none (by rw [wipeE_len]; omega)] at e1
      cases e1
  · rw [wipeE_out c] at e1
    rw [wipe_out c] at e2
    exact ⟨k, io, v, e1, e2⟩
theorem wipeE_ows : OwS (wipeE vs Γ) Γ := fun k io v e => by
  by_cases c : k ∈ vs
  · by_cases l : k < Γ.length
    · rw [wipeE_in c l] at e
      cases e
    · rw [List.getElem?_eq_none (by rw [wipeE_len]; omega)] at e
      cases e
  · rw [wipeE_out c] at e
    exact ⟨v, e⟩
/-- behind a comprehension -/
theorem Stp.rest (ok : EOK κ M0 M Γ σ H) (hw : okW vs Γ = true) (s : Stp κ M0 M (wipeE vs Γ) (wipe σ vs) H M1 Γ1 H1) : Stp κ M0 M Γ σ H M1 (rest vs Γ Γ1) H1 := by
  have lw := s.eok.len
  rw [wipe_length, ok.len] at lw
  have sm : LamX.ExtN (msk M H) (msk M1 H1) := s.same (ok.wipe σ rfl rfl)
  have nin : ∀ {k : Nat} {io : Bool} {v : PV}, (QX.rest vs Γ Γ1)[k]? = some (.ow io v) → k ∉ vs ∧ Γ1[k]? = some (.ow io v) := fun {k io v} e => by
    by_cases c : k ∈ vs
    · by_cases l : k < Γ1.length
      · rw [rest_in c l lw] at e
        rcases okW_at hw k c with z | ⟨_, z⟩ <;> (rw [z] at e; cases e)
      · rw [List.getElem?_eq_none (by rw [rest_len]; omega)] at e
        cases e
    · rw [rest_out c] at e
      exact ⟨c, e⟩
  refine ⟨⟨by rw [rest_len, ok.len]; exact lw, fun k v e => ?_, fun k io v e => ?_, fun j k a io jo v w ej ek sj sk => ?_, s.eok.sub, s.eok.alive, s.eok.tab⟩, s.sub, fun b o e n nt => s.chg b o e (fun z => n (wipeE_own z)) nt, fun k io v e => ?_, s.liv⟩
  · by_cases c : k ∈ vs
    · by_cases l : k < Γ1.length
      · rw [rest_in c l lw] at e
        obtain ⟨u, e1, r⟩ := ok.va k v e
        exact ⟨u, e1, Rp.st sm r⟩
      · rw [List.getElem?_eq_none (by rw [rest_len]; omega)] at e
        cases e
    · rw [rest_out c] at e
      obtain ⟨u, e1, r⟩ := s.eok.va k v e
      rw [wipe_out c] at e1
      exact ⟨u, e1, r⟩
  · obtain ⟨c, e⟩ := nin e
    obtain ⟨a, e1, r⟩ := s.eok.ow k io v e
    rw [wipe_out c] at e1
    exact ⟨a, e1, r⟩
  · obtain ⟨cj, ej⟩ := nin ej
    obtain ⟨ck, ek⟩ := nin ek
    exact s.eok.inj j k a io jo v w ej ek (by rw [wipe_out cj]; exact sj) (by rw [wipe_out ck]; exact sk)
  · obtain ⟨c, e⟩ := nin e
    obtain ⟨w, e⟩ := s.ows k io v e
    rw [wipeE_out c] at e
    exact ⟨w, e⟩
/-- the thing beside becomes another -/
theorem Stp.swap {t : Addr} {o o' : HO} (s : Stp κ (t :: M0) (t :: M) Γ σ (L2.upd H t o) M1 Γ1 H1) (ok : EOK κ M0 M Γ σ H) (ht : H t = none) (hm' : Mut o' := by first | exact .inl ⟨_, rfl⟩ | exact .inr (.inr ⟨_, rfl⟩) | exact .inr (.inl ⟨_, rfl⟩)) : Stp κ (t :: M0) (t :: M) Γ σ (L2.upd H t o') M1 Γ1 (L2.upd H1 t o') ∧ msk M1 (L2.upd H1 t o') = msk M1 H1 := by
  have hm : t ∈ M1 := s.eok.sub t List.mem_cons_self
  have mq : msk M1 (L2.upd H1 t o') = msk M1 H1 := funext fun b => by
    unfold msk
    by_cases c : b ∈ M1
    · rw [if_pos c, if_pos c]
    · rw [if_neg c, if_neg c, upd_ne (fun z => c (by rw [z]; exact hm))]
  have ne : ∀ {b : Addr}, b ∈ M → b ≠ t := fun {b} hb z => ok.alive.free ht (by rw [← z]; exact hb)
  refine ⟨⟨⟨s.eok.len, fun k v e => by rw [mq]; exact s.eok.va k v e, fun k io v e => ?_, s.eok.inj, s.eok.sub, fun b hb => (by
    obtain ⟨o2, e2, m2⟩ := s.eok.alive b hb
    by_cases c : b = t
    · rw [c, upd_same]; exact ⟨_, rfl, hm'⟩
    · exact ⟨o2, by rw [upd_ne c]; exact e2, m2⟩), tabs_upd s.eok.tab (.inr (s.eok.alive t hm))⟩, s.sub, fun b u e n nt => ?_, s.ows, fun b hb => ?_⟩, mq⟩
  · obtain ⟨a, e1, m, n, r⟩ := s.eok.ow k io v e
    exact ⟨a, e1, m, n, r.st (upd_ne (fun z => n (by rw [z]; exact List.mem_cons_self))) (by rw [mq]; exact LamX.ExtN.refl _)⟩
  · by_cases c : b = t
    · rw [c, upd_same] at e ⊢
      exact e
    · rw [upd_ne c] at e ⊢
      exact s.chg b u (by rw [upd_ne c]; exact e) n nt
  · by_cases c : b = t
    · rw [c, upd_same]; exact fun z => by cases z
    · rw [upd_ne c] at hb
      exact upd_some (s.liv b (by rw [upd_ne c]; exact hb))
theorem Stp.turn {ks : List Nat} {σ2 : L2.St} {Γw : En} {Γ3 : En} {Ha Hb Hc : Hp} {M3 : List Addr} (s : Stp κ M0 M Γw (wipe σ vs) Ha M1 Γ Hb) (o : Off ks Γ (wipe σ vs) Γ1 σ2) (e : wipe σ2 vs = wipe σ vs) (s2 : Stp κ M0 M1 Γ1 σ2 Hb M3 Γ3 Hc) : Stp κ M0 M Γw (wipe σ vs) Ha M3 (wipeE vs Γ3) Hc := by
  refine ⟨?_, fun b hb => s.sub b (s2.sub b hb), fun b u eb n nt => s2.chg b u (s.chg b u eb n nt) (fun z => n (s.ows.own (o.own z))) nt, fun k io v ek => ?_, fun b hb => s2.liv b (s.liv b hb)⟩
  · have z := s2.eok.wipe (vs := vs) σ2 rfl rfl
    rw [e] at z
    exact z
  · obtain ⟨v1, e1⟩ := wipeE_ows k io v ek
    obtain ⟨v2, e2⟩ := s2.ows k io v1 e1
    by_cases c : k ∈ ks
    · exact absurd e2 (o.inn k c io v2)
    · rw [(o.out k c).1] at e2
      exact s.ows k io v2 e2
theorem wipeE_idem : wipeE vs (wipeE vs Γ) = wipeE vs Γ := List.ext_getElem? fun k => by
  by_cases c : k ∈ vs
  · by_cases l : k < Γ.length
    · rw [wipeE_in c (by rw [wipeE_len]; exact l), wipeE_in c l]
    · rw [List.getElem?_eq_none (by rw [wipeE_len, wipeE_len]; omega), List.getElem?_eq_none (by rw [wipeE_len]; omega)]
  · rw [wipeE_out c]
theorem lc_out {ks : List Nat} {g : SG} {ft fe : SE} {J : It} {ys ws : List PV} {Γe : En} {Q : VK} (ok : EOK κ M0 M Γ σ H) (it : ItOk κ M H J ys) (hk : ∀ k ∈ ks, k ∈ vs) (hw : okW vs Γ = true) (hl : lcL vs g ft fe ys (wipeE vs Γ) = .ok ws Γe) (hn : ws.length ≤ 1000000)
    (q : ∀ M' H' u, Stp κ M0 M Γ σ H M' (rest vs Γ Γe) H' → Rp κ (.lst ws) u (msk M' H') → Q u H') (D : Addr) (hD : H D = none) :
    ∃ Wv : Nat → Nat → Hp → Prop, (∃ m, Wv 0 m (L2.upd H D (.lst []))) ∧ ∀ (i m : Nat) (H : Hp), Wv i m H → J.stop i H ∧ Q (V.ref D) H ∨ J.go i H ∧ ∃ Nx : Hp → Prop, (∀ (H' : Hp), Nx H' → ∃ m', m' < m ∧ Wv (i + 1) m' H') ∧
      ∀ (x : V) (H' : Hp), J.yld i H x H' → tPG κ ks g x (wipe σ vs) H' fun σ2 H2 => wipe σ2 vs = wipe σ vs ∧ tPT κ W0 ft σ2 H2 fun b H3 => if b = true then tP κ W0 fe σ2 H3 fun y H4 => ∃ acc, H4 D = some (HO.lst acc) ∧ acc.length < sizeLine ∧ Nx (L2.upd H4 D (HO.lst (acc ++ [y]))) else Nx H3 := by
  obtain ⟨G, Y, wk, hg⟩ := it
  have okw : EOK κ M0 M (wipeE vs Γ) (wipe σ vs) H := ok.wipe σ rfl rfl
  have sm0 : ∀ {us : List V} {M' : List Addr} {Γ' : En} {H' : Hp}, Stp κ (D :: M0) (D :: M) (wipeE vs Γ) (wipe σ vs) (L2.upd H D (.lst us)) M' Γ' H' → LamX.ExtN (msk M H) (msk M' H') := fun {us M' Γ' H'} s => by
    have z := s.same (okw.push hD)
    rw [msk_push hD] at z
    exact z
  refine lc_it wk (fun i H' => ∃ us M' Γ' acc ws2, Stp κ (D :: M0) (D :: M) (wipeE vs Γ) (wipe σ vs) (L2.upd H D (.lst us)) M' Γ' H' ∧ wipeE vs Γ' = Γ' ∧ RpA κ acc us (msk M' H') ∧ lcL vs g ft fe (ys.drop i) Γ' = .ok ws2 Γe ∧ acc ++ ws2 = ws)
    ⟨[], _, _, [], ws, Stp.refl (okw.push hD), wipeE_idem, rpA_nil, by rw [List.drop_zero]; exact hl, rfl⟩ (fun i H' hi ⟨us, M', Γ', acc, ws2, s, _⟩ => (hg M' H' (sm0 s)).1) (fun i x Ha Hb hi ⟨us, M', Γ', acc, ws2, s, ew, ra, el, ea⟩ y => ?_) (fun H' ⟨us, M', Γ', acc, ws2, s, ew, ra, el, ea⟩ => ?_)
  · obtain ⟨sm, p, hp, rp⟩ := (hg M' Ha (sm0 s)).2 s.eok.alive i x Hb hi y
    have ed : ys.drop i = p :: ys.drop (i + 1) := by
      rw [List.drop_eq_getElem_cons hi]
      congr 1
      exact (List.getElem?_eq_some_iff.mp hp).2
    rw [ed] at el
    unfold lcL at el
    rw [ew] at el
    have s1 := s.trans (Stp.of s.eok sm)
    refine ⟨D :: M0, M', Γ', p, s1.eok, rp, ?_⟩
    cases hq : g p Γ' with
    | nx Γ1 =>
      simp only [hq] at el
      intro σ2 ok2 o2
      have we : wipe σ2 vs = wipe σ vs := wipe_eq (by rw [o2.ls, wipe_length]) fun m hm => by rw [(o2.out m (fun z => hm (hk m z))).2, wipe_out hm]
      refine ⟨we, D :: M0, M', Γ1, ok2, ?_⟩
      cases ht : ft Γ1 with
      | no => simp only [ht] at el; cases el
      | ex c v Γ2 => simp only [ht] at el; cases el
      | ok bv Γ2 =>
        simp only [ht] at el
        cases bv with
        | bl b =>
          intro M2 H3 u s2 rb
          refine ⟨b, rp_bl.mp rb, ?_⟩
          cases b with
          | false =>
            refine iteF ⟨us, M2, wipeE vs Γ2, acc, ws2, s1.turn o2 we s2, wipeE_idem, ?_, el, ea⟩
            exact s2.keepA ok2 (RpA.st (LamX.ExtN.of (msk_same sm)) ra)
          | true =>
            refine iteT ⟨D :: M0, M2, Γ2, s2.eok, ?_⟩
            simp only at el
            cases he : fe Γ2 with
            | no => simp only [he] at el; cases el
            | ex c v Γ3 => simp only [he] at el; cases el
            | ok w Γ3 =>
              simp only [he] at el
              cases hr : lcL vs g ft fe (ys.drop (i + 1)) (wipeE vs Γ3) with
              | no => simp only [hr] at el; cases el
              | ex c v Γ4 => simp only [hr] at el; cases el
              | ok ws3 Γ4 =>
                simp only [hr] at el
                cases el
                intro M3 H4 u3 s3 rw3
                have st := s1.turn o2 we (s2.trans s3)
                have hd : H4 D = some (.lst us) := st.at okw hD
                refine ⟨us, hd, ?_, ?_⟩
                · have l1 : us.length = acc.length := ra.len
                  have l2 : acc.length + (ws3.length + 1) = ws.length := by rw [← ea]; simp
                  rw [sizeLine_eq]
                  omega
                · obtain ⟨st2, mq⟩ := st.swap (o' := .lst (us ++ [u3])) okw hD
                  refine ⟨us ++ [u3], M3, wipeE vs Γ3, acc ++ [w], ws3, st2, wipeE_idem, ?_, hr, by rw [← ea, List.append_assoc]; rfl⟩
                  rw [mq]
                  exact rp_snoc (s3.keepA s2.eok (s2.keepA ok2 (RpA.st (LamX.ExtN.of (msk_same sm)) ra))) rw3
        | _ => simp only at el; cases el
    | _ => simp only [hq] at el; cases el
  · rw [List.drop_length] at el
    cases el
    rw [List.append_nil] at ea
    subst ea
    obtain ⟨z1, z2⟩ := s.pop0 okw hD
    have hd : H' D = some (.lst us) := s.at okw hD
    refine q (wo D M') H' (.ref D) (Stp.rest ok hw z1) ?_
    exact rp_lst.mpr ⟨D, us, rfl, by rw [msk_in (fun z => (mem_wo.mp z).2 rfl)]; exact hd, RpA.st (LamX.ExtN.of z2) ra⟩
end
section
variable {X : Cx} {cA : CA} {W : WX} {x y z : Str} {pos pos' cpos p p1 p2 p3 pt tpos : Pos} {tg iter elt a b c e e2 : Expr} {fa fb fc ft fe : SE} {ifs : List Expr} {fi : SIt} {gf : SG} {ks : List Nat} {scope : Scope} {own : List (Str × Nat)}
theorem lc_tLc (hk : ∀ k ∈ ks, k ∈ own.map (·.2)) {σ : L2.St} {H : Hp} {Q : VK} (h : tP (kx X cA) W (sLc (own.map (·.2)) fi gf ft fe) σ H Q) : tLc (tPI (kx X cA) W fi) (tPG (kx X cA) ks gf) (tPT (kx X cA) W0 ft) (tP (kx X cA) W0 fe) (own.map (·.2)) σ H Q := by
  obtain ⟨M0, M, Γ, ok, q⟩ := h
  refine ⟨M0, M, Γ, ok, ?_⟩
  unfold sLc at q
  cases hi : fi Γ with
  | no => rw [hi] at q; exact q
  | ex c v Γ1 => rw [hi] at q; exact q
  | ok ys Γ1 =>
    rw [hi] at q
    have q : Out (kx X cA) W M0 M Γ σ H (if okW (own.map (·.2)) Γ1 = true then (match lcL (own.map (·.2)) gf ft fe ys (wipeE (own.map (·.2)) Γ1) with
    | .ok ws Γ2 => if ws.length ≤ 1000000 then .ok (.lst ws) (rest (own.map (·.2)) Γ1 Γ2) else .no
    | _ => .no) else .no) Q := q
    intro M1 H1 J s it
    by_cases hw : okW (own.map (·.2)) Γ1 = true
    · rw [if_pos hw] at q
      cases hl : lcL (own.map (·.2)) gf ft fe ys (wipeE (own.map (·.2)) Γ1) with
      | no => rw [hl] at q; exact q.elim
      | ex c v Γ2 => rw [hl] at q; exact q.elim
      | ok ws Γ2 =>
        rw [hl] at q
        have q : Out (kx X cA) W M0 M Γ σ H (if ws.length ≤ 1000000 then .ok (.lst ws) (rest (own.map (·.2)) Γ1 Γ2) else .no) Q := q
        by_cases hn : ws.length ≤ 1000000
        · rw [if_pos hn] at q
          exact fun D hD => lc_out s.eok it hk hw hl hn (fun M' H' u s' r => q M' H' u (s.trans s') r) D hD
        · rw [if_neg hn] at q
          exact q.elim
    · rw [if_neg hw] at q
      exact q.elim
theorem p_lc (hc : X.calm = true) (hN : X.N.Nodup) (hk : ∀ k ∈ ks, k ∈ own.map (·.2)) (hi : PI X tg iter (tPI (kx X cA) W fi)) (ok : BlkOk X.N X.env.scope scope own)
    (hg : ∀ s H C cl fp, PG (X.blk s H scope (compEnvC scope cl C X.env) fp) tg (tPG (kx X cA) ks gf)) (ht : ∀ s H C cl fp, PTs (X.blk s H scope (compEnvC scope cl C X.env) fp) ifs (tPT (kx X cA) W0 ft))
    (he : ∀ s H C cl fp, PE (X.blk s H scope (compEnvC scope cl C X.env) fp) elt (tP (kx X cA) W0 fe)) (hf : ∀ v, foldedSetIterable iter X.env v = pure v := by intro _; rfl) : PE X (.ListComp elt [⟨tg, iter, ifs, 0⟩] scope pos) (tP (kx X cA) W (sLc (own.map (·.2)) fi gf ft fe)) :=
  pe_mono (pe_lc hc hN hi ok hg ht he hf) fun σ H Q h => lc_tLc hk h
theorem ts_none {X : Cx} : PTs X [] (tPT (kx X cA) W0 (sC (.bl true))) := ⟨fun pins s σ H Q I ⟨M0, M, Γ, ok, q⟩ => pts_nil.run pins s σ H Q I (by
  obtain ⟨b, e, h⟩ := q M H (.bl true) (Stp.refl ok) (rp_bl.mpr rfl)
  cases e
  exact h)⟩
theorem hx0 {s : Shared} {H : Hp} {cenv : PySem.Env} {fp : List Addr} : ∀ σ, PassesAt (L2.CX X.prog X.w) (X.blk s H scope cenv fp) σ (WE W0 σ) := fun σ pins H s e s' I ⟨_, _, _, _, _, _, _, _, _, _, _, _, z⟩ => z.elim
/-- y = [..] -/
theorem s_setLc (i : Nat) (hc : X.calm = true) (hN : X.N.Nodup) (hk : ∀ k ∈ ks, k ∈ own.map (·.2)) (hiN : X.N[i]? = some y) (hy : X.env.scope.names.lookup y = some .local) (hs : swapsWith (elt.ListComp [⟨tg, iter, ifs, 0⟩] scope pos) (some (.Name y p)) pos'.line X.env = pure true) (hi : PI X tg iter (tPI (kx X cA) W fi)) (ok : BlkOk X.N X.env.scope scope own)
    (hg : ∀ s H C cl fp, PG (X.blk s H scope (compEnvC scope cl C X.env) fp) tg (tPG (kx X cA) ks gf)) (ht : ∀ s H C cl fp, PTs (X.blk s H scope (compEnvC scope cl C X.env) fp) ifs (tPT (kx X cA) W0 ft))
    (he : ∀ s H C cl fp, PE (X.blk s H scope (compEnvC scope cl C X.env) fp) elt (tP (kx X cA) W0 fe)) (hf : ∀ v, foldedSetIterable iter X.env v = pure v := by intro _; rfl) : PS X (.Assign [.Name y p] (.ListComp elt [⟨tg, iter, ifs, 0⟩] scope pos) pos') (tS (kx X cA) W (sSet i (sLc (own.map (·.2)) fi gf ft fe))) :=
  ps_mono' (ps_setLc hc hN hiN hy hs hi ok hg ht he hf) fun D σ H ⟨A, M, Γ, ok, q⟩ => lc_tLc hk ⟨A.M0, M, Γ, ok.eok, (Fin.out ok q).mono fun u H1 ⟨v, M1, Γ1, s, r, _, q1⟩ => Fin.putV s.sok q1 r⟩
end
end QX

set_option Elab.async false
set_option linter.all false
set_option maxRecDepth 100000
set_option maxHeartbeats 4000000
namespace QX
open PySem PySem.Spec PySem.W PySem.Calls PyProof.Rows L2 MX
/-! ### defs -/
abbrev Wc (E : XK) : WX := fun cls d _ H => E cls d H
def begV (n : Nat) (as : List PV) : En := as.map .va ++ List.replicate n .un
def begW (n : Nat) (pv : PV) (as : List PV) : En := .ow true pv :: (as.map .va ++ List.replicate n .un)
def runV (F : SS) (np n : Nat) (as : List PV) : Ro := if as.length = np then (match F (begV n as) with
  | .nx _ => .ok .non
  | .rt v _ => .ok v
  | .ex c v _ => .ex c v
  | _ => .no) else .no
def at0 : En → Option PV
  | .ow true p :: _ => some p
  | _ => none
def runW (F : SS) (np n : Nat) (pv : PV) (as : List PV) : Rw := if as.length + 1 = np then (match F (begW n pv as) with
  | .nx Γ => (match at0 Γ with | some p => .ok .non p | none => .no)
  | .rt v Γ => (match at0 Γ with | some p => .ok v p | none => .no)
  | .ex c v Γ => (match at0 Γ with | some p => .ex c v p | none => .no)
  | _ => .no) else .no
section
variable {κ : Kx} {N : List Str} {n np : Nat} {F : SS} {vs : List V} {H : Hp} {Q : VK} {E : XK}
theorem va_at {as : List PV} {k : Nat} {s : SV} (h : (as.map SV.va ++ List.replicate n SV.un)[k]? = some s) : s = .un ∨ ∃ v, s = .va v ∧ as[k]? = some v := by
  by_cases c : k < as.length
  · rw [List.getElem?_append_left (by rw [List.length_map]; exact c), List.getElem?_map, List.getElem?_eq_getElem c] at h
    cases h
    exact .inr ⟨_, rfl, List.getElem?_eq_getElem c⟩
  · rw [List.getElem?_append_right (by rw [List.length_map]; omega)] at h
    obtain ⟨_, e⟩ := List.mem_replicate.mp (List.mem_of_getElem? h)
    exact .inl e
theorem start_at {k : Nat} {u : V} (h : vs[k]? = some u) : (L2.start N vs)[k]? = some (some u) := by
  unfold L2.start
  rw [List.getElem?_append_left (by rw [List.length_map]; exact (List.getElem?_eq_some_iff.mp h).1), List.getElem?_map, h]
  rfl
theorem eok_begV {M : List Addr} {as : List PV} (hN : N.length = as.length + n) (al : Alive M H) (tb : LamX.Tabs κ.cA.T H) (r : RpA κ as vs (msk M H)) : EOK κ M M (begV n as) (L2.start N vs) H := by
  have l := r.len
  refine ⟨?_, fun k v e => ?_, fun k io v e => ?_, fun j k a io jo v w e _ _ _ => ?_, fun _ hb => hb, al, tb⟩
  · unfold begV L2.start
    rw [List.length_append, List.length_append, List.length_map, List.length_map, List.length_replicate, List.length_replicate]
    omega
  · rcases va_at e with z | ⟨w, z, h⟩
    · cases z
    · cases z
      obtain ⟨u, h1, h2⟩ := r.get h
      exact ⟨u, start_at h1, h2⟩
  · rcases va_at e with z | ⟨w, z, h⟩ <;> cases z
  · rcases va_at e with z | ⟨w, z, h⟩ <;> cases z
theorem spV_len (hF : ∀ as, as.length ≠ np → runV F np n as = .no) (h : spV κ (runV F np n) vs H Q E) : vs.length = np := by
  obtain ⟨M, as, al, tb, r, q⟩ := h
  by_cases c : as.length = np
  · rw [r.len]; exact c
  · rw [hF as c] at q
    exact q.elim
theorem runV_no {as : List PV} (h : as.length ≠ np) : runV F np n as = .no := by
  unfold runV
  rw [if_neg h]
theorem runW_no {pv : PV} {as : List PV} (h : as.length + 1 ≠ np) : runW F np n pv as = .no := by
  unfold runW
  rw [if_neg h]
/-- a def's body, and its wish -/
theorem spV_body (hN : N.length = np + n) (h : spV κ (runV F np n) vs H Q E) : tS κ (Wc E) F { nx := fun _ H' => Q .non H', rt := Q } (L2.start N vs) H := by
  obtain ⟨M, as, al, tb, r, q⟩ := h
  have c : as.length = np := by
    by_cases c : as.length = np
    · exact c
    · rw [runV_no c] at q
      exact q.elim
  have ok : EOK κ M M (begV n as) (L2.start N vs) H := eok_begV (by rw [hN, c]) al tb r
  have now : ∀ b, ¬ Own (begV n as) (L2.start N vs) b := fun b ⟨k, io, v, e, _⟩ => by rcases va_at e with z | ⟨w, z, h⟩ <;> cases z
  refine ⟨⟨M, fun _ => False, H⟩, M, begV n as, ⟨ok, fun b o e _ _ => e, fun b z => absurd z (now b), fun b h => h⟩, ?_⟩
  unfold runV at q
  rw [if_pos c] at q
  have sm : ∀ {M' : List Addr} {Γ' : En} {σ' : L2.St} {H' : Hp}, Nxt κ ⟨M, fun _ => False, H⟩ M (begV n as) (L2.start N vs) H M' Γ' σ' H' → Stay κ H H' ∧ Same (msk M' H') (msk M H') := fun {M' Γ' σ' H'} s => ⟨⟨fun b o e nt => s.sok.frm b o e (fun z => z) nt, fun b hb => s.sok.liv b hb, s.sok.eok.tab⟩, fun b o e => by
    obtain ⟨e1, n1⟩ := msk_of e
    rw [msk_in (fun z => n1 (s.sok.eok.sub b z))]
    exact e1⟩
  cases hF : F (begV n as) with
  | nx Γ' =>
    rw [hF] at q
    exact fun M' σ' H' s => q .non H' (sm s).1 (rp_non.mpr rfl)
  | rt v Γ' =>
    rw [hF] at q
    exact fun M' σ' H' u s rr => q u H' (sm s).1 (Rp.st (LamX.ExtN.of (sm s).2) rr)
  | ex c v Γ' =>
    rw [hF] at q
    exact fun M' σ' H' d u s e rr => q d u H' (sm s).1 e (Rp.st (LamX.ExtN.of (sm s).2) rr)
  | bk Γ' => rw [hF] at q; exact q.elim
  | ct Γ' => rw [hF] at q; exact q.elim
  | no => rw [hF] at q; exact q.elim
theorem cons_at {s0 : SV} {Γ : En} {k : Nat} {s : SV} (h : (s0 :: Γ)[k]? = some s) : (k = 0 ∧ s = s0) ∨ ∃ j, k = j + 1 ∧ Γ[j]? = some s := by
  cases k with
  | zero => exact .inl ⟨rfl, (Option.some.inj h).symm⟩
  | succ j => exact .inr ⟨j, rfl, h⟩
theorem spW_body (hN : N.length = np + n) (h : spW κ (runW F np n) vs H Q E) : tS κ (Wc E) F { nx := fun _ H' => Q .non H', rt := Q } (L2.start N vs) H := by
  obtain ⟨M, p, pv, us, as, rfl, al, tb, pM, ro, r, q⟩ := h
  have c : as.length + 1 = np := by
    by_cases c : as.length + 1 = np
    · exact c
    · rw [runW_no c] at q
      exact q.elim
  have l := r.len
  have st0 : (L2.start N (.ref p :: us))[0]? = some (some (.ref p)) := start_at rfl
  have fro : ∀ {k : Nat} {s : SV}, (begW n pv as)[k]? = some s → (k = 0 ∧ s = .ow true pv) ∨ s = .un ∨ ∃ j v, k = j + 1 ∧ s = .va v ∧ as[j]? = some v := fun {k s} e => by
    rcases cons_at e with ⟨z1, z2⟩ | ⟨j, z1, z2⟩
    · exact .inl ⟨z1, z2⟩
    · rcases va_at z2 with z | ⟨v, z, h⟩
      · exact .inr (.inl z)
      · exact .inr (.inr ⟨j, v, z1, z, h⟩)
  have fow : ∀ {k : Nat} {io : Bool} {v : PV}, (begW n pv as)[k]? = some (.ow io v) → k = 0 ∧ io = true ∧ v = pv := fun {k io v} e => by
    rcases fro e with ⟨z1, z2⟩ | z | ⟨j, w, z1, z2, _⟩
    · cases z2
      exact ⟨z1, rfl, rfl⟩
    · cases z
    · cases z2
  have ok : EOK κ M (p :: M) (begW n pv as) (L2.start N (.ref p :: us)) H := by
    refine ⟨?_, fun k v e => ?_, fun k io v e => ?_, fun j k a io jo v w e e' _ _ => ?_, fun _ hb => List.mem_cons_of_mem _ hb, al, tb⟩
    · unfold begW L2.start
      simp only [List.length_append, List.length_cons, List.length_map, List.length_replicate]
      omega
    · rcases fro e with ⟨_, z⟩ | z | ⟨j, w, z1, z2, h⟩
      · cases z
      · cases z
      · cases z2
        obtain ⟨u, h1, h2⟩ := r.get h
        exact ⟨u, by rw [z1]; exact start_at h1, h2⟩
    · obtain ⟨z1, z2, z3⟩ := fow e
      subst z1 z2 z3
      exact ⟨p, st0, List.mem_cons_self, pM, ro⟩
    · rw [(fow e).1, (fow e').1]
  have own : ∀ b, Own (begW n pv as) (L2.start N (.ref p :: us)) b → b = p := fun b ⟨k, io, v, e1, e2⟩ => by
    obtain ⟨z1, z2, z3⟩ := fow e1
    subst z1
    rw [st0] at e2
    cases e2
    rfl
  refine ⟨⟨M, fun b => b = p, H⟩, p :: M, begW n pv as, ⟨ok, fun b o e _ _ => e, fun b z => .inl (own b z), fun b h => h⟩, ?_⟩
  unfold runW at q
  rw [if_pos c] at q
  have fin : ∀ {M' : List Addr} {Γ' : En} {σ' : L2.St} {H' : Hp} {p' : PV}, Nxt κ ⟨M, fun b => b = p, H⟩ (p :: M) (begW n pv as) (L2.start N (.ref p :: us)) H M' Γ' σ' H' → at0 Γ' = some p' → StayP κ p H H' ∧ Same (msk M' H') (msk (p :: M) H') ∧ OwR κ p' p H' (msk (p :: M) H') := fun {M' Γ' σ' H' p'} s e => by
    have e0 : Γ'[0]? = some (.ow true p') := by
      unfold at0 at e
      split at e
      · cases e; rfl
      · cases e
    have e2 := (s.pin 0 p' e0).2
    rw [st0] at e2
    obtain ⟨a, ha, hm, hn, ro'⟩ := s.sok.eok.ow 0 true p' e0
    rw [e2] at ha
    cases ha
    have sm : Same (msk M' H') (msk (p :: M) H') := fun b o e => by
      obtain ⟨e1, n1⟩ := msk_of e
      rw [msk_in (fun z => n1 ?_)]
      · exact e1
      · rcases List.mem_cons.mp z with z | z
        · rw [z]; exact hm
        · exact s.sok.eok.sub b z
    exact ⟨⟨fun b o c e nt => s.sok.frm b o e c nt, fun b hb => s.sok.liv b hb, s.sok.eok.tab⟩, sm, ro'.st rfl (LamX.ExtN.of sm)⟩
  cases hF : F (begW n pv as) with
  | nx Γ' =>
    rw [hF] at q
    cases h0 : at0 Γ' with
    | none => simp only [h0] at q
    | some p' =>
      simp only [h0] at q
      exact fun M' σ' H' s => q .non H' (fin s h0).1 (fin s h0).2.2 (rp_non.mpr rfl)
  | rt v Γ' =>
    rw [hF] at q
    cases h0 : at0 Γ' with
    | none => simp only [h0] at q
    | some p' =>
      simp only [h0] at q
      exact fun M' σ' H' u s rr => q u H' (fin s h0).1 (fin s h0).2.2 (Rp.st (LamX.ExtN.of (fin s h0).2.1) rr)
  | ex c v Γ' =>
    rw [hF] at q
    cases h0 : at0 Γ' with
    | none => simp only [h0] at q
    | some p' =>
      simp only [h0] at q
      exact fun M' σ' H' d u s e rr => q d u H' (fin s h0).1 (fin s h0).2.2 e (Rp.st (LamX.ExtN.of (fin s h0).2.1) rr)
  | bk Γ' => rw [hF] at q; exact q.elim
  | ct Γ' => rw [hF] at q; exact q.elim
  | no => rw [hF] at q; exact q.elim
theorem spW_len (h : spW κ (runW F np n) vs H Q E) : vs.length = np := by
  obtain ⟨M, p, pv, us, as, rfl, al, tb, pM, ro, r, q⟩ := h
  by_cases c : as.length + 1 = np
  · rw [List.length_cons, r.len]; exact c
  · rw [runW_no c] at q
    exact q.elim
end
section
variable {P : Program} {w : World} {K : PySem.W.Frag} {mg : Str → Option Value} {base : Heap} {cA : CA} {f : Addr} {fd : FuncData} {x qual : Str} {params : Arguments} {body : List Stmt} {scope : Scope} {N ps : List Str} {n np k : Nat} {F : SS}
/-- a def's body is told -/
structure Bdy (P : Program) (w : World) (K : PySem.W.Frag) (mg : Str → Option Value) (base : Heap) (cA : CA) (N : List Str) (qual : Str) (scope : Scope) (f : Addr) (body : List Stmt) (R : Around → Prop) (F : SS) : Prop where
  go : ∀ (cdv : Value) (A : Around) (out : List PySem.Env) (s : Shared) (H : Hp) (E : XK), R (A.deeper (envOfC qual scope s.heap.objs.size f cdv)) → PSs (cxOf (L2.CX P w) P w K mg base N qual scope f cdv A out s H E) body (tS ⟨K, cA⟩ (Wc E) F)
theorem fnGW (FD : FunD K x qual params body scope [] [] f fd) (S : FnScope N ps scope) (hb : Bdy P w K mg base cA N qual scope f body (RoomG k) F) (hN : N.length = ps.length + n) : FnG P w K mg base (L2.CX P w) (k + 1) f fd ps (spW ⟨K, cA⟩ (runW F ps.length n)) :=
  okG FD S (fun vs H Q E h => spW_len h) fun cdv A out s H vs Q E hr h => ⟨_, hb.go cdv A out s H E hr, spW_body hN h⟩
theorem fnOV (FD : FunD K x qual params body scope [] [] f fd) (S : FnScope N ps scope) (hb : Bdy P w K mg base cA N qual scope f body (Room k) F) (hN : N.length = ps.length + n) : FnOk P w K mg base (L2.CX P w) (k + 1) f fd ps (spV ⟨K, cA⟩ (runV F ps.length n)) :=
  FD.ok S (fun vs H Q E h => spV_len (fun as => runV_no) h) fun cdv A out s H vs Q E hr h => ⟨_, hb.go cdv A out s H E hr, spV_body hN h⟩
end
/-- a def where a repr may run around -/
structure FnQ (P : Program) (w : World) (K : PySem.W.Frag) (mg : Str → Option Value) (base : Heap) (x : Str) (k : Nat) (sp : Sp) : Prop where
  go : ∃ f fd ps, mg x = some (.ref f) ∧ PySem.W.keepIn K (.ref f) = true ∧ Binds K fd ps [] ∧ FnOk P w K mg base (L2.CX P w) k f fd ps sp
theorem FnQ.n {P : Program} {w : World} {K : PySem.W.Frag} {mg : Str → Option Value} {base : Heap} {x : Str} {k : Nat} {sp : Sp} (h : FnQ P w K mg base x k sp) : FnN P w K mg base x k sp := by
  obtain ⟨f, fd, ps, h1, h2, h3, h4⟩ := h.go
  exact ⟨f, fd, ps, h1, h2, h3, gOf h4⟩
section
variable {X : Cx} {cA : CA} {E : XK} {W : WX} {x y : Str} {pos p p1 p2 p3 apos : Pos} {a b c e o : Expr} {fa fb fc fo : SE} {es : List Expr} {fs : SA} {k : Nat}
theorem passF : Passes (L2.CX X.prog X.w) X (fun _ _ _ => False) := fun pins σ H s e s' I ⟨_, _, _, _, _, _, _, _, _, _, _, _, z⟩ => z.elim
theorem pass_c (t : Takes X (Wc E)) : ∀ σ, PassesAt (L2.CX X.prog X.w) X σ (WE (Wc E) σ) := fun σ pins H s e s' I h => passes_call t (fun _ _ _ _ e => e) pins σ H s e s' I h
theorem pass_e (t : Takes X (Wc E)) : Passes (L2.CX X.prog X.w) X E := passes_call t fun _ _ _ _ e => e
/-! a call where a repr may run around -/
theorem p_callQ {g : List PV → Ro} (F : FnQ X.prog X.w X.K X.mg X.base x k (spV (kx X cA) g)) (hr : Room k X.A) (hg : Gl X x) (hx : ∀ σ, PassesAt (L2.CX X.prog X.w) X σ (WE W σ)) (ha : PA X (e :: es) (tPA (kx X cA) W fs)) (hdb : (x == ("__debug__" : Str)) = false := by decide)
    (he : starEach (e :: es) X.env = (false, eval e X.env) :: starEach es X.env := by rfl) (hpl : (backTo pos (starEach es X.env)).any (·.1) = false := by rfl) : PE X (.Call (.Name x p) (e :: es) [] pos) (tP (kx X cA) W (sCall g fs)) := by
  obtain ⟨f, fd, ps, hm, hk, hb, F⟩ := F.go
  refine pe_mono (pe_callS F hr hg hm hk hb hx ha hdb he hpl) fun σ H Q ⟨M0, M, Γ, ok, q⟩ => ⟨M0, M, Γ, ok, (OutA.bind q).mono fun us H1 ⟨vs, M1, Γ1, s1, r1, _, q1⟩ => ⟨M1, vs, s1.eok.alive, s1.eok.tab, r1, ?_⟩⟩
  cases hgv : g vs with
  | ok v =>
    rw [hgv] at q1
    exact fun u H' s r => q1 M1 H' u (Stp.stay s1.eok s) r
  | ex c v =>
    rw [hgv] at q1
    exact fun d u H' s e r => q1 M1 H' d u (Stp.stay s1.eok s) e r
  | no =>
    rw [hgv] at q1
    exact q1.elim
/-! ### raise -/
def sRaise (c : Str) (f : SE) : SS := fun Γ => (f Γ).fl fun v Γ1 => .ex c v Γ1
structure Exn (P : Program) (w : World) (K : PySem.W.Frag) (mg : Str → Option Value) (base : Heap) (cA : CA) (c : Str) : Prop where
  go : ∃ fI fd ps, ExcT K (cA c) fI ∧ mg c = some (.ref (cA c)) ∧ FnOk P w K mg base CX0 1 fI fd ps (spErr K) ∧ Binds K fd ps []
theorem s_raise (hc : X.calm = true) (tk : Takes X W) (Z : Exn X.prog X.w X.K X.mg X.base cA x) (hr : Room 2 X.A) (hg : Gl X x) (he : PE X e (tP (kx X cA) W fa)) (hdb : (x == ("__debug__" : Str)) = false := by decide)
    (hs : starEach [e] X.env = (false, eval e X.env) :: starEach [] X.env := by rfl) (hpl : (backTo p2 (starEach [] X.env)).any (·.1) = false := by rfl) : PS X (.Raise (some (.Call (.Name x p) [e] [] p2)) none pos) (tS (kx X cA) W (sRaise x fa)) := by
  obtain ⟨fI, fd, ps, T, hm, F, hb⟩ := Z.go
  exact ps_mono' (ps_raise hc tk (pmk_oex T.oex T.ic T.ti F hr hb .nil pass0 hg hm (a_one he hs) hdb hs hpl)) fun D σ H ⟨A, M, Γ, ok, q⟩ => ⟨A.M0, M, Γ, ok.eok, (Fin.out ok q).mono fun u H1 ⟨v, M1, Γ1, s, r, _, q1⟩ => by
    refine mkO_ok (Qx := fun cls d H' => W cls d σ H') (H1 := H1) (v := u) T fun dx hdx => ?_
    have sm := same_new (o := HO.xd [(("value" : Str), u)]) hdx
    exact q1 M1 σ _ dx u (s.sok.stp (Stp.of s.sok.eok sm)) upd_same (Rp.st (LamX.ExtN.of (msk_same sm)) r)⟩
/-! ### own methods -/
structure MethN (P : Program) (w : World) (K : PySem.W.Frag) (mg : Str → Option Value) (base : Heap) (cA : CA) (c m : Str) (k : Nat) (sp : Sp) : Prop where
  go : ∃ f fd ps, Cls K (cA c) ∧ Meth K (cA c) m f ∧ FnOk P w K mg base (L2.CX P w) k f fd ps sp ∧ Binds K fd ps []
def sMeth (c m : Str) (g : List PV → Ro) (fo : SE) (fs : SA) : SE := fun Γ => (fo Γ).bind fun o Γ1 => match o with
  | .obj c' ns us => if c' = c ∧ ns.contains m = false then (fs Γ1).bind fun vs Γ2 => match g (o :: vs) with
      | .ok v => .ok v Γ2
      | .ex c v => .ex c v Γ2
      | .no => .no
    else .no
  | _ => .no
theorem zip_none {m : Str} : ∀ {ns : List Str} {us : List V}, ns.contains m = false → (ns.zip us).lookup m = none
  | [], us, _ => by cases us <;> rfl
  | n :: ns, [], _ => rfl
  | n :: ns, u :: us, h => by
    rw [List.contains_cons, Bool.or_eq_false_iff] at h
    rw [List.zip_cons_cons, List.lookup_cons, h.1]
    exact zip_none h.2
theorem rp_obj {κ : Kx} {c : Str} {ns : List Str} {ws : List PV} {v : V} {H : Hp} : Rp κ (.obj c ns ws) v H ↔ ∃ a dx us, v = .ref a ∧ H a = some (.ins (κ.cA c) dx (ns.zip us)) ∧ ns.length = us.length ∧ RpA κ ws us H := by
  conv => lhs; unfold Rp
theorem p_meth {c m : Str} {g : List PV → Ro} {pl : Sem Bool} (Z : MethN X.prog X.w X.K X.mg X.base cA c m k (spV (kx X cA) g)) (hr : Room k X.A) (hx : Passes (L2.CX X.prog X.w) X E) (ho : PE X o (tP (kx X cA) (Wc E) fo)) (ha : PA X (e :: es) (tPA (kx X cA) (Wc E) fs))
    (he : starEach (e :: es) X.env = (false, eval e X.env) :: starEach es X.env := by rfl) (hpl : (backTo pos (starEach es X.env)).any (·.1) = false := by rfl)
    (hev : eval ((o.Attribute m apos).Call (e :: es) [] pos) X.env = (do
                              let ov ← eval o X.env
                              standAt apos.atName
                              let __x ← holding [ov] (getMethod ov m pl)
                              match __x with
                                | (f, first) =>
                                  callWith pos f first (backTo pos (starEach (e :: es) X.env))
                                    (backToKw pos (keywordEach [] X.env))) := by rfl) : PE X (.Call (.Attribute o m apos) (e :: es) [] pos) (tP (kx X cA) (Wc E) (sMeth c m g fo fs)) := by
  obtain ⟨f, fd, ps, hC, hm, F, hb⟩ := Z.go
  refine pe_mono (pe_meth (pl := pl) ho hC hm F hr hb .nil hx ha he hpl hev) fun σ H Q ⟨M0, M, Γ, ok, q⟩ => ⟨M0, M, Γ, ok, (Out.bind q).mono fun u H1 ⟨v, M1, Γ1, s1, r1, _, q1⟩ => ?_⟩
  cases v with
  | obj c' ns ws =>
    have q3 : Out (kx X cA) (Wc E) M0 M1 Γ1 σ H1 (if c' = c ∧ ns.contains m = false then (fs Γ1).bind fun vs Γ2 => match g (.obj c' ns ws :: vs) with
      | .ok v => .ok v Γ2
      | .ex c v => .ex c v Γ2
      | .no => .no
    else .no) Q := q1
    clear q1
    by_cases z : c' = c ∧ ns.contains m = false
    · rw [if_pos z] at q3
      obtain ⟨z1, z2⟩ := z
      subst z1
      obtain ⟨t, dx, us, rfl, h1, l, r2⟩ := rp_obj.mp r1
      refine ⟨t, dx, _, rfl, (msk_of h1).1, zip_none z2, M0, M1, Γ1, s1.eok, (OutA.bind q3).mono fun xs H2 ⟨vs, M2, Γ2, s2, r3, _, q2⟩ => ?_⟩
      rw [List.append_nil]
      refine ⟨M2, .obj c' ns ws :: vs, s2.eok.alive, s2.eok.tab, rpA_cons.mpr ⟨s2.keep s1.eok r1, r3⟩, ?_⟩
      cases hgv : g (.obj c' ns ws :: vs) with
      | ok v =>
        rw [hgv] at q2
        exact fun u H' s r => q2 M2 H' u (Stp.stay s2.eok s) r
      | ex c v =>
        rw [hgv] at q2
        exact fun d u H' s e r => q2 M2 H' d u (Stp.stay s2.eok s) e r
      | no =>
        rw [hgv] at q2
        exact q2.elim
    · rw [if_neg z] at q3
      exact q3.elim
  | _ => exact q1.elim
/-! x in o, len(o) of an own class -/
structure OwnN (P : Program) (w : World) (K : PySem.W.Frag) (mg : Str → Option Value) (base : Heap) (cA : CA) (c m : Str) (k : Nat) (sp : Sp) : Prop where
  go : ∃ f fd ps, PySem.W.findIn K (.ref (cA c)) m = some (some (.ref f)) ∧ PySem.W.typeIn K (.ref f) = some (.type "function") ∧ FnOk P w K mg base (L2.CX P w) k f fd ps sp ∧ Binds K fd ps []
def gInOwn (c : Str) (g : List PV → Ro) (neg : Bool) (x y : PV) : Option PV := match y with
  | .obj c' _ _ => if c' = c then (match g [y, x] with
    | .ok (.bl b) => some (.bl (if neg then !b else b))
    | _ => none) else none
  | _ => none
def gInC (c : Str) (g : List PV → Ro) (x y : PV) : Option PV := match y with
  | .obj _ _ _ => gInOwn c g false x y
  | _ => gIn x y
def gNotInC (c : Str) (g : List PV → Ro) (x y : PV) : Option PV := match y with
  | .obj _ _ _ => gInOwn c g true x y
  | _ => gNotIn x y
/-- operations that may run defs -/
def RDoS (κ : Kx) (r : R2) (g : PV → PV → Option PV) : Prop := ∀ a b c x y M H Q, g a b = some c → Rp κ a x (msk M H) → Rp κ b y (msk M H) → Alive M H → LamX.Tabs κ.cA.T H → (∀ H' u, Stay κ H H' → Rp κ c u (msk M H') → Q u H') → r x y H Q
theorem RDo.s {κ : Kx} {r : R2} {g : PV → PV → Option PV} (h : RDo κ r g) : RDoS κ r g := fun a b c x y M H Q e ra rb al tb q => h a b c x y M H Q e ra rb al fun H' u s => q H' u (Stay.of tb s)
theorem bin_outS {κ : Kx} {r : R2} {g : PV → PV → Option PV} (hg : RDoS κ r g) {σ : L2.St} {H : Hp} {Q : VK} (h : tP κ W (sBin g fa fb) σ H Q) : tOp r (tP κ W fa) (tP κ W fb) σ H Q := by
  obtain ⟨M0, M, Γ, ok, q⟩ := h
  refine ⟨M0, M, Γ, ok, (Out.bind q).mono fun x H1 ⟨v, M1, Γ1, s1, r1, _, q1⟩ => ⟨M0, M1, Γ1, s1.eok, (Out.bind q1).mono fun y H2 ⟨w, M2, Γ2, s2, r2, _, q2⟩ => ?_⟩⟩
  cases hgv : g v w with
  | none => rw [hgv] at q2; exact q2.elim
  | some c =>
    rw [hgv] at q2
    exact hg v w c x y M2 H2 Q hgv (s2.keep s1.eok r1) r2 s2.eok.alive s2.eok.tab fun H' u s r => q2 M2 H' u (Stp.stay s2.eok s) r
theorem p_cmpS {op : CmpOp} {r : R2} {g : PV → PV → Option PV} (ho : OpR X (compareOp op) r) (hg : RDoS (kx X cA) r g) (ha : PE X a (tP (kx X cA) W fa)) (hb : PE X b (tP (kx X cA) W fb)) (h1 : behindInMarks op b = false := by first | exact nobehind _ (by decide) (by decide) | rfl) :
    PE X (.Compare a [op] [b] pos) (tP (kx X cA) W (sBin g fa fb)) := pe_mono (pe_cmpR ho ha hb h1) fun σ H Q h => bin_outS hg h
theorem q_cmpS {op : CmpOp} {r : R2} {g : PV → PV → Option PV} (ho : OpR X (compareOp op) r) (hg : RDoS (kx X cA) r g) (ha : PE X a (tP (kx X cA) W fa)) (hb : PE X b (tP (kx X cA) W fb)) (h1 : behindInMarks op b = false := by first | exact nobehind _ (by decide) (by decide) | rfl) :
    PT X (.Compare a [op] [b] pos) (tPT (kx X cA) W (sBin g fa fb)) := pt_mono' (pt_cmpR ho ha hb h1) fun σ H Q h => bin_outS hg h
theorem rdo_inOwn {κ : Kx} {c : Str} {g : List PV → Ro} {neg : Bool} : RDoS κ (rInOwn (κ.cA c) (spV κ g) neg) (gInOwn c g neg) := fun a b d x y M H Q e ra rb al tb q => by
  cases b <;> (first | (cases e; done) | skip)
  rename_i c' ns ws
  unfold gInOwn at e
  simp only at e
  by_cases z : c' = c
  · rw [if_pos z] at e
    subst z
    obtain ⟨t, dx, us, rfl, h1, l, r2⟩ := rp_obj.mp rb
    refine ⟨t, dx, _, rfl, (msk_of h1).1, M, [.obj c' ns ws, a], al, tb, rpA_cons.mpr ⟨rb, rpA_cons.mpr ⟨ra, rpA_nil⟩⟩, ?_⟩
    split at e
    · rename_i k hk
      cases e
      rw [hk]
      exact fun u H' s r => ⟨k, rp_bl.mp r, q H' _ s (rp_bl.mpr rfl)⟩
    · cases e
  · rw [if_neg z] at e
    cases e
theorem RDoS.or {κ : Kx} {r r' : R2} {g g' h : PV → PV → Option PV} (a : RDoS κ r g) (b : RDoS κ r' g') (z : ∀ x y c, h x y = some c → g x y = some c ∨ g' x y = some c) : RDoS κ (fun x y H Q => r x y H Q ∨ r' x y H Q) h := fun x y c u v M H Q e r1 r2 al tb q => by
  rcases z x y c e with e | e
  · exact .inl (a x y c u v M H Q e r1 r2 al tb q)
  · exact .inr (b x y c u v M H Q e r1 r2 al tb q)
theorem p_in {c : Str} {g : List PV → Ro} (Z : OwnN X.prog X.w X.K X.mg X.base cA c "__contains__" k (spV (kx X cA) g)) (hu : X.A.units + 65 < cLine) (hr : Room k X.A) (ha : PE X a (tP (kx X cA) W fa)) (hb : PE X b (tP (kx X cA) W fb)) (h1 : behindInMarks .In b = false := by first | exact nobehind _ (by decide) (by decide) | rfl) :
    PE X (.Compare a [.In] [b] pos) (tP (kx X cA) W (sBin (gInC c g) fa fb)) := by
  obtain ⟨f, fd, ps, hs, hf, F, hb'⟩ := Z.go
  exact p_cmpS ((op_inP hu).or (op_inOwn hs hf F hr hb' passF)) (RDoS.or (rdo_in (κ := kx X cA)).s (rdo_inOwn (κ := kx X cA)) fun x y d e => by
    cases y <;> (first | exact .inl e | exact .inr e)) ha hb h1
theorem q_notIn {c : Str} {g : List PV → Ro} (Z : OwnN X.prog X.w X.K X.mg X.base cA c "__contains__" k (spV (kx X cA) g)) (hu : X.A.units + 65 < cLine) (hr : Room k X.A) (ha : PE X a (tP (kx X cA) W fa)) (hb : PE X b (tP (kx X cA) W fb)) (h1 : behindInMarks .NotIn b = false := by first | exact nobehind _ (by decide) (by decide) | rfl) :
    PT X (.Compare a [.NotIn] [b] pos) (tPT (kx X cA) W (sBin (gNotInC c g) fa fb)) := by
  obtain ⟨f, fd, ps, hs, hf, F, hb'⟩ := Z.go
  exact q_cmpS ((op_notInP hu).or (op_notInOwn hs hf F hr hb' passF)) (RDoS.or (rdo_notin (κ := kx X cA)).s (rdo_inOwn (κ := kx X cA)) fun x y d e => by
    cases y <;> (first | exact .inl e | exact .inr e)) ha hb h1
/-! len -/
def gLenC (c : Str) (g : List PV → Ro) (xs : List PV) : Option PV := match xs with
  | [.obj c' ns ws] => if c' = c then (match g [.obj c' ns ws] with
    | .ok (.int n) => if 0 ≤ n ∧ n < 4000000000000000000 then some (.int n) else none
    | _ => none) else none
  | xs => gLen xs
def RDcS (κ : Kx) (r : List V → Hp → VK → Prop) (g : List PV → Option PV) : Prop := ∀ as c xs M H Q, g as = some c → RpA κ as xs (msk M H) → Alive M H → LamX.Tabs κ.cA.T H → (∀ H' u, Stay κ H H' → Rp κ c u (msk M H') → Q u H') → r xs H Q
theorem call_outS {r : List V → Hp → VK → Prop} {g : List PV → Option PV} {κ : Kx} (hr : RDcS κ r g) {σ : L2.St} {H : Hp} {Q : VK} (h : tP κ W (sB g fs) σ H Q) : tPA κ W fs σ H fun xs H1 => r xs H1 Q := by
  obtain ⟨M0, M, Γ, ok, q⟩ := h
  refine ⟨M0, M, Γ, ok, (OutA.bind q).mono fun xs H1 ⟨vs, M1, Γ1, s1, r1, _, q1⟩ => ?_⟩
  cases hgv : g vs with
  | none => rw [hgv] at q1; exact q1.elim
  | some c =>
    rw [hgv] at q1
    exact hr vs c xs M1 H1 Q hgv r1 s1.eok.alive s1.eok.tab fun H' u s r => q1 M1 H' u (Stp.stay s1.eok s) r
theorem rdc_lenC {κ : Kx} {c : Str} {g : List PV → Ro} : RDcS κ (fun xs H Q => rLenP κ.K xs H Q ∨ rLenOwn (κ.cA c) (spV κ g) xs H Q) (gLenC c g) := fun as d xs M H Q e r al tb q => by
  unfold gLenC at e
  split at e
  · rename_i c' ns ws
    by_cases z : c' = c
    · rw [if_pos z] at e
      subst z
      obtain ⟨u, rfl, ru⟩ := rpA1 r
      obtain ⟨t, dx, us, rfl, h1, l, r2⟩ := rp_obj.mp ru
      refine .inr ⟨t, dx, _, rfl, (msk_of h1).1, M, [.obj c' ns ws], al, tb, r, ?_⟩
      split at e
      · rename_i n hn
        by_cases z : 0 ≤ n ∧ n < 4000000000000000000
        · rw [if_pos z] at e
          cases e
          rw [hn]
          have en : ((n.toNat : Nat) : Int) = n := Int.toNat_of_nonneg z.1
          exact fun u H' s r => ⟨n.toNat, by rw [en]; exact rp_int.mp r, by omega, by rw [en]; exact q H' _ s (rp_int.mpr rfl)⟩
        · rw [if_neg z] at e
          cases e
      · cases e
    · rw [if_neg z] at e
      cases e
  · exact .inl (rdc_len (κ := κ) _ _ _ _ _ _ e r al fun H' u s => q H' u (Stay.of tb s))
theorem p_len {c : Str} {g : List PV → Ro} (Z : OwnN X.prog X.w X.K X.mg X.base cA c "__len__" k (spV (kx X cA) g)) (hr : Room (k + 1) X.A) (hg : Gl X "len") (hm : X.mg "len" = none) (ha : PE X e (tP (kx X cA) W fa)) (hs : starEach [e] X.env = (false, eval e X.env) :: starEach [] X.env := by rfl) (hpl : (backTo pos (starEach [] X.env)).any (·.1) = false := by rfl) :
    PE X (.Call (.Name "len" p) [e] [] pos) (tP (kx X cA) W (sB (gLenC c g) (sCons fa sNil))) := by
  obtain ⟨f, fd, ps, hs', hf, F, hb⟩ := Z.go
  exact pe_mono (pe_callB (call_lenP.or (call_lenOwn hs' hf F hr hb passF)) hg hm boot_len (a_cons ha a_nil hs) (by decide) (by decide) hs hpl) fun σ H Q h => call_outS (rdc_lenC (κ := kx X cA)) h
end
end QX

set_option Elab.async false
set_option linter.all false
set_option maxRecDepth 100000
set_option maxHeartbeats 4000000
namespace QX
open PySem PySem.Spec PySem.W PySem.Calls PyProof.Rows L2 MX
/-! ### {k: v for ..}, keys being tuples -/
abbrev DA := List (List Key × PV)
def putP (kvs : DA) (k : List Key) (v : PV) : DA := if (kvs.any fun kv => decide (kv.1 = k)) = true then kvs.map (fun kv => if kv.1 = k then (kv.1, v) else kv) else kvs ++ [(k, v)]
def kP : Key → PV
  | .inl i => .int i
  | .inr x => .str x
def dctOf (kvs : DA) : PV := .dct (kvs.map fun a => .tup false (a.1.map kP)) (kvs.map (·.2))
def dcL (vs : List Nat) (g : SG) (t ek ev : SE) : List PV → DA → En → Rs DA
  | [], acc, Γ => .ok acc Γ
  | y :: ys, acc, Γ => match g y (wipeE vs Γ) with
    | .nx Γ1 => match t Γ1 with
      | .ok (.bl true) Γ2 => match ek Γ2 with
        | .ok kp Γ3 => match ev Γ3 with
          | .ok w Γ4 => match tkeyK kp with
            | some k => if acc.length < 1000000 then dcL vs g t ek ev ys (putP acc k w) (wipeE vs Γ4) else .no
            | none => .no
          | _ => .no
        | _ => .no
      | .ok (.bl false) Γ2 => dcL vs g t ek ev ys acc (wipeE vs Γ2)
      | _ => .no
    | _ => .no
def sDc (vs : List Nat) (it : SIt) (g : SG) (t ek ev : SE) : SE := fun Γ => (it Γ).bind fun ys Γ1 => if okW vs Γ1 = true then (match dcL vs g t ek ev ys [] (wipeE vs Γ1) with
    | .ok acc Γ2 => .ok (dctOf acc) (rest vs Γ1 Γ2)
    | _ => .no) else .no
theorem keys_kP : ∀ k : List Key, keysOf (k.map kP) = some k
  | [] => rfl
  | .inl i :: ks => by
    show (match keyOf (kP (.inl i)), keysOf (ks.map kP) with | some a, some b => some (a :: b) | _, _ => none) = _
    rw [keys_kP ks]
    rfl
  | .inr i :: ks => by
    show (match keyOf (kP (.inr i)), keysOf (ks.map kP) with | some a, some b => some (a :: b) | _, _ => none) = _
    rw [keys_kP ks]
    rfl
theorem tkeys_kP : ∀ kvs : DA, tkeysOf (kvs.map fun a => PV.tup false (a.1.map kP)) = some (kvs.map (·.1))
  | [] => rfl
  | a :: kvs => by
    show (match tkeyOf (PV.tup false (a.1.map kP)), tkeysOf (kvs.map fun a => PV.tup false (a.1.map kP)) with | some a, some b => some (a :: b) | _, _ => none) = _
    rw [tkeys_kP kvs]
    show (match keysOf (a.1.map kP), some (kvs.map (·.1)) with | some a, some b => some (a :: b) | _, _ => none) = _
    rw [keys_kP]
    rfl
/-- what the dict holds -/
def DR (κ : Kx) (H : Hp) : DA → List (List Key × V) → Prop
  | [], [] => True
  | a :: as, b :: bs => a.1 = b.1 ∧ Rp κ a.2 b.2 H ∧ DR κ H as bs
  | _, _ => False
theorem DR.st {κ : Kx} {H H' : Hp} (x : LamX.ExtN H H') : ∀ {as : DA} {bs : List (List Key × V)}, DR κ H as bs → DR κ H' as bs
  | [], [], h => h
  | a :: as, b :: bs, h => ⟨h.1, Rp.st x h.2.1, DR.st x h.2.2⟩
  | [], _ :: _, h => by unfold DR at h; exact h.elim
  | _ :: _, [], h => by unfold DR at h; exact h.elim
theorem DR.len {κ : Kx} {H : Hp} : ∀ {as : DA} {bs : List (List Key × V)}, DR κ H as bs → bs.length = as.length
  | [], [], h => rfl
  | a :: as, b :: bs, h => by rw [List.length_cons, List.length_cons, DR.len h.2.2]
  | [], _ :: _, h => by unfold DR at h; exact h.elim
  | _ :: _, [], h => by unfold DR at h; exact h.elim
theorem DR.snoc {κ : Kx} {H : Hp} {k : List Key} {w : PV} {u : V} (r : Rp κ w u H) : ∀ {as : DA} {bs : List (List Key × V)}, DR κ H as bs → DR κ H (as ++ [(k, w)]) (bs ++ [(k, u)])
  | [], [], h => ⟨rfl, r, trivial⟩
  | a :: as, b :: bs, h => ⟨h.1, h.2.1, DR.snoc r h.2.2⟩
  | [], _ :: _, h => by unfold DR at h; exact h.elim
  | _ :: _, [], h => by unfold DR at h; exact h.elim
theorem DR.any {κ : Kx} {H : Hp} {k : List Key} : ∀ {as : DA} {bs : List (List Key × V)}, DR κ H as bs → (bs.any fun kv => decide (kv.1 = k)) = (as.any fun kv => decide (kv.1 = k))
  | [], [], h => rfl
  | a :: as, b :: bs, h => by rw [List.any_cons, List.any_cons, DR.any h.2.2, h.1]
  | [], _ :: _, h => by unfold DR at h; exact h.elim
  | _ :: _, [], h => by unfold DR at h; exact h.elim
theorem DR.over {κ : Kx} {H : Hp} {k : List Key} {w : PV} {u : V} (r : Rp κ w u H) : ∀ {as : DA} {bs : List (List Key × V)}, DR κ H as bs → DR κ H (as.map fun kv => if kv.1 = k then (kv.1, w) else kv) (bs.map fun kv => if kv.1 = k then (kv.1, u) else kv)
  | [], [], h => h
  | a :: as, b :: bs, h => by
    rw [List.map_cons, List.map_cons]
    obtain ⟨h1, h2, h3⟩ := h
    refine ⟨?_, ?_, DR.over r h3⟩
    · rw [h1]
      by_cases c : b.1 = k
      · rw [if_pos c, if_pos c]
      · rw [if_neg c, if_neg c]; exact h1
    · rw [h1]
      by_cases c : b.1 = k
      · rw [if_pos c, if_pos c]; exact r
      · rw [if_neg c, if_neg c]; exact h2
  | [], _ :: _, h => by unfold DR at h; exact h.elim
  | _ :: _, [], h => by unfold DR at h; exact h.elim
theorem DR.put {κ : Kx} {H : Hp} {k : List Key} {w : PV} {u : V} {as : DA} {bs : List (List Key × V)} (h : DR κ H as bs) (r : Rp κ w u H) : DR κ H (putP as k w) (putK bs k u) := by
  unfold putP putK
  rw [h.any]
  split
  · exact h.over r
  · exact h.snoc r
theorem DR.rp {κ : Kx} {H : Hp} : ∀ {as : DA} {bs : List (List Key × V)}, DR κ H as bs → bs = (as.map (·.1)).zip (bs.map (·.2)) ∧ RpA κ (as.map (·.2)) (bs.map (·.2)) H
  | [], [], h => ⟨rfl, rpA_nil⟩
  | a :: as, b :: bs, h => by
    obtain ⟨h1, h2, h3⟩ := h
    obtain ⟨z1, z2⟩ := DR.rp h3
    refine ⟨?_, rpA_cons.mpr ⟨h2, z2⟩⟩
    rw [List.map_cons, List.map_cons, List.zip_cons_cons, ← z1, h1]
  | [], _ :: _, h => by unfold DR at h; exact h.elim
  | _ :: _, [], h => by unfold DR at h; exact h.elim
section
variable {κ : Kx} {M0 M M1 M2 : List Addr} {Γ Γ1 Γ2 : En} {σ : L2.St} {H H1 H2 : Hp} {vs : List Nat}
theorem dc_out {ks : List Nat} {g : SG} {ft fk fe : SE} {J : It} {ys : List PV} {acc0 : DA} {Γe : En} {Q : VK} (ok : EOK κ M0 M Γ σ H) (it : ItOk κ M H J ys) (hk : ∀ k ∈ ks, k ∈ vs) (hw : okW vs Γ = true) (hl : dcL vs g ft fk fe ys [] (wipeE vs Γ) = .ok acc0 Γe)
    (q : ∀ M' H' u, Stp κ M0 M Γ σ H M' (rest vs Γ Γe) H' → Rp κ (dctOf acc0) u (msk M' H') → Q u H') (D : Addr) (hD : H D = none) :
    ∃ Wv : Nat → Nat → Hp → Prop, (∃ m, Wv 0 m (L2.upd H D (.dT []))) ∧ ∀ (i m : Nat) (H : Hp), Wv i m H → J.stop i H ∧ Q (V.ref D) H ∨ J.go i H ∧ ∃ Nx : Hp → Prop, (∀ (H' : Hp), Nx H' → ∃ m', m' < m ∧ Wv (i + 1) m' H') ∧
      ∀ (x : V) (H' : Hp), J.yld i H x H' → tPG κ ks g x (wipe σ vs) H' fun σ2 H2 => wipe σ2 vs = wipe σ vs ∧ tPT κ W0 ft σ2 H2 fun b H3 => if b = true then tP κ W0 fk σ2 H3 fun y H4 => tP κ W0 fe σ2 H4 fun z G5 => ∃ kvs k b, y = .ref b ∧ G5 D = some (.dT kvs) ∧ G5 b = some (.tup (k.map kV)) ∧ kvs.length < sizeLine ∧ Nx (L2.upd G5 D (.dT (putK kvs k z))) else Nx H3 := by
  obtain ⟨G, Y, wk, hg⟩ := it
  have okw : EOK κ M0 M (wipeE vs Γ) (wipe σ vs) H := ok.wipe σ rfl rfl
  have sm0 : ∀ {us : List (List Key × V)} {M' : List Addr} {Γ' : En} {H' : Hp}, Stp κ (D :: M0) (D :: M) (wipeE vs Γ) (wipe σ vs) (L2.upd H D (.dT us)) M' Γ' H' → LamX.ExtN (msk M H) (msk M' H') := fun {us M' Γ' H'} s => by
    have z := s.same (okw.push hD)
    rw [msk_push hD] at z
    exact z
  -- the walk, with a counter
  have key : ∀ (Pv : Nat → Hp → Prop), Pv 0 (L2.upd H D (.dT [])) → (∀ i H, i ≤ ys.length → Pv i H → G H) → (∀ i x H H', i < ys.length → Pv i H → Y i H x H' → tPG κ ks g x (wipe σ vs) H' fun σ2 H2 => wipe σ2 vs = wipe σ vs ∧ tPT κ W0 ft σ2 H2 fun b H3 => if b = true then tP κ W0 fk σ2 H3 fun y H4 => tP κ W0 fe σ2 H4 fun z G5 => ∃ kvs k b, y = .ref b ∧ G5 D = some (.dT kvs) ∧ G5 b = some (.tup (k.map kV)) ∧ kvs.length < sizeLine ∧ Pv (i + 1) (L2.upd G5 D (.dT (putK kvs k z))) else Pv (i + 1) H3) → (∀ H, Pv ys.length H → Q (V.ref D) H) →
      ∃ Wv : Nat → Nat → Hp → Prop, (∃ m, Wv 0 m (L2.upd H D (.dT []))) ∧ ∀ (i m : Nat) (H : Hp), Wv i m H → J.stop i H ∧ Q (V.ref D) H ∨ J.go i H ∧ ∃ Nx : Hp → Prop, (∀ (H' : Hp), Nx H' → ∃ m', m' < m ∧ Wv (i + 1) m' H') ∧
      ∀ (x : V) (H' : Hp), J.yld i H x H' → tPG κ ks g x (wipe σ vs) H' fun σ2 H2 => wipe σ2 vs = wipe σ vs ∧ tPT κ W0 ft σ2 H2 fun b H3 => if b = true then tP κ W0 fk σ2 H3 fun y H4 => tP κ W0 fe σ2 H4 fun z G5 => ∃ kvs k b, y = .ref b ∧ G5 D = some (.dT kvs) ∧ G5 b = some (.tup (k.map kV)) ∧ kvs.length < sizeLine ∧ Nx (L2.upd G5 D (.dT (putK kvs k z))) else Nx H3 := fun Pv h0 hG hS hE => by
    refine ⟨fun i m H => i ≤ ys.length ∧ m = ys.length - i ∧ Pv i H, ⟨_, Nat.zero_le _, rfl, h0⟩, fun i m H ⟨hi, hm, p⟩ => ?_⟩
    by_cases c : i = ys.length
    · subst c
      exact .inl ⟨wk.stops H (hG _ H (Nat.le_refl _) p), hE H p⟩
    · have hi' : i < ys.length := by omega
      exact .inr ⟨wk.goes i H hi' (hG i H hi p), Pv (i + 1), fun H' p' => ⟨ys.length - (i + 1), by omega, hi', rfl, p'⟩, fun x H' y => hS i x H H' hi' p (wk.yields i H x H' hi' (hG i H hi p) y)⟩
  refine key (fun i H' => ∃ us M' Γ' acc, Stp κ (D :: M0) (D :: M) (wipeE vs Γ) (wipe σ vs) (L2.upd H D (.dT us)) M' Γ' H' ∧ wipeE vs Γ' = Γ' ∧ DR κ (msk M' H') acc us ∧ dcL vs g ft fk fe (ys.drop i) acc Γ' = .ok acc0 Γe)
    ⟨[], _, _, [], Stp.refl (okw.push hD), wipeE_idem, trivial, by rw [List.drop_zero]; exact hl⟩ (fun i H' hi ⟨us, M', Γ', acc, s, _⟩ => (hg M' H' (sm0 s)).1) (fun i x Ha Hb hi ⟨us, M', Γ', acc, s, ew, ra, el⟩ y => ?_) (fun H' ⟨us, M', Γ', acc, s, ew, ra, el⟩ => ?_)
  · obtain ⟨sm, p, hp, rp⟩ := (hg M' Ha (sm0 s)).2 s.eok.alive i x Hb hi y
    have ed : ys.drop i = p :: ys.drop (i + 1) := by
      rw [List.drop_eq_getElem_cons hi]
      congr 1
      exact (List.getElem?_eq_some_iff.mp hp).2
    rw [ed] at el
    unfold dcL at el
    rw [ew] at el
    have s1 := s.trans (Stp.of s.eok sm)
    refine ⟨D :: M0, M', Γ', p, s1.eok, rp, ?_⟩
    cases hq : g p Γ' with
    | nx Γ1 =>
      simp only [hq] at el
      intro σ2 ok2 o2
      have we : wipe σ2 vs = wipe σ vs := wipe_eq (by rw [o2.ls, wipe_length]) fun m hm => by rw [(o2.out m (fun z => hm (hk m z))).2, wipe_out hm]
      refine ⟨we, D :: M0, M', Γ1, ok2, ?_⟩
      cases ht : ft Γ1 with
      | no => simp only [ht] at el; cases el
      | ex c v Γ2 => simp only [ht] at el; cases el
      | ok bv Γ2 =>
        simp only [ht] at el
        cases bv with
        | bl b =>
          intro M2 H3 u s2 rb
          refine ⟨b, rp_bl.mp rb, ?_⟩
          cases b with
          | false =>
            refine iteF ⟨us, M2, wipeE vs Γ2, acc, s1.turn o2 we s2, wipeE_idem, ?_, el⟩
            exact ((ra.st (LamX.ExtN.of (msk_same sm))).st (s2.same ok2))
          | true =>
            refine iteT ⟨D :: M0, M2, Γ2, s2.eok, ?_⟩
            simp only at el
            cases hk' : fk Γ2 with
            | no => simp only [hk'] at el; cases el
            | ex c v Γ3 => simp only [hk'] at el; cases el
            | ok kp Γ3 =>
              simp only [hk'] at el
              intro M3 H4 u3 s3 rk
              refine ⟨D :: M0, M3, Γ3, s3.eok, ?_⟩
              cases he : fe Γ3 with
              | no => simp only [he] at el; cases el
              | ex c v Γ3 => simp only [he] at el; cases el
              | ok w Γ4 =>
                simp only [he] at el
                cases hkk : tkeyK kp with
                | none => simp only [hkk] at el; cases el
                | some k =>
                  simp only [hkk] at el
                  by_cases hln : acc.length < 1000000
                  · rw [if_pos hln] at el
                    intro M4 H5 u4 s4 rw4
                    have st := s1.turn o2 we (s2.trans (s3.trans s4))
                    have hd : H5 D = some (.dT us) := st.at okw hD
                    obtain ⟨b, rfl, hb⟩ := tkey_kV hkk (s4.keep s3.eok rk)
                    refine ⟨us, k, b, rfl, hd, (msk_of hb).1, by rw [ra.len, sizeLine_eq]; omega, ?_⟩
                    obtain ⟨st2, mq⟩ := st.swap (o' := .dT (putK us k u4)) okw hD
                    refine ⟨putK us k u4, M4, wipeE vs Γ4, putP acc k w, st2, wipeE_idem, ?_, el⟩
                    rw [mq]
                    exact ((((ra.st (LamX.ExtN.of (msk_same sm))).st (s2.same ok2)).st (s3.same s2.eok)).st (s4.same s3.eok)).put rw4
                  · rw [if_neg hln] at el
                    cases el
        | _ => simp only at el; cases el
    | _ => simp only [hq] at el; cases el
  · rw [List.drop_length] at el
    cases el
    obtain ⟨z1, z2⟩ := s.pop0 okw hD
    have hd : H' D = some (.dT us) := s.at okw hD
    refine q (wo D M') H' (.ref D) (Stp.rest ok hw z1) ?_
    obtain ⟨w1, w2⟩ := (ra.st (LamX.ExtN.of z2)).rp
    unfold dctOf Rp
    refine ⟨D, us.map (·.2), rfl, .inr ⟨_, tkeys_kP _, ?_⟩, by rw [List.length_map, List.length_map, ra.len], w2⟩
    rw [msk_in (fun z => (mem_wo.mp z).2 rfl), ← w1]
    exact hd
end
section
variable {X : Cx} {cA : CA} {W : WX} {x y z : Str} {pos pos' cpos p p1 p2 p3 pt tpos : Pos} {tg iter kx' vx a b c e e2 : Expr} {fa fb fc ft fk fe : SE} {ifs : List Expr} {fi : SIt} {gf : SG} {ks : List Nat} {scope : Scope} {own : List (Str × Nat)}
theorem p_dc (hu : X.A.units + 65 < cLine) (hc : X.calm = true) (hN : X.N.Nodup) (hk : ∀ k ∈ ks, k ∈ own.map (·.2)) (hi : PI X tg iter (tPI (kx X cA) W fi)) (ok : BlkOk X.N X.env.scope scope own)
    (hg : ∀ s H C cl fp, PG (X.blk s H scope (compEnvC scope cl C X.env) fp) tg (tPG (kx X cA) ks gf)) (ht : ∀ s H C cl fp, PTs (X.blk s H scope (compEnvC scope cl C X.env) fp) ifs (tPT (kx X cA) W0 ft))
    (hk' : ∀ s H C cl fp, PE (X.blk s H scope (compEnvC scope cl C X.env) fp) kx' (tP (kx X cA) W0 fk))
    (he : ∀ s H C cl fp, PE (X.blk s H scope (compEnvC scope cl C X.env) fp) vx (tP (kx X cA) W0 fe)) (hf : ∀ v, foldedSetIterable iter X.env v = pure v := by intro _; rfl) : PE X (.DictComp kx' vx [⟨tg, iter, ifs, 0⟩] scope pos) (tP (kx X cA) W (sDc (own.map (·.2)) fi gf ft fk fe)) :=
  pe_mono (pe_dcT (by omega) hc hN hi ok hg ht hk' he hf) fun σ H Q ⟨M0, M, Γ, ok, q⟩ => by
    refine ⟨M0, M, Γ, ok, ?_⟩
    unfold sDc at q
    cases hi : fi Γ with
    | no => rw [hi] at q; exact q
    | ex c v Γ1 => rw [hi] at q; exact q
    | ok ys Γ1 =>
      rw [hi] at q
      have q : Out (kx X cA) W M0 M Γ σ H (if okW (own.map (·.2)) Γ1 = true then (match dcL (own.map (·.2)) gf ft fk fe ys [] (wipeE (own.map (·.2)) Γ1) with
        | .ok acc Γ2 => .ok (dctOf acc) (rest (own.map (·.2)) Γ1 Γ2)
        | _ => .no) else .no) Q := q
      intro M1 H1 J s it
      by_cases hw : okW (own.map (·.2)) Γ1 = true
      · rw [if_pos hw] at q
        cases hl : dcL (own.map (·.2)) gf ft fk fe ys [] (wipeE (own.map (·.2)) Γ1) with
        | no => rw [hl] at q; exact q.elim
        | ex c v Γ2 => rw [hl] at q; exact q.elim
        | ok ws Γ2 =>
          rw [hl] at q
          exact fun D hD => dc_out s.eok it hk hw hl (fun M' H' u s' r => q M' H' u (s.trans s') r) D hD
      · rw [if_neg hw] at q
        exact q.elim
end
end QX

set_option Elab.async false
set_option linter.all false
set_option maxRecDepth 100000
set_option maxHeartbeats 4000000
namespace QX
open PySem PySem.Spec PySem.W PySem.Calls PyProof.Rows L2 MX
/-! ### a name that holds a value, or a thing that is given away -/
def sAny (k : Nat) : SE := fun Γ => match Γ[k]? with
  | some (.va v) => .ok v Γ
  | some (.ow false v) => .ok v (Γ.set k (.va v))
  | _ => .no
section
variable {X : Cx} {cA : CA} {W : WX} {x y : Str} {pos p p1 p2 p3 apos : Pos} {a b c e o : Expr} {fa fb fc fo : SE} {es : List Expr} {fs : SA} {k : Nat}
theorem p_any (k : Nat) (hN : X.N[k]? = some x := by rfl) (hv : Vis X.env.scope x := by first | exact Or.inl rfl | exact Or.inr (Or.inl rfl) | exact Or.inr (Or.inr rfl)) (hd : (x == ("__debug__" : Str)) = false := by decide)
    (hcd : (x == ("__classdict__" : Str)) = false := by decide) : PE X (.Name x pos) (tP (kx X cA) W (sAny k)) := ⟨fun pins s σ H Q I ⟨M0, M, Γ, ok, q⟩ => by
  unfold sAny at q
  split at q
  · rename_i v h
    exact (p_var (cA := cA) (W := W) k hN hv hd hcd).run pins s σ H Q I ⟨M0, M, Γ, ok, by unfold sVar; rw [h]; exact q⟩
  · rename_i v h
    exact (p_move (cA := cA) (W := W) k hN hv hd hcd).run pins s σ H Q I ⟨M0, M, Γ, ok, by unfold sMove; rw [h]; exact q⟩
  · exact False.elim q⟩
theorem ts_one {f : SE} (h : PT X c (tPT (kx X cA) W f)) : PTs X [c] (tPT (kx X cA) W f) := pts_one h
/-! ### comparisons, sums -/
theorem c_lt (ha : PE X a (tP (kx X cA) W fa)) (hb : PE X b (tP (kx X cA) W fb)) : PE X (.Compare a [.Lt] [b] pos) (tP (kx X cA) W (sBin gLt fa fb)) := p_cmp op_lt (rdo_I0 fun _ _ _ => rp_bl.mpr rfl) ha hb
theorem t_lt (ha : PE X a (tP (kx X cA) W fa)) (hb : PE X b (tP (kx X cA) W fb)) : PT X (.Compare a [.Lt] [b] pos) (tPT (kx X cA) W (sBin gLt fa fb)) := q_cmp op_lt (rdo_I0 fun _ _ _ => rp_bl.mpr rfl) ha hb
theorem t_gt (ha : PE X a (tP (kx X cA) W fa)) (hb : PE X b (tP (kx X cA) W fb)) : PT X (.Compare a [.Gt] [b] pos) (tPT (kx X cA) W (sBin gGt fa fb)) := q_cmp op_gt (rdo_I0 fun _ _ _ => rp_bl.mpr rfl) ha hb
theorem c_eq (hu : X.A.units + 64 < cLine) (ha : PE X a (tP (kx X cA) W fa)) (hb : PE X b (tP (kx X cA) W fb)) : PE X (.Compare a [.Eq] [b] pos) (tP (kx X cA) W (sBin gEq fa fb)) := p_cmp (op_eqP hu) rdo_eq ha hb
theorem t_eq (hu : X.A.units + 64 < cLine) (ha : PE X a (tP (kx X cA) W fa)) (hb : PE X b (tP (kx X cA) W fb)) : PT X (.Compare a [.Eq] [b] pos) (tPT (kx X cA) W (sBin gEq fa fb)) := q_cmp (op_eqP hu) rdo_eq ha hb
theorem c_ne (hu : X.A.units + 64 < cLine) (ha : PE X a (tP (kx X cA) W fa)) (hb : PE X b (tP (kx X cA) W fb)) : PE X (.Compare a [.NotEq] [b] pos) (tP (kx X cA) W (sBin gNe fa fb)) := p_cmp (op_neP hu) rdo_ne ha hb
theorem t_ne (hu : X.A.units + 64 < cLine) (ha : PE X a (tP (kx X cA) W fa)) (hb : PE X b (tP (kx X cA) W fb)) : PT X (.Compare a [.NotEq] [b] pos) (tPT (kx X cA) W (sBin gNe fa fb)) := q_cmp (op_neP hu) rdo_ne ha hb
theorem c_in (hu : X.A.units + 65 < cLine) (ha : PE X a (tP (kx X cA) W fa)) (hb : PE X b (tP (kx X cA) W fb)) (h1 : behindInMarks .In b = false := by first | exact nobehind _ (by decide) (by decide) | rfl) : PE X (.Compare a [.In] [b] pos) (tP (kx X cA) W (sBin gIn fa fb)) := p_cmp (op_inP hu) rdo_in ha hb h1
theorem t_in (hu : X.A.units + 65 < cLine) (ha : PE X a (tP (kx X cA) W fa)) (hb : PE X b (tP (kx X cA) W fb)) (h1 : behindInMarks .In b = false := by first | exact nobehind _ (by decide) (by decide) | rfl) : PT X (.Compare a [.In] [b] pos) (tPT (kx X cA) W (sBin gIn fa fb)) := q_cmp (op_inP hu) rdo_in ha hb h1
theorem t_notin (hu : X.A.units + 65 < cLine) (ha : PE X a (tP (kx X cA) W fa)) (hb : PE X b (tP (kx X cA) W fb)) (h1 : behindInMarks .NotIn b = false := by first | exact nobehind _ (by decide) (by decide) | rfl) : PT X (.Compare a [.NotIn] [b] pos) (tPT (kx X cA) W (sBin gNotIn fa fb)) := q_cmp (op_notInP hu) rdo_notin ha hb h1
theorem b_add (ha : PE X a (tP (kx X cA) W fa)) (hb : PE X b (tP (kx X cA) W fb)) : PE X (.BinOp a .Add b pos) (tP (kx X cA) W (sBin gAdd fa fb)) := p_bin op_addP rdo_add ha hb
theorem b_mul (ha : PE X a (tP (kx X cA) W fa)) (hb : PE X b (tP (kx X cA) W fb)) : PE X (.BinOp a .Mult b pos) (tP (kx X cA) W (sBin gMul fa fb)) := p_bin op_mulP rdo_mul ha hb
theorem b_mod (ha : PE X a (tP (kx X cA) W fa)) (hb : PE X b (tP (kx X cA) W fb)) : PE X (.BinOp a .Mod b pos) (tP (kx X cA) W (sBin gMod fa fb)) := p_bin op_mod (rdo_I (C := fun _ j => 0 < j) (fun _ _ h => of_decide_eq_true h) fun _ _ _ => rp_int.mpr rfl) ha hb
theorem b_div (ha : PE X a (tP (kx X cA) W fa)) (hb : PE X b (tP (kx X cA) W fb)) : PE X (.BinOp a .FloorDiv b pos) (tP (kx X cA) W (sBin gDiv fa fb)) := p_bin op_fdivW (rdo_I (c := fun _ j => decide (0 < j ∧ j.natAbs.log2 < 9000)) (fun i j h => by have z := of_decide_eq_true h; exact z) fun _ _ _ => rp_int.mpr rfl) ha hb
theorem b_pow (ha : PE X a (tP (kx X cA) W fa)) (hb : PE X b (tP (kx X cA) W fb)) : PE X (.BinOp a .Pow b pos) (tP (kx X cA) W (sBin gPow fa fb)) := p_bin op_powW (rdo_I (c := fun i j => decide (0 ≤ j ∧ (Builtin.Int.intBits i : Int) * j ≤ 2 ^ 27)) (fun i j h => by have z := of_decide_eq_true h; exact z) fun _ _ _ => rp_int.mpr rfl) ha hb
/-! ### a table of the module: texts by texts -/
structure TabN (w : World) (K : PySem.W.Frag) (mg : Str → Option Value) (x : Str) (kv : List (Str × Str)) : Prop where
  go : ∃ d, mg x = some (.ref d) ∧ ∀ q ∈ kv, KDct K w d q.1 (.str q.2)
def gTab (kv : List (Str × Str)) : PV → Option PV
  | .str z => (kv.lookup z).map .str
  | _ => none
theorem look_mem {kv : List (Str × Str)} {z u : Str} (h : kv.lookup z = some u) : (z, u) ∈ kv := by
  induction kv with
  | nil => cases h
  | cons q kv ih =>
    rw [List.lookup_cons] at h
    cases hz : (z == q.1) with
    | true =>
      rw [hz] at h
      cases h
      rw [eq_of_beq hz]
      exact List.mem_cons_self
    | false =>
      rw [hz] at h
      exact List.mem_cons_of_mem _ (ih h)
theorem p_tab {kv : List (Str × Str)} (Z : TabN X.w X.K X.mg x kv) (hg : Gl X x) (hb : PE X b (tP (kx X cA) W fb)) (hs : PlainIx b := by intro _ _; rfl) (hdb : (x == ("__debug__" : Str)) = false := by decide) : PE X (.Subscript (.Name x p) b pos) (tP (kx X cA) W (sU (gTab kv) fb)) := by
  obtain ⟨d, gd, hk⟩ := Z.go
  refine pe_mono (pe_ix ix_kdict (pe_glob (v := .ref d) hg gd rfl hdb) hb hs) fun σ H Q ⟨M0, M, Γ, ok, q⟩ => ⟨M0, M, Γ, ok, (Out.bind q).mono fun u H1 ⟨v, M1, Γ1, s, r, _, q1⟩ => ?_⟩
  cases v with
  | str z =>
    rw [rp_str] at r
    cases hl : kv.lookup z with
    | none =>
      have q1 : Out (kx X cA) W M0 M1 Γ1 σ H1 (ofO ((kv.lookup z).map PV.str) Γ1) Q := q1
      rw [hl] at q1
      exact False.elim q1
    | some w' =>
      have q1 : Out (kx X cA) W M0 M1 Γ1 σ H1 (ofO ((kv.lookup z).map PV.str) Γ1) Q := q1
      rw [hl] at q1
      exact ⟨d, z, .str w', rfl, r, hk _ (look_mem hl), q1 M1 H1 _ (Stp.refl s.eok) (rp_str.mpr rfl)⟩
  | _ => exact False.elim q1
end
end QX

set_option Elab.async false
set_option linter.all false
set_option maxRecDepth 100000
set_option maxHeartbeats 4000000
namespace QX
open PySem PySem.Spec PySem.W PySem.Calls PyProof.Rows L2 MX
/-! ### halls as trees -/
def vP : V → Option PV
  | .str w => some (.str w)
  | _ => none
def vPs : List V → Option (List PV)
  | [] => some []
  | v :: vs => match vP v, vPs vs with
    | some a, some b => some (a :: b)
    | _, _ => none
theorem vPs_rp {κ : Kx} {H : Hp} : ∀ {vs : List V} {ws : List PV}, vPs vs = some ws → RpA κ ws vs H
  | [], ws, e => by cases e; exact rpA_nil
  | v :: vs, ws, e => by
    unfold vPs at e
    cases v with
    | str z =>
      cases h : vPs vs with
      | none => rw [h] at e; cases e
      | some b =>
        rw [h] at e
        cases e
        exact rpA_cons.mpr ⟨rp_str.mpr rfl, vPs_rp h⟩
    | _ => cases e
def opsP (ops : Ops) : PV := .tup false (ops.map fun o => .tup false (o.map .str))
def hallN : List Str := ["text", "people", "opens", "_told"]
def keyP (k : List Key) : PV := .tup false (k.map kP)
def hallV (x : Str) (ops : Ops) (T : MX.Tm) (ws : List PV) : PV := .obj "Hall" hallN [.str x, .tup false ((peopleOf x).map .str), opsP ops, .dct (T.map fun e => keyP e.1) ws]
theorem tkeys_kT (T : MX.Tm) : tkeysOf (T.map fun e => keyP e.1) = some (T.map (·.1)) := by
  have z := tkeys_kP (T.map fun e => (e.1, PV.non))
  rw [List.map_map, List.map_map] at z
  exact z
theorem zip_fs (T : MX.Tm) : (T.map (·.1)).zip (T.map (·.2)) = T := by
  induction T with
  | nil => rfl
  | cons a T ih => rw [List.map_cons, List.map_cons, List.zip_cons_cons, ih]
theorem rp_ops {κ : Kx} {H : Hp} : ∀ {ops : Ops} {qs : List Addr}, qs.length = ops.length → (∀ (i : Nat) (q : Addr) (op : List Str), qs[i]? = some q → ops[i]? = some op → H q = some (.tup (op.map V.str))) → RpA κ (ops.map fun o => .tup false (o.map .str)) (qs.map V.ref) H
  | [], [], _, _ => rpA_nil
  | [], _ :: _, l, _ => by cases l
  | _ :: _, [], l, _ => by cases l
  | op :: ops, q :: qs, l, f => rpA_cons.mpr ⟨rp_tup.mpr ⟨q, _, rfl, .inl (f 0 q op rfl rfl), rp_ofStrs op⟩, rp_ops (by simpa using l) fun i q' op' h1 h2 => f (i + 1) q' op' (by simpa using h1) (by simpa using h2)⟩
theorem rp_hall {κ : Kx} {H : Hp} {p pp o d : Addr} {x : Str} {ops : Ops} {T : MX.Tm} {ws : List PV} (h : HallAt κ.K H (κ.cA "Hall") p x pp o d (peopleOf x) ops T) (e : vPs (T.map (·.2)) = some ws) : Rp κ (hallV x ops T ws) (.ref p) H := by
  unfold hallV
  rw [rp_obj]
  obtain ⟨dx, e1⟩ := h.ex
  obtain ⟨qs, eo, lo, fo⟩ := h.op
  refine ⟨p, dx, [.str x, .ref pp, .ref o, .ref d], rfl, e1, rfl, ?_⟩
  refine rpA_cons.mpr ⟨rp_str.mpr rfl, rpA_cons.mpr ⟨rp_tup.mpr ⟨pp, _, rfl, .inl h.pe, rp_ofStrs _⟩, rpA_cons.mpr ⟨rp_tup.mpr ⟨o, _, rfl, .inl eo, rp_ops lo fo⟩, rpA_cons.mpr ⟨?_, rpA_nil⟩⟩⟩⟩
  unfold Rp
  refine ⟨d, T.map (·.2), rfl, .inr ⟨T.map (·.1), tkeys_kT T, ?_⟩, by rw [List.length_map, List.length_map], vPs_rp e⟩
  rw [zip_fs]
  exact h.t
theorem hall_msk {K : PySem.W.Frag} {M : List Addr} {H : Hp} {C p pp o d : Addr} {x : Str} {ps : List Str} {ops : Ops} {T : MX.Tm} (A : HallAt K H C p x pp o d ps ops T) (al : Alive M H) (np : p ∉ M) (nd : d ∉ M) : HallAt K (msk M H) C p x pp o d ps ops T := by
  obtain ⟨dx, e1⟩ := A.ex
  obtain ⟨qs, eo, lo, fo⟩ := A.op
  exact ⟨⟨dx, by rw [msk_in np]; exact e1⟩, by rw [msk_in (al.tup A.pe)]; exact A.pe, ⟨qs, by rw [msk_in (al.tup eo)]; exact eo, lo, fun i q op h1 h2 => by
    have z := fo i q op h1 h2
    rw [msk_in (al.tup z)]
    exact z⟩, by rw [msk_in nd]; exact A.t, A.ok⟩
/-- Hall(text): told, or refused -/
def spInitF (K : PySem.W.Frag) (C cB : Addr) : Sp := fun vs H Q E => ∃ (p dx : Addr) (vt : V), vs = [.ref p, vt] ∧ H p = some (.ins C dx []) ∧
  ((∃ t, TyX K H vt t ∧ PySem.W.kitOne K t (.type "str") = some false ∧ ∀ dd, H dd = none → E (.ref cB) (some dd) (upd H dd (.xd [(("value" : Str), .int 0)]))) ∨
  (∃ x : Str, vt = .str x ∧ TextOk x ∧
    (∀ n : Nat, parseH x = .inl n → ∀ H' dd, But [p] H H' → H' dd = none → E (.ref cB) (some dd) (upd H' dd (.xd [(("value" : Str), .int (n : Int))]))) ∧
    (∀ ops T, parseH x = .inr (ops, T) → ∀ H' pp o d, But [p] H H' → H d = none → HallAt K H' C p x pp o d (peopleOf x) ops T → Q .non H')))
open Classical in
noncomputable def sHall (f : SE) : SE := fun Γ => (f Γ).bind fun v Γ1 => match v with
  | .str x => if TextOk x then (match parseH x with
    | .inr ot => ofO ((vPs (ot.2.map (·.2))).map (hallV x ot.1 ot.2)) Γ1
    | .inl n => .ex "BadHall" (.int (n : Int)) Γ1) else .no
  | _ => .no
section
variable {X : Cx} {cA : CA} {E : XK} {x : Str} {pos p : Pos} {e : Expr} {fa : SE} {k : Nat} {fI : Addr} {fdI : FuncData}
theorem mkHall_T : ∀ (σ : L2.St) (H : Hp) (Q : VK), tP (kx X cA) (Wc E) (sHall fa) σ H Q → tMake (cA "Hall") (spInitF X.K (cA "Hall") (cA "BadHall")) [] E (tCons (tP (kx X cA) (Wc E) fa) tNil) σ H Q :=
  fun σ H Q ⟨M0, M, Γ, ok, q⟩ => ⟨M0, M, Γ, ok, (Out.bind q).mono fun v H1 ⟨pv, M1, Γ1, s, r, _, q1⟩ => by
    intro a dx hfa hdx hne
    cases pv with
    | str z =>
      obtain rfl : v = .str z := rp_str.mp r
      have q1 : Out (kx X cA) (Wc E) M0 M1 Γ1 σ H1 (open Classical in if TextOk z then (match parseH z with
        | .inr ot => ofO ((vPs (ot.2.map (·.2))).map (hallV z ot.1 ot.2)) Γ1
        | .inl n => .ex "BadHall" (.int (n : Int)) Γ1) else .no) Q := q1
      by_cases ht : TextOk z
      · rw [if_pos ht] at q1
        have s2 : Same H1 (L2.upd (L2.upd H1 dx (.own a)) a (.ins (cA "Hall") dx [])) := fun b o e => by
          rw [upd_ne (ne_of_none e hfa), upd_ne (ne_of_none e hdx)]
          exact e
        have sOf : ∀ {H'}, But [a] (L2.upd (L2.upd H1 dx (.own a)) a (.ins (cA "Hall") dx [])) H' → Same H1 H' := fun {H'} b c o ec => b _ _ (s2 _ _ ec) fun m => by rw [List.mem_singleton.mp m, hfa] at ec; cases ec
        have naM : a ∉ M1 := s.eok.alive.free hfa
        refine ⟨a, dx, _, rfl, upd_same, .inr ⟨z, rfl, ht, fun n hn H' dd b hdd => ?_, fun ops T he H' pp o d b hd hA => ⟨rfl, ?_⟩⟩⟩
        · rw [hn] at q1
          exact q1 M1 _ dd (.int (n : Int)) (Stp.of s.eok ((sOf b).trans (same_new hdd))) upd_same (rp_int.mpr rfl)
        · rw [he] at q1
          have q1 : Out (kx X cA) (Wc E) M0 M1 Γ1 σ H1 (ofO ((vPs (T.map (·.2))).map (hallV z ops T)) Γ1) Q := q1
          cases hw : vPs (T.map (·.2)) with
          | none => rw [hw] at q1; exact False.elim q1
          | some ws =>
            rw [hw] at q1
            have st := Stp.of s.eok (sOf b)
            have hd1 : H1 d = none := by
              cases hz : H1 d with
              | none => rfl
              | some o => rw [s2 _ _ hz] at hd; cases hd
            exact q1 M1 H' _ st (rp_hall (κ := kx X cA) (hall_msk hA st.eok.alive naM (s.eok.alive.free hd1)) hw)
      · rw [if_neg ht] at q1
        exact False.elim q1
    | _ => exact False.elim q1⟩
theorem p_mkHall (M : Mk X.K (cA "Hall") fI) (F : FnOk X.prog X.w X.K X.mg X.base (L2.CX X.prog X.w) k fI fdI ["self", "text"] (spInitF X.K (cA "Hall") (cA "BadHall"))) (hr : Room (k + 1) X.A) (hg : Gl X x) (hm : X.mg x = some (.ref (cA "Hall"))) (hb : L2.Binds X.K fdI ["self", "text"] []) (hx : Passes (L2.CX X.prog X.w) X E)
    (ha : PE X e (tP (kx X cA) (Wc E) fa)) (hdb : (x == ("__debug__" : Str)) = false := by decide) (he : starEach [e] X.env = (false, eval e X.env) :: starEach [] X.env := by rfl) (hpl : (backTo pos (starEach [] X.env)).any (·.1) = false := by rfl) :
    PE X (.Call (.Name x p) [e] [] pos) (tP (kx X cA) (Wc E) (sHall fa)) :=
  pe_mono (pe_make M F hr hg hm hb .nil hx (pa_cons ha pa_nil he) hdb he hpl) mkHall_T
end
end QX

set_option Elab.async false
set_option linter.all false
set_option maxRecDepth 100000
set_option maxHeartbeats 4000000
namespace K15
open PySem PySem.Spec PySem.W PySem.Calls PyProof.Rows L2 MX
section
variable {P : Program} {w : World} {K : PySem.W.Frag} {mg : Str → Option Value} {base : Heap} {f C fT fK : Addr} {fd : FuncData}
theorem scE : FnScope ["self", "value"] ["self", "value"] (defScope sErr) := ⟨rfl, rfl, rfl, by decide +kernel, rfl, by decide +kernel, by decide +kernel⟩
theorem ok_err (F : FnM K "__init__" "MeetError.__init__" sErr f fd) : FnOk P w K mg base CX0 1 f fd ["self", "value"] (spErr K) := by
  refine F.ok scE (fun vs H Q E h => ?_) (fun cdv A outer s H vs Q E hr h => ?_)
  · obtain ⟨a, C, fI, v, rfl, _⟩ := h; rfl
  · obtain ⟨a, C, fI, v, rfl, T, ea, k⟩ := h
    exact ⟨_, PSs.nox (pss_one (ps_ost (pv 0) (pv 1))), _, rfl, _, rfl, a, C, rfl, T.oex, T.nv, .inl ⟨ea, fun dx n ne => k dx n ne⟩⟩
theorem scInit : FnScope ["self", "text", "lines", "number", "words", "line"] ["self", "text"] (defScope sInit) := ⟨rfl, rfl, rfl, by decide +kernel, rfl, by decide +kernel, by decide +kernel⟩
/-- what the defs of halls find -/
structure HallF (K : PySem.W.Frag) (mg : Str → Option Value) (C cB fE fT fK fN fU fA fP fM fO : Addr) (fdE fdT fdK fdN fdU fdA fdP fdM fdO : FuncData) : Prop where
  B : Blt mg
  Z : HallC K C fT fK
  Er : FnM K "__init__" "MeetError.__init__" sErr fE fdE
  Te : FnM K "_tell" "Hall._tell" sTell fT fdT
  Ks : FnM K "_takes" "Hall._takes" sTakes fK fdK
  Na : FnP K "is_name" sIsName fN fdN
  Un : FnP K "are_unlike" sUnlike fU fdU
  Am : FnP K "are_among" sAmong fA fdA
  Pe : FnP K "is_people_line" sPeople fP fdP
  Me : FnP K "is_met_line" sMet fM fdM
  Op : FnP K "is_open_line" sOpen fO fdO
  gN : mg "is_name" = some (.ref fN)
  gU : mg "are_unlike" = some (.ref fU)
  gA : mg "are_among" = some (.ref fA)
  gP : mg "is_people_line" = some (.ref fP)
  gM : mg "is_met_line" = some (.ref fM)
  gO : mg "is_open_line" = some (.ref fO)
  gB : mg "BadHall" = some (.ref cB)
  tB : ExcT K cB fE
theorem ok_hall {cB fE fN fU fA fP fM fO : Addr} {fdE fdT fdK fdN fdU fdA fdP fdM fdO : FuncData} (F : FnM K "__init__" "Hall.__init__" sInit f fd) (G : HallF K mg C cB fE fT fK fN fU fA fP fM fO fdE fdT fdK fdN fdU fdA fdP fdM fdO) :
    FnOk P w K mg base (L2.CX P w) 5 f fd ["self", "text"] (QX.spInitF K C cB) := by
  obtain ⟨B, Z, FE, FT, FK, FN, FU, FA, FP, FM, FO, gN, gU, gA, gP, gM, gO, gB, tB⟩ := G
  have GE : FnOk P w K mg base CX0 1 fE fdE ["self", "value"] (spErr K) := ok_err FE
  have bE : Binds K fdE ["self", "value"] [] := FE.bindsN fun _ _ _ _ _ _ us hl => match us, hl with | [_, _], _ => rfl
  have GP : FnOk P w K mg base CX0 2 fP fdP ["words"] (spPeople K) := ok_people FP B FU gU FN gN
  have bP : Binds K fdP ["words"] [] := FP.bindsN fun _ _ _ _ _ _ us hl => match us, hl with | [_], _ => rfl
  have GK : FnOk P w K mg base CX0 4 fK fdK ["self", "number", "words"] (spTakes K C) := ok_takes FK Z B FT FM gM FO gO FU gU FA gA
  have bK : Binds K fdK ["self", "number", "words"] [] := FK.bindsN fun _ _ _ _ _ _ us hl => match us, hl with | [_, _, _], _ => rfl
  refine F.ok (CX := L2.CX P w) scInit (fun vs H Q E h => ?_) (fun cdv A outer s H vs Q E hr h => ?_)
  · obtain ⟨p, dx, vt, rfl, _⟩ := h
    rfl
  · obtain ⟨p, dx, vt, rfl, e0, hc⟩ := h
    have hr2 := hr.mono (show 2 ≤ 4 by decide)
    refine ⟨_, pss_cons (ps_if (pt_not (pt_val (pe_callB call_isi (by rfl) B.isi (by decide +kernel) (pa_cons (pv 1) (pa_cons (pe_bltn (v := .ty "str") (by rfl) B.str PyProof.Rows.Boot.«str» rfl) pa_nil)))))
        (pss_one (ps_raise rfl (takes_of rfl rfl rfl rfl) (pmk_oex tB.oex tB.ic tB.ti GE hr2 bE .nil pass0 (by rfl) gB (pa_cons pe_int pa_nil)))) pss_nil)
      (pss_cons (ps_setLc (i := 2) (own := [("line", 5)]) (g := gName 5) (tt := tYes) rfl scInit.nd rfl rfl (sw_true rfl rfl rfl (by decide +kernel)) (pi_list (pe_split (pv 1) pe_str)) (blkOk_by (N := ["self", "text", "lines", "number", "words", "line"]) (sc := defScope sInit) (by decide +kernel))
        (fun _ _ _ _ _ => pg_name (i := 5) scInit.nd rfl (Or.inl rfl)) (fun _ _ _ _ _ => pts_nil) (fun _ _ _ _ _ => pe_split (pv 5) pe_str))
      (pss_cons (ps_if (pt_not (pt_val (pe_call GP hr2 rfl gP FP.kp bP .nil pass0 (pa_cons (pe_ix ix_list (pv 2) pe_int (fun _ _ => rfl)) pa_nil))))
        (pss_one (ps_raise rfl (takes_of rfl rfl rfl rfl) (pmk_oex tB.oex tB.ic tB.ti GE hr2 bE .nil pass0 (by rfl) gB (pa_cons pe_int pa_nil)))) pss_nil)
      (pss_cons (ps_fld (pv 0) (pv 1) (by rfl))
      (pss_cons (ps_fld (pv 0) (pe_callTy call_tuple_of (by rfl) B.tup boot_tuple (pa_cons (pe_slice sl_list (pe_ix ix_list (pv 2) pe_int (fun _ _ => rfl)) (po_some pe_int) po_none) pa_nil)) (by rfl))
      (pss_cons (ps_fld (pv 0) (pe_tup pa_nil) (by rfl))
      (pss_cons (ps_fld (pv 0) pe_dnewT (by rfl))
      (pss_one (ps_for (passes_of rfl) rfl (pi_enumS (by rfl) B.enum (pa_cons (pe_slice sl_list (pv 2) (po_some pe_int) po_none) pa_nil) (pk_cons pe_int pk_nil)) (pg_tup rfl (pgs_cons (pg_name (i := 3) scInit.nd rfl (Or.inl rfl)) (pgs_cons (pg_name (i := 4) scInit.nd rfl (Or.inl rfl)) pgs_nil)))
        (pss_one (ps_if (pt_not (pt_val (pe_meth (pv 0) Z.cls Z.mTakes GK hr bK .nil pass0 (pa_cons (pv 3) (pa_cons (pv 4) pa_nil)))))
          (pss_one (ps_raise rfl (takes_of rfl rfl rfl rfl) (pmk_oex tB.oex tB.ic tB.ti GE hr2 bE .nil pass0 (by rfl) gB (pa_cons (pv 3) pa_nil)))) pss_nil)))))))))), ?_⟩
    rcases hc with ⟨t, ty, hk, ke⟩ | ⟨x, rfl, tx, kE, kO⟩
    · exact ⟨_, rfl, vt, _, t, _, false, rfl, .ty _, ty, hk, _, rfl, iteT (mkO_ok tB fun dd hdd => ke dd hdd)⟩
    · obtain ⟨w0, rest, hw⟩ : ∃ w0 rest, hallLines x = w0 :: rest := by
        have z := tx.one
        cases q : hallLines x with
        | nil => rw [q] at z; exact absurd z (Nat.lt_irrefl 0)
        | cons a b => exact ⟨a, b, rfl⟩
      have hpo : peopleOf x = w0.drop 1 := by unfold peopleOf; rw [hw]; rfl
      have hpar : parseH x = if peopleB w0 = true then runT (w0.drop 1) 2 rest ([], []) else .inl 1 := by unfold parseH; rw [hw]
      have hfew := tx.few
      rw [hw] at hfew
      have hw0 := tx.ws w0 (by rw [hw]; exact List.mem_cons_self)
      refine ⟨_, rfl, .str x, _, .type "str", _, true, rfl, .ty _, .base (.str x), rfl, _, rfl, iteF ?_⟩
      have hsl : (hallLines x).length = (Txt.split x "\n").length := by unfold hallLines; rw [List.length_map]
      refine ⟨_, rfl, ⟨_, rfl⟩, _, _, rfl, rfl, rfl, (by rw [sizeLine_eq]; have := tx.len; omega), fun l0 hl0 => ⟨l0, rfl, ⟨_, SqL.of upd_same⟩, fun D nD => lc_list (xs := (Txt.split x "\n").map V.str) (fun i H' => Same (L2.upd H l0 (.lst ((Txt.split x "\n").map V.str))) H' ∧ LinesAt H' D ((hallLines x).take i))
        ⟨same_new nD, LinesAt.nil upd_same⟩ (fun i H' _ z => SqL.of (z.1 _ _ upd_same)) ?_ ?_⟩⟩
      · rintro i y H' hy ⟨s1, hl1⟩
        rw [List.getElem?_map] at hy
        obtain ⟨ln, hx, rfl⟩ := Option.map_eq_some_iff.mp hy
        have hm : (hallLines x)[i]? = some (Txt.split ln " ") := by unfold hallLines; rw [List.getElem?_map, hx]; rfl
        obtain ⟨qs, eq1, lq, fq⟩ := id hl1
        refine ⟨rfl, _, rfl, ⟨_, rfl⟩, _, _, rfl, rfl, rfl, (by rw [sizeLine_eq]; have := tx.sh ln (List.mem_of_getElem? hx); omega), fun q hq => ⟨_, (same_new hq) _ _ eq1, ?_, ?_, ?_⟩⟩
        · rw [List.length_map, lq, List.length_take, sizeLine_eq]
          have := tx.few
          omega
        · intro b o hb
          have z := s1 b o hb
          have nb : b ≠ D := ne_of_none hb nD
          rw [upd_ne nb]
          exact (same_new hq) _ _ z
        · have nqD : q ≠ D := fun z => by rw [z, eq1] at hq; cases hq
          rw [take_snocE hm]
          exact hl1.snoc eq1 ((But.of (same_new hq)).up (List.mem_singleton.mpr rfl)) upd_same (by rw [upd_ne nqD, upd_same])
      · rintro H2 ⟨s2, hL⟩
        rw [List.length_map, ← hsl, List.take_length, hw] at hL
        have sH2 : Same H H2 := (same_new hl0).trans s2
        obtain ⟨qs, eD, lq, fq⟩ := id hL
        obtain ⟨q0, qr, rfl⟩ : ∃ q0 qr, qs = q0 :: qr := by
          cases qs with
          | nil => cases lq
          | cons a b => exact ⟨a, b, rfl⟩
        have f0 := fq 0 q0 w0 rfl rfl
        have bs0 : ∀ b o, H b = some o → b ≠ D := fun b o z => ne_of_none ((same_new hl0) b o z) nD
        refine ⟨_, rfl, D, _, _, V.ref q0, rfl, rfl, SqL.of eD, atI_nat (j := 0) (by rfl), q0, w0, rfl, SqL.of f0, hw0.1, (by have := hw0.2.1; omega), hw0.2.2, fun H3 s3 => ⟨_, rfl, ?_⟩⟩
        have sH3 := sH2.trans s3
        cases hp : peopleB w0 with
        | false =>
          rw [hp, if_neg (by simp)] at hpar
          exact iteT (mkO_ok tB fun dd hdd => kE 1 hpar H3 dd (But.of sH3) hdd)
        | true =>
          rw [hp, if_pos rfl] at hpar
          refine iteF ?_
          have e3 := sH3 _ _ e0
          have L3 : LinesAt H3 D (w0 :: rest) := hL.same s3
          have np : ∀ {H' : Hp} {fs}, H' p = some (.ins C dx fs) → ∀ a ∈ [p], ∀ xs, H' a ≠ some (.lst xs) := fun e a ha xs z => by
            rw [List.mem_singleton.mp ha, e] at z
            cases z
          -- text
          refine ⟨_, rfl, _, rfl, p, C, dx, _, rfl, e3, Z.cls, Z.nText, (show 0 < 1000 by decide), ?_⟩
          obtain ⟨H4, hH4⟩ : ∃ H4, H4 = L2.upd H3 p (.ins C dx [("text", .str x)]) := ⟨_, rfl⟩
          show tSeq _ _ _ _ (L2.upd H3 p (.ins C dx [("text", .str x)]))
          rw [← hH4]
          have e4 : H4 p = some (.ins C dx [("text", .str x)]) := by rw [hH4, upd_same]
          have b34 : But [p] H3 H4 := by rw [hH4]; exact But.refl.up (List.mem_singleton.mpr rfl)
          have b4 : But [p] H H4 := (But.of sH3).trans b34
          have eD4 := b34 _ _ (s3 _ _ eD) (by intro z; rw [List.mem_singleton.mp z] at eD; have := s3 _ _ eD; rw [e3] at this; cases this)
          have f04 := b34 _ _ (s3 _ _ f0) (by intro z; rw [List.mem_singleton.mp z] at f0; have := s3 _ _ f0; rw [e3] at this; cases this)
          have L4 : LinesAt H4 D (w0 :: rest) := L3.but b34 (np e3)
          clear hH4
          -- people
          refine ⟨_, rfl, D, _, _, V.ref q0, rfl, rfl, SqL.of eD4, atI_nat (j := 0) (by rfl), _, rfl, q0, _, rfl, SqL.of f04, fun n5 hn5 => ⟨n5, _, rfl, .inl ⟨SqL.of upd_same, fun pp hpp => ?_⟩⟩⟩
          have s5 := (same_new (o := .lst (cutV (w0.map V.str) (some 1) none)) hn5).trans (same_new (o := .tup (cutV (w0.map V.str) (some 1) none)) hpp)
          obtain ⟨H5, hH5⟩ : ∃ H5, H5 = L2.upd (L2.upd H4 n5 (.lst (cutV (w0.map V.str) (some 1) none))) pp (.tup (cutV (w0.map V.str) (some 1) none)) := ⟨_, rfl⟩
          have epp5 : H5 pp = some (.tup ((w0.drop 1).map V.str)) := by rw [hH5, upd_same, cut1]
          rw [← hH5] at s5 ⊢
          clear hH5
          have e5 := s5 _ _ e4
          refine ⟨_, rfl, p, C, dx, _, rfl, e5, Z.cls, Z.nPeople, (show 1 < 1000 by decide), ?_⟩
          obtain ⟨H6, hH6⟩ : ∃ H6, H6 = L2.upd H5 p (.ins C dx [("text", .str x), ("people", .ref pp)]) := ⟨_, rfl⟩
          show tSeq _ _ _ _ (L2.upd H5 p (.ins C dx [("text", .str x), ("people", .ref pp)]))
          rw [← hH6]
          have e6 : H6 p = some (.ins C dx [("text", .str x), ("people", .ref pp)]) := by rw [hH6, upd_same]
          have b56 : But [p] H5 H6 := by rw [hH6]; exact But.refl.up (List.mem_singleton.mpr rfl)
          have b6 : But [p] H H6 := (b4.trans (But.of s5)).trans b56
          have L6 : LinesAt H6 D (w0 :: rest) := (L4.same s5).but b56 (np e5)
          have epp6 := b56 _ _ epp5 (by intro z; rw [List.mem_singleton.mp z, e5] at epp5; cases epp5)
          clear hH6
          -- opens
          refine ⟨Nat.zero_le _, fun o ho => ?_⟩
          have s7 := same_new (o := .tup []) ho
          refine ⟨_, rfl, p, C, dx, _, rfl, s7 _ _ e6, Z.cls, Z.nOpens, (show 2 < 1000 by decide), ?_⟩
          obtain ⟨H7, hH7⟩ : ∃ H7, H7 = L2.upd (L2.upd H6 o (.tup [])) p (.ins C dx [("text", .str x), ("people", .ref pp), ("opens", .ref o)]) := ⟨_, rfl⟩
          show tSeq _ _ _ _ (L2.upd (L2.upd H6 o (.tup [])) p (.ins C dx [("text", .str x), ("people", .ref pp), ("opens", .ref o)]))
          rw [← hH7]
          have nop : o ≠ p := fun z => by rw [z, e6] at ho; cases ho
          have e7 : H7 p = some (.ins C dx [("text", .str x), ("people", .ref pp), ("opens", .ref o)]) := by rw [hH7, upd_same]
          have eo7 : H7 o = some (.tup []) := by rw [hH7, upd_ne nop, upd_same]
          have b67 : But [p] H6 H7 := by rw [hH7]; exact (But.of s7).up (List.mem_singleton.mpr rfl)
          have L7 : LinesAt H7 D (w0 :: rest) := L6.but b67 (np e6)
          have epp7 := b67 _ _ epp6 (by intro z; rw [List.mem_singleton.mp z, e6] at epp6; cases epp6)
          have b7 := b6.trans b67
          clear hH7 s7
          -- told
          intro d hd
          have s8 := same_new (o := .dT []) hd
          refine ⟨_, rfl, p, C, dx, _, rfl, s8 _ _ e7, Z.cls, Z.nTold, (show 3 < 1000 by decide), ?_⟩
          obtain ⟨H8, hH8⟩ : ∃ H8, H8 = L2.upd (L2.upd H7 d (.dT [])) p (.ins C dx (fsH x pp o d)) := ⟨_, rfl⟩
          have hput : putF "_told" (V.ref d) [("text", V.str x), ("people", V.ref pp), ("opens", V.ref o)] = fsH x pp o d := rfl
          rw [hput, ← hH8]
          have ndp : d ≠ p := fun z => by rw [z, e7] at hd; cases hd
          have e8 : H8 p = some (.ins C dx (fsH x pp o d)) := by rw [hH8, upd_same]
          have ed8 : H8 d = some (.dT []) := by rw [hH8, upd_ne ndp, upd_same]
          have b78 : But [p] H7 H8 := by rw [hH8]; exact (But.of s8).up (List.mem_singleton.mpr rfl)
          have L8 : LinesAt H8 D (w0 :: rest) := L7.but b78 (np e7)
          have epp8 := b78 _ _ epp7 (by intro z; rw [List.mem_singleton.mp z, e7] at epp7; cases epp7)
          have eo8 := b78 _ _ eo7 (by simpa using nop)
          have b8 := b7.trans b78
          have hd0 : H d = none := by
            cases z : H d with
            | none => rfl
            | some ob =>
              have z2 := b7 d ob z (by simp [ndp])
              rw [hd] at z2
              cases z2
          have nd : ∀ b ob, H b = some ob → b ∉ [p] → b ≠ d := fun b ob z n => ne_of_none (b7 b ob z n) hd
          have A8 : HallAt K H8 C p x pp o d (w0.drop 1) [] [] := ⟨⟨dx, e8⟩, epp8, ⟨[], eo8, rfl, fun i q op h1 _ => by simp at h1⟩, ed8, fun op z => by cases z⟩
          clear hH8 s8
          obtain ⟨qs8, eD8, lq8, fq8⟩ := id L8
          obtain ⟨q8, qr8, rfl⟩ : ∃ q0 qr, qs8 = q0 :: qr := by
            cases qs8 with
            | nil => cases lq8
            | cons a b => exact ⟨a, b, rfl⟩
          have lr : qr8.length = rest.length := by simpa using lq8
          have hps : ∀ y ∈ w0.drop 1, PyData.strOk y = true := by
            unfold peopleB at hp
            simp only [Bool.and_eq_true] at hp
            exact fun y hy => nameOk (List.all_eq_true.mp hp.2.2.2.2 y hy)
          refine ⟨_, rfl, _, rfl, D, _, rfl, SqL.of eD8, fun n9 hn9 => ?_⟩
          have s9 := same_new (o := .lst (cutV ((q8 :: qr8).map V.ref) (some 1) none)) hn9
          obtain ⟨H9, hH9⟩ : ∃ H9, H9 = L2.upd H8 n9 (.lst (cutV ((q8 :: qr8).map V.ref) (some 1) none)) := ⟨_, rfl⟩
          have en9 : H9 n9 = some (.lst (qr8.map V.ref)) := by rw [hH9, upd_same, cut1G]; rfl
          rw [← hH9] at s9 ⊢
          clear hH9
          have A9 := A8.same s9
          obtain ⟨dx9, e9⟩ := id A9.ex
          have keepL : ∀ H', But [p, d] H9 H' → ∀ b xs, H9 b = some (.lst xs) → H' b = some (.lst xs) := fun H' s b xs z => s b _ z (by
            intro m
            rcases List.mem_cons.mp m with m | m
            · rw [m, e9] at z; cases z
            · rw [List.mem_singleton.mp m, A9.t] at z; cases z)
          have fq9 : ∀ (i : Nat) (q : Addr) (ws : List Str), qr8[i]? = some q → rest[i]? = some ws → H9 q = some (.lst (ws.map V.str)) := fun i q ws h1 h2 => s9 _ _ (fq8 (i + 1) q ws (by simpa using h1) (by simpa using h2))
          have back : ∀ H', But [p, d] H9 H' → But [p] H H' := fun H' s b ob z n => s b ob (s9 _ _ (b8 b ob z n)) (by
            intro m
            rcases List.mem_cons.mp m with m | m
            · exact n (by simp [m])
            · exact nd b ob z n (List.mem_singleton.mp m))
          refine ⟨n9, qr8.map V.ref, 2, rfl, rfl, by decide, by decide, SqL.of en9, for_it walk_enumS (fun i σ H' => ∃ u3 u4 u5 ops T o', σ = [some (.ref p), some (.str x), some (.ref D), u3, u4, u5] ∧ But [p, d] H9 H' ∧ HallAt K H' C p x pp o' d (w0.drop 1) ops T ∧ ops.length ≤ i ∧ T.length ≤ i * 10000 ∧
              runT (w0.drop 1) (2 + i) (rest.drop i) (ops, T) = parseH x) ⟨_, _, _, [], [], o, rfl, But.refl, A9, Nat.le_refl _, Nat.zero_le _, hpar.symm⟩ (fun i σ H' _ ⟨_, _, _, _, _, _, _, b, _⟩ => SqL.of (keepL H' b _ _ en9)) ?_ ?_⟩
          · rintro i y σ H' H'' hi ⟨u3, u4, u5, ops, T, o', rfl, b9, A', lo, lt, hrun⟩ ⟨Tt, a1, a2, rfl, hT, rfl, e1, e2⟩
            have ea : a1 = V.int ((2 + i : Nat) : Int) := by
              have z := Option.some.inj e1
              rw [← z]
              simp
            subst ea
            rw [List.length_map] at hi
            have hi2 : i < rest.length := by omega
            obtain ⟨q, hq⟩ : ∃ q, qr8[i]? = some q := ⟨qr8[i], List.getElem?_eq_getElem hi⟩
            obtain ⟨ws, hws⟩ : ∃ ws, rest[i]? = some ws := ⟨rest[i], List.getElem?_eq_getElem hi2⟩
            have e2' : (qr8.map V.ref)[i]? = some a2 := e2
            rw [List.getElem?_map, hq] at e2'
            obtain rfl : V.ref q = a2 := Option.some.inj e2'
            have hmem : ws ∈ hallLines x := by rw [hw]; exact List.mem_cons_of_mem _ (List.mem_of_getElem? hws)
            have tw := tx.ws ws hmem
            have sT := same_new (o := .tup [V.int ((2 + i : Nat) : Int), V.ref q]) hT
            have AT := A'.same sT
            obtain ⟨dxT, eT⟩ := id AT.ex
            have edrop : rest.drop i = ws :: rest.drop (i + 1) := by
              rw [List.drop_eq_getElem_cons hi2]
              rw [List.getElem?_eq_getElem hi2] at hws
              rw [Option.some.inj hws]
            rw [edrop] at hrun
            have hrun2 : (match MX.stepT (w0.drop 1) (2 + i) ws (ops, T) with
              | none => Sum.inl (2 + i)
              | some ot' => runT (w0.drop 1) (2 + i + 1) (rest.drop (i + 1)) ot') = parseH x := hrun
            have bT : But [p, d] H9 (L2.upd H' Tt (.tup [V.int ((2 + i : Nat) : Int), V.ref q])) := b9.trans (But.of sT)
            have hfew' : i < 500 := by
              have z : (w0 :: rest).length ≤ 500 := hfew
              rw [List.length_cons] at z
              omega
            refine ⟨Tt, _, rfl, SqT.of upd_same, rfl, _, _, rfl, _, _, rfl, rfl, ?_⟩
            refine ⟨_, rfl, p, dxT, _, rfl, eT, rfl, _, rfl, _, rfl, p, q, pp, o', d, 2 + i, x, ws, w0.drop 1, ops, T, rfl, AT, SqL.of (sT _ _ (keepL H' b9 _ _ (fq9 i q ws hq hws))), tw.1, tw.2.1, hps, by omega, by omega, fun hN H3' s3' => ?_, fun ops' T' hS H3' o3 b3 A3 => ?_⟩
            · rw [hN] at hrun2
              exact ⟨_, rfl, iteT ⟨_, rfl, mkO_ok tB fun dd hdd => kE (2 + i) hrun2.symm H3' dd (back H3' (bT.trans (But.of s3'))) hdd⟩⟩
            · rw [hS] at hrun2
              have hl' := step_len hS tw.2.1
              refine ⟨_, rfl, iteF ⟨_, _, _, ops', T', o3, rfl, bT.trans b3, A3, by omega, by omega, ?_⟩⟩
              rw [show 2 + (i + 1) = 2 + i + 1 by omega]
              exact hrun2
          · rintro σ H' ⟨u3, u4, u5, ops, T, o', rfl, b9, A', lo, lt, hrun⟩
            rw [List.length_map, lr, List.drop_length] at hrun
            refine kO ops T hrun.symm H' pp o' d (back H' b9) hd0 ?_
            rw [hpo]
            exact A'
end
end K15

set_option Elab.async false
set_option linter.all false
set_option maxRecDepth 100000
set_option maxHeartbeats 4000000
namespace QX
open PySem PySem.Spec PySem.W PySem.Calls PyProof.Rows L2 MX
section
variable {κ : Kx} {W : WX} {M0 M0' M M' M1 M2 N : List Addr} {Γ Γ1 Γ2 : En} {σ : L2.St} {H H1 H2 : Hp} {a t : Addr} {D : Ends}
end
section
variable {X : Cx} {cA : CA} {W : WX} {x y z : Str} {pos pos' p p1 p2 p3 pt apos : Pos} {a b c e : Expr} {fs : SXA}
end
/-! ### len of a list, a tuple, a text, a dict by tuples -/
theorem tkeys_len : ∀ {ks : List PV} {kk : List (List Key)}, tkeysOf ks = some kk → kk.length = ks.length
  | [], kk, h => by cases h; rfl
  | k :: ks, kk, h => by
    unfold tkeysOf at h
    cases h1 : tkeyOf k with
    | none => rw [h1] at h; cases h
    | some a =>
      cases h2 : tkeysOf ks with
      | none => rw [h1, h2] at h; cases h
      | some b =>
        rw [h1, h2] at h
        cases h
        rw [List.length_cons, List.length_cons, tkeys_len h2]
def gLenX : List PV → Option PV
  | [.dct ks vs] => match tkeysOf ks with
    | some (_ :: _) => some (.int (ks.length : Nat))
    | _ => none
  | xs => gLen xs
theorem call_lenX {X : Cx} : CallR X (.builtin "len") (fun xs H Q => rLenP X.K xs H Q ∨ rLenT xs H Q) := CallR.or call_lenP call_len_dT
theorem rdc_lenX {κ : Kx} : RDc κ (fun xs H Q => rLenP κ.K xs H Q ∨ rLenT xs H Q) gLenX := fun as c xs M H Q e r al q => by
  unfold gLenX at e
  split at e
  · rename_i ks vs
    split at e
    · rename_i k kk hk
      cases e
      obtain ⟨v, rfl, rv⟩ := rpA1 r
      unfold Rp at rv
      obtain ⟨a, us, rfl, h, l, rw_⟩ := rv
      rcases h with ⟨k2, h1, h2⟩ | ⟨k2, h1, h2⟩
      · exact (excl h1 hk).elim
      · refine .inr ⟨a, k2.zip us, rfl, (msk_of h2).1, ?_⟩
        have z := tkeys_len h1
        have e2 : (k2.zip us).length = ks.length := by rw [List.length_zip]; omega
        rw [e2]
        exact q H _ (Same.refl H) (rp_int.mpr rfl)
    · cases e
  · exact .inl (rdc_len as c xs M H Q e r al q)
end QX

set_option Elab.async false
set_option linter.all false
set_option maxRecDepth 100000
set_option maxHeartbeats 4000000
namespace QX
open PySem PySem.Spec PySem.W PySem.Calls PyProof.Rows L2 MX
/-! ### comprehensions with two sources -/
def lcL2 (vs vs1 : List Nat) (g : SG) (t : SE) (i1 : SIt) (g1 : SG) (t1 e : SE) : List PV → En → Rs (List PV)
  | [], Γ => .ok [] Γ
  | y :: ys, Γ => match g y (wipeE vs Γ) with
    | .nx Γ1 => match t Γ1 with
      | .ok (.bl true) Γ2 => match i1 Γ2 with
        | .ok zs Γ3 => match lcL vs1 g1 t1 e zs (wipeE vs1 Γ3) with
          | .ok ws Γ4 => match lcL2 vs vs1 g t i1 g1 t1 e ys (wipeE vs Γ4) with
            | .ok ws2 Γ5 => .ok (ws ++ ws2) Γ5
            | _ => .no
          | _ => .no
        | _ => .no
      | .ok (.bl false) Γ2 => lcL2 vs vs1 g t i1 g1 t1 e ys (wipeE vs Γ2)
      | _ => .no
    | _ => .no
def sLc2 (vs vs1 : List Nat) (it : SIt) (g : SG) (t : SE) (i1 : SIt) (g1 : SG) (t1 e : SE) : SE := fun Γ => (it Γ).bind fun ys Γ1 => if okW vs Γ1 = true then (match lcL2 vs vs1 g t i1 g1 t1 e ys (wipeE vs Γ1) with
    | .ok ws Γ2 => if ws.length ≤ 1000000 then .ok (.lst ws) (rest vs Γ1 Γ2) else .no
    | _ => .no) else .no
section
variable {κ : Kx} {M0 M M1 M3 N N1 : List Addr} {Γ Γ1 Γ2 Γ3 Γ4 Γa : En} {σ σ2 : L2.St} {H H1 H2 Ha Hc Hd : Hp} {vs vs1 : List Nat} {t : Addr} {o o' : HO}
theorem msk_upd' (h : t ∈ M) : msk M (L2.upd H t o) = msk M H := funext fun b => by
  unfold msk
  by_cases c : b ∈ M
  · rw [if_pos c, if_pos c]
  · rw [if_neg c, if_neg c, upd_ne (fun z => c (by rw [z]; exact h))]
theorem EOK.swapB (ok : EOK κ M0 M Γ σ H) (ht : t ∈ M0) (hm : Mut o) : EOK κ M0 M Γ σ (L2.upd H t o) := by
  have tM := ok.sub t ht
  have mq : msk M (L2.upd H t o) = msk M H := msk_upd' tM
  refine ⟨ok.len, fun k v e => by rw [mq]; exact ok.va k v e, fun k io v e => ?_, ok.inj, ok.sub, fun b hb => ?_, tabs_upd ok.tab (.inr (ok.alive t tM))⟩
  · obtain ⟨a, e1, m, n, r⟩ := ok.ow k io v e
    exact ⟨a, e1, m, n, r.st (upd_ne (fun z => n (by rw [z]; exact ht))) (by rw [mq]; exact LamX.ExtN.refl _)⟩
  · obtain ⟨o2, e2, m2⟩ := ok.alive b hb
    by_cases c : b = t
    · rw [c, upd_same]; exact ⟨_, rfl, hm⟩
    · exact ⟨o2, by rw [upd_ne c]; exact e2, m2⟩
theorem Stp.swapG (s : Stp κ M0 M Γ σ H M1 Γ1 H1) (ht : t ∈ M0) (hm : Mut o) : Stp κ M0 M Γ σ (L2.upd H t o) M1 Γ1 (L2.upd H1 t o) := by
  refine ⟨s.eok.swapB ht hm, s.sub, fun b u e n nt => ?_, s.ows, fun b hb => ?_⟩
  · by_cases c : b = t
    · rw [c, upd_same] at e ⊢
      exact e
    · rw [upd_ne c] at e ⊢
      exact s.chg b u e n nt
  · by_cases c : b = t
    · rw [c, upd_same]; exact fun z => by cases z
    · rw [upd_ne c] at hb
      exact upd_some (s.liv b hb)
/-- the inner loop, as one step of the outer -/
theorem Stp.turn2 (s : Stp κ M0 M Γ (wipe σ vs) Ha M3 (wipeE vs Γ3) Hc) (hno : ∀ k io v, Γ3[k]? = some (.ow io v) → k ∉ vs) (e : wipe σ2 vs = wipe σ vs) (e2 : wipe (wipe σ2 vs1) vs = wipe σ2 vs) (hs : ∀ k ∈ vs1, k ∈ vs) (s2 : Stp κ M0 M3 (wipeE vs1 Γ3) (wipe σ2 vs1) Hc N Γ4 Hd) : Stp κ M0 M Γ (wipe σ vs) Ha N (wipeE vs Γ4) Hd := by
  refine ⟨?_, fun b hb => s.sub b (s2.sub b hb), fun b u eb n nt => s2.chg b u (s.chg b u eb n nt) (fun z => ?_) nt, fun k io v ek => ?_, fun b hb => s2.liv b (s.liv b hb)⟩
  · have z := s2.eok.wipe (vs := vs) (wipe σ2 vs1) rfl rfl
    rw [e2, e] at z
    exact z
  · obtain ⟨k, io, v, e3, e4⟩ := wipeE_own z
    have kn := hno k io v e3
    refine n (s.ows.own ⟨k, io, v, ?_, ?_⟩)
    · rw [wipeE_out kn]; exact e3
    · rw [← e, wipe_out kn]; exact e4
  · obtain ⟨v1, e1⟩ := wipeE_ows k io v ek
    obtain ⟨v2, e3⟩ := s2.ows k io v1 e1
    obtain ⟨v3, e4⟩ := wipeE_ows k io v2 e3
    have kn := hno k io v3 e4
    exact s.ows k io v3 (by rw [wipeE_out kn]; exact e4)
theorem lc_in {ks1 : List Nat} {g1 : SG} {t1 fe : SE} {J1 : It} {zs ws : List PV} {Γe : En} {D : Addr} {us0 : List V} {Nx : Hp → Prop} (ok : EOK κ M0 M Γ σ H) (hD : D ∈ M0) (hd : H D = some (.lst us0)) (it : ItOk κ M H J1 zs) (hk : ∀ k ∈ ks1, k ∈ vs1)
    (hl : lcL vs1 g1 t1 fe zs (wipeE vs1 Γ) = .ok ws Γe) (hn : us0.length + ws.length < sizeLine)
    (q : ∀ N H' us1, Stp κ M0 M (wipeE vs1 Γ) (wipe σ vs1) (L2.upd H D (.lst (us0 ++ us1))) N Γe H' → LamX.ExtN (msk M H) (msk N H') → RpA κ ws us1 (msk N H') → Nx H') :
    ∃ W1 : Nat → Nat → Hp → Prop, (∃ m, W1 0 m H) ∧ ∀ j k H, W1 j k H → (J1.stop j H ∧ Nx H) ∨ (J1.go j H ∧ ∃ Nx1 : Hp → Prop, (∀ H', Nx1 H' → ∃ k', k' < k ∧ W1 (j + 1) k' H') ∧ ∀ x H', J1.yld j H x H' → tPG κ ks1 g1 x (wipe σ vs1) H' fun σ3 H5 => wipe σ3 vs1 = wipe σ vs1 ∧ tPT κ W0 t1 σ3 H5 fun b H6 =>
        if b = true then tP κ W0 fe σ3 H6 fun y H7 => ∃ acc, H7 D = some (.lst acc) ∧ acc.length < sizeLine ∧ Nx1 (L2.upd H7 D (.lst (acc ++ [y]))) else Nx1 H6) := by
  obtain ⟨G, Y, wk, hg⟩ := it
  have okw : EOK κ M0 M (wipeE vs1 Γ) (wipe σ vs1) H := ok.wipe σ rfl rfl
  have DM := ok.sub D hD
  have nD : ∀ {Γ' : En} {σ' : L2.St} {H' : Hp}, EOK κ M0 M Γ' σ' H' → ¬ Own Γ' σ' D := fun {Γ' σ' H'} ok z => (ok.own z).2 hD
  have sm0 : ∀ {us : List V} {M' : List Addr} {Γ' : En} {H' : Hp}, Stp κ M0 M (wipeE vs1 Γ) (wipe σ vs1) (L2.upd H D (.lst us)) M' Γ' H' → LamX.ExtN (msk M H) (msk M' H') := fun {us M' Γ' H'} s => by
    have z := s.same (okw.swapB hD (.inl ⟨_, rfl⟩))
    rw [msk_upd' DM] at z
    exact z
  refine Exists.elim (for_it wk (g := fun x σ' H' Q => tPG κ ks1 g1 x σ' H' Q) (tb := fun D' σ3 H5 => wipe σ3 vs1 = wipe σ vs1 ∧ tPT κ W0 t1 σ3 H5 fun b H6 =>
        if b = true then tP κ W0 fe σ3 H6 fun y H7 => ∃ acc, H7 D = some (.lst acc) ∧ acc.length < sizeLine ∧ D'.nx (wipe σ vs1) (L2.upd H7 D (.lst (acc ++ [y]))) else D'.nx (wipe σ vs1) H6)
    (D := { nx := fun _ H => Nx H, rt := fun _ _ => False }) (σ := wipe σ vs1) (H := H)
    (fun i σ' H' => σ' = wipe σ vs1 ∧ ∃ us1 M' Γ' acc ws2, Stp κ M0 M (wipeE vs1 Γ) (wipe σ vs1) (L2.upd H D (.lst (us0 ++ us1))) M' Γ' H' ∧ wipeE vs1 Γ' = Γ' ∧ RpA κ acc us1 (msk M' H') ∧ lcL vs1 g1 t1 fe (zs.drop i) Γ' = .ok ws2 Γe ∧ acc ++ ws2 = ws)
    ⟨rfl, [], _, _, [], ws, by rw [List.append_nil, upd_id hd]; exact Stp.refl okw, wipeE_idem, rpA_nil, by rw [List.drop_zero]; exact hl, rfl⟩ (fun i σ' H' hi ⟨_, us, M', Γ', acc, ws2, s, _⟩ => (hg M' H' (sm0 s)).1) (fun i x σ' Ha Hb hi ⟨eσ, us, M', Γ', acc, ws2, s, ew, ra, el, ea⟩ y => ?_) (fun σ' H' ⟨eσ, us, M', Γ', acc, ws2, s, ew, ra, el, ea⟩ => ?_)) fun Wv ⟨⟨m, hm⟩, hw⟩ => ⟨fun j k H => Wv j k (wipe σ vs1) H, ⟨m, hm⟩, fun j k H z => by
      rcases hw j k _ H z with ⟨a, b⟩ | ⟨a, Nx2, b, c⟩
      · exact .inl ⟨a, b⟩
      · exact .inr ⟨a, fun H => Nx2 (wipe σ vs1) H, fun H' z => b _ H' z, c⟩⟩
  · subst eσ
    obtain ⟨sm, p, hp, rp⟩ := (hg M' Ha (sm0 s)).2 s.eok.alive i x Hb hi y
    have ed : zs.drop i = p :: zs.drop (i + 1) := by
      rw [List.drop_eq_getElem_cons hi]
      congr 1
      exact (List.getElem?_eq_some_iff.mp hp).2
    rw [ed] at el
    unfold lcL at el
    rw [ew] at el
    have s1 := s.trans (Stp.of s.eok sm)
    refine ⟨M0, M', Γ', p, s1.eok, rp, ?_⟩
    cases hq : g1 p Γ' with
    | nx Γ1 =>
      simp only [hq] at el
      intro σ2 ok2 o2
      have we : wipe σ2 vs1 = wipe σ vs1 := wipe_eq (by rw [o2.ls, wipe_length]) fun m hm => by rw [(o2.out m (fun z => hm (hk m z))).2, wipe_out hm]
      refine ⟨we, M0, M', Γ1, ok2, ?_⟩
      cases ht : t1 Γ1 with
      | no => simp only [ht] at el; cases el
      | ex c v Γ2 => simp only [ht] at el; cases el
      | ok bv Γ2 =>
        simp only [ht] at el
        cases bv with
        | bl b =>
          intro M2 H3 u s2 rb
          refine ⟨b, rp_bl.mp rb, ?_⟩
          cases b with
          | false =>
            refine iteF ⟨rfl, us, M2, wipeE vs1 Γ2, acc, ws2, s1.turn o2 we s2, wipeE_idem, ?_, el, ea⟩
            exact s2.keepA ok2 (RpA.st (LamX.ExtN.of (msk_same sm)) ra)
          | true =>
            refine iteT ⟨M0, M2, Γ2, s2.eok, ?_⟩
            simp only at el
            cases he : fe Γ2 with
            | no => simp only [he] at el; cases el
            | ex c v Γ3 => simp only [he] at el; cases el
            | ok w Γ3 =>
              simp only [he] at el
              cases hr : lcL vs1 g1 t1 fe (zs.drop (i + 1)) (wipeE vs1 Γ3) with
              | no => simp only [hr] at el; cases el
              | ex c v Γ4 => simp only [hr] at el; cases el
              | ok ws3 Γ4 =>
                simp only [hr] at el
                cases el
                intro M3 H4 u3 s3 rw3
                have st := s1.turn o2 we (s2.trans s3)
                have hd4 : H4 D = some (.lst (us0 ++ us)) := st.chg D _ upd_same (nD okw) (fun _ z => by cases z)
                refine ⟨us0 ++ us, hd4, ?_, ?_⟩
                · have l1 : us.length = acc.length := ra.len
                  have l2 : acc.length + (ws3.length + 1) = ws.length := by rw [← ea]; simp
                  rw [List.length_append]
                  omega
                · have st2 := st.swapG (o := .lst (us0 ++ us ++ [u3])) hD (.inl ⟨_, rfl⟩)
                  rw [upd_upd, List.append_assoc] at st2
                  refine ⟨rfl, us ++ [u3], M3, wipeE vs1 Γ3, acc ++ [w], ws3, by rw [List.append_assoc]; exact st2, wipeE_idem, ?_, hr, by rw [← ea, List.append_assoc]; rfl⟩
                  rw [msk_upd' (s3.eok.sub D hD)]
                  exact rp_snoc (s3.keepA s2.eok (s2.keepA ok2 (RpA.st (LamX.ExtN.of (msk_same sm)) ra))) rw3
        | _ => simp only at el; cases el
    | _ => simp only [hq] at el; cases el
  · rw [List.drop_length] at el
    cases el
    rw [List.append_nil] at ea
    subst ea
    exact q M' H' us s (sm0 s) ra
theorem lc2_out {ks ks1 : List Nat} {g g1 : SG} {i1 : SIt} {ft t1 fe : SE} {J : It} {ys ws : List PV} {Γe : En} {Q : VK} (ok : EOK κ M0 M Γ σ H) (it : ItOk κ M H J ys) (hk : ∀ k ∈ ks, k ∈ vs) (hk1 : ∀ k ∈ ks1, k ∈ vs1) (hs1 : ∀ k ∈ vs1, k ∈ vs) (hw : okW vs Γ = true) (hl : lcL2 vs vs1 g ft i1 g1 t1 fe ys (wipeE vs Γ) = .ok ws Γe) (hn : ws.length ≤ 1000000)
    (q : ∀ M' H' u, Stp κ M0 M Γ σ H M' (QX.rest vs Γ Γe) H' → Rp κ (.lst ws) u (msk M' H') → Q u H') (D : Addr) (hD : H D = none) :
    ∃ W : Nat → Nat → Hp → Prop, (∃ m, W 0 m (L2.upd H D (.lst []))) ∧ ∀ i m H, W i m H →
  (J.stop i H ∧ Q (.ref D) H) ∨ (J.go i H ∧ ∃ Nx : Hp → Prop, (∀ H', Nx H' → ∃ m', m' < m ∧ W (i + 1) m' H') ∧ ∀ x H', J.yld i H x H' → tPG κ ks g x (wipe σ vs) H' fun σ2 H2 => wipe σ2 vs = wipe σ vs ∧ tPT κ W0 ft σ2 H2 fun b H3 =>
    if b = true then tPI κ W0 i1 σ2 H3 fun J1 H4 => ∃ W1 : Nat → Nat → Hp → Prop, (∃ m, W1 0 m H4) ∧ ∀ j k H, W1 j k H →
      (J1.stop j H ∧ Nx H) ∨ (J1.go j H ∧ ∃ Nx1 : Hp → Prop, (∀ H', Nx1 H' → ∃ k', k' < k ∧ W1 (j + 1) k' H') ∧ ∀ x H', J1.yld j H x H' → tPG κ ks1 g1 x (wipe σ2 vs1) H' fun σ3 H5 => wipe σ3 vs1 = wipe σ2 vs1 ∧ tPT κ W0 t1 σ3 H5 fun b H6 =>
        if b = true then tP κ W0 fe σ3 H6 fun y H7 => ∃ acc, H7 D = some (.lst acc) ∧ acc.length < sizeLine ∧ Nx1 (L2.upd H7 D (.lst (acc ++ [y]))) else Nx1 H6)
    else Nx H3) := by
  obtain ⟨G, Y, wk, hg⟩ := it
  have okw : EOK κ M0 M (wipeE vs Γ) (wipe σ vs) H := ok.wipe σ rfl rfl
  have sm0 : ∀ {us : List V} {M' : List Addr} {Γ' : En} {H' : Hp}, Stp κ (D :: M0) (D :: M) (wipeE vs Γ) (wipe σ vs) (L2.upd H D (.lst us)) M' Γ' H' → LamX.ExtN (msk M H) (msk M' H') := fun {us M' Γ' H'} s => by
    have z := s.same (okw.push hD)
    rw [msk_push hD] at z
    exact z
  refine Exists.elim (for_it wk (g := fun x σ' H' Q => tPG κ ks g x σ' H' Q) (tb := fun D' σ2 H2 => wipe σ2 vs = wipe σ vs ∧ tPT κ W0 ft σ2 H2 fun b H3 =>
    if b = true then tPI κ W0 i1 σ2 H3 fun J1 H4 => ∃ W1 : Nat → Nat → Hp → Prop, (∃ m, W1 0 m H4) ∧ ∀ j k H, W1 j k H →
      (J1.stop j H ∧ D'.nx (wipe σ vs) H) ∨ (J1.go j H ∧ ∃ Nx1 : Hp → Prop, (∀ H', Nx1 H' → ∃ k', k' < k ∧ W1 (j + 1) k' H') ∧ ∀ x H', J1.yld j H x H' → tPG κ ks1 g1 x (wipe σ2 vs1) H' fun σ3 H5 => wipe σ3 vs1 = wipe σ2 vs1 ∧ tPT κ W0 t1 σ3 H5 fun b H6 =>
        if b = true then tP κ W0 fe σ3 H6 fun y H7 => ∃ acc, H7 D = some (.lst acc) ∧ acc.length < sizeLine ∧ Nx1 (L2.upd H7 D (.lst (acc ++ [y]))) else Nx1 H6)
    else D'.nx (wipe σ vs) H3)
    (D := { nx := fun _ H => Q (.ref D) H, rt := fun _ _ => False }) (σ := wipe σ vs) (H := L2.upd H D (.lst []))
    (fun i σ' H' => σ' = wipe σ vs ∧ ∃ us M' Γ' acc ws2, Stp κ (D :: M0) (D :: M) (wipeE vs Γ) (wipe σ vs) (L2.upd H D (.lst us)) M' Γ' H' ∧ wipeE vs Γ' = Γ' ∧ RpA κ acc us (msk M' H') ∧ lcL2 vs vs1 g ft i1 g1 t1 fe (ys.drop i) Γ' = .ok ws2 Γe ∧ acc ++ ws2 = ws)
    ⟨rfl, [], _, _, [], ws, Stp.refl (okw.push hD), wipeE_idem, rpA_nil, by rw [List.drop_zero]; exact hl, rfl⟩ (fun i σ' H' hi ⟨_, us, M', Γ', acc, ws2, s, _⟩ => (hg M' H' (sm0 s)).1) (fun i x σ' Ha Hb hi ⟨eσ, us, M', Γ', acc, ws2, s, ew, ra, el, ea⟩ y => ?_) (fun σ' H' ⟨eσ, us, M', Γ', acc, ws2, s, ew, ra, el, ea⟩ => ?_)) fun Wv ⟨⟨m, hm⟩, hw2⟩ => ⟨fun j k H => Wv j k (wipe σ vs) H, ⟨m, hm⟩, fun j k H z => by
      rcases hw2 j k _ H z with ⟨a, b⟩ | ⟨a, Nx2, b, c⟩
      · exact .inl ⟨a, b⟩
      · exact .inr ⟨a, fun H => Nx2 (wipe σ vs) H, fun H' z => b _ H' z, c⟩⟩
  · subst eσ
    obtain ⟨sm, p, hp, rp⟩ := (hg M' Ha (sm0 s)).2 s.eok.alive i x Hb hi y
    have ed : ys.drop i = p :: ys.drop (i + 1) := by
      rw [List.drop_eq_getElem_cons hi]
      congr 1
      exact (List.getElem?_eq_some_iff.mp hp).2
    rw [ed] at el
    unfold lcL2 at el
    rw [ew] at el
    have s1 := s.trans (Stp.of s.eok sm)
    refine ⟨D :: M0, M', Γ', p, s1.eok, rp, ?_⟩
    cases hq : g p Γ' with
    | nx Γ1 =>
      simp only [hq] at el
      intro σ2 ok2 o2
      have we : wipe σ2 vs = wipe σ vs := wipe_eq (by rw [o2.ls, wipe_length]) fun m hm => by rw [(o2.out m (fun z => hm (hk m z))).2, wipe_out hm]
      refine ⟨we, D :: M0, M', Γ1, ok2, ?_⟩
      cases ht : ft Γ1 with
      | no => simp only [ht] at el; cases el
      | ex c v Γ2 => simp only [ht] at el; cases el
      | ok bv Γ2 =>
        simp only [ht] at el
        cases bv with
        | bl b =>
          intro M2 H3 u s2 rb
          refine ⟨b, rp_bl.mp rb, ?_⟩
          cases b with
          | false =>
            refine iteF ⟨rfl, us, M2, wipeE vs Γ2, acc, ws2, s1.turn o2 we s2, wipeE_idem, ?_, el, ea⟩
            exact s2.keepA ok2 (RpA.st (LamX.ExtN.of (msk_same sm)) ra)
          | true =>
            refine iteT ⟨D :: M0, M2, Γ2, s2.eok, ?_⟩
            simp only at el
            cases hi1 : i1 Γ2 with
            | no => simp only [hi1] at el; cases el
            | ex c v Γ3 => simp only [hi1] at el; cases el
            | ok zs Γ3 =>
              simp only [hi1] at el
              cases hr : lcL vs1 g1 t1 fe zs (wipeE vs1 Γ3) with
              | no => simp only [hr] at el; cases el
              | ex c v Γ4 => simp only [hr] at el; cases el
              | ok ws3 Γ4 =>
                simp only [hr] at el
                cases hr2 : lcL2 vs vs1 g ft i1 g1 t1 fe (ys.drop (i + 1)) (wipeE vs Γ4) with
                | no => simp only [hr2] at el; cases el
                | ex c v Γ5 => simp only [hr2] at el; cases el
                | ok ws4 Γ5 =>
                  simp only [hr2] at el
                  cases el
                  intro M3 H4 J1 s3 it1
                  have st := s1.turn o2 we (s2.trans s3)
                  have hd : H4 D = some (.lst us) := st.at okw hD
                  have l1 : us.length = acc.length := ra.len
                  have l2 : acc.length + (ws3.length + ws4.length) = ws.length := by rw [← ea]; simp
                  have ra4 : RpA κ acc us (msk M3 H4) := s3.keepA s2.eok (s2.keepA ok2 (RpA.st (LamX.ExtN.of (msk_same sm)) ra))
                  refine lc_in (σ := σ2) s3.eok List.mem_cons_self hd it1 hk1 hr (by rw [sizeLine_eq]; omega) fun N H' us1 s5 sm5 r5 => ?_
                  obtain ⟨st2, mq⟩ := st.swap (o' := .lst (us ++ us1)) okw hD
                  refine ⟨rfl, us ++ us1, N, wipeE vs Γ4, acc ++ ws3, ws4, st2.turn2 (fun k io v e3 => ?_) we (wipe_eq (by rw [wipe_length]) fun m hm => by rw [wipe_out (fun z => hm (hs1 m z))]) hs1 s5, wipeE_idem, (RpA.st (sm5) ra4).app r5, hr2, by rw [← ea, List.append_assoc]⟩
                  obtain ⟨v2, e4⟩ := (s2.trans s3).ows k io v e3
                  have k1 : k ∉ ks := fun z => o2.inn k z io v2 e4
                  rw [(o2.out k k1).1] at e4
                  intro kv
                  rw [← ew] at e4
                  by_cases l : k < Γ'.length
                  · rw [wipeE_in kv l] at e4
                    cases e4
                  · rw [List.getElem?_eq_none (by rw [wipeE_len]; omega)] at e4
                    cases e4
        | _ => simp only at el; cases el
    | _ => simp only [hq] at el; cases el
  · rw [List.drop_length] at el
    cases el
    rw [List.append_nil] at ea
    subst ea
    obtain ⟨z1, z2⟩ := s.pop0 okw hD
    have hd : H' D = some (.lst us) := s.at okw hD
    refine q (wo D M') H' (.ref D) (Stp.rest ok hw z1) ?_
    exact rp_lst.mpr ⟨D, us, rfl, by rw [msk_in (fun z => (mem_wo.mp z).2 rfl)]; exact hd, RpA.st (LamX.ExtN.of z2) ra⟩
end
section
variable {X : Cx} {cA : CA} {W : WX} {x y z : Str} {pos pos' cpos p p1 p2 p3 pt tpos : Pos} {tg iter tg1 iter1 elt a b c e e2 : Expr} {fa fb fc ft fe t1 : SE} {ifs ifs1 : List Expr} {fi i1 : SIt} {gf g1 : SG} {ks ks1 : List Nat} {scope : Scope} {own : List (Str × Nat)}
theorem lc_tLc2 {vs1 : List Nat} (hk : ∀ k ∈ ks, k ∈ own.map (·.2)) (hk1 : ∀ k ∈ ks1, k ∈ vs1) (hs1 : ∀ k ∈ vs1, k ∈ own.map (·.2)) {σ : L2.St} {H : Hp} {Q : VK} (h : tP (kx X cA) W (sLc2 (own.map (·.2)) vs1 fi gf ft i1 g1 t1 fe) σ H Q) : tLc2 (tPI (kx X cA) W fi) (tPG (kx X cA) ks gf) (tPT (kx X cA) W0 ft) (tPI (kx X cA) W0 i1) (tPG (kx X cA) ks1 g1) (tPT (kx X cA) W0 t1) (tP (kx X cA) W0 fe) (own.map (·.2)) vs1 σ H Q := by
  obtain ⟨M0, M, Γ, ok, q⟩ := h
  refine ⟨M0, M, Γ, ok, ?_⟩
  unfold sLc2 at q
  cases hi : fi Γ with
  | no => rw [hi] at q; exact q
  | ex c v Γ1 => rw [hi] at q; exact q
  | ok ys Γ1 =>
    rw [hi] at q
    have q : Out (kx X cA) W M0 M Γ σ H (if okW (own.map (·.2)) Γ1 = true then (match lcL2 (own.map (·.2)) vs1 gf ft i1 g1 t1 fe ys (wipeE (own.map (·.2)) Γ1) with
    | .ok ws Γ2 => if ws.length ≤ 1000000 then .ok (.lst ws) (rest (own.map (·.2)) Γ1 Γ2) else .no
    | _ => .no) else .no) Q := q
    intro M1 H1 J s it
    by_cases hw : okW (own.map (·.2)) Γ1 = true
    · rw [if_pos hw] at q
      cases hl : lcL2 (own.map (·.2)) vs1 gf ft i1 g1 t1 fe ys (wipeE (own.map (·.2)) Γ1) with
      | no => rw [hl] at q; exact q.elim
      | ex c v Γ2 => rw [hl] at q; exact q.elim
      | ok ws Γ2 =>
        rw [hl] at q
        have q : Out (kx X cA) W M0 M Γ σ H (if ws.length ≤ 1000000 then .ok (.lst ws) (rest (own.map (·.2)) Γ1 Γ2) else .no) Q := q
        by_cases hn : ws.length ≤ 1000000
        · rw [if_pos hn] at q
          exact fun D hD => lc2_out s.eok it hk hk1 hs1 hw hl hn (fun M' H' u s' r => q M' H' u (s.trans s') r) D hD
        · rw [if_neg hn] at q
          exact q.elim
    · rw [if_neg hw] at q
      exact q.elim
theorem s_setLc2 (i : Nat) (vs1 : List Nat) (hc : X.calm = true) (hN : X.N.Nodup) (hk : ∀ k ∈ ks, k ∈ own.map (·.2)) (hk1 : ∀ k ∈ ks1, k ∈ vs1) (hs1 : ∀ k ∈ vs1, k ∈ own.map (·.2)) (hiN : X.N[i]? = some y) (hy : X.env.scope.names.lookup y = some .local) (hs : swapsWith (.ListComp elt [⟨tg, iter, ifs, 0⟩, ⟨tg1, iter1, ifs1, 0⟩] scope pos) (some (.Name y p)) pos'.line X.env = pure true) (hi : PI X tg iter (tPI (kx X cA) W fi)) (ok : BlkOk X.N X.env.scope scope own)
    (hg : ∀ s H C cl fp, PG (X.blk s H scope (compEnvC scope cl C X.env) fp) tg (tPG (kx X cA) ks gf)) (ht : ∀ s H C cl fp, PTs (X.blk s H scope (compEnvC scope cl C X.env) fp) ifs (tPT (kx X cA) W0 ft))
    (hi1 : ∀ s H C cl fp, PI (X.blk s H scope (compEnvC scope cl C X.env) fp) tg1 iter1 (tPI (kx X cA) W0 i1))
    (hg1 : ∀ s H C cl fp, PG (X.blk s H scope (compEnvC scope cl C X.env) fp) tg1 (tPG (kx X cA) ks1 g1)) (ht1 : ∀ s H C cl fp, PTs (X.blk s H scope (compEnvC scope cl C X.env) fp) ifs1 (tPT (kx X cA) W0 t1))
    (he : ∀ s H C cl fp, PE (X.blk s H scope (compEnvC scope cl C X.env) fp) elt (tP (kx X cA) W0 fe)) (hf : ∀ v, foldedSetIterable iter X.env v = pure v := by intro _; rfl) (hf1 : ∀ env v, foldedSetIterable iter1 env v = pure v := by intro _ _; rfl) : PS X (.Assign [.Name y p] (.ListComp elt [⟨tg, iter, ifs, 0⟩, ⟨tg1, iter1, ifs1, 0⟩] scope pos) pos') (tS (kx X cA) W (sSet i (sLc2 (own.map (·.2)) vs1 fi gf ft i1 g1 t1 fe))) :=
  ps_mono' (ps_setLc2 hc hN hiN hy hs hi ok hs1 hg ht hi1 hg1 ht1 he hf hf1) fun D σ H ⟨A, M, Γ, ok, q⟩ => lc_tLc2 hk hk1 hs1 ⟨A.M0, M, Γ, ok.eok, (Fin.out ok q).mono fun u H1 ⟨v, M1, Γ1, s, r, _, q1⟩ => Fin.putV s.sok q1 r⟩
end
end QX

set_option Elab.async false
set_option linter.all false
set_option maxRecDepth 100000
set_option maxHeartbeats 4000000
namespace QX
open PySem PySem.Spec PySem.W PySem.Calls PyProof.Rows L2 MX
/-! ### books as trees -/
def bookN : List Str := ["hall", "sayings"]
def bookPV (h s : PV) : PV := .obj "Book" bookN [h, s]
theorem tabs_ins {T : List (Addr × Str)} {H : Hp} {t C dx : Addr} {fs : List (Str × V)} {o : HO} (h : LamX.Tabs T H) (ht : H t = some (.ins C dx fs)) : LamX.Tabs T (L2.upd H t o) := fun p hp => by
  obtain ⟨ps, h1, h2, h3⟩ := h p hp
  have n1 : p.1 ≠ t := fun z => by rw [z, ht] at h1; cases h1
  refine ⟨ps, by rw [upd_ne n1]; exact h1, h2, fun pos cv hc => ?_⟩
  obtain ⟨c, e1, e2⟩ := h3 pos cv hc
  have n2 : c ≠ t := fun z => by rw [z, ht] at e2; cases e2
  exact ⟨c, e1, by rw [upd_ne n2]; exact e2⟩
/-- all but what is at p (and the tables) stays -/
structure ButS (κ : Kx) (p : Addr) (H H' : Hp) : Prop where
  ext : ∀ b o, H b = some o → b ≠ p → NT o → H' b = some o
  liv : ∀ b, H b ≠ none → H' b ≠ none
  tab : LamX.Tabs κ.cA.T H'
theorem ButS.of {κ : Kx} {p : Addr} {H H' : Hp} (s : Stay κ H H') : ButS κ p H H' := ⟨fun b o e _ nt => s.ext b o e nt, s.liv, s.tab⟩
theorem ButS.ins {κ : Kx} {p C dx : Addr} {fs fs' : List (Str × V)} {H H' : Hp} (b : ButS κ p H H') (e : H' p = some (.ins C dx fs)) : ButS κ p H (L2.upd H' p (.ins C dx fs')) := ⟨fun c o ec n nt => by rw [upd_ne n]; exact b.ext c o ec n nt, fun c hc => by
  by_cases z : c = p
  · rw [z, upd_same]; exact fun z => by cases z
  · rw [upd_ne z]; exact b.liv c hc, tabs_ins b.tab e⟩
/-- Book(hall, sayings): told, or refused; g: whether they are sayings -/
def spInitB (κ : Kx) (g : List PV → Ro) : Sp := fun vs H Q E => ∃ (M : List Addr) (p dx : Addr) (vh u : V) (h s : PV), vs = [.ref p, vh, u] ∧ H p = some (.ins (κ.cA "Book") dx []) ∧ p ∉ M ∧ Alive M H ∧ LamX.Tabs κ.cA.T H ∧ RpA κ [h, s] [vh, u] (msk M H) ∧
  match g [h, s] with
  | .ok (.bl true) => ∀ H', ButS κ p H H' → H' p = some (.ins (κ.cA "Book") dx [("hall", vh), ("sayings", u)]) → Q .non H'
  | .ok (.bl false) => ∀ H' dd, ButS κ p H H' → H' dd = none → E (.ref (κ.cA "BadSayings")) (some dd) (L2.upd H' dd (.xd [(("value" : Str), u)]))
  | _ => False
def sMkB (g : List PV → Ro) (fs : SA) : SE := fun Γ => (fs Γ).bind fun vs Γ1 => match vs with
  | [h, s] => match g [h, s] with
    | .ok (.bl true) => .ok (bookPV h s) Γ1
    | .ok (.bl false) => .ex "BadSayings" s Γ1
    | _ => .no
  | _ => .no
section
variable {X : Cx} {cA : CA} {E : XK} {x : Str} {pos p : Pos} {e e2 : Expr} {fs : SA} {k : Nat} {fI : Addr} {fdI : FuncData}
theorem mkBook_T {g : List PV → Ro} : ∀ (σ : L2.St) (H : Hp) (Q : VK), tP (kx X cA) (Wc E) (sMkB g fs) σ H Q → tMake (cA "Book") (spInitB (kx X cA) g) [] E (tPA (kx X cA) (Wc E) fs) σ H Q :=
  fun σ H Q ⟨M0, M, Γ, ok, q⟩ => ⟨M0, M, Γ, ok, (OutA.bind q).mono fun us H1 ⟨vs, M1, Γ1, s, r, _, q1⟩ => by
    intro a dx hfa hdx hne
    match vs, q1, r with
    | [], q1, _ => exact q1.elim
    | [_], q1, _ => exact q1.elim
    | _ :: _ :: _ :: _, q1, _ => exact q1.elim
    | [h, sy], q1, r =>
      obtain ⟨u1, u2, rfl, r1, r2⟩ := rpA2 r
      have s2 : Same H1 (L2.upd (L2.upd H1 dx (.own a)) a (.ins (cA "Book") dx [])) := fun b o e => by
        rw [upd_ne (ne_of_none e hfa), upd_ne (ne_of_none e hdx)]
        exact e
      have sOf : ∀ {H'}, ButS (kx X cA) a (L2.upd (L2.upd H1 dx (.own a)) a (.ins (cA "Book") dx [])) H' → Stay (kx X cA) H1 H' := fun {H'} b => ⟨fun c o ec nt => b.ext _ _ (s2 _ _ ec) (fun m => by rw [m, hfa] at ec; cases ec) nt, fun c hc => b.liv c (Same.liv s2 c hc), b.tab⟩
      have naM : a ∉ M1 := s.eok.alive.free hfa
      refine ⟨M1, a, dx, u1, u2, h, sy, rfl, upd_same, naM, s.eok.alive.same fun b o _ e => s2 b o e, s.eok.tab.ext s2, RpA.st (LamX.ExtN.of (msk_same s2)) r, ?_⟩
      have q1 : Out (kx X cA) (Wc E) M0 M1 Γ1 σ H1 (match g [h, sy] with
        | .ok (.bl true) => .ok (bookPV h sy) Γ1
        | .ok (.bl false) => .ex "BadSayings" sy Γ1
        | _ => .no) Q := q1
      cases hg : g [h, sy] with
      | no => rw [hg] at q1; exact q1.elim
      | ex c v => rw [hg] at q1; exact q1.elim
      | ok v =>
        rw [hg] at q1
        cases v with
        | bl b =>
          cases b with
          | true =>
            intro H' b hA
            refine ⟨rfl, ?_⟩
            have st := Stp.stay s.eok (sOf b)
            refine q1 M1 H' _ st ?_
            unfold bookPV
            rw [rp_obj]
            exact ⟨a, dx, [u1, u2], rfl, by rw [msk_in naM]; exact hA, rfl, RpA.st (msk_extN (sOf b).ext) r⟩
          | false =>
            intro H' dd b hdd
            have s3 := (sOf b).trans (Stay.of (sOf b).tab (same_new (o := .xd [(("value" : Str), u2)]) hdd))
            exact q1 M1 _ dd u2 (Stp.stay s.eok s3) upd_same (Rp.st (msk_extN s3.ext) r2)
        | _ => exact q1.elim⟩
theorem p_mkBook {g : List PV → Ro} (M : Mk X.K (cA "Book") fI) (F : FnOk X.prog X.w X.K X.mg X.base (L2.CX X.prog X.w) k fI fdI ["self", "hall", "sayings"] (spInitB (kx X cA) g)) (hr : Room (k + 1) X.A) (hg : Gl X x) (hm : X.mg x = some (.ref (cA "Book"))) (hb : L2.Binds X.K fdI ["self", "hall", "sayings"] []) (hx : Passes (L2.CX X.prog X.w) X E)
    (ha : PA X [e, e2] (tPA (kx X cA) (Wc E) fs)) (hdb : (x == ("__debug__" : Str)) = false := by decide) (he : starEach [e, e2] X.env = (false, eval e X.env) :: starEach [e2] X.env := by rfl) (hpl : (backTo pos (starEach [e2] X.env)).any (·.1) = false := by rfl) :
    PE X (.Call (.Name x p) [e, e2] [] pos) (tP (kx X cA) (Wc E) (sMkB g fs)) :=
  pe_mono (pe_make M F hr hg hm hb .nil hx ha hdb he hpl) mkBook_T
end
end QX

set_option Elab.async false
set_option linter.all false
set_option maxRecDepth 100000
set_option maxHeartbeats 4000000
namespace QX
open PySem PySem.Spec PySem.W PySem.Calls PyProof.Rows L2 MX
/-! ### lambdas, and a def that tells what they raise -/
section
variable {X : Cx} {pins : List (Addr × Obj)} {σ : L2.St} {H : Hp} {s : Shared}
end
section
variable {X : Cx} {cA : CA}
end
end QX

set_option Elab.async false
set_option linter.all false
set_option maxRecDepth 100000
set_option maxHeartbeats 4000000
namespace QX
open PySem PySem.Spec PySem.W PySem.Calls PyProof.Rows L2 MX
/-! ### types of what is told of -/
def tyOf (κ : Kx) : PV → Value
  | .non => .type "NoneType"
  | .bl _ => .type "bool"
  | .int _ => .type "int"
  | .str _ => .type "str"
  | .tup _ _ => .type "tuple"
  | .lst _ => .type "list"
  | .dct _ _ => .type "dict"
  | .obj c _ _ => .ref (κ.cA c)
  | .exc c _ => .ref (κ.cA c)
  | .fn _ _ _ => .type "function"
/-- whose type is told -/
def noFn : PV → Bool
  | .fn _ _ _ => false
  | _ => true
theorem rp_exc {κ : Kx} {c : Str} {w : PV} {v : V} {H : Hp} : Rp κ (.exc c w) v H ↔ ∃ a d u, v = .ref a ∧ H a = some (excO κ a c d) ∧ H d = some (.xd [("value", u)]) ∧ Rp κ w u H := by
  conv => lhs; unfold Rp
theorem rp_dct {κ : Kx} {ks ws : List PV} {v : V} {H : Hp} : Rp κ (.dct ks ws) v H ↔ ∃ a us, v = .ref a ∧ ((∃ kk, fkeys ks = some kk ∧ H a = some (.dK (kk.zip us))) ∨ (∃ kk, tkeysOf ks = some kk ∧ H a = some (.dT (kk.zip us)))) ∧ ks.length = us.length ∧ RpA κ ws us H := by
  conv => lhs; unfold Rp
theorem looks_cls {M : Model} {h : Heap} {a : Addr} {o : Obj} {t : Value} (ho : h.get? a = some o) (hc : o.cls = t) : Looks M h (typeOf (.ref a)) t := by
  subst hc
  exact (Looks.ld ho).andThen .now
section
variable {X : Cx} {pins : List (Addr × Obj)} {σ : L2.St} {H : Hp} {s : Shared} {κ : Kx}
theorem looks_ty (I : L2.Inv X pins σ H s) (hK : κ.K = X.K) {p : PV} {v : V} {u : Value} (r : Rp κ p v H) (ru : RelV v u) (hn : noFn p = true) : Looks (model X.prog X.w) s.heap (typeOf u) (tyOf κ p) := by
  cases p with
  | non => rw [rp_non.mp r] at ru; cases ru; exact Looks.of_pure rfl
  | bl b => rw [rp_bl.mp r] at ru; cases ru; exact Looks.of_pure rfl
  | int i => rw [rp_int.mp r] at ru; obtain ⟨t, rfl⟩ := ru; exact Looks.of_pure rfl
  | str x => rw [rp_str.mp r] at ru; obtain ⟨t, rfl⟩ := ru; exact Looks.of_pure rfl
  | tup f xs =>
    obtain ⟨a, vs, rfl, h, _⟩ := rp_tup.mp r
    cases ru
    obtain ⟨its, rv, ⟨o, ho, hc, m, hd⟩, _⟩ := I.tuple (by rw [← hK]; exact h.sq)
    exact looks_cls ho hc
  | lst xs =>
    obtain ⟨a, vs, rfl, h, _⟩ := rp_lst.mp r
    cases ru
    obtain ⟨_, its, m, rv, ho⟩ := (show ObjOk X.prog X.w H s.heap a (.lst vs) from I.hok a _ h)
    exact looks_cls ho rfl
  | dct ks ws =>
    obtain ⟨a, us, rfl, h, _⟩ := rp_dct.mp r
    cases ru
    rcases h with ⟨kk, _, h⟩ | ⟨kk, _, h⟩
    · obtain ⟨_, nsm, vs, kv, o, es, ep, ho, hx, _⟩ := (show ObjOk X.prog X.w H s.heap a (.dK _) from I.hok a _ h)
      exact looks_cls ho hx.1
    · obtain ⟨_, nsm, xs, pr, o, es, ep, ho, hx, _⟩ := (show ObjOk X.prog X.w H s.heap a (.dT _) from I.hok a _ h)
      exact looks_cls ho hx.1
  | obj c ns ws =>
    obtain ⟨a, dx, us, rfl, h, _⟩ := rp_obj.mp r
    cases ru
    obtain ⟨mA, J, _⟩ := ins_get I.hok h
    obtain ⟨od, J, _⟩ := J.look
    exact J.type
  | exc c w =>
    obtain ⟨a, d, u', rfl, h1, h2, _⟩ := rp_exc.mp r
    cases ru
    obtain ⟨oe, oD, mA, J, _⟩ := inst_kept I h1 h2
    exact J.type
  | fn _ _ _ => cases hn
/-- a def that runs around, its result kept -/
theorem run_at {CX : CXT} {k : Nat} {f : Addr} {fd : FuncData} {ps : List Str} {sp : Sp} {A : Around} {vs : List V} {us : List Value} {Q : VK} (F : FnOk X.prog X.w X.K X.mg X.base CX k f fd ps sp) (hb : L2.Binds X.K fd ps []) (hx : Passes CX X (fun _ _ _ => False)) (I : L2.Inv X pins σ H s)
    (hr : Room k A) (hf : A.frames = X.A.frames) (r2 : Vals vs us) (hsp : sp vs H Q (fun _ _ _ => False)) : wpAny (model X.prog X.w) A (call (.ref f) us) (EP X pins σ Q) X.xe s := by
  have e0 : Env0 X.prog X.w X.K X.mg X.base A X.stack s H := by
    have e := I.env0
    exact ⟨by rw [hf]; exact e.frames, e.mod, e.bs, e.bsz, e.funs, e.frf, e.hok, e.bare⟩
  have hl := F.len _ _ _ _ hsp
  refine wpAny_call (codeAny_mono (F.run A X.stack s H ⟨us, []⟩ us vs Q (fun _ _ _ => False) hr e0 (by
    have := hb s us I.kIn (by have z := r2.length; simp only [List.append_nil]; omega)
    simpa using this) r2 hsp) fun r s' hq => ?_)
  cases r with
  | error e => exact hx pins σ H s e s' I hq
  | ok fl =>
    cases fl with
    | ret w => exact I.after hq
    | next => exact False.elim hq
    | brk => exact False.elim hq
    | cont => exact False.elim hq
end
section
variable {prog : Program} {w : World} {A : Around} {E : Value → Shared → Prop} {s : Shared} {K : PySem.W.Frag} {x C : Addr} {ox : Obj} {od : Option Obj} {name : Str} {id : String}
end
end QX

set_option Elab.async false
set_option linter.all false
set_option maxRecDepth 100000
set_option maxHeartbeats 4000000
namespace QX
open PySem PySem.Spec PySem.W PySem.Calls PyProof.Rows L2 MX
/-! ### == and != of an own class -/
/-- a thing that is not of a class that hangs on c -/
def tyOk (c : Str) : PV → Bool
  | .obj c' _ _ => decide (c' = c)
  | .exc _ _ => false
  | .fn _ _ _ => false
  | _ => true
theorem tyOk_noFn {c : Str} {p : PV} (h : tyOk c p = true) : noFn p = true := by
  cases p <;> first | rfl | cases h
theorem notFirst_ok {κ : Kx} {c : Str} {p : PV} (h : tyOk c p = true) : PySem.W.notFirst κ.K (κ.cA c) (tyOf κ p) = true := by
  cases p with
  | obj c' ns ws =>
    have h : c' = c := of_decide_eq_true h
    subst h
    simp [tyOf, PySem.W.notFirst]
  | exc _ _ => cases h
  | fn _ _ _ => cases h
  | non => kernel_rfl
  | bl _ => kernel_rfl
  | int _ => kernel_rfl
  | str _ => kernel_rfl
  | tup _ _ => kernel_rfl
  | lst _ => kernel_rfl
  | dct _ _ => kernel_rfl
structure EqN (P : Program) (w : World) (K : PySem.W.Frag) (mg : Str → Option Value) (base : Heap) (cA : CA) (c : Str) (k : Nat) (sp : Sp) : Prop where
  go : ∃ f fd ps, PySem.W.findIn K (.ref (cA c)) "__eq__" = some (some (.ref f)) ∧ PySem.W.isFn K (.ref f) = true ∧ FnOk P w K mg base (L2.CX P w) k f fd ps sp ∧ Binds K fd ps [] ∧
    PySem.W.findIn K (.ref (cA c)) "__ne__" = some (some (.builtin "object.__ne__")) ∧ PySem.W.mroIn K (cA c) (.type "object") = some true
def rEqOwn (κ : Kx) (C : Addr) (sp : Sp) (neg : Bool) : R2 := fun x y H Q => ∃ a dx fs p, x = .ref a ∧ H a = some (.ins C dx fs) ∧ Rp κ p y H ∧ noFn p = true ∧ PySem.W.notFirst κ.K C (tyOf κ p) = true ∧ sp [.ref a, y] H (fun v H' => ∃ b, v = .bl b ∧ Q (.bl (if neg then !b else b)) H') (fun _ _ _ => False)
section
variable {X : Cx} {κ : Kx} {C f : Addr} {fd : FuncData} {ps : List Str} {sp : Sp} {k : Nat}
theorem op_eqOwn (hK : κ.K = X.K) (hs : PySem.W.findIn X.K (.ref C) "__eq__" = some (some (.ref f))) (hf : PySem.W.isFn X.K (.ref f) = true) (F : FnOk X.prog X.w X.K X.mg X.base (L2.CX X.prog X.w) k f fd ps sp) (hr : Room k X.A) (hb : L2.Binds X.K fd ps []) (hx : Passes (L2.CX X.prog X.w) X (fun _ _ _ => False)) :
    OpR X (compareOp .Eq) (rEqOwn κ C sp false) := by
  intro pins s σ H x y v u Q I rx ry h
  obtain ⟨a, dx, fs, p, rfl, ea, rp, nfn, nf, q⟩ := h
  cases rx
  obtain ⟨mA, O, _⟩ := ins_get I.hok ea
  obtain ⟨od, J, _⟩ := O.look
  obtain ⟨m, hF⟩ := I.fr
  refine PySem.W.cmp_K (op := .Eq) (tb := tyOf κ p) hr.units0 hF I.ok.mod.kin J (looks_ty I hK rp ry nfn) (by rw [← hK]; exact nf) hs hf ?_
  refine thn (run_at F hb hx I hr rfl (.cons (show RelV (.ref a) (.ref a) from rfl) (.cons ry .nil)) q) ?_
  rintro r s' ⟨v', H', J', rv, b, rfl, q'⟩
  cases (show r = Value.bool b from rv)
  exact ⟨.bl b, H', J', rfl, q'⟩
end
def gEqOwn (c : Str) (g : List PV → Ro) (neg : Bool) (x y : PV) : Option PV := match x with
  | .obj c' _ _ => if c' = c ∧ tyOk c y = true then (match g [x, y] with
    | .ok (.bl b) => some (.bl (if neg then !b else b))
    | _ => none) else none
  | _ => none
def gEqC (c : Str) (g : List PV → Ro) (x y : PV) : Option PV := match x with
  | .obj _ _ _ => gEqOwn c g false x y
  | _ => gEq x y
theorem rdo_eqOwn {κ : Kx} {c : Str} {g : List PV → Ro} {neg : Bool} : RDoS κ (rEqOwn κ (κ.cA c) (spV κ g) neg) (gEqOwn c g neg) := fun a b d x y M H Q e ra rb al tb q => by
  cases a <;> (first | (cases e; done) | skip)
  rename_i c' ns ws
  unfold gEqOwn at e
  simp only at e
  by_cases z : c' = c ∧ tyOk c b = true
  · rw [if_pos z] at e
    obtain ⟨z1, z2⟩ := z
    subst z1
    obtain ⟨t, dx, us, rfl, h1, l, r2⟩ := rp_obj.mp ra
    refine ⟨t, dx, _, b, rfl, (msk_of h1).1, Rp.st (LamX.ExtN.of msk_sub) rb, tyOk_noFn z2, notFirst_ok z2, M, [.obj c' ns ws, b], al, tb, rpA_cons.mpr ⟨ra, rpA_cons.mpr ⟨rb, rpA_nil⟩⟩, ?_⟩
    split at e
    · rename_i k hk
      cases e
      rw [hk]
      exact fun u H' s r => ⟨k, rp_bl.mp r, q H' _ s (rp_bl.mpr rfl)⟩
    · cases e
  · rw [if_neg z] at e
    cases e
section
variable {X : Cx} {cA : CA} {E : XK} {W : WX} {x y : Str} {pos p p1 p2 p3 apos : Pos} {a b c e o : Expr} {fa fb fc fo : SE} {es : List Expr} {fs : SA} {k : Nat}
theorem p_eqC {c : Str} {g : List PV → Ro} (Z : EqN X.prog X.w X.K X.mg X.base cA c k (spV (kx X cA) g)) (hu : X.A.units + 64 < cLine) (hr : Room (k + 1) X.A) (ha : PE X a (tP (kx X cA) W fa)) (hb : PE X b (tP (kx X cA) W fb)) :
    PE X (.Compare a [.Eq] [b] pos) (tP (kx X cA) W (sBin (gEqC c g) fa fb)) := by
  obtain ⟨f, fd, ps, hs, hf, F, hb', _, _⟩ := Z.go
  exact p_cmpS ((op_eqP hu).or (op_eqOwn (κ := kx X cA) rfl hs hf F (hr.mono (Nat.le_succ k)) hb' passF)) (RDoS.or (rdo_eq (κ := kx X cA)).s (rdo_eqOwn (κ := kx X cA)) fun x y d e => by
    cases x <;> (first | exact .inl e | exact .inr e)) ha hb
/-! ### isinstance of one of the program's classes -/
/-- what of an own class is asked where isinstance looks at its things -/
structure InsN (K : PySem.W.Frag) (C : Addr) : Prop where
  cl : Cls K C
  ha : PySem.W.findIn K (.ref C) "__class__" = some (some (.builtin "object.__class__"))
  hn : PySem.W.specialIn K (.builtin "object.__class__") "__get__" = some (some (.builtin "getset_descriptor.__get__"))
  ht : PySem.W.takesIn K (.builtin "object.__class__") = some true
  hm : PySem.W.mroIn K C (.type "object") = some true
structure IsN (K : PySem.W.Frag) (mg : Str → Option Value) (cA : CA) (es : List (Str × Bool)) (os : List Str) (c : Str) : Prop where
  at_ : mg c = some (.ref (cA c))
  ty : ∀ T ∈ tyNs, PySem.W.kitOne K (.type T) (.ref (cA c)) = some false
  ex : ∀ e ∈ es, (∃ fI, ExcT K (cA e.1) fI) ∧ PySem.W.kitOne K (.ref (cA e.1)) (.ref (cA c)) = some e.2
  ob : ∀ o ∈ os, InsN K (cA o) ∧ PySem.W.kitOne K (.ref (cA o)) (.ref (cA c)) = some (decide (o = c))
def gIsC (es : List (Str × Bool)) (os : List Str) (c : Str) : PV → Option PV
  | .exc e _ => (es.lookup e).map .bl
  | .obj o _ _ => if o ∈ os then some (.bl (decide (o = c))) else none
  | .fn _ _ _ => none
  | _ => some (.bl false)
theorem look_in {es : List (Str × Bool)} {e : Str} {b : Bool} (h : es.lookup e = some b) : (e, b) ∈ es := by
  induction es with
  | nil => cases h
  | cons q r ih =>
    obtain ⟨k, v⟩ := q
    rw [List.lookup_cons] at h
    split at h
    · rename_i z
      rw [eq_of_beq z]
      cases h
      exact List.mem_cons_self
    · exact List.mem_cons_of_mem _ (ih h)
theorem p_isC {es : List (Str × Bool)} {os : List Str} (Z : IsN X.K X.mg cA es os y) (hg : Gl X x) (hm : X.mg x = none) (hv : bootBuiltins x = some (.builtin "isinstance")) (hg2 : Gl X y) (he : PE X e (tP (kx X cA) W fa)) (hn : x ≠ "__name__" := by decide) (hdb : (x == ("__debug__" : Str)) = false := by decide)
    (hdb2 : (y == ("__debug__" : Str)) = false := by decide) (hs : starEach [e, .Name y p2] X.env = (false, eval e X.env) :: starEach [.Name y p2] X.env := by rfl) (hpl : (backTo pos (starEach [.Name y p2] X.env)).any (·.1) = false := by rfl) :
    PE X (.Call (.Name x p) [e, .Name y p2] [] pos) (tP (kx X cA) W (sU (gIsC es os y) fa)) :=
  pe_mono (pe_callB (call_isi.or call_isK) hg hm hv (pa_cons he (pa_cons (pe_glob (v := .ref (cA y)) hg2 Z.at_ (show RelV (.ref _) (.ref _) from rfl) hdb2) pa_nil) hs) hn hdb hs hpl) fun σ H Q ⟨M0, M, Γ, ok, q⟩ => ⟨M0, M, Γ, ok, (Out.bind q).mono fun u H1 ⟨v, M1, Γ1, s1, r1, _, q1⟩ => by
    have fin : ∀ {b : Bool}, gIsC es os y v = some (.bl b) → Q (.bl b) H1 := fun {b} h => by
      rw [h] at q1
      exact q1 M1 H1 _ (Stp.refl s1.eok) (rp_bl.mpr rfl)
    have r1 := Rp.st (LamX.ExtN.of msk_sub) r1
    have typ : ∀ {T : String}, T ∈ tyNs → TyX X.K H1 u (.type T) → gIsC es os y v = some (.bl false) → rIsi X.K [u, .ref (cA y)] H1 Q ∨ rIsK X.K [u, .ref (cA y)] H1 Q := fun {T} h t e => .inl ⟨u, _, .type T, _, false, rfl, .own _, t, Z.ty T h, fin e⟩
    cases v with
    | non => exact typ (T := "NoneType") (by decide +kernel) (by rw [rp_non.mp r1]; exact .base .non) rfl
    | bl b => exact typ (T := "bool") (by decide +kernel) (by rw [rp_bl.mp r1]; exact .base (.bl _)) rfl
    | int i => exact typ (T := "int") (by decide +kernel) (by rw [rp_int.mp r1]; exact .base (.int _)) rfl
    | str z => exact typ (T := "str") (by decide +kernel) (by rw [rp_str.mp r1]; exact .base (.str _)) rfl
    | tup f xs =>
      obtain ⟨a, vs, rfl, h, _⟩ := rp_tup.mp r1
      exact typ (T := "tuple") (by decide +kernel) (tyx_tup h.sq) rfl
    | lst xs =>
      obtain ⟨a, vs, rfl, h, _⟩ := rp_lst.mp r1
      exact typ (T := "list") (by decide +kernel) (.base (.lst h)) rfl
    | dct ks ws =>
      obtain ⟨a, us, rfl, h, _⟩ := rp_dct.mp r1
      rcases h with ⟨kk, _, h⟩ | ⟨kk, _, h⟩
      · exact typ (T := "dict") (by decide +kernel) (.base (.dK h)) rfl
      · exact typ (T := "dict") (by decide +kernel) (.base (.dT h)) rfl
    | obj o ns ws =>
      obtain ⟨a, dx, us, rfl, h, _⟩ := rp_obj.mp r1
      by_cases z : o ∈ os
      · obtain ⟨N, hk⟩ := Z.ob o z
        exact .inl ⟨_, _, .ref (cA o), _, decide (o = y), rfl, .own _, .base (.ins h N.cl N.ha N.hn N.ht N.hm), hk, fin (if_pos z)⟩
      · have q1 : Out (kx X cA) W M0 M1 Γ1 σ H1 (ofO (if o ∈ os then some (PV.bl (decide (o = y))) else none) Γ1) Q := q1
        rw [if_neg z] at q1
        exact q1.elim
    | exc c w =>
      obtain ⟨a, d, u', rfl, h1, h2, _⟩ := rp_exc.mp r1
      cases hl : es.lookup c with
      | none =>
        have q1 : Out (kx X cA) W M0 M1 Γ1 σ H1 (ofO ((es.lookup c).map .bl) Γ1) Q := q1
        rw [hl] at q1
        exact q1.elim
      | some b =>
        obtain ⟨⟨fI, T⟩, hk⟩ := Z.ex _ (look_in hl)
        exact .inr ⟨a, cA c, fI, d, _, .ref (cA y), .ref (cA y), b, rfl, T, h1, h2, fun u r => r, hk, fin (by show (es.lookup c).map _ = _; rw [hl]; rfl)⟩
    | fn _ _ _ => exact q1.elim⟩
/-! ### the value of a kept exception -/
structure XvN (K : PySem.W.Frag) (cA : CA) (es : List Str) : Prop where
  at_ : ∀ c ∈ es, ∃ fI, ExcT K (cA c) fI ∧ PySem.W.findIn K (.ref (cA c)) "value" = some none
/-! ### {} -/
end
end QX

set_option Elab.async false
set_option linter.all false
set_option maxRecDepth 100000
set_option maxHeartbeats 4000000
namespace MX
open PySem PySem.Spec PySem.W PySem.Calls PyProof.Rows L2
section
variable {P : Program} {w : World} {K : PySem.W.Frag} {mg : Str → Option Value} {base : Heap} {CX : CXT} {k : Nat} {f : Addr} {fd : FuncData} {ps : List Str} {sp : Sp}
end
end MX

set_option Elab.async false
set_option linter.all false
set_option maxRecDepth 100000
set_option maxHeartbeats 4000000
namespace QX
open PySem PySem.Spec PySem.W PySem.Calls PyProof.Rows L2 MX
/-! ### told(lambda: ..) -/
structure ToldN (K : PySem.W.Frag) (mg : Str → Option Value) (CM : Addr) (x : Str) : Prop where
  go : ∃ (g : Addr) (fd : FuncData) (Ng : List Str) (a : Str) (pg : Arguments) (bg : List Stmt) (sg : Scope), mg x = some (.ref g) ∧ FunD K x x pg bg sg [] [] g fd ∧ L2.Binds K fd [a] [] ∧ FnScope Ng [a] sg ∧ Ng[0]? = some a ∧ Vis sg a ∧
    (a == ("__debug__" : Str)) = false ∧ (a == ("__classdict__" : Str)) = false ∧ ∀ (X : Cx) (q : Str) (cdg : Value), X.mg = mg → X.K = K → GivesK X Ng x sg g cdg bg a q (TKept K CM)
/-- where a def makes lambdas -/
structure LamAt (X : Cx) (cA : CA) : Prop where
  go : ∃ c B, X.env.code = .ref c ∧ LamX.TabB X.base X.mg c B ∧ (B, X.env.qual ++ "<lambda>") ∈ cA.T ∧ ∀ p ∈ cA.T, p.1 = B → p.2 = X.env.qual ++ "<lambda>"
/-! ### defs that make lambdas -/
section
variable {P : Program} {w : World} {K : PySem.W.Frag} {mg : Str → Option Value} {base : Heap} {cA : CA} {f : Addr} {fd : FuncData} {x qual : Str} {params : Arguments} {body : List Stmt} {scope : Scope} {N ps : List Str} {n np k : Nat} {F : SS} {cd : Value}
structure BdyC (P : Program) (w : World) (K : PySem.W.Frag) (mg : Str → Option Value) (base : Heap) (cA : CA) (N : List Str) (qual : Str) (scope : Scope) (f : Addr) (cd : Value) (body : List Stmt) (R : Around → Prop) (F : SS) : Prop where
  go : ∀ (A : Around) (out : List PySem.Env) (s : Shared) (H : Hp) (E : XK), R (A.deeper (envOfC qual scope s.heap.objs.size f cd)) → PSs (cxOf (L2.CX P w) P w K mg base N qual scope f cd A out s H E) body (tS ⟨K, cA⟩ (Wc E) F)
end
/-! ### what the head is asked -/
theorem insB_ok {K : PySem.W.Frag} {C : Addr} (cl : Cls K C) (h : insB K C = true) : InsN K C := by
  unfold insB at h
  simp only [Bool.and_eq_true, decide_eq_true_eq] at h
  exact ⟨cl, h.1, h.2.1, h.2.2.1, h.2.2.2⟩
theorem isB_ok {K : PySem.W.Frag} {mg : Str → Option Value} {cA : CA} {es : List (Str × Bool)} {os : List Str} {c : Str} (at_ : mg c = some (.ref (cA c))) (hE : ∀ e ∈ es, ∃ fI, ExcT K (cA e.1) fI) (hO : ∀ o ∈ os, Cls K (cA o)) (h : isB K cA es os c = true) : IsN K mg cA es os c := by
  unfold isB at h
  simp only [Bool.and_eq_true, List.all_eq_true, decide_eq_true_eq] at h
  exact ⟨at_, h.1, fun e he => ⟨hE e he, h.2.1 e he⟩, fun o ho => ⟨insB_ok (hO o ho) (h.2.2 o ho).1, (h.2.2 o ho).2⟩⟩
theorem eqB_ok {K : PySem.W.Frag} {C : Addr} (h : eqB K C = true) : PySem.W.findIn K (.ref C) "__ne__" = some (some (.builtin "object.__ne__")) ∧ PySem.W.mroIn K C (.type "object") = some true := by
  unfold eqB at h
  simp only [Bool.and_eq_true, decide_eq_true_eq] at h
  exact h
end QX

set_option Elab.async false
set_option linter.all false
set_option maxRecDepth 100000
set_option maxHeartbeats 4000000
namespace QX
open PySem PySem.Spec PySem.W PySem.Calls PyProof.Rows L2 MX
/-! ### head, *names = a list -/
section
variable {prog : Program} {w : World} {A : Around} {E : Value → Shared → Prop} {s : Shared} {I : Addr} {fp wr : List Addr} {G : Array GenState → Array GenState → Prop} {n : Nat} {P : Nat → Value → Prop} {St : Nat → Shared → Prop}
theorem walks_shift (W : WalksS prog w A I fp wr G (n + 1) P St) : WalksS prog w A I fp wr G n (fun i => P (i + 1)) (fun i => St (i + 1)) where
  sub := W.sub
  grefl := W.grefl
  gtrans := W.gtrans
  frame := fun i => W.frame (i + 1)
  item := fun i s Q E hi h k => W.item (i + 1) s Q E (by omega) h k
  done := fun s Q E h k => W.done s Q E h k
  self := fun i => W.self (i + 1)
theorem unpack_star {l : Addr} {v : Value} {items : List Value} {Q : List Value → Shared → Prop} (hh : A.handled = none) (hl : s.heap.IsList l (v :: items).toArray) (hz : items.length ≤ sizeLine)
    (hQ : ∀ (h' : Heap) (tk : Nat), (∀ b o, s.heap.get? b = some o → h'.get? b = some o) → Q [v, .ref h'.objs.size] { s with heap := h'.push { cls := .type "list", data := .seq items.toArray }, toks := tk }) :
    wpAny (model prog w) A (unpackItems (.ref l) 2 (some 1)) Q E s := by
  have hlt : l < s.heap.objs.size := by obtain ⟨o, ho, _⟩ := hl; exact Heap.lt_size ho
  unfold unpackItems
  refine wpAny_bind ?_
  unfold notIterableAtAll
  refine wpAny_bind (wpAny_specialOf hl.typeIs PySem.F.slot_list_iter.lookup ?_)
  refine wpAny_pure ?_
  simp only [Bool.false_eq_true, if_false]
  refine wpAny_bind (wpAny_holding (wpAny_pyIter_list hl ?_))
  refine wpAny_bind (wpAny_holding (PySem.W.kun_draw (Nat.ne_of_lt hlt) 1 0 _ _ ⟨_, Heap.get?_push_size _ rfl, rfl, rfl⟩ (hl.push _) (by simp) fun h₁ hit₁ hs₁ => ?_))
  have hall : List.take 1 (List.drop 0 (v :: items).toArray.toList) = [v] := by simp
  rw [hall]
  rw [if_neg (by simp)]
  have hl₁ : h₁.IsList l (v :: items).toArray := (hl.push _).extBut hs₁.extBut (Nat.ne_of_lt hlt)
  have hk : ∀ b o, s.heap.get? b = some o → h₁.get? b = some o := fun b o e => hs₁.extBut b o (Nat.ne_of_lt (Heap.lt_size e)) (Heap.get?_push_of_some _ e)
  have W : WalksS prog w A.in1 s.heap.objs.size [s.heap.objs.size, l] [s.heap.objs.size] (fun a b => b = a) (items.length + 1) (fun i x => (v :: items).toArray[i]? = some x) (fun i s' => s'.heap.IsListIter s.heap.objs.size l i ∧ s'.heap.IsList l (v :: items).toArray) := by
    have z := (Walks.list (prog := prog) (w := w) (A := A.in1) hh s.heap.objs.size l (Nat.ne_of_lt hlt) (v :: items).toArray).toS
    have e : (v :: items).toArray.size = items.length + 1 := by simp
    rw [e] at z
    exact z
  have hsz : s.heap.objs.size < h₁.objs.size := by
    obtain ⟨o, ho, _⟩ := hit₁
    exact Heap.lt_size ho
  refine wpAny_bind (wpAny_holding (wpAny_collect_iter (T := "list_iterator") (by simp) (walks_shift W) (fun i s' h => h.1.typeIs) ⟨hit₁, hl₁⟩ (fun b hb => ?_) (by simp) (fun s' acc m hacc => ?_) hz))
  · rcases List.mem_cons.mp hb with rfl | hb
    · exact hsz
    · rw [List.mem_singleton.mp hb]
      exact Nat.lt_trans hlt hsz
  · have ea : acc.toList = items := by
      obtain ⟨h1, h2⟩ := hacc
      refine List.ext_getElem? fun j => ?_
      by_cases hj : j < acc.size
      · have e := h2 j acc[j] (Array.getElem?_eq_getElem hj)
        rw [Array.getElem?_toList, Array.getElem?_eq_getElem hj, ← e]
        simp
      · rw [List.getElem?_eq_none (by simpa using hj), List.getElem?_eq_none (by omega)]
    rw [ea]
    simp only [List.length_cons, List.length_nil, Nat.sub_self, Nat.zero_le, Nat.not_lt_zero, if_false, Nat.reduceAdd, Nat.reduceSub, Nat.sub_zero]
    rw [List.take_length, List.drop_length]
    refine wpAny_bind (wpAny_newList ?_ hz)
    refine wpAny_pure ?_
    obtain ⟨hp, g, d, tk, os⟩ := s'
    have h1 : g = s.gens := m.gens
    have h2 : d = s.drawn := m.drawn
    have h3 : os = s.os := m.os
    subst h1
    subst h2
    subst h3
    exact hQ hp tk fun b o e => m.heap b o (fun hb => absurd (Heap.lt_size e) ((List.mem_singleton.mp hb) ▸ Nat.lt_irrefl _)) (hk b o e)
end
def tStarS (K : PySem.W.Frag) (te : TE) (i j : Nat) : TS := fun D σ H => te σ H fun u H1 => ∃ a v vs, u = .ref a ∧ SqL K H1 a (v :: vs) ∧ ∀ l, H1 l = none → D.nx ((σ.set i (some v)).set j (some (.ref l))) (upd H1 l (.lst vs))
section
variable {X : Cx} {cA : CA} {W : WX} {x y : Str} {pos p p1 p2 p3 : Pos} {e : Expr} {fa : SE} {te : TE} {es : List Expr} {kk : Nat}
theorem ps_star {i j : Nat} (hc : X.calm = true) (hN : X.N.Nodup) (he : PE X e te) (hi : X.N[i]? = some x) (hj : X.N[j]? = some y) (hx : Loc X.env.scope x) (hy : Loc X.env.scope y)
    (hs : swapsWithSole [.Tuple [.Name x p1, .Starred (.Name y p2) p3] kk p] e pos.line X.env = pure false) (hw : swappedStores [.Tuple [.Name x p1, .Starred (.Name y p2) p3] kk p] e X.env = pure none)
    (hfx : X.fn x = true ∨ X.env.scope.names.lookup x = some .local) (hfy : X.fn y = true ∨ X.env.scope.names.lookup y = some .local) :
    PS X (.Assign [.Tuple [.Name x p1, .Starred (.Name y p2) p3] kk p] e pos) (tStarS X.K te i j) := by
  refine ⟨fun pins s σ H D I h => ?_⟩
  refine wpAny_Assign_stores (thn (he.run pins s σ H _ I h) fun v s1 ⟨u, H1, I1, r1, a, v0, vs, e1, hq, q1⟩ => ?_) hs hw
  subst e1
  obtain rfl : v = Value.ref a := r1
  obtain ⟨its, rv, pl, hz⟩ := I1.list hq
  cases rv with
  | cons rv0 rvs =>
    rename_i x0 xs
    have h1 : (assignEach [.Tuple [.Name x p1, .Starred (.Name y p2) p3] kk p] X.env).map (·.2) = [assign (.Tuple [.Name x p1, .Starred (.Name y p2) p3] kk p) X.env] := by rfl
    rw [h1]
    have z : wpAny (model X.prog X.w) X.A (assign (.Tuple [.Name x p1, .Starred (.Name y p2) p3] kk p) X.env (.ref a)) (fun _ s2 => ∃ σ2 H2, Inv X pins σ2 H2 s2 ∧ D.nx σ2 H2) X.xe s1 := by
      rw [assign_Tuple]
      refine wpAny_bind (wpAny_standAt ?_)
      unfold unpack
      have e1 : (assignEach [.Name x p1, .Starred (.Name y p2) p3] X.env).length = 2 := by rfl
      have e2 : (assignEach [.Name x p1, .Starred (.Name y p2) p3] X.env).findIdx? (·.1) = some 1 := by rfl
      have e3 : (assignEach [.Name x p1, .Starred (.Name y p2) p3] X.env).map (·.2) = [assign (.Name x p1) X.env, assign (.Name y p2) X.env] := by rfl
      rw [e1, e2, e3]
      refine wpAny_bind (wpAny_holding (unpack_star (I1.ok.hd hc) pl.isList (by rw [← rvs.length]; simp only [List.length_cons] at hz; omega) fun h' tk hk => ?_))
      have I2 : Inv X pins σ H1 { s1 with heap := h', toks := tk } := I1.kept (t' := tk) hk
      have hf : H1 h'.objs.size = none := I2.hok.fresh (Nat.le_refl _)
      have I3 : Inv X pins σ (upd H1 h'.objs.size (.lst vs)) { s1 with heap := h'.push { cls := .type "list", data := .seq xs.toArray }, toks := tk } :=
        I2.laid (t' := tk) (fun b u e => Heap.get?_push_of_some _ e) (Nat.le_refl _) ⟨by simp only [List.length_cons] at hz; omega, xs, 0, rvs, Heap.get?_push_size _ rfl⟩
      refine assignInOrder_cons (wpAny_assign_Name (store_ok I3 hN hi hx rv0 (fun s4 I4 => ?_) hfx))
      refine assignInOrder_cons (wpAny_assign_Name (store_ok (v := .ref h'.objs.size) I4 hN hj hy rfl (fun s5 I5 => ?_) hfy))
      exact assignInOrder_nil ⟨_, _, I5, q1 _ hf⟩
    exact z
def sStar (i j : Nat) (f : SE) : SS := fun Γ => (f Γ).fl fun v Γ1 => match v with
  | .lst (x :: xs) => match putV i x Γ1 with
    | .nx Γ2 => putV j (.lst xs) Γ2
    | _ => .no
  | _ => .no
theorem s_star (i j : Nat) (hc : X.calm = true) (hN : X.N.Nodup) (he : PE X e (tP (kx X cA) W fa)) (hi : X.N[i]? = some x := by rfl) (hj : X.N[j]? = some y := by rfl)
    (hx : Loc X.env.scope x := by first | exact Or.inl rfl | exact Or.inr rfl) (hy : Loc X.env.scope y := by first | exact Or.inl rfl | exact Or.inr rfl)
    (hs : swapsWithSole [.Tuple [.Name x p1, .Starred (.Name y p2) p3] kk p] e pos.line X.env = pure false := by rfl) (hw : swappedStores [.Tuple [.Name x p1, .Starred (.Name y p2) p3] kk p] e X.env = pure none := by rfl)
    (hfx : X.fn x = true ∨ X.env.scope.names.lookup x = some .local := by first | exact .inl rfl | exact .inr rfl) (hfy : X.fn y = true ∨ X.env.scope.names.lookup y = some .local := by first | exact .inl rfl | exact .inr rfl) :
    PS X (.Assign [.Tuple [.Name x p1, .Starred (.Name y p2) p3] kk p] e pos) (tS (kx X cA) W (sStar i j fa)) :=
  ps_mono' (ps_star hc hN he hi hj hx hy hs hw hfx hfy) fun D σ H ⟨A, M, Γ, ok, q⟩ => ⟨A.M0, M, Γ, ok.eok, (Fin.out ok q).mono fun u H1 ⟨v, M1, Γ1, s, r, hv, q1⟩ => by
    clear hv
    cases v <;> (first | (exact q1.elim) | skip)
    rename_i xs
    cases xs with
    | nil => exact q1.elim
    | cons x0 xs =>
      obtain ⟨a, us, rfl, h1, r2⟩ := rp_lst.mp r
      cases us with
      | nil => unfold RpA at r2; exact r2.elim
      | cons u0 us =>
        obtain ⟨r3, r4⟩ := rpA_cons.mp r2
        refine ⟨a, u0, us, rfl, SqL.of (msk_of h1).1, fun l hl => ?_⟩
        have n1 := s.sok.stp (Stp.of s.sok.eok (same_new (o := .lst us) hl))
        have r3' := Rp.st (LamX.ExtN.of (msk_same (same_new (o := .lst us) hl))) r3
        have rl : Rp (kx X cA) (.lst xs) (.ref l) (msk M1 (L2.upd H1 l (.lst us))) := rp_newL s.sok.eok.alive hl r4
        simp only [putV] at q1
        by_cases c1 : okSet Γ1 i = true
        · rw [if_pos c1] at q1
          have n2 := n1.sok.setV c1 r3'
          simp only at q1
          by_cases c2 : okSet (Γ1.set i (.va x0)) j = true
          · rw [if_pos c2] at q1
            have n3 := n2.sok.setV c2 rl
            exact q1 M1 _ _ (n1.trans (n2.trans n3))
          · rw [if_neg c2] at q1
            exact q1.elim
        · rw [if_neg c1] at q1
          exact q1.elim⟩
/-! ### [a, *b] -/
def sStarC (f : SE) (g : SA) : SA := fun Γ => (f Γ).bind fun v Γ1 => match seqOf v with
  | some xs => (g Γ1).bind fun ys Γ2 => .ok (xs ++ ys) Γ2
  | none => .no
theorem rpA_append {κ : Kx} {H : Hp} {ws : List V} : ∀ {xs ys : List PV} {us : List V}, RpA κ xs us H → RpA κ ys ws H → RpA κ (xs ++ ys) (us ++ ws) H
  | [], ys, [], _, h => h
  | [], ys, u :: us, h, _ => by unfold RpA at h; exact h.elim
  | x :: xs, ys, [], h, _ => by unfold RpA at h; exact h.elim
  | x :: xs, ys, u :: us, h, g => by
    obtain ⟨h1, h2⟩ := rpA_cons.mp h
    exact rpA_cons.mpr ⟨h1, rpA_append (us := us) h2 g⟩
theorem a_star {g : SA} (he : PE X e (tP (kx X cA) W fa)) (ht : PA X es (tPA (kx X cA) W g)) (hs : starEach (.Starred e p :: es) X.env = (true, eval e X.env) :: starEach es X.env := by rfl) : PA X (.Starred e p :: es) (tPA (kx X cA) W (sStarC fa g)) :=
  pa_mono (StX.pa_star he ht hs) fun σ H Q ⟨M0, M, Γ, ok, q⟩ => ⟨M0, M, Γ, ok, (Out.bindA q).mono fun x H1 ⟨v, M1, Γ1, s1, r1, hv, q1⟩ => by
    clear hv
    cases v <;> (first | (exact q1.elim) | skip)
    · rename_i f xs
      obtain ⟨a, us, rfl, h1, r2⟩ := rp_tup.mp r1
      exact ⟨a, us, rfl, .inl h1.unmsk.sq, M0, M1, Γ1, s1.eok, (OutA.bindA (show OutA _ _ _ _ _ _ _ ((g Γ1).bind fun ys Γ2 => .ok (xs ++ ys) Γ2) _ from q1)).mono fun ws H2 ⟨vs, M2, Γ2, s2, r3, _, q2⟩ => q2 M2 H2 _ (Stp.refl s2.eok) (rpA_append (s2.keepA s1.eok r2) r3)⟩
    · rename_i xs
      obtain ⟨a, us, rfl, h1, r2⟩ := rp_lst.mp r1
      exact ⟨a, us, rfl, .inr (SqL.of (msk_of h1).1), M0, M1, Γ1, s1.eok, (OutA.bindA (show OutA _ _ _ _ _ _ _ ((g Γ1).bind fun ys Γ2 => .ok (xs ++ ys) Γ2) _ from q1)).mono fun ws H2 ⟨vs, M2, Γ2, s2, r3, _, q2⟩ => q2 M2 H2 _ (Stp.refl s2.eok) (rpA_append (s2.keepA s1.eok r2) r3)⟩⟩
/-! ### an item of an owned list -/
/-! ### (a,) * k -/
/-! ### what is never come to -/
end
end QX

set_option Elab.async false
set_option linter.all false
set_option maxRecDepth 100000
set_option maxHeartbeats 4000000
namespace QX
open PySem PySem.Spec PySem.W PySem.Calls PyProof.Rows L2 MX
/-! ### a + b, a | b of an own class -/
/-- what is asked of a class and of the other thing's type -/
structure BinT (K : PySem.W.Frag) (C f : Addr) (nm : String) (tb : Value) : Prop where
  self : PySem.W.selfFirst K C = true
  here : PySem.W.findIn K (.ref C) (PySem.dunder nm) = some (some (.ref f))
  fn : PySem.W.isFn K (.ref f) = true
  other : tb = .ref C ∨ ∃ T fo ro, tb = .type T ∧ PySem.W.findIn K (.ref C) (dunderR nm) = some none ∧ PySem.W.findIn K (.type T) (PySem.dunder nm) = some fo ∧ PySem.W.findIn K (.type T) (dunderR nm) = some ro ∧ PySem.W.subIn K (.type T) (.ref C) = some false
section
variable {prog : Program} {w : World} {A : Around} {E : Value → Shared → Prop} {s : Shared} {K : PySem.W.Frag} {x C f L : Addr} {h₀ : Heap} {m : Str → Option Value} {ox : Obj} {od : Option Obj}
end
section
variable {X : Cx} {pins : List (Addr × Obj)} {σ : L2.St} {H : Hp} {s : Shared} {κ : Kx}
end
def binOk (c : Str) (ts : List String) : PV → Bool
  | .obj c' _ _ => decide (c' = c)
  | .exc _ _ => false
  | .fn _ _ _ => false
  | v => match tyN v with
    | some T => ts.contains T
    | none => false
structure BinN (P : Program) (w : World) (K : PySem.W.Frag) (mg : Str → Option Value) (base : Heap) (cA : CA) (c : Str) (nm : String) (ts : List String) (k : Nat) (sp : Sp) : Prop where
  go : ∃ f fd ps, PySem.W.selfFirst K (cA c) = true ∧ PySem.W.findIn K (.ref (cA c)) (PySem.dunder nm) = some (some (.ref f)) ∧ PySem.W.isFn K (.ref f) = true ∧ PySem.W.findIn K (.ref (cA c)) (dunderR nm) = some none ∧
    (∀ T ∈ ts, ∃ fo ro, PySem.W.findIn K (.type T) (PySem.dunder nm) = some fo ∧ PySem.W.findIn K (.type T) (dunderR nm) = some ro ∧ PySem.W.subIn K (.type T) (.ref (cA c)) = some false) ∧ FnOk P w K mg base (L2.CX P w) k f fd ps sp ∧ Binds K fd ps []
/-- a + b, a | b: what the class's own def gives -/
def sBinM (c : Str) (ts : List String) (g : List PV → Ro) (fo fb : SE) : SE := fun Γ => (fo Γ).bind fun o Γ1 => (fb Γ1).bind fun v Γ2 => match o with
  | .obj c' ns us => if c' = c ∧ binOk c ts v = true then (match g [.obj c' ns us, v] with
      | .ok z => .ok z Γ2
      | .ex e z => .ex e z Γ2
      | .no => .no)
    else .no
  | _ => .no
section
variable {X : Cx} {cA : CA} {E : XK} {a b : Expr} {fo fb : SE} {pos : Pos} {k : Nat}
end
end QX

set_option Elab.async false
set_option linter.all false
set_option maxRecDepth 100000
set_option maxHeartbeats 4000000
namespace QX
open PySem PySem.Spec PySem.W PySem.Calls PyProof.Rows L2 MX
/-! ### arguments by their names -/
/-- the places that the names told ask for -/
def prm {α : Type} (π : List Nat) (ws : List α) : List α := π.filterMap (ws[·]?)
theorem vals_at : ∀ {zs : List V} {ws : List Value}, Vals zs ws → ∀ i : Nat, (∃ z w, zs[i]? = some z ∧ ws[i]? = some w ∧ RelV z w) ∨ (zs[i]? = none ∧ ws[i]? = none)
  | _, _, .nil, i => .inr ⟨by simp, by simp⟩
  | _, _, .cons r rs, 0 => .inl ⟨_, _, rfl, rfl, r⟩
  | _, _, .cons r rs, i + 1 => by
    rcases vals_at rs i with ⟨z, w, e1, e2, q⟩ | ⟨e1, e2⟩
    · exact .inl ⟨z, w, by simpa using e1, by simpa using e2, q⟩
    · exact .inr ⟨by simpa using e1, by simpa using e2⟩
theorem vals_prm {zs : List V} {ws : List Value} (h : Vals zs ws) : ∀ π : List Nat, Vals (prm π zs) (prm π ws)
  | [] => .nil
  | i :: π => by
    unfold prm
    rcases vals_at h i with ⟨z, w, e1, e2, q⟩ | ⟨e1, e2⟩
    · rw [List.filterMap_cons_some e1, List.filterMap_cons_some e2]
      exact .cons q (vals_prm h π)
    · rw [List.filterMap_cons_none e1, List.filterMap_cons_none e2]
      exact vals_prm h π
theorem rpA_prm {κ : Kx} {H : Hp} {vs : List PV} {zs : List V} (h : RpA κ vs zs H) : ∀ π : List Nat, RpA κ (prm π vs) (prm π zs) H
  | [] => rpA_nil
  | i :: π => by
    unfold prm
    cases e1 : vs[i]? with
    | some v =>
      obtain ⟨z, e2, q⟩ := h.get e1
      rw [List.filterMap_cons_some e1, List.filterMap_cons_some e2]
      exact rpA_cons.mpr ⟨q, rpA_prm h π⟩
    | none =>
      have e2 : zs[i]? = none := by
        rw [List.getElem?_eq_none_iff] at e1 ⊢
        rw [h.len]
        exact e1
      rw [List.filterMap_cons_none e1, List.filterMap_cons_none e2]
      exact rpA_prm h π
section
variable {K : PySem.W.Frag} {x qual : Str} {params : Arguments} {body : List Stmt} {scope : Scope} {f : Addr} {fd : FuncData} {ps ks : List Str} {π : List Nat} {n : Nat}
theorem kbn (F : FunD K x qual params body scope [] [] f fd) (h : ∀ (kV doc pm : Value) (an : Option Addr) (cdv ct : Value) (us ws : List Value), us.length = n → ws.length = ks.length → bindArgs (PySem.W.fnOf x qual params body scope .none kV doc pm an cdv ct) ⟨us, ks.zip ws⟩ = pure (ps.zip (us ++ prm π ws))) :
    KBn K fd ps n ks (fun us ws => us ++ prm π ws) (fun vs zs => vs ++ prm π zs) := by
  obtain ⟨oc, od, dV, kV, doc, pm, an, cdv, ct, osl, rfl, lk, hcd, hD, hK⟩ := F.ex
  rcases hD with ⟨_, rfl⟩ | ⟨e, _⟩
  · exact ⟨fun s us ws X l1 l2 => .of_eq (h kV doc pm an cdv ct us ws l1 l2), fun r1 r2 => r1.append (vals_prm r2 π)⟩
  · exact absurd rfl e
end
section
variable {X : Cx} {cA : CA} {E : XK} {W : WX} {x m : Str} {nm : Option Str} {pos p kpos apos : Pos} {e o : Expr} {kws : List Keyword} {fa fo : SE} {fs g' : SA} {k : Nat} {t t' : TA}
theorem pk_mono (h : PK X kws t) (hm : ∀ σ H Q, t' σ H Q → t σ H Q) : PK X kws t' := ⟨fun pos pins s σ H Q I q => h.run pos pins s σ H Q I (hm σ H Q q)⟩
theorem k_nil : PK X [] (tPA (kx X cA) W sNil) := pk_mono pk_nil fun σ H Q ⟨M0, M, Γ, ok, q⟩ => q M H [] (Stp.refl ok) rpA_nil
theorem k_cons (he : PE X e (tP (kx X cA) W fa)) (ht : PK X kws (tPA (kx X cA) W g')) : PK X (⟨nm, e, kpos⟩ :: kws) (tPA (kx X cA) W (sCons fa g')) :=
  pk_mono (pk_cons he ht) fun σ H Q ⟨M0, M, Γ, ok, q⟩ => ⟨M0, M, Γ, ok, (Out.bindA q).mono fun x H1 ⟨v, M1, Γ1, s1, r1, _, q1⟩ => ⟨M0, M1, Γ1, s1.eok, (OutA.bindA q1).mono fun xs H2 ⟨vs, M2, Γ2, s2, r2, _, q2⟩ => q2 M2 H2 _ (Stp.refl s2.eok) (rpA_cons.mpr ⟨s2.keep s1.eok r1, r2⟩)⟩⟩
/-- a def, called by its arguments' names -/
structure KwQ (P : Program) (w : World) (K : PySem.W.Frag) (mg : Str → Option Value) (base : Heap) (x : Str) (ks : List Str) (π : List Nat) (k : Nat) (sp : Sp) : Prop where
  go : ∃ f fd ps, mg x = some (.ref f) ∧ PySem.W.keepIn K (.ref f) = true ∧ KBn K fd ps 0 ks (fun us ws => us ++ prm π ws) (fun vs zs => vs ++ prm π zs) ∧ FnOk P w K mg base (L2.CX P w) k f fd ps sp
theorem p_callKw {g : List PV → Ro} {ks : List Str} {π : List Nat} (F : KwQ X.prog X.w X.K X.mg X.base x ks π k (spV (kx X cA) g)) (hr : Room k X.A) (hg : Gl X x) (hx : ∀ σ, PassesAt (L2.CX X.prog X.w) X σ (WE W σ)) (ha : PK X kws (tPA (kx X cA) W fs))
    (hl : ∀ (Γ Γ1 : En) (vs : List PV), fs Γ = .ok vs Γ1 → vs.length = ks.length) (hall : (backToKw pos (keywordEach kws X.env)).all (·.1.isSome) = true := by rfl) (hks : (backToKw pos (keywordEach kws X.env)).filterMap (·.1) = ks := by rfl)
    (hdb : (x == ("__debug__" : Str)) = false := by decide) (hpl : ((backTo pos (starEach [] X.env)).any (·.1) || (backToKw pos (keywordEach kws X.env)).any (·.1.isNone)) = false := by rfl) :
    PE X (.Call (.Name x p) [] kws pos) (tP (kx X cA) W (sCall (fun vs => g (prm π vs)) fs)) := by
  obtain ⟨f, fd, ps, hm, hk, hb, F⟩ := F.go
  refine ⟨fun pins s σ H Q I ⟨M0, M, Γ, ok, q⟩ => ?_⟩
  refine wpAny_Call_Name_kw (ld_glob I hg hm ?_ hdb)
  refine PySem.W.callWith_KW0 (h₀ := X.base) I.ok.mod.kin hk hall ?_ hpl
  refine thn (ha.run pos pins s σ H _ I ⟨M0, M, Γ, ok, OutA.bind q⟩) fun ws s2 ⟨zs, H2, I2, rz, vs, M1, Γ1, s1, r1, er, q1⟩ => ⟨I2.kIn, ?_⟩
  rw [hks, List.append_nil]
  have lz : zs.length = ks.length := by rw [r1.len]; exact hl _ _ _ er
  have r2 := hb.rel .nil rz
  have hsp : spV (kx X cA) g ([] ++ prm π zs) H2 Q (WE W σ) := by
    refine ⟨M1, prm π vs, s1.eok.alive, s1.eok.tab, rpA_prm r1 π, ?_⟩
    dsimp only at q1
    cases hgv : g (prm π vs) with
    | ok v =>
      rw [hgv] at q1
      exact fun u H' s r => q1 M1 H' u (Stp.stay s1.eok s) r
    | ex c v =>
      rw [hgv] at q1
      exact fun d u H' s e r => q1 M1 H' d u (Stp.stay s1.eok s) e r
    | no =>
      rw [hgv] at q1
      exact q1.elim
  refine wpAny_call (codeAny_mono (F.run X.A X.stack s2 H2 ⟨[], ks.zip ws⟩ ([] ++ prm π ws) ([] ++ prm π zs) Q (WE W σ) hr I2.env0 (hb.to s2 [] ws I2.kIn rfl (by rw [← rz.length]; exact lz)) r2 hsp) fun r s' hq => ?_)
  cases r with
  | error e => exact hx σ pins H2 s2 e s' I2 hq
  | ok fl =>
    cases fl with
    | ret u => exact I2.after hq
    | next => exact False.elim hq
    | brk => exact False.elim hq
    | cont => exact False.elim hq
/-- an own method, called by its arguments' names -/
structure MethK (P : Program) (w : World) (K : PySem.W.Frag) (mg : Str → Option Value) (base : Heap) (cA : CA) (c m : Str) (ks : List Str) (π : List Nat) (k : Nat) (sp : Sp) : Prop where
  go : ∃ f fd ps, Cls K (cA c) ∧ Meth K (cA c) m f ∧ KBn K fd ps 1 ks (fun us ws => us ++ prm π ws) (fun vs zs => vs ++ prm π zs) ∧ FnOk P w K mg base (L2.CX P w) k f fd ps sp
def kwG (π : List Nat) (g : List PV → Ro) : List PV → Ro
  | o :: vs => g (o :: prm π vs)
  | [] => .no
theorem p_methKw {c : Str} {g : List PV → Ro} {ks : List Str} {π : List Nat} {pl : Sem Bool} (Z : MethK X.prog X.w X.K X.mg X.base cA c m ks π k (spV (kx X cA) g)) (hr : Room k X.A) (hx : Passes (L2.CX X.prog X.w) X E) (ho : PE X o (tP (kx X cA) (Wc E) fo)) (ha : PK X kws (tPA (kx X cA) (Wc E) fs))
    (hl : ∀ (Γ Γ1 : En) (vs : List PV), fs Γ = .ok vs Γ1 → vs.length = ks.length) (hall : (backToKw pos (keywordEach kws X.env)).all (·.1.isSome) = true := by rfl) (hks : (backToKw pos (keywordEach kws X.env)).filterMap (·.1) = ks := by rfl)
    (hpl : ((backTo pos (starEach [] X.env)).any (·.1) || (backToKw pos (keywordEach kws X.env)).any (·.1.isNone)) = false := by rfl)
    (hev : eval ((o.Attribute m apos).Call [] kws pos) X.env = (do
                              let ov ← eval o X.env
                              standAt apos.atName
                              let __x ← holding [ov] (getMethod ov m pl)
                              match __x with
                                | (f, first) =>
                                  callWith pos f first (backTo pos (starEach [] X.env))
                                    (backToKw pos (keywordEach kws X.env))) := by rfl) : PE X (.Call (.Attribute o m apos) [] kws pos) (tP (kx X cA) (Wc E) (sMeth c m (kwG π g) fo fs)) := by
  obtain ⟨f, fd, ps, hC, hm, hb, F⟩ := Z.go
  refine ⟨fun pins s σ H Q I ⟨M0, M, Γ, ok, q⟩ => ?_⟩
  refine PySem.W.methodCall_KW (pl := pl) (thn (ho.run pins s σ H _ I ⟨M0, M, Γ, ok, Out.bind q⟩) fun u0 s1 ⟨u, H1, I1, ru, v, M1, Γ1, s1', r1, _, q1⟩ => ?_) hev
  cases v with
  | obj c' ns ws =>
    have q3 : Out (kx X cA) (Wc E) M0 M1 Γ1 σ H1 (if c' = c ∧ ns.contains m = false then (fs Γ1).bind fun vs Γ2 => match g (.obj c' ns ws :: prm π vs) with
      | .ok v => .ok v Γ2
      | .ex c v => .ex c v Γ2
      | .no => .no
    else .no) Q := q1
    clear q1
    by_cases z : c' = c ∧ ns.contains m = false
    · rw [if_pos z] at q3
      obtain ⟨z1, z2⟩ := z
      subst z1
      obtain ⟨t, dx, us, rfl, h1, l, r2⟩ := rp_obj.mp r1
      obtain rfl : u0 = Value.ref t := ru
      refine getmeth_ok I1 (msk_of h1).1 hC hm (zip_none z2) ?_
      refine PySem.W.callWith_KW0 (first := [.ref t]) (h₀ := X.base) I1.ok.mod.kin hm.kp hall ?_ hpl
      refine thn (ha.run pos pins s1 σ H1 _ I1 ⟨M0, M1, Γ1, s1'.eok, OutA.bind q3⟩) fun wv s2 ⟨zs, H2, I2, rz, vs, M2, Γ2, s2', r3, er, q2⟩ => ⟨I2.kIn, ?_⟩
      rw [hks]
      have lz : zs.length = ks.length := by rw [r3.len]; exact hl _ _ _ er
      have rr := hb.rel (.cons (show RelV (.ref t) (.ref t) from rfl) .nil) rz
      have hsp : spV (kx X cA) g ([.ref t] ++ prm π zs) H2 Q E := by
        refine ⟨M2, .obj c' ns ws :: prm π vs, s2'.eok.alive, s2'.eok.tab, rpA_cons.mpr ⟨s2'.keep s1'.eok r1, rpA_prm r3 π⟩, ?_⟩
        cases hgv : g (.obj c' ns ws :: prm π vs) with
        | ok v =>
          rw [hgv] at q2
          exact fun u H' s r => q2 M2 H' u (Stp.stay s2'.eok s) r
        | ex c v =>
          rw [hgv] at q2
          exact fun d u H' s e r => q2 M2 H' d u (Stp.stay s2'.eok s) e r
        | no =>
          rw [hgv] at q2
          exact q2.elim
      refine wpAny_call (codeAny_mono (F.run X.A X.stack s2 H2 ⟨[.ref t], ks.zip wv⟩ ([.ref t] ++ prm π wv) ([.ref t] ++ prm π zs) Q E hr I2.env0 (hb.to s2 [.ref t] wv I2.kIn rfl (by rw [← rz.length]; exact lz)) rr hsp) fun r s' hq => ?_)
      cases r with
      | error e => exact hx pins σ H2 s2 e s' I2 hq
      | ok fl =>
        cases fl with
        | ret u => exact I2.after hq
        | next => exact False.elim hq
        | brk => exact False.elim hq
        | cont => exact False.elim hq
    · rw [if_neg z] at q3
      exact q3.elim
  | _ => exact q1.elim
end
end QX

set_option Elab.async false
set_option linter.all false
set_option maxRecDepth 100000
set_option maxHeartbeats 4000000
namespace QX
open PySem PySem.Spec PySem.W PySem.Calls PyProof.Rows L2 MX
section
variable {X : Cx} {cA : CA} {W : WX} {a e : Expr} {p p1 p2 p3 q pos : Pos} {fa : SE} {k : Nat}
/-! ### len(set(texts)) -/
end
/-! ### sorted texts -/
section
variable {X : Cx} {cA : CA} {W : WX} {E : XK} {e : Expr} {x : Str} {fa : SE} {p pos p1 p2 p3 : Pos} {k : Nat} {fI : Addr} {fdI : FuncData}
/-! ### a list backward -/
/-! ### Hall(any value) -/
end
end QX

set_option Elab.async false
set_option linter.all false
set_option maxRecDepth 100000
set_option maxHeartbeats 4000000
namespace QX
open PySem PySem.Spec PySem.W PySem.Calls PyProof.Rows L2 MX
/-! ### an empty tuple that stood at first -/
theorem emptyB_ok {K : PySem.W.Frag} {a : Addr} (h : emptyB K a = true) : FzT K a [] := by
  unfold emptyB at h
  split at h
  · rename_i o ho
    split at h
    · rename_i its n hd
      rw [Bool.and_eq_true, decide_eq_true_eq] at h
      have e : its = #[] := Array.isEmpty_iff.mp h.2
      subst e
      exact ⟨o, #[], n, ho, h.1, hd, Nat.zero_le _, .nil⟩
    · cases h
  · cases h
theorem rp_empty {κ : Kx} {a : Addr} {H : Hp} (h : FzT κ.K a []) : Rp κ (.tup false []) (.ref a) H := rp_tup.mpr ⟨a, [], rfl, .inr ⟨rfl, h⟩, rpA_nil⟩
/-! ### what is made by arguments' names, or by defaults -/
def sPrm (π : List Nat) (fs : SA) : SA := fun Γ => (fs Γ).bind fun vs Γ1 => .ok (prm π vs) Γ1
def sDfl (fs : SA) : SA := fun Γ => (fs Γ).bind fun vs Γ1 => .ok (vs ++ [.tup false []]) Γ1
section
variable {X : Cx} {cA : CA} {E : XK} {x : Str} {pos p kpos : Pos} {e e2 : Expr} {fa : SE} {fs : SA} {k : Nat} {fI : Addr} {fdI : FuncData} {kws : List Keyword} {ks : List Str} {π : List Nat}
theorem p_mkHallK (M : Mk X.K (cA "Hall") fI) (F : FnOk X.prog X.w X.K X.mg X.base (L2.CX X.prog X.w) k fI fdI ["self", "text"] (spInitF X.K (cA "Hall") (cA "BadHall"))) (hr : Room (k + 1) X.A) (hg : Gl X x) (hm : X.mg x = some (.ref (cA "Hall"))) (hb : KBn X.K fdI ["self", "text"] 1 ["text"] (fun us ws => us ++ prm [0] ws) (fun vs zs => vs ++ prm [0] zs)) (hx : Passes (L2.CX X.prog X.w) X E)
    (ha : PE X e (tP (kx X cA) (Wc E) fa)) (hdb : (x == ("__debug__" : Str)) = false := by decide) :
    PE X (.Call (.Name x p) [] [⟨some "text", e, kpos⟩] pos) (tP (kx X cA) (Wc E) (sHall fa)) :=
  pe_mono (pe_makeK0 M F hr hg hm hb hx (pk_cons ha pk_nil) (by rfl) (by rfl) hdb (by rfl)) fun σ H Q h => by
    obtain ⟨M0, M, Γ, ok, q⟩ := mkHall_T (fa := fa) σ H Q h
    exact ⟨M0, M, Γ, ok, q.mono fun v H1 q1 => ⟨rfl, rfl, fun a dx h1 h2 h3 => q1 a dx h1 h2 h3⟩⟩
theorem p_mkBookK {g : List PV → Ro} (M : Mk X.K (cA "Book") fI) (F : FnOk X.prog X.w X.K X.mg X.base (L2.CX X.prog X.w) k fI fdI ["self", "hall", "sayings"] (spInitB (kx X cA) g)) (hr : Room (k + 1) X.A) (hg : Gl X x) (hm : X.mg x = some (.ref (cA "Book"))) (hb : KBn X.K fdI ["self", "hall", "sayings"] 1 ks (fun us ws => us ++ prm π ws) (fun vs zs => vs ++ prm π zs)) (hx : Passes (L2.CX X.prog X.w) X E)
    (ha : PK X kws (tPA (kx X cA) (Wc E) fs)) (hl : ∀ (Γ Γ1 : En) (vs : List PV), fs Γ = .ok vs Γ1 → vs.length = ks.length) (hall : (backToKw pos (keywordEach kws X.env)).all (·.1.isSome) = true := by rfl) (hks : (backToKw pos (keywordEach kws X.env)).filterMap (·.1) = ks := by rfl) (hdb : (x == ("__debug__" : Str)) = false := by decide)
    (hpl : ((backTo pos (starEach [] X.env)).any (·.1) || (backToKw pos (keywordEach kws X.env)).any (·.1.isNone)) = false := by rfl) :
    PE X (.Call (.Name x p) [] kws pos) (tP (kx X cA) (Wc E) (sMkB g (sPrm π fs))) :=
  pe_mono (pe_makeK0 M F hr hg hm hb hx ha hall hks hdb hpl) fun σ H Q h => by
    obtain ⟨M0, M, Γ, ok, q⟩ := mkBook_T (g := g) (fs := sPrm π fs) σ H Q h
    exact ⟨M0, M, Γ, ok, (OutA.bindA q).mono fun zs H1 ⟨vs, M1, Γ1, s1, r1, er, q1⟩ => ⟨rfl, by rw [r1.len]; exact hl _ _ _ er, fun a dx h1 h2 h3 => by
      have z := q1 M1 H1 (prm π zs) (Stp.refl s1.eok) (rpA_prm r1 π) a dx h1 h2 h3
      rw [List.append_nil] at z
      exact z⟩⟩
/-- Book(hall): its sayings as they are told when the class is made -/
theorem p_mkBook1 {g : List PV → Ro} {dB : Addr} {ds : List Value} (M : Mk X.K (cA "Book") fI) (F : FnOk X.prog X.w X.K X.mg X.base (L2.CX X.prog X.w) k fI fdI ["self", "hall", "sayings"] (spInitB (kx X cA) g)) (hr : Room (k + 1) X.A) (hg : Gl X x) (hm : X.mg x = some (.ref (cA "Book"))) (hb : L2.Binds X.K fdI ["self", "hall", "sayings"] ds) (hd : Vals [V.ref dB] ds) (hz : FzT X.K dB []) (hx : Passes (L2.CX X.prog X.w) X E)
    (ha : PA X [e] (tPA (kx X cA) (Wc E) fs)) (hdb : (x == ("__debug__" : Str)) = false := by decide) (he : starEach [e] X.env = (false, eval e X.env) :: starEach [] X.env := by rfl) (hpl : (backTo pos (starEach [] X.env)).any (·.1) = false := by rfl) :
    PE X (.Call (.Name x p) [e] [] pos) (tP (kx X cA) (Wc E) (sMkB g (sDfl fs))) :=
  pe_mono (pe_make M F hr hg hm hb hd hx ha hdb he hpl) fun σ H Q h => by
    obtain ⟨M0, M, Γ, ok, q⟩ := mkBook_T (g := g) (fs := sDfl fs) σ H Q h
    exact ⟨M0, M, Γ, ok, (OutA.bindA q).mono fun zs H1 ⟨vs, M1, Γ1, s1, r1, er, q1⟩ a dx h1 h2 h3 => by
      have z := q1 M1 H1 (zs ++ [.ref dB]) (Stp.refl s1.eok) (r1.app (rpA_cons.mpr ⟨rp_empty (κ := kx X cA) hz, rpA_nil⟩)) a dx h1 h2 h3
      rw [List.append_nil] at z
      exact z⟩
end
/-! ### a, b, .. = a list -/
def gTL (n : Nat) (g : SGs) : SG := fun v Γ => match v with
  | .lst xs => if xs.length = n then g xs Γ else .no
  | _ => .no
theorem g_lst {X : Cx} {cA : CA} {pos : Pos} {n kk : Nat} {ks : List Nat} {ts : List Expr} {gs : SGs} (hc : X.calm = true) (h : PGs X ts (tPGs (kx X cA) ks gs)) (hn : (assignEach ts X.env).length = n := by rfl) (hst : (assignEach ts X.env).findIdx? (·.1) = none := by rfl) : PG X (.Tuple ts kk pos) (tPG (kx X cA) ks (gTL n gs)) :=
  pg_mono (pg_lst hc h hn hst) fun u σ H Q ⟨M0, M, Γ, v, ok, r, q⟩ => by
    cases v with
    | lst xs =>
      obtain ⟨a, vs, rfl, ht, r2⟩ := rp_lst.mp r
      unfold gTL at q
      by_cases l : xs.length = n
      · simp only [l, if_true] at q
        exact ⟨a, vs, rfl, SqL.of (msk_of ht).1, r2.len.trans l, M0, M, Γ, xs, ok, r2, q⟩
      · simp only [l, if_false] at q
    | _ => exact q.elim
/-! ### what is asked of a class for + and | -/
/-! ### == where either one of two classes may stand -/
def gEqC2 (c1 : Str) (g1 : List PV → Ro) (c2 : Str) (g2 : List PV → Ro) (x y : PV) : Option PV := match x with
  | .obj c _ _ => if c = c1 then gEqOwn c1 g1 false x y else gEqOwn c2 g2 false x y
  | _ => gEq x y
section
variable {X : Cx} {cA : CA} {W : WX} {a b : Expr} {fa fb : SE} {pos : Pos} {k : Nat}
theorem EqN.mono {P : Program} {w : World} {K : PySem.W.Frag} {mg : Str → Option Value} {base : Heap} {cA : CA} {c : Str} {k k' : Nat} {sp : Sp} (h : EqN P w K mg base cA c k sp) (l : k ≤ k') : EqN P w K mg base cA c k' sp := by
  obtain ⟨f, fd, ps, a, b, F, d⟩ := h.go
  exact ⟨f, fd, ps, a, b, F.mono l, d⟩
def gOr (g g' : PV → PV → Option PV) (x y : PV) : Option PV := match g x y with
  | some d => some d
  | none => g' x y
theorem p_eqC2 {c1 c2 : Str} {g1 g2 : List PV → Ro} (Z1 : EqN X.prog X.w X.K X.mg X.base cA c1 k (spV (kx X cA) g1)) (Z2 : EqN X.prog X.w X.K X.mg X.base cA c2 k (spV (kx X cA) g2)) (hu : X.A.units + 64 < cLine) (hr : Room (k + 1) X.A) (ha : PE X a (tP (kx X cA) W fa)) (hb : PE X b (tP (kx X cA) W fb)) :
    PE X (.Compare a [.Eq] [b] pos) (tP (kx X cA) W (sBin (gEqC2 c1 g1 c2 g2) fa fb)) := by
  obtain ⟨f, fd, ps, hs, hf, F, hb', _, _⟩ := Z1.go
  obtain ⟨f2, fd2, ps2, hs2, hf2, F2, hb2, _, _⟩ := Z2.go
  have r1 : RDoS (kx X cA) _ (gOr gEq (gEqOwn c1 g1 false)) := RDoS.or (rdo_eq (κ := kx X cA)).s (rdo_eqOwn (κ := kx X cA) (c := c1) (g := g1) (neg := false)) fun x y d e => by
    unfold gOr at e
    split at e
    · rename_i z hz
      cases e
      exact .inl hz
    · exact .inr e
  exact p_cmpS (((op_eqP hu).or (op_eqOwn (κ := kx X cA) rfl hs hf F (hr.mono (Nat.le_succ k)) hb' passF)).or (op_eqOwn (κ := kx X cA) rfl hs2 hf2 F2 (hr.mono (Nat.le_succ k)) hb2 passF)) (RDoS.or r1 (rdo_eqOwn (κ := kx X cA)) fun x y d e => by
    cases x <;> (first | (exact .inl (by unfold gOr; rw [show gEq _ y = some d from e])) | skip)
    rename_i c ns ws
    have e : (if c = c1 then gEqOwn c1 g1 false (.obj c ns ws) y else gEqOwn c2 g2 false (.obj c ns ws) y) = some d := e
    split at e
    · refine .inl ?_
      unfold gOr
      have z : gEq (.obj c ns ws) y = none := by
        cases y <;> rfl
      rw [z]
      exact e
    · exact .inr e) ha hb
end
end QX

set_option Elab.async false
set_option linter.all false
set_option maxRecDepth 100000
set_option maxHeartbeats 4000000
namespace QX
open PySem PySem.Spec PySem.W PySem.Calls PyProof.Rows L2 MX
noncomputable def F_Hall_contains : SS := (sRet (sBin gIn (sAny 1) (sU (gFld "Hall" "people") (sAny 0))))
noncomputable def F_require_two : SS := (sSeq (sIfS (sBin (gNotInC "Hall" (runV F_Hall_contains 2 0)) (sAny 1) (sAny 0)) (sRaise "NoPerson" (sAny 1)) sSkip)
    (sIfS (sOr (sBin (gNotInC "Hall" (runV F_Hall_contains 2 0)) (sAny 2) (sAny 0)) (sBin gEq (sAny 2) (sAny 1))) (sRaise "NoPerson" (sAny 2)) sSkip))
noncomputable def F_Hall_told : SS := (sSeq (sExpr (sCall (runV F_require_two 3 0) (sCons (sAny 0) (sCons (sAny 1) (sCons (sAny 2) sNil)))))
    (sRet (sGet2 (sU (gFld "Hall" "_told") (sAny 0)) (sTup (sCons (sAny 1) (sCons (sAny 2) sNil))) (sC (.str "not")))))
noncomputable def F_Hall_len : SS := (sRet (sB gLenX (sCons (sU (gFld "Hall" "people") (sAny 0)) sNil)))
noncomputable def F_is_event : SS := (sSeq (sIfS (sOr (sNot (sU (gIsTy "tuple") (sAny 1))) (sBin gNe (sB gLenX (sCons (sAny 1) sNil)) (sC (.int 2)))) (sRet (sC (.bl false))) sSkip)
    (sSeq (sAsg (sAny 1) (gT 2 (gsCons (gV 2) (gsCons (gV 3) gsNil))))
    (sRet (sAnd (sBin (gInC "Hall" (runV F_Hall_contains 2 0)) (sAny 2) (sAny 0)) (sBin gIn (sAny 3) (sTup (sCons (sC (.str "in")) (sCons (sC (.str "out")) sNil))))))))
noncomputable def F_places_of : SS := (sRet (sDc [1, 2] (iEnu (sAny 0)) (gT 2 (gsCons (gV 1) (gsCons (gV 2) gsNil))) (sC (.bl true)) (sAny 2) (sAny 1)))
noncomputable def F_is_timeline : SS := (sSeq (sIfS (sOr (sNot (sU (gIsTy "tuple") (sAny 1))) (sBin gNe (sB gLenX (sCons (sAny 1) sNil)) (sBin gMul (sC (.int 2)) (sB (gLenC "Hall" (runV F_Hall_len 1 0)) (sCons (sAny 0) sNil))))) (sRet (sC (.bl false))) sSkip)
    (sSeq (sIfS (sNot (sB gAll (sCons (sLc [2] (iSeq (sAny 1)) (gV 2) (sC (.bl true)) (sCall (runV F_is_event 2 2) (sCons (sAny 0) (sCons (sAny 2) sNil)))) sNil))) (sRet (sC (.bl false))) sSkip)
    (sSeq (sSet 3 (sCall (runV F_places_of 1 2) (sCons (sAny 1) sNil)))
    (sRet (sAnd (sBin gEq (sB gLenX (sCons (sAny 3) sNil)) (sB gLenX (sCons (sAny 1) sNil))) (sB gAll (sCons (sLc [4] (iSeq (sU (gFld "Hall" "people") (sAny 0))) (gV 4) (sC (.bl true)) (sBin gLt (sBin gDict (sAny 3) (sTup (sCons (sAny 4) (sCons (sC (.str "in")) sNil)))) (sBin gDict (sAny 3) (sTup (sCons (sAny 4) (sCons (sC (.str "out")) sNil)))))) sNil)))))))
noncomputable def F_require_timeline : SS := (sIfS (sNot (sCall (runV F_is_timeline 2 3) (sCons (sAny 0) (sCons (sAny 1) sNil)))) (sRaise "BadTimeline" (sAny 1)) sSkip)
noncomputable def F_meet : SS := (sRet (sAnd (sBin gLt (sBin gDict (sAny 0) (sTup (sCons (sAny 1) (sCons (sC (.str "in")) sNil)))) (sBin gDict (sAny 0) (sTup (sCons (sAny 2) (sCons (sC (.str "out")) sNil))))) (sBin gLt (sBin gDict (sAny 0) (sTup (sCons (sAny 2) (sCons (sC (.str "in")) sNil)))) (sBin gDict (sAny 0) (sTup (sCons (sAny 1) (sCons (sC (.str "out")) sNil)))))))
noncomputable def F_is_tuple_of : SS := (sRet (sAnd (sU (gIsTy "tuple") (sAny 0)) (sBin gEq (sB gLenX (sCons (sAny 0) sNil)) (sAny 1))))
noncomputable def F_is_saying : SS := (sSeq (sIfS (sNot (sCall (runV F_is_tuple_of 2 0) (sCons (sAny 1) (sCons (sC (.int 3)) sNil)))) (sRet (sC (.bl false))) sSkip)
    (sSeq (sAsg (sAny 1) (gT 3 (gsCons (gV 2) (gsCons (gV 3) (gsCons (gV 4) gsNil)))))
    (sSeq (sIfS (sBin gIn (sAny 2) (sTup (sCons (sC (.str "met")) (sCons (sC (.str "not")) sNil)))) (sRet (sAnd (sBin (gInC "Hall" (runV F_Hall_contains 2 0)) (sAny 3) (sAny 0)) (sAnd (sBin (gInC "Hall" (runV F_Hall_contains 2 0)) (sAny 4) (sAny 0)) (sBin gNe (sAny 3) (sAny 4))))) sSkip)
    (sRet (sAnd (sBin gEq (sAny 2) (sC (.str "before"))) (sAnd (sCall (runV F_is_event 2 2) (sCons (sAny 0) (sCons (sAny 3) sNil))) (sAnd (sCall (runV F_is_event 2 2) (sCons (sAny 0) (sCons (sAny 4) sNil))) (sBin gNe (sBin gIx (sAny 3) (sC (.int 0))) (sBin gIx (sAny 4) (sC (.int 0)))))))))))
noncomputable def F_require_saying : SS := (sIfS (sNot (sCall (runV F_is_saying 2 3) (sCons (sAny 0) (sCons (sAny 1) sNil)))) (sRaise "BadSaying" (sAny 1)) sSkip)
noncomputable def F_holds : SS := (sSeq (sAsg (sAny 1) (gT 3 (gsCons (gV 2) (gsCons (gV 3) (gsCons (gV 4) gsNil)))))
    (sSeq (sIfS (sBin gEq (sAny 2) (sC (.str "before"))) (sRet (sBin gLt (sBin gDict (sAny 0) (sAny 3)) (sBin gDict (sAny 0) (sAny 4)))) sSkip)
    (sRet (sBin gEq (sCall (runV F_meet 3 0) (sCons (sAny 0) (sCons (sAny 3) (sCons (sAny 4) sNil)))) (sBin gEq (sAny 2) (sC (.str "met")))))))
noncomputable def F_is_so : SS := (sSeq (sExpr (sCall (runV F_require_timeline 2 0) (sCons (sAny 0) (sCons (sAny 1) sNil))))
    (sSeq (sExpr (sCall (runV F_require_saying 2 0) (sCons (sAny 0) (sCons (sAny 2) sNil))))
    (sRet (sCall (runV F_holds 2 3) (sCons (sCall (runV F_places_of 1 2) (sCons (sAny 1) sNil)) (sCons (sAny 2) sNil))))))
noncomputable def F_contrary : SS := (sSeq (sExpr (sCall (runV F_require_saying 2 0) (sCons (sAny 0) (sCons (sAny 1) sNil))))
    (sSeq (sAsg (sAny 1) (gT 3 (gsCons (gV 2) (gsCons (gV 3) (gsCons (gV 4) gsNil)))))
    (sSeq (sIfS (sBin gEq (sAny 2) (sC (.str "before"))) (sRet (sTup (sCons (sAny 2) (sCons (sAny 4) (sCons (sAny 3) sNil))))) sSkip)
    (sRet (sTup (sCons (sU (gTab [("met", "not"), ("not", "met")]) (sAny 2)) (sCons (sAny 3) (sCons (sAny 4) sNil))))))))
noncomputable def F__law_take (sq ad : Int) : SS := (sSeq (sIfS (sPeek (sBin gGt (sBin gIx (sAny 0) (sC (.int 0))) (sC (.int 0)))) (sSeq (sSet 2 (sBin gMod (sPeek (sB gInt (sCons (sBin gIx (sAny 0) (sC (.int 0))) sNil))) (sAny 1)))
    (sSeq (sOwSet 0 0 (sBin gDiv (sPeek (sBin gIx (sAny 0) (sC (.int 0)))) (sAny 1)))
    (sRet (sAny 2)))) sSkip)
    (sSeq (sOwSet 0 2 (sBin gAdd (sPeek (sBin gIx (sAny 0) (sC (.int 2)))) (sC (.int 1))))
    (sSeq (sSet 3 (sBin gIx (sLst (sCons (sC (.int 2147483647)) (sCons (sC (.int 2147483629)) (sCons (sC (.int 2147483587)) (sCons (sC (.int 2147483579)) (sCons (sC (.int 2147483563)) sNil)))))) (sBin gMod (sPeek (sB gInt (sCons (sBin gIx (sAny 0) (sC (.int 2))) sNil))) (sC (.int 5)))))
    (sSeq (sSet 4 (sBin gMod (sB gInt (sCons (sBin gPow (sB gInt (sCons (sBin gAdd (sBin gAdd (sPeek (sBin gIx (sAny 0) (sC (.int 1)))) (sBin gMul (sBin gMul (sC (.int sq)) (sPeek (sBin gIx (sAny 0) (sC (.int 2))))) (sPeek (sBin gIx (sAny 0) (sC (.int 2)))))) (sC (.int ad))) sNil)) (sC (.int 3))) sNil)) (sAny 3)))
    (sRet (sBin gMod (sB gInt (sCons (sBin gDiv (sBin gMul (sAny 4) (sBin gAdd (sBin gMod (sB gInt (sCons (sAny 4) sNil)) (sC (.int 10039))) (sBin gMul (sC (.int 91)) (sPeek (sBin gIx (sAny 0) (sC (.int 2))))))) (sC (.int 131))) sNil)) (sAny 1)))))))
noncomputable def F__law_of (tk : SS) : SS := (sRet (sBin gIx (sAny 1) (sCallW (runW tk 2 3) 0 (sCons (sB gLenX (sCons (sAny 1) sNil)) sNil))))
noncomputable def F__law_some (tk : SS) : SS := (sSeq (sPar [3, 4] (xsCons (xNew (sU (fun v => gList [v]) (sAny 1))) (xsCons (xNew (sLst sNil)) xsNil)))
    (sSeq (sFor (iRange (sCons (sAny 2) sNil)) (gV 5) (sExpr (sAppend 4 (sPopAt 3 (sCallW (runW tk 2 3) 0 (sCons (sPeek (sB gLenX (sCons (sAny 3) sNil))) sNil))))))
    (sRet (sAny 4))))
noncomputable def F__law_names (tk : SS) : SS := (sSeq (sSet 2 (sLst (sCons (sC (.str "a")) (sCons (sC (.str "b")) (sCons (sC (.str "c")) (sCons (sC (.str "ann")) (sCons (sC (.str "bob")) (sCons (sC (.str "met")) (sCons (sC (.str "open")) (sCons (sC (.str "people")) (sCons (sC (.str "heard")) (sCons (sC (.str "in")) (sCons (sC (.str "out")) (sCons (sC (.str "zzzzzzzz")) (sCons (sC (.str "x")) (sCons (sC (.str "not")) sNil))))))))))))))))
    (sRet (sCallW (runW (F__law_some tk) 3 3) 0 (sCons (sAny 2) (sCons (sAny 1) sNil)))))
noncomputable def F__law_line_of (tk : SS) : SS := (sSeq (sPar [2, 3, 4] (xsCons (xNew (sBin gMulL (sB gList (sCons (sAny 1) sNil)) (sC (.int 2)))) (xsCons (xNew (sLst sNil)) (xsCons (xNew (sLst sNil)) xsNil))))
    (sSeq (sWhile (sPeek (sBin gNe (sAny 2) (sLst sNil))) (sSeq (sSet 5 (sPopAt 2 (sCallW (runW tk 2 3) 0 (sCons (sPeek (sB gLenX (sCons (sAny 2) sNil))) sNil))))
    (sSeq (sExpr (sAppend 3 (sTup (sCons (sAny 5) (sCons (sIf (sPeek (sBin gIn (sAny 5) (sAny 4))) (sC (.str "out")) (sC (.str "in"))) sNil)))))
    (sExpr (sAppend 4 (sAny 5))))))
    (sRet (sB gTuple (sCons (sAny 3) sNil)))))
noncomputable def F__law_meet : SS := (sSeq (sIfS (sBin gGt (sTupM gIndex (sAny 0) (sTup (sCons (sAny 1) (sCons (sC (.str "in")) sNil)))) (sTupM gIndex (sAny 0) (sTup (sCons (sAny 2) (sCons (sC (.str "out")) sNil))))) (sRet (sC (.bl false))) sSkip)
    (sRet (sBin gLt (sTupM gIndex (sAny 0) (sTup (sCons (sAny 2) (sCons (sC (.str "in")) sNil)))) (sTupM gIndex (sAny 0) (sTup (sCons (sAny 1) (sCons (sC (.str "out")) sNil)))))))
noncomputable def F__law_pairs : SS := (sSeq (sPut 1 (xNew (sLst sNil)))
    (sSeq (sFor (iEnu (sAny 0)) (gT 2 (gsCons (gV 2) (gsCons (gV 3) gsNil))) (sExpr (sExtend 1 (sLc [4] (iSeq (sSl (sAny 0) (sSome (sBin gAdd (sAny 2) (sC (.int 1)))) sNone)) (gV 4) (sC (.bl true)) (sTup (sCons (sAny 3) (sCons (sAny 4) sNil)))))))
    (sRet (sAny 1))))
noncomputable def F__law_there : SS := (sSeq (sPar [3, 4] (xsCons (xVa (sTupM gIndex (sAny 1) (sAny 2))) (xsCons (xNew (sLst sNil)) xsNil)))
    (sSeq (sFor (iSeq (sAny 0)) (gV 5) (sIfS (sAnd (sBin gNe (sAny 5) (sBin gIx (sAny 2) (sC (.int 0)))) (sChain gLt gLt (sTupM gIndex (sAny 1) (sTup (sCons (sAny 5) (sCons (sC (.str "in")) sNil)))) (sAny 3) (sTupM gIndex (sAny 1) (sTup (sCons (sAny 5) (sCons (sC (.str "out")) sNil)))))) (sExpr (sAppend 4 (sAny 5))) sSkip))
    (sRet (sB gTuple (sCons (sAny 4) sNil)))))
noncomputable def F__law_hall (tk : SS) : SS := (sSeq (sSet 2 (sCallW (runW (F__law_names tk) 2 1) 0 (sCons (sBin gAdd (sC (.int 1)) (sCallW (runW tk 2 3) 0 (sCons (sAny 1) sNil))) sNil)))
    (sSeq (sPar [3, 4, 5] (xsCons (xVa (sCallW (runW (F__law_line_of tk) 2 4) 0 (sCons (sAny 2) sNil))) (xsCons (xVa (sLst sNil)) (xsCons (xNew (sLst sNil)) xsNil))))
    (sSeq (sIfS (sBin gLt (sB gLenX (sCons (sAny 2) sNil)) (sC (.int 7))) (sSeq (sSet 6 (sCallW (runW (F__law_some tk) 3 3) 0 (sCons (sCall (runV F__law_pairs 1 4) (sCons (sAny 2) sNil)) (sCons (sB gLenX (sCons (sCall (runV F__law_pairs 1 4) (sCons (sAny 2) sNil)) sNil)) sNil))))
    (sSeq (sSet 4 (sSl (sAny 6) sNone (sSome (sCallW (runW tk 2 3) 0 (sCons (sBin gAdd (sB gMin (sCons (sC (.int 4)) (sCons (sB gLenX (sCons (sAny 6) sNil)) sNil))) (sC (.int 1))) sNil)))))
    (sSet 5 (sLc [7] (iSeq (sSl (sAny 6) (sSome (sB gLenX (sCons (sAny 4) sNil))) sNone)) (gV 7) (sCall (runV F__law_meet 3 0) (sCons (sAny 3) (sCons (sBin gIx (sAny 7) (sC (.int 0))) (sCons (sBin gIx (sAny 7) (sC (.int 1))) sNil)))) (sB gList (sCons (sAny 7) sNil)))))) (sSeq (sFor (iSeq (sAny 2)) (gV 8) (sSeq (sSet 9 (sBin gAdd (sLst (sCons (sAny 8) sNil)) (sB gList (sCons (sCall (runV F__law_there 3 3) (sCons (sAny 2) (sCons (sAny 3) (sCons (sTup (sCons (sAny 8) (sCons (sC (.str "out")) sNil))) sNil)))) sNil))))
    (sExpr (sExtend 5 (sIf (sBin gGt (sB gLenX (sCons (sAny 9) sNil)) (sC (.int 1))) (sLst (sCons (sCallW (runW (F__law_some tk) 3 3) 0 (sCons (sAny 9) (sCons (sB gLenX (sCons (sAny 9) sNil)) sNil))) sNil)) (sLst sNil))))))
    (sSeq (sSet 10 (sLc [7] (iSeq (sCall (runV F__law_pairs 1 4) (sCons (sAny 2) sNil))) (gV 7) (sNot (sCall (runV F__law_meet 3 0) (sCons (sAny 3) (sCons (sBin gIx (sAny 7) (sC (.int 0))) (sCons (sBin gIx (sAny 7) (sC (.int 1))) sNil))))) (sAny 7)))
    (sSet 4 (sCallW (runW (F__law_some tk) 3 3) 0 (sCons (sAny 10) (sCons (sB gMin (sCons (sB gLenX (sCons (sAny 10) sNil)) (sCons (sB gInt (sCons (sCallW (runW tk 2 3) 0 (sCons (sC (.int 5)) sNil)) sNil)) sNil))) sNil)))))))
    (sSeq (sSet 4 (sLc [7] (iSeq (sAny 4)) (gV 7) (sC (.bl true)) (sIf (sBin gEq (sCallW (runW tk 2 3) 0 (sCons (sC (.int 2)) sNil)) (sC (.int 0))) (sAny 7) (sU gRevT (sAny 7)))))
    (sRet (sDict ["people", "mets", "opens", "line"] (sCons (sAny 2) (sCons (sAny 5) (sCons (sAny 4) (sCons (sAny 3) sNil))))))))))
noncomputable def F__law_text : SS := (sSeq (sSet 2 (sBin gAdd (sLst (sCons (sStrM gJoin (sC (.str " ")) (sBin gAdd (sLst (sCons (sC (.str "people")) sNil)) (sB gList (sCons (sBin gDict (sAny 0) (sC (.str "people"))) sNil)))) sNil)) (sLc [1] (iSeq (sBin gDict (sAny 0) (sC (.str "mets")))) (gV 1) (sC (.bl true)) (sStrM gJoin (sC (.str " ")) (sBin gAdd (sLst (sCons (sC (.str "met")) sNil)) (sB gList (sCons (sAny 1) sNil)))))))
    (sRet (sStrM gJoin (sC (.str "\n")) (sBin gAdd (sAny 2) (sLc [1] (iSeq (sBin gDict (sAny 0) (sC (.str "opens")))) (gV 1) (sC (.bl true)) (sStrM gJoin (sC (.str " ")) (sBin gAdd (sLst (sCons (sC (.str "open")) sNil)) (sB gList (sCons (sAny 1) sNil)))))))))
noncomputable def F__law_two (tk : SS) : SS := (sRet (sB gTuple (sCons (sCallW (runW (F__law_some tk) 3 3) 0 (sCons (sAny 1) (sCons (sC (.int 2)) sNil))) sNil)))
noncomputable def F__law_saying (tk : SS) : SS := (sSeq (sAsg (sCallW (runW (F__law_two tk) 2 0) 0 (sCons (sAny 1) sNil)) (gT 2 (gsCons (gV 2) (gsCons (gV 3) gsNil))))
    (sSeq (sIfS (sBin gEq (sCallW (runW tk 2 3) 0 (sCons (sC (.int 3)) sNil)) (sC (.int 0))) (sRet (sTup (sCons (sCallW (runW (F__law_of tk) 2 0) 0 (sCons (sLst (sCons (sC (.str "met")) (sCons (sC (.str "not")) sNil))) sNil)) (sCons (sAny 2) (sCons (sAny 3) sNil))))) sSkip)
    (sRet (sTup (sCons (sC (.str "before")) (sCons (sTup (sCons (sAny 2) (sCons (sCallW (runW (F__law_of tk) 2 0) 0 (sCons (sLst (sCons (sC (.str "in")) (sCons (sC (.str "out")) sNil))) sNil)) sNil))) (sCons (sTup (sCons (sAny 3) (sCons (sCallW (runW (F__law_of tk) 2 0) 0 (sCons (sLst (sCons (sC (.str "in")) (sCons (sC (.str "out")) sNil))) sNil)) sNil))) sNil)))))))
noncomputable def F__law_is_so : SS := (sSeq (sIfS (sBin gEq (sBin gIx (sAny 1) (sC (.int 0))) (sC (.str "before"))) (sRet (sBin gLt (sTupM gIndex (sAny 0) (sBin gIx (sAny 1) (sC (.int 1)))) (sTupM gIndex (sAny 0) (sBin gIx (sAny 1) (sC (.int 2)))))) sSkip)
    (sRet (sBin gEq (sCall (runV F__law_meet 3 0) (sCons (sAny 0) (sCons (sBin gIx (sAny 1) (sC (.int 1))) (sCons (sBin gIx (sAny 1) (sC (.int 2))) sNil)))) (sBin gEq (sBin gIx (sAny 1) (sC (.int 0))) (sC (.str "met"))))))
noncomputable def F__law_contrary : SS := (sSeq (sIfS (sBin gEq (sBin gIx (sAny 0) (sC (.int 0))) (sC (.str "before"))) (sRet (sTup (sCons (sC (.str "before")) (sCons (sBin gIx (sAny 0) (sC (.int 2))) (sCons (sBin gIx (sAny 0) (sC (.int 1))) sNil))))) sSkip)
    (sRet (sBin gAdd (sTup (sCons (sIf (sBin gEq (sBin gIx (sAny 0) (sC (.int 0))) (sC (.str "met"))) (sC (.str "not")) (sC (.str "met"))) sNil)) (sSl (sAny 0) (sSome (sC (.int 1))) sNone))))
noncomputable def F__law_right (tk : SS) : SS := (sSeq (sSet 1 (sCallW (runW (F__law_hall tk) 2 9) 0 (sCons (sC (.int 9)) sNil)))
    (sSeq (sSet 2 (sBin gDict (sAny 1) (sC (.str "people"))))
    (sSeq (sIfS (sBin gLt (sB gLenX (sCons (sAny 2) sNil)) (sC (.int 2))) (sRet (sC (.bl true))) sSkip)
    (sSeq (sPar [3, 4] (xsCons (xVa (sHall (sCall (runV F__law_text 1 2) (sCons (sAny 1) sNil)))) (xsCons (xVa (sLst (sCons (sBin gDict (sAny 1) (sC (.str "line"))) (sCons (sCallW (runW (F__law_line_of tk) 2 4) 0 (sCons (sAny 2) sNil)) sNil)))) xsNil)))
    (sSeq (sFor (iRange (sCons (sC (.int 20)) sNil)) (gV 5) (sSeq (sSet 6 (sCallW (runW (F__law_saying tk) 2 2) 0 (sCons (sAny 2) sNil)))
    (sSeq (sSet 7 (sCall (runV F_contrary 2 3) (sCons (sAny 3) (sCons (sAny 6) sNil))))
    (sSeq (sIfS (sOr (sBin gNe (sB gRepr (sCons (sAny 7) sNil)) (sB gRepr (sCons (sCall (runV F__law_contrary 1 0) (sCons (sAny 6) sNil)) sNil))) (sBin gNe (sCall (runV F_contrary 2 3) (sCons (sAny 3) (sCons (sAny 7) sNil))) (sAny 6))) (sRet (sC (.bl false))) sSkip)
    (sFor (iSeq (sAny 4)) (gV 8) (sSeq (sSet 9 (sCall (runV F__law_is_so 2 0) (sCons (sAny 8) (sCons (sAny 6) sNil))))
    (sIfS (sOr (sBin gNe (sB gRepr (sCons (sCall (runV F_is_so 3 0) (sCons (sAny 3) (sCons (sAny 8) (sCons (sAny 6) sNil)))) sNil)) (sB gRepr (sCons (sAny 9) sNil))) (sBin gNe (sB gRepr (sCons (sCall (runV F_is_so 3 0) (sCons (sAny 3) (sCons (sAny 8) (sCons (sAny 7) sNil)))) sNil)) (sB gRepr (sCons (sNot (sAny 9)) sNil)))) (sRet (sC (.bl false))) sSkip)))))))
    (sRet (sC (.bl true))))))))
noncomputable def F_met_by : SS := (sSeq (sExpr (sCall (runV F_require_timeline 2 0) (sCons (sAny 0) (sCons (sAny 1) sNil))))
    (sSeq (sExpr (sCall (runV F_require_two 3 0) (sCons (sAny 0) (sCons (sAny 2) (sCons (sAny 3) sNil)))))
    (sRet (sCall (runV F_meet 3 0) (sCons (sCall (runV F_places_of 1 2) (sCons (sAny 1) sNil)) (sCons (sAny 2) (sCons (sAny 3) sNil)))))))
noncomputable def F_there : SS := (sSeq (sExpr (sCall (runV F_require_timeline 2 0) (sCons (sAny 0) (sCons (sAny 1) sNil))))
    (sSeq (sIfS (sNot (sCall (runV F_is_event 2 2) (sCons (sAny 0) (sCons (sAny 2) sNil)))) (sRaise "BadEvent" (sAny 2)) sSkip)
    (sSeq (sSet 3 (sCall (runV F_places_of 1 2) (sCons (sAny 1) sNil)))
    (sSeq (sSet 4 (sBin gDict (sAny 3) (sAny 2)))
    (sRet (sB gTuple (sCons (sLc [5] (iSeq (sU (gFld "Hall" "people") (sAny 0))) (gV 5) (sChain gLt gLt (sBin gDict (sAny 3) (sTup (sCons (sAny 5) (sCons (sC (.str "in")) sNil)))) (sAny 4) (sBin gDict (sAny 3) (sTup (sCons (sAny 5) (sCons (sC (.str "out")) sNil))))) (sAny 5)) sNil)))))))
noncomputable def F_order_of : SS := (sSeq (sExpr (sCall (runV F_require_timeline 2 0) (sCons (sAny 0) (sCons (sAny 1) sNil))))
    (sSeq (sSet 2 (sCall (runV F_places_of 1 2) (sCons (sAny 1) sNil)))
    (sSeq (sSet 5 (sLc2 [3, 4] [4] (iSeq (sU (gFld "Hall" "people") (sAny 0))) (gV 3) (sC (.bl true)) (iSeq (sU (gFld "Hall" "people") (sAny 0))) (gV 4) (sC (.bl true)) (sTup (sCons (sAny 3) (sCons (sAny 4) sNil)))))
    (sRet (sB gTuple (sCons (sB gSortE (sCons (sLc [3, 4] (iSeq (sAny 5)) (gT 2 (gsCons (gV 3) (gsCons (gV 4) gsNil))) (sBin gLt (sBin gDict (sAny 2) (sTup (sCons (sAny 3) (sCons (sC (.str "out")) sNil)))) (sBin gDict (sAny 2) (sTup (sCons (sAny 4) (sCons (sC (.str "in")) sNil))))) (sTup (sCons (sAny 3) (sCons (sAny 4) sNil)))) sNil)) sNil))))))
noncomputable def F_turned : SS := (sSeq (sExpr (sCall (runV F_require_timeline 2 0) (sCons (sAny 0) (sCons (sAny 1) sNil))))
    (sRet (sB gTuple (sCons (sLc [2, 3] (iRev (sAny 1)) (gT 2 (gsCons (gV 2) (gsCons (gV 3) gsNil))) (sC (.bl true)) (sTup (sCons (sAny 2) (sCons (sU (gTab [("in", "out"), ("out", "in")]) (sAny 3)) sNil)))) sNil))))
noncomputable def F_keeps : SS := (sSeq (sExpr (sCall (runV F_require_timeline 2 0) (sCons (sAny 0) (sCons (sAny 1) sNil))))
    (sSeq (sSet 2 (sCall (runV F_places_of 1 2) (sCons (sAny 1) sNil)))
    (sSeq (sSet 5 (sLc2 [3, 4] [4] (iSeq (sU (gFld "Hall" "people") (sAny 0))) (gV 3) (sC (.bl true)) (iSeq (sU (gFld "Hall" "people") (sAny 0))) (gV 4) (sBin gNe (sAny 3) (sAny 4)) (sTup (sCons (sAny 3) (sCons (sAny 4) sNil)))))
    (sSeq (sSet 6 (sLc [3, 4] (iSeq (sAny 5)) (gT 2 (gsCons (gV 3) (gsCons (gV 4) gsNil))) (sBin gNe (sMeth "Hall" "told" (runV F_Hall_told 3 0) (sAny 0) (sCons (sAny 3) (sCons (sAny 4) sNil))) (sC (.str "open"))) (sTup (sCons (sAny 3) (sCons (sAny 4) sNil)))))
    (sRet (sB gAll (sCons (sLc [3, 4] (iSeq (sAny 6)) (gT 2 (gsCons (gV 3) (gsCons (gV 4) gsNil))) (sC (.bl true)) (sBin gEq (sCall (runV F_meet 3 0) (sCons (sAny 2) (sCons (sAny 3) (sCons (sAny 4) sNil)))) (sBin gEq (sMeth "Hall" "told" (runV F_Hall_told 3 0) (sAny 0) (sCons (sAny 3) (sCons (sAny 4) sNil))) (sC (.str "met"))))) sNil)))))))
noncomputable def F_are_sayings : SS := (sSeq (sIfS (sOr (sNot (sU (gIsTy "tuple") (sAny 1))) (sBin gGt (sB gLenX (sCons (sAny 1) sNil)) (sC (.int 30)))) (sRet (sC (.bl false))) sSkip)
    (sRet (sB gAll (sCons (sLc [2] (iSeq (sAny 1)) (gV 2) (sC (.bl true)) (sCall (runV F_is_saying 2 3) (sCons (sAny 0) (sCons (sAny 2) sNil)))) sNil))))
noncomputable def F_Book_broken : SS := (sSeq (sExpr (sCall (runV F_require_timeline 2 0) (sCons (sU (gFld "Book" "hall") (sAny 0)) (sCons (sAny 1) sNil))))
    (sSeq (sSet 2 (sCall (runV F_places_of 1 2) (sCons (sAny 1) sNil)))
    (sRet (sB gTuple (sCons (sLc [3, 4] (iEnu (sU (gFld "Book" "sayings") (sAny 0))) (gT 2 (gsCons (gV 3) (gsCons (gV 4) gsNil))) (sNot (sCall (runV F_holds 2 3) (sCons (sAny 2) (sCons (sAny 4) sNil)))) (sAny 3)) sNil)))))
noncomputable def F_Book_fits : SS := (sRet (sAnd (sCall (runV F_keeps 2 5) (sCons (sU (gFld "Book" "hall") (sAny 0)) (sCons (sAny 1) sNil))) (sBin gEq (sMeth "Book" "broken" (runV F_Book_broken 2 3) (sAny 0) (sCons (sAny 1) sNil)) (sTup sNil))))
noncomputable def F_Hall_eq : SS := (sRet (sAnd (sU (gIsC [] ["Hall"] "Hall") (sAny 1)) (sBin gEq (sU (gFld "Hall" "text") (sAny 0)) (sU (gFld "Hall" "text") (sAny 1)))))
noncomputable def F_line_without : SS := (sSeq (sStar 2 3 (sStrM gSplit (sAny 0) (sC (.str " "))))
    (sSeq (sSet 5 (sLc [4] (iSeq (sAny 3)) (gV 4) (sBin gNe (sAny 4) (sAny 1)) (sAny 4)))
    (sSeq (sIfS (sAnd (sBin gNe (sAny 2) (sC (.str "people"))) (sBin gLt (sB gLenX (sCons (sAny 5) sNil)) (sC (.int 2)))) (sRet (sC (.str ""))) sSkip)
    (sRet (sStrM gJoin (sC (.str " ")) (sLst (sCons (sAny 2) (sStarC (sAny 5) sNil))))))))
noncomputable def F_Hall_without : SS := (sSeq (sIfS (sBin gNotIn (sAny 1) (sU (gFld "Hall" "people") (sAny 0))) (sRaise "NoPerson" (sAny 1)) sSkip)
    (sSeq (sIfS (sBin gEq (sB gLenX (sCons (sU (gFld "Hall" "people") (sAny 0)) sNil)) (sC (.int 1))) (sRaise "Alone" (sAny 1)) sSkip)
    (sSeq (sSet 3 (sLc [2] (iSeq (sStrM gSplit (sU (gFld "Hall" "text") (sAny 0)) (sC (.str "\n")))) (gV 2) (sC (.bl true)) (sCall (runV F_line_without 2 4) (sCons (sAny 2) (sCons (sAny 1) sNil)))))
    (sRet (sHall (sStrM gJoin (sC (.str "\n")) (sLc [2] (iSeq (sAny 3)) (gV 2) (sBin gNe (sAny 2) (sC (.str ""))) (sAny 2))))))))
noncomputable def F_is_number : SS := (sRet (sAnd (sU (gIsTy "int") (sAny 0)) (sAnd (sNot (sU (gIsTy "bool") (sAny 0))) (sChain gLe gLt (sC (.int 0)) (sAny 0) (sAny 1)))))
noncomputable def F_Book_without : SS := (sSeq (sIfS (sNot (sCall (runV F_is_number 2 0) (sCons (sAny 1) (sCons (sB gLenX (sCons (sU (gFld "Book" "sayings") (sAny 0)) sNil)) sNil)))) (sRaise "NoSaying" (sAny 1)) sSkip)
    (sRet (sMkB (runV F_are_sayings 2 1) (sCons (sU (gFld "Book" "hall") (sAny 0)) (sCons (sTup (sStarC (sSl (sU (gFld "Book" "sayings") (sAny 0)) sNone (sSome (sAny 1))) (sStarC (sSl (sU (gFld "Book" "sayings") (sAny 0)) (sSome (sBin gAdd (sAny 1) (sC (.int 1)))) sNone) sNil))) sNil)))))
noncomputable def F_Book_eq : SS := (sRet (sAnd (sU (gIsC [] ["Book"] "Book") (sAny 1)) (sAnd (sBin (gEqC "Hall" (runV F_Hall_eq 2 0)) (sU (gFld "Book" "hall") (sAny 0)) (sU (gFld "Book" "hall") (sAny 1))) (sBin gEq (sU (gFld "Book" "sayings") (sAny 0)) (sU (gFld "Book" "sayings") (sAny 1))))))
noncomputable def F__law_right_8 (tk : SS) : SS := (sSeq (sAsg (sCallW (runW (F__law_names tk) 2 1) 0 (sCons (sC (.int 3)) sNil)) (gTL 3 (gsCons (gV 1) (gsCons (gV 2) (gsCons (gV 3) gsNil)))))
    (sSeq (sSet 4 (sBin gAdd (sBin gAdd (sBin gAdd (sBin gAdd (sBin gAdd (sBin gAdd (sBin gAdd (sBin gAdd (sBin gAdd (sBin gAdd (sBin gAdd (sBin gAdd (sBin gAdd (sC (.str "people ")) (sAny 1)) (sC (.str " "))) (sAny 2)) (sC (.str " "))) (sAny 3)) (sC (.str "\nmet "))) (sAny 1)) (sC (.str " "))) (sAny 2)) (sC (.str "\nopen "))) (sAny 3)) (sC (.str " "))) (sAny 2)))
    (sSeq (sSet 5 (sTup (sCons (sTup (sCons (sAny 1) (sCons (sC (.str "in")) sNil))) (sCons (sTup (sCons (sAny 2) (sCons (sC (.str "in")) sNil))) (sCons (sTup (sCons (sAny 1) (sCons (sC (.str "out")) sNil))) (sCons (sTup (sCons (sAny 3) (sCons (sC (.str "in")) sNil))) (sCons (sTup (sCons (sAny 2) (sCons (sC (.str "out")) sNil))) (sCons (sTup (sCons (sAny 3) (sCons (sC (.str "out")) sNil))) sNil))))))))
    (sSeq (sPar [6, 7] (xsCons (xVa (sHall (sAny 4))) (xsCons (xVa (sLst (sCons (sTup (sCons (sC (.str "met")) (sCons (sAny 1) (sCons (sAny 2) sNil)))) (sCons (sTup (sCons (sC (.str "not")) (sCons (sAny 2) (sCons (sAny 3) sNil)))) (sCons (sTup (sCons (sC (.str "before")) (sCons (sTup (sCons (sAny 1) (sCons (sC (.str "out")) sNil))) (sCons (sTup (sCons (sAny 3) (sCons (sC (.str "in")) sNil))) sNil)))) sNil))))) xsNil)))
    (sSeq (sSet 8 (sCallW (runW (F__law_of tk) 2 0) 0 (sCons (sBin gAdd (sAny 7) (sLst (sCons (sTup (sCons (sC (.str "before")) (sCons (sTup (sCons (sAny 3) (sCons (sC (.str "out")) sNil))) (sCons (sTup (sCons (sAny 2) (sCons (sC (.str "in")) sNil))) sNil)))) sNil))) sNil)))
    (sSeq (sPut 9 (xNew (sLst (sCons (sTup (sCons (sAny 6) (sCons (sHall (sAny 4)) sNil))) (sCons (sTup (sCons (sMeth "Hall" "told" (kwG [1, 0] (runV F_Hall_told 3 0)) (sAny 6) (sCons (sAny 2) (sCons (sAny 1) sNil))) (sCons (sMeth "Hall" "told" (runV F_Hall_told 3 0) (sAny 6) (sCons (sAny 1) (sCons (sAny 2) sNil))) sNil))) sNil)))))
    (sSeq (sExpr (sAppend 9 (sTup (sCons (sMeth "Hall" "without" (kwG [0] (runV F_Hall_without 2 2)) (sAny 6) (sCons (sAny 1) sNil)) (sCons (sMeth "Hall" "without" (runV F_Hall_without 2 2) (sAny 6) (sCons (sAny 1) sNil)) sNil)))))
    (sSeq (sExpr (sAppend 9 (sTup (sCons (sCall (fun vs => (runV F_met_by 4 0) (prm [3, 2, 1, 0] vs)) (sCons (sAny 2) (sCons (sAny 1) (sCons (sAny 5) (sCons (sAny 6) sNil))))) (sCons (sCall (runV F_met_by 4 0) (sCons (sAny 6) (sCons (sAny 5) (sCons (sAny 1) (sCons (sAny 2) sNil))))) sNil)))))
    (sSeq (sExpr (sAppend 9 (sTup (sCons (sCall (fun vs => (runV F_there 3 3) (prm [2, 1, 0] vs)) (sCons (sTup (sCons (sAny 1) (sCons (sC (.str "out")) sNil))) (sCons (sAny 5) (sCons (sAny 6) sNil)))) (sCons (sCall (runV F_there 3 3) (sCons (sAny 6) (sCons (sAny 5) (sCons (sTup (sCons (sAny 1) (sCons (sC (.str "out")) sNil))) sNil)))) sNil)))))
    (sSeq (sExpr (sAppend 9 (sTup (sCons (sCall (fun vs => (runV F_order_of 2 4) (prm [1, 0] vs)) (sCons (sAny 5) (sCons (sAny 6) sNil))) (sCons (sCall (runV F_order_of 2 4) (sCons (sAny 6) (sCons (sAny 5) sNil))) sNil)))))
    (sSeq (sExpr (sAppend 9 (sTup (sCons (sCall (fun vs => (runV F_turned 2 2) (prm [1, 0] vs)) (sCons (sAny 5) (sCons (sAny 6) sNil))) (sCons (sCall (runV F_turned 2 2) (sCons (sAny 6) (sCons (sAny 5) sNil))) sNil)))))
    (sSeq (sExpr (sAppend 9 (sTup (sCons (sCall (fun vs => (runV F_is_so 3 0) (prm [2, 1, 0] vs)) (sCons (sAny 8) (sCons (sAny 5) (sCons (sAny 6) sNil)))) (sCons (sCall (runV F_is_so 3 0) (sCons (sAny 6) (sCons (sAny 5) (sCons (sAny 8) sNil)))) sNil)))))
    (sSeq (sExpr (sAppend 9 (sTup (sCons (sCall (fun vs => (runV F_contrary 2 3) (prm [1, 0] vs)) (sCons (sAny 8) (sCons (sAny 6) sNil))) (sCons (sCall (runV F_contrary 2 3) (sCons (sAny 6) (sCons (sAny 8) sNil))) sNil)))))
    (sSeq (sSet 10 (sMkB (runV F_are_sayings 2 1) (sPrm [1, 0] (sCons (sTup (sCons (sAny 8) sNil)) (sCons (sAny 6) sNil)))))
    (sSeq (sExpr (sExtend 9 (sLst (sCons (sTup (sCons (sAny 10) (sCons (sMkB (runV F_are_sayings 2 1) (sCons (sAny 6) (sCons (sTup (sCons (sAny 8) sNil)) sNil))) sNil))) (sCons (sTup (sCons (sMeth "Book" "fits" (kwG [0] (runV F_Book_fits 2 0)) (sAny 10) (sCons (sAny 5) sNil)) (sCons (sMeth "Book" "fits" (runV F_Book_fits 2 0) (sAny 10) (sCons (sAny 5) sNil)) sNil))) sNil)))))
    (sSeq (sExpr (sExtend 9 (sLst (sCons (sTup (sCons (sMeth "Book" "broken" (kwG [0] (runV F_Book_broken 2 3)) (sAny 10) (sCons (sAny 5) sNil)) (sCons (sMeth "Book" "broken" (runV F_Book_broken 2 3) (sAny 10) (sCons (sAny 5) sNil)) sNil))) (sCons (sTup (sCons (sMeth "Book" "without" (kwG [0] (runV F_Book_without 2 0)) (sAny 10) (sCons (sC (.int 0)) sNil)) (sCons (sMkB (runV F_are_sayings 2 1) (sDfl (sCons (sAny 6) sNil))) sNil))) sNil)))))
    (sRet (sB gAll (sCons (sLc [11, 12] (iSeq (sAny 9)) (gT 2 (gsCons (gV 11) (gsCons (gV 12) gsNil))) (sC (.bl true)) (sBin (gEqC2 "Hall" (runV F_Hall_eq 2 0) "Book" (runV F_Book_eq 2 0)) (sAny 11) (sAny 12))) sNil)))))))))))))))))))
end QX

set_option Elab.async false
set_option linter.all false
set_option maxRecDepth 100000
set_option maxHeartbeats 4000000
namespace K15
open PySem PySem.Spec PySem.W PySem.Calls PyProof.Rows L2 MX QX
section
variable {P : Program} {w : World} {K : PySem.W.Frag} {h : Heap} {mg : Str → Option Value} {f : Addr}
abbrev cA (K : PySem.W.Frag) : QX.CA := ⟨He.ga K, tabs K⟩
abbrev Says (w : World) (h : Heap) (K : PySem.W.Frag) : Prop := He.SaysX fa fn ts tf fx w h K
theorem fact_of (c : Says w h K) {x : He.Fa} (hf : x ∈ fa) : x.ok K = true := He.SaysD.facts c.t.d hf
theorem glo_of (X : K.In h) (G : h.Ns mainGlobals mg) (c : Says w h K) {x : Str} (hx : x ∈ glos) : mg x = some (.ref (He.ga K x)) :=
  He.glo_ok X G (fact_of c (List.mem_append_left _ (List.mem_append_left _ (List.mem_map_of_mem hx))))
theorem blt_of (X : K.In h) (G : h.Ns mainGlobals mg) (c : Says w h K) {x : Str} (hx : x ∈ blts) : mg x = none :=
  He.free_ok X G (fact_of c (List.mem_append_left _ (List.mem_append_right _ (List.mem_map_of_mem hx))))
theorem more_of (c : Says w h K) (i : Nat) {x : He.Fa} (hx : more[i]? = some x := by rfl) : x.ok K = true := fact_of c (List.mem_append_right _ (List.mem_of_getElem? hx))
theorem typ_of {C f : Addr} {m : Str} (z : Meth K C m f) : PySem.W.typeIn K (.ref f) = some (.type "function") := eq_of_beq z.fn
theorem blts_of (X : K.In h) (G : h.Ns mainGlobals mg) (c : Says w h K) : Blt mg where
  len := blt_of X G c (by decide +kernel)
  set := blt_of X G c (by decide +kernel)
  all := blt_of X G c (by decide +kernel)
  tup := blt_of X G c (by decide +kernel)
  isi := blt_of X G c (by decide +kernel)
  enum := blt_of X G c (by decide +kernel)
  str := blt_of X G c (by decide +kernel)
  letters := He.str_ok X G (more_of c 0)
  mLetters := He.int_ok X G (more_of c 1)
  mPeople := He.int_ok X G (more_of c 2)
  mMet := He.int_ok X G (more_of c 3)
  mOpen := He.int_ok X G (more_of c 4)
theorem con_MOST_SAYINGS (X : K.In h) (G : h.Ns mainGlobals mg) (c : Says w h K) : ∃ t, mg "MOST_SAYINGS" = some (.int 30 t) := He.int_ok X G (more_of c 5)
theorem cls_Hall (X : K.In h) (G : h.Ns mainGlobals mg) (c : Says w h K) : Cls K (He.ga K "Hall") := He.cls_ok (more_of c 6)
theorem mkr_Hall (X : K.In h) (G : h.Ns mainGlobals mg) (c : Says w h K) : Mk K (He.ga K "Hall") (He.ma K (He.ga K "Hall") "__init__") := He.mkr_ok (more_of c 11)
theorem na_Hall_text (X : K.In h) (G : h.Ns mainGlobals mg) (c : Says w h K) : NoAttr K (He.ga K "Hall") "text" := He.noat_ok (more_of c 7)
theorem na_Hall_people (X : K.In h) (G : h.Ns mainGlobals mg) (c : Says w h K) : NoAttr K (He.ga K "Hall") "people" := He.noat_ok (more_of c 8)
theorem na_Hall_told (X : K.In h) (G : h.Ns mainGlobals mg) (c : Says w h K) : NoAttr K (He.ga K "Hall") "_told" := He.noat_ok (more_of c 10)
theorem cls_Book (X : K.In h) (G : h.Ns mainGlobals mg) (c : Says w h K) : Cls K (He.ga K "Book") := He.cls_ok (more_of c 19)
theorem mkr_Book (X : K.In h) (G : h.Ns mainGlobals mg) (c : Says w h K) : Mk K (He.ga K "Book") (He.ma K (He.ga K "Book") "__init__") := He.mkr_ok (more_of c 22)
theorem na_Book_hall (X : K.In h) (G : h.Ns mainGlobals mg) (c : Says w h K) : NoAttr K (He.ga K "Book") "hall" := He.noat_ok (more_of c 20)
theorem na_Book_sayings (X : K.In h) (G : h.Ns mainGlobals mg) (c : Says w h K) : NoAttr K (He.ga K "Book") "sayings" := He.noat_ok (more_of c 21)
theorem hall_of (c : Says w h K) : HallC K (He.ga K "Hall") (He.ma K (He.ga K "Hall") "_tell") (He.ma K (He.ga K "Hall") "_takes") where
  cls := He.cls_ok (more_of c 6)
  nText := He.noat_ok (more_of c 7)
  nPeople := He.noat_ok (more_of c 8)
  nOpens := He.noat_ok (more_of c 9)
  nTold := He.noat_ok (more_of c 10)
  mTell := He.meth_ok (more_of c 13)
  mTakes := He.meth_ok (more_of c 12)
theorem halls_of (X : K.In h) (G : h.Ns mainGlobals mg) (c : Says w h K) : ∃ (fdE fdT fdK fdN fdU fdA fdP fdM fdO : FuncData),
    HallF K mg (He.ga K "Hall") (He.ga K "BadHall") (fE K) (He.ma K (He.ga K "Hall") "_tell") (He.ma K (He.ga K "Hall") "_takes") (He.ga K "is_name") (He.ga K "are_unlike") (He.ga K "are_among") (He.ga K "is_people_line") (He.ga K "is_met_line") (He.ga K "is_open_line") fdE fdT fdK fdN fdU fdA fdP fdM fdO := by
  obtain ⟨fdE, FE⟩ := c.t.d.def_ 0
  obtain ⟨fdN, FN⟩ := c.t.d.def_ 1
  obtain ⟨fdU, FU⟩ := c.t.d.def_ 2
  obtain ⟨fdA, FA⟩ := c.t.d.def_ 3
  obtain ⟨fdP, FP⟩ := c.t.d.def_ 4
  obtain ⟨fdM, FM⟩ := c.t.d.def_ 5
  obtain ⟨fdO, FO⟩ := c.t.d.def_ 6
  obtain ⟨fdK, FK⟩ := c.t.d.def_ 10
  obtain ⟨fdT, FT⟩ := c.t.d.def_ 11
  exact ⟨fdE, fdT, fdK, fdN, fdU, fdA, fdP, fdM, fdO, blts_of X G c, hall_of c, FE, FT, FK, FN, FU, FA, FP, FM, FO, glo_of X G c (by decide +kernel), glo_of X G c (by decide +kernel), glo_of X G c (by decide +kernel), glo_of X G c (by decide +kernel),
    glo_of X G c (by decide +kernel), glo_of X G c (by decide +kernel), glo_of X G c (by decide +kernel), excB_ok (He.ba c.more).1⟩
noncomputable def fdH (c : Says w h K) : FuncData := Classical.choose (c.t.d.def_ 9)
theorem ok_Hall (X : K.In h) (G : h.Ns mainGlobals mg) (c : Says w h K) (base : Heap) : FnOk P w K mg base (L2.CX P w) 5 (He.ma K (He.ga K "Hall") "__init__") (fdH c) ["self", "text"] (spInitF K (He.ga K "Hall") (He.ga K "BadHall")) := by
  obtain ⟨fdE, fdT, fdK, fdN, fdU, fdA, fdP, fdM, fdO, HF⟩ := halls_of X G c
  exact ok_hall (Classical.choose_spec (c.t.d.def_ 9)) HF
theorem bi_Hall (X : K.In h) (G : h.Ns mainGlobals mg) (c : Says w h K) : L2.Binds K (fdH c) ["self", "text"] [] := FunD.bindsN (Classical.choose_spec (c.t.d.def_ 9)) fun _ _ _ _ _ _ us hl => match us, hl with | [_, _], _ => rfl
theorem kb_Hall_text (X : K.In h) (G : h.Ns mainGlobals mg) (c : Says w h K) : KBn K (fdH c) ["self", "text"] 1 ["text"] (fun us ws => us ++ QX.prm [0] ws) (fun vs zs => vs ++ QX.prm [0] zs) := QX.kbn (Classical.choose_spec (c.t.d.def_ 9)) fun _ _ _ _ _ _ us ws l1 l2 => match us, ws, l1, l2 with | [_], [_], _, _ => rfl
theorem exn_NoPerson (X : K.In h) (G : h.Ns mainGlobals mg) (c : Says w h K) (base : Heap) : Exn P w K mg base (cA K) "NoPerson" := by
  obtain ⟨fd, FD⟩ := c.t.d.def_ 0
  exact ⟨⟨fE K, fd, ["self", "value"], excB_ok (He.ba (He.ba c.more).2).1, glo_of X G c (by decide +kernel), ok_err FD, FunD.bindsN FD fun _ _ _ _ _ _ us hl => match us, hl with | [_, _], _ => rfl⟩⟩
theorem exn_Alone (X : K.In h) (G : h.Ns mainGlobals mg) (c : Says w h K) (base : Heap) : Exn P w K mg base (cA K) "Alone" := by
  obtain ⟨fd, FD⟩ := c.t.d.def_ 0
  exact ⟨⟨fE K, fd, ["self", "value"], excB_ok (He.ba (He.ba (He.ba c.more).2).2).1, glo_of X G c (by decide +kernel), ok_err FD, FunD.bindsN FD fun _ _ _ _ _ _ us hl => match us, hl with | [_, _], _ => rfl⟩⟩
theorem exn_BadEvent (X : K.In h) (G : h.Ns mainGlobals mg) (c : Says w h K) (base : Heap) : Exn P w K mg base (cA K) "BadEvent" := by
  obtain ⟨fd, FD⟩ := c.t.d.def_ 0
  exact ⟨⟨fE K, fd, ["self", "value"], excB_ok (He.ba (He.ba (He.ba (He.ba c.more).2).2).2).1, glo_of X G c (by decide +kernel), ok_err FD, FunD.bindsN FD fun _ _ _ _ _ _ us hl => match us, hl with | [_, _], _ => rfl⟩⟩
theorem exn_BadTimeline (X : K.In h) (G : h.Ns mainGlobals mg) (c : Says w h K) (base : Heap) : Exn P w K mg base (cA K) "BadTimeline" := by
  obtain ⟨fd, FD⟩ := c.t.d.def_ 0
  exact ⟨⟨fE K, fd, ["self", "value"], excB_ok (He.ba (He.ba (He.ba (He.ba (He.ba c.more).2).2).2).2).1, glo_of X G c (by decide +kernel), ok_err FD, FunD.bindsN FD fun _ _ _ _ _ _ us hl => match us, hl with | [_, _], _ => rfl⟩⟩
theorem exn_BadSaying (X : K.In h) (G : h.Ns mainGlobals mg) (c : Says w h K) (base : Heap) : Exn P w K mg base (cA K) "BadSaying" := by
  obtain ⟨fd, FD⟩ := c.t.d.def_ 0
  exact ⟨⟨fE K, fd, ["self", "value"], excB_ok (He.ba (He.ba (He.ba (He.ba (He.ba (He.ba c.more).2).2).2).2).2).1, glo_of X G c (by decide +kernel), ok_err FD, FunD.bindsN FD fun _ _ _ _ _ _ us hl => match us, hl with | [_, _], _ => rfl⟩⟩
theorem exn_NoSaying (X : K.In h) (G : h.Ns mainGlobals mg) (c : Says w h K) (base : Heap) : Exn P w K mg base (cA K) "NoSaying" := by
  obtain ⟨fd, FD⟩ := c.t.d.def_ 0
  exact ⟨⟨fE K, fd, ["self", "value"], excB_ok (He.ba (He.ba (He.ba (He.ba (He.ba (He.ba (He.ba (He.ba (He.ba c.more).2).2).2).2).2).2).2).2).1, glo_of X G c (by decide +kernel), ok_err FD, FunD.bindsN FD fun _ _ _ _ _ _ us hl => match us, hl with | [_, _], _ => rfl⟩⟩
abbrev T_CONTRARY : List (Str × Str) := [("met", "not"), ("not", "met")]
theorem tab_CONTRARY (X : K.In h) (G : h.Ns mainGlobals mg) (c : Says w h K) : TabN w K mg "CONTRARY" T_CONTRARY := by
  obtain ⟨es, n, D⟩ := c.t.tab 0
  have hv := (He.ba (He.ba (He.ba (He.ba (He.ba (He.ba (He.ba (He.ba (He.ba (He.ba (He.ba c.more).2).2).2).2).2).2).2).2).2).2).1
  refine ⟨⟨_, glo_of X G c (by decide +kernel), fun q hq => ?_⟩⟩
  simp only [T_CONTRARY, List.mem_cons, List.not_mem_nil, or_false] at hq
  rcases hq with rfl | rfl
  · obtain ⟨u1, e1, r1⟩ := He.valsB_ok hv (q := ("met", .str "not")) List.mem_cons_self
    exact ⟨es, n, u1, D.at_, D.lit, e1, r1⟩
  · obtain ⟨u1, e1, r1⟩ := He.valsB_ok hv (q := ("not", .str "met")) (List.mem_cons_of_mem _ List.mem_cons_self)
    exact ⟨es, n, u1, D.at_, D.lit, e1, r1⟩
abbrev T_TURNED : List (Str × Str) := [("in", "out"), ("out", "in")]
theorem tab_TURNED (X : K.In h) (G : h.Ns mainGlobals mg) (c : Says w h K) : TabN w K mg "TURNED" T_TURNED := by
  obtain ⟨es, n, D⟩ := c.t.tab 1
  have hv := (He.ba (He.ba (He.ba (He.ba (He.ba (He.ba (He.ba (He.ba (He.ba (He.ba (He.ba (He.ba c.more).2).2).2).2).2).2).2).2).2).2).2).1
  refine ⟨⟨_, glo_of X G c (by decide +kernel), fun q hq => ?_⟩⟩
  simp only [T_TURNED, List.mem_cons, List.not_mem_nil, or_false] at hq
  rcases hq with rfl | rfl
  · obtain ⟨u1, e1, r1⟩ := He.valsB_ok hv (q := ("in", .str "out")) List.mem_cons_self
    exact ⟨es, n, u1, D.at_, D.lit, e1, r1⟩
  · obtain ⟨u1, e1, r1⟩ := He.valsB_ok hv (q := ("out", .str "in")) (List.mem_cons_of_mem _ List.mem_cons_self)
    exact ⟨es, n, u1, D.at_, D.lit, e1, r1⟩
theorem isO_Book (X : K.In h) (G : h.Ns mainGlobals mg) (c : Says w h K) : IsN K mg (cA K) [] ["Book"] "Book" :=
  isB_ok (glo_of X G c (by decide +kernel)) (fun e he => by cases he) (fun o ho => by
    simp only [List.mem_cons, List.not_mem_nil, or_false] at ho
    rcases ho with rfl
    · exact cls_Book X G c) (He.ba (He.ba (He.ba (He.ba (He.ba (He.ba (He.ba (He.ba (He.ba (He.ba (He.ba (He.ba (He.ba c.more).2).2).2).2).2).2).2).2).2).2).2).2).1
theorem isO_Hall (X : K.In h) (G : h.Ns mainGlobals mg) (c : Says w h K) : IsN K mg (cA K) [] ["Hall"] "Hall" :=
  isB_ok (glo_of X G c (by decide +kernel)) (fun e he => by cases he) (fun o ho => by
    simp only [List.mem_cons, List.not_mem_nil, or_false] at ho
    rcases ho with rfl
    · exact cls_Hall X G c) (He.ba (He.ba (He.ba (He.ba (He.ba (He.ba (He.ba (He.ba (He.ba (He.ba (He.ba (He.ba (He.ba (He.ba c.more).2).2).2).2).2).2).2).2).2).2).2).2).2).1
theorem empty_B (c : Says w h K) : emptyB K (He.dflAt ("Book", some "__init__") 0 K) = true := (He.ba (He.ba (He.ba (He.ba (He.ba (He.ba (He.ba (He.ba (He.ba (He.ba (He.ba (He.ba (He.ba (He.ba (He.ba (He.ba (He.ba c.more).2).2).2).2).2).2).2).2).2).2).2).2).2).2).2).2).1
theorem eq_Book (c : Says w h K) : PySem.W.findIn K (.ref (cA K "Book")) "__ne__" = some (some (.builtin "object.__ne__")) ∧ PySem.W.mroIn K (cA K "Book") (.type "object") = some true := eqB_ok (He.ba (He.ba (He.ba (He.ba (He.ba (He.ba (He.ba (He.ba (He.ba (He.ba (He.ba (He.ba (He.ba (He.ba (He.ba (He.ba (He.ba (He.ba c.more).2).2).2).2).2).2).2).2).2).2).2).2).2).2).2).2).2).1
theorem eq_Hall (c : Says w h K) : PySem.W.findIn K (.ref (cA K "Hall")) "__ne__" = some (some (.builtin "object.__ne__")) ∧ PySem.W.mroIn K (cA K "Hall") (.type "object") = some true := eqB_ok (He.ba (He.ba (He.ba (He.ba (He.ba (He.ba (He.ba (He.ba (He.ba (He.ba (He.ba (He.ba (He.ba (He.ba (He.ba (He.ba (He.ba (He.ba (He.ba c.more).2).2).2).2).2).2).2).2).2).2).2).2).2).2).2).2).2).2).1
end
end K15

set_option Elab.async false
set_option linter.all false
set_option maxRecDepth 100000
set_option maxHeartbeats 4000000
namespace K15
open PySem PySem.Spec PySem.W PySem.Calls PyProof.Rows L2 MX QX
section
variable {P : Program} {w : World} {K : PySem.W.Frag} {h : Heap} {mg : Str → Option Value}
noncomputable abbrev F_line_without : SS := QX.F_line_without
theorem sc_line_without : FnScope ["line", "name", "head", "names", "other", "others"] ["line", "name"] (defScope s_line_without) := ⟨rfl, rfl, rfl, by decide +kernel, rfl, by decide +kernel, by decide +kernel⟩
theorem b_line_without (Y : K.In h) (G : h.Ns mainGlobals mg) (c : Says w h K) (base : Heap) {f : Addr} : Bdy P w K mg base (cA K) ["line", "name", "head", "names", "other", "others"] "line_without" (defScope s_line_without) f (defBody s_line_without) (Room 0) F_line_without := by
  have bl := fun (x : Str) (z : x ∈ blts) => blt_of Y G c z
  refine ⟨fun cdv A out s H E hr => ?_⟩
  have hu64 := hr.units
  have hu65 : (A.deeper (envOfC "line_without" (defScope s_line_without) s.heap.objs.size f cdv)).units + 65 < cLine := by have := hr.un; omega
  exact (s_cons (s_star 2 3 (by rfl) sc_line_without.nd (p_split (p_any 0) p_str))
    (s_cons (s_setLc (own := [("other", 4)]) 5 rfl sc_line_without.nd (by decide) (by rfl) (by rfl) (sw_true rfl rfl rfl (by decide +kernel)) (i_seq (p_any 3)) (blkOk_by (N := ["line", "name", "head", "names", "other", "others"]) (sc := defScope s_line_without) (by decide +kernel)) (fun _ _ _ _ _ => (g_name 4 sc_line_without.nd)) (fun _ _ _ _ _ => (ts_one (t_ne hu64 (p_any 4) (p_any 1)))) (fun _ _ _ _ _ => (p_any 4)))
    (s_cons (s_if (q_chain (w_and (t_ne hu64 (p_any 2) p_str) (w_and1 (t_lt (p_callB call_lenX rdc_lenX (by rfl) (bl "len" (by decide +kernel)) PySem.boot_len (a_cons (p_any 5) a_nil)) p_int)))) (s_one (s_ret p_str)) s_nil)
    (s_one (s_ret (p_join p_str (p_lst (a_cons (p_any 2) (a_star (p_any 5) a_nil)))))))))
theorem q_line_without (Y : K.In h) (G : h.Ns mainGlobals mg) (c : Says w h K) (base : Heap) : FnQ P w K mg base "line_without" 1 (spV ⟨K, cA K⟩ (runV F_line_without 2 4)) := by
  obtain ⟨fd, FD⟩ := c.t.d.def_ 7
  exact ⟨⟨_, fd, ["line", "name"], glo_of Y G c (by decide +kernel), FD.kp, FunD.bindsN FD fun _ _ _ _ _ _ us hl => match us, hl with | [_, _], _ => rfl, fnOV FD sc_line_without (b_line_without Y G c base) rfl⟩⟩
noncomputable abbrev F_Hall_contains : SS := QX.F_Hall_contains
theorem sc_Hall_contains : FnScope ["self", "value"] ["self", "value"] (defScope s_Hall_contains) := ⟨rfl, rfl, rfl, by decide +kernel, rfl, by decide +kernel, by decide +kernel⟩
theorem b_Hall_contains (Y : K.In h) (G : h.Ns mainGlobals mg) (c : Says w h K) (base : Heap) {f : Addr} : Bdy P w K mg base (cA K) ["self", "value"] "Hall.__contains__" (defScope s_Hall_contains) f (defBody s_Hall_contains) (Room 0) F_Hall_contains := by
  have bl := fun (x : Str) (z : x ∈ blts) => blt_of Y G c z
  refine ⟨fun cdv A out s H E hr => ?_⟩
  have hu64 := hr.units
  have hu65 : (A.deeper (envOfC "Hall.__contains__" (defScope s_Hall_contains) s.heap.objs.size f cdv)).units + 65 < cLine := by have := hr.un; omega
  exact (s_one (s_ret (c_in hu65 (p_any 1) (p_fld "Hall" "people" (cls_Hall Y G c) (na_Hall_people Y G c) (p_any 0)))))
theorem q_Hall_contains (Y : K.In h) (G : h.Ns mainGlobals mg) (c : Says w h K) (base : Heap) : OwnN P w K mg base (cA K) "Hall" "__contains__" 1 (spV ⟨K, cA K⟩ (runV F_Hall_contains 2 0)) := by
  obtain ⟨fd, FD⟩ := c.t.d.def_ 15
  have m := He.meth_ok (more_of c 17)
  exact ⟨⟨_, fd, ["self", "value"], m.at_, typ_of m, fnOV FD sc_Hall_contains (b_Hall_contains Y G c base) rfl, FunD.bindsN FD fun _ _ _ _ _ _ us hl => match us, hl with | [_, _], _ => rfl⟩⟩
noncomputable abbrev F_require_two : SS := QX.F_require_two
theorem sc_require_two : FnScope ["hall", "one", "other"] ["hall", "one", "other"] (defScope s_require_two) := ⟨rfl, rfl, rfl, by decide +kernel, rfl, by decide +kernel, by decide +kernel⟩
theorem b_require_two (Y : K.In h) (G : h.Ns mainGlobals mg) (c : Says w h K) (base : Heap) {f : Addr} : Bdy P w K mg base (cA K) ["hall", "one", "other"] "require_two" (defScope s_require_two) f (defBody s_require_two) (Room 2) F_require_two := by
  have bl := fun (x : Str) (z : x ∈ blts) => blt_of Y G c z
  refine ⟨fun cdv A out s H E hr => ?_⟩
  have hu64 := hr.units
  have hu65 : (A.deeper (envOfC "require_two" (defScope s_require_two) s.heap.objs.size f cdv)).units + 65 < cLine := by have := hr.un; omega
  exact (s_cons (s_if (q_notIn (q_Hall_contains Y G c base) hu65 (hr.mono (show 1 ≤ 2 by decide)) (p_any 1) (p_any 0)) (s_one (s_raise rfl (takes_of rfl rfl rfl rfl) (exn_NoPerson Y G c base) (hr.mono (show 2 ≤ 2 by decide)) (by rfl) (p_any 1))) s_nil)
    (s_one (s_if (q_chain (w_or (q_notIn (q_Hall_contains Y G c base) hu65 (hr.mono (show 1 ≤ 2 by decide)) (p_any 2) (p_any 0)) (w_or1 (t_eq hu64 (p_any 2) (p_any 1))))) (s_one (s_raise rfl (takes_of rfl rfl rfl rfl) (exn_NoPerson Y G c base) (hr.mono (show 2 ≤ 2 by decide)) (by rfl) (p_any 2))) s_nil)))
theorem q_require_two (Y : K.In h) (G : h.Ns mainGlobals mg) (c : Says w h K) (base : Heap) : FnQ P w K mg base "require_two" 3 (spV ⟨K, cA K⟩ (runV F_require_two 3 0)) := by
  obtain ⟨fd, FD⟩ := c.t.d.def_ 8
  exact ⟨⟨_, fd, ["hall", "one", "other"], glo_of Y G c (by decide +kernel), FD.kp, FunD.bindsN FD fun _ _ _ _ _ _ us hl => match us, hl with | [_, _, _], _ => rfl, fnOV FD sc_require_two (b_require_two Y G c base) rfl⟩⟩
noncomputable abbrev F_Hall_told : SS := QX.F_Hall_told
theorem sc_Hall_told : FnScope ["self", "one", "other"] ["self", "one", "other"] (defScope s_Hall_told) := ⟨rfl, rfl, rfl, by decide +kernel, rfl, by decide +kernel, by decide +kernel⟩
theorem b_Hall_told (Y : K.In h) (G : h.Ns mainGlobals mg) (c : Says w h K) (base : Heap) {f : Addr} : Bdy P w K mg base (cA K) ["self", "one", "other"] "Hall.told" (defScope s_Hall_told) f (defBody s_Hall_told) (Room 3) F_Hall_told := by
  have bl := fun (x : Str) (z : x ∈ blts) => blt_of Y G c z
  refine ⟨fun cdv A out s H E hr => ?_⟩
  have hu64 := hr.units
  have hu65 : (A.deeper (envOfC "Hall.told" (defScope s_Hall_told) s.heap.objs.size f cdv)).units + 65 < cLine := by have := hr.un; omega
  exact (s_cons (s_expr (p_callQ (q_require_two Y G c base) (hr.mono (show 3 ≤ 3 by decide)) (by rfl) (pass_c (takes_of rfl rfl rfl rfl)) (a_cons (p_any 0) (a_cons (p_any 1) (a_cons (p_any 2) a_nil)))))
    (s_one (s_ret (p_get2 hu64 (p_fld "Hall" "_told" (cls_Hall Y G c) (na_Hall_told Y G c) (p_any 0)) (p_tup (a_cons (p_any 1) (a_cons (p_any 2) a_nil))) p_str ⟨rfl, rfl, rfl, rfl⟩))))
theorem q_Hall_told (Y : K.In h) (G : h.Ns mainGlobals mg) (c : Says w h K) (base : Heap) : MethN P w K mg base (cA K) "Hall" "told" 4 (spV ⟨K, cA K⟩ (runV F_Hall_told 3 0)) := by
  obtain ⟨fd, FD⟩ := c.t.d.def_ 12
  exact ⟨⟨_, fd, ["self", "one", "other"], cls_Hall Y G c, He.meth_ok (more_of c 14), fnOV FD sc_Hall_told (b_Hall_told Y G c base) rfl, FunD.bindsN FD fun _ _ _ _ _ _ us hl => match us, hl with | [_, _, _], _ => rfl⟩⟩
theorem kw_Hall_told_other_one (Y : K.In h) (G : h.Ns mainGlobals mg) (c : Says w h K) (base : Heap) : MethK P w K mg base (cA K) "Hall" "told" ["other", "one"] [1, 0] 4 (spV ⟨K, cA K⟩ (runV F_Hall_told 3 0)) := by
  obtain ⟨fd, FD⟩ := c.t.d.def_ 12
  exact ⟨⟨_, fd, ["self", "one", "other"], cls_Hall Y G c, He.meth_ok (more_of c 14), QX.kbn FD fun _ _ _ _ _ _ us ws l1 l2 => match us, ws, l1, l2 with | [_], [_, _], _, _ => rfl, fnOV FD sc_Hall_told (b_Hall_told Y G c base) rfl⟩⟩
noncomputable abbrev F_Hall_without : SS := QX.F_Hall_without
theorem sc_Hall_without : FnScope ["self", "name", "line", "lines"] ["self", "name"] (defScope s_Hall_without) := ⟨rfl, rfl, rfl, by decide +kernel, rfl, by decide +kernel, by decide +kernel⟩
theorem b_Hall_without (Y : K.In h) (G : h.Ns mainGlobals mg) (c : Says w h K) (base : Heap) {f : Addr} : Bdy P w K mg base (cA K) ["self", "name", "line", "lines"] "Hall.without" (defScope s_Hall_without) f (defBody s_Hall_without) (Room 6) F_Hall_without := by
  have bl := fun (x : Str) (z : x ∈ blts) => blt_of Y G c z
  refine ⟨fun cdv A out s H E hr => ?_⟩
  have hu64 := hr.units
  have hu65 : (A.deeper (envOfC "Hall.without" (defScope s_Hall_without) s.heap.objs.size f cdv)).units + 65 < cLine := by have := hr.un; omega
  exact (s_cons (s_if (t_notin hu65 (p_any 1) (p_fld "Hall" "people" (cls_Hall Y G c) (na_Hall_people Y G c) (p_any 0))) (s_one (s_raise rfl (takes_of rfl rfl rfl rfl) (exn_NoPerson Y G c base) (hr.mono (show 2 ≤ 6 by decide)) (by rfl) (p_any 1))) s_nil)
    (s_cons (s_if (t_eq hu64 (p_callB call_lenX rdc_lenX (by rfl) (bl "len" (by decide +kernel)) PySem.boot_len (a_cons (p_fld "Hall" "people" (cls_Hall Y G c) (na_Hall_people Y G c) (p_any 0)) a_nil)) p_int) (s_one (s_raise rfl (takes_of rfl rfl rfl rfl) (exn_Alone Y G c base) (hr.mono (show 2 ≤ 6 by decide)) (by rfl) (p_any 1))) s_nil)
    (s_cons (s_setLc (own := [("line", 2)]) 3 rfl sc_Hall_without.nd (by decide) (by rfl) (by rfl) (sw_true rfl rfl rfl (by decide +kernel)) (i_seq (p_split (p_fld "Hall" "text" (cls_Hall Y G c) (na_Hall_text Y G c) (p_any 0)) p_str)) (blkOk_by (N := ["self", "name", "line", "lines"]) (sc := defScope s_Hall_without) (by decide +kernel)) (fun _ _ _ _ _ => (g_name 2 sc_Hall_without.nd)) (fun _ _ _ _ _ => ts_none) (fun _ _ _ _ _ => (p_callQ (q_line_without Y G c base) (hr.mono (show 1 ≤ 6 by decide)) (by rfl) hx0 (a_cons (p_any 2) (a_cons (p_any 1) a_nil)))))
    (s_one (s_ret (p_mkHall (mkr_Hall Y G c) (ok_Hall Y G c base) (hr.mono (show 6 ≤ 6 by decide)) (by rfl) (glo_of Y G c (by decide +kernel)) (bi_Hall Y G c) (pass_e (takes_of rfl rfl rfl rfl)) (p_join p_str (p_lc (own := [("line", 2)]) rfl sc_Hall_without.nd (by decide) (i_seq (p_any 3)) (blkOk_by (N := ["self", "name", "line", "lines"]) (sc := defScope s_Hall_without) (by decide +kernel)) (fun _ _ _ _ _ => (g_name 2 sc_Hall_without.nd)) (fun _ _ _ _ _ => (ts_one (t_ne hu64 (p_any 2) p_str))) (fun _ _ _ _ _ => (p_any 2))))))))))
theorem q_Hall_without (Y : K.In h) (G : h.Ns mainGlobals mg) (c : Says w h K) (base : Heap) : MethN P w K mg base (cA K) "Hall" "without" 7 (spV ⟨K, cA K⟩ (runV F_Hall_without 2 2)) := by
  obtain ⟨fd, FD⟩ := c.t.d.def_ 13
  exact ⟨⟨_, fd, ["self", "name"], cls_Hall Y G c, He.meth_ok (more_of c 15), fnOV FD sc_Hall_without (b_Hall_without Y G c base) rfl, FunD.bindsN FD fun _ _ _ _ _ _ us hl => match us, hl with | [_, _], _ => rfl⟩⟩
theorem kw_Hall_without_name (Y : K.In h) (G : h.Ns mainGlobals mg) (c : Says w h K) (base : Heap) : MethK P w K mg base (cA K) "Hall" "without" ["name"] [0] 7 (spV ⟨K, cA K⟩ (runV F_Hall_without 2 2)) := by
  obtain ⟨fd, FD⟩ := c.t.d.def_ 13
  exact ⟨⟨_, fd, ["self", "name"], cls_Hall Y G c, He.meth_ok (more_of c 15), QX.kbn FD fun _ _ _ _ _ _ us ws l1 l2 => match us, ws, l1, l2 with | [_], [_], _, _ => rfl, fnOV FD sc_Hall_without (b_Hall_without Y G c base) rfl⟩⟩
noncomputable abbrev F_Hall_len : SS := QX.F_Hall_len
theorem sc_Hall_len : FnScope ["self"] ["self"] (defScope s_Hall_len) := ⟨rfl, rfl, rfl, by decide +kernel, rfl, by decide +kernel, by decide +kernel⟩
theorem b_Hall_len (Y : K.In h) (G : h.Ns mainGlobals mg) (c : Says w h K) (base : Heap) {f : Addr} : Bdy P w K mg base (cA K) ["self"] "Hall.__len__" (defScope s_Hall_len) f (defBody s_Hall_len) (Room 0) F_Hall_len := by
  have bl := fun (x : Str) (z : x ∈ blts) => blt_of Y G c z
  refine ⟨fun cdv A out s H E hr => ?_⟩
  have hu64 := hr.units
  have hu65 : (A.deeper (envOfC "Hall.__len__" (defScope s_Hall_len) s.heap.objs.size f cdv)).units + 65 < cLine := by have := hr.un; omega
  exact (s_one (s_ret (p_callB call_lenX rdc_lenX (by rfl) (bl "len" (by decide +kernel)) PySem.boot_len (a_cons (p_fld "Hall" "people" (cls_Hall Y G c) (na_Hall_people Y G c) (p_any 0)) a_nil))))
theorem q_Hall_len (Y : K.In h) (G : h.Ns mainGlobals mg) (c : Says w h K) (base : Heap) : OwnN P w K mg base (cA K) "Hall" "__len__" 1 (spV ⟨K, cA K⟩ (runV F_Hall_len 1 0)) := by
  obtain ⟨fd, FD⟩ := c.t.d.def_ 14
  have m := He.meth_ok (more_of c 16)
  exact ⟨⟨_, fd, ["self"], m.at_, typ_of m, fnOV FD sc_Hall_len (b_Hall_len Y G c base) rfl, FunD.bindsN FD fun _ _ _ _ _ _ us hl => match us, hl with | [_], _ => rfl⟩⟩
end
end K15

set_option Elab.async false
set_option linter.all false
set_option maxRecDepth 100000
set_option maxHeartbeats 4000000
namespace K15
open PySem PySem.Spec PySem.W PySem.Calls PyProof.Rows L2 MX QX
section
variable {P : Program} {w : World} {K : PySem.W.Frag} {h : Heap} {mg : Str → Option Value}
noncomputable abbrev F_Hall_eq : SS := QX.F_Hall_eq
theorem sc_Hall_eq : FnScope ["self", "other"] ["self", "other"] (defScope s_Hall_eq) := ⟨rfl, rfl, rfl, by decide +kernel, rfl, by decide +kernel, by decide +kernel⟩
theorem b_Hall_eq (Y : K.In h) (G : h.Ns mainGlobals mg) (c : Says w h K) (base : Heap) {f : Addr} : Bdy P w K mg base (cA K) ["self", "other"] "Hall.__eq__" (defScope s_Hall_eq) f (defBody s_Hall_eq) (Room 0) F_Hall_eq := by
  have bl := fun (x : Str) (z : x ∈ blts) => blt_of Y G c z
  refine ⟨fun cdv A out s H E hr => ?_⟩
  have hu64 := hr.units
  have hu65 : (A.deeper (envOfC "Hall.__eq__" (defScope s_Hall_eq) s.heap.objs.size f cdv)).units + 65 < cLine := by have := hr.un; omega
  exact (s_one (s_ret (p_and (p_isC (isO_Hall Y G c) (by rfl) (bl "isinstance" (by decide +kernel)) (by decide +kernel) (by rfl) (p_any 1)) (p_one (c_eq hu64 (p_fld "Hall" "text" (cls_Hall Y G c) (na_Hall_text Y G c) (p_any 0)) (p_fld "Hall" "text" (cls_Hall Y G c) (na_Hall_text Y G c) (p_any 1)))))))
theorem q_Hall_eq (Y : K.In h) (G : h.Ns mainGlobals mg) (c : Says w h K) (base : Heap) : EqN P w K mg base (cA K) "Hall" 1 (spV ⟨K, cA K⟩ (runV F_Hall_eq 2 0)) := by
  obtain ⟨fd, FD⟩ := c.t.d.def_ 16
  have m := He.meth_ok (more_of c 18)
  have e := eq_Hall c
  exact ⟨⟨_, fd, ["self", "other"], m.at_, m.fn, fnOV FD sc_Hall_eq (b_Hall_eq Y G c base) rfl, FunD.bindsN FD fun _ _ _ _ _ _ us hl => match us, hl with | [_, _], _ => rfl, e.1, e.2⟩⟩
noncomputable abbrev F_is_event : SS := QX.F_is_event
theorem sc_is_event : FnScope ["hall", "value", "name", "way"] ["hall", "value"] (defScope s_is_event) := ⟨rfl, rfl, rfl, by decide +kernel, rfl, by decide +kernel, by decide +kernel⟩
theorem b_is_event (Y : K.In h) (G : h.Ns mainGlobals mg) (c : Says w h K) (base : Heap) {f : Addr} : Bdy P w K mg base (cA K) ["hall", "value", "name", "way"] "is_event" (defScope s_is_event) f (defBody s_is_event) (Room 1) F_is_event := by
  have bl := fun (x : Str) (z : x ∈ blts) => blt_of Y G c z
  refine ⟨fun cdv A out s H E hr => ?_⟩
  have hu64 := hr.units
  have hu65 : (A.deeper (envOfC "is_event" (defScope s_is_event) s.heap.objs.size f cdv)).units + 65 < cLine := by have := hr.un; omega
  exact (s_cons (s_if (q_chain (w_or (q_not (q_val (p_isTy "tuple" (by rfl) (bl "isinstance" (by decide +kernel)) (by decide +kernel) (by rfl) (bl "tuple" (by decide +kernel)) boot_tuple (p_any 1)))) (w_or1 (t_ne hu64 (p_callB call_lenX rdc_lenX (by rfl) (bl "len" (by decide +kernel)) PySem.boot_len (a_cons (p_any 1) a_nil)) p_int)))) (s_one (s_ret p_bl)) s_nil)
    (s_cons (s_asg (p_any 1) (g_tup rfl (gs_cons (g_name 2 sc_is_event.nd) (gs_cons (g_name 3 sc_is_event.nd) gs_nil))))
    (s_one (s_ret (p_and (p_in (q_Hall_contains Y G c base) hu65 (hr.mono (show 1 ≤ 1 by decide)) (p_any 2) (p_any 0)) (p_one (c_in hu65 (p_any 3) (p_tup (a_cons p_str (a_cons p_str a_nil))))))))))
theorem q_is_event (Y : K.In h) (G : h.Ns mainGlobals mg) (c : Says w h K) (base : Heap) : FnQ P w K mg base "is_event" 2 (spV ⟨K, cA K⟩ (runV F_is_event 2 2)) := by
  obtain ⟨fd, FD⟩ := c.t.d.def_ 17
  exact ⟨⟨_, fd, ["hall", "value"], glo_of Y G c (by decide +kernel), FD.kp, FunD.bindsN FD fun _ _ _ _ _ _ us hl => match us, hl with | [_, _], _ => rfl, fnOV FD sc_is_event (b_is_event Y G c base) rfl⟩⟩
noncomputable abbrev F_places_of : SS := QX.F_places_of
theorem sc_places_of : FnScope ["timeline", "place", "event"] ["timeline"] (defScope s_places_of) := ⟨rfl, rfl, rfl, by decide +kernel, rfl, by decide +kernel, by decide +kernel⟩
theorem b_places_of (Y : K.In h) (G : h.Ns mainGlobals mg) (c : Says w h K) (base : Heap) {f : Addr} : Bdy P w K mg base (cA K) ["timeline", "place", "event"] "places_of" (defScope s_places_of) f (defBody s_places_of) (Room 0) F_places_of := by
  have bl := fun (x : Str) (z : x ∈ blts) => blt_of Y G c z
  refine ⟨fun cdv A out s H E hr => ?_⟩
  have hu64 := hr.units
  have hu65 : (A.deeper (envOfC "places_of" (defScope s_places_of) s.heap.objs.size f cdv)).units + 65 < cLine := by have := hr.un; omega
  exact (s_one (s_ret (p_dc (own := [("place", 1), ("event", 2)]) hu65 rfl sc_places_of.nd (by decide) (i_enum (by rfl) (bl "enumerate" (by decide +kernel)) (p_any 0)) (blkOk_by (N := ["timeline", "place", "event"]) (sc := defScope s_places_of) (by decide +kernel)) (fun _ _ _ _ _ => (g_tup rfl (gs_cons (g_name 1 sc_places_of.nd) (gs_cons (g_name 2 sc_places_of.nd) gs_nil)))) (fun _ _ _ _ _ => ts_none) (fun _ _ _ _ _ => (p_any 2)) (fun _ _ _ _ _ => (p_any 1)))))
theorem q_places_of (Y : K.In h) (G : h.Ns mainGlobals mg) (c : Says w h K) (base : Heap) : FnQ P w K mg base "places_of" 1 (spV ⟨K, cA K⟩ (runV F_places_of 1 2)) := by
  obtain ⟨fd, FD⟩ := c.t.d.def_ 18
  exact ⟨⟨_, fd, ["timeline"], glo_of Y G c (by decide +kernel), FD.kp, FunD.bindsN FD fun _ _ _ _ _ _ us hl => match us, hl with | [_], _ => rfl, fnOV FD sc_places_of (b_places_of Y G c base) rfl⟩⟩
noncomputable abbrev F_is_timeline : SS := QX.F_is_timeline
theorem sc_is_timeline : FnScope ["hall", "value", "event", "places", "name"] ["hall", "value"] (defScope s_is_timeline) := ⟨rfl, rfl, rfl, by decide +kernel, rfl, by decide +kernel, by decide +kernel⟩
theorem b_is_timeline (Y : K.In h) (G : h.Ns mainGlobals mg) (c : Says w h K) (base : Heap) {f : Addr} : Bdy P w K mg base (cA K) ["hall", "value", "event", "places", "name"] "is_timeline" (defScope s_is_timeline) f (defBody s_is_timeline) (Room 2) F_is_timeline := by
  have bl := fun (x : Str) (z : x ∈ blts) => blt_of Y G c z
  refine ⟨fun cdv A out s H E hr => ?_⟩
  have hu64 := hr.units
  have hu65 : (A.deeper (envOfC "is_timeline" (defScope s_is_timeline) s.heap.objs.size f cdv)).units + 65 < cLine := by have := hr.un; omega
  exact (s_cons (s_if (q_chain (w_or (q_not (q_val (p_isTy "tuple" (by rfl) (bl "isinstance" (by decide +kernel)) (by decide +kernel) (by rfl) (bl "tuple" (by decide +kernel)) boot_tuple (p_any 1)))) (w_or1 (t_ne hu64 (p_callB call_lenX rdc_lenX (by rfl) (bl "len" (by decide +kernel)) PySem.boot_len (a_cons (p_any 1) a_nil)) (b_mul p_int (p_len (q_Hall_len Y G c base) (hr.mono (show 2 ≤ 2 by decide)) (by rfl) (bl "len" (by decide +kernel)) (p_any 0))))))) (s_one (s_ret p_bl)) s_nil)
    (s_cons (s_if (q_not (q_val (p_callB (cr_all rfl) rdc_all (by rfl) (bl "all" (by decide +kernel)) boot_all (a_cons (p_lc (own := [("event", 2)]) rfl sc_is_timeline.nd (by decide) (i_seq (p_any 1)) (blkOk_by (N := ["hall", "value", "event", "places", "name"]) (sc := defScope s_is_timeline) (by decide +kernel)) (fun _ _ _ _ _ => (g_name 2 sc_is_timeline.nd)) (fun _ _ _ _ _ => ts_none) (fun _ _ _ _ _ => (p_callQ (q_is_event Y G c base) (hr.mono (show 2 ≤ 2 by decide)) (by rfl) hx0 (a_cons (p_any 0) (a_cons (p_any 2) a_nil))))) a_nil)))) (s_one (s_ret p_bl)) s_nil)
    (s_cons (s_set 3 sc_is_timeline.nd (p_callQ (q_places_of Y G c base) (hr.mono (show 1 ≤ 2 by decide)) (by rfl) (pass_c (takes_of rfl rfl rfl rfl)) (a_cons (p_any 1) a_nil)))
    (s_one (s_ret (p_and (c_eq hu64 (p_callB call_lenX rdc_lenX (by rfl) (bl "len" (by decide +kernel)) PySem.boot_len (a_cons (p_any 3) a_nil)) (p_callB call_lenX rdc_lenX (by rfl) (bl "len" (by decide +kernel)) PySem.boot_len (a_cons (p_any 1) a_nil))) (p_one (p_callB (cr_all rfl) rdc_all (by rfl) (bl "all" (by decide +kernel)) boot_all (a_cons (p_lc (own := [("name", 4)]) rfl sc_is_timeline.nd (by decide) (i_seq (p_fld "Hall" "people" (cls_Hall Y G c) (na_Hall_people Y G c) (p_any 0))) (blkOk_by (N := ["hall", "value", "event", "places", "name"]) (sc := defScope s_is_timeline) (by decide +kernel)) (fun _ _ _ _ _ => (g_name 4 sc_is_timeline.nd)) (fun _ _ _ _ _ => ts_none) (fun _ _ _ _ _ => (c_lt (p_dget hu64 (p_any 3) (p_tup (a_cons (p_any 4) (a_cons p_str a_nil)))) (p_dget hu64 (p_any 3) (p_tup (a_cons (p_any 4) (a_cons p_str a_nil))))))) a_nil)))))))))
theorem q_is_timeline (Y : K.In h) (G : h.Ns mainGlobals mg) (c : Says w h K) (base : Heap) : FnQ P w K mg base "is_timeline" 3 (spV ⟨K, cA K⟩ (runV F_is_timeline 2 3)) := by
  obtain ⟨fd, FD⟩ := c.t.d.def_ 19
  exact ⟨⟨_, fd, ["hall", "value"], glo_of Y G c (by decide +kernel), FD.kp, FunD.bindsN FD fun _ _ _ _ _ _ us hl => match us, hl with | [_, _], _ => rfl, fnOV FD sc_is_timeline (b_is_timeline Y G c base) rfl⟩⟩
noncomputable abbrev F_require_timeline : SS := QX.F_require_timeline
theorem sc_require_timeline : FnScope ["hall", "timeline"] ["hall", "timeline"] (defScope s_require_timeline) := ⟨rfl, rfl, rfl, by decide +kernel, rfl, by decide +kernel, by decide +kernel⟩
theorem b_require_timeline (Y : K.In h) (G : h.Ns mainGlobals mg) (c : Says w h K) (base : Heap) {f : Addr} : Bdy P w K mg base (cA K) ["hall", "timeline"] "require_timeline" (defScope s_require_timeline) f (defBody s_require_timeline) (Room 3) F_require_timeline := by
  have bl := fun (x : Str) (z : x ∈ blts) => blt_of Y G c z
  refine ⟨fun cdv A out s H E hr => ?_⟩
  have hu64 := hr.units
  have hu65 : (A.deeper (envOfC "require_timeline" (defScope s_require_timeline) s.heap.objs.size f cdv)).units + 65 < cLine := by have := hr.un; omega
  exact (s_one (s_if (q_not (q_val (p_callQ (q_is_timeline Y G c base) (hr.mono (show 3 ≤ 3 by decide)) (by rfl) (pass_c (takes_of rfl rfl rfl rfl)) (a_cons (p_any 0) (a_cons (p_any 1) a_nil))))) (s_one (s_raise rfl (takes_of rfl rfl rfl rfl) (exn_BadTimeline Y G c base) (hr.mono (show 2 ≤ 3 by decide)) (by rfl) (p_any 1))) s_nil))
theorem q_require_timeline (Y : K.In h) (G : h.Ns mainGlobals mg) (c : Says w h K) (base : Heap) : FnQ P w K mg base "require_timeline" 4 (spV ⟨K, cA K⟩ (runV F_require_timeline 2 0)) := by
  obtain ⟨fd, FD⟩ := c.t.d.def_ 20
  exact ⟨⟨_, fd, ["hall", "timeline"], glo_of Y G c (by decide +kernel), FD.kp, FunD.bindsN FD fun _ _ _ _ _ _ us hl => match us, hl with | [_, _], _ => rfl, fnOV FD sc_require_timeline (b_require_timeline Y G c base) rfl⟩⟩
noncomputable abbrev F_meet : SS := QX.F_meet
theorem sc_meet : FnScope ["places", "one", "other"] ["places", "one", "other"] (defScope s_meet) := ⟨rfl, rfl, rfl, by decide +kernel, rfl, by decide +kernel, by decide +kernel⟩
theorem b_meet (Y : K.In h) (G : h.Ns mainGlobals mg) (c : Says w h K) (base : Heap) {f : Addr} : Bdy P w K mg base (cA K) ["places", "one", "other"] "meet" (defScope s_meet) f (defBody s_meet) (Room 0) F_meet := by
  have bl := fun (x : Str) (z : x ∈ blts) => blt_of Y G c z
  refine ⟨fun cdv A out s H E hr => ?_⟩
  have hu64 := hr.units
  have hu65 : (A.deeper (envOfC "meet" (defScope s_meet) s.heap.objs.size f cdv)).units + 65 < cLine := by have := hr.un; omega
  exact (s_one (s_ret (p_and (c_lt (p_dget hu64 (p_any 0) (p_tup (a_cons (p_any 1) (a_cons p_str a_nil)))) (p_dget hu64 (p_any 0) (p_tup (a_cons (p_any 2) (a_cons p_str a_nil))))) (p_one (c_lt (p_dget hu64 (p_any 0) (p_tup (a_cons (p_any 2) (a_cons p_str a_nil)))) (p_dget hu64 (p_any 0) (p_tup (a_cons (p_any 1) (a_cons p_str a_nil)))))))))
theorem q_meet (Y : K.In h) (G : h.Ns mainGlobals mg) (c : Says w h K) (base : Heap) : FnQ P w K mg base "meet" 1 (spV ⟨K, cA K⟩ (runV F_meet 3 0)) := by
  obtain ⟨fd, FD⟩ := c.t.d.def_ 21
  exact ⟨⟨_, fd, ["places", "one", "other"], glo_of Y G c (by decide +kernel), FD.kp, FunD.bindsN FD fun _ _ _ _ _ _ us hl => match us, hl with | [_, _, _], _ => rfl, fnOV FD sc_meet (b_meet Y G c base) rfl⟩⟩
end
end K15

set_option Elab.async false
set_option linter.all false
set_option maxRecDepth 100000
set_option maxHeartbeats 4000000
namespace K15
open PySem PySem.Spec PySem.W PySem.Calls PyProof.Rows L2 MX QX
section
variable {P : Program} {w : World} {K : PySem.W.Frag} {h : Heap} {mg : Str → Option Value}
noncomputable abbrev F_met_by : SS := QX.F_met_by
theorem sc_met_by : FnScope ["hall", "timeline", "one", "other"] ["hall", "timeline", "one", "other"] (defScope s_met_by) := ⟨rfl, rfl, rfl, by decide +kernel, rfl, by decide +kernel, by decide +kernel⟩
theorem b_met_by (Y : K.In h) (G : h.Ns mainGlobals mg) (c : Says w h K) (base : Heap) {f : Addr} : Bdy P w K mg base (cA K) ["hall", "timeline", "one", "other"] "met_by" (defScope s_met_by) f (defBody s_met_by) (Room 4) F_met_by := by
  have bl := fun (x : Str) (z : x ∈ blts) => blt_of Y G c z
  refine ⟨fun cdv A out s H E hr => ?_⟩
  have hu64 := hr.units
  have hu65 : (A.deeper (envOfC "met_by" (defScope s_met_by) s.heap.objs.size f cdv)).units + 65 < cLine := by have := hr.un; omega
  exact (s_cons (s_expr (p_callQ (q_require_timeline Y G c base) (hr.mono (show 4 ≤ 4 by decide)) (by rfl) (pass_c (takes_of rfl rfl rfl rfl)) (a_cons (p_any 0) (a_cons (p_any 1) a_nil))))
    (s_cons (s_expr (p_callQ (q_require_two Y G c base) (hr.mono (show 3 ≤ 4 by decide)) (by rfl) (pass_c (takes_of rfl rfl rfl rfl)) (a_cons (p_any 0) (a_cons (p_any 2) (a_cons (p_any 3) a_nil)))))
    (s_one (s_ret (p_callQ (q_meet Y G c base) (hr.mono (show 1 ≤ 4 by decide)) (by rfl) (pass_c (takes_of rfl rfl rfl rfl)) (a_cons (p_callQ (q_places_of Y G c base) (hr.mono (show 1 ≤ 4 by decide)) (by rfl) (pass_c (takes_of rfl rfl rfl rfl)) (a_cons (p_any 1) a_nil)) (a_cons (p_any 2) (a_cons (p_any 3) a_nil))))))))
theorem q_met_by (Y : K.In h) (G : h.Ns mainGlobals mg) (c : Says w h K) (base : Heap) : FnQ P w K mg base "met_by" 5 (spV ⟨K, cA K⟩ (runV F_met_by 4 0)) := by
  obtain ⟨fd, FD⟩ := c.t.d.def_ 22
  exact ⟨⟨_, fd, ["hall", "timeline", "one", "other"], glo_of Y G c (by decide +kernel), FD.kp, FunD.bindsN FD fun _ _ _ _ _ _ us hl => match us, hl with | [_, _, _, _], _ => rfl, fnOV FD sc_met_by (b_met_by Y G c base) rfl⟩⟩
theorem kw_met_by_other_one_timeline_hall (Y : K.In h) (G : h.Ns mainGlobals mg) (c : Says w h K) (base : Heap) : KwQ P w K mg base "met_by" ["other", "one", "timeline", "hall"] [3, 2, 1, 0] 5 (spV ⟨K, cA K⟩ (runV F_met_by 4 0)) := by
  obtain ⟨fd, FD⟩ := c.t.d.def_ 22
  exact ⟨⟨_, fd, ["hall", "timeline", "one", "other"], glo_of Y G c (by decide +kernel), FD.kp, QX.kbn FD fun _ _ _ _ _ _ us ws l1 l2 => match us, ws, l1, l2 with | [], [_, _, _, _], _, _ => rfl, fnOV FD sc_met_by (b_met_by Y G c base) rfl⟩⟩
noncomputable abbrev F_keeps : SS := QX.F_keeps
theorem sc_keeps : FnScope ["hall", "timeline", "places", "one", "other", "pairs", "known"] ["hall", "timeline"] (defScope s_keeps) := ⟨rfl, rfl, rfl, by decide +kernel, rfl, by decide +kernel, by decide +kernel⟩
theorem b_keeps (Y : K.In h) (G : h.Ns mainGlobals mg) (c : Says w h K) (base : Heap) {f : Addr} : Bdy P w K mg base (cA K) ["hall", "timeline", "places", "one", "other", "pairs", "known"] "keeps" (defScope s_keeps) f (defBody s_keeps) (Room 4) F_keeps := by
  have bl := fun (x : Str) (z : x ∈ blts) => blt_of Y G c z
  refine ⟨fun cdv A out s H E hr => ?_⟩
  have hu64 := hr.units
  have hu65 : (A.deeper (envOfC "keeps" (defScope s_keeps) s.heap.objs.size f cdv)).units + 65 < cLine := by have := hr.un; omega
  exact (s_cons (s_expr (p_callQ (q_require_timeline Y G c base) (hr.mono (show 4 ≤ 4 by decide)) (by rfl) (pass_c (takes_of rfl rfl rfl rfl)) (a_cons (p_any 0) (a_cons (p_any 1) a_nil))))
    (s_cons (s_set 2 sc_keeps.nd (p_callQ (q_places_of Y G c base) (hr.mono (show 1 ≤ 4 by decide)) (by rfl) (pass_c (takes_of rfl rfl rfl rfl)) (a_cons (p_any 1) a_nil)))
    (s_cons (s_setLc2 (own := [("one", 3), ("other", 4)]) 5 [4] rfl sc_keeps.nd (by decide) (by decide) (by decide) (by rfl) (by rfl) (sw_true rfl rfl rfl (by decide +kernel)) (i_seq (p_fld "Hall" "people" (cls_Hall Y G c) (na_Hall_people Y G c) (p_any 0))) (blkOk_by (N := ["hall", "timeline", "places", "one", "other", "pairs", "known"]) (sc := defScope s_keeps) (by decide +kernel)) (fun _ _ _ _ _ => (g_name 3 sc_keeps.nd)) (fun _ _ _ _ _ => ts_none) (fun _ _ _ _ _ => (i_seq (p_fld "Hall" "people" (cls_Hall Y G c) (na_Hall_people Y G c) (p_any 0)))) (fun _ _ _ _ _ => (g_name 4 sc_keeps.nd)) (fun _ _ _ _ _ => (ts_one (t_ne hu64 (p_any 3) (p_any 4)))) (fun _ _ _ _ _ => (p_tup (a_cons (p_any 3) (a_cons (p_any 4) a_nil)))))
    (s_cons (s_setLc (own := [("one", 3), ("other", 4)]) 6 rfl sc_keeps.nd (by decide) (by rfl) (by rfl) (sw_true rfl rfl rfl (by decide +kernel)) (i_seq (p_any 5)) (blkOk_by (N := ["hall", "timeline", "places", "one", "other", "pairs", "known"]) (sc := defScope s_keeps) (by decide +kernel)) (fun _ _ _ _ _ => (g_tup rfl (gs_cons (g_name 3 sc_keeps.nd) (gs_cons (g_name 4 sc_keeps.nd) gs_nil)))) (fun _ _ _ _ _ => (ts_one (t_ne hu64 (p_meth (q_Hall_told Y G c base) (hr.mono (show 4 ≤ 4 by decide)) passF (p_any 0) (a_cons (p_any 3) (a_cons (p_any 4) a_nil))) p_str))) (fun _ _ _ _ _ => (p_tup (a_cons (p_any 3) (a_cons (p_any 4) a_nil)))))
    (s_one (s_ret (p_callB (cr_all rfl) rdc_all (by rfl) (bl "all" (by decide +kernel)) boot_all (a_cons (p_lc (own := [("one", 3), ("other", 4)]) rfl sc_keeps.nd (by decide) (i_seq (p_any 6)) (blkOk_by (N := ["hall", "timeline", "places", "one", "other", "pairs", "known"]) (sc := defScope s_keeps) (by decide +kernel)) (fun _ _ _ _ _ => (g_tup rfl (gs_cons (g_name 3 sc_keeps.nd) (gs_cons (g_name 4 sc_keeps.nd) gs_nil)))) (fun _ _ _ _ _ => ts_none) (fun _ _ _ _ _ => (c_eq hu64 (p_callQ (q_meet Y G c base) (hr.mono (show 1 ≤ 4 by decide)) (by rfl) hx0 (a_cons (p_any 2) (a_cons (p_any 3) (a_cons (p_any 4) a_nil)))) (c_eq hu64 (p_meth (q_Hall_told Y G c base) (hr.mono (show 4 ≤ 4 by decide)) passF (p_any 0) (a_cons (p_any 3) (a_cons (p_any 4) a_nil))) p_str)))) a_nil))))))))
theorem q_keeps (Y : K.In h) (G : h.Ns mainGlobals mg) (c : Says w h K) (base : Heap) : FnQ P w K mg base "keeps" 5 (spV ⟨K, cA K⟩ (runV F_keeps 2 5)) := by
  obtain ⟨fd, FD⟩ := c.t.d.def_ 23
  exact ⟨⟨_, fd, ["hall", "timeline"], glo_of Y G c (by decide +kernel), FD.kp, FunD.bindsN FD fun _ _ _ _ _ _ us hl => match us, hl with | [_, _], _ => rfl, fnOV FD sc_keeps (b_keeps Y G c base) rfl⟩⟩
noncomputable abbrev F_there : SS := QX.F_there
theorem sc_there : FnScope ["hall", "timeline", "event", "places", "place", "name"] ["hall", "timeline", "event"] (defScope s_there) := ⟨rfl, rfl, rfl, by decide +kernel, rfl, by decide +kernel, by decide +kernel⟩
theorem b_there (Y : K.In h) (G : h.Ns mainGlobals mg) (c : Says w h K) (base : Heap) {f : Addr} : Bdy P w K mg base (cA K) ["hall", "timeline", "event", "places", "place", "name"] "there" (defScope s_there) f (defBody s_there) (Room 4) F_there := by
  have bl := fun (x : Str) (z : x ∈ blts) => blt_of Y G c z
  refine ⟨fun cdv A out s H E hr => ?_⟩
  have hu64 := hr.units
  have hu65 : (A.deeper (envOfC "there" (defScope s_there) s.heap.objs.size f cdv)).units + 65 < cLine := by have := hr.un; omega
  exact (s_cons (s_expr (p_callQ (q_require_timeline Y G c base) (hr.mono (show 4 ≤ 4 by decide)) (by rfl) (pass_c (takes_of rfl rfl rfl rfl)) (a_cons (p_any 0) (a_cons (p_any 1) a_nil))))
    (s_cons (s_if (q_not (q_val (p_callQ (q_is_event Y G c base) (hr.mono (show 2 ≤ 4 by decide)) (by rfl) (pass_c (takes_of rfl rfl rfl rfl)) (a_cons (p_any 0) (a_cons (p_any 2) a_nil))))) (s_one (s_raise rfl (takes_of rfl rfl rfl rfl) (exn_BadEvent Y G c base) (hr.mono (show 2 ≤ 4 by decide)) (by rfl) (p_any 2))) s_nil)
    (s_cons (s_set 3 sc_there.nd (p_callQ (q_places_of Y G c base) (hr.mono (show 1 ≤ 4 by decide)) (by rfl) (pass_c (takes_of rfl rfl rfl rfl)) (a_cons (p_any 1) a_nil)))
    (s_cons (s_set 4 sc_there.nd (p_dget hu64 (p_any 3) (p_any 2)))
    (s_one (s_ret (p_callT call_tupP rdc_tup (by rfl) (bl "tuple" (by decide +kernel)) boot_tuple (a_cons (p_lc (own := [("name", 5)]) rfl sc_there.nd (by decide) (i_seq (p_fld "Hall" "people" (cls_Hall Y G c) (na_Hall_people Y G c) (p_any 0))) (blkOk_by (N := ["hall", "timeline", "event", "places", "place", "name"]) (sc := defScope s_there) (by decide +kernel)) (fun _ _ _ _ _ => (g_name 5 sc_there.nd)) (fun _ _ _ _ _ => (ts_one (q_chain2 op_lt (rdo_I0 fun _ _ _ => rp_bl.mpr rfl) op_lt (rdo_I0 fun _ _ _ => rp_bl.mpr rfl) (p_dget hu64 (p_any 3) (p_tup (a_cons (p_any 5) (a_cons p_str a_nil)))) (p_any 4) (p_dget hu64 (p_any 3) (p_tup (a_cons (p_any 5) (a_cons p_str a_nil))))))) (fun _ _ _ _ _ => (p_any 5))) a_nil))))))))
theorem q_there (Y : K.In h) (G : h.Ns mainGlobals mg) (c : Says w h K) (base : Heap) : FnQ P w K mg base "there" 5 (spV ⟨K, cA K⟩ (runV F_there 3 3)) := by
  obtain ⟨fd, FD⟩ := c.t.d.def_ 24
  exact ⟨⟨_, fd, ["hall", "timeline", "event"], glo_of Y G c (by decide +kernel), FD.kp, FunD.bindsN FD fun _ _ _ _ _ _ us hl => match us, hl with | [_, _, _], _ => rfl, fnOV FD sc_there (b_there Y G c base) rfl⟩⟩
theorem kw_there_event_timeline_hall (Y : K.In h) (G : h.Ns mainGlobals mg) (c : Says w h K) (base : Heap) : KwQ P w K mg base "there" ["event", "timeline", "hall"] [2, 1, 0] 5 (spV ⟨K, cA K⟩ (runV F_there 3 3)) := by
  obtain ⟨fd, FD⟩ := c.t.d.def_ 24
  exact ⟨⟨_, fd, ["hall", "timeline", "event"], glo_of Y G c (by decide +kernel), FD.kp, QX.kbn FD fun _ _ _ _ _ _ us ws l1 l2 => match us, ws, l1, l2 with | [], [_, _, _], _, _ => rfl, fnOV FD sc_there (b_there Y G c base) rfl⟩⟩
noncomputable abbrev F_order_of : SS := QX.F_order_of
theorem sc_order_of : FnScope ["hall", "timeline", "places", "one", "other", "pairs"] ["hall", "timeline"] (defScope s_order_of) := ⟨rfl, rfl, rfl, by decide +kernel, rfl, by decide +kernel, by decide +kernel⟩
theorem b_order_of (Y : K.In h) (G : h.Ns mainGlobals mg) (c : Says w h K) (base : Heap) {f : Addr} : Bdy P w K mg base (cA K) ["hall", "timeline", "places", "one", "other", "pairs"] "order_of" (defScope s_order_of) f (defBody s_order_of) (Room 4) F_order_of := by
  have bl := fun (x : Str) (z : x ∈ blts) => blt_of Y G c z
  refine ⟨fun cdv A out s H E hr => ?_⟩
  have hu64 := hr.units
  have hu65 : (A.deeper (envOfC "order_of" (defScope s_order_of) s.heap.objs.size f cdv)).units + 65 < cLine := by have := hr.un; omega
  exact (s_cons (s_expr (p_callQ (q_require_timeline Y G c base) (hr.mono (show 4 ≤ 4 by decide)) (by rfl) (pass_c (takes_of rfl rfl rfl rfl)) (a_cons (p_any 0) (a_cons (p_any 1) a_nil))))
    (s_cons (s_set 2 sc_order_of.nd (p_callQ (q_places_of Y G c base) (hr.mono (show 1 ≤ 4 by decide)) (by rfl) (pass_c (takes_of rfl rfl rfl rfl)) (a_cons (p_any 1) a_nil)))
    (s_cons (s_setLc2 (own := [("one", 3), ("other", 4)]) 5 [4] rfl sc_order_of.nd (by decide) (by decide) (by decide) (by rfl) (by rfl) (sw_true rfl rfl rfl (by decide +kernel)) (i_seq (p_fld "Hall" "people" (cls_Hall Y G c) (na_Hall_people Y G c) (p_any 0))) (blkOk_by (N := ["hall", "timeline", "places", "one", "other", "pairs"]) (sc := defScope s_order_of) (by decide +kernel)) (fun _ _ _ _ _ => (g_name 3 sc_order_of.nd)) (fun _ _ _ _ _ => ts_none) (fun _ _ _ _ _ => (i_seq (p_fld "Hall" "people" (cls_Hall Y G c) (na_Hall_people Y G c) (p_any 0)))) (fun _ _ _ _ _ => (g_name 4 sc_order_of.nd)) (fun _ _ _ _ _ => ts_none) (fun _ _ _ _ _ => (p_tup (a_cons (p_any 3) (a_cons (p_any 4) a_nil)))))
    (s_one (s_ret (p_callT call_tupP rdc_tup (by rfl) (bl "tuple" (by decide +kernel)) boot_tuple (a_cons (p_callB cr_sortE rdc_sortE (by rfl) (bl "sorted" (by decide +kernel)) boot_sorted (a_cons (p_lc (own := [("one", 3), ("other", 4)]) rfl sc_order_of.nd (by decide) (i_seq (p_any 5)) (blkOk_by (N := ["hall", "timeline", "places", "one", "other", "pairs"]) (sc := defScope s_order_of) (by decide +kernel)) (fun _ _ _ _ _ => (g_tup rfl (gs_cons (g_name 3 sc_order_of.nd) (gs_cons (g_name 4 sc_order_of.nd) gs_nil)))) (fun _ _ _ _ _ => (ts_one (t_lt (p_dget hu64 (p_any 2) (p_tup (a_cons (p_any 3) (a_cons p_str a_nil)))) (p_dget hu64 (p_any 2) (p_tup (a_cons (p_any 4) (a_cons p_str a_nil))))))) (fun _ _ _ _ _ => (p_tup (a_cons (p_any 3) (a_cons (p_any 4) a_nil))))) a_nil)) a_nil)))))))
theorem q_order_of (Y : K.In h) (G : h.Ns mainGlobals mg) (c : Says w h K) (base : Heap) : FnQ P w K mg base "order_of" 5 (spV ⟨K, cA K⟩ (runV F_order_of 2 4)) := by
  obtain ⟨fd, FD⟩ := c.t.d.def_ 25
  exact ⟨⟨_, fd, ["hall", "timeline"], glo_of Y G c (by decide +kernel), FD.kp, FunD.bindsN FD fun _ _ _ _ _ _ us hl => match us, hl with | [_, _], _ => rfl, fnOV FD sc_order_of (b_order_of Y G c base) rfl⟩⟩
theorem kw_order_of_timeline_hall (Y : K.In h) (G : h.Ns mainGlobals mg) (c : Says w h K) (base : Heap) : KwQ P w K mg base "order_of" ["timeline", "hall"] [1, 0] 5 (spV ⟨K, cA K⟩ (runV F_order_of 2 4)) := by
  obtain ⟨fd, FD⟩ := c.t.d.def_ 25
  exact ⟨⟨_, fd, ["hall", "timeline"], glo_of Y G c (by decide +kernel), FD.kp, QX.kbn FD fun _ _ _ _ _ _ us ws l1 l2 => match us, ws, l1, l2 with | [], [_, _], _, _ => rfl, fnOV FD sc_order_of (b_order_of Y G c base) rfl⟩⟩
noncomputable abbrev F_turned : SS := QX.F_turned
theorem sc_turned : FnScope ["hall", "timeline", "name", "way"] ["hall", "timeline"] (defScope s_turned) := ⟨rfl, rfl, rfl, by decide +kernel, rfl, by decide +kernel, by decide +kernel⟩
theorem b_turned (Y : K.In h) (G : h.Ns mainGlobals mg) (c : Says w h K) (base : Heap) {f : Addr} : Bdy P w K mg base (cA K) ["hall", "timeline", "name", "way"] "turned" (defScope s_turned) f (defBody s_turned) (Room 4) F_turned := by
  have bl := fun (x : Str) (z : x ∈ blts) => blt_of Y G c z
  refine ⟨fun cdv A out s H E hr => ?_⟩
  have hu64 := hr.units
  have hu65 : (A.deeper (envOfC "turned" (defScope s_turned) s.heap.objs.size f cdv)).units + 65 < cLine := by have := hr.un; omega
  exact (s_cons (s_expr (p_callQ (q_require_timeline Y G c base) (hr.mono (show 4 ≤ 4 by decide)) (by rfl) (pass_c (takes_of rfl rfl rfl rfl)) (a_cons (p_any 0) (a_cons (p_any 1) a_nil))))
    (s_one (s_ret (p_callT call_tupP rdc_tup (by rfl) (bl "tuple" (by decide +kernel)) boot_tuple (a_cons (p_lc (own := [("name", 2), ("way", 3)]) rfl sc_turned.nd (by decide) (i_rev (by rfl) (bl "reversed" (by decide +kernel)) (p_any 1)) (blkOk_by (N := ["hall", "timeline", "name", "way"]) (sc := defScope s_turned) (by decide +kernel)) (fun _ _ _ _ _ => (g_tup rfl (gs_cons (g_name 2 sc_turned.nd) (gs_cons (g_name 3 sc_turned.nd) gs_nil)))) (fun _ _ _ _ _ => ts_none) (fun _ _ _ _ _ => (p_tup (a_cons (p_any 2) (a_cons (p_tab (tab_TURNED Y G c) (by rfl) (p_any 3)) a_nil))))) a_nil)))))
theorem q_turned (Y : K.In h) (G : h.Ns mainGlobals mg) (c : Says w h K) (base : Heap) : FnQ P w K mg base "turned" 5 (spV ⟨K, cA K⟩ (runV F_turned 2 2)) := by
  obtain ⟨fd, FD⟩ := c.t.d.def_ 26
  exact ⟨⟨_, fd, ["hall", "timeline"], glo_of Y G c (by decide +kernel), FD.kp, FunD.bindsN FD fun _ _ _ _ _ _ us hl => match us, hl with | [_, _], _ => rfl, fnOV FD sc_turned (b_turned Y G c base) rfl⟩⟩
theorem kw_turned_timeline_hall (Y : K.In h) (G : h.Ns mainGlobals mg) (c : Says w h K) (base : Heap) : KwQ P w K mg base "turned" ["timeline", "hall"] [1, 0] 5 (spV ⟨K, cA K⟩ (runV F_turned 2 2)) := by
  obtain ⟨fd, FD⟩ := c.t.d.def_ 26
  exact ⟨⟨_, fd, ["hall", "timeline"], glo_of Y G c (by decide +kernel), FD.kp, QX.kbn FD fun _ _ _ _ _ _ us ws l1 l2 => match us, ws, l1, l2 with | [], [_, _], _, _ => rfl, fnOV FD sc_turned (b_turned Y G c base) rfl⟩⟩
noncomputable abbrev F_is_tuple_of : SS := QX.F_is_tuple_of
theorem sc_is_tuple_of : FnScope ["value", "length"] ["value", "length"] (defScope s_is_tuple_of) := ⟨rfl, rfl, rfl, by decide +kernel, rfl, by decide +kernel, by decide +kernel⟩
theorem b_is_tuple_of (Y : K.In h) (G : h.Ns mainGlobals mg) (c : Says w h K) (base : Heap) {f : Addr} : Bdy P w K mg base (cA K) ["value", "length"] "is_tuple_of" (defScope s_is_tuple_of) f (defBody s_is_tuple_of) (Room 0) F_is_tuple_of := by
  have bl := fun (x : Str) (z : x ∈ blts) => blt_of Y G c z
  refine ⟨fun cdv A out s H E hr => ?_⟩
  have hu64 := hr.units
  have hu65 : (A.deeper (envOfC "is_tuple_of" (defScope s_is_tuple_of) s.heap.objs.size f cdv)).units + 65 < cLine := by have := hr.un; omega
  exact (s_one (s_ret (p_and (p_isTy "tuple" (by rfl) (bl "isinstance" (by decide +kernel)) (by decide +kernel) (by rfl) (bl "tuple" (by decide +kernel)) boot_tuple (p_any 0)) (p_one (c_eq hu64 (p_callB call_lenX rdc_lenX (by rfl) (bl "len" (by decide +kernel)) PySem.boot_len (a_cons (p_any 0) a_nil)) (p_any 1))))))
theorem q_is_tuple_of (Y : K.In h) (G : h.Ns mainGlobals mg) (c : Says w h K) (base : Heap) : FnQ P w K mg base "is_tuple_of" 1 (spV ⟨K, cA K⟩ (runV F_is_tuple_of 2 0)) := by
  obtain ⟨fd, FD⟩ := c.t.d.def_ 27
  exact ⟨⟨_, fd, ["value", "length"], glo_of Y G c (by decide +kernel), FD.kp, FunD.bindsN FD fun _ _ _ _ _ _ us hl => match us, hl with | [_, _], _ => rfl, fnOV FD sc_is_tuple_of (b_is_tuple_of Y G c base) rfl⟩⟩
end
end K15

set_option Elab.async false
set_option linter.all false
set_option maxRecDepth 100000
set_option maxHeartbeats 4000000
namespace K15
open PySem PySem.Spec PySem.W PySem.Calls PyProof.Rows L2 MX QX
section
variable {P : Program} {w : World} {K : PySem.W.Frag} {h : Heap} {mg : Str → Option Value}
noncomputable abbrev F_is_number : SS := QX.F_is_number
theorem sc_is_number : FnScope ["value", "limit"] ["value", "limit"] (defScope s_is_number) := ⟨rfl, rfl, rfl, by decide +kernel, rfl, by decide +kernel, by decide +kernel⟩
theorem b_is_number (Y : K.In h) (G : h.Ns mainGlobals mg) (c : Says w h K) (base : Heap) {f : Addr} : Bdy P w K mg base (cA K) ["value", "limit"] "is_number" (defScope s_is_number) f (defBody s_is_number) (Room 0) F_is_number := by
  have bl := fun (x : Str) (z : x ∈ blts) => blt_of Y G c z
  refine ⟨fun cdv A out s H E hr => ?_⟩
  have hu64 := hr.units
  have hu65 : (A.deeper (envOfC "is_number" (defScope s_is_number) s.heap.objs.size f cdv)).units + 65 < cLine := by have := hr.un; omega
  exact (s_one (s_ret (p_and (p_isTy "int" (by rfl) (bl "isinstance" (by decide +kernel)) (by decide +kernel) (by rfl) (bl "int" (by decide +kernel)) boot_int (p_any 0)) (p_and (p_not (p_isTy "bool" (by rfl) (bl "isinstance" (by decide +kernel)) (by decide +kernel) (by rfl) (bl "bool" (by decide +kernel)) PyProof.Rows.Boot.«bool» (p_any 0))) (p_one (p_chain op_le (rdo_I0 fun _ _ _ => rp_bl.mpr rfl) op_lt (rdo_I0 fun _ _ _ => rp_bl.mpr rfl) p_int (p_any 0) (p_any 1)))))))
theorem q_is_number (Y : K.In h) (G : h.Ns mainGlobals mg) (c : Says w h K) (base : Heap) : FnQ P w K mg base "is_number" 1 (spV ⟨K, cA K⟩ (runV F_is_number 2 0)) := by
  obtain ⟨fd, FD⟩ := c.t.d.def_ 28
  exact ⟨⟨_, fd, ["value", "limit"], glo_of Y G c (by decide +kernel), FD.kp, FunD.bindsN FD fun _ _ _ _ _ _ us hl => match us, hl with | [_, _], _ => rfl, fnOV FD sc_is_number (b_is_number Y G c base) rfl⟩⟩
noncomputable abbrev F_is_saying : SS := QX.F_is_saying
theorem sc_is_saying : FnScope ["hall", "value", "word", "one", "other"] ["hall", "value"] (defScope s_is_saying) := ⟨rfl, rfl, rfl, by decide +kernel, rfl, by decide +kernel, by decide +kernel⟩
theorem b_is_saying (Y : K.In h) (G : h.Ns mainGlobals mg) (c : Says w h K) (base : Heap) {f : Addr} : Bdy P w K mg base (cA K) ["hall", "value", "word", "one", "other"] "is_saying" (defScope s_is_saying) f (defBody s_is_saying) (Room 2) F_is_saying := by
  have bl := fun (x : Str) (z : x ∈ blts) => blt_of Y G c z
  refine ⟨fun cdv A out s H E hr => ?_⟩
  have hu64 := hr.units
  have hu65 : (A.deeper (envOfC "is_saying" (defScope s_is_saying) s.heap.objs.size f cdv)).units + 65 < cLine := by have := hr.un; omega
  exact (s_cons (s_if (q_not (q_val (p_callQ (q_is_tuple_of Y G c base) (hr.mono (show 1 ≤ 2 by decide)) (by rfl) (pass_c (takes_of rfl rfl rfl rfl)) (a_cons (p_any 1) (a_cons p_int a_nil))))) (s_one (s_ret p_bl)) s_nil)
    (s_cons (s_asg (p_any 1) (g_tup rfl (gs_cons (g_name 2 sc_is_saying.nd) (gs_cons (g_name 3 sc_is_saying.nd) (gs_cons (g_name 4 sc_is_saying.nd) gs_nil)))))
    (s_cons (s_if (t_in hu65 (p_any 2) (p_tup (a_cons p_str (a_cons p_str a_nil)))) (s_one (s_ret (p_and (p_in (q_Hall_contains Y G c base) hu65 (hr.mono (show 1 ≤ 2 by decide)) (p_any 3) (p_any 0)) (p_and (p_in (q_Hall_contains Y G c base) hu65 (hr.mono (show 1 ≤ 2 by decide)) (p_any 4) (p_any 0)) (p_one (c_ne hu64 (p_any 3) (p_any 4))))))) s_nil)
    (s_one (s_ret (p_and (c_eq hu64 (p_any 2) p_str) (p_and (p_callQ (q_is_event Y G c base) (hr.mono (show 2 ≤ 2 by decide)) (by rfl) (pass_c (takes_of rfl rfl rfl rfl)) (a_cons (p_any 0) (a_cons (p_any 3) a_nil))) (p_and (p_callQ (q_is_event Y G c base) (hr.mono (show 2 ≤ 2 by decide)) (by rfl) (pass_c (takes_of rfl rfl rfl rfl)) (a_cons (p_any 0) (a_cons (p_any 4) a_nil))) (p_one (c_ne hu64 (p_ix (p_any 3) p_int) (p_ix (p_any 4) p_int)))))))))))
theorem q_is_saying (Y : K.In h) (G : h.Ns mainGlobals mg) (c : Says w h K) (base : Heap) : FnQ P w K mg base "is_saying" 3 (spV ⟨K, cA K⟩ (runV F_is_saying 2 3)) := by
  obtain ⟨fd, FD⟩ := c.t.d.def_ 29
  exact ⟨⟨_, fd, ["hall", "value"], glo_of Y G c (by decide +kernel), FD.kp, FunD.bindsN FD fun _ _ _ _ _ _ us hl => match us, hl with | [_, _], _ => rfl, fnOV FD sc_is_saying (b_is_saying Y G c base) rfl⟩⟩
noncomputable abbrev F_require_saying : SS := QX.F_require_saying
theorem sc_require_saying : FnScope ["hall", "saying"] ["hall", "saying"] (defScope s_require_saying) := ⟨rfl, rfl, rfl, by decide +kernel, rfl, by decide +kernel, by decide +kernel⟩
theorem b_require_saying (Y : K.In h) (G : h.Ns mainGlobals mg) (c : Says w h K) (base : Heap) {f : Addr} : Bdy P w K mg base (cA K) ["hall", "saying"] "require_saying" (defScope s_require_saying) f (defBody s_require_saying) (Room 3) F_require_saying := by
  have bl := fun (x : Str) (z : x ∈ blts) => blt_of Y G c z
  refine ⟨fun cdv A out s H E hr => ?_⟩
  have hu64 := hr.units
  have hu65 : (A.deeper (envOfC "require_saying" (defScope s_require_saying) s.heap.objs.size f cdv)).units + 65 < cLine := by have := hr.un; omega
  exact (s_one (s_if (q_not (q_val (p_callQ (q_is_saying Y G c base) (hr.mono (show 3 ≤ 3 by decide)) (by rfl) (pass_c (takes_of rfl rfl rfl rfl)) (a_cons (p_any 0) (a_cons (p_any 1) a_nil))))) (s_one (s_raise rfl (takes_of rfl rfl rfl rfl) (exn_BadSaying Y G c base) (hr.mono (show 2 ≤ 3 by decide)) (by rfl) (p_any 1))) s_nil))
theorem q_require_saying (Y : K.In h) (G : h.Ns mainGlobals mg) (c : Says w h K) (base : Heap) : FnQ P w K mg base "require_saying" 4 (spV ⟨K, cA K⟩ (runV F_require_saying 2 0)) := by
  obtain ⟨fd, FD⟩ := c.t.d.def_ 30
  exact ⟨⟨_, fd, ["hall", "saying"], glo_of Y G c (by decide +kernel), FD.kp, FunD.bindsN FD fun _ _ _ _ _ _ us hl => match us, hl with | [_, _], _ => rfl, fnOV FD sc_require_saying (b_require_saying Y G c base) rfl⟩⟩
noncomputable abbrev F_holds : SS := QX.F_holds
theorem sc_holds : FnScope ["places", "saying", "word", "one", "other"] ["places", "saying"] (defScope s_holds) := ⟨rfl, rfl, rfl, by decide +kernel, rfl, by decide +kernel, by decide +kernel⟩
theorem b_holds (Y : K.In h) (G : h.Ns mainGlobals mg) (c : Says w h K) (base : Heap) {f : Addr} : Bdy P w K mg base (cA K) ["places", "saying", "word", "one", "other"] "holds" (defScope s_holds) f (defBody s_holds) (Room 1) F_holds := by
  have bl := fun (x : Str) (z : x ∈ blts) => blt_of Y G c z
  refine ⟨fun cdv A out s H E hr => ?_⟩
  have hu64 := hr.units
  have hu65 : (A.deeper (envOfC "holds" (defScope s_holds) s.heap.objs.size f cdv)).units + 65 < cLine := by have := hr.un; omega
  exact (s_cons (s_asg (p_any 1) (g_tup rfl (gs_cons (g_name 2 sc_holds.nd) (gs_cons (g_name 3 sc_holds.nd) (gs_cons (g_name 4 sc_holds.nd) gs_nil)))))
    (s_cons (s_if (t_eq hu64 (p_any 2) p_str) (s_one (s_ret (c_lt (p_dget hu64 (p_any 0) (p_any 3)) (p_dget hu64 (p_any 0) (p_any 4))))) s_nil)
    (s_one (s_ret (c_eq hu64 (p_callQ (q_meet Y G c base) (hr.mono (show 1 ≤ 1 by decide)) (by rfl) (pass_c (takes_of rfl rfl rfl rfl)) (a_cons (p_any 0) (a_cons (p_any 3) (a_cons (p_any 4) a_nil)))) (c_eq hu64 (p_any 2) p_str))))))
theorem q_holds (Y : K.In h) (G : h.Ns mainGlobals mg) (c : Says w h K) (base : Heap) : FnQ P w K mg base "holds" 2 (spV ⟨K, cA K⟩ (runV F_holds 2 3)) := by
  obtain ⟨fd, FD⟩ := c.t.d.def_ 31
  exact ⟨⟨_, fd, ["places", "saying"], glo_of Y G c (by decide +kernel), FD.kp, FunD.bindsN FD fun _ _ _ _ _ _ us hl => match us, hl with | [_, _], _ => rfl, fnOV FD sc_holds (b_holds Y G c base) rfl⟩⟩
noncomputable abbrev F_is_so : SS := QX.F_is_so
theorem sc_is_so : FnScope ["hall", "timeline", "saying"] ["hall", "timeline", "saying"] (defScope s_is_so) := ⟨rfl, rfl, rfl, by decide +kernel, rfl, by decide +kernel, by decide +kernel⟩
theorem b_is_so (Y : K.In h) (G : h.Ns mainGlobals mg) (c : Says w h K) (base : Heap) {f : Addr} : Bdy P w K mg base (cA K) ["hall", "timeline", "saying"] "is_so" (defScope s_is_so) f (defBody s_is_so) (Room 4) F_is_so := by
  have bl := fun (x : Str) (z : x ∈ blts) => blt_of Y G c z
  refine ⟨fun cdv A out s H E hr => ?_⟩
  have hu64 := hr.units
  have hu65 : (A.deeper (envOfC "is_so" (defScope s_is_so) s.heap.objs.size f cdv)).units + 65 < cLine := by have := hr.un; omega
  exact (s_cons (s_expr (p_callQ (q_require_timeline Y G c base) (hr.mono (show 4 ≤ 4 by decide)) (by rfl) (pass_c (takes_of rfl rfl rfl rfl)) (a_cons (p_any 0) (a_cons (p_any 1) a_nil))))
    (s_cons (s_expr (p_callQ (q_require_saying Y G c base) (hr.mono (show 4 ≤ 4 by decide)) (by rfl) (pass_c (takes_of rfl rfl rfl rfl)) (a_cons (p_any 0) (a_cons (p_any 2) a_nil))))
    (s_one (s_ret (p_callQ (q_holds Y G c base) (hr.mono (show 2 ≤ 4 by decide)) (by rfl) (pass_c (takes_of rfl rfl rfl rfl)) (a_cons (p_callQ (q_places_of Y G c base) (hr.mono (show 1 ≤ 4 by decide)) (by rfl) (pass_c (takes_of rfl rfl rfl rfl)) (a_cons (p_any 1) a_nil)) (a_cons (p_any 2) a_nil)))))))
theorem q_is_so (Y : K.In h) (G : h.Ns mainGlobals mg) (c : Says w h K) (base : Heap) : FnQ P w K mg base "is_so" 5 (spV ⟨K, cA K⟩ (runV F_is_so 3 0)) := by
  obtain ⟨fd, FD⟩ := c.t.d.def_ 32
  exact ⟨⟨_, fd, ["hall", "timeline", "saying"], glo_of Y G c (by decide +kernel), FD.kp, FunD.bindsN FD fun _ _ _ _ _ _ us hl => match us, hl with | [_, _, _], _ => rfl, fnOV FD sc_is_so (b_is_so Y G c base) rfl⟩⟩
theorem kw_is_so_saying_timeline_hall (Y : K.In h) (G : h.Ns mainGlobals mg) (c : Says w h K) (base : Heap) : KwQ P w K mg base "is_so" ["saying", "timeline", "hall"] [2, 1, 0] 5 (spV ⟨K, cA K⟩ (runV F_is_so 3 0)) := by
  obtain ⟨fd, FD⟩ := c.t.d.def_ 32
  exact ⟨⟨_, fd, ["hall", "timeline", "saying"], glo_of Y G c (by decide +kernel), FD.kp, QX.kbn FD fun _ _ _ _ _ _ us ws l1 l2 => match us, ws, l1, l2 with | [], [_, _, _], _, _ => rfl, fnOV FD sc_is_so (b_is_so Y G c base) rfl⟩⟩
noncomputable abbrev F_contrary : SS := QX.F_contrary
theorem sc_contrary : FnScope ["hall", "saying", "word", "one", "other"] ["hall", "saying"] (defScope s_contrary) := ⟨rfl, rfl, rfl, by decide +kernel, rfl, by decide +kernel, by decide +kernel⟩
theorem b_contrary (Y : K.In h) (G : h.Ns mainGlobals mg) (c : Says w h K) (base : Heap) {f : Addr} : Bdy P w K mg base (cA K) ["hall", "saying", "word", "one", "other"] "contrary" (defScope s_contrary) f (defBody s_contrary) (Room 4) F_contrary := by
  have bl := fun (x : Str) (z : x ∈ blts) => blt_of Y G c z
  refine ⟨fun cdv A out s H E hr => ?_⟩
  have hu64 := hr.units
  have hu65 : (A.deeper (envOfC "contrary" (defScope s_contrary) s.heap.objs.size f cdv)).units + 65 < cLine := by have := hr.un; omega
  exact (s_cons (s_expr (p_callQ (q_require_saying Y G c base) (hr.mono (show 4 ≤ 4 by decide)) (by rfl) (pass_c (takes_of rfl rfl rfl rfl)) (a_cons (p_any 0) (a_cons (p_any 1) a_nil))))
    (s_cons (s_asg (p_any 1) (g_tup rfl (gs_cons (g_name 2 sc_contrary.nd) (gs_cons (g_name 3 sc_contrary.nd) (gs_cons (g_name 4 sc_contrary.nd) gs_nil)))))
    (s_cons (s_if (t_eq hu64 (p_any 2) p_str) (s_one (s_ret (p_tup (a_cons (p_any 2) (a_cons (p_any 4) (a_cons (p_any 3) a_nil)))))) s_nil)
    (s_one (s_ret (p_tup (a_cons (p_tab (tab_CONTRARY Y G c) (by rfl) (p_any 2)) (a_cons (p_any 3) (a_cons (p_any 4) a_nil)))))))))
theorem q_contrary (Y : K.In h) (G : h.Ns mainGlobals mg) (c : Says w h K) (base : Heap) : FnQ P w K mg base "contrary" 5 (spV ⟨K, cA K⟩ (runV F_contrary 2 3)) := by
  obtain ⟨fd, FD⟩ := c.t.d.def_ 33
  exact ⟨⟨_, fd, ["hall", "saying"], glo_of Y G c (by decide +kernel), FD.kp, FunD.bindsN FD fun _ _ _ _ _ _ us hl => match us, hl with | [_, _], _ => rfl, fnOV FD sc_contrary (b_contrary Y G c base) rfl⟩⟩
theorem kw_contrary_saying_hall (Y : K.In h) (G : h.Ns mainGlobals mg) (c : Says w h K) (base : Heap) : KwQ P w K mg base "contrary" ["saying", "hall"] [1, 0] 5 (spV ⟨K, cA K⟩ (runV F_contrary 2 3)) := by
  obtain ⟨fd, FD⟩ := c.t.d.def_ 33
  exact ⟨⟨_, fd, ["hall", "saying"], glo_of Y G c (by decide +kernel), FD.kp, QX.kbn FD fun _ _ _ _ _ _ us ws l1 l2 => match us, ws, l1, l2 with | [], [_, _], _, _ => rfl, fnOV FD sc_contrary (b_contrary Y G c base) rfl⟩⟩
end
end K15

set_option Elab.async false
set_option linter.all false
set_option maxRecDepth 100000
set_option maxHeartbeats 4000000
namespace K15
open PySem PySem.Spec PySem.W PySem.Calls PyProof.Rows L2 MX QX
section
variable {P : Program} {w : World} {K : PySem.W.Frag} {h : Heap} {mg : Str → Option Value}
noncomputable abbrev F_are_sayings : SS := QX.F_are_sayings
theorem sc_are_sayings : FnScope ["hall", "value", "saying"] ["hall", "value"] (defScope s_are_sayings) := ⟨rfl, rfl, rfl, by decide +kernel, rfl, by decide +kernel, by decide +kernel⟩
theorem b_are_sayings (Y : K.In h) (G : h.Ns mainGlobals mg) (c : Says w h K) (base : Heap) {f : Addr} : Bdy P w K mg base (cA K) ["hall", "value", "saying"] "are_sayings" (defScope s_are_sayings) f (defBody s_are_sayings) (Room 3) F_are_sayings := by
  have bl := fun (x : Str) (z : x ∈ blts) => blt_of Y G c z
  obtain ⟨_, g_MOST_SAYINGS⟩ := con_MOST_SAYINGS Y G c
  refine ⟨fun cdv A out s H E hr => ?_⟩
  have hu64 := hr.units
  have hu65 : (A.deeper (envOfC "are_sayings" (defScope s_are_sayings) s.heap.objs.size f cdv)).units + 65 < cLine := by have := hr.un; omega
  exact (s_cons (s_if (q_chain (w_or (q_not (q_val (p_isTy "tuple" (by rfl) (bl "isinstance" (by decide +kernel)) (by decide +kernel) (by rfl) (bl "tuple" (by decide +kernel)) boot_tuple (p_any 1)))) (w_or1 (t_gt (p_callB call_lenX rdc_lenX (by rfl) (bl "len" (by decide +kernel)) PySem.boot_len (a_cons (p_any 1) a_nil)) (p_glob (v := .int 30) (w := .int 30) (by rfl) g_MOST_SAYINGS ⟨_, rfl⟩ (fun _ => rp_int.mpr rfl)))))) (s_one (s_ret p_bl)) s_nil)
    (s_one (s_ret (p_callB (cr_all rfl) rdc_all (by rfl) (bl "all" (by decide +kernel)) boot_all (a_cons (p_lc (own := [("saying", 2)]) rfl sc_are_sayings.nd (by decide) (i_seq (p_any 1)) (blkOk_by (N := ["hall", "value", "saying"]) (sc := defScope s_are_sayings) (by decide +kernel)) (fun _ _ _ _ _ => (g_name 2 sc_are_sayings.nd)) (fun _ _ _ _ _ => ts_none) (fun _ _ _ _ _ => (p_callQ (q_is_saying Y G c base) (hr.mono (show 3 ≤ 3 by decide)) (by rfl) hx0 (a_cons (p_any 0) (a_cons (p_any 2) a_nil))))) a_nil)))))
theorem q_are_sayings (Y : K.In h) (G : h.Ns mainGlobals mg) (c : Says w h K) (base : Heap) : FnQ P w K mg base "are_sayings" 4 (spV ⟨K, cA K⟩ (runV F_are_sayings 2 1)) := by
  obtain ⟨fd, FD⟩ := c.t.d.def_ 34
  exact ⟨⟨_, fd, ["hall", "value"], glo_of Y G c (by decide +kernel), FD.kp, FunD.bindsN FD fun _ _ _ _ _ _ us hl => match us, hl with | [_, _], _ => rfl, fnOV FD sc_are_sayings (b_are_sayings Y G c base) rfl⟩⟩
noncomputable abbrev F_Book_broken : SS := QX.F_Book_broken
theorem sc_Book_broken : FnScope ["self", "timeline", "places", "number", "saying"] ["self", "timeline"] (defScope s_Book_broken) := ⟨rfl, rfl, rfl, by decide +kernel, rfl, by decide +kernel, by decide +kernel⟩
theorem b_Book_broken (Y : K.In h) (G : h.Ns mainGlobals mg) (c : Says w h K) (base : Heap) {f : Addr} : Bdy P w K mg base (cA K) ["self", "timeline", "places", "number", "saying"] "Book.broken" (defScope s_Book_broken) f (defBody s_Book_broken) (Room 4) F_Book_broken := by
  have bl := fun (x : Str) (z : x ∈ blts) => blt_of Y G c z
  refine ⟨fun cdv A out s H E hr => ?_⟩
  have hu64 := hr.units
  have hu65 : (A.deeper (envOfC "Book.broken" (defScope s_Book_broken) s.heap.objs.size f cdv)).units + 65 < cLine := by have := hr.un; omega
  exact (s_cons (s_expr (p_callQ (q_require_timeline Y G c base) (hr.mono (show 4 ≤ 4 by decide)) (by rfl) (pass_c (takes_of rfl rfl rfl rfl)) (a_cons (p_fld "Book" "hall" (cls_Book Y G c) (na_Book_hall Y G c) (p_any 0)) (a_cons (p_any 1) a_nil))))
    (s_cons (s_set 2 sc_Book_broken.nd (p_callQ (q_places_of Y G c base) (hr.mono (show 1 ≤ 4 by decide)) (by rfl) (pass_c (takes_of rfl rfl rfl rfl)) (a_cons (p_any 1) a_nil)))
    (s_one (s_ret (p_callT call_tupP rdc_tup (by rfl) (bl "tuple" (by decide +kernel)) boot_tuple (a_cons (p_lc (own := [("number", 3), ("saying", 4)]) rfl sc_Book_broken.nd (by decide) (i_enum (by rfl) (bl "enumerate" (by decide +kernel)) (p_fld "Book" "sayings" (cls_Book Y G c) (na_Book_sayings Y G c) (p_any 0))) (blkOk_by (N := ["self", "timeline", "places", "number", "saying"]) (sc := defScope s_Book_broken) (by decide +kernel)) (fun _ _ _ _ _ => (g_tup rfl (gs_cons (g_name 3 sc_Book_broken.nd) (gs_cons (g_name 4 sc_Book_broken.nd) gs_nil)))) (fun _ _ _ _ _ => (ts_one (q_not (q_val (p_callQ (q_holds Y G c base) (hr.mono (show 2 ≤ 4 by decide)) (by rfl) hx0 (a_cons (p_any 2) (a_cons (p_any 4) a_nil))))))) (fun _ _ _ _ _ => (p_any 3))) a_nil))))))
theorem q_Book_broken (Y : K.In h) (G : h.Ns mainGlobals mg) (c : Says w h K) (base : Heap) : MethN P w K mg base (cA K) "Book" "broken" 5 (spV ⟨K, cA K⟩ (runV F_Book_broken 2 3)) := by
  obtain ⟨fd, FD⟩ := c.t.d.def_ 37
  exact ⟨⟨_, fd, ["self", "timeline"], cls_Book Y G c, He.meth_ok (more_of c 24), fnOV FD sc_Book_broken (b_Book_broken Y G c base) rfl, FunD.bindsN FD fun _ _ _ _ _ _ us hl => match us, hl with | [_, _], _ => rfl⟩⟩
theorem kw_Book_broken_timeline (Y : K.In h) (G : h.Ns mainGlobals mg) (c : Says w h K) (base : Heap) : MethK P w K mg base (cA K) "Book" "broken" ["timeline"] [0] 5 (spV ⟨K, cA K⟩ (runV F_Book_broken 2 3)) := by
  obtain ⟨fd, FD⟩ := c.t.d.def_ 37
  exact ⟨⟨_, fd, ["self", "timeline"], cls_Book Y G c, He.meth_ok (more_of c 24), QX.kbn FD fun _ _ _ _ _ _ us ws l1 l2 => match us, ws, l1, l2 with | [_], [_], _, _ => rfl, fnOV FD sc_Book_broken (b_Book_broken Y G c base) rfl⟩⟩
noncomputable abbrev F_Book_fits : SS := QX.F_Book_fits
theorem sc_Book_fits : FnScope ["self", "timeline"] ["self", "timeline"] (defScope s_Book_fits) := ⟨rfl, rfl, rfl, by decide +kernel, rfl, by decide +kernel, by decide +kernel⟩
theorem b_Book_fits (Y : K.In h) (G : h.Ns mainGlobals mg) (c : Says w h K) (base : Heap) {f : Addr} : Bdy P w K mg base (cA K) ["self", "timeline"] "Book.fits" (defScope s_Book_fits) f (defBody s_Book_fits) (Room 5) F_Book_fits := by
  have bl := fun (x : Str) (z : x ∈ blts) => blt_of Y G c z
  refine ⟨fun cdv A out s H E hr => ?_⟩
  have hu64 := hr.units
  have hu65 : (A.deeper (envOfC "Book.fits" (defScope s_Book_fits) s.heap.objs.size f cdv)).units + 65 < cLine := by have := hr.un; omega
  exact (s_one (s_ret (p_and (p_callQ (q_keeps Y G c base) (hr.mono (show 5 ≤ 5 by decide)) (by rfl) (pass_c (takes_of rfl rfl rfl rfl)) (a_cons (p_fld "Book" "hall" (cls_Book Y G c) (na_Book_hall Y G c) (p_any 0)) (a_cons (p_any 1) a_nil))) (p_one (c_eq hu64 (p_meth (q_Book_broken Y G c base) (hr.mono (show 5 ≤ 5 by decide)) (pass_e (takes_of rfl rfl rfl rfl)) (p_any 0) (a_cons (p_any 1) a_nil)) (p_tup a_nil))))))
theorem q_Book_fits (Y : K.In h) (G : h.Ns mainGlobals mg) (c : Says w h K) (base : Heap) : MethN P w K mg base (cA K) "Book" "fits" 6 (spV ⟨K, cA K⟩ (runV F_Book_fits 2 0)) := by
  obtain ⟨fd, FD⟩ := c.t.d.def_ 36
  exact ⟨⟨_, fd, ["self", "timeline"], cls_Book Y G c, He.meth_ok (more_of c 23), fnOV FD sc_Book_fits (b_Book_fits Y G c base) rfl, FunD.bindsN FD fun _ _ _ _ _ _ us hl => match us, hl with | [_, _], _ => rfl⟩⟩
theorem kw_Book_fits_timeline (Y : K.In h) (G : h.Ns mainGlobals mg) (c : Says w h K) (base : Heap) : MethK P w K mg base (cA K) "Book" "fits" ["timeline"] [0] 6 (spV ⟨K, cA K⟩ (runV F_Book_fits 2 0)) := by
  obtain ⟨fd, FD⟩ := c.t.d.def_ 36
  exact ⟨⟨_, fd, ["self", "timeline"], cls_Book Y G c, He.meth_ok (more_of c 23), QX.kbn FD fun _ _ _ _ _ _ us ws l1 l2 => match us, ws, l1, l2 with | [_], [_], _, _ => rfl, fnOV FD sc_Book_fits (b_Book_fits Y G c base) rfl⟩⟩
end
end K15

set_option Elab.async false
set_option linter.all false
set_option maxRecDepth 100000
set_option maxHeartbeats 4000000
namespace K15
open PySem PySem.Spec PySem.W PySem.Calls PyProof.Rows L2 MX
abbrev sBookI : Stmt := inClass (top 52) 0
section
variable {P : Program} {w : World} {K : PySem.W.Frag} {h : Heap} {mg : Str → Option Value}
theorem scBk : FnScope ["self", "hall", "sayings"] ["self", "hall", "sayings"] (defScope sBookI) := ⟨rfl, rfl, rfl, by decide +kernel, rfl, by decide +kernel, by decide +kernel⟩
noncomputable def fdBk (c : Says w h K) : FuncData := Classical.choose (c.t.d.def_ 35)
theorem ok_Book (Y : K.In h) (G : h.Ns mainGlobals mg) (c : Says w h K) (base : Heap) : FnOk P w K mg base (L2.CX P w) 5 (He.ma K (He.ga K "Book") "__init__") (fdBk c) ["self", "hall", "sayings"] (QX.spInitB ⟨K, cA K⟩ (QX.runV F_are_sayings 2 1)) := by
  obtain ⟨fA, fdA, psA, gA, kA, bA, GA⟩ := (q_are_sayings (P := P) Y G c base).go
  have clsB : Cls K (He.ga K "Book") := cls_Book Y G c
  have nH : NoAttr K (He.ga K "Book") "hall" := na_Book_hall Y G c
  have nS : NoAttr K (He.ga K "Book") "sayings" := na_Book_sayings Y G c
  obtain ⟨fdE, FE⟩ := c.t.d.def_ 0
  have tB : ExcT K (He.ga K "BadSayings") (fE K) := excB_ok (He.ba (He.ba (He.ba (He.ba (He.ba (He.ba (He.ba c.more).2).2).2).2).2).2).1
  have GE : FnOk P w K mg base CX0 1 (fE K) fdE ["self", "value"] (spErr K) := ok_err FE
  have bE : Binds K fdE ["self", "value"] [] := FunD.bindsN FE fun _ _ _ _ _ _ us hl => match us, hl with | [_, _], _ => rfl
  have gB : mg "BadSayings" = some (.ref (He.ga K "BadSayings")) := glo_of Y G c (by decide +kernel)
  refine FunD.ok (CX := L2.CX P w) (Classical.choose_spec (c.t.d.def_ 35)) scBk (fun vs H Q E h => ?_) (fun cdv A outer s H vs Q E hr h => ?_)
  · obtain ⟨M, p, dx, vh, u, hh, s, rfl, _⟩ := h
    rfl
  · obtain ⟨M, p, dx, vh, u, hh, sy, rfl, ep, np, al, tb, r, q⟩ := h
    have hr2 := hr.mono (show 2 ≤ 4 by decide)
    refine ⟨_, pss_cons (ps_if (pt_not (pt_val (pe_call GA hr rfl gA kA bA .nil (QX.pass_e (takes_of rfl rfl rfl rfl)) (pa_cons (pv 1) (pa_cons (pv 2) pa_nil)))))
        (pss_one (ps_raise rfl (takes_of rfl rfl rfl rfl) (pmk_oex tB.oex tB.ic tB.ti GE hr2 bE .nil pass0 (by rfl) gB (pa_cons (pv 2) pa_nil)))) pss_nil)
      (pss_cons (ps_fld (pv 0) (pv 1) (by rfl)) (pss_one (ps_fld (pv 0) (pv 2) (by rfl)))), ?_⟩
    refine ⟨_, rfl, _, rfl, M, [hh, sy], al, tb, r, ?_⟩
    cases hg : QX.runV F_are_sayings 2 1 [hh, sy] with
    | no => rw [hg] at q; exact q.elim
    | ex k v => rw [hg] at q; exact q.elim
    | ok v =>
      rw [hg] at q
      cases v with
      | bl b =>
        intro ub H1 s1 rb
        refine ⟨b, QX.rp_bl.mp rb, ?_⟩
        cases b with
        | false => exact iteT ⟨_, rfl, mkO_ok tB fun dd hdd => q H1 dd (QX.ButS.of s1) hdd⟩
        | true =>
          refine iteF ?_
          have e1 := s1.ext _ _ ep (fun _ z => by cases z)
          have b1 : QX.ButS ⟨K, cA K⟩ p H H1 := QX.ButS.of s1
          refine ⟨_, rfl, _, rfl, p, He.ga K "Book", dx, _, rfl, e1, clsB, nH, (show 0 < 1000 by decide), ?_⟩
          obtain ⟨H2, hH2⟩ : ∃ H2, H2 = L2.upd H1 p (.ins (He.ga K "Book") dx [("hall", vh)]) := ⟨_, rfl⟩
          show tSeq _ _ _ _ (L2.upd H1 p (.ins (He.ga K "Book") dx [("hall", vh)]))
          rw [← hH2]
          have e2 : H2 p = some (.ins (He.ga K "Book") dx [("hall", vh)]) := by rw [hH2, upd_same]
          have b2 : QX.ButS ⟨K, cA K⟩ p H H2 := by rw [hH2]; exact b1.ins e1
          clear hH2
          refine ⟨_, rfl, _, rfl, p, He.ga K "Book", dx, _, rfl, e2, clsB, nS, (show 1 < 1000 by decide), ?_⟩
          exact q _ (b2.ins e2) upd_same
      | _ => exact q.elim
theorem bi_Book (Y : K.In h) (G : h.Ns mainGlobals mg) (c : Says w h K) : L2.Binds K (fdBk c) ["self", "hall", "sayings"] [] := by
  have FB := Classical.choose_spec (c.t.d.def_ 35)
  obtain ⟨ds1, hds1, bB1⟩ := FunD.binds1 (ps := ["self", "hall", "sayings"]) FB 3 1 (by intro z; cases z) rfl fun T kV doc pm an cdv ct us its hu hi => match us, its, hu, hi with | [_, _, _], [_], _, _ => ⟨_, rfl, rfl⟩
  obtain rfl : ds1 = [] := by cases hds1; rfl
  exact bB1
theorem kb_Book_sayings_hall (Y : K.In h) (G : h.Ns mainGlobals mg) (c : Says w h K) : KBn K (fdBk c) ["self", "hall", "sayings"] 1 ["sayings", "hall"] (fun us ws => us ++ QX.prm [1, 0] ws) (fun vs zs => vs ++ QX.prm [1, 0] zs) := by
  have FB := Classical.choose_spec (c.t.d.def_ 35)
  obtain ⟨its, kb⟩ := FunD.kbindsD (ps := ["self", "hall", "sayings"]) FB 1 ["sayings", "hall"] (fun {α} us _ ws => us ++ QX.prm [1, 0] ws) (by intro z; cases z) (fun r _ r3 => r.append (QX.vals_prm r3 _)) fun T kV doc pm an cdv ct us its ws hu hi hw => match us, its, ws, hu, hi, hw with | [_], [_], [_, _], _, _, _ => ⟨_, rfl, rfl⟩
  exact kb
theorem bi_Book0 (Y : K.In h) (G : h.Ns mainGlobals mg) (c : Says w h K) : ∃ ds, Vals [V.ref (He.dflAt ("Book", some "__init__") 0 K)] ds ∧ L2.Binds K (fdBk c) ["self", "hall", "sayings"] ds := by
  have FB := Classical.choose_spec (c.t.d.def_ 35)
  obtain ⟨ds, hds, b⟩ := FunD.binds1 (ps := ["self", "hall", "sayings"]) FB 2 0 (by intro z; cases z) rfl fun T kV doc pm an cdv ct us its hu hi => match us, its, hu, hi with | [_, _], [_], _, _ => ⟨_, rfl, rfl⟩
  exact ⟨ds, hds, b⟩
end
end K15

set_option Elab.async false
set_option linter.all false
set_option maxRecDepth 100000
set_option maxHeartbeats 4000000
namespace K15
open PySem PySem.Spec PySem.W PySem.Calls PyProof.Rows L2 MX QX
section
variable {P : Program} {w : World} {K : PySem.W.Frag} {h : Heap} {mg : Str → Option Value}
noncomputable abbrev F_Book_without : SS := QX.F_Book_without
theorem sc_Book_without : FnScope ["self", "number"] ["self", "number"] (defScope s_Book_without) := ⟨rfl, rfl, rfl, by decide +kernel, rfl, by decide +kernel, by decide +kernel⟩
theorem b_Book_without (Y : K.In h) (G : h.Ns mainGlobals mg) (c : Says w h K) (base : Heap) {f : Addr} : Bdy P w K mg base (cA K) ["self", "number"] "Book.without" (defScope s_Book_without) f (defBody s_Book_without) (Room 6) F_Book_without := by
  have bl := fun (x : Str) (z : x ∈ blts) => blt_of Y G c z
  refine ⟨fun cdv A out s H E hr => ?_⟩
  have hu64 := hr.units
  have hu65 : (A.deeper (envOfC "Book.without" (defScope s_Book_without) s.heap.objs.size f cdv)).units + 65 < cLine := by have := hr.un; omega
  exact (s_cons (s_if (q_not (q_val (p_callQ (q_is_number Y G c base) (hr.mono (show 1 ≤ 6 by decide)) (by rfl) (pass_c (takes_of rfl rfl rfl rfl)) (a_cons (p_any 1) (a_cons (p_callB call_lenX rdc_lenX (by rfl) (bl "len" (by decide +kernel)) PySem.boot_len (a_cons (p_fld "Book" "sayings" (cls_Book Y G c) (na_Book_sayings Y G c) (p_any 0)) a_nil)) a_nil))))) (s_one (s_raise rfl (takes_of rfl rfl rfl rfl) (exn_NoSaying Y G c base) (hr.mono (show 2 ≤ 6 by decide)) (by rfl) (p_any 1))) s_nil)
    (s_one (s_ret (p_mkBook (mkr_Book Y G c) (ok_Book Y G c base) (hr.mono (show 6 ≤ 6 by decide)) (by rfl) (glo_of Y G c (by decide +kernel)) (bi_Book Y G c) (pass_e (takes_of rfl rfl rfl rfl)) (a_cons (p_fld "Book" "hall" (cls_Book Y G c) (na_Book_hall Y G c) (p_any 0)) (a_cons (p_tup (a_star (p_slice (p_fld "Book" "sayings" (cls_Book Y G c) (na_Book_sayings Y G c) (p_any 0)) o_none (o_some (p_any 1))) (a_star (p_slice (p_fld "Book" "sayings" (cls_Book Y G c) (na_Book_sayings Y G c) (p_any 0)) (o_some (b_add (p_any 1) p_int)) o_none) a_nil))) a_nil))))))
theorem kw_Book_without_number (Y : K.In h) (G : h.Ns mainGlobals mg) (c : Says w h K) (base : Heap) : MethK P w K mg base (cA K) "Book" "without" ["number"] [0] 7 (spV ⟨K, cA K⟩ (runV F_Book_without 2 0)) := by
  obtain ⟨fd, FD⟩ := c.t.d.def_ 38
  exact ⟨⟨_, fd, ["self", "number"], cls_Book Y G c, He.meth_ok (more_of c 25), QX.kbn FD fun _ _ _ _ _ _ us ws l1 l2 => match us, ws, l1, l2 with | [_], [_], _, _ => rfl, fnOV FD sc_Book_without (b_Book_without Y G c base) rfl⟩⟩
noncomputable abbrev F_Book_eq : SS := QX.F_Book_eq
theorem sc_Book_eq : FnScope ["self", "other"] ["self", "other"] (defScope s_Book_eq) := ⟨rfl, rfl, rfl, by decide +kernel, rfl, by decide +kernel, by decide +kernel⟩
theorem b_Book_eq (Y : K.In h) (G : h.Ns mainGlobals mg) (c : Says w h K) (base : Heap) {f : Addr} : Bdy P w K mg base (cA K) ["self", "other"] "Book.__eq__" (defScope s_Book_eq) f (defBody s_Book_eq) (Room 2) F_Book_eq := by
  have bl := fun (x : Str) (z : x ∈ blts) => blt_of Y G c z
  refine ⟨fun cdv A out s H E hr => ?_⟩
  have hu64 := hr.units
  have hu65 : (A.deeper (envOfC "Book.__eq__" (defScope s_Book_eq) s.heap.objs.size f cdv)).units + 65 < cLine := by have := hr.un; omega
  exact (s_one (s_ret (p_and (p_isC (isO_Book Y G c) (by rfl) (bl "isinstance" (by decide +kernel)) (by decide +kernel) (by rfl) (p_any 1)) (p_and (p_eqC (q_Hall_eq Y G c base) hu64 (hr.mono (show 2 ≤ 2 by decide)) (p_fld "Book" "hall" (cls_Book Y G c) (na_Book_hall Y G c) (p_any 0)) (p_fld "Book" "hall" (cls_Book Y G c) (na_Book_hall Y G c) (p_any 1))) (p_one (c_eq hu64 (p_fld "Book" "sayings" (cls_Book Y G c) (na_Book_sayings Y G c) (p_any 0)) (p_fld "Book" "sayings" (cls_Book Y G c) (na_Book_sayings Y G c) (p_any 1))))))))
theorem q_Book_eq (Y : K.In h) (G : h.Ns mainGlobals mg) (c : Says w h K) (base : Heap) : EqN P w K mg base (cA K) "Book" 3 (spV ⟨K, cA K⟩ (runV F_Book_eq 2 0)) := by
  obtain ⟨fd, FD⟩ := c.t.d.def_ 44
  have m := He.meth_ok (more_of c 31)
  have e := eq_Book c
  exact ⟨⟨_, fd, ["self", "other"], m.at_, m.fn, fnOV FD sc_Book_eq (b_Book_eq Y G c base) rfl, FunD.bindsN FD fun _ _ _ _ _ _ us hl => match us, hl with | [_, _], _ => rfl, e.1, e.2⟩⟩
noncomputable abbrev F__law_take : SS := (QX.F__law_take 95381 173)
theorem sc__law_take : FnScope ["_law_pot_here", "_law_upto", "_law_digit", "_law_prime", "_law_blend"] ["_law_pot_here", "_law_upto"] (defScope s__law_take) := ⟨rfl, rfl, rfl, by decide +kernel, rfl, by decide +kernel, by decide +kernel⟩
theorem b__law_take (Y : K.In h) (G : h.Ns mainGlobals mg) (c : Says w h K) (base : Heap) {f : Addr} : Bdy P w K mg base (cA K) ["_law_pot_here", "_law_upto", "_law_digit", "_law_prime", "_law_blend"] "_law_take" (defScope s__law_take) f (defBody s__law_take) (RoomG 0) F__law_take := by
  have bl := fun (x : Str) (z : x ∈ blts) => blt_of Y G c z
  refine ⟨fun cdv A out s H E hrg => ?_⟩
  have hr := hrg.r
  have hu64 := hr.units
  have hu65 : (A.deeper (envOfC "_law_take" (defScope s__law_take) s.heap.objs.size f cdv)).units + 65 < cLine := by have := hr.un; omega
  exact (s_cons (s_if (q_peek (t_gt (p_ix (p_any 0) p_int) p_int)) (s_cons (s_set 2 sc__law_take.nd (b_mod (p_peek (p_callT call_int1 rdc_int (by rfl) (bl "int" (by decide +kernel)) boot_int (a_cons (p_ix (p_any 0) p_int) a_nil))) (p_any 1)))
    (s_cons (s_owset 0 (b_div (p_peek (p_ix (p_any 0) p_int)) (p_any 1)))
    (s_one (s_ret (p_any 2))))) s_nil)
    (s_cons (s_owset 0 (b_add (p_peek (p_ix (p_any 0) p_int)) p_int))
    (s_cons (s_set 3 sc__law_take.nd (p_ix (p_lst (a_cons p_int (a_cons p_int (a_cons p_int (a_cons p_int (a_cons p_int a_nil)))))) (b_mod (p_peek (p_callT call_int1 rdc_int (by rfl) (bl "int" (by decide +kernel)) boot_int (a_cons (p_ix (p_any 0) p_int) a_nil))) p_int)))
    (s_cons (s_set 4 sc__law_take.nd (b_mod (p_callT call_int1 rdc_int (by rfl) (bl "int" (by decide +kernel)) boot_int (a_cons (b_pow (p_callT call_int1 rdc_int (by rfl) (bl "int" (by decide +kernel)) boot_int (a_cons (b_add (b_add (p_peek (p_ix (p_any 0) p_int)) (b_mul (b_mul p_int (p_peek (p_ix (p_any 0) p_int))) (p_peek (p_ix (p_any 0) p_int)))) p_int) a_nil)) p_int) a_nil)) (p_any 3)))
    (s_one (s_ret (b_mod (p_callT call_int1 rdc_int (by rfl) (bl "int" (by decide +kernel)) boot_int (a_cons (b_div (b_mul (p_any 4) (b_add (b_mod (p_callT call_int1 rdc_int (by rfl) (bl "int" (by decide +kernel)) boot_int (a_cons (p_any 4) a_nil)) p_int) (b_mul p_int (p_peek (p_ix (p_any 0) p_int))))) p_int) a_nil)) (p_any 1))))))))
theorem q__law_take (Y : K.In h) (G : h.Ns mainGlobals mg) (c : Says w h K) (base : Heap) : FnN P w K mg base "_law_take" 1 (spW ⟨K, cA K⟩ (runW F__law_take 2 3)) := by
  obtain ⟨fd, FD⟩ := c.t.d.def_ 46
  exact ⟨⟨_, fd, ["_law_pot_here", "_law_upto"], glo_of Y G c (by decide +kernel), FD.kp, FunD.bindsN FD fun _ _ _ _ _ _ us hl => match us, hl with | [_, _], _ => rfl, fnGW FD sc__law_take (b__law_take Y G c base) rfl⟩⟩
noncomputable abbrev F__law_of : SS := (QX.F__law_of (QX.F__law_take 95381 173))
theorem sc__law_of : FnScope ["_law_pot_here", "_law_some_here"] ["_law_pot_here", "_law_some_here"] (defScope s__law_of) := ⟨rfl, rfl, rfl, by decide +kernel, rfl, by decide +kernel, by decide +kernel⟩
theorem b__law_of (Y : K.In h) (G : h.Ns mainGlobals mg) (c : Says w h K) (base : Heap) {f : Addr} : Bdy P w K mg base (cA K) ["_law_pot_here", "_law_some_here"] "_law_of" (defScope s__law_of) f (defBody s__law_of) (RoomG 1) F__law_of := by
  have bl := fun (x : Str) (z : x ∈ blts) => blt_of Y G c z
  refine ⟨fun cdv A out s H E hrg => ?_⟩
  have hr := hrg.r
  have hu64 := hr.units
  have hu65 : (A.deeper (envOfC "_law_of" (defScope s__law_of) s.heap.objs.size f cdv)).units + 65 < cLine := by have := hr.un; omega
  exact (s_one (s_ret (p_ix (p_any 1) (p_callW 0 (q__law_take Y G c base) (hrg.mono (show 1 ≤ 1 by decide)) (by rfl) (pass_c (takes_of rfl rfl rfl rfl)) (a_cons (p_callB call_lenX rdc_lenX (by rfl) (bl "len" (by decide +kernel)) PySem.boot_len (a_cons (p_any 1) a_nil)) a_nil)))))
theorem q__law_of (Y : K.In h) (G : h.Ns mainGlobals mg) (c : Says w h K) (base : Heap) : FnN P w K mg base "_law_of" 2 (spW ⟨K, cA K⟩ (runW F__law_of 2 0)) := by
  obtain ⟨fd, FD⟩ := c.t.d.def_ 47
  exact ⟨⟨_, fd, ["_law_pot_here", "_law_some_here"], glo_of Y G c (by decide +kernel), FD.kp, FunD.bindsN FD fun _ _ _ _ _ _ us hl => match us, hl with | [_, _], _ => rfl, fnGW FD sc__law_of (b__law_of Y G c base) rfl⟩⟩
end
end K15

set_option Elab.async false
set_option linter.all false
set_option maxRecDepth 100000
set_option maxHeartbeats 4000000
namespace K15
open PySem PySem.Spec PySem.W PySem.Calls PyProof.Rows L2 MX QX
section
variable {P : Program} {w : World} {K : PySem.W.Frag} {h : Heap} {mg : Str → Option Value}
noncomputable abbrev F__law_some : SS := (QX.F__law_some (QX.F__law_take 95381 173))
theorem sc__law_some : FnScope ["_law_pot_here", "_law_pool", "_law_amount", "_law_left", "_law_found", "_law_lap"] ["_law_pot_here", "_law_pool", "_law_amount"] (defScope s__law_some) := ⟨rfl, rfl, rfl, by decide +kernel, rfl, by decide +kernel, by decide +kernel⟩
theorem b__law_some (Y : K.In h) (G : h.Ns mainGlobals mg) (c : Says w h K) (base : Heap) {f : Addr} : Bdy P w K mg base (cA K) ["_law_pot_here", "_law_pool", "_law_amount", "_law_left", "_law_found", "_law_lap"] "_law_some" (defScope s__law_some) f (defBody s__law_some) (RoomG 1) F__law_some := by
  have bl := fun (x : Str) (z : x ∈ blts) => blt_of Y G c z
  refine ⟨fun cdv A out s H E hrg => ?_⟩
  have hr := hrg.r
  have hu64 := hr.units
  have hu65 : (A.deeper (envOfC "_law_some" (defScope s__law_some) s.heap.objs.size f cdv)).units + 65 < cLine := by have := hr.un; omega
  exact (s_cons (s_par 3 4 rfl sc__law_some.nd (xs_cons (x_list (cpos := ⟨0, 0, 0, 0⟩) (by rfl) (bl "list" (by decide +kernel)) boot_list (p_any 1)) (xs_cons (x_lst a_nil) xs_nil)))
    (s_cons (s_for (passes_of rfl) rfl (i_range1 (by rfl) (bl "range" (by decide +kernel)) (a_cons (p_any 2) a_nil) (by rfl) (sCons_len sNil_len)) (g_name 5 sc__law_some.nd) (s_one (s_expr (p_own 4 PySem.F.slot_list_append PySem.F.type_list_append mt_append row_append (p_own 3 PySem.F.slot_list_pop PySem.F.type_list_pop mt_popAt row_popAt (p_callW 0 (q__law_take Y G c base) (hrg.mono (show 1 ≤ 1 by decide)) (by rfl) (pass_c (takes_of rfl rfl rfl rfl)) (a_cons (p_peek (p_callB call_lenX rdc_lenX (by rfl) (bl "len" (by decide +kernel)) PySem.boot_len (a_cons (p_any 3) a_nil))) a_nil)))))))
    (s_one (s_ret (p_any 4)))))
theorem q__law_some (Y : K.In h) (G : h.Ns mainGlobals mg) (c : Says w h K) (base : Heap) : FnN P w K mg base "_law_some" 2 (spW ⟨K, cA K⟩ (runW F__law_some 3 3)) := by
  obtain ⟨fd, FD⟩ := c.t.d.def_ 48
  exact ⟨⟨_, fd, ["_law_pot_here", "_law_pool", "_law_amount"], glo_of Y G c (by decide +kernel), FD.kp, FunD.bindsN FD fun _ _ _ _ _ _ us hl => match us, hl with | [_, _, _], _ => rfl, fnGW FD sc__law_some (b__law_some Y G c base) rfl⟩⟩
noncomputable abbrev F__law_names : SS := (QX.F__law_names (QX.F__law_take 95381 173))
theorem sc__law_names : FnScope ["_law_pot_here", "_law_amount", "_law_pool"] ["_law_pot_here", "_law_amount"] (defScope s__law_names) := ⟨rfl, rfl, rfl, by decide +kernel, rfl, by decide +kernel, by decide +kernel⟩
theorem b__law_names (Y : K.In h) (G : h.Ns mainGlobals mg) (c : Says w h K) (base : Heap) {f : Addr} : Bdy P w K mg base (cA K) ["_law_pot_here", "_law_amount", "_law_pool"] "_law_names" (defScope s__law_names) f (defBody s__law_names) (RoomG 2) F__law_names := by
  have bl := fun (x : Str) (z : x ∈ blts) => blt_of Y G c z
  refine ⟨fun cdv A out s H E hrg => ?_⟩
  have hr := hrg.r
  have hu64 := hr.units
  have hu65 : (A.deeper (envOfC "_law_names" (defScope s__law_names) s.heap.objs.size f cdv)).units + 65 < cLine := by have := hr.un; omega
  exact (s_cons (s_set 2 sc__law_names.nd (p_lst (a_cons p_str (a_cons p_str (a_cons p_str (a_cons p_str (a_cons p_str (a_cons p_str (a_cons p_str (a_cons p_str (a_cons p_str (a_cons p_str (a_cons p_str (a_cons p_str (a_cons p_str (a_cons p_str a_nil))))))))))))))))
    (s_one (s_ret (p_callW 0 (q__law_some Y G c base) (hrg.mono (show 2 ≤ 2 by decide)) (by rfl) (pass_c (takes_of rfl rfl rfl rfl)) (a_cons (p_any 2) (a_cons (p_any 1) a_nil))))))
theorem q__law_names (Y : K.In h) (G : h.Ns mainGlobals mg) (c : Says w h K) (base : Heap) : FnN P w K mg base "_law_names" 3 (spW ⟨K, cA K⟩ (runW F__law_names 2 1)) := by
  obtain ⟨fd, FD⟩ := c.t.d.def_ 50
  exact ⟨⟨_, fd, ["_law_pot_here", "_law_amount"], glo_of Y G c (by decide +kernel), FD.kp, FunD.bindsN FD fun _ _ _ _ _ _ us hl => match us, hl with | [_, _], _ => rfl, fnGW FD sc__law_names (b__law_names Y G c base) rfl⟩⟩
noncomputable abbrev F__law_right : SS := (QX.F__law_right_8 (QX.F__law_take 95381 173))
theorem sc__law_right : FnScope ["_law_pot_here", "_law_a", "_law_b", "_law_c", "_law_page", "_law_row", "_law_room", "_law_pieces", "_law_piece", "_law_twos", "_law_tome", "_law_mine", "_law_its"] ["_law_pot_here"] (defScope s__law_right) := ⟨rfl, rfl, rfl, by decide +kernel, rfl, by decide +kernel, by decide +kernel⟩
theorem b__law_right (Y : K.In h) (G : h.Ns mainGlobals mg) (c : Says w h K) (base : Heap) {f : Addr} : Bdy P w K mg base (cA K) ["_law_pot_here", "_law_a", "_law_b", "_law_c", "_law_page", "_law_row", "_law_room", "_law_pieces", "_law_piece", "_law_twos", "_law_tome", "_law_mine", "_law_its"] "_law_right" (defScope s__law_right) f (defBody s__law_right) (RoomG 7) F__law_right := by
  have bl := fun (x : Str) (z : x ∈ blts) => blt_of Y G c z
  refine ⟨fun cdv A out s H E hrg => ?_⟩
  have hr := hrg.r
  have hu64 := hr.units
  have hu65 : (A.deeper (envOfC "_law_right" (defScope s__law_right) s.heap.objs.size f cdv)).units + 65 < cLine := by have := hr.un; omega
  exact (s_cons (s_asg (p_callW 0 (q__law_names Y G c base) (hrg.mono (show 3 ≤ 7 by decide)) (by rfl) (pass_c (takes_of rfl rfl rfl rfl)) (a_cons p_int a_nil)) (g_lst rfl (gs_cons (g_name 1 sc__law_right.nd) (gs_cons (g_name 2 sc__law_right.nd) (gs_cons (g_name 3 sc__law_right.nd) gs_nil)))))
    (s_cons (s_set 4 sc__law_right.nd (b_add (b_add (b_add (b_add (b_add (b_add (b_add (b_add (b_add (b_add (b_add (b_add (b_add p_str (p_any 1)) p_str) (p_any 2)) p_str) (p_any 3)) p_str) (p_any 1)) p_str) (p_any 2)) p_str) (p_any 3)) p_str) (p_any 2)))
    (s_cons (s_set 5 sc__law_right.nd (p_tup (a_cons (p_tup (a_cons (p_any 1) (a_cons p_str a_nil))) (a_cons (p_tup (a_cons (p_any 2) (a_cons p_str a_nil))) (a_cons (p_tup (a_cons (p_any 1) (a_cons p_str a_nil))) (a_cons (p_tup (a_cons (p_any 3) (a_cons p_str a_nil))) (a_cons (p_tup (a_cons (p_any 2) (a_cons p_str a_nil))) (a_cons (p_tup (a_cons (p_any 3) (a_cons p_str a_nil))) a_nil))))))))
    (s_cons (s_par 6 7 rfl sc__law_right.nd (xs_cons (x_va (p_mkHallK (mkr_Hall Y G c) (ok_Hall Y G c base) (hr.mono (show 6 ≤ 7 by decide)) (by rfl) (glo_of Y G c (by decide +kernel)) (kb_Hall_text Y G c) (pass_e (takes_of rfl rfl rfl rfl)) (p_any 4))) (xs_cons (x_va (p_lst (a_cons (p_tup (a_cons p_str (a_cons (p_any 1) (a_cons (p_any 2) a_nil)))) (a_cons (p_tup (a_cons p_str (a_cons (p_any 2) (a_cons (p_any 3) a_nil)))) (a_cons (p_tup (a_cons p_str (a_cons (p_tup (a_cons (p_any 1) (a_cons p_str a_nil))) (a_cons (p_tup (a_cons (p_any 3) (a_cons p_str a_nil))) a_nil)))) a_nil))))) xs_nil)))
    (s_cons (s_set 8 sc__law_right.nd (p_callW 0 (q__law_of Y G c base) (hrg.mono (show 2 ≤ 7 by decide)) (by rfl) (pass_c (takes_of rfl rfl rfl rfl)) (a_cons (b_add (p_any 7) (p_lst (a_cons (p_tup (a_cons p_str (a_cons (p_tup (a_cons (p_any 3) (a_cons p_str a_nil))) (a_cons (p_tup (a_cons (p_any 2) (a_cons p_str a_nil))) a_nil)))) a_nil))) a_nil)))
    (s_cons (s_put 9 sc__law_right.nd (x_lst (a_cons (p_tup (a_cons (p_any 6) (a_cons (p_mkHall (mkr_Hall Y G c) (ok_Hall Y G c base) (hr.mono (show 6 ≤ 7 by decide)) (by rfl) (glo_of Y G c (by decide +kernel)) (bi_Hall Y G c) (pass_e (takes_of rfl rfl rfl rfl)) (p_any 4)) a_nil))) (a_cons (p_tup (a_cons (p_methKw (π := [1, 0]) (kw_Hall_told_other_one Y G c base) (hr.mono (show 4 ≤ 7 by decide)) (pass_e (takes_of rfl rfl rfl rfl)) (p_any 6) (k_cons (p_any 2) (k_cons (p_any 1) k_nil)) (fun Γ Γ1 vs e => (sCons_len (sCons_len sNil_len)) Γ vs Γ1 e)) (a_cons (p_meth (q_Hall_told Y G c base) (hr.mono (show 4 ≤ 7 by decide)) (pass_e (takes_of rfl rfl rfl rfl)) (p_any 6) (a_cons (p_any 1) (a_cons (p_any 2) a_nil))) a_nil))) a_nil))))
    (s_cons (s_expr (p_own 9 PySem.F.slot_list_append PySem.F.type_list_append mt_append row_append (p_tup (a_cons (p_methKw (π := [0]) (kw_Hall_without_name Y G c base) (hr.mono (show 7 ≤ 7 by decide)) (pass_e (takes_of rfl rfl rfl rfl)) (p_any 6) (k_cons (p_any 1) k_nil) (fun Γ Γ1 vs e => (sCons_len sNil_len) Γ vs Γ1 e)) (a_cons (p_meth (q_Hall_without Y G c base) (hr.mono (show 7 ≤ 7 by decide)) (pass_e (takes_of rfl rfl rfl rfl)) (p_any 6) (a_cons (p_any 1) a_nil)) a_nil)))))
    (s_cons (s_expr (p_own 9 PySem.F.slot_list_append PySem.F.type_list_append mt_append row_append (p_tup (a_cons (p_callKw (π := [3, 2, 1, 0]) (kw_met_by_other_one_timeline_hall Y G c base) (hr.mono (show 5 ≤ 7 by decide)) (by rfl) (pass_c (takes_of rfl rfl rfl rfl)) (k_cons (p_any 2) (k_cons (p_any 1) (k_cons (p_any 5) (k_cons (p_any 6) k_nil)))) (fun Γ Γ1 vs e => (sCons_len (sCons_len (sCons_len (sCons_len sNil_len)))) Γ vs Γ1 e)) (a_cons (p_callQ (q_met_by Y G c base) (hr.mono (show 5 ≤ 7 by decide)) (by rfl) (pass_c (takes_of rfl rfl rfl rfl)) (a_cons (p_any 6) (a_cons (p_any 5) (a_cons (p_any 1) (a_cons (p_any 2) a_nil))))) a_nil)))))
    (s_cons (s_expr (p_own 9 PySem.F.slot_list_append PySem.F.type_list_append mt_append row_append (p_tup (a_cons (p_callKw (π := [2, 1, 0]) (kw_there_event_timeline_hall Y G c base) (hr.mono (show 5 ≤ 7 by decide)) (by rfl) (pass_c (takes_of rfl rfl rfl rfl)) (k_cons (p_tup (a_cons (p_any 1) (a_cons p_str a_nil))) (k_cons (p_any 5) (k_cons (p_any 6) k_nil))) (fun Γ Γ1 vs e => (sCons_len (sCons_len (sCons_len sNil_len))) Γ vs Γ1 e)) (a_cons (p_callQ (q_there Y G c base) (hr.mono (show 5 ≤ 7 by decide)) (by rfl) (pass_c (takes_of rfl rfl rfl rfl)) (a_cons (p_any 6) (a_cons (p_any 5) (a_cons (p_tup (a_cons (p_any 1) (a_cons p_str a_nil))) a_nil)))) a_nil)))))
    (s_cons (s_expr (p_own 9 PySem.F.slot_list_append PySem.F.type_list_append mt_append row_append (p_tup (a_cons (p_callKw (π := [1, 0]) (kw_order_of_timeline_hall Y G c base) (hr.mono (show 5 ≤ 7 by decide)) (by rfl) (pass_c (takes_of rfl rfl rfl rfl)) (k_cons (p_any 5) (k_cons (p_any 6) k_nil)) (fun Γ Γ1 vs e => (sCons_len (sCons_len sNil_len)) Γ vs Γ1 e)) (a_cons (p_callQ (q_order_of Y G c base) (hr.mono (show 5 ≤ 7 by decide)) (by rfl) (pass_c (takes_of rfl rfl rfl rfl)) (a_cons (p_any 6) (a_cons (p_any 5) a_nil))) a_nil)))))
    (s_cons (s_expr (p_own 9 PySem.F.slot_list_append PySem.F.type_list_append mt_append row_append (p_tup (a_cons (p_callKw (π := [1, 0]) (kw_turned_timeline_hall Y G c base) (hr.mono (show 5 ≤ 7 by decide)) (by rfl) (pass_c (takes_of rfl rfl rfl rfl)) (k_cons (p_any 5) (k_cons (p_any 6) k_nil)) (fun Γ Γ1 vs e => (sCons_len (sCons_len sNil_len)) Γ vs Γ1 e)) (a_cons (p_callQ (q_turned Y G c base) (hr.mono (show 5 ≤ 7 by decide)) (by rfl) (pass_c (takes_of rfl rfl rfl rfl)) (a_cons (p_any 6) (a_cons (p_any 5) a_nil))) a_nil)))))
    (s_cons (s_expr (p_own 9 PySem.F.slot_list_append PySem.F.type_list_append mt_append row_append (p_tup (a_cons (p_callKw (π := [2, 1, 0]) (kw_is_so_saying_timeline_hall Y G c base) (hr.mono (show 5 ≤ 7 by decide)) (by rfl) (pass_c (takes_of rfl rfl rfl rfl)) (k_cons (p_any 8) (k_cons (p_any 5) (k_cons (p_any 6) k_nil))) (fun Γ Γ1 vs e => (sCons_len (sCons_len (sCons_len sNil_len))) Γ vs Γ1 e)) (a_cons (p_callQ (q_is_so Y G c base) (hr.mono (show 5 ≤ 7 by decide)) (by rfl) (pass_c (takes_of rfl rfl rfl rfl)) (a_cons (p_any 6) (a_cons (p_any 5) (a_cons (p_any 8) a_nil)))) a_nil)))))
    (s_cons (s_expr (p_own 9 PySem.F.slot_list_append PySem.F.type_list_append mt_append row_append (p_tup (a_cons (p_callKw (π := [1, 0]) (kw_contrary_saying_hall Y G c base) (hr.mono (show 5 ≤ 7 by decide)) (by rfl) (pass_c (takes_of rfl rfl rfl rfl)) (k_cons (p_any 8) (k_cons (p_any 6) k_nil)) (fun Γ Γ1 vs e => (sCons_len (sCons_len sNil_len)) Γ vs Γ1 e)) (a_cons (p_callQ (q_contrary Y G c base) (hr.mono (show 5 ≤ 7 by decide)) (by rfl) (pass_c (takes_of rfl rfl rfl rfl)) (a_cons (p_any 6) (a_cons (p_any 8) a_nil))) a_nil)))))
    (s_cons (s_set 10 sc__law_right.nd (p_mkBookK (π := [1, 0]) (mkr_Book Y G c) (ok_Book Y G c base) (hr.mono (show 6 ≤ 7 by decide)) (by rfl) (glo_of Y G c (by decide +kernel)) (kb_Book_sayings_hall Y G c) (pass_e (takes_of rfl rfl rfl rfl)) (k_cons (p_tup (a_cons (p_any 8) a_nil)) (k_cons (p_any 6) k_nil)) (fun Γ Γ1 vs e => (sCons_len (sCons_len sNil_len)) Γ vs Γ1 e)))
    (s_cons (s_expr (p_own 9 PySem.F.slot_list_extend PySem.F.type_list_extend mt_extend row_extend (p_lst (a_cons (p_tup (a_cons (p_any 10) (a_cons (p_mkBook (mkr_Book Y G c) (ok_Book Y G c base) (hr.mono (show 6 ≤ 7 by decide)) (by rfl) (glo_of Y G c (by decide +kernel)) (bi_Book Y G c) (pass_e (takes_of rfl rfl rfl rfl)) (a_cons (p_any 6) (a_cons (p_tup (a_cons (p_any 8) a_nil)) a_nil))) a_nil))) (a_cons (p_tup (a_cons (p_methKw (π := [0]) (kw_Book_fits_timeline Y G c base) (hr.mono (show 6 ≤ 7 by decide)) (pass_e (takes_of rfl rfl rfl rfl)) (p_any 10) (k_cons (p_any 5) k_nil) (fun Γ Γ1 vs e => (sCons_len sNil_len) Γ vs Γ1 e)) (a_cons (p_meth (q_Book_fits Y G c base) (hr.mono (show 6 ≤ 7 by decide)) (pass_e (takes_of rfl rfl rfl rfl)) (p_any 10) (a_cons (p_any 5) a_nil)) a_nil))) a_nil)))))
    (s_cons (s_expr (p_own 9 PySem.F.slot_list_extend PySem.F.type_list_extend mt_extend row_extend (p_lst (a_cons (p_tup (a_cons (p_methKw (π := [0]) (kw_Book_broken_timeline Y G c base) (hr.mono (show 5 ≤ 7 by decide)) (pass_e (takes_of rfl rfl rfl rfl)) (p_any 10) (k_cons (p_any 5) k_nil) (fun Γ Γ1 vs e => (sCons_len sNil_len) Γ vs Γ1 e)) (a_cons (p_meth (q_Book_broken Y G c base) (hr.mono (show 5 ≤ 7 by decide)) (pass_e (takes_of rfl rfl rfl rfl)) (p_any 10) (a_cons (p_any 5) a_nil)) a_nil))) (a_cons (p_tup (a_cons (p_methKw (π := [0]) (kw_Book_without_number Y G c base) (hr.mono (show 7 ≤ 7 by decide)) (pass_e (takes_of rfl rfl rfl rfl)) (p_any 10) (k_cons p_int k_nil) (fun Γ Γ1 vs e => (sCons_len sNil_len) Γ vs Γ1 e)) (a_cons (p_mkBook1 (mkr_Book Y G c) (ok_Book Y G c base) (hr.mono (show 6 ≤ 7 by decide)) (by rfl) (glo_of Y G c (by decide +kernel)) (Classical.choose_spec (bi_Book0 Y G c)).2 (Classical.choose_spec (bi_Book0 Y G c)).1 (QX.emptyB_ok (empty_B c)) (pass_e (takes_of rfl rfl rfl rfl)) (a_cons (p_any 6) a_nil)) a_nil))) a_nil)))))
    (s_one (s_ret (p_callB (cr_all rfl) rdc_all (by rfl) (bl "all" (by decide +kernel)) boot_all (a_cons (p_lc (own := [("_law_mine", 11), ("_law_its", 12)]) rfl sc__law_right.nd (by decide) (i_seq (p_any 9)) (blkOk_by (N := ["_law_pot_here", "_law_a", "_law_b", "_law_c", "_law_page", "_law_row", "_law_room", "_law_pieces", "_law_piece", "_law_twos", "_law_tome", "_law_mine", "_law_its"]) (sc := defScope s__law_right) (by decide +kernel)) (fun _ _ _ _ _ => (g_tup rfl (gs_cons (g_name 11 sc__law_right.nd) (gs_cons (g_name 12 sc__law_right.nd) gs_nil)))) (fun _ _ _ _ _ => ts_none) (fun _ _ _ _ _ => (p_eqC2 ((q_Hall_eq Y G c base).mono (by decide)) ((q_Book_eq Y G c base).mono (by decide)) hu64 (hr.mono (show 4 ≤ 7 by decide)) (p_any 11) (p_any 12)))) a_nil))))))))))))))))))))
theorem q__law_right (Y : K.In h) (G : h.Ns mainGlobals mg) (c : Says w h K) (base : Heap) : FnN P w K mg base "_law_right" 8 (spW ⟨K, cA K⟩ (runW F__law_right 1 12)) := by
  obtain ⟨fd, FD⟩ := c.t.d.def_ 51
  exact ⟨⟨_, fd, ["_law_pot_here"], glo_of Y G c (by decide +kernel), FD.kp, FunD.bindsN FD fun _ _ _ _ _ _ us hl => match us, hl with | [_], _ => rfl, fnGW FD sc__law_right (b__law_right Y G c base) rfl⟩⟩
end
end K15

set_option Elab.async false
set_option linter.all false
set_option maxRecDepth 100000
set_option maxHeartbeats 4000000
namespace QX
open PySem PySem.Spec PySem.W PySem.Calls PyProof.Rows L2 MX
/-! ### how functions on trees go, step by step -/
section
variable {Γ Γ1 Γ2 Γ3 : En} {v w x y z : PV} {k : Nat} {fa fb fc : SE} {fs : SA} {vs : List PV} {g g' : PV → PV → Option PV} {b c : Bool} {f f' : SS} {r : Fl}
theorem any_va (h : Γ[k]? = some (.va v)) : sAny k Γ = .ok v Γ := by unfold sAny; rw [h]
theorem any_ow (h : Γ[k]? = some (.ow false v)) (h2 : Γ.set k (.va v) = Γ1) : sAny k Γ = .ok v Γ1 := by unfold sAny; rw [h, ← h2]
theorem c_ok : sC v Γ = .ok v Γ := rfl
theorem bin_ok (h1 : fa Γ = .ok x Γ1) (h2 : fb Γ1 = .ok y Γ2) (h3 : g x y = some z) : sBin g fa fb Γ = .ok z Γ2 := by unfold sBin; rw [h1]; show (fb Γ1).bind _ = _; rw [h2]; show ofO (g x y) Γ2 = _; rw [h3]; rfl
theorem and_t (h1 : fa Γ = .ok (.bl true) Γ1) (h2 : fb Γ1 = .ok y Γ2) : sAnd fa fb Γ = .ok y Γ2 := by unfold sAnd; rw [h1]; exact h2
theorem and_f (h1 : fa Γ = .ok (.bl false) Γ1) : sAnd fa fb Γ = .ok (.bl false) Γ1 := by unfold sAnd; rw [h1]; rfl
theorem and2 (h1 : fa Γ = .ok (.bl b) Γ1) (h2 : b = true → fb Γ1 = .ok (.bl c) Γ1) : sAnd fa fb Γ = .ok (.bl (b && c)) Γ1 := by
  cases b with
  | true => exact and_t h1 (h2 rfl)
  | false => exact and_f h1
theorem or2 (h1 : fa Γ = .ok (.bl b) Γ1) (h2 : b = false → fb Γ1 = .ok (.bl c) Γ1) : sOr fa fb Γ = .ok (.bl (b || c)) Γ1 := by
  cases b with
  | true => unfold sOr; rw [h1]; rfl
  | false => unfold sOr; rw [h1]; exact h2 rfl
theorem not_ok (h1 : fa Γ = .ok (.bl b) Γ1) : sNot fa Γ = .ok (.bl (!b)) Γ1 := by unfold sNot; rw [h1]; rfl
theorem if_t (h1 : fc Γ = .ok (.bl b) Γ1) (hb : b = true) (h2 : fa Γ1 = .ok y Γ2) : sIf fc fa fb Γ = .ok y Γ2 := by unfold sIf; rw [h1, hb]; exact h2
theorem if_f (h1 : fc Γ = .ok (.bl b) Γ1) (hb : b = false) (h2 : fb Γ1 = .ok y Γ2) : sIf fc fa fb Γ = .ok y Γ2 := by unfold sIf; rw [h1, hb]; exact h2
theorem nil_ok : sNil Γ = .ok [] Γ := rfl
theorem cons_ok (h1 : fa Γ = .ok x Γ1) (h2 : fs Γ1 = .ok vs Γ2) : sCons fa fs Γ = .ok (x :: vs) Γ2 := by unfold sCons; rw [h1]; show (fs Γ1).bind _ = _; rw [h2]; rfl
theorem tup_ok (h1 : fs Γ = .ok vs Γ1) (h2 : vs.length ≤ 1000000) : sTup fs Γ = .ok (.tup false vs) Γ1 := by unfold sTup; rw [h1]; exact if_pos h2
theorem lst_ok (h1 : fs Γ = .ok vs Γ1) (h2 : vs.length ≤ 1000000) : sLst fs Γ = .ok (.lst vs) Γ1 := by unfold sLst; rw [h1]; exact if_pos h2
theorem B_ok {g : List PV → Option PV} (h1 : fs Γ = .ok vs Γ1) (h2 : g vs = some z) : sB g fs Γ = .ok z Γ1 := by unfold sB; rw [h1]; show ofO (g vs) Γ1 = _; rw [h2]; rfl
theorem U_ok {g : PV → Option PV} (h1 : fa Γ = .ok x Γ1) (h2 : g x = some z) : sU g fa Γ = .ok z Γ1 := by unfold sU; rw [h1]; show ofO (g x) Γ1 = _; rw [h2]; rfl
theorem peek_ok (h1 : fa (lendA Γ) = .ok w Γ1) (h2 : atom w = true) : sPeek fa Γ = .ok w Γ := by unfold sPeek; rw [h1]; exact if_pos h2
theorem strM_ok {g : Str → PV → Option PV} {s : Str} (h1 : fa Γ = .ok (.str s) Γ1) (h2 : fb Γ1 = .ok y Γ2) (h3 : g s y = some z) : sStrM g fa fb Γ = .ok z Γ2 := by unfold sStrM; rw [h1]; show (fb Γ1).bind _ = _; rw [h2]; show ofO (g s y) Γ2 = _; rw [h3]; rfl
theorem tupM_ok {g : List PV → PV → Option PV} {s : List PV} (h1 : fa Γ = .ok (.tup true s) Γ1) (h2 : fb Γ1 = .ok y Γ2) (h3 : g s y = some z) : sTupM g fa fb Γ = .ok z Γ2 := by unfold sTupM; rw [h1]; show (fb Γ1).bind _ = _; rw [h2]; show ofO (g s y) Γ2 = _; rw [h3]; rfl
theorem chain_t (h1 : fa Γ = .ok x Γ1) (h2 : fb Γ1 = .ok y Γ2) (h3 : g x y = some (.bl b)) (h4 : fc Γ2 = .ok z Γ2) (h5 : g' y z = some (.bl c)) : sChain g g' fa fb fc Γ = .ok (.bl (b && c)) Γ2 := by
  unfold sChain
  rw [h1]
  show (fb Γ1).bind _ = _
  rw [h2]
  show (match g x y with | some (.bl true) => (fc Γ2).bind fun c Γ3 => ofO (g' y c) Γ3 | some (.bl false) => .ok (.bl false) Γ2 | _ => .no) = _
  rw [h3]
  cases b with
  | true => show (fc Γ2).bind _ = _; rw [h4]; show ofO (g' y z) Γ2 = _; rw [h5]; rfl
  | false => rfl
theorem call_ok {g : List PV → Ro} (h1 : fs Γ = .ok vs Γ1) (h2 : g vs = .ok z) : sCall g fs Γ = .ok z Γ1 := by unfold sCall; rw [h1]; show (match g vs with | .ok v => Rs.ok v Γ1 | .ex c v => .ex c v Γ1 | .no => .no) = _; rw [h2]
theorem callW_ok {g : PV → List PV → Rw} {io io' : Bool} {p p0 p' : PV} (h0 : Γ[k]? = some (.ow io' p0)) (h1 : fs Γ = .ok vs Γ1) (h2 : Γ1[k]? = some (.ow io p)) (h3 : g p vs = .ok z p') (h4 : Γ1.set k (.ow io p') = Γ2) : sCallW g k fs Γ = .ok z Γ2 := by
  unfold sCallW
  rw [h0]
  show (fs Γ).bind _ = _
  rw [h1]
  show (match Γ1[k]? with
    | some (.ow io pv) => match g pv vs with
      | .ok v p => Rs.ok v (Γ1.set k (.ow io p))
      | .ex c v p => .ex c v (Γ1.set k (.ow io p))
      | .no => .no
    | _ => .no) = _
  rw [h2]
  show (match g p vs with
      | .ok v p => Rs.ok v (Γ1.set k (.ow io p))
      | .ex c v p => .ex c v (Γ1.set k (.ow io p))
      | .no => .no) = _
  rw [h3, ← h4]
theorem own_ok {g : List PV → PV → Option (PV × List PV)} {io : Bool} {xs ys xs0 : List PV} {io' : Bool} (h0 : Γ[k]? = some (.ow io' (.lst xs0))) (h1 : fa Γ = .ok x Γ1) (h2 : Γ1[k]? = some (.ow io (.lst xs))) (h3 : g xs x = some (z, ys)) (h4 : Γ1.set k (.ow io (.lst ys)) = Γ2) : sOwn k fa g Γ = .ok z Γ2 := by
  unfold sOwn
  rw [h0]
  show (fa Γ).bind _ = _
  rw [h1]
  show (match Γ1[k]? with | some (.ow io (.lst xs)) => _ | _ => _) = _
  rw [h2]
  show (match g xs x with | some (res, ys) => _ | none => _) = _
  rw [h3, ← h4]
/-! slices -/
theorem none_ok : sNone Γ = .ok none Γ := rfl
theorem some_ok {i : Int} (h : fa Γ = .ok (.int i) Γ1) : sSome fa Γ = .ok (some i) Γ1 := by unfold sSome; rw [h]; rfl
theorem sl_ok {lo hi : SO} {l h : Option Int} (h1 : fa Γ = .ok x Γ1) (h2 : lo Γ1 = .ok l Γ2) (h3 : hi Γ2 = .ok h Γ3) (h4 : gSl x l h = some z) : sSl fa lo hi Γ = .ok z Γ3 := by
  unfold sSl
  rw [h1]
  show (lo Γ1).bind _ = _
  rw [h2]
  show (hi Γ2).bind _ = _
  rw [h3]
  show ofO (gSl x l h) Γ3 = _
  rw [h4]
  rfl
/-! statements -/
theorem seq_nx (h1 : f Γ = .nx Γ1) (h2 : f' Γ1 = r) : sSeq f f' Γ = r := by unfold sSeq; rw [h1]; exact h2
theorem seq_rt (h1 : f Γ = .rt v Γ1) : sSeq f f' Γ = .rt v Γ1 := by unfold sSeq; rw [h1]
theorem set_ok (h1 : fa Γ = .ok v Γ1) (h2 : okSet Γ1 k = true) (h3 : Γ1.set k (.va v) = Γ2) : sSet k fa Γ = .nx Γ2 := by unfold sSet; rw [h1]; show putV k v Γ1 = _; unfold putV; rw [if_pos h2, h3]
theorem ret_ok (h1 : fa Γ = .ok v Γ1) : sRet fa Γ = .rt v Γ1 := by unfold sRet; rw [h1]; rfl
theorem expr_ok (h1 : fa Γ = .ok v Γ1) : sExpr fa Γ = .nx Γ1 := by unfold sExpr; rw [h1]; rfl
theorem ifS_t (h1 : fc Γ = .ok (.bl b) Γ1) (hb : b = true) (h2 : f Γ1 = r) : sIfS fc f f' Γ = r := by unfold sIfS; rw [h1, hb]; exact h2
theorem ifS_f (h1 : fc Γ = .ok (.bl b) Γ1) (hb : b = false) (h2 : f' Γ1 = r) : sIfS fc f f' Γ = r := by unfold sIfS; rw [h1, hb]; exact h2
theorem owset_ok {i : Int} {j : Nat} {io : Bool} {xs : List PV} (h1 : fa Γ = .ok v Γ1) (h2 : Γ1[k]? = some (.ow io (.lst xs))) (h3 : ixN xs.length i = some j) (h4 : Γ1.set k (.ow io (.lst (xs.set j v))) = Γ2) : sOwSet k i fa Γ = .nx Γ2 := by
  unfold sOwSet
  rw [h1]
  show (match Γ1[k]? with
  | some (.ow io (.lst xs)) => match ixN xs.length i with
    | some j => Fl.nx (Γ1.set k (.ow io (.lst (xs.set j v))))
    | none => .no
  | _ => .no) = _
  rw [h2]
  show (match ixN xs.length i with
    | some j => Fl.nx (Γ1.set k (.ow io (.lst (xs.set j v))))
    | none => .no) = _
  rw [h3, ← h4]
theorem asg_ok {gt : SG} (h1 : fa Γ = .ok v Γ1) (h2 : gt v Γ1 = .nx Γ2) : sAsg fa gt Γ = .nx Γ2 := by unfold sAsg; rw [h1]; show (match gt v Γ1 with | .nx Γ2 => Fl.nx Γ2 | _ => .no) = _; rw [h2]
theorem par_ok {ks : List Nat} {fx : SXA} {us : List SV} (h1 : fx Γ = .ok us Γ1) (h2 : putL ks us Γ1 = .nx Γ2) : sPar ks fx Γ = .nx Γ2 := by unfold sPar; rw [h1]; show (match putL ks us Γ1 with | .nx Γ2 => Fl.nx Γ2 | _ => .no) = _; rw [h2]
theorem xnil_ok : xsNil Γ = .ok [] Γ := rfl
theorem xcons_ok {fx : SX} {fxs : SXA} {u : SV} {us : List SV} (h1 : fx Γ = .ok u Γ1) (h2 : okN u = true) (h3 : fxs Γ1 = .ok us Γ2) : xsCons fx fxs Γ = .ok (u :: us) Γ2 := by
  unfold xsCons
  rw [h1]
  show (if okN u = true then (fxs Γ1).bind fun vs Γ2 => Rs.ok (u :: vs) Γ2 else .no) = _
  rw [if_pos h2, h3]
  rfl
theorem xva_ok (h1 : fa Γ = .ok v Γ1) : xVa fa Γ = .ok (.va v) Γ1 := by unfold xVa; rw [h1]; rfl
theorem xnew_ok (h1 : fa Γ = .ok v Γ1) : xNew fa Γ = .ok (.ow false v) Γ1 := by unfold xNew; rw [h1]; rfl
theorem put_ok {fx : SX} {u : SV} (h1 : fx Γ = .ok u Γ1) (h2 : putX k u Γ1 = .nx Γ2) : sPut k fx Γ = .nx Γ2 := by unfold sPut; rw [h1]; exact h2
/-! what is gone through -/
theorem seqL_ok (h1 : fa Γ = .ok (.lst vs) Γ1) : iSeq fa Γ = .ok vs Γ1 := by unfold iSeq; rw [h1]; rfl
theorem seqT_ok {t : Bool} (h1 : fa Γ = .ok (.tup t vs) Γ1) : iSeq fa Γ = .ok vs Γ1 := by unfold iSeq; rw [h1]; rfl
theorem enuT_ok {t : Bool} (h1 : fa Γ = .ok (.tup t vs) Γ1) : iEnu fa Γ = .ok (enumP 0 vs) Γ1 := by unfold iEnu; rw [h1]; rfl
theorem range1_ok {j : Int} (h1 : fs Γ = .ok [.int j] Γ1) (h2 : 0 ≤ j ∧ j ≤ 1000000) : iRange fs Γ = .ok (upto 0 j.toNat) Γ1 := by
  unfold iRange
  rw [h1]
  exact if_pos ⟨by omega, by omega⟩
theorem for_ok {it : SIt} {gt : SG} (h1 : it Γ = .ok vs Γ1) (h2 : sForL gt f vs Γ1 = r) : sFor it gt f Γ = r := by unfold sFor; rw [h1]; exact h2
theorem forL_inv {gt : SG} (I : Nat → En → Prop) : ∀ {ys : List PV} {n : Nat} {Γ : En}, I n Γ → (∀ i y Γ, ys[i]? = some y → I (n + i) Γ → ∃ Γ1 Γ2, gt y Γ = .nx Γ1 ∧ (f Γ1 = .nx Γ2 ∨ f Γ1 = .ct Γ2) ∧ I (n + i + 1) Γ2) → ∃ Γ', sForL gt f ys Γ = .nx Γ' ∧ I (n + ys.length) Γ'
  | [], n, Γ, h, _ => ⟨Γ, rfl, h⟩
  | y :: ys, n, Γ, h, st => by
    obtain ⟨Γ1, Γ2, e1, e2, h2⟩ := st 0 y Γ rfl h
    obtain ⟨Γ', e3, h3⟩ := forL_inv (ys := ys) (n := n + 1) (Γ := Γ2) I h2 fun i y Γ hi hI => by
      have z := st (i + 1) y Γ (by simpa using hi) (by rw [show n + (i + 1) = n + 1 + i by omega]; exact hI)
      rw [show n + (i + 1) + 1 = n + 1 + i + 1 by omega] at z
      exact z
    refine ⟨Γ', ?_, by rw [List.length_cons, show n + (ys.length + 1) = n + 1 + ys.length by omega]; exact h3⟩
    unfold sForL
    rw [e1]
    show (match f Γ1 with
      | .nx Γ2 => sForL gt f ys Γ2
      | .ct Γ2 => sForL gt f ys Γ2
      | .bk Γ2 => .nx Γ2
      | .rt v Γ2 => .rt v Γ2
      | .ex c v Γ2 => .ex c v Γ2
      | .no => .no) = _
    rcases e2 with e2 | e2 <;> (rw [e2]; exact e3)
/-- a comprehension that changes nothing beside -/
theorem lcL_map {vs : List Nat} {gt : SG} {t e : SE} {Γw : En} (φ : PV → Option PV) : ∀ {ys : List PV}, (∀ y ∈ ys, ∃ Γ1 Γ2, gt y (wipeE vs Γw) = .nx Γ1 ∧ ((∃ w Γ3, t Γ1 = .ok (.bl true) Γ2 ∧ e Γ2 = .ok w Γ3 ∧ wipeE vs Γ3 = Γw ∧ φ y = some w) ∨ (t Γ1 = .ok (.bl false) Γ2 ∧ wipeE vs Γ2 = Γw ∧ φ y = none))) → lcL vs gt t e ys Γw = .ok (ys.filterMap φ) Γw
  | [], _ => rfl
  | y :: ys, h => by
    obtain ⟨Γ1, Γ2, e1, hh⟩ := h y List.mem_cons_self
    have ih := lcL_map φ fun y hy => h y (List.mem_cons_of_mem _ hy)
    unfold lcL
    rw [e1]
    rcases hh with ⟨w, Γ3, e2, e3, e4, e5⟩ | ⟨e2, e3, e4⟩
    · rw [List.filterMap_cons_some e5]
      show (match t Γ1 with
      | .ok (.bl true) Γ2 => match e Γ2 with
        | .ok w Γ3 => match lcL vs gt t e ys (wipeE vs Γ3) with
          | .ok ws Γ4 => Rs.ok (w :: ws) Γ4
          | _ => .no
        | _ => .no
      | .ok (.bl false) Γ2 => lcL vs gt t e ys (wipeE vs Γ2)
      | _ => .no) = _
      rw [e2]
      show (match e Γ2 with
        | .ok w Γ3 => match lcL vs gt t e ys (wipeE vs Γ3) with
          | .ok ws Γ4 => Rs.ok (w :: ws) Γ4
          | _ => .no
        | _ => .no) = _
      rw [e3]
      show (match lcL vs gt t e ys (wipeE vs Γ3) with
          | .ok ws Γ4 => Rs.ok (w :: ws) Γ4
          | _ => .no) = _
      rw [e4, ih]
    · rw [List.filterMap_cons_none e4]
      show (match t Γ1 with
      | .ok (.bl true) Γ2 => match e Γ2 with
        | .ok w Γ3 => match lcL vs gt t e ys (wipeE vs Γ3) with
          | .ok ws Γ4 => Rs.ok (w :: ws) Γ4
          | _ => .no
        | _ => .no
      | .ok (.bl false) Γ2 => lcL vs gt t e ys (wipeE vs Γ2)
      | _ => .no) = _
      rw [e2]
      show lcL vs gt t e ys (wipeE vs Γ2) = _
      rw [e3, ih]
theorem lc_ok {vs : List Nat} {it : SIt} {gt : SG} {t e : SE} {ys ws : List PV} (h1 : it Γ = .ok ys Γ1) (h2 : okW vs Γ1 = true) (h3 : lcL vs gt t e ys (wipeE vs Γ1) = .ok ws Γ2) (h4 : ws.length ≤ 1000000) (h5 : rest vs Γ1 Γ2 = Γ3) : sLc vs it gt t e Γ = .ok (.lst ws) Γ3 := by
  unfold sLc
  rw [h1]
  show (if okW vs Γ1 = true then (match lcL vs gt t e ys (wipeE vs Γ1) with
    | .ok ws Γ2 => if ws.length ≤ 1000000 then Rs.ok (PV.lst ws) (rest vs Γ1 Γ2) else .no
    | _ => .no) else .no) = _
  rw [if_pos h2, h3]
  show (if ws.length ≤ 1000000 then Rs.ok (PV.lst ws) (rest vs Γ1 Γ2) else .no) = _
  rw [if_pos h4, h5]
theorem lcL_pure {vs : List Nat} {gt : SG} {t e : SE} {Γw : En} (φ : PV → PV) {ys : List PV} (h : ∀ y ∈ ys, ∃ Γ1, gt y (wipeE vs Γw) = .nx Γ1 ∧ t Γ1 = .ok (.bl true) Γ1 ∧ e Γ1 = .ok (φ y) Γ1 ∧ wipeE vs Γ1 = Γw) : lcL vs gt t e ys Γw = .ok (ys.map φ) Γw := by
  have z := lcL_map (vs := vs) (gt := gt) (t := t) (e := e) (Γw := Γw) (fun y => some (φ y)) (ys := ys) fun y hy => by
    obtain ⟨Γ1, e1, e2, e3, e4⟩ := h y hy
    exact ⟨Γ1, Γ1, e1, .inl ⟨_, Γ1, e2, e3, e4, rfl⟩⟩
  rw [z]
  congr 1
  rw [List.filterMap_eq_map']
theorem le6 {n : Nat} (h : Nat.ble n 1000000 = true := by rfl) : n ≤ 1000000 := Nat.le_of_ble_eq_true h
theorem runV_ok {F : SS} {np n : Nat} {as : List PV} (hl : as.length = np) (h : F (begV n as) = .rt v Γ1) : runV F np n as = .ok v := by unfold runV; rw [if_pos hl, h]
theorem runV_nx {F : SS} {np n : Nat} {as : List PV} (hl : as.length = np) (h : F (begV n as) = .nx Γ1) : runV F np n as = .ok .non := by unfold runV; rw [if_pos hl, h]
theorem runW_ok {F : SS} {np n : Nat} {p p' : PV} {as : List PV} (hl : as.length + 1 = np) (h : F (begW n p as) = .rt v Γ1) (h2 : at0 Γ1 = some p') : runW F np n p as = .ok v p' := by
  unfold runW
  rw [if_pos hl, h]
  show (match at0 Γ1 with | some p => Rw.ok v p | none => .no) = _
  rw [h2]
end
end QX
local macro_rules | `(tactic| walk_at "ev1") => `(tactic| first
  | with_reducible exact QX.c_ok
  | with_reducible exact QX.nil_ok
  | with_reducible exact QX.none_ok
  | with_reducible exact QX.xnil_ok
  | (with_reducible refine QX.any_va ?_; rfl)
  | (with_reducible refine QX.any_ow ?_ ?_ <;> rfl)
  | with_reducible refine QX.bin_ok ?_ ?_ ?_
  | with_reducible refine QX.cons_ok ?_ ?_
  | with_reducible refine QX.tup_ok ?_ ?_
  | with_reducible refine QX.lst_ok ?_ ?_
  | with_reducible refine QX.B_ok ?_ ?_
  | with_reducible refine QX.U_ok ?_ ?_
  | with_reducible refine QX.peek_ok ?_ ?_
  | with_reducible refine QX.not_ok ?_
  | with_reducible refine QX.strM_ok ?_ ?_ ?_
  | with_reducible refine QX.tupM_ok ?_ ?_ ?_
  | with_reducible refine QX.chain_t ?_ ?_ ?_ ?_ ?_
  | with_reducible refine QX.call_ok ?_ ?_
  | with_reducible refine QX.callW_ok ?_ ?_ ?_ ?_ ?_
  | with_reducible refine QX.own_ok ?_ ?_ ?_ ?_ ?_
  | with_reducible refine QX.sl_ok ?_ ?_ ?_ ?_
  | with_reducible refine QX.some_ok ?_
  | with_reducible refine QX.seq_nx ?_ ?_
  | with_reducible refine QX.set_ok ?_ ?_ ?_
  | with_reducible refine QX.ret_ok ?_
  | with_reducible refine QX.expr_ok ?_
  | with_reducible refine QX.owset_ok ?_ ?_ ?_ ?_
  | with_reducible refine QX.asg_ok ?_ ?_
  | with_reducible refine QX.par_ok ?_ ?_
  | with_reducible refine QX.xcons_ok ?_ ?_ ?_
  | with_reducible refine QX.xva_ok ?_
  | with_reducible refine QX.xnew_ok ?_
  | with_reducible refine QX.put_ok ?_ ?_
  | rfl
  | exact Nat.le_of_ble_eq_true rfl)
local macro_rules | `(tactic| walk_at "ev") => `(tactic| repeat' walk_at "ev1")
namespace QX
open PySem PySem.Spec PySem.W PySem.Calls PyProof.Rows L2 MX
/-- a pot, of which no more than N were taken by numbers -/
def Pot (N : Nat) (p : PV) : Prop := ∃ a s c : Int, p = .lst [.int a, .int s, .int c] ∧ 0 ≤ a ∧ 0 ≤ s ∧ s < 2305843009213693951 ∧ 0 ≤ c ∧ c ≤ N
def TakeOk (tk : SS) : Prop := ∀ (N : Nat) (p : PV) (n : Int), Pot N p → N ≤ 1000000 → 0 < n → n ≤ 1000000 → ∃ d p', runW tk 2 3 p [.int n] = .ok (.int d) p' ∧ 0 ≤ d ∧ d < n ∧ Pot (N + 1) p'
theorem gMod_ok {i j : Int} (h : 0 < j) : gMod (.int i) (.int j) = some (.int (i % j)) := by
  show (if decide (0 < j) = true then some (PV.int (i % j)) else none) = _
  rw [if_pos (decide_eq_true h)]
theorem gDiv_ok {i j : Int} (h : 0 < j) (h2 : j ≤ 1000000) : gDiv (.int i) (.int j) = some (.int (i / j)) := by
  have z : j.natAbs.log2 < 20 := by
    rw [Nat.log2_lt (by omega)]
    omega
  show (if decide (0 < j ∧ j.natAbs.log2 < 9000) = true then some (PV.int (i / j)) else none) = _
  rw [if_pos (decide_eq_true ⟨h, by omega⟩)]
theorem gMul_ok {i j : Int} (h : i.natAbs < 2 ^ 300) (h2 : j.natAbs < 2 ^ 300) : gMul (.int i) (.int j) = some (.int (i * j)) := by
  show (if i.natAbs.log2 + j.natAbs.log2 < 1000000 then some (PV.int (i * j)) else none) = _
  have l : ∀ {n : Nat}, n < 2 ^ 300 → n.log2 ≤ 300 := fun {n} h => by
    by_cases c : n = 0
    · rw [c]; decide
    · exact Nat.le_of_lt ((Nat.log2_lt c).mpr h)
  have := l h
  have := l h2
  rw [if_pos (by omega)]
end QX

set_option Elab.async false
set_option linter.all false
set_option maxRecDepth 100000
set_option maxHeartbeats 4000000
namespace QX
open PySem PySem.Spec PySem.W PySem.Calls PyProof.Rows L2 MX
theorem pow_lt3 {x : Int} (h0 : 0 ≤ x) (h : x < 2 ^ 80) : Builtin.Int.intBits x ≤ 100 := by
  have l : x.natAbs.log2 ≤ 80 := by
    by_cases c : x.natAbs = 0
    · rw [c]; decide
    · exact Nat.le_of_lt ((Nat.log2_lt c).mpr (by omega))
  unfold Builtin.Int.intBits
  first
  | omega
  | (split <;> omega)
theorem gPow3_ok {x : Int} (h0 : 0 ≤ x) (h : x < 2 ^ 80) : gPow (.int x) (.int 3) = some (.int (x ^ 3)) := by
  have z := pow_lt3 h0 h
  show (if decide ((0 : Int) ≤ 3 ∧ (Builtin.Int.intBits x : Int) * 3 ≤ 2 ^ 27) = true then some (PV.int (x ^ (3 : Int).toNat)) else none) = _
  rw [if_pos (decide_eq_true ⟨by omega, by omega⟩)]
  rfl
theorem take_ok (sq ad : Int) (h1 : 0 ≤ sq ∧ sq ≤ 1000000) (h2 : 0 ≤ ad ∧ ad ≤ 1000000) : TakeOk (F__law_take sq ad) := by
  intro N p n ⟨a, s, c, e, ha, hs, hs2, hc, hcN⟩ hN hn hn2
  subst e
  by_cases h : 0 < a
  · refine ⟨a % n, .lst [.int (a / n), .int s, .int c], runW_ok (Γ1 := [.ow true (.lst [.int (a / n), .int s, .int c]), .va (.int n), .va (.int (a % n)), .un, .un]) rfl ?_ rfl, Int.emod_nonneg _ (by omega), Int.emod_lt_of_pos _ hn, a / n, s, c, rfl, Int.ediv_nonneg ha (by omega), hs, hs2, hc, by omega⟩
    show F__law_take sq ad [.ow true (.lst [.int a, .int s, .int c]), .va (.int n), .un, .un, .un] = _
    unfold F__law_take
    refine seq_rt (ifS_t (b := decide (0 < a)) (by walk_at "ev") (decide_eq_true h) ?_)
    refine seq_nx (set_ok (bin_ok (by walk_at "ev") (by walk_at "ev") (gMod_ok hn)) rfl rfl) (seq_nx (owset_ok (bin_ok (by walk_at "ev") (by walk_at "ev") (gDiv_ok hn hn2)) rfl rfl rfl) (by walk_at "ev"))
  · obtain ⟨pr, hpr, hpr2, hpr3⟩ : ∃ pr : Int, ([.int 2147483647, .int 2147483629, .int 2147483587, .int 2147483579, .int 2147483563] : List PV)[((c + 1) % 5).toNat]? = some (.int pr) ∧ 0 < pr ∧ pr ≤ 2147483647 := by
      have : (c + 1) % 5 = 0 ∨ (c + 1) % 5 = 1 ∨ (c + 1) % 5 = 2 ∨ (c + 1) % 5 = 3 ∨ (c + 1) % 5 = 4 := by omega
      rcases this with z | z | z | z | z <;> rw [z] <;> exact ⟨_, rfl, by decide, by decide⟩
    have hix : gIx (.lst [.int 2147483647, .int 2147483629, .int 2147483587, .int 2147483579, .int 2147483563]) (.int ((c + 1) % 5)) = some (.int pr) := by
      have : (c + 1) % 5 = 0 ∨ (c + 1) % 5 = 1 ∨ (c + 1) % 5 = 2 ∨ (c + 1) % 5 = 3 ∨ (c + 1) % 5 = 4 := by omega
      rcases this with z | z | z | z | z <;> (rw [z] at hpr ⊢; exact hpr)
    have hsq : 0 ≤ sq * (c + 1) ∧ sq * (c + 1) ≤ 1000000 * 1000001 := ⟨Int.mul_nonneg h1.1 (by omega), Int.mul_le_mul h1.2 (by omega) (by omega) (by omega)⟩
    have hsq2 : 0 ≤ sq * (c + 1) * (c + 1) ∧ sq * (c + 1) * (c + 1) ≤ 1000000 * 1000001 * 1000001 := ⟨Int.mul_nonneg hsq.1 (by omega), Int.mul_le_mul hsq.2 (by omega) (by omega) (by omega)⟩
    have hx0 : 0 ≤ s + sq * (c + 1) * (c + 1) + ad := by omega
    have hx1 : s + sq * (c + 1) * (c + 1) + ad < 2 ^ 80 := by omega
    obtain ⟨bl, hbl⟩ : ∃ bl, bl = (s + sq * (c + 1) * (c + 1) + ad) ^ 3 % pr := ⟨_, rfl⟩
    have hb0 : 0 ≤ bl := by rw [hbl]; exact Int.emod_nonneg _ (by omega)
    have hb1 : bl < pr := by rw [hbl]; exact Int.emod_lt_of_pos _ hpr2
    have hm0 : 0 ≤ bl % 10039 := Int.emod_nonneg _ (by omega)
    have hm1 : bl % 10039 < 10039 := Int.emod_lt_of_pos _ (by omega)
    refine ⟨bl * (bl % 10039 + 91 * (c + 1)) / 131 % n, .lst [.int a, .int s, .int (c + 1)], runW_ok (Γ1 := [.ow true (.lst [.int a, .int s, .int (c + 1)]), .va (.int n), .un, .va (.int pr), .va (.int bl)]) rfl ?_ rfl, Int.emod_nonneg _ (by omega), Int.emod_lt_of_pos _ hn, a, s, c + 1, rfl, ha, hs, hs2, by omega, by omega⟩
    show F__law_take sq ad [.ow true (.lst [.int a, .int s, .int c]), .va (.int n), .un, .un, .un] = _
    unfold F__law_take
    refine seq_nx (ifS_f (b := decide (0 < a)) (by walk_at "ev") (decide_eq_false h) rfl) (seq_nx (owset_ok (by walk_at "ev") rfl rfl rfl) ?_)
    refine seq_nx (set_ok (bin_ok (by walk_at "ev") (bin_ok (by walk_at "ev") (by walk_at "ev") (gMod_ok (by omega))) hix) rfl rfl) (seq_nx (set_ok (v := .int bl) (Γ1 := [.ow true (.lst [.int a, .int s, .int (c + 1)]), .va (.int n), .un, .va (.int pr), .un]) ?_ rfl rfl) ?_)
    · refine bin_ok (B_ok (cons_ok (bin_ok (B_ok (cons_ok (bin_ok (bin_ok (by walk_at "ev") (bin_ok (bin_ok (by walk_at "ev") (by walk_at "ev") (gMul_ok (by omega) (by omega))) (by walk_at "ev") (gMul_ok (by omega) (by omega))) rfl) (by walk_at "ev") rfl) nil_ok) rfl) (by walk_at "ev") (gPow3_ok hx0 hx1)) nil_ok) rfl) (by walk_at "ev") ?_
      rw [hbl]
      exact gMod_ok hpr2
    · refine ret_ok (bin_ok (B_ok (cons_ok (bin_ok (bin_ok (by walk_at "ev") (bin_ok (bin_ok (by walk_at "ev") (by walk_at "ev") (gMod_ok (by omega))) (bin_ok (by walk_at "ev") (by walk_at "ev") (gMul_ok (by omega) (by omega))) rfl) (gMul_ok (by omega) (by omega))) (by walk_at "ev") (gDiv_ok (by omega) (by omega))) nil_ok) rfl) (by walk_at "ev") (gMod_ok hn))
end QX

set_option Elab.async false
set_option linter.all false
set_option maxRecDepth 100000
set_option maxHeartbeats 4000000
namespace QX
open PySem PySem.Spec PySem.W PySem.Calls PyProof.Rows L2 MX
theorem Pot.le {M N : Nat} {p : PV} (h : Pot M p) (l : M ≤ N) : Pot N p := by
  obtain ⟨a, s, c, e, h1, h2, h3, h4, h5⟩ := h
  exact ⟨a, s, c, e, h1, h2, h3, h4, by omega⟩
theorem Pot.lst {N : Nat} {p : PV} (h : Pot N p) : ∃ xs, p = .lst xs := by
  obtain ⟨a, s, c, e, _⟩ := h
  exact ⟨_, e⟩
theorem atI_nn {α : Type} {xs : List α} {d : Int} (h0 : 0 ≤ d) (h1 : d < xs.length) : ∃ x, xs[d.toNat]? = some x ∧ atI xs d = some x := by
  obtain ⟨k, rfl⟩ : ∃ k : Nat, d = (k : Int) := ⟨d.toNat, by omega⟩
  have l : k < xs.length := by omega
  exact ⟨xs[k], List.getElem?_eq_getElem (by omega), atI_nat (List.getElem?_eq_getElem l)⟩
theorem of_ok {tk : SS} (T : TakeOk tk) {N : Nat} {p : PV} {xs : List PV} (hp : Pot N p) (hN : N ≤ 1000000) (h0 : 0 < xs.length) (h1 : xs.length ≤ 1000000) :
    ∃ (i : Nat) (x p' : PV), runW (F__law_of tk) 2 0 p [.lst xs] = .ok x p' ∧ xs[i]? = some x ∧ Pot (N + 1) p' := by
  obtain ⟨d, p', e, d0, d1, hp'⟩ := T N p (xs.length : Nat) hp hN (by omega) (by omega)
  obtain ⟨x, hx, ha⟩ := atI_nn (xs := xs) d0 d1
  refine ⟨d.toNat, x, p', runW_ok (Γ1 := [.ow true p', .va (.lst xs)]) rfl ?_ rfl, hx, hp'⟩
  show F__law_of tk [.ow true p, .va (.lst xs)] = _
  unfold F__law_of
  exact ret_ok (bin_ok (x := .lst xs) (by walk_at "ev") (callW_ok (p := p) rfl (by walk_at "ev") rfl e rfl) (show gIx (.lst xs) (.int d) = some x from ha))
/-- some of a pool -/
theorem popAt_ok {xs : List PV} {d : Int} {x : PV} (h0 : 0 ≤ d) (h1 : d < xs.length) (hl : xs.length ≤ 1000000) (hx : xs[d.toNat]? = some x) : gPopAt xs (.int d) = some (x, xs.eraseIdx d.toNat) := by
  have e : seqIndex? d xs.length = some d.toNat := by
    unfold seqIndex?
    simp only
    split
    · omega
    · rw [if_pos (by simp [h0, h1])]
  show (if -9000000000000000000 ≤ d ∧ d < 9000000000000000000 then (match seqIndex? d xs.length with
    | some k => match xs[k]? with
      | some y => some (y, xs.eraseIdx k)
      | none => none
    | none => none) else none) = _
  rw [if_pos ⟨by omega, by omega⟩, e]
  show (match xs[d.toNat]? with | some y => some (y, xs.eraseIdx d.toNat) | none => none) = _
  rw [hx]
theorem erase_perm {α : Type} {x : α} : ∀ {xs : List α} {k : Nat}, xs[k]? = some x → (x :: xs.eraseIdx k).Perm xs
  | y :: r, 0, h => by cases h; exact List.Perm.refl _
  | y :: r, j + 1, h => (List.Perm.swap _ _ _).trans (List.Perm.cons y (erase_perm (xs := r) (k := j) (by simpa using h)))
theorem append_ok {xs : List PV} {x : PV} (h : xs.length < 1000000) : gAppend xs x = some (.non, xs ++ [x]) := by
  unfold gAppend
  rw [if_pos h]
theorem some_ok' {tk : SS} (T : TakeOk tk) {N : Nat} {p pool : PV} {xs : List PV} {m : Nat} (hp : Pot N p) (hN : N + m ≤ 1000000) (hg : gList [pool] = some (.lst xs)) (h1 : xs.length ≤ 100000) (hm : m ≤ xs.length) :
    ∃ ys p', runW (F__law_some tk) 3 3 p [pool, .int (m : Nat)] = .ok (.lst ys) p' ∧ ys.length = m ∧ (∃ zs, (ys ++ zs).Perm xs) ∧ Pot (N + m) p' := by
  obtain ⟨Γ', e, ⟨p', ys, zs, t, eΓ, hp', hl, hP⟩⟩ := forL_inv (f := sExpr (sAppend 4 (sPopAt 3 (sCallW (runW tk 2 3) 0 (sCons (sPeek (sB gLenX (sCons (sAny 3) sNil))) sNil))))) (gt := gV 5)
    (fun i Γ => ∃ p' ys zs t, Γ = [.ow true p', .va pool, .va (.int (m : Nat)), .ow false (.lst zs), .ow false (.lst ys), t] ∧ Pot (N + i) p' ∧ ys.length = i ∧ (ys ++ zs).Perm xs ∧ (t = .un ∨ ∃ v, t = .va v))
    (ys := upto 0 ((m : Nat) : Int).toNat) (n := 0) (Γ := [.ow true p, .va pool, .va (.int (m : Nat)), .ow false (.lst xs), .ow false (.lst []), .un])
    ⟨p, [], xs, .un, rfl, hp, rfl, List.Perm.refl _, .inl rfl⟩ (fun i y Γ hy ⟨p1, ys, zs, t, eΓ, hp1, hl, hP, ht⟩ => by
      subst eΓ
      have him : i < m := by
        have := (List.getElem?_eq_some_iff.mp hy).1
        rw [upto_len] at this
        omega
      have hlen := hP.length_eq
      rw [List.length_append] at hlen
      have hz : 0 < zs.length := by omega
      obtain ⟨d, p2, e, d0, d1, hp2⟩ := T (N + (0 + i)) p1 (zs.length : Nat) hp1 (by omega) (by omega) (by omega)
      have hx : zs[d.toNat]? = some zs[d.toNat] := List.getElem?_eq_getElem (by omega)
      refine ⟨[.ow true p1, .va pool, .va (.int (m : Nat)), .ow false (.lst zs), .ow false (.lst ys), .va y], [.ow true p2, .va pool, .va (.int (m : Nat)), .ow false (.lst (zs.eraseIdx d.toNat)), .ow false (.lst (ys ++ [zs[d.toNat]])), .va y], ?_, .inl ?_, p2, ys ++ [zs[d.toNat]], zs.eraseIdx d.toNat, .va y, rfl, by rw [show N + (0 + i + 1) = N + (0 + i) + 1 by omega]; exact hp2, by simp [hl], ?_, .inr ⟨y, rfl⟩⟩
      · rcases ht with rfl | ⟨v, rfl⟩ <;> rfl
      · refine expr_ok (own_ok rfl (own_ok rfl (callW_ok (p := p1) rfl (cons_ok (peek_ok (B_ok (by walk_at "ev") rfl) rfl) nil_ok) rfl e rfl) rfl (popAt_ok d0 (by omega) (by omega) hx) rfl) rfl (append_ok (by omega)) rfl)
      · rw [List.append_assoc]
        exact (List.Perm.append_left ys (erase_perm hx)).trans hP)
  rw [upto_len] at hp' hl
  have em : ((m : Nat) : Int).toNat = m := by omega
  rw [em] at hp' hl
  refine ⟨ys, p', runW_ok (Γ1 := [.ow true p', .va pool, .va (.int (m : Nat)), .ow false (.lst zs), .va (.lst ys), t]) rfl ?_ rfl, by omega, ⟨zs, hP.1⟩, by rw [show N + m = N + (0 + m) by omega]; exact hp'⟩
  show F__law_some tk [.ow true p, .va pool, .va (.int (m : Nat)), .un, .un, .un] = _
  unfold F__law_some
  refine seq_nx (par_ok (Γ1 := [.ow true p, .va pool, .va (.int (m : Nat)), .un, .un, .un]) (xcons_ok (xnew_ok (U_ok (by walk_at "ev") hg)) rfl (xcons_ok (xnew_ok (lst_ok nil_ok (by decide))) rfl xnil_ok)) rfl) ?_
  refine seq_nx (for_ok (range1_ok (by walk_at "ev") ⟨by omega, by omega⟩) e) ?_
  subst eΓ
  exact ret_ok (any_ow rfl rfl)
end QX

set_option Elab.async false
set_option linter.all false
set_option maxRecDepth 100000
set_option maxHeartbeats 4000000
namespace QX
open PySem PySem.Spec PySem.W PySem.Calls PyProof.Rows L2 MX
/-! ### texts, events, timelines as trees -/
def evB (ps : List Str) (e : Evt) : Bool := decide (e.1 ∈ ps) && decide (e.2 ∈ (["in", "out"] : List Str))
structure VT (ps : List Str) (es : List Evt) : Prop where
  nd : es.Nodup
  len : es.length = 2 * ps.length
  few : ps.length ≤ 9
  ev : ∀ e ∈ es, evB ps e = true
  io : ∀ n ∈ ps, (n, ("in" : Str)) ∈ es ∧ (n, ("out" : Str)) ∈ es ∧ es.idxOf (n, ("in" : Str)) < es.idxOf (n, ("out" : Str))
def meetB (es : List Evt) (a b : Str) : Bool := decide (es.idxOf (a, ("in" : Str)) < es.idxOf (b, ("out" : Str))) && decide (es.idxOf (b, ("in" : Str)) < es.idxOf (a, ("out" : Str)))
theorem inNout : ("in" : Str) ≠ "out" := by decide +kernel
theorem lay_strs : ∀ {xs : List Str}, (∀ x ∈ xs, OkS x) → PyData.canLayAll0 (xs.map PyData.str) = true ∧ PyData.depthAll (xs.map PyData.str) = 0
  | [], _ => ⟨by simp [PyData.canLayAll0], by simp [PyData.depthAll]⟩
  | x :: xs, h => by
    obtain ⟨h1, h2⟩ := lay_strs fun y hy => h y (List.mem_cons_of_mem _ hy)
    obtain ⟨a, _⟩ := h x List.mem_cons_self
    refine ⟨by simp [PyData.canLayAll0, PyData.canLay0, h1, a], ?_⟩
    rw [List.map_cons]
    simp only [PyData.depthAll, PyData.depth, h2]
    omega
theorem eqv_str (a b : Str) : PyData.eqv (.str a) (.str b) = decide (a = b) := by
  simp only [PyData.eqv]
  by_cases h : a = b <;> simp [h]
theorem toDs_strs : ∀ xs : List Str, toDs (xs.map PV.str) = some (xs.map PyData.str)
  | [] => by unfold toDs; rfl
  | x :: xs => by
    rw [List.map_cons]
    unfold toDs
    rw [toDs_strs xs]
    rfl
theorem toD_str (x : Str) : toD (.str x) = some (.str x) := by unfold toD; rfl
theorem toD_ev (e : Evt) : toD (evP e) = some (evD e) := by
  unfold evP toD toDs toDs toDs toD
  rfl
theorem toDs_evs : ∀ es : List Evt, toDs (es.map evP) = some (es.map evD)
  | [] => by unfold toDs; rfl
  | x :: xs => by
    rw [List.map_cons]
    unfold toDs
    rw [toDs_evs xs, toD_ev]
    rfl
theorem any_str (x : Str) (ps : List Str) : ((ps.map PyData.str).any fun z => PyData.eqv z (.str x)) = decide (x ∈ ps) := by
  rw [List.any_map, Bool.eq_iff_iff, List.any_eq_true, decide_eq_true_iff]
  constructor
  · rintro ⟨y, hy, h⟩
    have h : PyData.eqv (.str y) (.str x) = true := h
    rw [eqv_str, decide_eq_true_iff] at h
    rw [← h]; exact hy
  · intro h
    exact ⟨x, h, by show PyData.eqv (.str x) (.str x) = true; rw [eqv_str]; simp⟩
theorem flat_strsP (ps : List Str) : (ps.map PV.str).all flatP = true := by
  rw [List.all_map, List.all_eq_true]
  intro x _
  rfl
theorem inSeq_strs (x : Str) (ps : List Str) (b : Bool) : inSeq (.str x) (ps.map .str) b = some (decide (x ∈ ps)) := by
  unfold inSeq
  rw [toD_str, toDs_strs]
  show (if flatP (PV.str x) = true ∧ (ps.map PV.str).all flatP = true then some ((ps.map PyData.str).any fun z => PyData.eqv z (.str x)) else _) = _
  rw [if_pos ⟨rfl, flat_strsP ps⟩, any_str]
theorem gIn_tup (x : Str) (ps : List Str) (f : Bool) : gIn (.str x) (.tup f (ps.map .str)) = some (.bl (decide (x ∈ ps))) := by
  show (inSeq (.str x) (ps.map .str) false).map PV.bl = _
  rw [inSeq_strs]
  rfl
theorem gEq_str (x y : Str) : gEq (.str x) (.str y) = some (.bl (decide (x = y))) := rfl
theorem gNe_str (x y : Str) : gNe (.str x) (.str y) = some (.bl (!decide (x = y))) := rfl
theorem ok_io : OkS "in" ∧ OkS "out" := ⟨⟨by decide +kernel, by decide +kernel⟩, ⟨by decide +kernel, by decide +kernel⟩⟩
end QX

set_option Elab.async false
set_option linter.all false
set_option maxRecDepth 100000
set_option maxHeartbeats 4000000
namespace QX
open PySem PySem.Spec PySem.W PySem.Calls PyProof.Rows L2 MX
/-! ### the program's functions over timelines -/
def hallPV (ps : List Str) (t o d : PV) : PV := .obj "Hall" hallN [t, .tup false (ps.map .str), o, d]
section
variable {ps : List Str} {t o d : PV} {es : List Evt}
theorem fld_people : gFld "Hall" "people" (hallPV ps t o d) = some (.tup false (ps.map .str)) := by
  show (if ("Hall" : Str) = "Hall" then lookF hallN [t, .tup false (ps.map .str), o, d] "people" else none) = _
  rw [if_pos rfl]
  show (if ("people" : Str) = "text" then some t else lookF ["people", "opens", "_told"] [.tup false (ps.map .str), o, d] "people") = _
  rw [if_neg (by decide +kernel)]
  show (if ("people" : Str) = "people" then some (PV.tup false (ps.map .str)) else _) = _
  rw [if_pos rfl]
theorem contains_ok {x : Str} : runV F_Hall_contains 2 0 [hallPV ps t o d, .str x] = .ok (.bl (decide (x ∈ ps))) :=
  runV_ok rfl (by
    show F_Hall_contains [.va (hallPV ps t o d), .va (.str x)] = _
    unfold F_Hall_contains
    exact ret_ok (bin_ok (by walk_at "ev") (U_ok (by walk_at "ev") fld_people) (gIn_tup x ps false)))
theorem len_hall (hl : ps.length ≤ 1000000) : gLenC "Hall" (runV F_Hall_len 1 0) [hallPV ps t o d] = some (.int (ps.length : Nat)) := by
  have e : runV F_Hall_len 1 0 [hallPV ps t o d] = .ok (.int (ps.length : Nat)) := runV_ok rfl (by
    show F_Hall_len [.va (hallPV ps t o d)] = _
    unfold F_Hall_len
    exact ret_ok (B_ok (cons_ok (U_ok (by walk_at "ev") fld_people) nil_ok) (by show some (PV.int ((ps.map PV.str).length : Nat)) = _; rw [List.length_map])))
  show (if ("Hall" : Str) = "Hall" then (match runV F_Hall_len 1 0 [hallPV ps t o d] with
    | .ok (.int n) => if 0 ≤ n ∧ n < 4000000000000000000 then some (PV.int n) else none
    | _ => none) else none) = _
  rw [if_pos rfl, e]
  show (if (0 : Int) ≤ (ps.length : Nat) ∧ ((ps.length : Nat) : Int) < 4000000000000000000 then some (PV.int (ps.length : Nat)) else none) = _
  rw [if_pos ⟨by omega, by omega⟩]
theorem in_hall {x : Str} : gInC "Hall" (runV F_Hall_contains 2 0) (.str x) (hallPV ps t o d) = some (.bl (decide (x ∈ ps))) := by
  show gInOwn "Hall" (runV F_Hall_contains 2 0) false (.str x) (hallPV ps t o d) = _
  unfold gInOwn
  show (if ("Hall" : Str) = "Hall" then (match runV F_Hall_contains 2 0 [hallPV ps t o d, .str x] with
    | .ok (.bl b) => some (PV.bl (if false = true then !b else b))
    | _ => none) else none) = _
  rw [if_pos rfl, contains_ok]
  rfl
theorem isTup {f : Bool} {xs : List PV} : gIsTy "tuple" (.tup f xs) = some (.bl true) := by
  show (kitB "tuple" "tuple").map PV.bl = _
  have e : kitB "tuple" "tuple" = some true := by decide +kernel
  rw [e]
  rfl
theorem isEvent_ok {e : Evt} : runV F_is_event 2 2 [hallPV ps t o d, evP e] = .ok (.bl (evB ps e)) :=
  runV_ok (Γ1 := [.va (hallPV ps t o d), .va (evP e), .va (.str e.1), .va (.str e.2)]) rfl (by
    show F_is_event [.va (hallPV ps t o d), .va (.tup false [.str e.1, .str e.2]), .un, .un] = _
    unfold F_is_event
    refine seq_nx (ifS_f (or2 (not_ok (U_ok (by walk_at "ev") isTup)) fun _ => by walk_at "ev") rfl rfl) (seq_nx (by walk_at "ev") (ret_ok ?_))
    exact and2 (bin_ok (by walk_at "ev") (by walk_at "ev") in_hall) fun _ => bin_ok (by walk_at "ev") (tup_ok (by walk_at "ev") (by decide)) (gIn_tup e.2 ["in", "out"] false))
/-! places -/
theorem upto_cons (k : Int) (n : Nat) : upto k (n + 1) = .int k :: upto (k + 1) n := by
  unfold upto
  rw [List.range_succ_eq_map, List.map_cons, List.map_map]
  congr 1
  · simp
  · apply List.map_congr_left
    intro i _
    show PV.int (k + ((i + 1 : Nat) : Int)) = PV.int (k + 1 + (i : Int))
    congr 1
    omega
theorem enumP_cons (k : Int) (x : PV) (xs : List PV) : enumP k (x :: xs) = .tup false [.int k, x] :: enumP (k + 1) xs := by
  unfold enumP
  rw [List.length_cons, upto_cons, List.zip_cons_cons, List.map_cons]
def ekE (e : Evt) : List Key := [Sum.inr e.1, Sum.inr e.2]
theorem ekE_inj {a b : Evt} (h : ekE a = ekE b) : a = b := by
  obtain ⟨a1, a2⟩ := a
  obtain ⟨b1, b2⟩ := b
  unfold ekE at h
  injection h with h1 h2
  injection h2 with h2 _
  have e1 : a1 = b1 := Sum.inr.inj h1
  have e2 : a2 = b2 := Sum.inr.inj h2
  rw [e1, e2]
theorem tkey_ev (e : Evt) : tkeyK (evP e) = some (ekE e) := rfl
def plD : Int → List Evt → DA
  | _, [] => []
  | k, e :: es => (ekE e, .int k) :: plD (k + 1) es
theorem plD_len : ∀ {es : List Evt} {k : Int}, (plD k es).length = es.length
  | [], _ => rfl
  | e :: es, k => congrArg Nat.succ plD_len
theorem putP_new {kvs : DA} {k : List Key} {v : PV} (h : ∀ q ∈ kvs, q.1 ≠ k) : putP kvs k v = kvs ++ [(k, v)] := by
  unfold putP
  rw [if_neg]
  rw [List.any_eq_true]
  rintro ⟨q, hq, e⟩
  exact h q hq (of_decide_eq_true e)
theorem dc_places {Γw : En} {vs : List Nat} {gt : SG} {t ek ev : SE} (hs : ∀ (i : Int) (e : Evt), ∃ Γ1, gt (.tup false [.int i, evP e]) (wipeE vs Γw) = .nx Γ1 ∧ t Γ1 = .ok (.bl true) Γ1 ∧ ek Γ1 = .ok (evP e) Γ1 ∧ ev Γ1 = .ok (.int i) Γ1 ∧ wipeE vs Γ1 = Γw) :
    ∀ {es : List Evt} {k : Int} {acc : DA}, es.Nodup → (∀ q ∈ acc, ∀ e ∈ es, q.1 ≠ ekE e) → acc.length + es.length < 1000000 → dcL vs gt t ek ev (enumP k (es.map evP)) acc Γw = .ok (acc ++ plD k es) Γw
  | [], k, acc, _, _, _ => by
    show dcL vs gt t ek ev (enumP k []) acc Γw = .ok (acc ++ []) Γw
    rw [List.append_nil]
    rfl
  | e :: es, k, acc, nd, fr, hl => by
    obtain ⟨Γ1, e1, e2, e3, e4, e5⟩ := hs k e
    have nd' := List.nodup_cons.mp nd
    rw [List.length_cons] at hl
    rw [List.map_cons, enumP_cons]
    unfold dcL
    rw [e1]
    show (match t Γ1 with
      | .ok (.bl true) Γ2 => match ek Γ2 with
        | .ok kp Γ3 => match ev Γ3 with
          | .ok w Γ4 => match tkeyK kp with
            | some k' => if acc.length < 1000000 then dcL vs gt t ek ev (enumP (k + 1) (es.map evP)) (putP acc k' w) (wipeE vs Γ4) else Rs.no
            | none => .no
          | _ => .no
        | _ => .no
      | .ok (.bl false) Γ2 => dcL vs gt t ek ev (enumP (k + 1) (es.map evP)) acc (wipeE vs Γ2)
      | _ => .no) = _
    rw [e2]
    show (match ek Γ1 with
        | .ok kp Γ3 => match ev Γ3 with
          | .ok w Γ4 => match tkeyK kp with
            | some k' => if acc.length < 1000000 then dcL vs gt t ek ev (enumP (k + 1) (es.map evP)) (putP acc k' w) (wipeE vs Γ4) else Rs.no
            | none => .no
          | _ => .no
        | _ => .no) = _
    rw [e3]
    show (match ev Γ1 with
          | .ok w Γ4 => match tkeyK (evP e) with
            | some k' => if acc.length < 1000000 then dcL vs gt t ek ev (enumP (k + 1) (es.map evP)) (putP acc k' w) (wipeE vs Γ4) else Rs.no
            | none => .no
          | _ => .no) = _
    rw [e4]
    show (if acc.length < 1000000 then dcL vs gt t ek ev (enumP (k + 1) (es.map evP)) (putP acc (ekE e) (.int k)) (wipeE vs Γ1) else Rs.no) = _
    rw [if_pos (by omega), e5, putP_new (fun q hq => fr q hq e List.mem_cons_self), dc_places hs nd'.2 (fun q hq e' he' => ?_) (by rw [List.length_append, List.length_singleton]; omega), List.append_assoc]
    · rfl
    · rcases List.mem_append.mp hq with hq | hq
      · exact fr q hq e' (List.mem_cons_of_mem _ he')
      · rw [List.mem_singleton.mp hq]
        exact fun z => nd'.1 (by rw [ekE_inj z]; exact he')
theorem dc_ok {Γ Γ1 Γ2 Γ3 : En} {vs : List Nat} {it : SIt} {gt : SG} {t ek ev : SE} {ys : List PV} {acc : DA} (h1 : it Γ = .ok ys Γ1) (h2 : okW vs Γ1 = true) (h3 : dcL vs gt t ek ev ys [] (wipeE vs Γ1) = .ok acc Γ2) (h4 : rest vs Γ1 Γ2 = Γ3) : sDc vs it gt t ek ev Γ = .ok (dctOf acc) Γ3 := by
  unfold sDc
  rw [h1]
  show (if okW vs Γ1 = true then (match dcL vs gt t ek ev ys [] (wipeE vs Γ1) with
    | .ok acc Γ2 => Rs.ok (dctOf acc) (rest vs Γ1 Γ2)
    | _ => .no) else .no) = _
  rw [if_pos h2, h3, ← h4]
def plP (es : List Evt) : PV := dctOf (plD 0 es)
theorem placesOf_ok {f : Bool} (nd : es.Nodup) (hl : es.length < 1000000) : runV F_places_of 1 2 [.tup f (es.map evP)] = .ok (plP es) :=
  runV_ok rfl (by
    show F_places_of [.va (.tup f (es.map evP)), .un, .un] = _
    unfold F_places_of
    exact ret_ok (dc_ok (enuT_ok (by walk_at "ev")) rfl (dc_places (acc := []) (vs := [1, 2]) (Γw := [.va (.tup f (es.map evP)), .un, .un]) (fun i e => ⟨[.va (.tup f (es.map evP)), .va (.int i), .va (evP e)], rfl, rfl, rfl, rfl, rfl⟩) nd (fun q hq => by cases hq) (by rw [List.length_nil]; omega)) rfl))
theorem look_plD {e : Evt} : ∀ {es : List Evt} {k : Int}, e ∈ es → (((plD k es).map (·.1)).zip ((plD k es).map (·.2))).find? (fun q => decide (q.1 = ekE e)) = some (ekE e, .int (k + (es.idxOf e : Nat)))
  | [], _, h => by cases h
  | x :: es, k, h => by
    show ((ekE x, PV.int k) :: (((plD (k + 1) es).map (·.1)).zip ((plD (k + 1) es).map (·.2)))).find? _ = _
    rw [List.find?_cons, List.idxOf_cons]
    by_cases c : x = e
    · subst c
      simp
    · have m : e ∈ es := (List.mem_cons.mp h).resolve_left fun z => c z.symm
      have c' : ekE x ≠ ekE e := fun z => c (ekE_inj z)
      rw [decide_eq_false c', look_plD m, beq_eq_false_iff_ne.mpr c]
      show some (ekE e, PV.int (k + 1 + (es.idxOf e : Nat))) = some (ekE e, PV.int (k + ((es.idxOf e + 1 : Nat) : Int)))
      congr 3
      omega
theorem plD_keys : ∀ {es : List Evt} {k : Int}, (plD k es).map (fun a => PV.tup false (a.1.map kP)) = es.map evP
  | [], _ => rfl
  | e :: es, k => by
    show PV.tup false ((ekE e).map kP) :: (plD (k + 1) es).map _ = evP e :: es.map evP
    rw [plD_keys]
    rfl
theorem keys_evs {e : Evt} {es : List Evt} : fkeys ((e :: es).map evP) = none := rfl
theorem get_pl {e : Evt} (m : e ∈ es) : gDict (plP es) (evP e) = some (.int (es.idxOf e : Nat)) := by
  obtain ⟨x, r, rfl⟩ : ∃ x r, es = x :: r := by
    cases es with
    | nil => cases m
    | cons x r => exact ⟨x, r, rfl⟩
  show (gGet ((plD 0 (x :: r)).map fun a => PV.tup false (a.1.map kP)) ((plD 0 (x :: r)).map (·.2)) (evP e)).bind id = _
  have hk : tkeysOf ((plD 0 (x :: r)).map fun a => PV.tup false (a.1.map kP)) = some ((plD 0 (x :: r)).map (·.1)) := tkeys_kP _
  unfold gGet
  rw [hk]
  rw [plD_keys, keys_evs, tkey_ev]
  show lookK ((plD 0 (x :: r)).map (·.1)) ((plD 0 (x :: r)).map (·.2)) (ekE e) = _
  unfold lookK
  rw [look_plD m]
  show some (PV.int (0 + _)) = _
  rw [Int.zero_add]
theorem len_pl (h : es ≠ []) : gLenX [plP es] = some (.int (es.length : Nat)) := by
  obtain ⟨x, r, rfl⟩ : ∃ x r, es = x :: r := by
    cases es with
    | nil => exact absurd rfl h
    | cons x r => exact ⟨x, r, rfl⟩
  have hk : tkeysOf ((plD 0 (x :: r)).map fun a => PV.tup false (a.1.map kP)) = some ((plD 0 (x :: r)).map (·.1)) := tkeys_kP _
  show (match tkeysOf ((plD 0 (x :: r)).map fun a => PV.tup false (a.1.map kP)) with
    | some (_ :: _) => some (PV.int (((plD 0 (x :: r)).map fun a : List Key × PV => PV.tup false (a.1.map kP)).length : Nat))
    | _ => none) = _
  rw [hk]
  show some (PV.int (((plD 0 (x :: r)).map fun a : List Key × PV => PV.tup false (a.1.map kP)).length : Nat)) = _
  rw [List.length_map, plD_len]
end
end QX

set_option Elab.async false
set_option linter.all false
set_option maxRecDepth 100000
set_option maxHeartbeats 4000000
namespace QX
open PySem PySem.Spec PySem.W PySem.Calls PyProof.Rows L2 MX
section
variable {ps : List Str} {t o d : PV} {es : List Evt}
theorem bls_true : ∀ xs : List PV, blsOf (xs.map fun _ => PV.bl true) = some (xs.map fun _ => true)
  | [] => rfl
  | x :: xs => by
    show (blsOf (xs.map fun _ => PV.bl true)).map (fun bs => true :: bs) = _
    rw [bls_true xs]
    rfl
theorem gAll_true (xs : List PV) : gAll [.lst (xs.map fun _ => PV.bl true)] = some (.bl true) := by
  show (blsOf (xs.map fun _ => PV.bl true)).map (fun bs => PV.bl (bs.all id)) = _
  rw [bls_true]
  show some (PV.bl ((xs.map fun _ => true).all id)) = _
  congr 2
  rw [List.all_eq_true]
  intro b hb
  obtain ⟨_, _, rfl⟩ := List.mem_map.mp hb
  rfl
theorem isTimeline_ok {f : Bool} (h : VT ps es) (h1 : 1 ≤ ps.length) : runV F_is_timeline 2 3 [hallPV ps t o d, .tup f (es.map evP)] = .ok (.bl true) := by
  have hes : es ≠ [] := fun z => by have := h.len; rw [z] at this; simp at this; omega
  have hl : es.length ≤ 18 := by have := h.len; have := h.few; omega
  have hlm : (es.map evP).length = es.length := List.length_map ..
  have hfew := h.few
  have hlen := h.len
  refine runV_ok (Γ1 := [.va (hallPV ps t o d), .va (.tup f (es.map evP)), .un, .va (plP es), .un]) rfl ?_
  show F_is_timeline [.va (hallPV ps t o d), .va (.tup f (es.map evP)), .un, .un, .un] = _
  unfold F_is_timeline
  refine seq_nx (Γ1 := [.va (hallPV ps t o d), .va (.tup f (es.map evP)), .un, .un, .un]) (ifS_f (b := false) (or2 (b := false) (c := false) (not_ok (b := true) (U_ok (by walk_at "ev") isTup)) fun _ => ?_) rfl rfl) ?_
  · refine bin_ok (B_ok (z := .int ((es.map evP).length : Nat)) (by walk_at "ev") rfl) (bin_ok (z := .int (2 * (ps.length : Nat))) (by walk_at "ev") (B_ok (by walk_at "ev") (len_hall (by omega))) (gMul_ok (by omega) (by omega))) ?_
    show some (PV.bl (!decide ((((es.map evP).length : Nat) : Int) = 2 * ((ps.length : Nat) : Int)))) = _
    rw [decide_eq_true (by rw [hlm]; omega)]
    rfl
  refine seq_nx (Γ1 := [.va (hallPV ps t o d), .va (.tup f (es.map evP)), .un, .un, .un]) (ifS_f (b := false) (not_ok (b := true) (B_ok (cons_ok (lc_ok (vs := [2]) (seqT_ok (by walk_at "ev")) rfl (lcL_pure (fun _ => .bl true) fun y hy => ?_) (by rw [List.length_map, hlm]; omega) rfl) nil_ok) (gAll_true _))) rfl rfl) ?_
  · obtain ⟨e, he, rfl⟩ := List.mem_map.mp hy
    have z := isEvent_ok (ps := ps) (t := t) (o := o) (d := d) (e := e)
    rw [h.ev e he] at z
    exact ⟨[.va (hallPV ps t o d), .va (.tup f (es.map evP)), .va (evP e), .un, .un], rfl, rfl, call_ok (by walk_at "ev") z, rfl⟩
  refine seq_nx (set_ok (call_ok (by walk_at "ev") (placesOf_ok h.nd (by omega))) rfl rfl) (ret_ok ?_)
  refine and2 (b := true) (c := true) (bin_ok (B_ok (by walk_at "ev") (len_pl hes)) (B_ok (z := .int ((es.map evP).length : Nat)) (by walk_at "ev") rfl) ?_) fun _ => ?_
  · show some (PV.bl (decide (((es.length : Nat) : Int) = (((es.map evP).length : Nat) : Int)))) = _
    rw [decide_eq_true (by rw [hlm])]
  · refine B_ok (cons_ok (lc_ok (vs := [4]) (Γ1 := [.va (hallPV ps t o d), .va (.tup f (es.map evP)), .un, .va (plP es), .un]) (seqT_ok (U_ok (by walk_at "ev") fld_people)) rfl (lcL_pure (fun _ => .bl true) fun y hy => ?_) (by rw [List.length_map, List.length_map]; omega) rfl) nil_ok) (gAll_true _)
    obtain ⟨n, hn, rfl⟩ := List.mem_map.mp hy
    obtain ⟨i1, i2, i3⟩ := h.io n hn
    refine ⟨[.va (hallPV ps t o d), .va (.tup f (es.map evP)), .un, .va (plP es), .va (.str n)], rfl, rfl, bin_ok (bin_ok (by walk_at "ev") (tup_ok (by walk_at "ev") le6) (get_pl i1)) (bin_ok (by walk_at "ev") (tup_ok (by walk_at "ev") le6) (get_pl i2)) ?_, rfl⟩
    show some (PV.bl (decide (((es.idxOf (n, ("in" : Str)) : Nat) : Int) < ((es.idxOf (n, ("out" : Str)) : Nat) : Int)))) = _
    rw [decide_eq_true (by omega)]
theorem reqTimeline_ok {f : Bool} (h : VT ps es) (h1 : 1 ≤ ps.length) : runV F_require_timeline 2 0 [hallPV ps t o d, .tup f (es.map evP)] = .ok .non :=
  runV_nx (Γ1 := [.va (hallPV ps t o d), .va (.tup f (es.map evP))]) rfl (by
    show F_require_timeline [.va (hallPV ps t o d), .va (.tup f (es.map evP))] = _
    unfold F_require_timeline
    exact ifS_f (not_ok (call_ok (by walk_at "ev") (isTimeline_ok h h1))) rfl rfl)
theorem meet_ok {a b : Str} (h : VT ps es) (ha : a ∈ ps) (hb : b ∈ ps) : runV F_meet 3 0 [plP es, .str a, .str b] = .ok (.bl (meetB es a b)) := by
  obtain ⟨a1, a2, _⟩ := h.io a ha
  obtain ⟨b1, b2, _⟩ := h.io b hb
  refine runV_ok (Γ1 := [.va (plP es), .va (.str a), .va (.str b)]) rfl ?_
  show F_meet [.va (plP es), .va (.str a), .va (.str b)] = _
  unfold F_meet meetB
  refine ret_ok (and2 (bin_ok (bin_ok (by walk_at "ev") (tup_ok (by walk_at "ev") le6) (get_pl a1)) (bin_ok (by walk_at "ev") (tup_ok (by walk_at "ev") le6) (get_pl b2)) ?_) fun _ => bin_ok (bin_ok (by walk_at "ev") (tup_ok (by walk_at "ev") le6) (get_pl b1)) (bin_ok (by walk_at "ev") (tup_ok (by walk_at "ev") le6) (get_pl a2)) ?_)
  · show some (PV.bl (decide (((es.idxOf (a, ("in" : Str)) : Nat) : Int) < ((es.idxOf (b, ("out" : Str)) : Nat) : Int)))) = _
    congr 2
    simp
  · show some (PV.bl (decide (((es.idxOf (b, ("in" : Str)) : Nat) : Int) < ((es.idxOf (a, ("out" : Str)) : Nat) : Int)))) = _
    congr 2
    simp
end
/-! ### sayings -/
inductive Say where
  | met (w : Bool) (a b : Str)
  | bef (e f : Evt)
def sayP : Say → PV
  | .met true a b => .tup false [.str "met", .str a, .str b]
  | .met false a b => .tup false [.str "not", .str a, .str b]
  | .bef e f => .tup false [.str "before", evP e, evP f]
def okSay (ps : List Str) : Say → Prop
  | .met _ a b => a ∈ ps ∧ b ∈ ps ∧ a ≠ b
  | .bef e f => evB ps e = true ∧ evB ps f = true ∧ e.1 ≠ f.1
def soB (es : List Evt) : Say → Bool
  | .met w a b => decide (meetB es a b = w)
  | .bef e f => decide (es.idxOf e < es.idxOf f)
def conS : Say → Say
  | .met w a b => .met (!w) a b
  | .bef e f => .bef f e
theorem con_ok {ps : List Str} {s : Say} (h : okSay ps s) : okSay ps (conS s) := by
  cases s with
  | met w a b => exact h
  | bef e f => exact ⟨h.2.1, h.1, fun z => h.2.2 z.symm⟩
theorem tup3 : ∀ s : Say, ∃ x y z, sayP s = .tup false [x, y, z]
  | .met true a b => ⟨_, _, _, rfl⟩
  | .met false a b => ⟨_, _, _, rfl⟩
  | .bef e f => ⟨_, _, _, rfl⟩
section
variable {ps : List Str} {t o d : PV} {es : List Evt}
theorem mem_io {w : Str} (h : w ∈ (["in", "out"] : List Str)) : w = "in" ∨ w = "out" := by simpa using h
theorem VT.mem {e : Evt} (h : VT ps es) (he : evB ps e = true) : e ∈ es := by
  unfold evB at he
  rw [Bool.and_eq_true, decide_eq_true_eq, decide_eq_true_eq] at he
  obtain ⟨n, w⟩ := e
  obtain ⟨i1, i2, _⟩ := h.io n he.1
  rcases mem_io he.2 with z | z
  · have z : w = "in" := z
    rw [z]; exact i1
  · have z : w = "out" := z
    rw [z]; exact i2
theorem isTupOf_ok {f : Bool} {xs : List PV} (n : Int) (h : ((xs.length : Nat) : Int) = n) : runV F_is_tuple_of 2 0 [.tup f xs, .int n] = .ok (.bl true) :=
  runV_ok (Γ1 := [.va (.tup f xs), .va (.int n)]) rfl (by
    show F_is_tuple_of [.va (.tup f xs), .va (.int n)] = _
    unfold F_is_tuple_of
    refine ret_ok (and2 (b := true) (c := true) (U_ok (by walk_at "ev") isTup) fun _ => bin_ok (B_ok (z := .int (xs.length : Nat)) (by walk_at "ev") rfl) (by walk_at "ev") ?_)
    show some (PV.bl (decide (((xs.length : Nat) : Int) = n))) = _
    rw [decide_eq_true h])
theorem n1 : decide (("met" : Str) ∈ (["met", "not"] : List Str)) = true := by decide +kernel
theorem n2 : decide (("not" : Str) ∈ (["met", "not"] : List Str)) = true := by decide +kernel
theorem n3 : decide (("before" : Str) ∈ (["met", "not"] : List Str)) = false := by decide +kernel
theorem n4 : decide (("met" : Str) = "before") = false := by decide +kernel
theorem n5 : decide (("not" : Str) = "before") = false := by decide +kernel
theorem n6 : decide (("before" : Str) = "before") = true := by decide +kernel
theorem n7 : decide (("met" : Str) = "met") = true := by decide +kernel
theorem n8 : decide (("not" : Str) = "met") = false := by decide +kernel
theorem tabM : gTab [("met", "not"), ("not", "met")] (.str "met") = some (.str "not") := by
  have e : ([("met", "not"), ("not", "met")] : List (Str × Str)).lookup ("met" : Str) = some "not" := by decide +kernel
  show (([("met", "not"), ("not", "met")] : List (Str × Str)).lookup ("met" : Str)).map PV.str = _
  rw [e]
  rfl
theorem tabN : gTab [("met", "not"), ("not", "met")] (.str "not") = some (.str "met") := by
  have e : ([("met", "not"), ("not", "met")] : List (Str × Str)).lookup ("not" : Str) = some "met" := by decide +kernel
  show (([("met", "not"), ("not", "met")] : List (Str × Str)).lookup ("not" : Str)).map PV.str = _
  rw [e]
  rfl
theorem isSaying_ok {s : Say} (h : okSay ps s) : runV F_is_saying 2 3 [hallPV ps t o d, sayP s] = .ok (.bl true) := by
  have hm : ∀ (w a b : Str), decide (w ∈ (["met", "not"] : List Str)) = true → a ∈ ps → b ∈ ps → a ≠ b → runV F_is_saying 2 3 [hallPV ps t o d, .tup false [.str w, .str a, .str b]] = .ok (.bl true) := fun w a b hw ha hb ab => by
    refine runV_ok (Γ1 := [.va (hallPV ps t o d), .va (.tup false [.str w, .str a, .str b]), .va (.str w), .va (.str a), .va (.str b)]) rfl ?_
    show F_is_saying [.va (hallPV ps t o d), .va (.tup false [.str w, .str a, .str b]), .un, .un, .un] = _
    unfold F_is_saying
    refine seq_nx (ifS_f (not_ok (call_ok (by walk_at "ev") (isTupOf_ok 3 rfl))) rfl rfl) (seq_nx (by walk_at "ev") (seq_rt (ifS_t (bin_ok (by walk_at "ev") (tup_ok (by walk_at "ev") le6) (gIn_tup w ["met", "not"] false)) hw (ret_ok ?_))))
    have z := and2 (fa := sBin (gInC "Hall" (runV F_Hall_contains 2 0)) (sAny 3) (sAny 0)) (fb := sAnd (sBin (gInC "Hall" (runV F_Hall_contains 2 0)) (sAny 4) (sAny 0)) (sBin gNe (sAny 3) (sAny 4))) (Γ := [.va (hallPV ps t o d), .va (.tup false [.str w, .str a, .str b]), .va (.str w), .va (.str a), .va (.str b)]) (bin_ok (by walk_at "ev") (by walk_at "ev") (in_hall (x := a))) fun _ => and2 (bin_ok (by walk_at "ev") (by walk_at "ev") (in_hall (x := b))) fun _ => bin_ok (by walk_at "ev") (by walk_at "ev") (gNe_str a b)
    rw [decide_eq_true ha, decide_eq_true hb, decide_eq_false ab] at z
    exact z
  cases s with
  | met w a b =>
    obtain ⟨h1, h2, h3⟩ := h
    cases w with
    | true => exact hm "met" a b n1 h1 h2 h3
    | false => exact hm "not" a b n2 h1 h2 h3
  | bef e f =>
    obtain ⟨h1, h2, h3⟩ := h
    refine runV_ok (Γ1 := [.va (hallPV ps t o d), .va (.tup false [.str "before", evP e, evP f]), .va (.str "before"), .va (evP e), .va (evP f)]) rfl ?_
    show F_is_saying [.va (hallPV ps t o d), .va (.tup false [.str "before", evP e, evP f]), .un, .un, .un] = _
    unfold F_is_saying
    refine seq_nx (ifS_f (not_ok (call_ok (by walk_at "ev") (isTupOf_ok 3 rfl))) rfl rfl) (seq_nx (by walk_at "ev") (seq_nx (ifS_f (bin_ok (by walk_at "ev") (tup_ok (by walk_at "ev") le6) (gIn_tup "before" ["met", "not"] false)) n3 rfl) (ret_ok ?_)))
    have z := and2 (fa := sBin gEq (sAny 2) (sC (.str "before"))) (fb := sAnd (sCall (runV F_is_event 2 2) (sCons (sAny 0) (sCons (sAny 3) sNil))) (sAnd (sCall (runV F_is_event 2 2) (sCons (sAny 0) (sCons (sAny 4) sNil))) (sBin gNe (sBin gIx (sAny 3) (sC (.int 0))) (sBin gIx (sAny 4) (sC (.int 0)))))) (Γ := [.va (hallPV ps t o d), .va (.tup false [.str "before", evP e, evP f]), .va (.str "before"), .va (evP e), .va (evP f)])
      (bin_ok (by walk_at "ev") (by walk_at "ev") (gEq_str "before" "before")) fun _ => and2 (call_ok (by walk_at "ev") isEvent_ok) fun _ => and2 (call_ok (by walk_at "ev") isEvent_ok) fun _ => bin_ok (bin_ok (x := evP e) (by walk_at "ev") (by walk_at "ev") (show gIx (evP e) (.int 0) = some (.str e.1) from rfl)) (bin_ok (x := evP f) (by walk_at "ev") (by walk_at "ev") (show gIx (evP f) (.int 0) = some (.str f.1) from rfl)) (gNe_str e.1 f.1)
    rw [h1, h2, decide_eq_false h3, n6] at z
    exact z
theorem reqSaying_ok {s : Say} (h : okSay ps s) : runV F_require_saying 2 0 [hallPV ps t o d, sayP s] = .ok .non :=
  runV_nx (Γ1 := [.va (hallPV ps t o d), .va (sayP s)]) rfl (by
    show F_require_saying [.va (hallPV ps t o d), .va (sayP s)] = _
    unfold F_require_saying
    exact ifS_f (not_ok (call_ok (by walk_at "ev") (isSaying_ok h))) rfl rfl)
theorem contrary_ok {s : Say} (h : okSay ps s) : runV F_contrary 2 3 [hallPV ps t o d, sayP s] = .ok (sayP (conS s)) := by
  have hr := reqSaying_ok (t := t) (o := o) (d := d) h
  have hm : ∀ (w u a b : Str), decide (w = "before") = false → gTab [("met", "not"), ("not", "met")] (.str w) = some (.str u) → runV F_require_saying 2 0 [hallPV ps t o d, .tup false [.str w, .str a, .str b]] = .ok .non → runV F_contrary 2 3 [hallPV ps t o d, .tup false [.str w, .str a, .str b]] = .ok (.tup false [.str u, .str a, .str b]) := fun w u a b hw hu hr => by
    refine runV_ok (Γ1 := [.va (hallPV ps t o d), .va (.tup false [.str w, .str a, .str b]), .va (.str w), .va (.str a), .va (.str b)]) rfl ?_
    show F_contrary [.va (hallPV ps t o d), .va (.tup false [.str w, .str a, .str b]), .un, .un, .un] = _
    unfold F_contrary
    exact seq_nx (expr_ok (call_ok (by walk_at "ev") hr)) (seq_nx (by walk_at "ev") (seq_nx (ifS_f (bin_ok (by walk_at "ev") (by walk_at "ev") (gEq_str w "before")) hw rfl) (ret_ok (tup_ok (cons_ok (U_ok (by walk_at "ev") hu) (by walk_at "ev")) le6))))
  cases s with
  | met w a b =>
    cases w with
    | true => exact hm "met" "not" a b n4 tabM hr
    | false => exact hm "not" "met" a b n5 tabN hr
  | bef e f =>
    refine runV_ok (Γ1 := [.va (hallPV ps t o d), .va (.tup false [.str "before", evP e, evP f]), .va (.str "before"), .va (evP e), .va (evP f)]) rfl ?_
    show F_contrary [.va (hallPV ps t o d), .va (.tup false [.str "before", evP e, evP f]), .un, .un, .un] = _
    unfold F_contrary
    exact seq_nx (expr_ok (call_ok (by walk_at "ev") hr)) (seq_nx (by walk_at "ev") (seq_rt (ifS_t (bin_ok (by walk_at "ev") (by walk_at "ev") (gEq_str "before" "before")) n6 (ret_ok (tup_ok (by walk_at "ev") le6)))))
theorem holds_ok {s : Say} (hv : VT ps es) (h : okSay ps s) : runV F_holds 2 3 [plP es, sayP s] = .ok (.bl (soB es s)) := by
  have hm : ∀ (w a b : Str) (k : Bool), decide (w = "before") = false → decide (w = "met") = k → a ∈ ps → b ∈ ps → runV F_holds 2 3 [plP es, .tup false [.str w, .str a, .str b]] = .ok (.bl (decide (meetB es a b = k))) := fun w a b k hw hk ha hb => by
    refine runV_ok (Γ1 := [.va (plP es), .va (.tup false [.str w, .str a, .str b]), .va (.str w), .va (.str a), .va (.str b)]) rfl ?_
    show F_holds [.va (plP es), .va (.tup false [.str w, .str a, .str b]), .un, .un, .un] = _
    unfold F_holds
    refine seq_nx (by walk_at "ev") (seq_nx (ifS_f (bin_ok (by walk_at "ev") (by walk_at "ev") (gEq_str w "before")) hw rfl) (ret_ok (bin_ok (call_ok (by walk_at "ev") (meet_ok hv ha hb)) (bin_ok (by walk_at "ev") (by walk_at "ev") (gEq_str w "met")) ?_)))
    rw [hk]
    rfl
  cases s with
  | met w a b =>
    obtain ⟨h1, h2, h3⟩ := h
    cases w with
    | true => exact hm "met" a b true n4 n7 h1 h2
    | false => exact hm "not" a b false n5 n8 h1 h2
  | bef e f =>
    obtain ⟨h1, h2, h3⟩ := h
    refine runV_ok (Γ1 := [.va (plP es), .va (.tup false [.str "before", evP e, evP f]), .va (.str "before"), .va (evP e), .va (evP f)]) rfl ?_
    show F_holds [.va (plP es), .va (.tup false [.str "before", evP e, evP f]), .un, .un, .un] = _
    unfold F_holds
    refine seq_nx (by walk_at "ev") (seq_rt (ifS_t (bin_ok (by walk_at "ev") (by walk_at "ev") (gEq_str "before" "before")) n6 (ret_ok (bin_ok (bin_ok (by walk_at "ev") (by walk_at "ev") (get_pl (hv.mem h1))) (bin_ok (by walk_at "ev") (by walk_at "ev") (get_pl (hv.mem h2))) ?_))))
    show some (PV.bl (decide (((es.idxOf e : Nat) : Int) < ((es.idxOf f : Nat) : Int)))) = some (PV.bl (decide (es.idxOf e < es.idxOf f)))
    congr 2
    simp
theorem isSo_ok {f : Bool} {s : Say} (hv : VT ps es) (h1 : 1 ≤ ps.length) (h : okSay ps s) : runV F_is_so 3 0 [hallPV ps t o d, .tup f (es.map evP), sayP s] = .ok (.bl (soB es s)) := by
  have hl : es.length < 1000000 := by have := hv.len; have := hv.few; omega
  refine runV_ok (Γ1 := [.va (hallPV ps t o d), .va (.tup f (es.map evP)), .va (sayP s)]) rfl ?_
  show F_is_so [.va (hallPV ps t o d), .va (.tup f (es.map evP)), .va (sayP s)] = _
  unfold F_is_so
  exact seq_nx (expr_ok (call_ok (by walk_at "ev") (reqTimeline_ok hv h1))) (seq_nx (expr_ok (call_ok (by walk_at "ev") (reqSaying_ok h))) (ret_ok (call_ok (cons_ok (call_ok (by walk_at "ev") (placesOf_ok hv.nd hl)) (by walk_at "ev")) (holds_ok hv h))))
end
end QX

set_option Elab.async false
set_option linter.all false
set_option maxRecDepth 100000
set_option maxHeartbeats 4000000
namespace QX
open PySem PySem.Spec PySem.W PySem.Calls PyProof.Rows L2 MX
/-! ### what is drawn -/
/-- what stands in a list of like things, in another sequence -/
theorem perm_map {α β : Type} {f : α → β} (g : β → α) (hg : ∀ x, g (f x) = x) {ys zs : List β} {xs : List α} (h : (ys ++ zs).Perm (xs.map f)) : ∃ ps qs : List α, ys = ps.map f ∧ zs = qs.map f ∧ (ps ++ qs).Perm xs := by
  have hm : ∀ {l : List β}, (∀ y ∈ l, ∃ x, y = f x) → l = (l.map g).map f := fun {l} hl => by
    induction l with
    | nil => rfl
    | cons y l ih =>
      rw [List.map_cons, List.map_cons, ← ih fun z hz => hl z (List.mem_cons_of_mem _ hz)]
      obtain ⟨x, rfl⟩ := hl y List.mem_cons_self
      rw [hg]
  have hx : ∀ y ∈ ys ++ zs, ∃ x, y = f x := fun y hy => by
    obtain ⟨x, _, rfl⟩ := List.mem_map.mp (h.mem_iff.mp hy)
    exact ⟨x, rfl⟩
  refine ⟨ys.map g, zs.map g, hm fun y hy => hx y (List.mem_append_left _ hy), hm fun y hy => hx y (List.mem_append_right _ hy), ?_⟩
  have z := h.map g
  rw [List.map_append, List.map_map, show (g ∘ f) = id from funext hg, List.map_id] at z
  exact z
def unS : PV → Str
  | .str x => x
  | _ => ""
def pool14 : List Str := ["a", "b", "c", "ann", "bob", "met", "open", "people", "heard", "in", "out", "zzzzzzzz", "x", "not"]
theorem pool_nd : pool14.Nodup := by decide +kernel
theorem pool_ok : ∀ x ∈ pool14, OkS x := by
  have e : pool14.all (fun x => PyData.strOk x && decide (x.length ≤ 20)) = true := by decide +kernel
  intro x hx
  have z := List.all_eq_true.mp e x hx
  rw [Bool.and_eq_true, decide_eq_true_eq] at z
  exact z
section
variable {tk : SS} {N : Nat} {p : PV}
theorem names_ok (T : TakeOk tk) {m : Nat} (hp : Pot N p) (hN : N + m ≤ 1000000) (hm : m ≤ 14) : ∃ (ps : List Str) (p' : PV), runW (F__law_names tk) 2 1 p [.int (m : Nat)] = .ok (.lst (ps.map .str)) p' ∧ ps.length = m ∧ ps.Nodup ∧ (∀ x ∈ ps, x ∈ pool14) ∧ Pot (N + m) p' := by
  obtain ⟨ys, p', e, l, ⟨zs, hP⟩, hp'⟩ := some_ok' T (pool := .lst (pool14.map .str)) (xs := pool14.map .str) (m := m) hp hN rfl (by decide) hm
  obtain ⟨ps, qs, rfl, rfl, hQ⟩ := perm_map (f := PV.str) unS (fun _ => rfl) hP
  have nd := hQ.nodup_iff.mpr pool_nd
  refine ⟨ps, p', ?_, by rw [List.length_map] at l; exact l, (List.nodup_append.mp nd).1, fun x hx => hQ.mem_iff.mp (List.mem_append_left _ hx), hp'⟩
  refine runW_ok (Γ1 := [.ow true p', .va (.int (m : Nat)), .va (.lst (pool14.map .str))]) rfl ?_ rfl
  show F__law_names tk [.ow true p, .va (.int (m : Nat)), .un] = _
  unfold F__law_names
  exact seq_nx (Γ1 := [.ow true p, .va (.int (m : Nat)), .va (.lst (pool14.map .str))]) (by walk_at "ev") (ret_ok (callW_ok (p := p) rfl (by walk_at "ev") rfl e rfl))
/-! timelines -/
end
end QX

set_option Elab.async false
set_option linter.all false
set_option maxRecDepth 100000
set_option maxHeartbeats 4000000
namespace QX
open PySem PySem.Spec PySem.W PySem.Calls PyProof.Rows L2 MX
/-! ### the law's own look -/
section
variable {tk : SS} {N : Nat} {p : PV} {ps : List Str} {es : List Evt}
end
end QX

set_option Elab.async false
set_option linter.all false
set_option maxRecDepth 100000
set_option maxHeartbeats 4000000
namespace QX
open PySem PySem.Spec PySem.W PySem.Calls PyProof.Rows L2 MX
/-! ### pairs, who is there -/
theorem cut_from {α : Type} {xs : List α} {k : Nat} (h : k ≤ xs.length) : cutP xs (some (k : Nat)) none = xs.drop k := by
  unfold cutP
  have e : HT.sIx xs.length 0 (some ((k : Nat) : Int)) = k := by
    show (if ((k : Nat) : Int) < 0 then (((k : Nat) : Int) + (xs.length : Nat)).toNat else min ((k : Nat) : Int).toNat xs.length) = k
    rw [if_neg (by omega)]
    omega
  rw [e]
  show (xs.drop k).take (xs.length - k) = _
  rw [List.take_of_length_le (by rw [List.length_drop]; omega)]
theorem cut_to {α : Type} {xs : List α} {k : Nat} (h : k ≤ xs.length) : cutP xs none (some (k : Nat)) = xs.take k := by
  unfold cutP
  have e : HT.sIx xs.length xs.length (some ((k : Nat) : Int)) = k := by
    show (if ((k : Nat) : Int) < 0 then (((k : Nat) : Int) + (xs.length : Nat)).toNat else min ((k : Nat) : Int).toNat xs.length) = k
    rw [if_neg (by omega)]
    omega
  rw [e]
  show (xs.drop 0).take (k - 0) = _
  rw [List.drop_zero, Nat.sub_zero]
section
variable {tk : SS} {N : Nat} {p : PV} {ps : List Str} {es : List Evt}
/-- who is there at an event -/
def thereB (es : List Evt) (e : Evt) (n : Str) : Bool := decide (n ≠ e.1) && (decide (es.idxOf (n, ("in" : Str)) < es.idxOf e) && decide (es.idxOf e < es.idxOf (n, ("out" : Str))))
end
end QX

set_option Elab.async false
set_option linter.all false
set_option maxRecDepth 100000
set_option maxHeartbeats 4000000
namespace QX
open PySem PySem.Spec PySem.W PySem.Calls PyProof.Rows L2 MX
/-! ### drawn halls -/
def lstL (g : List Str) : PV := .lst (g.map .str)
def swp (q : Evt) : Evt := (q.2, q.1)
/-- lines met, pairs open, as they are drawn beside a timeline -/
structure Core (ps : List Str) (mets : List (List Str)) (ops : List Evt) (es : List Evt) : Prop where
  gok : ∀ g ∈ mets, 2 ≤ g.length ∧ g.Nodup ∧ ∀ x ∈ g, x ∈ ps
  few : mets.length ≤ 20
  qok : ∀ q ∈ ops, q.1 ∈ ps ∧ q.2 ∈ ps ∧ q.1 ≠ q.2
  opsl : ops.length ≤ 4
  once : ops.Pairwise fun q r => q ≠ r ∧ q ≠ swp r
  free : ∀ q ∈ ops, ∀ g ∈ mets, ¬ (q.1 ∈ g ∧ q.2 ∈ g)
  yes : ∀ g ∈ mets, ∀ a ∈ g, ∀ b ∈ g, a ≠ b → meetB es a b = true
  no : ∀ a ∈ ps, ∀ b ∈ ps, a ≠ b → (∀ g ∈ mets, ¬ (a ∈ g ∧ b ∈ g)) → (a, b) ∉ ops → (b, a) ∉ ops → meetB es a b = false
section
variable {ps : List Str} {es : List Evt}
end
end QX

set_option Elab.async false
set_option linter.all false
set_option maxRecDepth 100000
set_option maxHeartbeats 4000000
namespace QX
open PySem PySem.Spec PySem.W PySem.Calls PyProof.Rows L2 MX
/-! ### drawn halls, drawn -/
structure Lore (m : Nat) (ps : List Str) (mets : List (List Str)) (ops es : List Evt) : Prop where
  one : 1 ≤ ps.length
  most : ps.length ≤ m
  nine : ps.length ≤ 9
  nd : ps.Nodup
  pool : ∀ x ∈ ps, x ∈ pool14
  vt : VT ps es
  core : Core ps mets ops es
theorem Lore.ok {m : Nat} {ps : List Str} {mets : List (List Str)} {ops es : List Evt} (h : Lore m ps mets ops es) : ∀ x ∈ ps, OkS x := fun x hx => pool_ok x (h.pool x hx)
section
variable {tk : SS} {N : Nat} {p : PV} {ps : List Str} {es : List Evt}
end
end QX

set_option Elab.async false
set_option linter.all false
set_option maxRecDepth 100000
set_option maxHeartbeats 4000000
namespace QX
open PySem PySem.Spec PySem.W PySem.Calls PyProof.Rows L2 MX
section
variable {tk : SS} {N : Nat} {p : PV} {ps : List Str} {es : List Evt}
end
end QX

set_option Elab.async false
set_option linter.all false
set_option maxRecDepth 100000
set_option maxHeartbeats 4000000
namespace QX
open PySem PySem.Spec PySem.W PySem.Calls PyProof.Rows L2 MX
section
variable {tk : SS} {N : Nat} {p : PV} {ps : List Str} {es : List Evt}
end
end QX

set_option Elab.async false
set_option linter.all false
set_option maxRecDepth 100000
set_option maxHeartbeats 4000000
namespace MX
open PySem PySem.Spec PySem.W PySem.Calls PyProof.Rows L2
/-! ### what is told of a pair, by the lines -/
def pk (a b : Str) : List Key := [Sum.inr a, Sum.inr b]
theorem pk_inj {a b c d : Str} (h : pk a b = pk c d) : a = c ∧ b = d := by
  unfold pk at h
  injection h with h1 h2
  injection h2 with h2 _
  exact ⟨Sum.inr.inj h1, Sum.inr.inj h2⟩
theorem val_tell1 (a b x y w : Str) (T : Tm) : valV (tell1 x y w T) (pk a b) = if x = a ∧ y = b ∧ a ≠ b then some (.str w) else valV T (pk a b) := by
  unfold tell1
  by_cases h : x = y
  · rw [if_pos h, if_neg (fun ⟨h1, h2, h3⟩ => h3 (by rw [← h1, ← h2, h]))]
  · rw [if_neg h]
    show valV (putK T (pk x y) (.str w)) (pk a b) = _
    rw [valV_put]
    by_cases h2 : pk a b = pk x y
    · obtain ⟨e1, e2⟩ := pk_inj h2
      rw [if_pos h2, if_pos ⟨e1.symm, e2.symm, by rw [e1, e2]; exact h⟩]
    · rw [if_neg h2, if_neg (fun ⟨h3, h4, _⟩ => h2 (by rw [h3, h4]))]
theorem val_tellR (a b x w : Str) : ∀ (ys : List Str) (T : Tm), valV (tellR x w ys T) (pk a b) = if x = a ∧ b ∈ ys ∧ a ≠ b then some (.str w) else valV T (pk a b)
  | [], T => by
    rw [if_neg (fun z => by cases z.2.1)]
    rfl
  | y :: ys, T => by
    show valV (tellR x w ys (tell1 x y w T)) (pk a b) = _
    rw [val_tellR a b x w ys, val_tell1]
    by_cases h1 : x = a
    · by_cases h2 : a ≠ b
      · by_cases h3 : b ∈ ys
        · rw [if_pos ⟨h1, h3, h2⟩, if_pos ⟨h1, List.mem_cons_of_mem _ h3, h2⟩]
        · rw [if_neg (fun z => h3 z.2.1)]
          by_cases h4 : y = b
          · rw [if_pos ⟨h1, h4, h2⟩, if_pos ⟨h1, by rw [h4]; exact List.mem_cons_self, h2⟩]
          · rw [if_neg (fun z => h4 z.2.1), if_neg (fun z => (List.mem_cons.mp z.2.1).elim (fun q => h4 q.symm) h3)]
      · rw [if_neg (fun z => h2 z.2.2), if_neg (fun z => h2 z.2.2), if_neg (fun z => h2 z.2.2)]
    · rw [if_neg (fun z => h1 z.1), if_neg (fun z => h1 z.1), if_neg (fun z => h1 z.1)]
theorem val_tellA (a b w : Str) (ys : List Str) : ∀ (xs : List Str) (T : Tm), valV (tellA ys xs w T) (pk a b) = if a ∈ xs ∧ b ∈ ys ∧ a ≠ b then some (.str w) else valV T (pk a b)
  | [], T => by
    rw [if_neg (fun z => by cases z.1)]
    rfl
  | x :: xs, T => by
    show valV (tellA ys xs w (tellR x w ys T)) (pk a b) = _
    rw [val_tellA a b w ys xs, val_tellR]
    by_cases h2 : b ∈ ys ∧ a ≠ b
    · by_cases h3 : a ∈ xs
      · rw [if_pos ⟨h3, h2.1, h2.2⟩, if_pos ⟨List.mem_cons_of_mem _ h3, h2.1, h2.2⟩]
      · rw [if_neg (fun z => h3 z.1)]
        by_cases h4 : x = a
        · rw [if_pos ⟨h4, h2.1, h2.2⟩, if_pos ⟨by rw [h4]; exact List.mem_cons_self, h2.1, h2.2⟩]
        · rw [if_neg (fun z => h4 z.1), if_neg (fun z => (List.mem_cons.mp z.1).elim (fun q => h4 q.symm) h3)]
    · rw [if_neg (fun z => h2 z.2), if_neg (fun z => h2 z.2), if_neg (fun z => h2 z.2)]
/-- the lines taken so far tell of the pair -/
def isTold {α : Type} [DecidableEq α] (L : List (List α)) (a b : α) : Bool := L.any fun xs => decide (a ∈ xs) && (decide (b ∈ xs) && decide (a ≠ b))
/-- T is what the lines L told -/
def TellsL (T : Tm) (L : List (List Str)) : Prop := ∀ a b, (valV T (pk a b)).isSome = isTold L a b
theorem TellsL.nil : TellsL [] [] := fun _ _ => rfl
/-! ### lines of a word and names; the reading of them over any names -/
def bare (r : Nat ⊕ (Ops × MX.Tm)) : Nat ⊕ Unit := match r with
  | .inl m => .inl m
  | .inr _ => .inr ()
/-! ### other names, the same reading -/
section
variable {α β : Type} [DecidableEq α] [DecidableEq β] {g : α → β} {S : α → Prop}
end
end MX

set_option Elab.async false
set_option linter.all false
set_option maxRecDepth 100000
set_option maxHeartbeats 4000000
namespace MX
open PySem PySem.Spec PySem.W PySem.Calls PyProof.Rows L2
/-! ### texts made of lines, lines made of words -/
/-- no blank, no line feed -/
def Clean (x : Str) : Prop := 32 ∉ TL.tl x ∧ 10 ∉ TL.tl x
theorem mem_joinL {c : Nat} {S : List Nat} : ∀ {ps : List (List Nat)}, c ∈ TL.joinL S ps → c ∈ S ∨ ∃ p ∈ ps, c ∈ p
  | [], h => by cases h
  | [p], h => .inr ⟨p, List.mem_cons_self, h⟩
  | p :: q :: r, h => by
    have h' : c ∈ p ++ (S ++ TL.joinL S (q :: r)) := h
    rcases List.mem_append.mp h' with h | h
    · exact .inr ⟨p, List.mem_cons_self, h⟩
    · rcases List.mem_append.mp h with h | h
      · exact .inl h
      · rcases mem_joinL h with h | ⟨y, hy, h⟩
        · exact .inl h
        · exact .inr ⟨y, List.mem_cons_of_mem _ hy, h⟩
theorem row_clean {ws : List Str} (h : ∀ w ∈ ws, Clean w) : 10 ∉ TL.tl (Txt.join " " ws) := by
  rw [TL.join_eq, TL.tl_join]
  intro z
  rcases mem_joinL z with z | ⟨p, hp, z⟩
  · exact absurd z (by decide +kernel)
  · obtain ⟨w, hw, rfl⟩ := List.mem_map.mp hp
    exact (h w hw).2 z
theorem row_split {ws : List Str} (ne : ws ≠ []) (h : ∀ w ∈ ws, Clean w) : Txt.split (Txt.join " " ws) " " = ws :=
  TL.split_join (s := 32) (S := []) (by decide +kernel) (by decide +kernel) ne fun p hp => (h p hp).1
theorem text_split {wss : List (List Str)} (ne : wss ≠ []) (h : ∀ ws ∈ wss, ∀ w ∈ ws, Clean w) : Txt.split (Txt.join "\n" (wss.map (Txt.join " "))) "\n" = wss.map (Txt.join " ") := by
  refine TL.split_join (s := 10) (S := []) (by decide +kernel) (by decide +kernel) (by simpa using ne) fun p hp => ?_
  obtain ⟨ws, hw, rfl⟩ := List.mem_map.mp hp
  exact row_clean (h ws hw)
theorem lines_of {wss : List (List Str)} (ne : wss ≠ []) (ne2 : ∀ ws ∈ wss, ws ≠ []) (h : ∀ ws ∈ wss, ∀ w ∈ ws, Clean w) : hallLines (Txt.join "\n" (wss.map (Txt.join " "))) = wss := by
  unfold hallLines
  rw [text_split ne h, List.map_map]
  conv => rhs; rw [← List.map_id wss]
  exact List.map_congr_left fun ws hw => row_split (ne2 ws hw) (h ws hw)
theorem len_tl (x : Str) : x.length = (TL.tl x).length := (Array.length_toList).symm
theorem joinL_len {S : List Nat} : ∀ ps : List (List Nat), (TL.joinL S ps).length ≤ (ps.map List.length).sum + ps.length * S.length
  | [] => by simp [TL.joinL]
  | [p] => by simp [TL.joinL]
  | p :: q :: r => by
    have z := joinL_len (S := S) (q :: r)
    show (p ++ (S ++ TL.joinL S (q :: r))).length ≤ (p.length + ((q :: r).map List.length).sum) + ((q :: r).length + 1) * S.length
    rw [List.length_append, List.length_append, Nat.succ_mul]
    omega
theorem sum_le {α : Type} {f : α → Nat} {m : Nat} : ∀ xs : List α, (∀ x ∈ xs, f x ≤ m) → (xs.map f).sum ≤ xs.length * m
  | [], _ => by simp
  | x :: xs, h => by
    have z := sum_le xs fun y hy => h y (List.mem_cons_of_mem _ hy)
    have z2 := h x List.mem_cons_self
    rw [List.map_cons, List.sum_cons, List.length_cons, Nat.succ_mul]
    omega
theorem join_len {sep : Str} {ps : List Str} {m k : Nat} (h : ∀ p ∈ ps, p.length ≤ m) (hk : sep.length ≤ k) : (Txt.join sep ps).length ≤ ps.length * (m + k) := by
  rw [len_tl, TL.join_eq, TL.tl_join]
  have z := joinL_len (S := TL.tl sep) (ps.map TL.tl)
  have z2 : ((ps.map TL.tl).map List.length).sum ≤ ps.length * m := by
    rw [List.map_map]
    exact sum_le ps fun p hp => by
      have q := h p hp
      rw [len_tl] at q
      exact q
  rw [List.length_map] at z
  have z3 : ps.length * (TL.tl sep).length ≤ ps.length * k := Nat.mul_le_mul_left _ (by rw [← len_tl]; exact hk)
  rw [Nat.mul_add]
  omega
/-- a text of short lines of short clean words may be read -/
theorem text_ok {wss : List (List Str)} (ne : wss ≠ []) (ne2 : ∀ ws ∈ wss, ws ≠ []) (h : ∀ ws ∈ wss, ∀ w ∈ ws, Clean w ∧ w.length ≤ 20) (few : wss.length ≤ 100) (short : ∀ ws ∈ wss, ws.length ≤ 100) :
    TextOk (Txt.join "\n" (wss.map (Txt.join " "))) ∧ ((wss.map (Txt.join " ")).map (·.length)).sum + (wss.map (Txt.join " ")).length * (("\n" : Str)).length ≤ 16777216 := by
  have hc : ∀ ws ∈ wss, ∀ w ∈ ws, Clean w := fun ws hw w hm => (h ws hw w hm).1
  have hl : ∀ ws ∈ wss, (Txt.join " " ws).length ≤ 2100 := fun ws hw => by
    have z := join_len (sep := " ") (k := 1) (fun p hp => (h ws hw p hp).2) (by decide +kernel)
    have z2 := short ws hw
    omega
  have hl2 : ∀ p ∈ wss.map (Txt.join " "), p.length ≤ 2100 := fun p hp => by
    obtain ⟨ws, hw, rfl⟩ := List.mem_map.mp hp
    exact hl ws hw
  have eL := lines_of ne ne2 hc
  have eT := text_split ne hc
  have n1 : (("\n" : Str)).length ≤ 1 := by decide +kernel
  refine ⟨⟨?_, ?_, ?_, ?_, ?_⟩, ?_⟩
  · have z := join_len (sep := "\n") (k := 1) hl2 n1
    rw [List.length_map] at z
    omega
  · rw [eL]; omega
  · rw [eL]
    exact List.length_pos_iff.mpr ne
  · rw [eT]
    intro l hm
    have := hl2 l hm
    omega
  · rw [eL]
    intro ws hw
    refine ⟨List.length_pos_iff.mpr (ne2 ws hw), short ws hw, fun w hm => ?_⟩
    have := (h ws hw w hm).2
    omega
  · have z := sum_le (f := fun x : Str => x.length) (m := 2100) (wss.map (Txt.join " ")) hl2
    have z2 := Nat.mul_le_mul_left (wss.map (Txt.join " ")).length n1
    rw [List.length_map] at z z2 ⊢
    omega
end MX

set_option Elab.async false
set_option linter.all false
set_option maxRecDepth 100000
set_option maxHeartbeats 4000000
namespace QX
open PySem PySem.Spec PySem.W PySem.Calls PyProof.Rows L2 MX
/-! ### the text of a drawn hall, read -/
def tellM (ms : List (List Str)) (T : MX.Tm) : MX.Tm := ms.foldl (fun T g => tellA g g "met" T) T
def tellO (os : List Evt) (T : MX.Tm) : MX.Tm := os.foldl (fun T q => tellA [q.1, q.2] [q.1, q.2] "open" T) T
theorem val_tellM (a b : Str) : ∀ (ms : List (List Str)) (T : MX.Tm), a ≠ b → valV (tellM ms T) (pk a b) = if (∃ g ∈ ms, a ∈ g ∧ b ∈ g) then some (.str "met") else valV T (pk a b)
  | [], T, _ => by simp [tellM]
  | g :: ms, T, ab => by
    show valV (tellM ms (tellA g g "met" T)) (pk a b) = _
    rw [val_tellM a b ms _ ab, val_tellA]
    by_cases c : ∃ g ∈ ms, a ∈ g ∧ b ∈ g
    · rw [if_pos c, if_pos]
      obtain ⟨g', m, z⟩ := c
      exact ⟨g', List.mem_cons_of_mem _ m, z⟩
    · rw [if_neg c]
      by_cases c2 : a ∈ g ∧ b ∈ g
      · rw [if_pos ⟨c2.1, c2.2, ab⟩, if_pos ⟨g, List.mem_cons_self, c2⟩]
      · rw [if_neg (fun z => c2 ⟨z.1, z.2.1⟩), if_neg]
        rintro ⟨g', m, z⟩
        rcases List.mem_cons.mp m with e | m
        · rw [e] at z; exact c2 z
        · exact c ⟨g', m, z⟩
/-- only texts are told -/
def allS (T : MX.Tm) : Prop := ∀ e ∈ T, ∃ w, e.2 = V.str w
theorem allS_put {T : MX.Tm} {k : List Key} {w : Str} (h : allS T) : allS (putK T k (.str w)) := fun e he => by
  unfold putK at he
  split at he
  · obtain ⟨e', he', z⟩ := List.mem_map.mp he
    split at z
    · rw [← z]; exact ⟨w, rfl⟩
    · rw [← z]; exact h e' he'
  · rcases List.mem_append.mp he with he | he
    · exact h e he
    · rw [List.mem_singleton.mp he]; exact ⟨w, rfl⟩
theorem allS_1 {T : MX.Tm} {x y w : Str} (h : allS T) : allS (tell1 x y w T) := by
  unfold tell1
  split
  · exact h
  · exact allS_put h
theorem allS_R {x w : Str} : ∀ (ys : List Str) {T : MX.Tm}, allS T → allS (tellR x w ys T)
  | [], T, h => h
  | y :: ys, T, h => allS_R ys (T := tell1 x y w T) (allS_1 h)
theorem allS_A {w : Str} {ys : List Str} : ∀ (xs : List Str) {T : MX.Tm}, allS T → allS (tellA ys xs w T)
  | [], T, h => h
  | x :: xs, T, h => allS_A xs (T := tellR x w ys T) (allS_R ys h)
theorem allS_M : ∀ (ms : List (List Str)) {T : MX.Tm}, allS T → allS (tellM ms T)
  | [], T, h => h
  | g :: ms, T, h => allS_M ms (T := tellA g g "met" T) (allS_A g h)
theorem allS_O : ∀ (os : List Evt) {T : MX.Tm}, allS T → allS (tellO os T)
  | [], T, h => h
  | q :: os, T, h => allS_O os (T := tellA [q.1, q.2] [q.1, q.2] "open" T) (allS_A _ h)
theorem allS_vPs : ∀ {vs : List V}, (∀ v ∈ vs, ∃ w, v = V.str w) → ∃ ws, vPs vs = some ws
  | [], _ => ⟨[], rfl⟩
  | v :: vs, h => by
    obtain ⟨w, rfl⟩ := h v List.mem_cons_self
    obtain ⟨ws, e⟩ := allS_vPs fun v hv => h v (List.mem_cons_of_mem _ hv)
    exact ⟨.str w :: ws, by show (match vP (V.str w), vPs vs with | some a, some b => some (a :: b) | _, _ => none) = _; rw [e]; rfl⟩
abbrev metW (g : List Str) : List Str := ("met" : Str) :: g
abbrev openW (q : Evt) : List Str := [("open" : Str), q.1, q.2]
theorem run_mets {ps : List Str} {rest : List (List Str)} : ∀ {ms : List (List Str)} {n : Nat} {T : MX.Tm}, n + ms.length ≤ 22 → (∀ g ∈ ms, 2 ≤ g.length ∧ g.Nodup ∧ ∀ x ∈ g, x ∈ ps) → runT ps n (ms.map metW ++ rest) ([], T) = runT ps (n + ms.length) rest ([], tellM ms T)
  | [], n, T, _, _ => rfl
  | g :: ms, n, T, hn, h => by
    obtain ⟨h1, h2, h3⟩ := h g List.mem_cons_self
    rw [List.length_cons] at hn
    have hm : metB (metW g) ps = true := by
      unfold metB headIs amongB
      show (decide (some ("met" : Str) = some ("met" : Str)) && (decide (2 ≤ g.length) && (decide g.Nodup && g.all fun x => decide (x ∈ ps)))) = true
      rw [decide_eq_true rfl, decide_eq_true h1, decide_eq_true h2, List.all_eq_true.mpr fun x hx => decide_eq_true (h3 x hx)]
      rfl
    show (match MX.stepT ps n (metW g) ([], T) with | none => Sum.inl n | some ot' => runT ps (n + 1) (ms.map metW ++ rest) ot') = _
    have e : MX.stepT ps n (metW g) ([], T) = some ([], tellA g g "met" T) := by
      unfold MX.stepT
      rw [if_pos (by rw [hm, decide_eq_true (show n ≤ 21 by omega)]; rfl)]
      rfl
    rw [e]
    show runT ps (n + 1) (ms.map metW ++ rest) ([], tellA g g "met" T) = _
    rw [run_mets (by omega) fun g hg => h g (List.mem_cons_of_mem _ hg), List.length_cons, show n + (ms.length + 1) = n + 1 + ms.length by omega]
    rfl
theorem run_opens {ps : List Str} : ∀ {qs : List Evt} {n : Nat} {os : Ops} {T : MX.Tm}, os.length + qs.length ≤ 4 → (∀ q ∈ qs, q.1 ∈ ps ∧ q.2 ∈ ps ∧ q.1 ≠ q.2) → (qs.Pairwise fun q r => q ≠ r ∧ q ≠ swp r) → (∀ q ∈ qs, valV T (pk q.1 q.2) = none) →
    runT ps n (qs.map openW) (os, T) = .inr (os ++ qs.map (fun q => [q.1, q.2]), tellO qs T)
  | [], n, os, T, _, _, _, _ => by rw [List.map_nil, List.map_nil, List.append_nil]; rfl
  | q :: qs, n, os, T, hl, h, hp, hv => by
    obtain ⟨h1, h2, h3⟩ := h q List.mem_cons_self
    rw [List.length_cons] at hl
    obtain ⟨hp1, hp2⟩ := List.pairwise_cons.mp hp
    have hnm : metB (openW q) ps = false := by
      unfold metB headIs
      show (decide (some ("open" : Str) = some ("met" : Str)) && _) = false
      rw [show decide (some ("open" : Str) = some ("met" : Str)) = false from by decide +kernel]
      rfl
    have ho : openB (openW q) ps T = true := by
      unfold openB headIs amongB
      show (decide (some ("open" : Str) = some ("open" : Str)) && (decide ([q.1, q.2].length = 2) && ((decide ([q.1, q.2] : List Str).Nodup && [q.1, q.2].all fun x => decide (x ∈ ps)) && (valV T (pk q.1 q.2)).isNone))) = true
      rw [hv q List.mem_cons_self, decide_eq_true rfl, decide_eq_true (show ([q.1, q.2] : List Str).Nodup by simp [h3])]
      simp [h1, h2]
    have e : MX.stepT ps n (openW q) (os, T) = some (os ++ [[q.1, q.2]], tellA [q.1, q.2] [q.1, q.2] "open" T) := by
      unfold MX.stepT
      rw [if_neg (by rw [hnm]; simp), if_pos (by rw [ho, decide_eq_true (show (os, T).1.length < 4 by show os.length < 4; omega)]; rfl)]
      rfl
    show (match MX.stepT ps n (openW q) (os, T) with | none => Sum.inl n | some ot' => runT ps (n + 1) (qs.map openW) ot') = _
    rw [e]
    show runT ps (n + 1) (qs.map openW) (os ++ [[q.1, q.2]], tellA [q.1, q.2] [q.1, q.2] "open" T) = _
    rw [run_opens (by rw [List.length_append, List.length_singleton]; omega) (fun q hq => h q (List.mem_cons_of_mem _ hq)) hp2 (fun r hr => ?_), List.append_assoc]
    · rfl
    · rw [val_tellA, if_neg]
      · exact hv r (List.mem_cons_of_mem _ hr)
      · rintro ⟨z1, z2, z3⟩
        have m1 : r.1 = q.1 ∨ r.1 = q.2 := by simpa using z1
        have m2 : r.2 = q.1 ∨ r.2 = q.2 := by simpa using z2
        obtain ⟨p1, p2⟩ := hp1 r hr
        rcases m1 with m1 | m1 <;> rcases m2 with m2 | m2
        · exact z3 (m1.trans m2.symm)
        · exact p1 (Prod.ext m1.symm m2.symm)
        · exact p2 (Prod.ext m2.symm m1.symm)
        · exact z3 (m1.trans m2.symm)
/-- the rows of words of a hall's text -/
def rowsW (ps : List Str) (mets : List (List Str)) (ops : List Evt) : List (List Str) := (("people" : Str) :: ps) :: (mets.map metW ++ ops.map openW)
def textL (ps : List Str) (mets : List (List Str)) (ops : List Evt) : Str := Txt.join "\n" ((rowsW ps mets ops).map (Txt.join " "))
theorem clean_all : (("people" : Str) :: "met" :: "open" :: pool14).all (fun x => !(TL.tl x).contains 32 && !(TL.tl x).contains 10 && decide (x.length ≤ 20)) = true := by decide +kernel
theorem clean_of {x : Str} (h : x ∈ ("people" : Str) :: "met" :: "open" :: pool14) : Clean x ∧ x.length ≤ 20 := by
  have z := List.all_eq_true.mp clean_all x h
  simp only [Bool.and_eq_true, Bool.not_eq_true', decide_eq_true_eq] at z
  refine ⟨⟨fun m => ?_, fun m => ?_⟩, z.2⟩
  · have w := List.contains_iff_mem.mpr m
    rw [z.1.1] at w
    cases w
  · have w := List.contains_iff_mem.mpr m
    rw [z.1.2] at w
    cases w
theorem names_all : pool14.all nameB = true := by decide +kernel
section
variable {m : Nat} {ps : List Str} {mets : List (List Str)} {ops es : List Evt}
theorem Lore.words (h : Lore m ps mets ops es) : ∀ ws ∈ rowsW ps mets ops, ws ≠ [] ∧ ws.length ≤ 10 ∧ ∀ w ∈ ws, Clean w ∧ w.length ≤ 20 := fun ws hws => by
  have cp : ∀ x ∈ ps, Clean x ∧ x.length ≤ 20 := fun x hx => clean_of (by simp [h.pool x hx])
  have nine := h.nine
  rcases List.mem_cons.mp hws with e | hws
  · rw [e]
    refine ⟨by simp, by rw [List.length_cons]; omega, fun w hw => ?_⟩
    rcases List.mem_cons.mp hw with e | hw
    · rw [e]; exact clean_of (by simp)
    · exact cp w hw
  · rcases List.mem_append.mp hws with hws | hws
    · obtain ⟨g, hg, rfl⟩ := List.mem_map.mp hws
      obtain ⟨g1, g2, g3⟩ := h.core.gok g hg
      have : g.length ≤ ps.length := List.Nodup.length_le_of_subset g2 g3
      refine ⟨by simp, by rw [List.length_cons]; omega, fun w hw => ?_⟩
      rcases List.mem_cons.mp hw with e | hw
      · rw [e]; exact clean_of (by simp)
      · exact cp w (g3 w hw)
    · obtain ⟨q, hq, rfl⟩ := List.mem_map.mp hws
      obtain ⟨q1, q2, _⟩ := h.core.qok q hq
      refine ⟨by simp, by simp, fun w hw => ?_⟩
      simp only [List.mem_cons, List.not_mem_nil, or_false] at hw
      rcases hw with e | e | e
      · rw [e]; exact clean_of (by simp)
      · rw [e]; exact cp _ q1
      · rw [e]; exact cp _ q2
theorem Lore.rowsLen (h : Lore m ps mets ops es) : (rowsW ps mets ops).length ≤ 25 := by
  have := h.core.few
  have := h.core.opsl
  unfold rowsW
  rw [List.length_cons, List.length_append, List.length_map, List.length_map]
  omega
theorem Lore.textOk (h : Lore m ps mets ops es) : TextOk (textL ps mets ops) ∧ (((rowsW ps mets ops).map (Txt.join " ")).map (·.length)).sum + ((rowsW ps mets ops).map (Txt.join " ")).length * (("\n" : Str)).length ≤ 16777216 := by
  have := h.rowsLen
  exact text_ok (by unfold rowsW; simp) (fun ws hw => (h.words ws hw).1) (fun ws hw => (h.words ws hw).2.2) (by omega) (fun ws hw => by have := (h.words ws hw).2.1; omega)
theorem Lore.lines (h : Lore m ps mets ops es) : hallLines (textL ps mets ops) = rowsW ps mets ops :=
  lines_of (by unfold rowsW; simp) (fun ws hw => (h.words ws hw).1) fun ws hw w hm => ((h.words ws hw).2.2 w hm).1
/-- what is told of pairs -/
def toldT (mets : List (List Str)) (ops : List Evt) : MX.Tm := tellO ops (tellM mets [])
theorem Lore.parse (h : Lore m ps mets ops es) : parseH (textL ps mets ops) = .inr (ops.map (fun q => [q.1, q.2]), toldT mets ops) ∧ peopleOf (textL ps mets ops) = ps := by
  have hp : peopleB (("people" : Str) :: ps) = true := by
    unfold peopleB headIs
    show (decide (some ("people" : Str) = some ("people" : Str)) && (decide (1 ≤ ps.length) && (decide (ps.length ≤ 9) && (decide ps.Nodup && ps.all nameB)))) = true
    rw [decide_eq_true rfl, decide_eq_true h.one, decide_eq_true h.nine, decide_eq_true h.nd, List.all_eq_true.mpr fun x hx => List.all_eq_true.mp names_all x (h.pool x hx)]
    rfl
  constructor
  · unfold parseH
    rw [h.lines]
    show (if peopleB (("people" : Str) :: ps) = true then runT ps 2 (mets.map metW ++ ops.map openW) ([], []) else Sum.inl 1) = _
    have few := h.core.few
    have opsl := h.core.opsl
    rw [if_pos hp, run_mets (by omega) h.core.gok, run_opens (by simpa using opsl) h.core.qok h.core.once fun q hq => ?_]
    · rfl
    · rw [val_tellM _ _ _ _ (h.core.qok q hq).2.2, if_neg]
      · rfl
      · rintro ⟨g, hg, z⟩
        exact h.core.free q hq g hg z
  · unfold peopleOf
    rw [h.lines]
    rfl
theorem Lore.vals (h : Lore m ps mets ops es) : ∃ ws, vPs ((toldT mets ops).map (·.2)) = some ws := allS_vPs fun v hv => by
  obtain ⟨e, he, rfl⟩ := List.mem_map.mp hv
  exact allS_O ops (allS_M mets (T := []) (fun e he => by cases he)) e he
end
end QX

set_option Elab.async false
set_option linter.all false
set_option maxRecDepth 100000
set_option maxHeartbeats 4000000
namespace QX
open PySem PySem.Spec PySem.W PySem.Calls PyProof.Rows L2 MX
section
variable {m : Nat} {ps : List Str} {mets : List (List Str)} {ops es : List Evt}
abbrev kP4 : Key := Sum.inr ("people" : Str)
abbrev kM4 : Key := Sum.inr ("mets" : Str)
abbrev kO4 : Key := Sum.inr ("opens" : Str)
abbrev kL4 : Key := Sum.inr ("line" : Str)
theorem kk_ne : kP4 ≠ kM4 ∧ kP4 ≠ kO4 ∧ kP4 ≠ kL4 ∧ kM4 ≠ kO4 ∧ kM4 ≠ kL4 ∧ kO4 ≠ kL4 := by decide +kernel
theorem strsOf_map : ∀ ws : List Str, strsOf (ws.map .str) = some ws
  | [] => rfl
  | w :: ws => by
    show (strsOf (ws.map .str)).map (fun xs => w :: xs) = _
    rw [strsOf_map ws]
    rfl
theorem sum_le20 : ∀ ws : List Str, (∀ w ∈ ws, w.length ≤ 20) → (ws.map Str.length).sum ≤ ws.length * 20
  | [], _ => Nat.le_refl _
  | w :: ws, h => by
    have := sum_le20 ws fun x hx => h x (List.mem_cons_of_mem _ hx)
    have := h w List.mem_cons_self
    rw [List.map_cons, List.sum_cons, List.length_cons]
    omega
theorem join_ok {ws : List Str} (h : ∀ w ∈ ws, w.length ≤ 20) (hl : ws.length ≤ 100) : gJoin " " (.lst (ws.map .str)) = some (.str (Txt.join " " ws)) := by
  have := sum_le20 ws h
  have l1 : ((" " : Str)).length = 1 := by decide +kernel
  show (match strsOf (ws.map .str) with
    | some ys => if (ys.map Str.length).sum + ys.length * ((" " : Str)).length ≤ 16777216 then some (PV.str (Txt.join " " ys)) else none
    | none => none) = _
  rw [strsOf_map, l1]
  show (if (ws.map Str.length).sum + ws.length * 1 ≤ 16777216 then some (PV.str (Txt.join " " ws)) else none) = _
  rw [if_pos (by omega)]
end
end QX

set_option Elab.async false
set_option linter.all false
set_option maxRecDepth 100000
set_option maxHeartbeats 4000000
namespace QX
open PySem PySem.Spec PySem.W PySem.Calls PyProof.Rows L2 MX
/-! ### sayings are shown -/
def reprB (p : PV) : Prop := ∃ d, toD p = some d ∧ noL d = true ∧ showB d = true
theorem eq_of {p : PV} (h : same2 p p) : gEq p p = some (.bl true) := by unfold gEq; rw [h.1]; rfl
theorem short_s {B : Nat} {x : Str} (h : PyData.strOk x = true) : PyData.leavesShort B (.str x) = true := by
  unfold PyData.strOk at h
  simp only [PyData.leavesShort, List.all_eq_true, decide_eq_true_iff]
  intro c hc
  have h2 := (Array.all_eq_true_iff_forall_mem.mp h) c (Array.mem_toList_iff.mp hc)
  have h3 := of_decide_eq_true h2
  exact Nat.lt_of_lt_of_le h3 (by decide)
theorem showB_of {d : PyData} (h1 : d.showable = true) (h2 : d.depth ≤ 60) (h3 : d.shown.length ≤ sizeLine) : showB d = true := by
  unfold showB
  rw [h1, decide_eq_true h2, decide_eq_true (by rw [sizeLine_eq] at h3; exact h3)]
  rfl
def s3D (w a b : Str) : PyData := .tuple [.str w, .str a, .str b]
def sbD (w : Str) (e f : Evt) : PyData := .tuple [.str w, evD e, evD f]
theorem data3 {w a b : Str} (hw : OkS w) (ha : OkS a) (hb : OkS b) : reprB (.tup false [.str w, .str a, .str b]) ∧ same2 (.tup false [.str w, .str a, .str b]) (.tup false [.str w, .str a, .str b]) := by
  obtain ⟨w1, w2⟩ := hw
  obtain ⟨a1, a2⟩ := ha
  obtain ⟨b1, b2⟩ := hb
  have w2 : w.cps.size ≤ 20 := w2
  have a2 : a.cps.size ≤ 20 := a2
  have b2 : b.cps.size ≤ 20 := b2
  have hd : toD (.tup false [.str w, .str a, .str b]) = some (s3D w a b) := rfl
  have sh : SeqAt.shaped (s3D w a b) = true := by
    unfold SeqAt.shaped s3D
    simp [PyData.canLay0, PyData.canLayAll0, PyData.depth, PyData.depthAll, w1, a1, b1]
  refine ⟨⟨s3D w a b, hd, rfl, showB_of ?_ ?_ (PyData.shown_fits (B := 8) (by decide) (by decide) ?_ ?_)⟩, ?_⟩
  · simp [s3D, PyData.showable, PyData.showableAll]
  · simp [s3D, PyData.depth, PyData.depthAll]
  · have s1 := short_s (B := 8) w1
    have s2 := short_s (B := 8) a1
    have s3 := short_s (B := 8) b1
    simp only [s3D, PyData.leavesShort, PyData.leavesShortAll] at *
    simp [s1, s2, s3]
  · simp only [s3D, PyData.weight, PyData.weightAll]
    omega
  · refine same2_of hd hd sh sh ?_
    simp [s3D, PyData.eqv, PyData.eqvAll]
theorem dataB {w : Str} {e f : Evt} (hw : OkS w) (he : OkE e) (hf : OkE f) : reprB (.tup false [.str w, evP e, evP f]) ∧ same2 (.tup false [.str w, evP e, evP f]) (.tup false [.str w, evP e, evP f]) := by
  obtain ⟨w1, w2⟩ := hw
  obtain ⟨⟨a1, a2⟩, ⟨b1, b2⟩⟩ := he
  obtain ⟨⟨c1, c2⟩, ⟨d1, d2⟩⟩ := hf
  have w2 : w.cps.size ≤ 20 := w2
  have a2 : e.1.cps.size ≤ 20 := a2
  have b2 : e.2.cps.size ≤ 20 := b2
  have c2 : f.1.cps.size ≤ 20 := c2
  have d2 : f.2.cps.size ≤ 20 := d2
  have hd : toD (.tup false [.str w, evP e, evP f]) = some (sbD w e f) := rfl
  have sh : SeqAt.shaped (sbD w e f) = true := by
    unfold SeqAt.shaped sbD evD
    simp [PyData.canLay0, PyData.canLayAll0, PyData.depth, PyData.depthAll, w1, a1, b1, c1, d1]
  refine ⟨⟨sbD w e f, hd, rfl, showB_of ?_ ?_ (PyData.shown_fits (B := 8) (by decide) (by decide) ?_ ?_)⟩, ?_⟩
  · simp [sbD, evD, PyData.showable, PyData.showableAll]
  · simp [sbD, evD, PyData.depth, PyData.depthAll]
  · have s1 := short_s (B := 8) w1
    have s2 := short_s (B := 8) a1
    have s3 := short_s (B := 8) b1
    have s4 := short_s (B := 8) c1
    have s5 := short_s (B := 8) d1
    simp only [sbD, evD, PyData.leavesShort, PyData.leavesShortAll] at *
    simp [s1, s2, s3, s4, s5]
  · simp only [sbD, evD, PyData.weight, PyData.weightAll]
    omega
  · refine same2_of hd hd sh sh ?_
    simp [sbD, evD, PyData.eqv, PyData.eqvAll]
theorem ok_kw : OkS "met" ∧ OkS "not" ∧ OkS "before" := ⟨⟨by decide +kernel, by decide +kernel⟩, ⟨by decide +kernel, by decide +kernel⟩, ⟨by decide +kernel, by decide +kernel⟩⟩
theorem evB_ok {ps : List Str} (hp : ∀ x ∈ ps, OkS x) {e : Evt} (h : evB ps e = true) : OkE e := by
  unfold evB at h
  rw [Bool.and_eq_true, decide_eq_true_eq, decide_eq_true_eq] at h
  obtain ⟨n, w⟩ := e
  rcases mem_io h.2 with z | z
  · have z : w = "in" := z
    subst z
    exact ⟨hp _ h.1, ok_io.1⟩
  · have z : w = "out" := z
    subst z
    exact ⟨hp _ h.1, ok_io.2⟩
theorem say_data {ps : List Str} (hp : ∀ x ∈ ps, OkS x) {s : Say} (h : okSay ps s) : reprB (sayP s) ∧ same2 (sayP s) (sayP s) := by
  cases s with
  | met w a b =>
    cases w with
    | true => exact data3 ok_kw.1 (hp _ h.1) (hp _ h.2.1)
    | false => exact data3 ok_kw.2.1 (hp _ h.1) (hp _ h.2.1)
  | bef e f => exact dataB ok_kw.2.2 (evB_ok hp h.1) (evB_ok hp h.2.1)
section
variable {tk : SS} {N : Nat} {p : PV}
end
end QX

set_option Elab.async false
set_option linter.all false
set_option maxRecDepth 100000
set_option maxHeartbeats 4000000
namespace QX
open PySem PySem.Spec PySem.W PySem.Calls PyProof.Rows L2 MX
/-! ### sorted -/
theorem sort_ex (es : List Evt) : ∃ l : List Evt, l.Perm es ∧ Sd l := by
  refine ⟨es.mergeSort (fun a b => !evLt b a), List.mergeSort_perm _ _, ?_⟩
  have z := List.pairwise_mergeSort (le := fun a b : Evt => !evLt b a) (fun a b c h1 h2 => ?_) (fun a b => ?_) es
  · exact z.imp fun {a b} h => by simpa using h
  · have h1 : evLt b a = false := by simpa using h1
    have h2 : evLt c b = false := by simpa using h2
    show (!evLt c a) = true
    cases hc : evLt c a with
    | false => rfl
    | true =>
      rcases lex_negTrans (O := itemOrd) (ekc c) (ekc b) (ekc a) hc with z | z
      · have z : evLt c b = true := z
        rw [h2] at z; cases z
      · have z : evLt b a = true := z
        rw [h1] at z; cases z
  · show ((!evLt b a) || !evLt a b) = true
    cases h1 : evLt b a with
    | false => rfl
    | true =>
      cases h2 : evLt a b with
      | false => rfl
      | true =>
        have z := lex_trans (O := itemOrd) (ekc b) (ekc a) (ekc b) h1 h2
        rw [lex_irrefl (O := itemOrd)] at z
        cases z
theorem srtE_p (es : List Evt) : (srtE es).Perm es := by
  obtain ⟨l, p, s⟩ := sort_ex es
  rw [srtE_eq p s]
  exact p
theorem unEvs_evs : ∀ es : List Evt, unEvs (es.map evP) = some es
  | [] => rfl
  | e :: es => by
    show (match unEv (evP e), unEvs (es.map evP) with
    | some e, some es => some (e :: es)
    | _, _ => none) = _
    rw [unEvs_evs es]
    rfl
theorem gSort_ev (es : List Evt) : gSortE [.lst (es.map evP)] = some (.lst ((srtE es).map evP)) := by
  show (unEvs (es.map evP)).map (fun es => PV.lst ((srtE es).map evP)) = _
  rw [unEvs_evs]
  rfl
/-- a comprehension that picks -/
theorem lcL_filt {α : Type} {vs : List Nat} {gt : SG} {t e : SE} {Γw : En} (inj : α → PV) (p : α → Bool) (φ : α → PV) : ∀ {xs : List α}, (∀ x ∈ xs, ∃ Γ1, gt (inj x) (wipeE vs Γw) = .nx Γ1 ∧ t Γ1 = .ok (.bl (p x)) Γ1 ∧ e Γ1 = .ok (φ x) Γ1 ∧ wipeE vs Γ1 = Γw) → lcL vs gt t e (xs.map inj) Γw = .ok ((xs.filter p).map φ) Γw
  | [], _ => rfl
  | x :: xs, h => by
    obtain ⟨Γ1, e1, e2, e3, e4⟩ := h x List.mem_cons_self
    have ih := lcL_filt inj p φ (xs := xs) fun y hy => h y (List.mem_cons_of_mem _ hy)
    rw [List.map_cons]
    unfold lcL
    rw [e1]
    show (match t Γ1 with
      | .ok (.bl true) Γ2 => match e Γ2 with
        | .ok w Γ3 => match lcL vs gt t e (xs.map inj) (wipeE vs Γ3) with
          | .ok ws Γ4 => Rs.ok (w :: ws) Γ4
          | _ => .no
        | _ => .no
      | .ok (.bl false) Γ2 => lcL vs gt t e (xs.map inj) (wipeE vs Γ2)
      | _ => .no) = _
    rw [e2, List.filter_cons]
    cases b : p x with
    | true =>
      show (match e Γ1 with
        | .ok w Γ3 => match lcL vs gt t e (xs.map inj) (wipeE vs Γ3) with
          | .ok ws Γ4 => Rs.ok (w :: ws) Γ4
          | _ => .no
        | _ => .no) = _
      rw [e3]
      show (match lcL vs gt t e (xs.map inj) (wipeE vs Γ1) with
          | .ok ws Γ4 => Rs.ok (φ x :: ws) Γ4
          | _ => .no) = _
      rw [e4, ih]
      rfl
    | false =>
      show lcL vs gt t e (xs.map inj) (wipeE vs Γ1) = _
      rw [e4, ih]
      rfl
/-! ### data -/
theorem eqvAll_refl : ∀ es : List Evt, PyData.eqvAll (es.map evD) (es.map evD) = true
  | [] => by simp [PyData.eqvAll]
  | e :: es => by
    have z := eqv_ev e e
    rw [decide_eq_true rfl] at z
    rw [List.map_cons]
    simp only [PyData.eqvAll, z, eqvAll_refl es, Bool.and_self]
theorem toD_tevs (f : Bool) (es : List Evt) : toD (.tup f (es.map evP)) = some (.tuple (es.map evD)) := by
  unfold toD
  rw [toDs_evs]
  rfl
theorem evs_eq {f g : Bool} {es : List Evt} (h : ∀ e ∈ es, OkE e) : same2 (.tup f (es.map evP)) (.tup g (es.map evP)) := by
  refine same2_of (toD_tevs f es) (toD_tevs g es) (shaped_evs h).1 (shaped_evs h).1 ?_
  simp only [PyData.eqv, eqvAll_refl]
/-! ### the program's looks at timelines -/
section
variable {ps : List Str} {t o d : PV} {es : List Evt}
theorem notIn_hall {x : Str} : gNotInC "Hall" (runV F_Hall_contains 2 0) (.str x) (hallPV ps t o d) = some (.bl (!decide (x ∈ ps))) := by
  show gInOwn "Hall" (runV F_Hall_contains 2 0) true (.str x) (hallPV ps t o d) = _
  unfold gInOwn
  show (if ("Hall" : Str) = "Hall" then (match runV F_Hall_contains 2 0 [hallPV ps t o d, .str x] with
    | .ok (.bl b) => some (PV.bl (if true = true then !b else b))
    | _ => none) else none) = _
  rw [if_pos rfl, contains_ok]
  rfl
theorem reqTwo_ok {a b : Str} (ha : a ∈ ps) (hb : b ∈ ps) (ab : a ≠ b) : runV F_require_two 3 0 [hallPV ps t o d, .str a, .str b] = .ok .non :=
  runV_nx (Γ1 := [.va (hallPV ps t o d), .va (.str a), .va (.str b)]) rfl (by
    show F_require_two [.va (hallPV ps t o d), .va (.str a), .va (.str b)] = _
    unfold F_require_two
    refine seq_nx (ifS_f (bin_ok (by walk_at "ev") (by walk_at "ev") notIn_hall) (by rw [decide_eq_true ha]; rfl) rfl) (ifS_f (b := false) (or2 (b := false) (c := false) (bin_ok (by walk_at "ev") (by walk_at "ev") ?_) fun _ => bin_ok (by walk_at "ev") (by walk_at "ev") ?_) rfl rfl)
    · rw [notIn_hall, decide_eq_true hb]
      rfl
    · rw [gEq_str, decide_eq_false (fun z => ab z.symm)])
theorem metBy_ok {f : Bool} {a b : Str} (h : VT ps es) (h1 : 1 ≤ ps.length) (ha : a ∈ ps) (hb : b ∈ ps) (ab : a ≠ b) : runV F_met_by 4 0 [hallPV ps t o d, .tup f (es.map evP), .str a, .str b] = .ok (.bl (meetB es a b)) := by
  have hl : es.length < 1000000 := by have := h.len; have := h.few; omega
  refine runV_ok (Γ1 := [.va (hallPV ps t o d), .va (.tup f (es.map evP)), .va (.str a), .va (.str b)]) rfl ?_
  show F_met_by [.va (hallPV ps t o d), .va (.tup f (es.map evP)), .va (.str a), .va (.str b)] = _
  unfold F_met_by
  exact seq_nx (expr_ok (call_ok (by walk_at "ev") (reqTimeline_ok h h1))) (seq_nx (expr_ok (call_ok (by walk_at "ev") (reqTwo_ok ha hb ab))) (ret_ok (call_ok (cons_ok (call_ok (by walk_at "ev") (placesOf_ok h.nd hl)) (by walk_at "ev")) (meet_ok h ha hb))))
theorem thereB_io {e : Evt} (h : VT ps es) (he : evB ps e = true) {n : Str} (hn : n ∈ ps) : thereB es e n = (decide (es.idxOf (n, ("in" : Str)) < es.idxOf e) && decide (es.idxOf e < es.idxOf (n, ("out" : Str)))) := by
  unfold thereB
  by_cases c : n = e.1
  · rw [decide_eq_false (by simp [c]), Bool.false_and]
    unfold evB at he
    rw [Bool.and_eq_true, decide_eq_true_eq, decide_eq_true_eq] at he
    obtain ⟨m, w⟩ := e
    have c : n = m := c
    subst c
    rcases mem_io he.2 with z | z
    · have z : w = "in" := z
      subst z
      rw [decide_eq_false (Nat.lt_irrefl _), Bool.false_and]
    · have z : w = "out" := z
      subst z
      rw [decide_eq_false (p := es.idxOf (n, ("out" : Str)) < es.idxOf (n, ("out" : Str))) (Nat.lt_irrefl _), Bool.and_false]
  · rw [decide_eq_true (by simpa using c), Bool.true_and]
theorem thereP_ok {f : Bool} {e : Evt} (h : VT ps es) (h1 : 1 ≤ ps.length) (he : evB ps e = true) : runV F_there 3 3 [hallPV ps t o d, .tup f (es.map evP), evP e] = .ok (.tup true ((ps.filter (thereB es e)).map .str)) := by
  have hl : es.length < 1000000 := by have := h.len; have := h.few; omega
  have hfew := h.few
  have hev : evB ps e = true := he
  refine runV_ok (Γ1 := [.va (hallPV ps t o d), .va (.tup f (es.map evP)), .va (evP e), .va (plP es), .va (.int (es.idxOf e : Nat)), .un]) rfl ?_
  show F_there [.va (hallPV ps t o d), .va (.tup f (es.map evP)), .va (evP e), .un, .un, .un] = _
  unfold F_there
  have hisev := isEvent_ok (ps := ps) (t := t) (o := o) (d := d) (e := e)
  rw [he] at hisev
  refine seq_nx (expr_ok (call_ok (by walk_at "ev") (reqTimeline_ok h h1))) (seq_nx (ifS_f (not_ok (call_ok (by walk_at "ev") hisev)) rfl rfl) (seq_nx (set_ok (call_ok (by walk_at "ev") (placesOf_ok h.nd hl)) rfl rfl) (seq_nx (set_ok (bin_ok (by walk_at "ev") (by walk_at "ev") (get_pl (h.mem he))) rfl rfl) (ret_ok (B_ok (vs := [.lst ((ps.filter (thereB es e)).map .str)]) (z := .tup true ((ps.filter (thereB es e)).map .str)) (cons_ok (lc_ok (vs := [5]) (Γ1 := [.va (hallPV ps t o d), .va (.tup f (es.map evP)), .va (evP e), .va (plP es), .va (.int (es.idxOf e : Nat)), .un]) (Γ2 := [.va (hallPV ps t o d), .va (.tup f (es.map evP)), .va (evP e), .va (plP es), .va (.int (es.idxOf e : Nat)), .un]) (ys := ps.map .str) (ws := (ps.filter (thereB es e)).map .str) (seqT_ok (U_ok (by walk_at "ev") fld_people)) rfl ?_ ?_ rfl) nil_ok) rfl)))))
  · refine lcL_filt .str (thereB es e) .str fun n hn => ?_
    obtain ⟨i1, i2, _⟩ := h.io n hn
    have hc := chain_t (g := gLt) (g' := gLt) (fa := sBin gDict (sAny 3) (sTup (sCons (sAny 5) (sCons (sC (.str "in")) sNil)))) (fb := sAny 4) (fc := sBin gDict (sAny 3) (sTup (sCons (sAny 5) (sCons (sC (.str "out")) sNil)))) (Γ := [.va (hallPV ps t o d), .va (.tup f (es.map evP)), .va (evP e), .va (plP es), .va (.int (es.idxOf e : Nat)), .va (.str n)]) (bin_ok (by walk_at "ev") (tup_ok (by walk_at "ev") le6) (get_pl i1)) (any_va rfl) (b := decide (((es.idxOf (n, ("in" : Str)) : Nat) : Int) < ((es.idxOf e : Nat) : Int))) rfl (bin_ok (by walk_at "ev") (tup_ok (by walk_at "ev") le6) (get_pl i2)) (c := decide (((es.idxOf e : Nat) : Int) < ((es.idxOf (n, ("out" : Str)) : Nat) : Int))) rfl
    have hb : (decide (((es.idxOf (n, ("in" : Str)) : Nat) : Int) < ((es.idxOf e : Nat) : Int)) && decide (((es.idxOf e : Nat) : Int) < ((es.idxOf (n, ("out" : Str)) : Nat) : Int))) = thereB es e n := by
      rw [thereB_io h he hn]
      simp
    rw [hb] at hc
    exact ⟨[.va (hallPV ps t o d), .va (.tup f (es.map evP)), .va (evP e), .va (plP es), .va (.int (es.idxOf e : Nat)), .va (.str n)], rfl, hc, any_va rfl, rfl⟩
  · have := List.length_filter_le (thereB es e) ps
    rw [List.length_map]
    omega
end
end QX

set_option Elab.async false
set_option linter.all false
set_option maxRecDepth 100000
set_option maxHeartbeats 4000000
namespace QX
open PySem PySem.Spec PySem.W PySem.Calls PyProof.Rows L2 MX
/-! ### orders, timelines turned -/
def ordR (ps : List Str) (es : List Evt) : List Evt := ps.flatMap fun a => (ps.filter fun b => decide (es.idxOf (a, ("out" : Str)) < es.idxOf (b, ("in" : Str)))).map fun b => (a, b)
noncomputable def ordS (ps : List Str) (es : List Evt) : List Evt := srtE (ordR ps es)
theorem ord_mem {ps : List Str} {es : List Evt} {a b : Str} : (a, b) ∈ ordR ps es ↔ a ∈ ps ∧ b ∈ ps ∧ es.idxOf (a, ("out" : Str)) < es.idxOf (b, ("in" : Str)) := by
  unfold ordR
  rw [List.mem_flatMap]
  constructor
  · rintro ⟨x, hx, h⟩
    obtain ⟨y, hy, e⟩ := List.mem_map.mp h
    obtain ⟨h1, h2⟩ := List.mem_filter.mp hy
    cases e
    exact ⟨hx, h1, of_decide_eq_true h2⟩
  · rintro ⟨h1, h2, h3⟩
    exact ⟨a, h1, List.mem_map.mpr ⟨b, List.mem_filter.mpr ⟨h2, decide_eq_true h3⟩, rfl⟩⟩
theorem ordS_mem {ps : List Str} {es : List Evt} {a b : Str} : (a, b) ∈ ordS ps es ↔ a ∈ ps ∧ b ∈ ps ∧ es.idxOf (a, ("out" : Str)) < es.idxOf (b, ("in" : Str)) := by
  unfold ordS
  rw [(srtE_p _).mem_iff, ord_mem]
theorem flat_len {α β : Type} {f : α → List β} {k : Nat} : ∀ {xs : List α}, (∀ x ∈ xs, (f x).length ≤ k) → (xs.flatMap f).length ≤ xs.length * k
  | [], _ => Nat.zero_le _
  | x :: xs, h => by
    have := flat_len (f := f) fun y hy => h y (List.mem_cons_of_mem _ hy)
    have := h x List.mem_cons_self
    rw [List.flatMap_cons, List.length_append, List.length_cons, Nat.add_mul]
    omega
theorem ord_len {ps : List Str} {es : List Evt} (h9 : ps.length ≤ 9) : (ordR ps es).length ≤ 81 := by
  have := flat_len (f := fun a => (ps.filter fun b => decide (es.idxOf (a, ("out" : Str)) < es.idxOf (b, ("in" : Str)))).map fun b => (a, b)) (k := 9) (xs := ps) fun x _ => by
    rw [List.length_map]
    exact Nat.le_trans (List.length_filter_le _ _) h9
  unfold ordR
  omega
theorem ordS_ok {ps : List Str} {es : List Evt} (ok : ∀ x ∈ ps, OkS x) : ∀ e ∈ ordS ps es, OkE e := fun e he => by
  obtain ⟨a, b⟩ := e
  obtain ⟨h1, h2, _⟩ := ordS_mem.mp he
  exact ⟨ok _ h1, ok _ h2⟩
/-- backward -/
def flipW (w : Str) : Str := if w = "in" then "out" else "in"
def flipE (e : Evt) : Evt := (e.1, flipW e.2)
def turnE (es : List Evt) : List Evt := es.reverse.map flipE
theorem flip_in : flipW "in" = "out" := by decide +kernel
theorem flip_out : flipW "out" = "in" := by decide +kernel
theorem evB_cases {ps : List Str} {e : Evt} (h : evB ps e = true) : e.1 ∈ ps ∧ (e.2 = "in" ∨ e.2 = "out") := by
  unfold evB at h
  rw [Bool.and_eq_true, decide_eq_true_eq, decide_eq_true_eq] at h
  exact ⟨h.1, mem_io h.2⟩
theorem evB_of {ps : List Str} {n w : Str} (h : n ∈ ps) (hw : w = "in" ∨ w = "out") : evB ps (n, w) = true := by
  unfold evB
  rw [Bool.and_eq_true, decide_eq_true_eq, decide_eq_true_eq]
  refine ⟨h, ?_⟩
  rcases hw with rfl | rfl <;> simp
theorem flip_flip {ps : List Str} {e : Evt} (h : evB ps e = true) : flipE (flipE e) = e := by
  obtain ⟨n, w⟩ := e
  rcases (evB_cases h).2 with z | z
  · have z : w = "in" := z
    subst z
    show ((n, flipW (flipW "in")) : Evt) = _
    rw [flip_in, flip_out]
  · have z : w = "out" := z
    subst z
    show ((n, flipW (flipW "out")) : Evt) = _
    rw [flip_out, flip_in]
theorem idx_at {es : List Evt} (nd : es.Nodup) {i : Nat} {e : Evt} (h : es[i]? = some e) : es.idxOf e = i := by
  obtain ⟨l, e1⟩ := List.getElem?_eq_some_iff.mp h
  have m : e ∈ es := by rw [← e1]; exact List.getElem_mem l
  have z1 : es[es.idxOf e]? = some e := by rw [List.getElem?_eq_getElem (List.idxOf_lt_length_iff.mpr m), List.getElem_idxOf]
  exact (List.getElem?_inj (List.idxOf_lt_length_iff.mpr m) nd).mp (z1.trans h.symm)
theorem nodup_map {α β : Type} {f : α → β} : ∀ {l : List α}, (∀ x ∈ l, ∀ y ∈ l, f x = f y → x = y) → l.Nodup → (l.map f).Nodup
  | [], _, _ => List.nodup_nil
  | x :: l, h, nd => by
    have nd' := List.nodup_cons.mp nd
    rw [List.map_cons]
    refine List.nodup_cons.mpr ⟨fun m => ?_, nodup_map (fun a ha b hb => h a (List.mem_cons_of_mem _ ha) b (List.mem_cons_of_mem _ hb)) nd'.2⟩
    obtain ⟨y, hy, e⟩ := List.mem_map.mp m
    exact nd'.1 (by rw [h x List.mem_cons_self y (List.mem_cons_of_mem _ hy) e.symm]; exact hy)
theorem turn_nd {ps : List Str} {es : List Evt} (nd : es.Nodup) (h : ∀ e ∈ es, evB ps e = true) : (turnE es).Nodup := by
  unfold turnE
  refine nodup_map ?_ ((List.reverse_perm es).nodup_iff.mpr nd)
  intro a ha b hb e
  have ha := h a (List.mem_reverse.mp ha)
  have hb := h b (List.mem_reverse.mp hb)
  rw [← flip_flip ha, e, flip_flip hb]
theorem turn_idx {ps : List Str} {es : List Evt} (nd : es.Nodup) (h : ∀ e ∈ es, evB ps e = true) {e : Evt} (he : e ∈ es) : (turnE es).idxOf (flipE e) + es.idxOf e + 1 = es.length := by
  have l := List.idxOf_lt_length_iff.mpr he
  have z : (turnE es)[es.length - 1 - es.idxOf e]? = some (flipE e) := by
    unfold turnE
    rw [List.getElem?_map, List.getElem?_reverse (by omega), show es.length - 1 - (es.length - 1 - es.idxOf e) = es.idxOf e by omega, List.getElem?_eq_getElem l, List.getElem_idxOf]
    rfl
  rw [idx_at (turn_nd nd h) z]
  omega
theorem VT.turn {ps : List Str} {es : List Evt} (h : VT ps es) : VT ps (turnE es) where
  nd := turn_nd h.nd h.ev
  len := by unfold turnE; rw [List.length_map, List.length_reverse]; exact h.len
  few := h.few
  ev := fun e he => by
    obtain ⟨x, hx, rfl⟩ := List.mem_map.mp he
    have z := h.ev x (List.mem_reverse.mp hx)
    obtain ⟨h1, h2⟩ := evB_cases z
    refine evB_of h1 ?_
    rcases h2 with h2 | h2
    · rw [h2, flip_in]; exact .inr rfl
    · rw [h2, flip_out]; exact .inl rfl
  io := fun n hn => by
    obtain ⟨h1, h2, h3⟩ := h.io n hn
    have e1 : flipE (n, ("out" : Str)) = (n, ("in" : Str)) := by unfold flipE; rw [show ((n, ("out" : Str)) : Evt).2 = "out" from rfl, flip_out]
    have e2 : flipE (n, ("in" : Str)) = (n, ("out" : Str)) := by unfold flipE; rw [show ((n, ("in" : Str)) : Evt).2 = "in" from rfl, flip_in]
    have i1 := turn_idx h.nd h.ev h2
    have i2 := turn_idx h.nd h.ev h1
    rw [e1] at i1
    rw [e2] at i2
    refine ⟨?_, ?_, by omega⟩
    · rw [← e1]; exact List.mem_map_of_mem (List.mem_reverse.mpr h2)
    · rw [← e2]; exact List.mem_map_of_mem (List.mem_reverse.mpr h1)
end QX

set_option Elab.async false
set_option linter.all false
set_option maxRecDepth 100000
set_option maxHeartbeats 4000000
namespace QX
open PySem PySem.Spec PySem.W PySem.Calls PyProof.Rows L2 MX
/-! ### comprehensions with two sources, that only look -/
theorem lc2_ok {Γ Γ1 Γ2 Γ3 : En} {vs vs1 : List Nat} {it i1 : SIt} {gt g1 : SG} {t t1 e : SE} {ys ws : List PV} (h1 : it Γ = .ok ys Γ1) (h2 : okW vs Γ1 = true) (h3 : lcL2 vs vs1 gt t i1 g1 t1 e ys (wipeE vs Γ1) = .ok ws Γ2) (h4 : ws.length ≤ 1000000) (h5 : rest vs Γ1 Γ2 = Γ3) : sLc2 vs vs1 it gt t i1 g1 t1 e Γ = .ok (.lst ws) Γ3 := by
  unfold sLc2
  rw [h1]
  show (if okW vs Γ1 = true then (match lcL2 vs vs1 gt t i1 g1 t1 e ys (wipeE vs Γ1) with
    | .ok ws Γ2 => if ws.length ≤ 1000000 then Rs.ok (PV.lst ws) (rest vs Γ1 Γ2) else .no
    | _ => .no) else .no) = _
  rw [if_pos h2, h3]
  show (if ws.length ≤ 1000000 then Rs.ok (PV.lst ws) (rest vs Γ1 Γ2) else .no) = _
  rw [if_pos h4, h5]
/-- the first clause has no test -/
theorem lcL2_pure {α : Type} {vs vs1 : List Nat} {gt g1 : SG} {i1 : SIt} {t1 e : SE} {Γw : En} (inj : α → PV) (φ : α → List PV) : ∀ {xs : List α}, (∀ x ∈ xs, ∃ Γ1 zs Γ4, gt (inj x) (wipeE vs Γw) = .nx Γ1 ∧ i1 Γ1 = .ok zs Γ1 ∧ lcL vs1 g1 t1 e zs (wipeE vs1 Γ1) = .ok (φ x) Γ4 ∧ wipeE vs Γ4 = Γw) → lcL2 vs vs1 gt (sC (.bl true)) i1 g1 t1 e (xs.map inj) Γw = .ok (xs.flatMap φ) Γw
  | [], _ => rfl
  | x :: xs, h => by
    obtain ⟨Γ1, zs, Γ4, e1, e2, e3, e4⟩ := h x List.mem_cons_self
    have ih := lcL2_pure (vs := vs) (vs1 := vs1) (gt := gt) (g1 := g1) (i1 := i1) (t1 := t1) (e := e) (Γw := Γw) inj φ (xs := xs) fun y hy => h y (List.mem_cons_of_mem _ hy)
    rw [List.map_cons, List.flatMap_cons]
    unfold lcL2
    rw [e1]
    show (match i1 Γ1 with
        | .ok zs Γ3 => match lcL vs1 g1 t1 e zs (wipeE vs1 Γ3) with
          | .ok ws Γ4 => match lcL2 vs vs1 gt (sC (.bl true)) i1 g1 t1 e (xs.map inj) (wipeE vs Γ4) with
            | .ok ws2 Γ5 => Rs.ok (ws ++ ws2) Γ5
            | _ => .no
          | _ => .no
        | _ => .no) = _
    rw [e2]
    show (match lcL vs1 g1 t1 e zs (wipeE vs1 Γ1) with
          | .ok ws Γ4 => match lcL2 vs vs1 gt (sC (.bl true)) i1 g1 t1 e (xs.map inj) (wipeE vs Γ4) with
            | .ok ws2 Γ5 => Rs.ok (ws ++ ws2) Γ5
            | _ => .no
          | _ => .no) = _
    rw [e3]
    show (match lcL2 vs vs1 gt (sC (.bl true)) i1 g1 t1 e (xs.map inj) (wipeE vs Γ4) with
            | .ok ws2 Γ5 => Rs.ok (φ x ++ ws2) Γ5
            | _ => .no) = _
    rw [e4, ih]
theorem filt_true {α : Type} (xs : List α) : xs.filter (fun _ => true) = xs := by simp
def allP (ps : List Str) : List Evt := ps.flatMap fun a => ps.map fun b => (a, b)
theorem map_flat {α β γ : Type} (f : β → γ) (g : α → List β) : ∀ xs : List α, (xs.flatMap g).map f = xs.flatMap fun x => (g x).map f
  | [] => rfl
  | x :: xs => by rw [List.flatMap_cons, List.flatMap_cons, List.map_append, map_flat f g xs]
theorem filt_flat {α β : Type} (f : β → Bool) (g : α → List β) : ∀ xs : List α, (xs.flatMap g).filter f = xs.flatMap fun x => (g x).filter f
  | [] => rfl
  | x :: xs => by rw [List.flatMap_cons, List.flatMap_cons, List.filter_append, filt_flat f g xs]
theorem allP_ord (ps : List Str) (es : List Evt) : (allP ps).filter (fun q => decide (es.idxOf (q.1, ("out" : Str)) < es.idxOf (q.2, ("in" : Str)))) = ordR ps es := by
  unfold allP ordR
  rw [filt_flat]
  congr 1
  funext a
  rw [List.filter_map]
  rfl
theorem allP_len {ps : List Str} (h9 : ps.length ≤ 9) : (allP ps).length ≤ 81 := by
  have := flat_len (f := fun a => ps.map fun b => ((a, b) : Evt)) (k := 9) (xs := ps) fun x _ => by
    rw [List.length_map]
    exact h9
  unfold allP
  omega
theorem allP_mem {ps : List Str} {q : Evt} (h : q ∈ allP ps) : q.1 ∈ ps ∧ q.2 ∈ ps := by
  obtain ⟨a, ha, h⟩ := List.mem_flatMap.mp h
  obtain ⟨b, hb, rfl⟩ := List.mem_map.mp h
  exact ⟨ha, hb⟩
section
variable {ps : List Str} {t o d : PV} {es : List Evt}
theorem orderOf_ok {f : Bool} (h : VT ps es) (h1 : 1 ≤ ps.length) : runV F_order_of 2 4 [hallPV ps t o d, .tup f (es.map evP)] = .ok (.tup true ((ordS ps es).map evP)) := by
  have hl : es.length < 1000000 := by have := h.len; have := h.few; omega
  have h81 := allP_len h.few
  have o81 := ord_len (es := es) h.few
  let G : SV → SV → SV → SV → En := fun a b c e => [.va (hallPV ps t o d), .va (.tup f (es.map evP)), a, b, c, e]
  refine runV_ok (Γ1 := G (.va (plP es)) .un .un (.va (.lst ((allP ps).map evP)))) rfl ?_
  show F_order_of (G .un .un .un .un) = _
  unfold F_order_of
  refine seq_nx (Γ1 := G .un .un .un .un) (expr_ok (call_ok (cons_ok (any_va rfl) (cons_ok (any_va rfl) nil_ok)) (reqTimeline_ok h h1))) (seq_nx (Γ1 := G (.va (plP es)) .un .un .un) (set_ok (Γ1 := G .un .un .un .un) (call_ok (cons_ok (any_va rfl) nil_ok) (placesOf_ok h.nd hl)) rfl rfl) (seq_nx (Γ1 := G (.va (plP es)) .un .un (.va (.lst ((allP ps).map evP)))) (set_ok (Γ1 := G (.va (plP es)) .un .un .un) (lc2_ok (Γ1 := G (.va (plP es)) .un .un .un) (Γ2 := G (.va (plP es)) .un .un .un) (ys := ps.map .str) (seqT_ok (U_ok (any_va rfl) fld_people)) rfl ?_ (by rw [List.length_map]; omega) rfl) rfl rfl) (ret_ok (B_ok (vs := [.lst ((ordS ps es).map evP)]) (cons_ok (B_ok (vs := [.lst ((ordR ps es).map evP)]) (cons_ok (lc_ok (vs := [3, 4]) (Γ1 := G (.va (plP es)) .un .un (.va (.lst ((allP ps).map evP)))) (Γ2 := G (.va (plP es)) .un .un (.va (.lst ((allP ps).map evP)))) (ys := (allP ps).map evP) (seqL_ok (any_va rfl)) rfl ?_ (by rw [List.length_map]; omega) rfl) nil_ok) (gSort_ev _)) nil_ok) rfl))))
  · have z := lcL2_pure (vs := [3, 4]) (vs1 := [4]) (gt := gV 3) (g1 := gV 4) (i1 := iSeq (sU (gFld "Hall" "people") (sAny 0))) (t1 := sC (.bl true)) (e := sTup (sCons (sAny 3) (sCons (sAny 4) sNil))) (Γw := G (.va (plP es)) .un .un .un) .str (fun a => ps.map fun b => evP (a, b)) (xs := ps) fun a ha =>
      ⟨G (.va (plP es)) (.va (.str a)) .un .un, ps.map .str, G (.va (plP es)) (.va (.str a)) .un .un, rfl, seqT_ok (U_ok (any_va rfl) fld_people), by
        have y := lcL_filt (vs := [4]) (gt := gV 4) (t := sC (.bl true)) (e := sTup (sCons (sAny 3) (sCons (sAny 4) sNil))) (Γw := G (.va (plP es)) (.va (.str a)) .un .un) .str (fun _ => true) (fun b => evP (a, b)) (xs := ps) fun b hb => ⟨G (.va (plP es)) (.va (.str a)) (.va (.str b)) .un, rfl, c_ok, tup_ok (cons_ok (any_va rfl) (cons_ok (any_va rfl) nil_ok)) le6, rfl⟩
        rw [filt_true] at y
        exact y, rfl⟩
    rw [show (ps.flatMap fun a => ps.map fun b => evP (a, b)) = (allP ps).map evP from ?_] at z
    · exact z
    · unfold allP
      rw [map_flat]
      congr 1
      funext a
      rw [List.map_map]
      rfl
  · have z := lcL_filt (vs := [3, 4]) (gt := gT 2 (gsCons (gV 3) (gsCons (gV 4) gsNil))) (t := sBin gLt (sBin gDict (sAny 2) (sTup (sCons (sAny 3) (sCons (sC (.str "out")) sNil)))) (sBin gDict (sAny 2) (sTup (sCons (sAny 4) (sCons (sC (.str "in")) sNil))))) (e := sTup (sCons (sAny 3) (sCons (sAny 4) sNil))) (Γw := G (.va (plP es)) .un .un (.va (.lst ((allP ps).map evP)))) evP (fun q => decide (es.idxOf (q.1, ("out" : Str)) < es.idxOf (q.2, ("in" : Str)))) evP (xs := allP ps) fun q hq => by
      obtain ⟨q1, q2⟩ := allP_mem hq
      obtain ⟨a1, a2, _⟩ := h.io q.1 q1
      obtain ⟨b1, b2, _⟩ := h.io q.2 q2
      refine ⟨G (.va (plP es)) (.va (.str q.1)) (.va (.str q.2)) (.va (.lst ((allP ps).map evP))), rfl, bin_ok (bin_ok (any_va rfl) (tup_ok (cons_ok (any_va rfl) (cons_ok c_ok nil_ok)) le6) (get_pl a2)) (bin_ok (any_va rfl) (tup_ok (cons_ok (any_va rfl) (cons_ok c_ok nil_ok)) le6) (get_pl b1)) ?_, tup_ok (cons_ok (any_va rfl) (cons_ok (any_va rfl) nil_ok)) le6, rfl⟩
      show some (PV.bl (decide (((es.idxOf (q.1, ("out" : Str)) : Nat) : Int) < ((es.idxOf (q.2, ("in" : Str)) : Nat) : Int)))) = _
      congr 2
      simp
    rw [allP_ord] at z
    exact z
theorem flip_tab {w : Str} (h : w = "in" ∨ w = "out") : gTab [("in", "out"), ("out", "in")] (.str w) = some (.str (flipW w)) := by
  have e1 : ([("in", "out"), ("out", "in")] : List (Str × Str)).lookup ("in" : Str) = some "out" := by decide +kernel
  have e2 : ([("in", "out"), ("out", "in")] : List (Str × Str)).lookup ("out" : Str) = some "in" := by decide +kernel
  show (([("in", "out"), ("out", "in")] : List (Str × Str)).lookup w).map PV.str = _
  rcases h with rfl | rfl
  · rw [e1, flip_in]
    rfl
  · rw [e2, flip_out]
    rfl
theorem turn_len {es : List Evt} : (turnE es).length = es.length := by unfold turnE; rw [List.length_map, List.length_reverse]
theorem turned_ok {f : Bool} (h : VT ps es) (h1 : 1 ≤ ps.length) : runV F_turned 2 2 [hallPV ps t o d, .tup f (es.map evP)] = .ok (.tup true ((turnE es).map evP)) := by
  have hl : es.length ≤ 18 := by have := h.len; have := h.few; omega
  let G : SV → SV → En := fun a b => [.va (hallPV ps t o d), .va (.tup f (es.map evP)), a, b]
  refine runV_ok (Γ1 := G .un .un) rfl ?_
  show F_turned (G .un .un) = _
  unfold F_turned
  refine seq_nx (Γ1 := G .un .un) (expr_ok (call_ok (cons_ok (any_va rfl) (cons_ok (any_va rfl) nil_ok)) (reqTimeline_ok h h1))) (ret_ok (B_ok (vs := [.lst ((turnE es).map evP)]) (cons_ok (lc_ok (vs := [2, 3]) (Γ1 := G .un .un) (Γ2 := G .un .un) (ys := (es.map evP).reverse) ?_ rfl ?_ (by rw [List.length_map, turn_len]; omega) rfl) nil_ok) rfl))
  · unfold iRev
    rw [show sAny 1 (G .un .un) = .ok (.tup f (es.map evP)) (G .un .un) from rfl]
    rfl
  · have z := lcL_filt (vs := [2, 3]) (gt := gT 2 (gsCons (gV 2) (gsCons (gV 3) gsNil))) (t := sC (.bl true)) (e := sTup (sCons (sAny 2) (sCons (sU (gTab [("in", "out"), ("out", "in")]) (sAny 3)) sNil))) (Γw := G .un .un) evP (fun _ => true) (fun e => evP (flipE e)) (xs := es.reverse) fun e he => by
      obtain ⟨e1, e2⟩ := evB_cases (h.ev e (List.mem_reverse.mp he))
      exact ⟨G (.va (.str e.1)) (.va (.str e.2)), rfl, c_ok, tup_ok (cons_ok (any_va rfl) (cons_ok (U_ok (any_va rfl) (flip_tab e2)) nil_ok)) le6, rfl⟩
    rw [filt_true] at z
    rw [show es.reverse.map (fun e => evP (flipE e)) = (turnE es).map evP by unfold turnE; rw [List.map_map]; rfl] at z
    rw [← List.map_reverse]
    exact z
end
end QX

set_option Elab.async false
set_option linter.all false
set_option maxRecDepth 100000
set_option maxHeartbeats 4000000
namespace QX
open PySem PySem.Spec PySem.W PySem.Calls PyProof.Rows L2 MX
section
variable {tk : SS} {N : Nat} {p : PV} {ps : List Str} {t o d : PV} {es : List Evt} {mets : List (List Str)} {ops ls : List Evt}
end
end QX

set_option Elab.async false
set_option linter.all false
set_option maxRecDepth 100000
set_option maxHeartbeats 4000000
namespace QX
open PySem PySem.Spec PySem.W PySem.Calls PyProof.Rows L2 MX
/-! ### halls of two or more -/
section
variable {tk : SS} {N : Nat} {p : PV} {ps : List Str} {t o d : PV} {es : List Evt} {mets : List (List Str)} {ops ls : List Evt}
/-- what is drawn: people, line, the text -/
structure Drawn (lp : PV) (ps : List Str) (mets : List (List Str)) (ops es : List Evt) : Prop where
  lore : Lore 9 ps mets ops es
  two : 2 ≤ ps.length
  people : gDict lp (.str "people") = some (.lst (ps.map .str))
  line : gDict lp (.str "line") = some (.tup true (es.map evP))
  text : runV F__law_text 1 2 [lp] = .ok (.str (textL ps mets ops))
end
end QX

set_option Elab.async false
set_option linter.all false
set_option maxRecDepth 100000
set_option maxHeartbeats 4000000
namespace QX
open PySem PySem.Spec PySem.W PySem.Calls PyProof.Rows L2 MX
/-! ### what is told, kept; books -/
section
variable {Γ Γ1 Γ2 Γ3 : En} {fo fb fc : SE} {fs : SA} {g : List PV → Ro} {c m : Str} {ns : List Str} {us vs : List PV} {z : PV}
theorem meth_ok (h1 : fo Γ = .ok (.obj c ns us) Γ1) (hm : ns.contains m = false) (h2 : fs Γ1 = .ok vs Γ2) (h3 : g (.obj c ns us :: vs) = .ok z) : sMeth c m g fo fs Γ = .ok z Γ2 := by
  unfold sMeth
  rw [h1]
  show (if c = c ∧ ns.contains m = false then (fs Γ1).bind fun vs Γ2 => match g (.obj c ns us :: vs) with
      | .ok v => Rs.ok v Γ2
      | .ex c v => .ex c v Γ2
      | .no => .no
    else .no) = _
  rw [if_pos ⟨rfl, hm⟩, h2]
  show (match g (.obj c ns us :: vs) with
      | .ok v => Rs.ok v Γ2
      | .ex c v => .ex c v Γ2
      | .no => .no) = _
  rw [h3]
theorem get2_ok {ks ws : List PV} {k w : PV} {r : Option PV} (h1 : fo Γ = .ok (.dct ks ws) Γ1) (h2 : fb Γ1 = .ok k Γ2) (h3 : fc Γ2 = .ok w Γ3) (h4 : gGet ks ws k = some r) (h5 : z = r.getD w) : sGet2 fo fb fc Γ = .ok z Γ3 := by
  subst h5
  unfold sGet2
  rw [h1]
  show (fb Γ1).bind _ = _
  rw [h2]
  show (fc Γ2).bind _ = _
  rw [h3]
  show (match gGet ks ws k with
    | some (some v) => Rs.ok v Γ3
    | some none => .ok w Γ3
    | none => .no) = _
  rw [h4]
  cases r <;> rfl
end
theorem gAll_bls (bs : List Bool) : gAll [.lst (bs.map .bl)] = some (.bl (bs.all id)) := by
  show (blsOf (bs.map .bl)).map (fun bs => PV.bl (bs.all id)) = _
  have e : ∀ bs : List Bool, blsOf (bs.map PV.bl) = some bs := fun bs => by
    induction bs with
    | nil => rfl
    | cons b bs ih =>
      show (blsOf (bs.map .bl)).map (fun x => b :: x) = _
      rw [ih]
      rfl
  rw [e]
  rfl
/-- what the dict of a hall tells -/
structure Told (ps : List Str) (d : PV) (tw : Str → Str → Str) : Prop where
  go : ∃ ks ws, d = .dct ks ws ∧ ∀ a b : Str, ∃ r : Option PV, gGet ks ws (.tup false [.str a, .str b]) = some r ∧ r.getD (.str "not") = .str (tw a b)
theorem vPs_str : ∀ {vs : List V} {ws : List PV}, vPs vs = some ws → ∀ w ∈ ws, ∃ x, w = .str x
  | [], ws, e, w, h => by cases e; cases h
  | v :: vs, ws, e, w, h => by
    unfold vPs at e
    cases v with
    | str z =>
      cases h2 : vPs vs with
      | none => rw [h2] at e; cases e
      | some b =>
        rw [h2] at e
        cases e
        rcases List.mem_cons.mp h with rfl | h
        · exact ⟨z, rfl⟩
        · exact vPs_str h2 w h
    | _ => cases e
theorem fkeys_none (T : MX.Tm) : fkeys (T.map fun e => keyP e.1) = none := by
  cases T with
  | nil => rfl
  | cons e T => rfl
theorem lookK_mem {κ' : Type} [DecidableEq κ'] {kk : List κ'} {ws : List PV} {k : κ'} {w : PV} (h : lookK kk ws k = some w) : w ∈ ws := by
  unfold lookK at h
  obtain ⟨q, hq, e⟩ := Option.map_eq_some_iff.mp h
  have z := List.mem_of_find?_eq_some hq
  rw [← e]
  exact (List.of_mem_zip z).2
theorem told_ex (ps : List Str) {T : MX.Tm} {ws : List PV} (h : vPs (T.map (·.2)) = some ws) : ∃ tw, Told ps (.dct (T.map fun e => keyP e.1) ws) tw := by
  have key : ∀ a b : Str, ∃ w : Str, ∃ r : Option PV, gGet (T.map fun e => keyP e.1) ws (.tup false [.str a, .str b]) = some r ∧ r.getD (.str "not") = .str w := fun a b => by
    have e : gGet (T.map fun e => keyP e.1) ws (.tup false [.str a, .str b]) = some (lookK (T.map (·.1)) ws [Sum.inr a, Sum.inr b]) := by
      unfold gGet
      rw [fkeys_none, tkeys_kT]
      rfl
    cases hr : lookK (T.map (·.1)) ws [Sum.inr a, Sum.inr b] with
    | none => exact ⟨"not", none, by rw [e, hr], rfl⟩
    | some w =>
      obtain ⟨x, rfl⟩ := vPs_str h w (lookK_mem hr)
      exact ⟨x, some (.str x), by rw [e, hr], rfl⟩
  exact ⟨fun a b => (key a b).choose, ⟨_, _, rfl, fun a b => (key a b).choose_spec⟩⟩
section
variable {ps : List Str} {t o d : PV} {es : List Evt} {tw : Str → Str → Str}
theorem fld_told : gFld "Hall" "_told" (hallPV ps t o d) = some d := by
  show (if ("Hall" : Str) = "Hall" then lookF hallN [t, .tup false (ps.map .str), o, d] "_told" else none) = _
  rw [if_pos rfl]
  show (if ("_told" : Str) = "text" then some t else if ("_told" : Str) = "people" then some (.tup false (ps.map .str)) else if ("_told" : Str) = "opens" then some o else if ("_told" : Str) = "_told" then some d else none) = _
  rw [if_neg (by decide +kernel), if_neg (by decide +kernel), if_neg (by decide +kernel), if_pos rfl]
theorem told_ok {a b : Str} (h : Told ps d tw) (ha : a ∈ ps) (hb : b ∈ ps) (ab : a ≠ b) : runV F_Hall_told 3 0 [hallPV ps t o d, .str a, .str b] = .ok (.str (tw a b)) := by
  obtain ⟨ks, ws, rfl, hg⟩ := h.go
  obtain ⟨r, h1, h2⟩ := hg a b
  refine runV_ok (Γ1 := [.va (hallPV ps t o (.dct ks ws)), .va (.str a), .va (.str b)]) rfl ?_
  show F_Hall_told [.va (hallPV ps t o (.dct ks ws)), .va (.str a), .va (.str b)] = _
  unfold F_Hall_told
  exact seq_nx (expr_ok (call_ok (by walk_at "ev") (reqTwo_ok ha hb ab))) (ret_ok (get2_ok (U_ok (any_va rfl) fld_told) (tup_ok (cons_ok (any_va rfl) (cons_ok (any_va rfl) nil_ok)) le6) c_ok h1 h2.symm))
def pairsN (ps : List Str) : List Evt := ps.flatMap fun a => (ps.filter fun b => !decide (a = b)).map fun b => (a, b)
theorem pairsN_mem {q : Evt} (h : q ∈ pairsN ps) : q.1 ∈ ps ∧ q.2 ∈ ps ∧ q.1 ≠ q.2 := by
  obtain ⟨a, ha, h⟩ := List.mem_flatMap.mp h
  obtain ⟨b, hb, rfl⟩ := List.mem_map.mp h
  obtain ⟨h1, h2⟩ := List.mem_filter.mp hb
  exact ⟨ha, h1, by simpa using h2⟩
theorem pairsN_len (h9 : ps.length ≤ 9) : (pairsN ps).length ≤ 81 := by
  have := flat_len (f := fun a => (ps.filter fun b => !decide (a = b)).map fun b => ((a, b) : Evt)) (k := 9) (xs := ps) fun x _ => by
    rw [List.length_map]
    exact Nat.le_trans (List.length_filter_le _ _) h9
  unfold pairsN
  omega
def keepsB (tw : Str → Str → Str) (ps : List Str) (es : List Evt) : Bool := (((pairsN ps).filter fun q => !decide (tw q.1 q.2 = "open")).map fun q => decide (meetB es q.1 q.2 = decide (tw q.1 q.2 = "met"))).all id
theorem notTold : (hallN.contains ("told" : Str)) = false := by decide +kernel
theorem keeps_ok {f : Bool} (h : VT ps es) (h1 : 1 ≤ ps.length) (hd : Told ps d tw) : runV F_keeps 2 5 [hallPV ps t o d, .tup f (es.map evP)] = .ok (.bl (keepsB tw ps es)) := by
  have hl : es.length < 1000000 := by have := h.len; have := h.few; omega
  have h81 := pairsN_len h.few
  let G : SV → SV → SV → SV → SV → En := fun a b c e k => [.va (hallPV ps t o d), .va (.tup f (es.map evP)), a, b, c, e, k]
  let kn := (pairsN ps).filter fun q => !decide (tw q.1 q.2 = "open")
  have k81 : kn.length ≤ 81 := Nat.le_trans (List.length_filter_le _ _) h81
  let PN : PV := .lst ((pairsN ps).map evP)
  let KN : PV := .lst (kn.map evP)
  refine runV_ok (Γ1 := G (.va (plP es)) .un .un (.va PN) (.va KN)) rfl ?_
  show F_keeps (G .un .un .un .un .un) = _
  unfold F_keeps
  refine seq_nx (Γ1 := G .un .un .un .un .un) (expr_ok (call_ok (cons_ok (any_va rfl) (cons_ok (any_va rfl) nil_ok)) (reqTimeline_ok h h1))) (seq_nx (Γ1 := G (.va (plP es)) .un .un .un .un) (set_ok (Γ1 := G .un .un .un .un .un) (call_ok (cons_ok (any_va rfl) nil_ok) (placesOf_ok h.nd hl)) rfl rfl) (seq_nx (Γ1 := G (.va (plP es)) .un .un (.va PN) .un) (set_ok (Γ1 := G (.va (plP es)) .un .un .un .un) (lc2_ok (Γ1 := G (.va (plP es)) .un .un .un .un) (Γ2 := G (.va (plP es)) .un .un .un .un) (ys := ps.map .str) (seqT_ok (U_ok (any_va rfl) fld_people)) rfl ?_ (by rw [List.length_map]; omega) rfl) rfl rfl) (seq_nx (Γ1 := G (.va (plP es)) .un .un (.va PN) (.va KN)) (set_ok (Γ1 := G (.va (plP es)) .un .un (.va PN) .un) (lc_ok (vs := [3, 4]) (Γ1 := G (.va (plP es)) .un .un (.va PN) .un) (Γ2 := G (.va (plP es)) .un .un (.va PN) .un) (ys := (pairsN ps).map evP) (ws := kn.map evP) (seqL_ok (any_va rfl)) rfl ?_ (by rw [List.length_map]; omega) rfl) rfl rfl) (ret_ok (B_ok (vs := [.lst ((kn.map fun q => decide (meetB es q.1 q.2 = decide (tw q.1 q.2 = "met"))).map .bl)]) (cons_ok (lc_ok (vs := [3, 4]) (Γ1 := G (.va (plP es)) .un .un (.va PN) (.va KN)) (Γ2 := G (.va (plP es)) .un .un (.va PN) (.va KN)) (ys := kn.map evP) (seqL_ok (any_va rfl)) rfl ?_ (by rw [List.length_map, List.length_map]; omega) rfl) nil_ok) (gAll_bls _))))))
  · have z := lcL2_pure (vs := [3, 4]) (vs1 := [4]) (gt := gV 3) (g1 := gV 4) (i1 := iSeq (sU (gFld "Hall" "people") (sAny 0))) (t1 := sBin gNe (sAny 3) (sAny 4)) (e := sTup (sCons (sAny 3) (sCons (sAny 4) sNil))) (Γw := G (.va (plP es)) .un .un .un .un) .str (fun a => (ps.filter fun b => !decide (a = b)).map fun b => evP (a, b)) (xs := ps) fun a ha =>
      ⟨G (.va (plP es)) (.va (.str a)) .un .un .un, ps.map .str, G (.va (plP es)) (.va (.str a)) .un .un .un, rfl, seqT_ok (U_ok (any_va rfl) fld_people), by
        have y := lcL_filt (vs := [4]) (gt := gV 4) (t := sBin gNe (sAny 3) (sAny 4)) (e := sTup (sCons (sAny 3) (sCons (sAny 4) sNil))) (Γw := G (.va (plP es)) (.va (.str a)) .un .un .un) .str (fun b => !decide (a = b)) (fun b => evP (a, b)) (xs := ps) fun b hb => ⟨G (.va (plP es)) (.va (.str a)) (.va (.str b)) .un .un, rfl, bin_ok (any_va rfl) (any_va rfl) (gNe_str a b), tup_ok (cons_ok (any_va rfl) (cons_ok (any_va rfl) nil_ok)) le6, rfl⟩
        exact y, rfl⟩
    rw [show (ps.flatMap fun a => (ps.filter fun b => !decide (a = b)).map fun b => evP (a, b)) = (pairsN ps).map evP from ?_] at z
    · exact z
    · unfold pairsN
      rw [map_flat]
      congr 1
      funext a
      rw [List.map_map]
      rfl
  · refine lcL_filt evP (fun q => !decide (tw q.1 q.2 = "open")) evP fun q hq => ?_
    obtain ⟨q1, q2, q3⟩ := pairsN_mem hq
    exact ⟨G (.va (plP es)) (.va (.str q.1)) (.va (.str q.2)) (.va PN) .un, rfl, bin_ok (meth_ok (any_va rfl) notTold (cons_ok (any_va rfl) (cons_ok (any_va rfl) nil_ok)) (told_ok hd q1 q2 q3)) c_ok (gNe_str _ _), tup_ok (cons_ok (any_va rfl) (cons_ok (any_va rfl) nil_ok)) le6, rfl⟩
  · have z := lcL_filt (vs := [3, 4]) (gt := gT 2 (gsCons (gV 3) (gsCons (gV 4) gsNil))) (t := sC (.bl true)) (e := sBin gEq (sCall (runV F_meet 3 0) (sCons (sAny 2) (sCons (sAny 3) (sCons (sAny 4) sNil)))) (sBin gEq (sMeth "Hall" "told" (runV F_Hall_told 3 0) (sAny 0) (sCons (sAny 3) (sCons (sAny 4) sNil))) (sC (.str "met")))) (Γw := G (.va (plP es)) .un .un (.va PN) (.va KN)) evP (fun _ => true) (fun q => .bl (decide (meetB es q.1 q.2 = decide (tw q.1 q.2 = "met")))) (xs := kn) fun q hq => by
      obtain ⟨q1, q2, q3⟩ := pairsN_mem (List.mem_filter.mp hq).1
      exact ⟨G (.va (plP es)) (.va (.str q.1)) (.va (.str q.2)) (.va PN) (.va KN), rfl, c_ok, bin_ok (call_ok (cons_ok (any_va rfl) (cons_ok (any_va rfl) (cons_ok (any_va rfl) nil_ok))) (meet_ok h q1 q2)) (bin_ok (meth_ok (any_va rfl) notTold (cons_ok (any_va rfl) (cons_ok (any_va rfl) nil_ok)) (told_ok hd q1 q2 q3)) c_ok (gEq_str _ _)) rfl, rfl⟩
    rw [filt_true] at z
    rw [show (kn.map fun q => PV.bl (decide (meetB es q.1 q.2 = decide (tw q.1 q.2 = "met")))) = (kn.map fun q => decide (meetB es q.1 q.2 = decide (tw q.1 q.2 = "met"))).map .bl by rw [List.map_map]; rfl] at z
    exact z
theorem areSay_ok {f : Bool} {ss : List Say} (h : ∀ s ∈ ss, okSay ps s) (hl : ss.length ≤ 30) : runV F_are_sayings 2 1 [hallPV ps t o d, .tup f (ss.map sayP)] = .ok (.bl true) := by
  let G : SV → En := fun a => [.va (hallPV ps t o d), .va (.tup f (ss.map sayP)), a]
  refine runV_ok (Γ1 := G .un) rfl ?_
  show F_are_sayings (G .un) = _
  unfold F_are_sayings
  refine seq_nx (Γ1 := G .un) (ifS_f (b := false) (or2 (b := false) (c := false) (not_ok (b := true) (U_ok (any_va rfl) isTup)) fun _ => bin_ok (x := .int (ss.length : Nat)) (B_ok (vs := [.tup f (ss.map sayP)]) (cons_ok (any_va rfl) nil_ok) (by show some (PV.int ((ss.map sayP).length : Nat)) = _; rw [List.length_map])) c_ok ?_) rfl rfl) (ret_ok (B_ok (vs := [.lst ((ss.map sayP).map fun _ => .bl true)]) (cons_ok (lc_ok (vs := [2]) (Γ1 := G .un) (Γ2 := G .un) (ys := ss.map sayP) (seqT_ok (any_va rfl)) rfl (lcL_pure (fun _ => .bl true) fun y hy => ?_) (by rw [List.length_map, List.length_map]; omega) rfl) nil_ok) (gAll_true _)))
  · show some (PV.bl (decide ((30 : Int) < ((ss.length : Nat) : Int)))) = _
    rw [decide_eq_false (by omega)]
  · obtain ⟨s, hs, rfl⟩ := List.mem_map.mp hy
    exact ⟨G (.va (sayP s)), rfl, rfl, call_ok (cons_ok (any_va rfl) (cons_ok (any_va rfl) nil_ok)) (isSaying_ok (h s hs)), rfl⟩
theorem fld_bhall {h s : PV} : gFld "Book" "hall" (bookPV h s) = some h := by
  show (if ("Book" : Str) = "Book" then lookF bookN [h, s] "hall" else none) = _
  rw [if_pos rfl]
  show (if ("hall" : Str) = "hall" then some h else _) = _
  rw [if_pos rfl]
theorem fld_bsay {h s : PV} : gFld "Book" "sayings" (bookPV h s) = some s := by
  show (if ("Book" : Str) = "Book" then lookF bookN [h, s] "sayings" else none) = _
  rw [if_pos rfl]
  show (if ("sayings" : Str) = "hall" then some h else if ("sayings" : Str) = "sayings" then some s else none) = _
  rw [if_neg (by decide +kernel), if_pos rfl]
def numS (q : Say × Nat) : PV := .tup false [.int (q.2 : Nat), sayP q.1]
theorem enum_zip (ss : List Say) : ∀ k : Nat, enumP (k : Nat) (ss.map sayP) = (ss.zipIdx k).map numS := fun k => by
  induction ss generalizing k with
  | nil => rfl
  | cons s ss ih =>
    rw [List.map_cons, enumP_cons, List.zipIdx_cons, List.map_cons]
    congr 1
    exact ih (k + 1)
def brk (es : List Evt) (ss : List Say) : List Int := (ss.zipIdx.filter fun q => !soB es q.1).map fun q => (q.2 : Int)
theorem brk_len {es : List Evt} {ss : List Say} : (brk es ss).length ≤ ss.length := by
  unfold brk
  rw [List.length_map]
  have := List.length_filter_le (fun q : Say × Nat => !soB es q.1) ss.zipIdx
  rw [List.length_zipIdx] at this
  exact this
theorem broken_ok {f g : Bool} {ss : List Say} (hv : VT ps es) (h1 : 1 ≤ ps.length) (h : ∀ s ∈ ss, okSay ps s) (hl : ss.length ≤ 30) : runV F_Book_broken 2 3 [bookPV (hallPV ps t o d) (.tup g (ss.map sayP)), .tup f (es.map evP)] = .ok (.tup true ((brk es ss).map .int)) := by
  have hl2 : es.length < 1000000 := by have := hv.len; have := hv.few; omega
  let B := bookPV (hallPV ps t o d) (.tup g (ss.map sayP))
  let G : SV → SV → SV → En := fun a b c => [.va B, .va (.tup f (es.map evP)), a, b, c]
  refine runV_ok (Γ1 := G (.va (plP es)) .un .un) rfl ?_
  show F_Book_broken (G .un .un .un) = _
  unfold F_Book_broken
  refine seq_nx (Γ1 := G .un .un .un) (expr_ok (call_ok (cons_ok (U_ok (any_va rfl) fld_bhall) (cons_ok (any_va rfl) nil_ok)) (reqTimeline_ok hv h1))) (seq_nx (Γ1 := G (.va (plP es)) .un .un) (set_ok (Γ1 := G .un .un .un) (call_ok (cons_ok (any_va rfl) nil_ok) (placesOf_ok hv.nd hl2)) rfl rfl) (ret_ok (B_ok (vs := [.lst ((brk es ss).map .int)]) (cons_ok (lc_ok (vs := [3, 4]) (Γ1 := G (.va (plP es)) .un .un) (Γ2 := G (.va (plP es)) .un .un) (ys := enumP 0 (ss.map sayP)) (enuT_ok (U_ok (any_va rfl) fld_bsay)) rfl ?_ (by have := brk_len (es := es) (ss := ss); rw [List.length_map]; omega) rfl) nil_ok) rfl)))
  have z := lcL_filt (vs := [3, 4]) (gt := gT 2 (gsCons (gV 3) (gsCons (gV 4) gsNil))) (t := sNot (sCall (runV F_holds 2 3) (sCons (sAny 2) (sCons (sAny 4) sNil)))) (e := sAny 3) (Γw := G (.va (plP es)) .un .un) numS (fun q => !soB es q.1) (fun q => .int (q.2 : Nat)) (xs := ss.zipIdx) fun q hq => by
    have hs : q.1 ∈ ss := List.mem_of_getElem? (List.mem_zipIdx_iff_getElem?.mp hq)
    exact ⟨G (.va (plP es)) (.va (.int (q.2 : Nat))) (.va (sayP q.1)), rfl, not_ok (call_ok (cons_ok (any_va rfl) (cons_ok (any_va rfl) nil_ok)) (holds_ok hv (h q.1 hs))), any_va rfl, rfl⟩
  have ez := enum_zip ss 0
  rw [show ((0 : Nat) : Int) = 0 from rfl] at ez
  rw [ez]
  unfold brk
  rw [List.map_map]
  exact z
/-! data -/
theorem toDs_ints : ∀ ns : List Int, toDs (ns.map PV.int) = some (ns.map PyData.int)
  | [] => by unfold toDs; rfl
  | x :: xs => by
    rw [List.map_cons]
    unfold toDs
    rw [toDs_ints xs]
    rfl
theorem lay_ints : ∀ xs : List Int, PyData.canLayAll0 (xs.map PyData.int) = true ∧ PyData.depthAll (xs.map PyData.int) = 0
  | [] => ⟨by simp [PyData.canLayAll0], by simp [PyData.depthAll]⟩
  | x :: xs => by
    obtain ⟨h1, h2⟩ := lay_ints xs
    exact ⟨by simp [PyData.canLayAll0, PyData.canLay0, h1], by simp [PyData.depthAll, PyData.depth, h2]⟩
theorem eqvAll_ints : ∀ ns : List Int, PyData.eqvAll (ns.map PyData.int) (ns.map PyData.int) = true
  | [] => by simp [PyData.eqvAll]
  | e :: es => by
    rw [List.map_cons]
    simp [PyData.eqvAll, PyData.eqv, eqvAll_ints es]
theorem toD_tints (f : Bool) (ns : List Int) : toD (.tup f (ns.map .int)) = some (.tuple (ns.map PyData.int)) := by
  unfold toD
  rw [toDs_ints]
  rfl
theorem shaped_tints (ns : List Int) : SeqAt.shaped (.tuple (ns.map PyData.int)) = true := by
  obtain ⟨h1, h2⟩ := lay_ints ns
  unfold SeqAt.shaped
  simp [PyData.canLay0, PyData.depth, h1, h2]
/-- a tuple of whole numbers beside the empty tuple -/
theorem ints_nil {f g : Bool} (ns : List Int) : eqPV (.tup f (ns.map .int)) (.tup g []) = some (decide (ns = [])) := by
  rw [eqPV_of (toD_tints f ns) (show toD (.tup g []) = some (.tuple []) from toD_tints g []) (shaped_tints ns)]
  cases ns with
  | nil => rfl
  | cons n ns => rfl
theorem fits_ok {f g : Bool} {ss : List Say} (hv : VT ps es) (h1 : 1 ≤ ps.length) (hd : Told ps d tw) (h : ∀ s ∈ ss, okSay ps s) (hl : ss.length ≤ 30) : runV F_Book_fits 2 0 [bookPV (hallPV ps t o d) (.tup g (ss.map sayP)), .tup f (es.map evP)] = .ok (.bl (keepsB tw ps es && decide (brk es ss = []))) := by
  let B := bookPV (hallPV ps t o d) (.tup g (ss.map sayP))
  let G : En := [.va B, .va (.tup f (es.map evP))]
  refine runV_ok (Γ1 := G) rfl ?_
  show F_Book_fits G = _
  unfold F_Book_fits
  refine ret_ok (and2 (call_ok (cons_ok (U_ok (any_va rfl) fld_bhall) (cons_ok (any_va rfl) nil_ok)) (keeps_ok hv h1 hd)) fun _ => bin_ok (meth_ok (any_va rfl) (by decide +kernel) (cons_ok (any_va rfl) nil_ok) (broken_ok hv h1 h hl)) (tup_ok nil_ok le6) ?_)
  show (eqPV (.tup true ((brk es ss).map .int)) (.tup false [])).map PV.bl = _
  rw [ints_nil]
  rfl
end
end QX

set_option Elab.async false
set_option linter.all false
set_option maxRecDepth 100000
set_option maxHeartbeats 4000000
namespace QX
open PySem PySem.Spec PySem.W PySem.Calls PyProof.Rows L2 MX
/-! ### what functions on trees come to, told forward -/
def wE (f : SE) (Γ : En) (Q : PV → En → Prop) : Prop := ∃ v Γ1, f Γ = .ok v Γ1 ∧ Q v Γ1
def wA (f : SA) (Γ : En) (Q : List PV → En → Prop) : Prop := ∃ v Γ1, f Γ = .ok v Γ1 ∧ Q v Γ1
def wI (f : SIt) (Γ : En) (Q : List PV → En → Prop) : Prop := ∃ v Γ1, f Γ = .ok v Γ1 ∧ Q v Γ1
def wO (f : SO) (Γ : En) (Q : Option Int → En → Prop) : Prop := ∃ v Γ1, f Γ = .ok v Γ1 ∧ Q v Γ1
def wN (f : SX) (Γ : En) (Q : SV → En → Prop) : Prop := ∃ v Γ1, f Γ = .ok v Γ1 ∧ Q v Γ1
def wNs (f : SXA) (Γ : En) (Q : List SV → En → Prop) : Prop := ∃ v Γ1, f Γ = .ok v Γ1 ∧ Q v Γ1
def wS (f : SS) (Γ : En) (Q : Fl → Prop) : Prop := Q (f Γ)
def wG (g : SG) (v : PV) (Γ : En) (Q : En → Prop) : Prop := ∃ Γ1, g v Γ = .nx Γ1 ∧ Q Γ1
def wGs (g : SGs) (vs : List PV) (Γ : En) (Q : En → Prop) : Prop := ∃ Γ1, g vs Γ = .nx Γ1 ∧ Q Γ1
def nxK (k : En → Prop) (Q : Fl → Prop) : Fl → Prop
  | .nx Γ => k Γ
  | r => Q r
def loopK (k : En → Prop) (Q : Fl → Prop) : Fl → Prop
  | .nx Γ => k Γ
  | .ct Γ => k Γ
  | .bk Γ => Q (.nx Γ)
  | r => Q r
section
variable {Γ Γ1 : En} {v x y z : PV} {k : Nat} {fa fb fc fo : SE} {fs : SA} {g g' : PV → PV → Option PV} {f f' : SS} {Q : PV → En → Prop} {QA : List PV → En → Prop} {QS : Fl → Prop} {QG : En → Prop} {QN : SV → En → Prop} {QNs : List SV → En → Prop} {QO : Option Int → En → Prop} {QX : Str → PV → En → Prop}
theorem w_any (h : Γ[k]? = some (.va v)) (q : Q v Γ) : wE (sAny k) Γ Q := ⟨v, Γ, any_va h, q⟩
theorem w_mv (h : Γ[k]? = some (.ow false v)) (q : Q v (Γ.set k (.va v))) : wE (sAny k) Γ Q := ⟨v, _, any_ow h rfl, q⟩
theorem w_c (q : Q v Γ) : wE (sC v) Γ Q := ⟨v, Γ, rfl, q⟩
theorem w_bin (h : wE fa Γ fun a Γ1 => wE fb Γ1 fun b Γ2 => ∃ c, g a b = some c ∧ Q c Γ2) : wE (sBin g fa fb) Γ Q := by
  obtain ⟨a, Γ1, e1, b, Γ2, e2, c, e3, q⟩ := h
  exact ⟨c, Γ2, bin_ok e1 e2 e3, q⟩
theorem wv_and (h : wE fa Γ fun a Γ1 => ∃ b, a = .bl b ∧ (b = true → wE fb Γ1 Q) ∧ (b = false → Q (.bl false) Γ1)) : wE (sAnd fa fb) Γ Q := by
  obtain ⟨a, Γ1, e1, b, rfl, ht, hf⟩ := h
  cases b with
  | true =>
    obtain ⟨v, Γ2, e2, q⟩ := ht rfl
    exact ⟨v, Γ2, and_t e1 e2, q⟩
  | false => exact ⟨_, _, and_f e1, hf rfl⟩
theorem wv_or (h : wE fa Γ fun a Γ1 => ∃ b, a = .bl b ∧ (b = true → Q (.bl true) Γ1) ∧ (b = false → wE fb Γ1 Q)) : wE (sOr fa fb) Γ Q := by
  obtain ⟨a, Γ1, e1, b, rfl, ht, hf⟩ := h
  cases b with
  | true => exact ⟨.bl true, Γ1, by unfold sOr; rw [e1]; rfl, ht rfl⟩
  | false =>
    obtain ⟨v, Γ2, e2, q⟩ := hf rfl
    exact ⟨v, Γ2, by unfold sOr; rw [e1]; exact e2, q⟩
theorem w_not (h : wE fa Γ fun a Γ1 => ∃ b, a = .bl b ∧ Q (.bl (!b)) Γ1) : wE (sNot fa) Γ Q := by
  obtain ⟨a, Γ1, e1, b, rfl, q⟩ := h
  exact ⟨_, Γ1, not_ok e1, q⟩
theorem w_if (h : wE fc Γ fun a Γ1 => ∃ b, a = .bl b ∧ (b = true → wE fa Γ1 Q) ∧ (b = false → wE fb Γ1 Q)) : wE (sIf fc fa fb) Γ Q := by
  obtain ⟨a, Γ1, e1, b, rfl, ht, hf⟩ := h
  cases b with
  | true =>
    obtain ⟨v, Γ2, e2, q⟩ := ht rfl
    exact ⟨v, Γ2, if_t e1 rfl e2, q⟩
  | false =>
    obtain ⟨v, Γ2, e2, q⟩ := hf rfl
    exact ⟨v, Γ2, if_f e1 rfl e2, q⟩
theorem w_nil (q : QA [] Γ) : wA sNil Γ QA := ⟨[], Γ, rfl, q⟩
theorem w_cons (h : wE fa Γ fun v Γ1 => wA fs Γ1 fun vs Γ2 => QA (v :: vs) Γ2) : wA (sCons fa fs) Γ QA := by
  obtain ⟨v, Γ1, e1, vs, Γ2, e2, q⟩ := h
  exact ⟨_, Γ2, cons_ok e1 e2, q⟩
theorem w_tup (h : wA fs Γ fun vs Γ1 => vs.length ≤ 1000000 ∧ Q (.tup false vs) Γ1) : wE (sTup fs) Γ Q := by
  obtain ⟨vs, Γ1, e1, l, q⟩ := h
  exact ⟨_, Γ1, tup_ok e1 l, q⟩
theorem w_lst (h : wA fs Γ fun vs Γ1 => vs.length ≤ 1000000 ∧ Q (.lst vs) Γ1) : wE (sLst fs) Γ Q := by
  obtain ⟨vs, Γ1, e1, l, q⟩ := h
  exact ⟨_, Γ1, lst_ok e1 l, q⟩
theorem w_dict {ks : List Str} (h : wA fs Γ fun vs Γ1 => vs.length = ks.length ∧ Q (.dct (ks.map .str) vs) Γ1) : wE (sDict ks fs) Γ Q := by
  obtain ⟨vs, Γ1, e1, l, q⟩ := h
  refine ⟨_, Γ1, ?_, q⟩
  unfold sDict
  rw [e1]
  exact if_pos l
theorem w_B {g : List PV → Option PV} (h : wA fs Γ fun vs Γ1 => ∃ c, g vs = some c ∧ Q c Γ1) : wE (sB g fs) Γ Q := by
  obtain ⟨vs, Γ1, e1, c, e2, q⟩ := h
  exact ⟨c, Γ1, B_ok e1 e2, q⟩
theorem w_U {g : PV → Option PV} (h : wE fa Γ fun a Γ1 => ∃ c, g a = some c ∧ Q c Γ1) : wE (sU g fa) Γ Q := by
  obtain ⟨vs, Γ1, e1, c, e2, q⟩ := h
  exact ⟨c, Γ1, U_ok e1 e2, q⟩
theorem w_peek (h : wE fa (lendA Γ) fun w _ => atom w = true ∧ Q w Γ) : wE (sPeek fa) Γ Q := by
  obtain ⟨w, Γ1, e1, a, q⟩ := h
  exact ⟨w, Γ, peek_ok e1 a, q⟩
theorem w_strM {g : Str → PV → Option PV} (h : wE fa Γ fun a Γ1 => ∃ s, a = .str s ∧ wE fb Γ1 fun b Γ2 => ∃ c, g s b = some c ∧ Q c Γ2) : wE (sStrM g fa fb) Γ Q := by
  obtain ⟨a, Γ1, e1, s, rfl, b, Γ2, e2, c, e3, q⟩ := h
  exact ⟨c, Γ2, strM_ok e1 e2 e3, q⟩
theorem w_tupM {g : List PV → PV → Option PV} (h : wE fa Γ fun a Γ1 => ∃ s, a = .tup true s ∧ wE fb Γ1 fun b Γ2 => ∃ c, g s b = some c ∧ Q c Γ2) : wE (sTupM g fa fb) Γ Q := by
  obtain ⟨a, Γ1, e1, s, rfl, b, Γ2, e2, c, e3, q⟩ := h
  exact ⟨c, Γ2, tupM_ok e1 e2 e3, q⟩
theorem w_chain (h : wE fa Γ fun a Γ1 => wE fb Γ1 fun b Γ2 => ∃ k, g a b = some (.bl k) ∧ (k = true → wE fc Γ2 fun c Γ3 => ∃ d, g' b c = some d ∧ Q d Γ3) ∧ (k = false → Q (.bl false) Γ2)) : wE (sChain g g' fa fb fc) Γ Q := by
  obtain ⟨a, Γ1, e1, b, Γ2, e2, k, e3, ht, hf⟩ := h
  cases k with
  | true =>
    obtain ⟨c, Γ3, e4, d, e5, q⟩ := ht rfl
    refine ⟨d, Γ3, ?_, q⟩
    unfold sChain
    rw [e1]
    show (fb Γ1).bind _ = _
    rw [e2]
    show (match g a b with | some (.bl true) => (fc Γ2).bind fun c Γ3 => ofO (g' b c) Γ3 | some (.bl false) => .ok (.bl false) Γ2 | _ => .no) = _
    rw [e3]
    show (fc Γ2).bind _ = _
    rw [e4]
    show ofO (g' b c) Γ3 = _
    rw [e5]
    rfl
  | false =>
    refine ⟨_, Γ2, ?_, hf rfl⟩
    unfold sChain
    rw [e1]
    show (fb Γ1).bind _ = _
    rw [e2]
    show (match g a b with | some (.bl true) => (fc Γ2).bind fun c Γ3 => ofO (g' b c) Γ3 | some (.bl false) => .ok (.bl false) Γ2 | _ => .no) = _
    rw [e3]
theorem w_onone (q : QO none Γ) : wO sNone Γ QO := ⟨none, Γ, rfl, q⟩
theorem w_osome (h : wE fa Γ fun a Γ1 => ∃ i, a = .int i ∧ QO (some i) Γ1) : wO (sSome fa) Γ QO := by
  obtain ⟨a, Γ1, e1, i, rfl, q⟩ := h
  exact ⟨some i, Γ1, some_ok e1, q⟩
theorem w_sl {lo hi : SO} (h : wE fa Γ fun a Γ1 => wO lo Γ1 fun l Γ2 => wO hi Γ2 fun u Γ3 => ∃ c, gSl a l u = some c ∧ Q c Γ3) : wE (sSl fa lo hi) Γ Q := by
  obtain ⟨a, Γ1, e1, l, Γ2, e2, u, Γ3, e3, c, e4, q⟩ := h
  exact ⟨c, Γ3, sl_ok e1 e2 e3 e4, q⟩
theorem w_call {g : List PV → Ro} (h : wA fs Γ fun vs Γ1 => ∃ v, g vs = .ok v ∧ Q v Γ1) : wE (sCall g fs) Γ Q := by
  obtain ⟨vs, Γ1, e1, v, e2, q⟩ := h
  exact ⟨v, Γ1, call_ok e1 e2, q⟩
theorem w_callW {g : PV → List PV → Rw} {io' : Bool} {p0 : PV} (h0 : Γ[k]? = some (.ow io' p0)) (h : wA fs Γ fun vs Γ1 => ∃ io p, Γ1[k]? = some (.ow io p) ∧ ∃ v p', g p vs = .ok v p' ∧ Q v (Γ1.set k (.ow io p'))) : wE (sCallW g k fs) Γ Q := by
  obtain ⟨vs, Γ1, e1, io, p, e2, v, p', e3, q⟩ := h
  exact ⟨v, _, callW_ok h0 e1 e2 e3 rfl, q⟩
theorem w_own {g : List PV → PV → Option (PV × List PV)} {io' : Bool} {xs0 : List PV} (h0 : Γ[k]? = some (.ow io' (.lst xs0))) (h : wE fa Γ fun a Γ1 => ∃ io xs, Γ1[k]? = some (.ow io (.lst xs)) ∧ ∃ r ys, g xs a = some (r, ys) ∧ Q r (Γ1.set k (.ow io (.lst ys)))) : wE (sOwn k fa g) Γ Q := by
  obtain ⟨a, Γ1, e1, io, xs, e2, r, ys, e3, q⟩ := h
  exact ⟨r, _, own_ok h0 e1 e2 e3 rfl, q⟩
theorem w_append {io' : Bool} {xs0 : List PV} (h0 : Γ[k]? = some (.ow io' (.lst xs0))) (h : wE fa Γ fun a Γ1 => ∃ io xs, Γ1[k]? = some (.ow io (.lst xs)) ∧ ∃ r ys, gAppend xs a = some (r, ys) ∧ Q r (Γ1.set k (.ow io (.lst ys)))) : wE (sAppend k fa) Γ Q := w_own h0 h
theorem w_extend {io' : Bool} {xs0 : List PV} (h0 : Γ[k]? = some (.ow io' (.lst xs0))) (h : wE fa Γ fun a Γ1 => ∃ io xs, Γ1[k]? = some (.ow io (.lst xs)) ∧ ∃ r ys, gExtend xs a = some (r, ys) ∧ Q r (Γ1.set k (.ow io (.lst ys)))) : wE (sExtend k fa) Γ Q := w_own h0 h
theorem w_popAt {io' : Bool} {xs0 : List PV} (h0 : Γ[k]? = some (.ow io' (.lst xs0))) (h : wE fa Γ fun a Γ1 => ∃ io xs, Γ1[k]? = some (.ow io (.lst xs)) ∧ ∃ r ys, gPopAt xs a = some (r, ys) ∧ Q r (Γ1.set k (.ow io (.lst ys)))) : wE (sPopAt k fa) Γ Q := w_own h0 h
theorem w_meth {c m : Str} {g : List PV → Ro} (h : wE fo Γ fun o Γ1 => ∃ ns us, o = .obj c ns us ∧ ns.contains m = false ∧ wA fs Γ1 fun vs Γ2 => ∃ v, g (o :: vs) = .ok v ∧ Q v Γ2) : wE (sMeth c m g fo fs) Γ Q := by
  obtain ⟨o, Γ1, e1, ns, us, rfl, hm, vs, Γ2, e2, v, e3, q⟩ := h
  refine ⟨v, Γ2, ?_, q⟩
  unfold sMeth
  rw [e1]
  show (if c = c ∧ ns.contains m = false then (fs Γ1).bind fun vs Γ2 => match g (.obj c ns us :: vs) with
      | .ok v => .ok v Γ2
      | .ex c v => .ex c v Γ2
      | .no => .no
    else .no) = _
  rw [if_pos ⟨rfl, hm⟩, e2]
  show (match g (.obj c ns us :: vs) with
      | .ok v => Rs.ok v Γ2
      | .ex c v => .ex c v Γ2
      | .no => .no) = _
  rw [e3]
theorem w_prm {π : List Nat} (h : wA fs Γ fun vs Γ1 => QA (prm π vs) Γ1) : wA (sPrm π fs) Γ QA := by
  obtain ⟨vs, Γ1, e1, q⟩ := h
  exact ⟨_, Γ1, by unfold sPrm; rw [e1]; rfl, q⟩
theorem w_dfl (h : wA fs Γ fun vs Γ1 => QA (vs ++ [.tup false []]) Γ1) : wA (sDfl fs) Γ QA := by
  obtain ⟨vs, Γ1, e1, q⟩ := h
  exact ⟨_, Γ1, by unfold sDfl; rw [e1]; rfl, q⟩
theorem w_mkB {g : List PV → Ro} (h : wA fs Γ fun vs Γ1 => ∃ h s, vs = [h, s] ∧ g [h, s] = .ok (.bl true) ∧ Q (bookPV h s) Γ1) : wE (sMkB g fs) Γ Q := by
  obtain ⟨vs, Γ1, e, h, s, rfl, e2, q⟩ := h
  refine ⟨_, Γ1, ?_, q⟩
  unfold sMkB
  rw [e]
  show (match g [h, s] with
    | .ok (.bl true) => Rs.ok (bookPV h s) Γ1
    | .ok (.bl false) => .ex "BadSayings" s Γ1
    | _ => .no) = _
  rw [e2]
/-- a + b, a | b of a class -/
theorem w_binM {c : Str} {ts : List String} {g : List PV → Ro} (h : wE fo Γ fun o Γ1 => ∃ ns us, o = .obj c ns us ∧ wE fb Γ1 fun b Γ2 => binOk c ts b = true ∧ ∃ v, g [o, b] = .ok v ∧ Q v Γ2) : wE (sBinM c ts g fo fb) Γ Q := by
  obtain ⟨o, Γ1, e1, ns, us, rfl, b, Γ2, e2, hb, v, e3, q⟩ := h
  refine ⟨v, Γ2, ?_, q⟩
  unfold sBinM
  rw [e1]
  show ((fb Γ1).bind _) = _
  rw [e2]
  show (if c = c ∧ binOk c ts b = true then (match g [.obj c ns us, b] with
      | .ok z => Rs.ok z Γ2
      | .ex e z => .ex e z Γ2
      | .no => .no)
    else .no) = _
  rw [if_pos ⟨rfl, hb⟩, e3]
/-! what is gone through -/
theorem w_seqL (h : wE fa Γ fun a Γ1 => ∃ xs, seqOf a = some xs ∧ QA xs Γ1) : wI (iSeq fa) Γ QA := by
  obtain ⟨a, Γ1, e1, xs, e2, q⟩ := h
  refine ⟨xs, Γ1, ?_, q⟩
  unfold iSeq
  rw [e1]
  cases a <;> cases e2 <;> rfl
theorem w_enu (h : wE fa Γ fun a Γ1 => ∃ xs, seqOf a = some xs ∧ QA (enumP 0 xs) Γ1) : wI (iEnu fa) Γ QA := by
  obtain ⟨a, Γ1, e1, xs, e2, q⟩ := h
  refine ⟨_, Γ1, ?_, q⟩
  unfold iEnu
  rw [e1]
  cases a <;> cases e2 <;> rfl
theorem w_range1 (h : wA fs Γ fun vs Γ1 => ∃ j, vs = [.int j] ∧ 0 ≤ j ∧ j ≤ 1000000 ∧ QA (upto 0 j.toNat) Γ1) : wI (iRange fs) Γ QA := by
  obtain ⟨vs, Γ1, e1, j, rfl, h1, h2, q⟩ := h
  exact ⟨_, Γ1, range1_ok e1 ⟨h1, h2⟩, q⟩
/-! comprehensions -/
theorem w_lc {vs : List Nat} {it : SIt} {gt : SG} {t e : SE} (h : wI it Γ fun ys Γ1 => okW vs Γ1 = true ∧ ∃ ws Γ2, lcL vs gt t e ys (wipeE vs Γ1) = .ok ws Γ2 ∧ ws.length ≤ 1000000 ∧ Q (.lst ws) (rest vs Γ1 Γ2)) : wE (sLc vs it gt t e) Γ Q := by
  obtain ⟨ys, Γ1, e1, o, ws, Γ2, e2, l, q⟩ := h
  exact ⟨_, _, lc_ok e1 o e2 l rfl, q⟩
theorem rest_wipe {vs : List Nat} : rest vs Γ (wipeE vs Γ) = Γ := List.ext_getElem? fun j => by
  by_cases h : j < Γ.length
  · by_cases m : j ∈ vs
    · exact rest_in m (by rw [wipeE_len]; exact h) wipeE_len.symm
    · rw [rest_out m, wipeE_out m]
  · rw [List.getElem?_eq_none (by rw [rest_len, wipeE_len]; omega), List.getElem?_eq_none (by omega)]
/-- one that changes nothing -/
theorem w_lcp {vs : List Nat} {it : SIt} {gt : SG} {t e : SE} (h : wI it Γ fun ys Γ1 => okW vs Γ1 = true ∧ ∃ ws, lcL vs gt t e ys (wipeE vs Γ1) = .ok ws (wipeE vs Γ1) ∧ ws.length ≤ 1000000 ∧ Q (.lst ws) Γ1) : wE (sLc vs it gt t e) Γ Q := by
  obtain ⟨ys, Γ1, e1, o, ws, e2, l, q⟩ := h
  refine w_lc ⟨ys, Γ1, e1, o, ws, _, e2, l, ?_⟩
  rw [rest_wipe]
  exact q
/-- each item is told apart -/
theorem lc_fm {vs : List Nat} {gt : SG} {t e : SE} {Γw : En} (φ : PV → Option PV) {ys : List PV} (h : ∀ y ∈ ys, wG gt y (wipeE vs Γw) fun Γ1 => wE t Γ1 fun b Γ2 => ∃ k, b = .bl k ∧ (k = true → wE e Γ2 fun w Γ3 => φ y = some w ∧ wipeE vs Γ3 = Γw) ∧ (k = false → φ y = none ∧ wipeE vs Γ2 = Γw)) :
    lcL vs gt t e ys Γw = .ok (ys.filterMap φ) Γw := lcL_map φ fun y hy => by
  obtain ⟨Γ1, e1, b, Γ2, e2, k, rfl, ht, hf⟩ := h y hy
  cases k with
  | true =>
    obtain ⟨w, Γ3, e3, p, q⟩ := ht rfl
    exact ⟨Γ1, Γ2, e1, .inl ⟨w, Γ3, e2, e3, q, p⟩⟩
  | false => exact ⟨Γ1, Γ2, e1, .inr ⟨e2, (hf rfl).2, (hf rfl).1⟩⟩
theorem lc_m {vs : List Nat} {gt : SG} {t e : SE} {Γw : En} (φ : PV → PV) {ys : List PV} (h : ∀ y ∈ ys, wG gt y (wipeE vs Γw) fun Γ1 => wE t Γ1 fun b Γ2 => b = .bl true ∧ wE e Γ2 fun w Γ3 => w = φ y ∧ wipeE vs Γ3 = Γw) :
    lcL vs gt t e ys Γw = .ok (ys.map φ) Γw := by
  have z := lc_fm (vs := vs) (gt := gt) (t := t) (e := e) (Γw := Γw) (fun y => some (φ y)) (ys := ys) fun y hy => by
    obtain ⟨Γ1, e1, b, Γ2, e2, rfl, w, Γ3, e3, rfl, q⟩ := h y hy
    exact ⟨Γ1, e1, _, Γ2, e2, true, rfl, fun _ => ⟨_, Γ3, e3, rfl, q⟩, fun z => by cases z⟩
  rw [z]
  congr 1
  rw [List.filterMap_eq_map']
theorem lc_finw {α : Type} {vs : List Nat} {gt : SG} {t e : SE} {Γw : En} (inj : α → PV) (p : α → Bool) (φ : α → PV) : ∀ {xs : List α}, (∀ x ∈ xs, wG gt (inj x) (wipeE vs Γw) fun Γ1 => wE t Γ1 fun b Γ2 => b = .bl (p x) ∧ (p x = true → wE e Γ2 fun w Γ3 => w = φ x ∧ wipeE vs Γ3 = Γw) ∧ (p x = false → wipeE vs Γ2 = Γw)) →
    lcL vs gt t e (xs.map inj) Γw = .ok ((xs.filter p).map φ) Γw
  | [], _ => rfl
  | x :: xs, h => by
    obtain ⟨Γ1, e1, b, Γ2, e2, rfl, ht, hf⟩ := h x List.mem_cons_self
    have ih := lc_finw inj p φ fun y hy => h y (List.mem_cons_of_mem _ hy)
    show lcL vs gt t e (inj x :: xs.map inj) Γw = _
    unfold lcL
    rw [e1]
    show (match t Γ1 with
      | .ok (.bl true) Γ2 => match e Γ2 with
        | .ok w Γ3 => match lcL vs gt t e (xs.map inj) (wipeE vs Γ3) with
          | .ok ws Γ4 => Rs.ok (w :: ws) Γ4
          | _ => .no
        | _ => .no
      | .ok (.bl false) Γ2 => lcL vs gt t e (xs.map inj) (wipeE vs Γ2)
      | _ => .no) = _
    rw [e2]
    cases hp : p x with
    | true =>
      obtain ⟨w, Γ3, e3, rfl, q⟩ := ht hp
      show (match e Γ2 with
        | .ok w Γ3 => match lcL vs gt t e (xs.map inj) (wipeE vs Γ3) with
          | .ok ws Γ4 => Rs.ok (w :: ws) Γ4
          | _ => .no
        | _ => .no) = _
      rw [e3]
      show (match lcL vs gt t e (xs.map inj) (wipeE vs Γ3) with
          | .ok ws Γ4 => Rs.ok (φ x :: ws) Γ4
          | _ => .no) = _
      rw [q, ih, List.filter_cons_of_pos hp]
      rfl
    | false =>
      show lcL vs gt t e (xs.map inj) (wipeE vs Γ2) = _
      rw [hf hp, ih, List.filter_cons_of_neg (by rw [hp]; exact Bool.false_ne_true)]
theorem lc_inw {α : Type} {vs : List Nat} {gt : SG} {t e : SE} {Γw : En} (inj : α → PV) (φ : α → PV) {xs : List α} (h : ∀ x ∈ xs, wG gt (inj x) (wipeE vs Γw) fun Γ1 => wE t Γ1 fun b Γ2 => b = .bl true ∧ wE e Γ2 fun w Γ3 => w = φ x ∧ wipeE vs Γ3 = Γw) :
    lcL vs gt t e (xs.map inj) Γw = .ok (xs.map φ) Γw := by
  have z := lc_finw (vs := vs) (gt := gt) (t := t) (e := e) (Γw := Γw) inj (fun _ => true) φ (xs := xs) fun x hx => by
    obtain ⟨Γ1, e1, b, Γ2, e2, rfl, w, Γ3, e3, rfl, q⟩ := h x hx
    exact ⟨Γ1, e1, _, Γ2, e2, rfl, fun _ => ⟨_, Γ3, e3, rfl, q⟩, fun z => by cases z⟩
  rw [z, List.filter_eq_self.mpr fun _ _ => rfl]
/-! targets -/
theorem w_gV (o : okSet Γ k = true) (q : QG (Γ.set k (.va v))) : wG (gV k) v Γ QG := ⟨_, by show putV k v Γ = _; unfold putV; rw [if_pos o], q⟩
theorem w_gT {n : Nat} {gs : SGs} (h : ∃ fl xs, v = .tup fl xs ∧ xs.length = n ∧ wGs gs xs Γ QG) : wG (gT n gs) v Γ QG := by
  obtain ⟨fl, xs, rfl, l, Γ1, e, q⟩ := h
  exact ⟨Γ1, by unfold gT; rw [← e]; exact if_pos l, q⟩
theorem w_gTL {n : Nat} {gs : SGs} (h : ∃ xs, v = .lst xs ∧ xs.length = n ∧ wGs gs xs Γ QG) : wG (gTL n gs) v Γ QG := by
  obtain ⟨xs, rfl, l, Γ1, e, q⟩ := h
  exact ⟨Γ1, by unfold gTL; rw [← e]; exact if_pos l, q⟩
theorem w_gsNil (q : QG Γ) : wGs gsNil [] Γ QG := ⟨Γ, rfl, q⟩
theorem w_gsCons {gf : SG} {gs : SGs} {vs : List PV} (h : wG gf v Γ fun Γ1 => wGs gs vs Γ1 QG) : wGs (gsCons gf gs) (v :: vs) Γ QG := by
  obtain ⟨Γ1, e1, Γ2, e2, q⟩ := h
  refine ⟨Γ2, ?_, q⟩
  unfold gsCons
  show (match gf v Γ with
    | .nx Γ1 => gs vs Γ1
    | _ => .no) = _
  rw [e1]
  exact e2
/-! statements -/
theorem s_of {r : Fl} (e : f Γ = r) (q : QS r) : wS f Γ QS := by unfold wS; rw [e]; exact q
theorem ws_seq (h : wS f Γ (nxK (fun Γ1 => wS f' Γ1 QS) QS)) : wS (sSeq f f') Γ QS := by
  unfold wS sSeq
  unfold wS at h
  cases e : f Γ <;> rw [e] at h <;> exact h
theorem ws_skip (q : QS (.nx Γ)) : wS sSkip Γ QS := q
theorem k_nx {kk : En → Prop} (q : kk Γ) : nxK kk QS (.nx Γ) := q
theorem k_rt {kk : En → Prop} (q : QS (.rt v Γ)) : nxK kk QS (.rt v Γ) := q
theorem k_ex {kk : En → Prop} {c : Str} (q : QS (.ex c v Γ)) : nxK kk QS (.ex c v Γ) := q
theorem k_ct {kk : En → Prop} (q : QS (.ct Γ)) : nxK kk QS (.ct Γ) := q
theorem l_nx {kk : En → Prop} (q : kk Γ) : loopK kk QS (.nx Γ) := q
theorem l_ct {kk : En → Prop} (q : kk Γ) : loopK kk QS (.ct Γ) := q
theorem l_rt {kk : En → Prop} (q : QS (.rt v Γ)) : loopK kk QS (.rt v Γ) := q
theorem ws_set (h : wE fa Γ fun v Γ1 => okSet Γ1 k = true ∧ QS (.nx (Γ1.set k (.va v)))) : wS (sSet k fa) Γ QS := by
  obtain ⟨v, Γ1, e, o, q⟩ := h
  exact s_of (set_ok e o rfl) q
theorem ws_ret (h : wE fa Γ fun v Γ1 => QS (.rt v Γ1)) : wS (sRet fa) Γ QS := by
  obtain ⟨v, Γ1, e, q⟩ := h
  exact s_of (ret_ok e) q
theorem ws_expr (h : wE fa Γ fun v Γ1 => QS (.nx Γ1)) : wS (sExpr fa) Γ QS := by
  obtain ⟨v, Γ1, e, q⟩ := h
  exact s_of (expr_ok e) q
theorem ws_raise {c : Str} (h : wE fa Γ fun v Γ1 => QS (.ex c v Γ1)) : wS (sRaise c fa) Γ QS := by
  obtain ⟨v, Γ1, e, q⟩ := h
  exact s_of (by unfold sRaise; rw [e]; rfl) q
theorem ws_if (h : wE fc Γ fun a Γ1 => ∃ b, a = .bl b ∧ (b = true → wS f Γ1 QS) ∧ (b = false → wS f' Γ1 QS)) : wS (sIfS fc f f') Γ QS := by
  obtain ⟨a, Γ1, e1, b, rfl, ht, hf⟩ := h
  cases b with
  | true => exact s_of (ifS_t e1 rfl rfl) (ht rfl)
  | false => exact s_of (ifS_f e1 rfl rfl) (hf rfl)
theorem ws_asg {gt : SG} (h : wE fa Γ fun v Γ1 => wG gt v Γ1 fun Γ2 => QS (.nx Γ2)) : wS (sAsg fa gt) Γ QS := by
  obtain ⟨v, Γ1, e1, Γ2, e2, q⟩ := h
  exact s_of (asg_ok e1 e2) q
theorem w_xnil (q : QNs [] Γ) : wNs xsNil Γ QNs := ⟨[], Γ, rfl, q⟩
theorem w_xcons {fx : SX} {fxs : SXA} (h : wN fx Γ fun u Γ1 => okN u = true ∧ wNs fxs Γ1 fun us Γ2 => QNs (u :: us) Γ2) : wNs (xsCons fx fxs) Γ QNs := by
  obtain ⟨u, Γ1, e1, o, us, Γ2, e2, q⟩ := h
  exact ⟨_, Γ2, xcons_ok e1 o e2, q⟩
theorem w_xva (h : wE fa Γ fun v Γ1 => QN (.va v) Γ1) : wN (xVa fa) Γ QN := by
  obtain ⟨v, Γ1, e1, q⟩ := h
  exact ⟨_, Γ1, xva_ok e1, q⟩
theorem w_xnew (h : wE fa Γ fun v Γ1 => QN (.ow false v) Γ1) : wN (xNew fa) Γ QN := by
  obtain ⟨v, Γ1, e1, q⟩ := h
  exact ⟨_, Γ1, xnew_ok e1, q⟩
theorem ws_par {ks : List Nat} {fx : SXA} (h : wNs fx Γ fun us Γ1 => ∃ Γ2, putL ks us Γ1 = .nx Γ2 ∧ QS (.nx Γ2)) : wS (sPar ks fx) Γ QS := by
  obtain ⟨us, Γ1, e1, Γ2, e2, q⟩ := h
  exact s_of (par_ok e1 e2) q
theorem ws_put {fx : SX} (h : wN fx Γ fun u Γ1 => ∃ Γ2, putX k u Γ1 = .nx Γ2 ∧ QS (.nx Γ2)) : wS (sPut k fx) Γ QS := by
  obtain ⟨u, Γ1, e1, Γ2, e2, q⟩ := h
  exact s_of (put_ok e1 e2) q
/-! defs -/
theorem runV_w {F : SS} {np n : Nat} {as : List PV} (hl : as.length = np) (h : wS F (begV n as) fun r => ∃ Γ', r = .rt v Γ') : runV F np n as = .ok v := by
  obtain ⟨Γ', e⟩ := h
  exact runV_ok hl e
theorem runW_w {F : SS} {np n : Nat} {as : List PV} {p : PV} {R : PV → PV → Prop} (hl : as.length + 1 = np) (h : wS F (begW n p as) fun r => ∃ v Γ' p', r = .rt v Γ' ∧ at0 Γ' = some p' ∧ R v p') : ∃ v p', runW F np n p as = .ok v p' ∧ R v p' := by
  obtain ⟨v, Γ', p', e, a, q⟩ := h
  exact ⟨v, p', runW_ok hl e a, q⟩
end
theorem bt {X : Bool} {A B : Prop} (h : X = true) (a : A) : (X = true → A) ∧ (X = false → B) := ⟨fun _ => a, fun z => by rw [h] at z; cases z⟩
theorem bf {X : Bool} {A B : Prop} (h : X = false) (b : B) : (X = true → A) ∧ (X = false → B) := ⟨fun z => (by rw [h] at z; cases z), fun _ => b⟩
/-! the leaves that need no choice -/
theorem br_ok {X : Bool} {R : Bool → Prop} (h : R X) : ∃ b, PV.bl X = .bl b ∧ R b := ⟨X, rfl, h⟩
theorem seq_lst {xs : List PV} {R : List PV → Prop} (h : R xs) : ∃ ys, seqOf (.lst xs) = some ys ∧ R ys := ⟨xs, rfl, h⟩
theorem seq_tup {f : Bool} {xs : List PV} {R : List PV → Prop} (h : R xs) : ∃ ys, seqOf (.tup f xs) = some ys ∧ R ys := ⟨xs, rfl, h⟩
theorem ow_ok {Γ : En} {k : Nat} {io : Bool} {p : PV} {R : Bool → PV → Prop} (e : Γ[k]? = some (.ow io p)) (h : R io p) : ∃ io p, Γ[k]? = some (.ow io p) ∧ R io p := ⟨io, p, e, h⟩
theorem atom_bl {b : Bool} {R : Prop} (h : R) : atom (.bl b) = true ∧ R := ⟨rfl, h⟩
theorem atom_int {b : Int} {R : Prop} (h : R) : atom (.int b) = true ∧ R := ⟨rfl, h⟩
theorem atom_str {b : Str} {R : Prop} (h : R) : atom (.str b) = true ∧ R := ⟨rfl, h⟩
theorem okn_va {v : PV} {R : Prop} (h : R) : okN (.va v) = true ∧ R := ⟨rfl, h⟩
theorem okn_ow {v : PV} {R : Prop} (h : R) : okN (.ow false v) = true ∧ R := ⟨rfl, h⟩
theorem oks_ok {Γ : En} {k : Nat} {R : Prop} (e : okSet Γ k = true) (h : R) : okSet Γ k = true ∧ R := ⟨e, h⟩
theorem okw_ok {Γ : En} {k : List Nat} {R : Prop} (e : okW k Γ = true) (h : R) : okW k Γ = true ∧ R := ⟨e, h⟩
theorem putl_ok {ks : List Nat} {us : List SV} {Γ Γ2 : En} {R : En → Prop} (e : putL ks us Γ = .nx Γ2) (h : R Γ2) : ∃ Γ2, putL ks us Γ = .nx Γ2 ∧ R Γ2 := ⟨Γ2, e, h⟩
theorem putx_ok {k : Nat} {u : SV} {Γ Γ2 : En} {R : En → Prop} (e : putX k u Γ = .nx Γ2) (h : R Γ2) : ∃ Γ2, putX k u Γ = .nx Γ2 ∧ R Γ2 := ⟨Γ2, e, h⟩
end QX
local macro_rules | `(tactic| walk_at "wpy1") => `(tactic| first
  | with_reducible refine QX.ws_seq ?_
  | with_reducible refine QX.k_nx ?_
  | with_reducible refine QX.k_rt ?_
  | with_reducible refine QX.k_ex ?_
  | with_reducible refine QX.k_ct ?_
  | with_reducible refine QX.l_nx ?_
  | with_reducible refine QX.l_ct ?_
  | with_reducible refine QX.l_rt ?_
  | with_reducible refine QX.ws_set ?_
  | with_reducible refine QX.ws_if ?_
  | with_reducible refine QX.ws_ret ?_
  | with_reducible refine QX.ws_skip ?_
  | with_reducible refine QX.ws_expr ?_
  | with_reducible refine QX.ws_asg ?_
  | with_reducible refine QX.ws_par ?_
  | with_reducible refine QX.ws_put ?_
  | with_reducible refine QX.ws_raise ?_
  | with_reducible refine QX.w_any rfl ?_
  | with_reducible refine QX.w_c ?_
  | with_reducible refine QX.w_bin ?_
  | with_reducible refine QX.wv_and ?_
  | with_reducible refine QX.wv_or ?_
  | with_reducible refine QX.w_not ?_
  | with_reducible refine QX.w_if ?_
  | with_reducible refine QX.w_nil ?_
  | with_reducible refine QX.w_cons ?_
  | with_reducible refine QX.w_tup ?_
  | with_reducible refine QX.w_lst ?_
  | with_reducible refine QX.w_dict ?_
  | with_reducible refine QX.w_B ?_
  | with_reducible refine QX.w_U ?_
  | with_reducible refine QX.w_peek ?_
  | with_reducible refine QX.w_strM ?_
  | with_reducible refine QX.w_tupM ?_
  | with_reducible refine QX.w_chain ?_
  | with_reducible refine QX.w_sl ?_
  | with_reducible refine QX.w_onone ?_
  | with_reducible refine QX.w_osome ?_
  | with_reducible refine QX.w_call ?_
  | with_reducible refine QX.w_meth ?_
  | with_reducible refine QX.w_mkB ?_
  | with_reducible refine QX.w_prm ?_
  | with_reducible refine QX.w_dfl ?_
  | with_reducible refine QX.w_binM ?_
  | with_reducible refine QX.w_lcp ?_
  | with_reducible refine QX.w_xnil ?_
  | with_reducible refine QX.w_xcons ?_
  | with_reducible refine QX.w_xva ?_
  | with_reducible refine QX.w_xnew ?_
  | with_reducible refine QX.w_seqL ?_
  | with_reducible refine QX.w_enu ?_
  | with_reducible refine QX.w_range1 ?_
  | with_reducible refine QX.w_gV rfl ?_
  | with_reducible refine QX.w_gsNil ?_
  | with_reducible refine QX.w_gsCons ?_
  | with_reducible refine QX.w_gT ⟨_, _, rfl, rfl, ?_⟩
  | with_reducible refine QX.w_gTL ⟨_, rfl, rfl, ?_⟩
  | with_reducible refine QX.w_callW rfl ?_
  | with_reducible refine QX.w_append rfl ?_
  | with_reducible refine QX.w_extend rfl ?_
  | with_reducible refine QX.w_popAt rfl ?_
  | with_reducible refine QX.w_mv rfl ?_
  | with_reducible refine QX.bt (by first | rfl | assumption | exact Bool.not_false) ?_
  | with_reducible refine QX.bf (by first | rfl | assumption | exact Bool.not_true) ?_
  | with_reducible refine QX.br_ok ?_
  | with_reducible refine QX.seq_lst ?_
  | with_reducible refine QX.seq_tup ?_
  | with_reducible refine QX.ow_ok rfl ?_
  | with_reducible refine QX.atom_bl ?_
  | with_reducible refine QX.atom_int ?_
  | with_reducible refine QX.atom_str ?_
  | with_reducible refine QX.okn_va ?_
  | with_reducible refine QX.okn_ow ?_
  | with_reducible refine QX.oks_ok rfl ?_
  | with_reducible refine QX.okw_ok rfl ?_
  | refine And.intro QX.le6 ?_
  | with_reducible refine QX.putl_ok (by with_unfolding_all rfl) ?_
  | with_reducible refine QX.putx_ok (by with_unfolding_all rfl) ?_)
local macro_rules | `(tactic| walk_at "wpy") => `(tactic| (repeat walk_at "wpy1") <;> (try dsimp only [List.set_cons_zero, List.set_cons_succ]))
local macro_rules | `(tactic| walk_at "wpx1") => `(tactic| first
  | walk_at "wpy1"
  | with_reducible refine ⟨_, rfl, ?_⟩
  | with_reducible refine ⟨_, _, rfl, ?_⟩
  | with_reducible refine ⟨rfl, ?_⟩)
local macro_rules | `(tactic| walk_at "wpx") => `(tactic| (repeat walk_at "wpx1") <;> (try dsimp only [List.set_cons_zero, List.set_cons_succ]))
namespace QX
open PySem PySem.Spec PySem.W PySem.Calls PyProof.Rows L2 MX
end QX

set_option Elab.async false
set_option linter.all false
set_option maxRecDepth 100000
set_option maxHeartbeats 4000000
namespace QX
open PySem PySem.Spec PySem.W PySem.Calls PyProof.Rows L2 MX
/-! ### values of any kind -/
/-- what repr shows -/
def okV (p : PV) : Prop := ∃ d, toD p = some d ∧ okR d = true ∧ showB d = true
theorem okV.d {p : PV} (h : okV p) : ∃ d, toD p = some d := by
  obtain ⟨d, e, _⟩ := h
  exact ⟨d, e⟩
/-- data that have no dict -/
structure Nice (w k : Nat) (p : PV) : Prop where
  go : ∃ d, toD p = some d ∧ d.hasDict = false ∧ d.leavesShort 8 = true ∧ d.showable = true ∧ d.depth ≤ k ∧ d.weight ≤ w
theorem Nice.ok {w k : Nat} {p : PV} (h : Nice w k p) (hw : w ≤ 2 ^ 20) (hk : k ≤ 60) : okV p := by
  obtain ⟨d, e, h1, h2, h3, h4, h5⟩ := h.go
  refine ⟨d, e, ?_, showB_of h3 (by omega) (PyData.shown_fits (B := 8) (by decide) (by decide) h2 (by omega))⟩
  unfold okR
  rw [h1, Bool.not_false, Bool.or_true]
theorem Nice.mono {w k w' k' : Nat} {p : PV} (h : Nice w k p) (hw : w ≤ w') (hk : k ≤ k') : Nice w' k' p := by
  obtain ⟨d, e, h1, h2, h3, h4, h5⟩ := h.go
  exact ⟨⟨d, e, h1, h2, h3, by omega, by omega⟩⟩
/-! ### who of some people any value is -/
section
variable {ps : List Str} {t o d a b v : PV} {tw : Str → Str → Str}
end
/-! ### what is told of two -/
section
variable {ps : List Str} {mets : List (List Str)} {ops es : List Evt} {ws : List PV} {tw : Str → Str → Str} {m : Nat}
/-! ### k01 -/
end
end QX

set_option Elab.async false
set_option linter.all false
set_option maxRecDepth 100000
set_option maxHeartbeats 4000000
namespace QX
open PySem PySem.Spec PySem.W PySem.Calls PyProof.Rows L2 MX
/-! ### k01 -/
abbrev eN : List (Str × Bool) := [("BadHall", false), ("NoPerson", true)]
section
variable {ps : List Str} {mets : List (List Str)} {ops es : List Evt} {t o d a b : PV} {tw : Str → Str → Str} {m : Nat}
end
/-! any value of law_odd -/
/-! texts are shown -/
end QX

set_option Elab.async false
set_option linter.all false
set_option maxRecDepth 100000
set_option maxHeartbeats 4000000
namespace QX
open PySem PySem.Spec PySem.W PySem.Calls PyProof.Rows L2 MX
section
variable {tk : SS} {N : Nat} {p : PV} {ps ps2 : List Str} {t o d o2 d2 v : PV} {x y : Str}
theorem fld_text : gFld "Hall" "text" (hallPV ps t o d) = some t := by
  show (if ("Hall" : Str) = "Hall" then lookF hallN [t, .tup false (ps.map .str), o, d] "text" else none) = _
  rw [if_pos rfl]
  show (if ("text" : Str) = "text" then some t else _) = _
  rw [if_pos rfl]
theorem isHall : gIsC [] ["Hall"] "Hall" (hallPV ps t o d) = some (.bl true) := by
  show (if ("Hall" : Str) ∈ (["Hall"] : List Str) then some (PV.bl (decide (("Hall" : Str) = "Hall"))) else none) = _
  rw [if_pos (by decide +kernel), decide_eq_true rfl]
theorem hall_eq : runV F_Hall_eq 2 0 [hallPV ps (.str x) o d, hallPV ps2 (.str y) o2 d2] = .ok (.bl (decide (x = y))) := by
  refine runV_w rfl ?_
  obtain ⟨h1, e1⟩ : ∃ h, h = hallPV ps (.str x) o d := ⟨_, rfl⟩
  obtain ⟨h2, e2⟩ : ∃ h, h = hallPV ps2 (.str y) o2 d2 := ⟨_, rfl⟩
  rw [← e1, ← e2]
  show wS F_Hall_eq [.va h1, .va h2] _
  unfold F_Hall_eq
  walk_at "wpy"
  refine ⟨_, by rw [e2]; exact isHall, _, rfl, bt rfl ?_⟩
  walk_at "wpy"
  refine ⟨_, by rw [e1]; exact fld_text, ?_⟩
  walk_at "wpy"
  refine ⟨_, by rw [e2]; exact fld_text, ?_⟩
  exact ⟨_, gEq_str x y, _, rfl⟩
theorem eqC_of {g : List PV → Ro} {b : Bool} (e : g [hallPV ps t o d, v] = .ok (.bl b)) (h : tyOk "Hall" v = true) (neg : Bool) : gEqOwn "Hall" g neg (hallPV ps t o d) v = some (.bl (if neg then !b else b)) := by
  show (if ("Hall" : Str) = "Hall" ∧ tyOk "Hall" v = true then (match g [hallPV ps t o d, v] with
    | .ok (.bl b) => some (PV.bl (if neg then !b else b))
    | _ => none) else none) = _
  rw [if_pos ⟨rfl, h⟩, e]
theorem tyHall : tyOk "Hall" (hallPV ps t o d) = true := by
  show decide (("Hall" : Str) = "Hall") = true
  exact decide_eq_true rfl
theorem eqHH : gEqC "Hall" (runV F_Hall_eq 2 0) (hallPV ps (.str x) o d) (hallPV ps2 (.str y) o2 d2) = some (.bl (decide (x = y))) := eqC_of (ps := ps) (t := .str x) (o := o) (d := d) (v := hallPV ps2 (.str y) o2 d2) (hall_eq (ps := ps) (ps2 := ps2) (o := o) (d := d) (o2 := o2) (d2 := d2) (x := x) (y := y)) (tyHall (ps := ps2) (t := .str y) (o := o2) (d := d2)) false
theorem add_lst {a b : List PV} (h : a.length + b.length ≤ 1000000) : gAdd (.lst a) (.lst b) = some (.lst (a ++ b)) := if_pos h
end
end QX

set_option Elab.async false
set_option linter.all false
set_option maxRecDepth 100000
set_option maxHeartbeats 4000000
namespace QX
open PySem PySem.Spec PySem.W PySem.Calls PyProof.Rows L2 MX
/-! ### halls by their lines alone -/
structure Lo (ps : List Str) (mets : List (List Str)) (ops : List Evt) : Prop where
  one : 1 ≤ ps.length
  nine : ps.length ≤ 9
  nd : ps.Nodup
  pool : ∀ x ∈ ps, x ∈ pool14
  gok : ∀ g ∈ mets, 2 ≤ g.length ∧ g.Nodup ∧ ∀ x ∈ g, x ∈ ps
  few : mets.length ≤ 20
  qok : ∀ q ∈ ops, q.1 ∈ ps ∧ q.2 ∈ ps ∧ q.1 ≠ q.2
  opsl : ops.length ≤ 4
  once : ops.Pairwise fun q r => q ≠ r ∧ q ≠ swp r
  free : ∀ q ∈ ops, ∀ g ∈ mets, ¬ (q.1 ∈ g ∧ q.2 ∈ g)
theorem Lore.lo {m : Nat} {ps : List Str} {mets : List (List Str)} {ops es : List Evt} (h : Lore m ps mets ops es) : Lo ps mets ops := ⟨h.one, h.nine, h.nd, h.pool, h.core.gok, h.core.few, h.core.qok, h.core.opsl, h.core.once, h.core.free⟩
theorem Lo.ok {ps : List Str} {mets : List (List Str)} {ops : List Evt} (h : Lo ps mets ops) : ∀ x ∈ ps, OkS x := fun x hx => pool_ok x (h.pool x hx)
section
variable {m : Nat} {ps : List Str} {mets : List (List Str)} {ops es : List Evt}
theorem Lo.words (h : Lo ps mets ops) : ∀ ws ∈ rowsW ps mets ops, ws ≠ [] ∧ ws.length ≤ 10 ∧ ∀ w ∈ ws, Clean w ∧ w.length ≤ 20 := fun ws hws => by
  have cp : ∀ x ∈ ps, Clean x ∧ x.length ≤ 20 := fun x hx => clean_of (by simp [h.pool x hx])
  have nine := h.nine
  rcases List.mem_cons.mp hws with e | hws
  · rw [e]
    refine ⟨by simp, by rw [List.length_cons]; omega, fun w hw => ?_⟩
    rcases List.mem_cons.mp hw with e | hw
    · rw [e]; exact clean_of (by simp)
    · exact cp w hw
  · rcases List.mem_append.mp hws with hws | hws
    · obtain ⟨g, hg, rfl⟩ := List.mem_map.mp hws
      obtain ⟨g1, g2, g3⟩ := h.gok g hg
      have : g.length ≤ ps.length := List.Nodup.length_le_of_subset g2 g3
      refine ⟨by simp, by rw [List.length_cons]; omega, fun w hw => ?_⟩
      rcases List.mem_cons.mp hw with e | hw
      · rw [e]; exact clean_of (by simp)
      · exact cp w (g3 w hw)
    · obtain ⟨q, hq, rfl⟩ := List.mem_map.mp hws
      obtain ⟨q1, q2, _⟩ := h.qok q hq
      refine ⟨by simp, by simp, fun w hw => ?_⟩
      simp only [List.mem_cons, List.not_mem_nil, or_false] at hw
      rcases hw with e | e | e
      · rw [e]; exact clean_of (by simp)
      · rw [e]; exact cp _ q1
      · rw [e]; exact cp _ q2
theorem Lo.rowsLen (h : Lo ps mets ops) : (rowsW ps mets ops).length ≤ 25 := by
  have := h.few
  have := h.opsl
  unfold rowsW
  rw [List.length_cons, List.length_append, List.length_map, List.length_map]
  omega
theorem Lo.textOk (h : Lo ps mets ops) : TextOk (textL ps mets ops) ∧ (((rowsW ps mets ops).map (Txt.join " ")).map (·.length)).sum + ((rowsW ps mets ops).map (Txt.join " ")).length * (("\n" : Str)).length ≤ 16777216 := by
  have := h.rowsLen
  exact text_ok (by unfold rowsW; simp) (fun ws hw => (h.words ws hw).1) (fun ws hw => (h.words ws hw).2.2) (by omega) (fun ws hw => by have := (h.words ws hw).2.1; omega)
theorem Lo.lines (h : Lo ps mets ops) : hallLines (textL ps mets ops) = rowsW ps mets ops :=
  lines_of (by unfold rowsW; simp) (fun ws hw => (h.words ws hw).1) fun ws hw w hm => ((h.words ws hw).2.2 w hm).1
theorem Lo.parse (h : Lo ps mets ops) : parseH (textL ps mets ops) = .inr (ops.map (fun q => [q.1, q.2]), toldT mets ops) ∧ peopleOf (textL ps mets ops) = ps := by
  have hp : peopleB (("people" : Str) :: ps) = true := by
    unfold peopleB headIs
    show (decide (some ("people" : Str) = some ("people" : Str)) && (decide (1 ≤ ps.length) && (decide (ps.length ≤ 9) && (decide ps.Nodup && ps.all nameB)))) = true
    rw [decide_eq_true rfl, decide_eq_true h.one, decide_eq_true h.nine, decide_eq_true h.nd, List.all_eq_true.mpr fun x hx => List.all_eq_true.mp names_all x (h.pool x hx)]
    rfl
  constructor
  · unfold parseH
    rw [h.lines]
    show (if peopleB (("people" : Str) :: ps) = true then runT ps 2 (mets.map metW ++ ops.map openW) ([], []) else Sum.inl 1) = _
    have few := h.few
    have opsl := h.opsl
    rw [if_pos hp, run_mets (by omega) h.gok, run_opens (by simpa using opsl) h.qok h.once fun q hq => ?_]
    · rfl
    · rw [val_tellM _ _ _ _ (h.qok q hq).2.2, if_neg]
      · rfl
      · rintro ⟨g, hg, z⟩
        exact h.free q hq g hg z
  · unfold peopleOf
    rw [h.lines]
    rfl
theorem Lo.vals (h : Lo ps mets ops) : ∃ ws, vPs ((toldT mets ops).map (·.2)) = some ws := allS_vPs fun v hv => by
  obtain ⟨e, he, rfl⟩ := List.mem_map.mp hv
  exact allS_O ops (allS_M mets (T := []) (fun e he => by cases he)) e he
theorem sHall_lo {Γ Γ1 : En} {f : SE} (h : Lo ps mets ops) (hf : f Γ = .ok (.str (textL ps mets ops)) Γ1) : ∃ ws, vPs ((toldT mets ops).map (·.2)) = some ws ∧ sHall f Γ = .ok (hallPV ps (.str (textL ps mets ops)) (opsP (ops.map fun q => [q.1, q.2])) (.dct ((toldT mets ops).map fun e => keyP e.1) ws)) Γ1 := by
  obtain ⟨ws, hv⟩ := h.vals
  obtain ⟨p1, p2⟩ := h.parse
  refine ⟨ws, hv, ?_⟩
  unfold sHall
  rw [hf]
  show (open Classical in if TextOk (textL ps mets ops) then (match parseH (textL ps mets ops) with
    | .inr ot => ofO ((vPs ((ot : Ops × MX.Tm).2.map (fun e : List Key × V => e.2))).map (hallV (textL ps mets ops) (ot : Ops × MX.Tm).1 (ot : Ops × MX.Tm).2)) Γ1
    | .inl n => .ex "BadHall" (.int (n : Int)) Γ1) else .no) = _
  rw [if_pos h.textOk.1, p1]
  show ofO ((vPs ((toldT mets ops).map (·.2))).map (hallV (textL ps mets ops) (ops.map fun q => [q.1, q.2]) (toldT mets ops))) Γ1 = _
  rw [hv]
  show Rs.ok (hallV (textL ps mets ops) (ops.map fun q => [q.1, q.2]) (toldT mets ops) ws) Γ1 = _
  unfold hallV
  rw [p2]
  rfl
/-! a person left out -/
abbrev psL (x : Str) (ps : List Str) : List Str := ps.filter fun y => decide (y ≠ x)
abbrev metsL (x : Str) (mets : List (List Str)) : List (List Str) := (mets.map (psL x)).filter fun g => decide (1 < g.length)
abbrev opsL (x : Str) (ops : List Evt) : List Evt := ops.filter fun q => decide (x ∉ [q.1, q.2])
theorem len_less {x : Str} (nd : ps.Nodup) (hx : x ∈ ps) : (psL x ps).length + 1 = ps.length := by
  have e : psL x ps = ps.erase x := by
    rw [List.Nodup.erase_eq_filter nd]
    exact List.filter_congr fun y _ => by by_cases c : y = x <;> simp [c]
  rw [e, List.length_erase_of_mem hx]
  have := List.length_pos_of_mem hx
  omega
theorem Lo.less {x : Str} (h : Lo ps mets ops) (hx : x ∈ ps) (h2 : 2 ≤ ps.length) : Lo (psL x ps) (metsL x mets) (opsL x ops) := by
  have hl := len_less h.nd hx
  refine ⟨by omega, by have := h.nine; omega, h.nd.filter _, fun y hy => h.pool y (List.mem_filter.mp hy).1, fun g hg => ?_, ?_, fun q hq => ?_, ?_, h.once.filter _, fun q hq g hg z => ?_⟩
  · obtain ⟨h1, h3⟩ := List.mem_filter.mp hg
    obtain ⟨g0, hg0, rfl⟩ := List.mem_map.mp h1
    obtain ⟨_, n0, s0⟩ := h.gok g0 hg0
    refine ⟨of_decide_eq_true h3, n0.filter _, fun y hy => ?_⟩
    obtain ⟨z1, z2⟩ := List.mem_filter.mp hy
    exact List.mem_filter.mpr ⟨s0 y z1, z2⟩
  · have z := List.length_filter_le (fun g : List Str => decide (1 < g.length)) (mets.map (psL x))
    rw [List.length_map] at z
    have := h.few
    exact Nat.le_trans z this
  · obtain ⟨z1, z2⟩ := List.mem_filter.mp hq
    have z2 := of_decide_eq_true z2
    simp only [List.mem_cons, List.not_mem_nil, or_false, not_or] at z2
    obtain ⟨q1, q2, q3⟩ := h.qok q z1
    exact ⟨List.mem_filter.mpr ⟨q1, decide_eq_true fun c => z2.1 c.symm⟩, List.mem_filter.mpr ⟨q2, decide_eq_true fun c => z2.2 c.symm⟩, q3⟩
  · have z := List.length_filter_le (fun q : Evt => decide (x ∉ [q.1, q.2])) ops
    have := h.opsl
    exact Nat.le_trans z this
  · obtain ⟨h1, _⟩ := List.mem_filter.mp hg
    obtain ⟨g0, hg0, rfl⟩ := List.mem_map.mp h1
    exact h.free q (List.mem_filter.mp hq).1 g0 hg0 ⟨(List.mem_filter.mp z.1).1, (List.mem_filter.mp z.2).1⟩
end
end QX

set_option Elab.async false
set_option linter.all false
set_option maxRecDepth 100000
set_option maxHeartbeats 4000000
namespace QX
open PySem PySem.Spec PySem.W PySem.Calls PyProof.Rows L2 MX
section
variable {Γ Γ1 : En} {v : PV} {fa : SE} {g : SA} {Q : PV → En → Prop} {QA : List PV → En → Prop} {QS : Fl → Prop}
theorem ws_star {i j : Nat} (h : wE fa Γ fun v Γ1 => ∃ x xs, v = .lst (x :: xs) ∧ okSet Γ1 i = true ∧ okSet (Γ1.set i (.va x)) j = true ∧ QS (.nx ((Γ1.set i (.va x)).set j (.va (.lst xs))))) : wS (sStar i j fa) Γ QS := by
  obtain ⟨v, Γ1, e, x, xs, rfl, o1, o2, q⟩ := h
  refine s_of (r := .nx ((Γ1.set i (.va x)).set j (.va (.lst xs)))) ?_ q
  unfold sStar
  rw [e]
  show (match putV i x Γ1 with
    | .nx Γ2 => putV j (.lst xs) Γ2
    | _ => .no) = _
  unfold putV
  rw [if_pos o1]
  exact if_pos o2
theorem w_starC (h : wE fa Γ fun v Γ1 => ∃ xs, seqOf v = some xs ∧ wA g Γ1 fun ys Γ2 => QA (xs ++ ys) Γ2) : wA (sStarC fa g) Γ QA := by
  obtain ⟨v, Γ1, e, xs, e2, ys, Γ2, e3, q⟩ := h
  refine ⟨xs ++ ys, Γ2, ?_, q⟩
  unfold sStarC
  rw [e]
  show (match seqOf v with
  | some xs => (g Γ1).bind fun ys Γ2 => .ok (xs ++ ys) Γ2
  | none => .no) = _
  rw [e2]
  show (g Γ1).bind _ = _
  rw [e3]
  rfl
theorem w_hallLo {ps : List Str} {mets : List (List Str)} {ops : List Evt} (L : Lo ps mets ops) (h : wE fa Γ fun v Γ1 => v = .str (textL ps mets ops) ∧ ∀ ws, vPs ((toldT mets ops).map (·.2)) = some ws → Q (hallPV ps (.str (textL ps mets ops)) (opsP (ops.map fun q => [q.1, q.2])) (.dct ((toldT mets ops).map fun e => keyP e.1) ws)) Γ1) : wE (sHall fa) Γ Q := by
  obtain ⟨v, Γ1, e, rfl, q⟩ := h
  obtain ⟨ws, hv, eh⟩ := sHall_lo L e
  exact ⟨_, Γ1, eh, q ws hv⟩
end
/-! ### a hall without a person -/
theorem psL_eq (x : Str) (ps : List Str) : ps.filter (fun y => !decide (y = x)) = psL x ps := List.filter_congr fun y _ => by by_cases c : y = x <;> simp [c]
def lineR (x : Str) : List Str → Str
  | hd :: names => if hd ≠ "people" ∧ (psL x names).length < 2 then "" else Txt.join " " (hd :: psL x names)
  | [] => ""
theorem lineR_cons {x hd : Str} {names : List Str} : lineR x (hd :: names) = if hd ≠ "people" ∧ (psL x names).length < 2 then ("" : Str) else Txt.join " " (hd :: psL x names) := rfl
section
variable {x : Str} {ps : List Str} {mets : List (List Str)} {ops : List Evt} {o d : PV}
theorem lineW_ok {ws : List Str} (h : ws ≠ [] ∧ ws.length ≤ 10 ∧ ∀ w ∈ ws, Clean w ∧ w.length ≤ 20) : runV F_line_without 2 4 [.str (Txt.join " " ws), .str x] = .ok (.str (lineR x ws)) := by
  obtain ⟨ne, h10, hw⟩ := h
  obtain ⟨hd, names, rfl⟩ := List.exists_cons_of_ne_nil ne
  have sp := row_split (ws := hd :: names) ne fun w hm => (hw w hm).1
  have jl := join_len (sep := " ") (k := 1) (fun p hp => (hw p hp).2) (by decide +kernel)
  obtain ⟨tx, htx⟩ : ∃ tx, tx = Txt.join " " (hd :: names) := ⟨_, rfl⟩
  rw [← htx] at sp jl ⊢
  refine runV_w rfl ?_
  show wS F_line_without [.va (.str tx), .va (.str x), .un, .un, .un, .un] _
  unfold F_line_without
  have hs : gSplit tx (.str " ") = some (.lst (.str hd :: names.map .str)) := by
    show (if (" " : Str).length ≠ 0 ∧ tx.length ≤ 1000000 then some (PV.lst ((Txt.split tx " ").map .str)) else none) = _
    rw [if_pos ⟨by decide +kernel, by omega⟩, sp]
    rfl
  refine ws_seq (ws_star ?_)
  walk_at "wpy"
  refine ⟨_, rfl, ?_⟩
  walk_at "wpy"
  refine ⟨_, hs, _, _, rfl, rfl, rfl, ?_⟩
  walk_at "wpy"
  refine ⟨_, lc_finw .str (fun y => !decide (y = x)) .str (fun y hy => ?_), ?_⟩
  · walk_at "wpy"
    refine ⟨_, gNe_str y x, rfl, fun _ => ?_, fun _ => rfl⟩
    walk_at "wpy"
    exact ⟨rfl, rfl⟩
  rw [psL_eq]
  have lf : (psL x names).length ≤ names.length := List.length_filter_le _ _
  rw [List.length_cons] at h10
  refine ⟨by rw [List.length_map]; omega, ?_⟩
  walk_at "wpy"
  refine ⟨_, gNe_str hd "people", ?_⟩
  have hj : gJoin " " (.lst (.str hd :: (psL x names).map .str)) = some (.str (Txt.join " " (hd :: psL x names))) := by
    refine join_ok (ws := hd :: psL x names) (fun w hm => ?_) (by rw [List.length_cons]; omega)
    refine (hw w ?_).2
    rcases List.mem_cons.mp hm with c | c
    · rw [c]; exact List.mem_cons_self
    · exact List.mem_cons_of_mem _ (List.mem_filter.mp c).1
  have fin : wS (sRet (sStrM gJoin (sC (.str " ")) (sLst (sCons (sAny 2) (sStarC (sAny 5) sNil))))) [.va (.str tx), .va (.str x), .va (.str hd), .va (.lst (names.map .str)), .un, .va (.lst ((psL x names).map .str))] fun r => ∃ Γ', r = .rt (.str (Txt.join " " (hd :: psL x names))) Γ' := by
    walk_at "wpy"
    refine ⟨_, rfl, ?_⟩
    walk_at "wpy"
    refine w_starC ?_
    walk_at "wpy"
    refine ⟨by simp; omega, ?_⟩
    rw [List.append_nil]
    refine ⟨_, hj, ?_⟩
    exact ⟨_, rfl⟩
  rw [lineR_cons]
  refine ⟨_, rfl, fun c1 => ?_, fun c1 => ?_⟩
  · have c1 : hd ≠ "people" := by simpa using c1
    walk_at "wpy"
    refine ⟨_, rfl, ?_⟩
    walk_at "wpy"
    refine ⟨_, rfl, ?_⟩
    rw [List.length_map]
    refine ⟨_, rfl, fun c2 => ?_, fun c2 => ?_⟩
    · have c2 : (psL x names).length < 2 := by have := of_decide_eq_true c2; omega
      rw [if_pos ⟨c1, c2⟩]
      walk_at "wpy"
      exact ⟨_, rfl⟩
    · have c2 : ¬ (psL x names).length < 2 := by have := of_decide_eq_false c2; omega
      rw [if_neg (fun z => c2 z.2)]
      exact ws_skip (k_nx fin)
  · have c1 : hd = "people" := by simpa using c1
    refine ⟨_, rfl, fun z => (by cases z), fun _ => ?_⟩
    rw [if_neg (fun z => z.1 c1)]
    exact ws_skip (k_nx fin)
theorem join_ne {hd : Str} {ws : List Str} (h : ∀ w ∈ hd :: ws, Clean w) (hn : hd ≠ "") : Txt.join " " (hd :: ws) ≠ "" := fun e => by
  have z := row_split (ws := hd :: ws) (by simp) h
  rw [e, show Txt.split "" " " = [("" : Str)] from by decide +kernel] at z
  injection z with z1 _
  exact hn z1.symm
theorem rows_gen {α : Type} {W : α → List Str} {p : α → Bool} {k : α → Str} : ∀ {xs : List α}, (∀ a ∈ xs, (p a = true → lineR x (W a) = k a ∧ k a ≠ "") ∧ (p a = false → lineR x (W a) = "")) →
    ((xs.map W).filter fun ws => !decide (lineR x ws = "")).map (lineR x) = (xs.filter p).map k
  | [], _ => rfl
  | a :: xs, h => by
    have ih := rows_gen (xs := xs) fun b hb => h b (List.mem_cons_of_mem _ hb)
    obtain ⟨h1, h2⟩ := h a List.mem_cons_self
    rw [List.map_cons]
    cases c : p a with
    | true =>
      obtain ⟨e1, e2⟩ := h1 c
      rw [List.filter_cons_of_pos (by rw [e1]; simp [e2]), List.filter_cons_of_pos c, List.map_cons, List.map_cons, e1, ih]
    | false =>
      have e1 := h2 c
      rw [List.filter_cons_of_neg (by rw [e1]; simp), List.filter_cons_of_neg (by rw [c]; simp), ih]
theorem kw_ne : ("people" : Str) ≠ "" ∧ ("met" : Str) ≠ "" ∧ ("open" : Str) ≠ "" ∧ ("met" : Str) ≠ "people" ∧ ("open" : Str) ≠ "people" := by decide +kernel
theorem rows_less (h : Lo ps mets ops) (hx : x ∈ ps) (h2 : 2 ≤ ps.length) : ((rowsW ps mets ops).filter fun ws => !decide (lineR x ws = "")).map (lineR x) = (rowsW (psL x ps) (metsL x mets) (opsL x ops)).map (Txt.join " ") := by
  have hL := h.less hx h2
  obtain ⟨k1, k2, k3, k4, k5⟩ := kw_ne
  have e0 : lineR x (("people" : Str) :: ps) = Txt.join " " (("people" : Str) :: psL x ps) := by
    rw [lineR_cons, if_neg fun z => z.1 rfl]
  have n0 : Txt.join " " (("people" : Str) :: psL x ps) ≠ "" := join_ne (fun w hw => ((hL.words _ List.mem_cons_self).2.2 w hw).1) k1
  unfold rowsW
  rw [List.filter_cons_of_pos (by rw [e0]; simp [n0]), List.map_cons, List.map_cons, e0, List.filter_append, List.map_append, List.map_append]
  congr 2
  · rw [rows_gen (W := metW) (p := fun g => decide (1 < (psL x g).length)) (k := fun g => Txt.join " " (metW (psL x g))) fun g hg => ⟨fun c => ?_, fun c => ?_⟩]
    · unfold metsL
      rw [List.filter_map, List.map_map, List.map_map]
      rfl
    · have c := of_decide_eq_true c
      refine ⟨if_neg fun z => by have := z.2; omega, join_ne (fun w hw => ?_) k2⟩
      have hg' : psL x g ∈ metsL x mets := List.mem_filter.mpr ⟨List.mem_map_of_mem hg, decide_eq_true c⟩
      exact ((hL.words _ (List.mem_cons_of_mem _ (List.mem_append_left _ (List.mem_map_of_mem hg')))).2.2 w hw).1
    · have c := of_decide_eq_false c
      exact if_pos ⟨k4, by omega⟩
  · rw [rows_gen (W := openW) (p := fun q => decide (x ∉ [q.1, q.2])) (k := fun q => Txt.join " " (openW q)) fun q hq => ⟨fun c => ?_, fun c => ?_⟩]
    · rw [List.map_map]
      rfl
    · have c' := of_decide_eq_true c
      have ep : psL x [q.1, q.2] = [q.1, q.2] := List.filter_eq_self.mpr fun y hy => decide_eq_true fun z => c' (by rw [← z]; exact hy)
      refine ⟨?_, join_ne (fun w hw => ?_) k3⟩
      · show (if ("open" : Str) ≠ "people" ∧ (psL x [q.1, q.2]).length < 2 then ("" : Str) else Txt.join " " (("open" : Str) :: psL x [q.1, q.2])) = _
        rw [ep, if_neg (fun z => by have z := z.2; simp at z)]
      · have hq' : q ∈ opsL x ops := List.mem_filter.mpr ⟨hq, c⟩
        exact ((hL.words _ (List.mem_cons_of_mem _ (List.mem_append_right _ (List.mem_map_of_mem hq')))).2.2 w hw).1
    · have c := of_decide_eq_false c
      have c : x ∈ [q.1, q.2] := Classical.byContradiction fun z => c z
      refine if_pos ⟨k5, ?_⟩
      have nd : ([q.1, q.2] : List Str).Nodup := by simp [(h.qok q hq).2.2]
      have := len_less nd c
      simp only [List.length_cons, List.length_nil] at this
      omega
theorem without_ok (h : Lo ps mets ops) (hx : x ∈ ps) (h2 : 2 ≤ ps.length) : ∃ ws, vPs ((toldT (metsL x mets) (opsL x ops)).map (·.2)) = some ws ∧ runV F_Hall_without 2 2 [hallPV ps (.str (textL ps mets ops)) o d, .str x] = .ok (hallPV (psL x ps) (.str (textL (psL x ps) (metsL x mets) (opsL x ops))) (opsP ((opsL x ops).map fun q => [q.1, q.2])) (.dct ((toldT (metsL x mets) (opsL x ops)).map fun e => keyP e.1) ws)) := by
  have hL := h.less hx h2
  have nine := h.nine
  have words := h.words
  obtain ⟨ws, hv⟩ := hL.vals
  refine ⟨ws, hv, runV_w rfl ?_⟩
  obtain ⟨hh, hH⟩ : ∃ hh, hh = hallPV ps (.str (textL ps mets ops)) o d := ⟨_, rfl⟩
  rw [← hH]
  show wS F_Hall_without [.va hh, .va (.str x), .un, .un] _
  unfold F_Hall_without
  walk_at "wpy"
  refine ⟨_, by rw [hH]; exact fld_people, ?_⟩
  have nin : gNotIn (.str x) (.tup false (ps.map .str)) = some (.bl (!decide (x ∈ ps))) := by
    have z := gIn_tup x ps false
    unfold gIn at z
    unfold gNotIn
    cases hi : inPV (.str x) (.tup false (ps.map .str)) with
    | none => rw [hi] at z; cases z
    | some b => rw [hi] at z; injection z with z; injection z with z; rw [z]; rfl
  refine ⟨_, nin, _, rfl, bf (by rw [decide_eq_true hx]; rfl) ?_⟩
  walk_at "wpy"
  refine ⟨_, by rw [hH]; exact fld_people, ?_⟩
  walk_at "wpy"
  refine ⟨_, rfl, ?_⟩
  walk_at "wpy"
  refine ⟨_, rfl, _, rfl, bf (decide_eq_false (by rw [List.length_map]; omega)) ?_⟩
  walk_at "wpy"
  refine ⟨_, by rw [hH]; exact fld_text, _, rfl, ?_⟩
  walk_at "wpy"
  have hsp : gSplit (textL ps mets ops) (.str "\n") = some (.lst ((rowsW ps mets ops).map fun ws => .str (Txt.join " " ws))) := by
    show (if ("\n" : Str).length ≠ 0 ∧ (textL ps mets ops).length ≤ 1000000 then some (PV.lst ((Txt.split (textL ps mets ops) "\n").map .str)) else none) = _
    have tl : (textL ps mets ops).length ≤ 1000000 := by
      unfold textL
      have l1 : ∀ p ∈ (rowsW ps mets ops).map (Txt.join " "), p.length ≤ 210 := fun p hp => by
        obtain ⟨ws, hws, rfl⟩ := List.mem_map.mp hp
        have z := join_len (sep := " ") (k := 1) (fun w hwm => ((words ws hws).2.2 w hwm).2) (by decide +kernel)
        have := (words ws hws).2.1
        omega
      have z := join_len (sep := "\n") (k := 1) l1 (by decide +kernel)
      rw [List.length_map] at z
      have := h.rowsLen
      omega
    rw [if_pos ⟨by decide +kernel, tl⟩]
    unfold textL
    rw [text_split (by unfold rowsW; simp) fun ws hws w hw => ((words ws hws).2.2 w hw).1, List.map_map]
    rfl
  refine ⟨_, hsp, ?_⟩
  walk_at "wpy"
  refine ⟨_, lc_inw (fun ws => .str (Txt.join " " ws)) (fun ws => .str (lineR x ws)) (fun ws hws => ?_), by rw [List.length_map]; have := h.rowsLen; omega, ?_⟩
  · walk_at "wpy"
    refine ⟨rfl, ?_⟩
    walk_at "wpy"
    exact ⟨_, lineW_ok (words ws hws), rfl, rfl⟩
  walk_at "wpy"
  refine w_hallLo hL ?_
  walk_at "wpy"
  refine ⟨_, rfl, ?_⟩
  walk_at "wpy"
  refine ⟨_, lc_finw (fun ws => .str (lineR x ws)) (fun ws => !decide (lineR x ws = "")) (fun ws => .str (lineR x ws)) (fun ws hws => ?_), ?_⟩
  · walk_at "wpy"
    refine ⟨_, gNe_str _ _, rfl, fun _ => ?_, fun _ => rfl⟩
    walk_at "wpy"
    exact ⟨rfl, rfl⟩
  refine ⟨by rw [List.length_map]; have := h.rowsLen; have := List.length_filter_le (fun ws => !decide (lineR x ws = "")) (rowsW ps mets ops); omega, ?_⟩
  have ej : gJoin "\n" (.lst (((rowsW ps mets ops).filter fun ws => !decide (lineR x ws = "")).map fun ws => .str (lineR x ws))) = some (.str (textL (psL x ps) (metsL x mets) (opsL x ops))) := by
    have e1 : (((rowsW ps mets ops).filter fun ws => !decide (lineR x ws = "")).map fun ws => PV.str (lineR x ws)) = ((rowsW (psL x ps) (metsL x mets) (opsL x ops)).map (Txt.join " ")).map .str := by
      rw [← rows_less h hx h2, List.map_map]
      rfl
    rw [e1]
    show (match strsOf (((rowsW (psL x ps) (metsL x mets) (opsL x ops)).map (Txt.join " ")).map .str) with
        | some ys => if (ys.map Str.length).sum + ys.length * (("\n" : Str)).length ≤ 16777216 then some (PV.str (Txt.join "\n" ys)) else none
        | none => none) = _
    rw [strsOf_map]
    exact if_pos hL.textOk.2
  refine ⟨_, ej, rfl, fun ws' hv' => ?_⟩
  rw [hv] at hv'
  cases hv'
  exact ⟨_, rfl⟩
end
end QX

set_option Elab.async false
set_option linter.all false
set_option maxRecDepth 100000
set_option maxHeartbeats 4000000
namespace QX
open PySem PySem.Spec PySem.W PySem.Calls PyProof.Rows L2 MX
def lessP (ps : List Str) (mets : List (List Str)) (ops : List Evt) : PV := .dct [.str "people", .str "mets", .str "opens"] [.lst (ps.map .str), .lst (mets.map lstL), .lst (ops.map evP)]
section
variable {x : Str} {ps : List Str} {mets : List (List Str)} {ops : List Evt} {o d v D : PV}
theorem get_less {k : Str} : gDict (lessP ps mets ops) (.str k) = lookK [kP4, kM4, kO4] [.lst (ps.map .str), .lst (mets.map lstL), .lst (ops.map evP)] (Sum.inr k : Key) := rfl
theorem less_people : gDict (lessP ps mets ops) (.str "people") = some (.lst (ps.map .str)) := by
  rw [get_less]
  unfold lookK
  simp
theorem less_mets : gDict (lessP ps mets ops) (.str "mets") = some (.lst (mets.map lstL)) := by
  obtain ⟨h1, h2, h3, h4, h5, h6⟩ := kk_ne
  rw [get_less]
  unfold lookK
  simp only [List.zip_cons_cons, List.find?_cons, decide_eq_false h1]
  simp
theorem less_opens : gDict (lessP ps mets ops) (.str "opens") = some (.lst (ops.map evP)) := by
  obtain ⟨h1, h2, h3, h4, h5, h6⟩ := kk_ne
  rw [get_less]
  unfold lookK
  simp only [List.zip_cons_cons, List.find?_cons, decide_eq_false h2, decide_eq_false h4]
  simp
/-- a hall's lore, with or without a line -/
structure LoD (D : PV) (ps : List Str) (mets : List (List Str)) (ops : List Evt) : Prop where
  p : gDict D (.str "people") = some (.lst (ps.map .str))
  m : gDict D (.str "mets") = some (.lst (mets.map lstL))
  o : gDict D (.str "opens") = some (.lst (ops.map evP))
theorem LoD.less : LoD (lessP ps mets ops) ps mets ops := ⟨less_people, less_mets, less_opens⟩
end
end QX

set_option Elab.async false
set_option linter.all false
set_option maxRecDepth 100000
set_option maxHeartbeats 4000000
namespace QX
open PySem PySem.Spec PySem.W PySem.Calls PyProof.Rows L2 MX
section
variable {tk : SS} {N : Nat} {p : PV} {ps : List Str} {mets : List (List Str)} {ops : List Evt} {o d v D : PV} {s2 s3 s4 s5 s6 s8 s9 P : SV} {QS : Fl → Prop}
end
end QX

set_option Elab.async false
set_option linter.all false
set_option maxRecDepth 100000
set_option maxHeartbeats 4000000
namespace QX
open PySem PySem.Spec PySem.W PySem.Calls PyProof.Rows L2 MX
/-! ### time backward -/
section
variable {tk : SS} {N : Nat} {p : PV} {ps : List Str} {t o d : PV} {es : List Evt} {tw : Str → Str → Str}
theorem eq_strs {f g : Bool} {xs : List Str} (h : ∀ x ∈ xs, OkS x) : gEq (.tup f (xs.map .str)) (.tup g (xs.map .str)) = some (.bl true) := by
  refine congrArg (fun z => Option.map PV.bl z) (show eqPV (.tup f (xs.map .str)) (.tup g (xs.map .str)) = some true from ?_)
  have hd : ∀ f : Bool, toD (.tup f (xs.map .str)) = some (.tuple (xs.map PyData.str)) := fun f => by unfold toD; rw [toDs_strs]; rfl
  have sh : SeqAt.shaped (.tuple (xs.map PyData.str)) = true := by
    obtain ⟨h1, h2⟩ := lay_strs h
    unfold SeqAt.shaped
    simp [PyData.canLay0, PyData.depth, h1, h2]
  have er : ∀ xs : List Str, PyData.eqvAll (xs.map PyData.str) (xs.map PyData.str) = true := fun xs => by
    induction xs with
    | nil => simp [PyData.eqvAll]
    | cons x xs ih =>
      rw [List.map_cons]
      simp [PyData.eqvAll, PyData.eqv, ih]
  rw [eqPV_of (hd f) (hd g) sh]
  simp only [PyData.eqv, er]
end
end QX

set_option Elab.async false
set_option linter.all false
set_option maxRecDepth 100000
set_option maxHeartbeats 4000000
namespace QX
open PySem PySem.Spec PySem.W PySem.Calls PyProof.Rows L2 MX
/-! ### books: numbers, one saying less, == -/
def numB (n : Nat) : PV → Bool
  | .int i => decide (0 ≤ i) && decide (i < (n : Nat))
  | _ => false
theorem isNum_ok {v : PV} {t : String} {n : Nat} (ht : tyN v = some t) : runV F_is_number 2 0 [v, .int (n : Nat)] = .ok (.bl (numB n v)) := by
  refine runV_w rfl ?_
  show wS F_is_number [.va v, .va (.int (n : Nat))] _
  unfold F_is_number
  have nb : ∀ {t : String}, gIsTy "int" v = some (.bl false) → numB n v = false → wS (sRet (sAnd (sU (gIsTy "int") (sAny 0)) (sAnd (sNot (sU (gIsTy "bool") (sAny 0))) (sChain gLe gLt (sC (.int 0)) (sAny 0) (sAny 1))))) [.va v, .va (.int (n : Nat))] fun r => ∃ Γ', r = .rt (.bl (numB n v)) Γ' := fun {t} h e => by
    walk_at "wpy"
    refine ⟨_, h, _, rfl, fun z => (by cases z), fun _ => ?_⟩
    rw [e]
    exact ⟨_, rfl⟩
  cases v <;> (first | (cases ht; done) | skip)
  case int i =>
    walk_at "wpy"
    refine ⟨.bl true, by kernel_rfl, _, rfl, bt rfl ?_⟩
    walk_at "wpy"
    refine ⟨.bl false, by kernel_rfl, ?_⟩
    walk_at "wpy"
    refine ⟨_, rfl, fun h => ?_, fun h => ?_⟩
    · walk_at "wpy"
      refine ⟨_, rfl, ?_⟩
      have h : decide (0 ≤ i) = true := h
      show ∃ Γ', Fl.rt (.bl (decide (i < (n : Nat)))) _ = Fl.rt (.bl (decide (0 ≤ i) && decide (i < (n : Nat)))) Γ'
      rw [h]
      exact ⟨_, rfl⟩
    · have h : decide (0 ≤ i) = false := h
      show ∃ Γ', Fl.rt (.bl false) _ = Fl.rt (.bl (decide (0 ≤ i) && decide (i < (n : Nat)))) Γ'
      rw [h]
      exact ⟨_, rfl⟩
  case bl b =>
    walk_at "wpy"
    refine ⟨.bl true, by kernel_rfl, _, rfl, bt rfl ?_⟩
    walk_at "wpy"
    refine ⟨.bl true, by kernel_rfl, ?_⟩
    walk_at "wpy"
    exact ⟨_, rfl⟩
  all_goals exact nb (t := t) (by kernel_rfl) rfl
theorem sl_toT {f : Bool} {xs : List PV} {k : Nat} (h : k ≤ xs.length) : ∃ g, gSl (.tup f xs) none (some (k : Nat)) = some (.tup g (xs.take k)) := by
  show ∃ g, some (if HT.sIx xs.length 0 none = 0 ∧ HT.sIx xs.length xs.length (some ((k : Nat) : Int)) = xs.length then PV.tup f xs else .tup false (cutP xs none (some (k : Nat)))) = _
  split
  · rename_i c
    have e : HT.sIx xs.length xs.length (some ((k : Nat) : Int)) = min k xs.length := by
      show (if ((k : Nat) : Int) < 0 then (((k : Nat) : Int) + ((xs.length : Nat) : Int)).toNat else min ((k : Nat) : Int).toNat xs.length) = _
      rw [if_neg (by omega)]
      rfl
    rw [e] at c
    refine ⟨f, ?_⟩
    rw [List.take_of_length_le (by omega)]
  · exact ⟨false, by rw [cut_to h]⟩
theorem sl_fromT {f : Bool} {xs : List PV} {k : Nat} (h : k ≤ xs.length) : ∃ g, gSl (.tup f xs) (some (k : Nat)) none = some (.tup g (xs.drop k)) := by
  show ∃ g, some (if HT.sIx xs.length 0 (some ((k : Nat) : Int)) = 0 ∧ HT.sIx xs.length xs.length none = xs.length then PV.tup f xs else .tup false (cutP xs (some (k : Nat)) none)) = _
  split
  · rename_i c
    have e : HT.sIx xs.length 0 (some ((k : Nat) : Int)) = min k xs.length := by
      show (if ((k : Nat) : Int) < 0 then (((k : Nat) : Int) + ((xs.length : Nat) : Int)).toNat else min ((k : Nat) : Int).toNat xs.length) = _
      rw [if_neg (by omega)]
      rfl
    rw [e] at c
    have k0 : k = 0 := by omega
    subst k0
    exact ⟨f, rfl⟩
  · exact ⟨false, by rw [cut_from h]⟩
section
variable {ps ps2 : List Str} {t o d o2 d2 v : PV} {ss ss2 : List Say} {f g : Bool} {x y : Str}
theorem len_says : gLenX [.tup f (ss.map sayP)] = some (.int (ss.length : Nat)) := by
  show some (PV.int ((ss.map sayP).length : Nat)) = _
  rw [List.length_map]
theorem bookWithout_ok {k : Nat} (hk : k < ss.length) (h : ∀ s ∈ ss, okSay ps s) (hl : ss.length ≤ 30) : runV F_Book_without 2 0 [bookPV (hallPV ps t o d) (.tup f (ss.map sayP)), .int (k : Nat)] = .ok (bookPV (hallPV ps t o d) (.tup false ((ss.take k ++ ss.drop (k + 1)).map sayP))) := by
  obtain ⟨B, hB⟩ : ∃ B, B = bookPV (hallPV ps t o d) (.tup f (ss.map sayP)) := ⟨_, rfl⟩
  have hs : gFld "Book" "sayings" B = some (.tup f (ss.map sayP)) := by rw [hB]; exact fld_bsay
  have hh : gFld "Book" "hall" B = some (hallPV ps t o d) := by rw [hB]; exact fld_bhall
  have hn : numB ss.length (.int (k : Nat)) = true := by
    show (decide ((0 : Int) ≤ (k : Nat)) && decide (((k : Nat) : Int) < (ss.length : Nat))) = true
    rw [decide_eq_true (by omega), decide_eq_true (by omega)]
    rfl
  have isn := isNum_ok (v := .int (k : Nat)) (n := ss.length) rfl
  rw [hn] at isn
  obtain ⟨g1, e1⟩ := sl_toT (f := f) (xs := ss.map sayP) (k := k) (by rw [List.length_map]; omega)
  obtain ⟨g2, e2⟩ := sl_fromT (f := f) (xs := ss.map sayP) (k := k + 1) (by rw [List.length_map]; omega)
  have em : (ss.map sayP).take k ++ ((ss.map sayP).drop (k + 1) ++ []) = (ss.take k ++ ss.drop (k + 1)).map sayP := by
    rw [List.append_nil, List.map_append, List.map_take, List.map_drop]
  have as := areSay_ok (ps := ps) (t := t) (o := o) (d := d) (f := false) (ss := ss.take k ++ ss.drop (k + 1)) (fun s hs => h s ((List.mem_append.mp hs).elim List.mem_of_mem_take List.mem_of_mem_drop)) (by rw [List.length_append, List.length_take, List.length_drop]; omega)
  rw [← em] at as ⊢
  obtain ⟨hp, hH⟩ : ∃ hp, hp = hallPV ps t o d := ⟨_, rfl⟩
  rw [← hH] at hh as ⊢
  rw [show bookPV hp (.tup f (ss.map sayP)) = B by rw [hB, hH]]
  refine runV_w rfl ?_
  show wS F_Book_without [.va B, .va (.int (k : Nat))] _
  unfold F_Book_without
  walk_at "wpy"
  refine ⟨_, hs, ?_⟩
  walk_at "wpy"
  refine ⟨_, len_says, ?_⟩
  walk_at "wpy"
  refine ⟨_, isn, ?_⟩
  walk_at "wpy"
  refine ⟨_, hh, ?_⟩
  walk_at "wpy"
  refine w_starC ?_
  walk_at "wpy"
  refine ⟨_, hs, ?_⟩
  walk_at "wpy"
  refine ⟨_, rfl, ?_⟩
  walk_at "wpy"
  refine ⟨_, e1, ?_⟩
  walk_at "wpy"
  refine w_starC ?_
  walk_at "wpy"
  refine ⟨_, hs, ?_⟩
  walk_at "wpy"
  refine ⟨_, rfl, ?_⟩
  walk_at "wpy"
  refine ⟨_, rfl, ?_⟩
  walk_at "wpy"
  refine ⟨_, e2, ?_⟩
  walk_at "wpy"
  refine ⟨by rw [em, List.length_map, List.length_append, List.length_take, List.length_drop]; omega, ?_⟩
  walk_at "wpy"
  exact ⟨_, _, rfl, as, _, rfl⟩
theorem isBook {h s : PV} : gIsC [] ["Book"] "Book" (bookPV h s) = some (.bl true) := by
  show (if ("Book" : Str) ∈ (["Book"] : List Str) then some (PV.bl (decide (("Book" : Str) = "Book"))) else none) = _
  rw [if_pos (by decide +kernel), decide_eq_true rfl]
theorem book_eq {s s2 : PV} {b : Bool} (e : gEq s s2 = some (.bl b)) : runV F_Book_eq 2 0 [bookPV (hallPV ps (.str x) o d) s, bookPV (hallPV ps2 (.str y) o2 d2) s2] = .ok (.bl (decide (x = y) && b)) := by
  obtain ⟨B, hB⟩ : ∃ B, B = bookPV (hallPV ps (.str x) o d) s := ⟨_, rfl⟩
  obtain ⟨C, hC⟩ : ∃ C, C = bookPV (hallPV ps2 (.str y) o2 d2) s2 := ⟨_, rfl⟩
  have iC : gIsC [] ["Book"] "Book" C = some (.bl true) := by rw [hC]; exact isBook
  have b1 : gFld "Book" "hall" B = some (hallPV ps (.str x) o d) := by rw [hB]; exact fld_bhall
  have b2 : gFld "Book" "sayings" B = some s := by rw [hB]; exact fld_bsay
  have c1 : gFld "Book" "hall" C = some (hallPV ps2 (.str y) o2 d2) := by rw [hC]; exact fld_bhall
  have c2 : gFld "Book" "sayings" C = some s2 := by rw [hC]; exact fld_bsay
  rw [← hB, ← hC]
  refine runV_w rfl ?_
  show wS F_Book_eq [.va B, .va C] _
  unfold F_Book_eq
  walk_at "wpy"
  refine ⟨_, iC, _, rfl, bt rfl ?_⟩
  walk_at "wpy"
  refine ⟨_, b1, ?_⟩
  walk_at "wpy"
  refine ⟨_, c1, _, eqHH, _, rfl, fun h => ?_, fun h => ?_⟩
  · walk_at "wpy"
    refine ⟨_, b2, ?_⟩
    walk_at "wpy"
    refine ⟨_, c2, _, e, ?_⟩
    rw [h]
    exact ⟨_, rfl⟩
  · rw [h]
    exact ⟨_, rfl⟩
end
end QX

set_option Elab.async false
set_option linter.all false
set_option maxRecDepth 100000
set_option maxHeartbeats 4000000
namespace QX
open PySem PySem.Spec PySem.W PySem.Calls PyProof.Rows L2 MX
/-! ### sayings as data -/
def sayD : Say → PyData
  | .met true a b => .tuple [.str "met", .str a, .str b]
  | .met false a b => .tuple [.str "not", .str a, .str b]
  | .bef e f => .tuple [.str "before", evD e, evD f]
theorem toD_say (s : Say) : toD (sayP s) = some (sayD s) := by
  cases s with
  | met w a b => cases w <;> rfl
  | bef e f => rfl
theorem toDs_says : ∀ ss : List Say, toDs (ss.map sayP) = some (ss.map sayD)
  | [] => rfl
  | s :: ss => by
    show (toD (sayP s)).bind _ = _
    rw [toD_say]
    show (toDs (ss.map sayP)).map _ = _
    rw [toDs_says ss]
    rfl
theorem lay_say {ps : List Str} (hp : ∀ x ∈ ps, OkS x) {s : Say} (h : okSay ps s) : (sayD s).canLay0 = true ∧ (sayD s).depth ≤ 2 := by
  have m3 : ∀ {w a b : Str}, OkS w → OkS a → OkS b → (PyData.tuple [.str w, .str a, .str b]).canLay0 = true ∧ (PyData.tuple [.str w, .str a, .str b]).depth ≤ 2 := fun {w a b} hw ha hb => by
    refine ⟨by simp [PyData.canLay0, PyData.canLayAll0, hw.1, ha.1, hb.1], ?_⟩
    simp [PyData.depth, PyData.depthAll]
  have evL : ∀ {e : Evt}, OkE e → (evD e).canLay0 = true ∧ (evD e).depth ≤ 1 := fun {e} he => by
    refine ⟨by simp [evD, PyData.canLay0, PyData.canLayAll0, he.1.1, he.2.1], ?_⟩
    simp [evD, PyData.depth, PyData.depthAll]
  cases s with
  | met w a b =>
    cases w with
    | true => exact m3 ok_kw.1 (hp _ h.1) (hp _ h.2.1)
    | false => exact m3 ok_kw.2.1 (hp _ h.1) (hp _ h.2.1)
  | bef e f =>
    obtain ⟨e1, e2⟩ := evL (evB_ok hp h.1)
    obtain ⟨f1, f2⟩ := evL (evB_ok hp h.2.1)
    refine ⟨by simp [sayD, PyData.canLay0, PyData.canLayAll0, ok_kw.2.2.1, e1, f1], ?_⟩
    simp only [sayD, PyData.depth, PyData.depthAll]
    omega
theorem lay_says {ps : List Str} (hp : ∀ x ∈ ps, OkS x) : ∀ {ss : List Say}, (∀ s ∈ ss, okSay ps s) → PyData.canLayAll0 (ss.map sayD) = true ∧ PyData.depthAll (ss.map sayD) ≤ 2
  | [], _ => ⟨rfl, by simp [PyData.depthAll]⟩
  | s :: ss, h => by
    obtain ⟨h1, h2⟩ := lay_says hp fun q hq => h q (List.mem_cons_of_mem _ hq)
    obtain ⟨a, b⟩ := lay_say hp (h s List.mem_cons_self)
    refine ⟨by simp [PyData.canLayAll0, a, h1], ?_⟩
    rw [List.map_cons]
    simp only [PyData.depthAll]
    omega
theorem shaped_says {ps : List Str} (hp : ∀ x ∈ ps, OkS x) {ss : List Say} (h : ∀ s ∈ ss, okSay ps s) : SeqAt.shaped (.tuple (ss.map sayD)) = true := by
  obtain ⟨h1, h2⟩ := lay_says hp h
  unfold SeqAt.shaped
  have h4 : decide (PyData.depth (.tuple (ss.map sayD)) ≤ 64) = true := decide_eq_true (by simp only [PyData.depth]; omega)
  rw [h4, Bool.and_true]
  simp only [PyData.canLay0]
  exact h1
theorem toD_says (f : Bool) (ss : List Say) : toD (.tup f (ss.map sayP)) = some (.tuple (ss.map sayD)) := by
  show (toDs (ss.map sayP)).map _ = _
  rw [toDs_says]
  rfl
theorem eq_says {ps : List Str} (hp : ∀ x ∈ ps, OkS x) {ss : List Say} (h : ∀ s ∈ ss, okSay ps s) {f g : Bool} : gEq (.tup f (ss.map sayP)) (.tup g (ss.map sayP)) = some (.bl true) := by
  show (eqPV _ _).map _ = _
  have sh := shaped_says hp h
  rw [eqPV_of (toD_says f ss) (toD_says g ss) sh, SeqAt.eqv_refl _ (SeqAt.canLay_of_shaped sh)]
  rfl
end QX

set_option Elab.async false
set_option linter.all false
set_option maxRecDepth 100000
set_option maxHeartbeats 4000000
namespace QX
open PySem PySem.Spec PySem.W PySem.Calls PyProof.Rows L2 MX
/-! ### k15: arguments by their names -/
theorem lenA (a b : Str) : (a ++ b).length = a.length + b.length := by
  rw [len_tl, TL.tl_append, List.length_append, ← len_tl, ← len_tl]
theorem addS {a b : Str} (h : a.length + b.length ≤ 1000000) : gAdd (.str a) (.str b) = some (.str (a ++ b)) := if_pos h
theorem three {ps : List Str} (h : ps.length = 3) : ∃ a b c, ps = [a, b, c] := by
  match ps, h with
  | [a, b, c], _ => exact ⟨a, b, c, rfl⟩
theorem page_eq (a b c : Str) : ("people " : Str) ++ a ++ " " ++ b ++ " " ++ c ++ "\nmet " ++ a ++ " " ++ b ++ "\nopen " ++ c ++ " " ++ b = textL [a, b, c] [[a, b]] [(c, b)] := by
  apply TL.ext_tl
  have k : ("people " : Str) = ("people" : Str) ++ " " ∧ ("\nmet " : Str) = ("\n" : Str) ++ "met" ++ " " ∧ ("\nopen " : Str) = ("\n" : Str) ++ "open" ++ " " := by decide +kernel
  rw [k.1, k.2.1, k.2.2]
  show _ = TL.tl (Txt.join "\n" [Txt.join " " ["people", a, b, c], Txt.join " " ["met", a, b], Txt.join " " ["open", c, b]])
  simp only [TL.join_eq, TL.tl_join, TL.tl_append, List.map_cons, List.map_nil, TL.joinL, List.append_assoc]
def esR (a b c : Str) : List Evt := [(a, "in"), (b, "in"), (a, "out"), (c, "in"), (b, "out"), (c, "out")]
section
variable {a b c : Str}
theorem esR_nd (ab : a ≠ b) (ac : a ≠ c) (bc : b ≠ c) : (esR a b c).Nodup := by
  have io := inNout
  simp [esR, ab, ac, bc, Ne.symm ab, Ne.symm ac, Ne.symm bc, io, Ne.symm io]
theorem vtR (ab : a ≠ b) (ac : a ≠ c) (bc : b ≠ c) : VT [a, b, c] (esR a b c) where
  nd := esR_nd ab ac bc
  len := rfl
  few := by simp
  ev := fun e he => by
    unfold esR at he
    simp only [List.mem_cons, List.not_mem_nil, or_false] at he
    rcases he with rfl | rfl | rfl | rfl | rfl | rfl <;> exact evB_of (by simp) (by simp)
  io := fun n hn => by
    have nd := esR_nd ab ac bc
    simp only [List.mem_cons, List.not_mem_nil, or_false] at hn
    rcases hn with rfl | rfl | rfl
    · exact ⟨by simp [esR], by simp [esR], by rw [idx_at nd (i := 0) rfl, idx_at nd (i := 2) rfl]; decide⟩
    · exact ⟨by simp [esR], by simp [esR], by rw [idx_at nd (i := 1) rfl, idx_at nd (i := 4) rfl]; decide⟩
    · exact ⟨by simp [esR], by simp [esR], by rw [idx_at nd (i := 3) rfl, idx_at nd (i := 5) rfl]; decide⟩
theorem loR (ab : a ≠ b) (ac : a ≠ c) (bc : b ≠ c) (pool : ∀ x ∈ [a, b, c], x ∈ pool14) : Lo [a, b, c] [[a, b]] [(c, b)] where
  one := by simp
  nine := by simp
  nd := by simp [ab, ac, bc]
  pool := pool
  gok := fun g hg => by
    rw [List.mem_singleton.mp hg]
    exact ⟨by simp, by simp [ab], fun x hx => by simp at hx ⊢; rcases hx with h | h <;> simp [h]⟩
  few := by simp
  qok := fun q hq => by
    rw [List.mem_singleton.mp hq]
    exact ⟨by simp, by simp, Ne.symm bc⟩
  opsl := by simp
  once := by simp
  free := fun q hq g hg => by
    rw [List.mem_singleton.mp hq, List.mem_singleton.mp hg]
    rintro ⟨h, _⟩
    simp at h
    rcases h with h | h
    · exact ac h.symm
    · exact bc h.symm
end
noncomputable abbrev gE15 : PV → PV → Option PV := gEqC2 "Hall" (runV F_Hall_eq 2 0) "Book" (runV F_Book_eq 2 0)
section
variable {ps ps2 : List Str} {t o d o2 d2 s s2 : PV} {x : Str}
theorem e15H : gE15 (hallPV ps (.str x) o d) (hallPV ps2 (.str x) o2 d2) = some (.bl true) := by
  have e := eqHH (ps := ps) (ps2 := ps2) (x := x) (y := x) (o := o) (d := d) (o2 := o2) (d2 := d2)
  rw [decide_eq_true rfl] at e
  show (if ("Hall" : Str) = "Hall" then gEqOwn "Hall" (runV F_Hall_eq 2 0) false (hallPV ps (.str x) o d) (hallPV ps2 (.str x) o2 d2) else gEqOwn "Book" (runV F_Book_eq 2 0) false (hallPV ps (.str x) o d) (hallPV ps2 (.str x) o2 d2)) = _
  rw [if_pos rfl]
  exact e
theorem e15B (e : gEq s s2 = some (.bl true)) : gE15 (bookPV (hallPV ps (.str x) o d) s) (bookPV (hallPV ps2 (.str x) o2 d2) s2) = some (.bl true) := by
  have r := book_eq (ps := ps) (ps2 := ps2) (x := x) (y := x) (o := o) (d := d) (o2 := o2) (d2 := d2) e
  rw [decide_eq_true rfl, Bool.true_and] at r
  show (if ("Book" : Str) = "Hall" then gEqOwn "Hall" (runV F_Hall_eq 2 0) false (bookPV (hallPV ps (.str x) o d) s) (bookPV (hallPV ps2 (.str x) o2 d2) s2) else gEqOwn "Book" (runV F_Book_eq 2 0) false (bookPV (hallPV ps (.str x) o d) s) (bookPV (hallPV ps2 (.str x) o2 d2) s2)) = _
  rw [if_neg (by decide +kernel)]
  show (if ("Book" : Str) = "Book" ∧ tyOk "Book" (bookPV (hallPV ps2 (.str x) o2 d2) s2) = true then (match runV F_Book_eq 2 0 [bookPV (hallPV ps (.str x) o d) s, bookPV (hallPV ps2 (.str x) o2 d2) s2] with
    | .ok (.bl b) => some (PV.bl (if false = true then !b else b))
    | _ => none) else none) = _
  rw [if_pos ⟨rfl, show tyOk "Book" (bookPV (hallPV ps2 (.str x) o2 d2) s2) = true from decide_eq_true (p := ("Book" : Str) = "Book") rfl⟩, r]
  rfl
end
theorem notM : (hallN.contains ("without" : Str)) = false ∧ (hallN.contains ("told" : Str)) = false ∧ (bookN.contains ("fits" : Str)) = false ∧ (bookN.contains ("broken" : Str)) = false ∧ (bookN.contains ("without" : Str)) = false := by decide +kernel
theorem eq_strsV {f g : Bool} {xs : List Str} (h : ∀ x ∈ xs, OkS x) : gE15 (.tup f (xs.map .str)) (.tup g (xs.map .str)) = some (.bl true) := eq_strs h
theorem eq_evsV {f g : Bool} {es : List Evt} (h : ∀ e ∈ es, OkE e) : gE15 (.tup f (es.map evP)) (.tup g (es.map evP)) = some (.bl true) := by
  have z := evs_eq (f := f) (g := g) h
  show (eqPV _ _).map _ = _
  rw [z.1]
  rfl
theorem eq_blV (b : Bool) : gE15 (.bl b) (.bl b) = some (.bl true) := by cases b <;> rfl
theorem eq_strV (x : Str) : gE15 (.str x) (.str x) = some (.bl true) := by
  show some (PV.bl (decide (x = x))) = _
  rw [decide_eq_true rfl]
theorem eq_sayV {ps : List Str} (hp : ∀ x ∈ ps, OkS x) {s : Say} (h : okSay ps s) : gE15 (sayP s) (sayP s) = some (.bl true) := by
  have z := eq_of (say_data hp h).2
  obtain ⟨x, y, w, e⟩ := tup3 s
  rw [e] at z ⊢
  exact z
theorem eq_intsV {f g : Bool} (ns : List Int) : gE15 (.tup f (ns.map .int)) (.tup g (ns.map .int)) = some (.bl true) := by
  have e := eqPV_of (toD_tints f ns) (toD_tints g ns) (shaped_tints ns)
  show (eqPV _ _).map _ = _
  rw [e]
  have := eqvAll_ints ns
  simp [PyData.eqv, this]
section
variable {tk : SS} {N : Nat} {p : PV}
theorem k15_right (T : TakeOk tk) (hp : Pot N p) (hN : N ≤ 100000) : ∃ p', runW (F__law_right_8 tk) 1 12 p [] = .ok (.bl true) p' ∧ Pot (N + 1000) p' := by
  obtain ⟨ps, p1, e1, l3, nd, pool, hp1⟩ := names_ok T (m := 3) hp (by omega) (by omega)
  obtain ⟨a, b, c, rfl⟩ := three l3
  have e1 : runW (F__law_names tk) 2 1 p [.int 3] = .ok (.lst [.str a, .str b, .str c]) p1 := e1
  have ab : a ≠ b := fun z => by simp [z] at nd
  have ac : a ≠ c := fun z => by simp [z] at nd
  have bc : b ≠ c := fun z => by simp [z] at nd
  have vt := vtR ab ac bc
  have lo := loR ab ac bc pool
  have ok := lo.ok
  have len : ∀ {x : Str}, x ∈ [a, b, c] → x.length ≤ 20 := fun h => (ok _ h).2
  have la := len (x := a) (by simp)
  have lb := len (x := b) (by simp)
  have lc := len (x := c) (by simp)
  have lk : ("people " : Str).length ≤ 10 ∧ (" " : Str).length ≤ 10 ∧ ("\nmet " : Str).length ≤ 10 ∧ ("\nopen " : Str).length ≤ 10 := by decide +kernel
  obtain ⟨k1, k2, k3, k4⟩ := lk
  have page := page_eq a b c
  obtain ⟨tw, hT⟩ : ∃ t, t = textL [a, b, c] [[a, b]] [(c, b)] := ⟨_, rfl⟩
  rw [← hT] at page
  -- the sayings
  have s1 : okSay [a, b, c] (.met true a b) := ⟨by simp, by simp, ab⟩
  have s2 : okSay [a, b, c] (.met false b c) := ⟨by simp, by simp, bc⟩
  have s3 : okSay [a, b, c] (.bef (a, "out") (c, "in")) := ⟨evB_of (by simp) (by simp), evB_of (by simp) (by simp), ac⟩
  have s4 : okSay [a, b, c] (.bef (c, "out") (b, "in")) := ⟨evB_of (by simp) (by simp), evB_of (by simp) (by simp), Ne.symm bc⟩
  obtain ⟨L, hL⟩ : ∃ L, L = [sayP (.met true a b), sayP (.met false b c), sayP (.bef (a, "out") (c, "in"))] ++ [sayP (.bef (c, "out") (b, "in"))] := ⟨_, rfl⟩
  obtain ⟨i2, sp, p2, e2, hx2, hp2⟩ := of_ok T (xs := L) hp1 (by omega) (by rw [hL]; show 0 < 4; decide) (by rw [hL]; show 4 ≤ 1000000; decide)
  obtain ⟨s, rfl, hs⟩ : ∃ s, sp = sayP s ∧ okSay [a, b, c] s := by
    have m := List.mem_of_getElem? hx2
    rw [hL] at m
    simp only [List.mem_append, List.mem_cons, List.not_mem_nil, or_false] at m
    rcases m with (rfl | rfl | rfl) | rfl
    · exact ⟨_, rfl, s1⟩
    · exact ⟨_, rfl, s2⟩
    · exact ⟨_, rfl, s3⟩
    · exact ⟨_, rfl, s4⟩
  have gL : gAdd (.lst [.tup false [.str "met", .str a, .str b], .tup false [.str "not", .str b, .str c], .tup false [.str "before", .tup false [.str a, .str "out"], .tup false [.str c, .str "in"]]]) (.lst [.tup false [.str "before", .tup false [.str c, .str "out"], .tup false [.str b, .str "in"]]]) = some (.lst L) := by
    rw [hL]
    exact add_lst (by show 3 + 1 ≤ 1000000; decide)
  have hss : ∀ q ∈ [s], okSay [a, b, c] q := fun q hq => by rw [List.mem_singleton.mp hq]; exact hs
  obtain ⟨S, hS⟩ : ∃ S, S = sayP s := ⟨_, rfl⟩
  rw [← hS] at e2
  -- the hall
  obtain ⟨ws, hw⟩ := lo.vals
  obtain ⟨O, hO⟩ : ∃ O, O = opsP ([(c, b)].map fun q : Evt => [q.1, q.2]) := ⟨_, rfl⟩
  obtain ⟨D, hD⟩ : ∃ D, D = PV.dct ((toldT [[a, b]] [(c, b)]).map fun e => keyP e.1) ws := ⟨_, rfl⟩
  obtain ⟨hh, hH⟩ : ∃ hh, hh = hallPV [a, b, c] (.str tw) O D := ⟨_, rfl⟩
  have wmk : ∀ {Γ : En} {fa : SE} {Q : PV → En → Prop}, (wE fa Γ fun v Γ1 => v = .str tw ∧ Q hh Γ1) → wE (sHall fa) Γ Q := fun {Γ fa Q} h => by
    obtain ⟨v, Γ1, e, rfl, q⟩ := h
    obtain ⟨ws2, hw2, e3⟩ := sHall_lo (f := fa) (Γ := Γ) lo (by rw [← hT]; exact e)
    rw [hw] at hw2
    cases hw2
    exact ⟨hh, Γ1, by rw [e3, hH, hO, hD, hT], q⟩
  obtain ⟨tf, htf⟩ := told_ex [a, b, c] hw
  rw [← hD] at htf
  have told := told_ok (t := .str tw) (o := O) htf (a := a) (b := b) (by simp) (by simp) ab
  obtain ⟨ws3, _, wout⟩ := without_ok (o := O) (d := D) lo (x := a) (by simp) (by simp)
  obtain ⟨W, hW⟩ : ∃ W, W = hallPV (psL a [a, b, c]) (.str (textL (psL a [a, b, c]) (metsL a [[a, b]]) (opsL a [(c, b)]))) (opsP ((opsL a [(c, b)]).map fun q => [q.1, q.2])) (.dct ((toldT (metsL a [[a, b]]) (opsL a [(c, b)])).map fun e => keyP e.1) ws3) := ⟨_, rfl⟩
  have pW : gE15 W W = some (.bl true) := by rw [hW]; exact e15H
  rw [← hT, ← hW] at wout
  obtain ⟨row, hrow⟩ : ∃ row, row = PV.tup false ((esR a b c).map evP) := ⟨_, rfl⟩
  have rowE : PV.tup false [.tup false [.str a, .str "in"], .tup false [.str b, .str "in"], .tup false [.str a, .str "out"], .tup false [.str c, .str "in"], .tup false [.str b, .str "out"], .tup false [.str c, .str "out"]] = row := by rw [hrow]; rfl
  have met := metBy_ok (t := .str tw) (o := O) (d := D) (f := false) vt (by simp) (a := a) (b := b) (by simp) (by simp) ab
  have thr := thereP_ok (t := .str tw) (o := O) (d := D) (f := false) (e := (a, "out")) vt (by simp) (evB_of (by simp) (by simp))
  have ord := orderOf_ok (t := .str tw) (o := O) (d := D) (f := false) vt (by simp)
  have tur := turned_ok (t := .str tw) (o := O) (d := D) (f := false) vt (by simp)
  have iso := isSo_ok (t := .str tw) (o := O) (d := D) (f := false) vt (by simp) hs
  have con := contrary_ok (t := .str tw) (o := O) (d := D) hs
  have ars := areSay_ok (t := .str tw) (o := O) (d := D) (f := false) hss (by simp)
  have ar0 := areSay_ok (ps := [a, b, c]) (t := .str tw) (o := O) (d := D) (f := false) (ss := []) (fun q hq => by cases hq) (by simp)
  have fit := fits_ok (t := .str tw) (o := O) (f := false) (g := false) vt (by simp) htf hss (by simp)
  have brk := broken_ok (t := .str tw) (o := O) (d := D) (f := false) (g := false) vt (by simp) hss (by simp)
  have bw := bookWithout_ok (t := .str tw) (o := O) (d := D) (f := false) (ss := [s]) (k := 0) (by simp) hss (by simp)
  rw [← hrow] at met thr ord tur iso fit brk
  have m1 : ([s] : List Say).map sayP = [S] := by rw [hS]; rfl
  rw [m1] at ars fit brk bw
  rw [← hS] at iso con
  obtain ⟨B, hB⟩ : ∃ B, B = bookPV hh (.tup false [S]) := ⟨_, rfl⟩
  obtain ⟨B0, hB0⟩ : ∃ B, B = bookPV hh (.tup false []) := ⟨_, rfl⟩
  have pH : gE15 hh hh = some (.bl true) := by rw [hH]; exact e15H
  rw [← hH] at told wout met thr ord tur iso con ars ar0 fit brk bw
  rw [← hB] at fit brk bw
  have bw : runV F_Book_without 2 0 [B, .int 0] = .ok B0 := by rw [hB0]; exact bw
  have pB : gE15 B B = some (.bl true) := by
    rw [hB, hH, hS]
    exact e15B (eq_says (ss := [s]) ok hss)
  have pB0 : gE15 B0 B0 = some (.bl true) := by
    rw [hB0, hH]
    exact e15B (by kernel_rfl)
  have evs : ∀ e ∈ esR a b c, OkE e := fun e he => evB_ok ok (vt.ev e he)
  have pO := eq_evsV (f := true) (g := true) (ordS_ok (ps := [a, b, c]) (es := esR a b c) ok)
  have pT := eq_evsV (f := true) (g := true) (es := turnE (esR a b c)) fun e he => evB_ok ok (vt.turn.ev e he)
  have pTh := eq_strsV (f := true) (g := true) (xs := [a, b, c].filter (thereB (esR a b c) (a, "out"))) fun x hx => ok x (List.mem_filter.mp hx).1
  have pC : gE15 (sayP (conS s)) (sayP (conS s)) = some (.bl true) := eq_sayV ok (con_ok hs)
  obtain ⟨vO, hvO⟩ : ∃ v, v = PV.tup true ((ordS [a, b, c] (esR a b c)).map evP) := ⟨_, rfl⟩
  obtain ⟨vT, hvT⟩ : ∃ v, v = PV.tup true ((turnE (esR a b c)).map evP) := ⟨_, rfl⟩
  obtain ⟨vTh, hvTh⟩ : ∃ v, v = PV.tup true (([a, b, c].filter (thereB (esR a b c) (a, "out"))).map .str) := ⟨_, rfl⟩
  obtain ⟨vC, hvC⟩ : ∃ v, v = sayP (conS s) := ⟨_, rfl⟩
  obtain ⟨vB, hvB⟩ : ∃ v, v = PV.tup true ((QX.brk (esR a b c) [s]).map .int) := ⟨_, rfl⟩
  have pBr : gE15 vB vB = some (.bl true) := by rw [hvB]; exact eq_intsV _
  rw [← hvO] at ord pO
  rw [← hvT] at tur pT
  rw [← hvTh] at thr pTh
  rw [← hvC] at con pC
  rw [← hvB] at brk
  obtain ⟨nM1, nM2, nM3, nM4, nM5⟩ := notM
  obtain ⟨v, p', e, rfl, q⟩ := runW_w (F := F__law_right_8 tk) (np := 1) (n := 12) (as := []) (p := p) (R := fun v p' => v = .bl true ∧ Pot (N + 1000) p') rfl (by
    show wS (F__law_right_8 tk) [.ow true p, .un, .un, .un, .un, .un, .un, .un, .un, .un, .un, .un, .un] _
    unfold F__law_right_8
    walk_at "wpy"
    refine ⟨_, _, e1, ?_⟩
    walk_at "wpy"
    iterate 12 (refine ⟨_, addS (by (try simp only [lenA]); omega), ?_⟩; walk_at "wpy")
    refine ⟨.str tw, by rw [← page]; exact addS (by simp only [lenA]; omega), rfl, ?_⟩
    walk_at "wpy"
    rw [rowE]
    refine wmk ?_
    walk_at "wpy"
    refine ⟨rfl, ?_⟩
    walk_at "wpy"
    refine ⟨_, gL, ?_⟩
    walk_at "wpy"
    refine ⟨_, _, e2, ?_⟩
    walk_at "wpy"
    refine wmk ?_
    walk_at "wpy"
    refine ⟨rfl, ?_⟩
    walk_at "wpy"
    refine ⟨hallN, _, hH, nM2, ?_⟩
    walk_at "wpy"
    refine ⟨_, told, ?_⟩
    walk_at "wpy"
    refine ⟨hallN, _, hH, nM2, ?_⟩
    walk_at "wpy"
    refine ⟨_, told, ?_⟩
    walk_at "wpy"
    refine ⟨hallN, _, hH, nM1, ?_⟩
    walk_at "wpy"
    refine ⟨_, wout, ?_⟩
    walk_at "wpy"
    refine ⟨hallN, _, hH, nM1, ?_⟩
    walk_at "wpy"
    refine ⟨_, wout, ?_⟩
    walk_at "wpy"
    refine ⟨_, _, rfl, _, _, rfl, ?_⟩
    walk_at "wpy"
    refine ⟨_, met, ?_⟩
    walk_at "wpy"
    refine ⟨_, met, ?_⟩
    walk_at "wpy"
    refine ⟨_, _, rfl, _, _, rfl, ?_⟩
    walk_at "wpy"
    refine ⟨_, thr, ?_⟩
    walk_at "wpy"
    refine ⟨_, thr, ?_⟩
    walk_at "wpy"
    refine ⟨_, _, rfl, _, _, rfl, ?_⟩
    walk_at "wpy"
    refine ⟨_, ord, ?_⟩
    walk_at "wpy"
    refine ⟨_, ord, ?_⟩
    walk_at "wpy"
    refine ⟨_, _, rfl, _, _, rfl, ?_⟩
    walk_at "wpy"
    refine ⟨_, tur, ?_⟩
    walk_at "wpy"
    refine ⟨_, tur, ?_⟩
    walk_at "wpy"
    refine ⟨_, _, rfl, _, _, rfl, ?_⟩
    walk_at "wpy"
    refine ⟨_, iso, ?_⟩
    walk_at "wpy"
    refine ⟨_, iso, ?_⟩
    walk_at "wpy"
    refine ⟨_, _, rfl, _, _, rfl, ?_⟩
    walk_at "wpy"
    refine ⟨_, con, ?_⟩
    walk_at "wpy"
    refine ⟨_, con, ?_⟩
    walk_at "wpy"
    refine ⟨_, _, rfl, _, _, rfl, ?_⟩
    walk_at "wpy"
    refine ⟨_, _, rfl, ars, ?_⟩
    rw [← hB]
    walk_at "wpy"
    refine ⟨_, _, rfl, ars, ?_⟩
    rw [← hB]
    walk_at "wpy"
    refine ⟨bookN, _, hB, nM3, ?_⟩
    walk_at "wpy"
    refine ⟨_, fit, ?_⟩
    walk_at "wpy"
    refine ⟨bookN, _, hB, nM3, ?_⟩
    walk_at "wpy"
    refine ⟨_, fit, ?_⟩
    walk_at "wpy"
    refine ⟨_, _, rfl, _, _, rfl, ?_⟩
    walk_at "wpy"
    refine ⟨bookN, _, hB, nM4, ?_⟩
    walk_at "wpy"
    refine ⟨_, brk, ?_⟩
    walk_at "wpy"
    refine ⟨bookN, _, hB, nM4, ?_⟩
    walk_at "wpy"
    refine ⟨_, brk, ?_⟩
    walk_at "wpy"
    refine ⟨bookN, _, hB, nM5, ?_⟩
    walk_at "wpy"
    refine ⟨_, bw, ?_⟩
    walk_at "wpy"
    refine ⟨_, _, rfl, ar0, ?_⟩
    rw [← hB0]
    walk_at "wpy"
    refine ⟨_, _, rfl, _, _, rfl, ?_⟩
    walk_at "wpy"
    refine ⟨_, lc_m (fun _ => .bl true) fun y hy => ?_, by rw [List.length_map]; exact le6, ?_⟩
    · have sm : ∃ v, y = .tup false [v, v] ∧ gE15 v v = some (.bl true) := by
        simp only [List.mem_append, List.mem_cons, List.not_mem_nil, or_false] at hy
        rcases hy with (((((((((rfl | rfl) | rfl) | rfl) | rfl) | rfl) | rfl) | rfl) | rfl) | (rfl | rfl)) | (rfl | rfl)
        · exact ⟨_, rfl, pH⟩
        · exact ⟨_, rfl, eq_strV _⟩
        · exact ⟨_, rfl, pW⟩
        · exact ⟨_, rfl, eq_blV _⟩
        · exact ⟨_, rfl, pTh⟩
        · exact ⟨_, rfl, pO⟩
        · exact ⟨_, rfl, pT⟩
        · exact ⟨_, rfl, eq_blV _⟩
        · exact ⟨_, rfl, pC⟩
        · exact ⟨_, rfl, pB⟩
        · exact ⟨_, rfl, eq_blV _⟩
        · exact ⟨_, rfl, pBr⟩
        · exact ⟨_, rfl, pB0⟩
      obtain ⟨v, rfl, ev⟩ := sm
      walk_at "wpy"
      refine ⟨rfl, ?_⟩
      walk_at "wpy"
      exact ⟨_, ev, rfl, rfl⟩
    walk_at "wpy"
    refine ⟨_, gAll_true _, ?_⟩
    exact ⟨_, _, _, rfl, rfl, rfl, hp2.le (by omega)⟩)
  exact ⟨p', e, q⟩
end
end QX

set_option Elab.async false
set_option linter.all false
set_option maxRecDepth 100000
set_option maxHeartbeats 4000000
namespace K15
open PySem PySem.Spec PySem.W PySem.Calls PyProof.Rows L2 MX
abbrev sLaw : Stmt := top 61
def spLaw (K : PySem.W.Frag) (T : List (Addr × Str)) : Sp := fun vs H Q _ => ∃ (a : Addr) (ns : List Int), vs = [.ref a] ∧ SqL K H a (ns.map V.int) ∧ ns.length ≤ 63 ∧ LamX.Tabs T H ∧ ∀ H', Q (.bl true) H'
theorem seqN {K : PySem.W.Frag} {H H' : Hp} {a : Addr} {xs : List V} (x : LamX.ExtN H H') (h : SqL K H a xs) : SqL K H' a xs := by
  rcases h with (h | ⟨o, h⟩) | h
  · exact .inl (.inl (x _ _ h fun _ z => by cases z))
  · exact .inl (.inr ⟨o, x _ _ h fun _ z => by cases z⟩)
  · exact .inr h
theorem potQ {κ : QX.Kx} {n : Nat} {H Hm : Hp} {p : Addr} (h : Pot n H p) : ∃ pv : QX.PV, QX.Pot n pv ∧ QX.OwR κ pv p H Hm := by
  obtain ⟨o, e, a, s, c, rfl, ha, hs0, hs1, hc0, hc1⟩ := h
  refine ⟨.lst [.int a, .int s, .int c], ⟨a, s, c, rfl, ha, hs0, hs1, hc0, hc1⟩, [.int a, .int s, .int c], e, ?_⟩
  exact ⟨QX.rp_int.mpr rfl, QX.rp_int.mpr rfl, QX.rp_int.mpr rfl, trivial⟩
section
variable {P : Program} {w : World} {K : PySem.W.Frag} {mg : Str → Option Value} {base : Heap} {f : Addr} {fd : FuncData}
theorem scW : FnScope ["_law_script", "_law_place"] ["_law_script"] (defScope sLaw) := ⟨rfl, rfl, rfl, by decide +kernel, rfl, by decide +kernel, by decide +kernel⟩
theorem ok_law {fP fL : Addr} {fdP fdL : FuncData} {FR : QX.SS} {nR : Nat} {cA : QX.CA} (F : FnP K "law" sLaw f fd) (hall : mg "all" = none) (B : BltD mg)
    (FP : FnP K "_law_pot" sPot fP fdP) (gP : mg "_law_pot" = some (.ref fP)) (FL : FnP K "_law_places" sPlaces fL fdL) (gL : mg "_law_places" = some (.ref fL))
    (GR : QX.FnN P w K mg base "_law_right" 8 (QX.spW ⟨K, cA⟩ (QX.runW FR 1 nR)))
    (hR : ∀ {N : Nat} {p : QX.PV}, QX.Pot N p → N ≤ 100000 → ∃ p', QX.runW FR 1 nR p [] = .ok (.bl true) p' ∧ QX.Pot (N + 1000) p') :
    FnG P w K mg base CX0 9 f fd ["_law_script"] (spLaw K cA.T) := by
  have GP : FnOk P w K mg base CX0 1 fP fdP ["_law_script", "_law_k"] (spPot K) := ok_pot FP B
  have GL : FnOk P w K mg base CX0 1 fL fdL ["_law_script", "_law_most"] (spPlaces K 3) := ok_places FL B (by decide)
  have bP : L2.Binds K fdP ["_law_script", "_law_k"] [] := FP.bindsN fun _ _ _ _ _ _ us hl => match us, hl with | [_, _], _ => rfl
  have bL : L2.Binds K fdL ["_law_script", "_law_most"] [] := FL.bindsN fun _ _ _ _ _ _ us hl => match us, hl with | [_, _], _ => rfl
  obtain ⟨fR, fdR, psR, gR, kp, bR, GR⟩ := GR.go
  refine okG F scW (fun vs H Q E h => ?_) (fun cdv A outer s H vs Q E hrg h => ?_)
  · obtain ⟨a, ns, rfl, _⟩ := h
    rfl
  · obtain ⟨a, ns, rfl, hS, hn, hT, q⟩ := h
    have hr1 := hrg.r.mono (show 1 ≤ 8 by decide)
    refine ⟨_, PSs.nox (pss_one (ps_ret (pe_callB (cr_all rfl) (by rfl) hall boot_all (pa_cons
      (pe_lc (own := [("_law_place", 1)]) (g := gName 1) (tt := tYes) rfl scW.nd (pi_list (pe_call GL hr1 rfl gL FL.kp bL .nil pass0 (pa_cons (pv 0) (pa_cons pe_int pa_nil))))
        (blkOk_by (N := ["_law_script", "_law_place"]) (sc := defScope sLaw) (by decide +kernel))
        (fun _ _ _ _ _ => pg_name (i := 1) scW.nd rfl (Or.inl rfl)) (fun _ _ _ _ _ => pts_nil)
        (fun _ _ _ _ _ => QX.pe_callGS GR hrg rfl gR kp bR QX.hx0 (pa_cons (pe_call GP hr1 rfl gP FP.kp bP .nil pass0 (pa_cons (pv 0) (pa_cons (pv 1) pa_nil))) pa_nil))) pa_nil)))), ?_⟩
    refine ⟨_, rfl, a, ns, rfl, hS, hn, fun pl H1 t s1 n1 ht eP => ⟨pl, rfl, ⟨_, SqL.of eP⟩, fun D nD => lc_list (xs := (List.range t).map fun (i : Nat) => V.int (i : Int))
      (fun k H' => H' D = some (.lst ((List.replicate k true).map V.bl)) ∧ LamX.ExtN H1 H' ∧ LamX.Tabs cA.T H') ⟨upd_same, LamX.ExtN.of (same_new nD), (hT.ext s1).ext (same_new nD)⟩ (fun k H' _ z => SqL.of (z.2.1 _ _ eP fun _ z => by cases z)) ?_ ?_⟩⟩
    · rintro k x H' hx ⟨eD, s, t1⟩
      have hk : k < t := by
        have z := (List.getElem?_eq_some_iff.mp hx).1
        rw [List.length_map, List.length_range] at z
        exact z
      obtain rfl : V.int (k : Int) = x := by
        rw [List.getElem?_map, List.getElem?_range hk] at hx
        exact Option.some.inj hx
      refine ⟨rfl, _, rfl, _, rfl, a, ns, k, rfl, seqN s (s1.seq hS), hn, by omega, fun p o hp ho => ?_⟩
      have tp : LamX.Tabs cA.T (L2.upd H' p o) := t1.ext (same_new hp)
      obtain ⟨pv, hq, how⟩ := potQ (κ := ⟨K, cA⟩) (H := L2.upd H' p o) (Hm := msk [p] (L2.upd H' p o)) ⟨o, upd_same, ho⟩
      obtain ⟨p', er, hp'⟩ := hR hq (by omega)
      have pD : p ≠ D := fun z => by rw [z, eD] at hp; cases hp
      refine ⟨[], p, pv, [], [], rfl, ?_, tp, by simp, how, QX.rpA_nil, ?_⟩
      · obtain ⟨a2, s2, c2, rfl, _⟩ := id ho
        exact fun b hb => by rw [List.mem_singleton.mp hb]; exact ⟨_, upd_same, .inl ⟨_, rfl⟩⟩
      · rw [er]
        rintro u H3 x ow r
        obtain rfl := QX.rp_bl.mp r
        have e3 : H3 D = some (.lst ((List.replicate k true).map V.bl)) := x.ext D _ (Ne.symm pD) (by rw [upd_ne (Ne.symm pD)]; exact eD) fun _ z => by cases z
        refine ⟨_, e3, ?_, ?_, ?_, QX.tabs_upd x.tab (.inr ⟨_, e3, .inl ⟨_, rfl⟩⟩)⟩
        · rw [List.length_map, List.length_replicate, sizeLine_eq]
          omega
        · rw [upd_same, List.replicate_succ', List.map_append]
          rfl
        · intro b u z nt
          have z1 := s b u z nt
          have np : b ≠ p := ne_of_none z1 hp
          have nb : b ≠ D := ne_of_none z nD
          rw [upd_ne nb]
          exact x.ext b u np (by rw [upd_ne np]; exact z1) nt
    · rintro H' ⟨eD, s, t1⟩
      refine ⟨D, _, rfl, SqL.of eD, ?_⟩
      have e : ∀ n : Nat, ((List.replicate n true).all id) = true := fun n => by
        rw [List.all_eq_true]
        intro b hb
        rw [(List.mem_replicate.mp hb).2]
        rfl
      rw [e]
      exact q _
theorem facts {h : Heap} (X : K.In h) (G : h.Ns mainGlobals mg) (hfa : mg ("law" : Str) = some (.ref f)) (c : Says w h K) :
    ∃ fd : FuncData, (∀ (s : Shared) (v : Value), BindsTo s fd ⟨[v], []⟩ [("_law_script", v)]) ∧ ∀ base : Heap, K.In base → base.Ns mainGlobals mg → FnG P w K mg base CX0 9 f fd ["_law_script"] (spLaw K []) := by
  obtain ⟨fdP, FP⟩ := c.t.d.def_ 45
  obtain ⟨fdL, FL⟩ := c.t.d.def_ 49
  obtain ⟨fdW, FW⟩ := c.t.d.def_ 52
  have e := hfa.symm.trans (glo_of X G c (x := "law") (by decide +kernel))
  cases e
  have b := FunD.bindsA (ps := ["_law_script"]) FW fun _ _ _ _ _ _ us hl => match us, hl with | [_], _ => rfl
  have bl := fun (x : Str) (z : x ∈ blts) => blt_of X G c z
  refine ⟨fdW, fun s v => b s [v] rfl, fun base _ _ => ?_⟩
  exact ok_law FW (bl "all" (by decide +kernel)) ⟨bl "len" (by decide +kernel), bl "int" (by decide +kernel), bl "abs" (by decide +kernel), bl "range" (by decide +kernel), bl "max" (by decide +kernel), bl "min" (by decide +kernel), bl "list" (by decide +kernel)⟩
    FP (glo_of X G c (by decide +kernel)) FL (glo_of X G c (by decide +kernel)) (q__law_right X G c base) fun hp hN => QX.k15_right (QX.take_ok 95381 173 (by decide) (by decide)) hp hN
end
end K15

set_option Elab.async false
set_option linter.all false
set_option maxRecDepth 100000
set_option maxHeartbeats 4000000
open PySem PySem.W PySem.Calls PyProof.Rows
set_option maxRecDepth 100000 in
set_option maxHeartbeats 0 in
theorem PySem.Challenge.cw_metonce_k15_arguments_by_their_names_holds : PySem.Challenge.rw_metonce_k15_arguments_by_their_names.Holds := by
  w_on; o_law
  refine HandSHeadRun.head_any (r := OpenLaw.row PySem.Challenge.rw_metonce_k15_arguments_by_their_names) (q := view (OpenLaw.row PySem.Challenge.rw_metonce_k15_arguments_by_their_names).prog [61]) (H := K15.hk) (ob := K15.ob) (M := 16000) (loose := K15.loose) (d := HandSHeadRun.topDef (OpenLaw.row PySem.Challenge.rw_metonce_k15_arguments_by_their_names).prog 61) (kwd := []) K15.ob_eq
    (by kernel_rfl) (fun s => by kernel_rfl) K15.run (by kernel_rfl) (by kernel_rfl) (by kernel_rfl) (by rfl) (by first | assumption | decide +kernel) (by decide +kernel) ⟨rfl, rfl, rfl, rfl, rfl, by decide +kernel⟩ ?hw ?hc
  case hw => w_witness2
  case hc =>
    refine MX.walk_g (l := PySem.Challenge.rw_metonce_k15_arguments_by_their_names) (n := 63) (k := 9) (x := "_law_script") rfl (by decide) (by kernel_rfl) ⟨⟨rfl, by decide, by decide⟩, rfl⟩ ?F
    intro w mg fa h Y G hmg0
    obtain ⟨K, KX, c⟩ := Y
    have hmg : mg ("law" : PySem.Str) = some (.ref fa) := by
      have e : (HandSHeadRun.topDef (OpenLaw.row PySem.Challenge.rw_metonce_k15_arguments_by_their_names).prog 61).name = ("law" : PySem.Str) := by kernel_rfl
      rw [← e]
      exact hmg0
    obtain ⟨fd, hb, hF⟩ := K15.facts (P := (PySem.Challenge.rw_metonce_k15_arguments_by_their_names).prog) (w := w) KX G hmg c
    exact ⟨K, fd, K15.spLaw K [], KX, hb, fun H a ns hl _ hS => ⟨a, ns, rfl, hS, hl, fun q hq => absurd hq List.not_mem_nil, fun _ => rfl⟩, hF⟩
#print axioms PySem.Challenge.cw_metonce_k15_arguments_by_their_names_holds

