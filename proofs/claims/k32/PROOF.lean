import PyProof.Rows.All
import Wide.All
import OpenK.AllK
import Wide.FinOn
import HandS.ForMost
import HandS.OwnEq
import HandS.IsInst
import PyProof.InstEq
import HandS.Defaults
import HandS.SortInts
import PyProof.AutoSeq1
import PyProof.ListOps
import PyProof.EqKinds
import PyProof.EqAt
import PyProof.LongRange
import PyProof.Rows.Range3
import KE.KDictZip
import HandS.ListItems
import HandS.Iter
import PyProof.EnumMake
import HandS.Exc
import HandS.Flow
import HandS.Wide
import HandS.WideMore
import HandS.Gcd
import HandS.WideBits
import HandS.Walk
import HandS.EndBits
import HandS.Codes
import HandS.Style
import HandS.Conv
import HandS.NoneIn
import HandS.AnyAll
import PySem.Challenge.RW_farlamps_k32_whole_split_lamps
set_option Elab.async false
set_option linter.all false
set_option maxRecDepth 100000
namespace Own
open PySem L2
/-! ### == by an own __eq__ that hands back a truth: both answers -/
/-- what isinstance asks of an own class -/
structure Kls (K : PySem.W.Frag) (C : Addr) : Prop where
  cl : Cls K C
  ha : PySem.W.findIn K (.ref C) "__class__" = some (some (.builtin "object.__class__"))
  hn : PySem.W.specialIn K (.builtin "object.__class__") "__get__" = some (some (.builtin "getset_descriptor.__get__"))
  htk : PySem.W.takesIn K (.builtin "object.__class__") = some true
  hm : PySem.W.mroIn K C (.type "object") = some true
theorem Kls.ty {K : PySem.W.Frag} {H : Hp} {a C dx : Addr} {fs : List (Str × V)} (k : Kls K C) (e : H a = some (.ins C dx fs)) : TyX K H (.ref a) (.ref C) := .base (.ins e k.cl k.ha k.hn k.htk k.hm)
section
variable {X : Cx} {n : Nat}
theorem looks_ty {x : V} {u t : Value} {pins : List (Addr × Obj)} {σ : St} {H : Hp} {s : Shared} (I : Inv X pins σ H s) (rx : RelV x u) (ty : TyX X.K H x t) : PySem.W.Looks (model X.prog X.w) s.heap (typeOf u) t := by
  obtain ⟨P, Z, p, _⟩ := kit_of I rx ty
  exact Z.ty (model X.prog X.w) s.heap I.kIn p
def rEqOwn (K : PySem.W.Frag) (C : Addr) (sp : Sp) (E : XK) : R2 := fun x y H Q => ∃ a dx fs t, x = .ref a ∧ H a = some (.ins C dx fs) ∧ TyX K H y t ∧ PySem.W.notFirst K C t = true ∧
  sp [x, y] H (fun v H' => ∃ b, v = .bl b ∧ Q (.bl b) H') E
theorem op_eqOwn {CX : CXT} {C f : Addr} {fd : FuncData} {ps : List Str} {sp : Sp} {E : XK} (hm : Meth X.K C "__eq__" f) (F : FnOk X.prog X.w X.K X.mg X.base CX n f fd ps sp) (hb : Binds X.K fd ps []) (hr : Room n X.A) (hx : Passes CX X E) :
    OpR X (compareOp .Eq) (rEqOwn X.K C sp E) := by
  intro pins s σ H x y v u Q I rx ry hq
  obtain ⟨a, dx, fs, t, rfl, ha, ty, nf, hsp⟩ := hq
  cases rx
  have lt := looks_ty I ry ty
  obtain ⟨mA, J, _⟩ := ins_get I.hok ha
  obtain ⟨od, J, _⟩ := J.look
  obtain ⟨m, hF⟩ := I.fr
  show wpAny (model X.prog X.w) X.A (richCompare .Eq (.ref a) u) (EP X pins σ Q) X.xe s
  refine PySem.W.cmp_K (op := .Eq) hr.units0 hF I.ok.mod.kin J lt nf hm.at_ hm.fn ?_
  have hl := F.len _ _ _ _ hsp
  have r2 : Vals [V.ref a, y] [Value.ref a, u] := .cons rfl (.cons ry .nil)
  refine wpAny_call (codeAny_mono (F.run X.A X.stack s H ⟨[.ref a, u], []⟩ [.ref a, u] [.ref a, y] _ E hr I.env0 (by
    have := hb s [.ref a, u] I.kIn (by simpa using hl)
    simpa using this) r2 hsp) fun r s' hq => ?_)
  cases r with
  | error e => exact hx pins σ H s e s' I hq
  | ok fl =>
    cases fl with
    | ret w =>
      obtain ⟨z, H', I', rz, b, ez, q⟩ := I.after hq
      subst ez
      cases rz
      exact ⟨.bl b, H', I', rfl, q⟩
    | next => exact False.elim hq
    | brk => exact False.elim hq
    | cont => exact False.elim hq
end
theorem kit_no {K : PySem.W.Frag} {C : Addr} {T : String} (h2 : PySem.W.isClsIn K C = true) (h3 : PySem.W.typeIn K (.ref C) = some (.type "type")) (h4 : PySem.W.subIn K (.type T) (.ref C) = some false) : PySem.W.kitOne K (.type T) (.ref C) = some false := by
  have e2 : ((PySem.W.clsIn K C).isSome && PySem.W.typeIn K (.ref C) == some (.type "type")) = true := by
    have h2' : (PySem.W.clsIn K C).isSome = true := h2
    rw [h2', h3] <;> rfl
  have e0 : ¬ (Value.type T == Value.ref C) = true := by simp
  unfold PySem.W.kitOne
  rw [if_neg e0]
  show (if ((PySem.W.clsIn K C).isSome && PySem.W.typeIn K (.ref C) == some (.type "type")) = true then PySem.W.subIn K (.type T) (.ref C) else none) = some false
  rw [if_pos e2]
  exact h4

/-! ### != of instances whose class has an own __eq__ and no __ne__ -/
section
open PySem.W
variable {prog : Program} {w : World} {A : Around} {E : Value → Shared → Prop} {s : Shared} {K : PySem.W.Frag} {x C L f : Addr} {h₀ : Heap} {m : Str → Option Value} {ox : Obj} {od : Option Obj} {b tb : Value}
theorem ne_entry {P : Fin → Shared → Prop} (hu : A.units < cLine) (X : K.In s.heap) (I : InstAt s.heap x ox C od) (hs : findIn K (.ref C) "__eq__" = some (some (.ref f))) (hf : isFn K (.ref f) = true)
    (h : wpAny (model prog w) A (call (.ref f) [.ref x, b]) (fun v s' => ∃ r, v = .bool r ∧ P (.done (.ret (.bool (!r)))) s') E s) :
    wpAny (model prog w) A (Builtin.«object.__ne__» ⟨[.ref x, b], []⟩) P E s := by
  unfold Builtin.«object.__ne__»
  iterate 6 (first
    | with_reducible refine wpAny_cRoomFor hu ?_
    | wp_step)
  refine wpAny_cRoomFor hu ?_
  refine wpAny_bind (ifBound_K X I hs hf (wpAny_mono h (fun v s' hv => ?_) fun _ _ e => e))
  obtain ⟨r, rfl, hp⟩ := hv
  dsimp only
  refine wpAny_bind ?_
  iterate 3 (try wp_step)
  exact wpAny_pure hp
theorem ne_check {Q : Unit → Shared → Prop} (X : K.In s.heap) (I : InstAt s.heap x ox C od) (ho : subIn K (.ref C) (.type "object") = some true) (hq : Q () s) :
    wpAny (model prog w) A (checkBuiltinCall "object.__ne__" ⟨[.ref x, b], []⟩) Q E s := by
  have LI : Looks (model prog w) s.heap (isInstance (.ref x) (.type "object")) true := I.type.andThen (looks_subIn X ho)
  simp only [checkBuiltinCall, PySem.F.cmpKind_ne, PySem.F.cmpSplit_ne]
  refine wpAny_bind (LI.here ?_)
  cases hsig : Manifest.signature? "object.__ne__" with
  | none => repeat wp_step
            all_goals exact hq
  | some sig =>
    have ha := PySem.F.cmpArgs_ne (.ref x) b
    simp only [argsOk, hsig] at ha
    have h2 : Bind.checkArgs "object.__ne__" sig ⟨.ref x :: [b], []⟩ = pure () := ha
    show wpAny _ A (Bind.checkArgs "object.__ne__" sig ⟨.ref x :: [b], []⟩) Q E _
    rw [h2]
    exact wpAny_pure hq
end
section
open PySem.W
variable {prog : Program} {w : World} {A : Around} {E : Value → Shared → Prop} {s : Shared} {K : PySem.W.Frag} {x C L f : Addr} {h₀ : Heap} {m : Str → Option Value} {ox : Obj} {od : Option Obj} {b tb : Value}
theorem ne_bound {Q : Option Value → Shared → Prop} (hu : A.units + 1 < cLine) (X : K.In s.heap) (I : InstAt s.heap x ox C od) (hs : findIn K (.ref C) "__eq__" = some (some (.ref f))) (hf : isFn K (.ref f) = true)
    (hn : findIn K (.ref C) "__ne__" = some (some (.builtin "object.__ne__"))) (ho : subIn K (.ref C) (.type "object") = some true)
    (h : wpAny (model prog w) A.in1 (call (.ref f) [.ref x, b]) (fun v s' => ∃ r, v = .bool r ∧ Q (some (.bool (!r))) s') E s) :
    wpAny (model prog w) A (callSpecialIfBound? (.ref x) "__ne__" [b]) Q E s := by
  simp only [callSpecialIfBound?, bindSpecialIfBound?]
  refine wpAny_holding (wpAny_bind (wpAny_bind (wpAny_bind (I.type.here ((looks_findIn X hn).here ?_)))))
  simp only [PySem.F.cmp_object.ne.bind]
  refine wpAny_bind (wpAny_askSetting (wpAny_ite ?_))
  have fin : wpAny (model prog w) A (call (.builtin "object.__ne__") ([.ref x] ++ [b]) >>= fun v => pure (some v)) Q E s :=
    wpAny_bind (wpAny_call (codeAny_call_builtin PySem.F.cmp_object.ne.plain PySem.F.cmpEntry_ne (ne_check X I ho (ne_entry (A := A.in1) hu X I hs hf
      (wpAny_mono h (fun v s' hv => by obtain ⟨r, rfl, hp⟩ := hv; exact ⟨r, rfl, wpAny_pure hp⟩) fun _ _ e => e)))))
  split
  · exact wpAny_bind (wpAny_pure (wpAny_pure fin))
  · exact wpAny_tryCatch (wpAny_bind (wpAny_pure (wpAny_pure fin)))
theorem ne_K {Q : Value → Shared → Prop} (hu : A.units + 1 < cLine) (F : PyProof.Rows.Fr h₀ L s.heap m) (X₀ : K.In h₀) (I : InstAt s.heap x ox C od) (hb : Looks (model prog w) s.heap (typeOf b) tb) (hnf : notFirst K C tb = true)
    (hs : findIn K (.ref C) "__eq__" = some (some (.ref f))) (hf : isFn K (.ref f) = true)
    (hn : findIn K (.ref C) "__ne__" = some (some (.builtin "object.__ne__"))) (ho : subIn K (.ref C) (.type "object") = some true)
    (h : wpAny (model prog w) A.in1 (call (.ref f) [.ref x, b]) (fun v s' => ∃ r, v = .bool r ∧ Q (.bool (!r)) s') E s) : wpAny (model prog w) A (richCompare .NotEq (.ref x) b) Q E s := by
  have X := X₀.keeps F.keep
  have one : wpAny (model prog w) A (tryCompare (.ref x) "__ne__" b) (fun r s' => ∃ v, r = some v ∧ Q v s') E s := by
    unfold tryCompare
    refine wpAny_bind (ne_bound hu X I hs hf hn ho (wpAny_mono h (fun v s' hv => ?_) fun _ _ e => e))
    obtain ⟨r, rfl, hp⟩ := hv
    exact ⟨r, rfl, wpAny_pure ⟨_, rfl, hp⟩⟩
  unfold richCompare
  simp only [oneThing_ref]
  refine wpAny_holding (wpAny_bind (wpAny_cRoomFor (by omega) ?_))
  refine wpAny_bind (I.type.here (wpAny_bind (hb.here ?_)))
  split
  · rename_i q
    have e : subIn K tb (.ref C) = some false := by
      rcases Bool.or_eq_true_iff.mp hnf with e | e
      · rw [beq_iff_eq.mp e] at q; simp at q
      · exact beq_iff_eq.mp e
    refine wpAny_bind ((looks_subIn X e).here ?_)
    simp only [Bool.false_eq_true, if_false]
    refine wpAny_bind (wpAny_mono one (fun r s' z => ?_) fun _ _ e => e)
    obtain ⟨v, rfl, hq⟩ := z
    exact wpAny_pure hq
  · refine wpAny_bind (wpAny_pure ?_)
    simp only [Bool.false_eq_true, if_false]
    refine wpAny_bind (wpAny_mono one (fun r s' z => ?_) fun _ _ e => e)
    obtain ⟨v, rfl, hq⟩ := z
    exact wpAny_pure hq
end
/-- what != by an own __eq__ asks of the class -/
structure NeK (K : PySem.W.Frag) (C : Addr) : Prop where
  ne : PySem.W.findIn K (.ref C) "__ne__" = some (some (.builtin "object.__ne__"))
  ob : PySem.W.subIn K (.ref C) (.type "object") = some true
section
variable {X : Cx} {n : Nat}
def rNeOwn (K : PySem.W.Frag) (C : Addr) (sp : Sp) (E : XK) : R2 := fun x y H Q => ∃ a dx fs t, x = .ref a ∧ H a = some (.ins C dx fs) ∧ TyX K H y t ∧ PySem.W.notFirst K C t = true ∧
  sp [x, y] H (fun v H' => ∃ b, v = .bl b ∧ Q (.bl (!b)) H') E
theorem op_neOwn {CX : CXT} {C f : Addr} {fd : FuncData} {ps : List Str} {sp : Sp} {E : XK} (hm : Meth X.K C "__eq__" f) (F : FnOk X.prog X.w X.K X.mg X.base CX n f fd ps sp) (hb : Binds X.K fd ps []) (hr : Room (n + 1) X.A) (hx : Passes CX X E) (hk : NeK X.K C) :
    OpR X (compareOp .NotEq) (rNeOwn X.K C sp E) := by
  intro pins s σ H x y v u Q I rx ry hq
  obtain ⟨a, dx, fs, t, rfl, ha, ty, nf, hsp⟩ := hq
  cases rx
  have lt := looks_ty I ry ty
  obtain ⟨mA, J, _⟩ := ins_get I.hok ha
  obtain ⟨od, J, _⟩ := J.look
  obtain ⟨m, hF⟩ := I.fr
  show wpAny (model X.prog X.w) X.A (richCompare .NotEq (.ref a) u) (EP X pins σ Q) X.xe s
  refine ne_K (by have := hr.un; omega) hF I.ok.mod.kin J lt nf hm.at_ hm.fn hk.ne hk.ob ?_
  have hl := F.len _ _ _ _ hsp
  have r2 : Vals [V.ref a, y] [Value.ref a, u] := .cons rfl (.cons ry .nil)
  refine wpAny_call (codeAny_mono (F.run X.A.in1 X.stack s H ⟨[.ref a, u], []⟩ [.ref a, u] [.ref a, y] _ E hr.in1 I.env0.in1 (by
    have := hb s [.ref a, u] I.kIn (by simpa using hl)
    simpa using this) r2 hsp) fun r s' hq => ?_)
  cases r with
  | error e => exact hx pins σ H s e s' I hq
  | ok fl =>
    cases fl with
    | ret w =>
      obtain ⟨z, H', I', rz, b, ez, q⟩ := I.after hq
      subst ez
      cases rz
      exact ⟨b, rfl, .bl (!b), H', I', rfl, q⟩
    | next => exact False.elim hq
    | brk => exact False.elim hq
    | cont => exact False.elim hq
end

/-! ### calls by keywords, no defaults -/
def permL {α : Type} (p : List Nat) (ws : List α) : List α := p.filterMap fun i => ws[i]?
theorem vals_perm {zs : List V} {ws : List Value} (r : Vals zs ws) : ∀ p : List Nat, Vals (permL p zs) (permL p ws)
  | [] => .nil
  | i :: p => by
    unfold permL
    rw [List.filterMap_cons, List.filterMap_cons]
    cases e : zs[i]? with
    | none =>
      rw [r.none_of e]
      exact vals_perm r p
    | some x =>
      obtain ⟨u, e2, ru⟩ := r.get e
      rw [e2]
      exact .cons ru (vals_perm r p)
theorem Fun.kbn {K : PySem.W.Frag} {x qual : Str} {st : Stmt} {f : Addr} {fd : FuncData} {ps : List Str} (F : L2.Fun K x qual st f fd) (n : Nat) (ks : List Str) (p : List Nat)
    (h : ∀ (kV doc pm : Value) (an : Option Addr) (cdv ct : Value) (us ws : List Value), us.length = n → ws.length = ks.length →
      bindArgs (PySem.W.fnOf x qual (defArgs st) (defBody st) (defScope st) .none kV doc pm an cdv ct) ⟨us, ks.zip ws⟩ = pure (ps.zip (us ++ permL p ws))) :
    KBn K fd ps n ks (fun us ws => us ++ permL p ws) (fun vs zs => vs ++ permL p zs) := by
  obtain ⟨oc, od, kV, doc, pm, an, cdv, ct, osl, rfl, lk, hcd⟩ := F.ex
  exact ⟨fun s us ws _ l1 l2 => BindsTo.of_eq (h kV doc pm an cdv ct us ws l1 l2), fun r rz => r.append (vals_perm rz p)⟩
section
variable {X : Cx} {CX : CXT} {k n : Nat} {f C : Addr} {fd : FuncData} {ps ks : List Str} {sp : Sp} {E : XK} {x m : Str} {p pos apos kpos : Pos} {e o : Expr} {es : List Expr} {kws : List Keyword} {te ta : TE} {t tk : TA} {nm : Option Str}
variable {g : List Value → List Value → List Value} {gV : List V → List V → List V}
/-- f(k = v, ..) -/
theorem pe_callN0 (F : FnOk X.prog X.w X.K X.mg X.base CX k f fd ps sp) (hr : Room k X.A) (hg : Gl X x) (hm : X.mg x = some (.ref f)) (hk : PySem.W.keepIn X.K (.ref f) = true) (hb : KBn X.K fd ps 0 ks g gV) (hx : Passes CX X E)
    (hkw : PK X kws tk) (hall : (backToKw pos (keywordEach kws X.env)).all (·.1.isSome) = true := by rfl) (hks : (backToKw pos (keywordEach kws X.env)).filterMap (·.1) = ks := by rfl)
    (hdb : (x == ("__debug__" : Str)) = false := by decide) 
    (hpl : ((backTo pos (starEach [] X.env)).any (·.1) || (backToKw pos (keywordEach kws X.env)).any (·.1.isNone)) = false := by rfl) :
    PE X (.Call (.Name x p) [] kws pos) (tCallN 0 ks.length sp gV E tNil tk) := by
  refine ⟨fun pins s σ H Q I h => ?_⟩
  refine wpAny_Call_Name_kw (ld_glob I hg hm ?_ hdb)
  refine PySem.W.callWith_KW0 (h₀ := X.base) I.ok.mod.kin hk hall ?_ hpl
  refine thn (hkw.run pos pins s σ H _ I h) fun ws s2 ⟨zs, H2, I2, rz, l1, l2, q2⟩ => ⟨I2.kIn, ?_⟩
  rw [hks]
  exact run_fnN (us := []) (vs := []) F hr hb hx I2 .nil rz l1 l2 q2
end
section
variable {X : Cx} {CX : CXT} {k : Nat} {f C : Addr} {fd : FuncData} {ps ks : List Str} {sp : Sp} {E : XK} {m : Str} {pos apos : Pos} {o : Expr} {kws : List Keyword} {ta : TE} {tk : TA} {g : List Value → List Value → List Value} {gV : List V → List V → List V}
/-- o.m(k = v, ..) -/
def tMethN (C : Addr) (m : Str) (n : Nat) (sp : Sp) (gV : List V → List V → List V) (E : XK) (ta : TE) (tk : TA) : TE := fun σ H Q => ta σ H fun x H1 => ∃ a dx fs, x = .ref a ∧ H1 a = some (.ins C dx fs) ∧ fs.lookup m = none ∧
  tk σ H1 fun zs H2 => zs.length = n ∧ sp (gV [x] zs) H2 Q E
theorem pe_methN0 {pl : Sem Bool} (he : PE X o ta) (c : Cls X.K C) (hm : Meth X.K C m f) (F : FnOk X.prog X.w X.K X.mg X.base CX k f fd ps sp) (hr : Room k X.A) (hb : KBn X.K fd ps 1 ks g gV) (hx : Passes CX X E) (hkw : PK X kws tk)
    (hall : (backToKw pos (keywordEach kws X.env)).all (·.1.isSome) = true := by rfl) (hks : (backToKw pos (keywordEach kws X.env)).filterMap (·.1) = ks := by rfl)
    (hpl : ((backTo pos (starEach [] X.env)).any (·.1) || (backToKw pos (keywordEach kws X.env)).any (·.1.isNone)) = false := by rfl)
    (ht : eval (.Call (.Attribute o m apos) [] kws pos) X.env = (do
      let ov ← eval o X.env
      standAt apos.atName
      let (f, first) ← holding [ov] (getMethod ov m pl)
      callWith pos f first (backTo pos (starEach [] X.env)) (backToKw pos (keywordEach kws X.env))) := by rfl) :
    PE X (.Call (.Attribute o m apos) [] kws pos) (tMethN C m ks.length sp gV E ta tk) := by
  refine ⟨fun pins s σ H Q I h => ?_⟩
  refine PySem.W.methodCall_KW (pl := pl) (thn (he.run pins s σ H _ I h) fun u s1 ⟨x, H1, I1, rx, a, dx, fs, ex, ea, l, q⟩ => ?_) ht
  subst ex
  obtain rfl : u = Value.ref a := rx
  refine getmeth_ok I1 ea c hm l ?_
  refine PySem.W.callWith_KW0 (first := [.ref a]) (h₀ := X.base) I1.ok.mod.kin hm.kp hall ?_ hpl
  refine thn (hkw.run pos pins s1 σ H1 _ I1 q) fun ws s2 ⟨zs, H2, I2, rz, l2, q2⟩ => ⟨I2.kIn, ?_⟩
  rw [hks]
  exact run_fnN (us := [.ref a] ++ []) (vs := [.ref a]) F hr hb hx I2 (show Vals [V.ref a] [Value.ref a] from .cons rfl .nil) rz rfl l2 q2
end

/-! ### a range object kept by a name, and walked -/
section
variable {X : Cx}
theorem cr_range1 : CallR X (.type "range") (fun vs H Q => ∃ i, vs = [V.int i] ∧ ∀ p, H p = none → Q (.ref p) (upd H p (.rng 0 i))) := by
  intro pins s σ H vs us Q I r h
  obtain ⟨i, rfl, q⟩ := h
  cases r with
  | cons ri rr =>
    cases rr
    obtain ⟨t, rfl⟩ := ri
    refine call_range_1 ⟨.ref s.heap.objs.size, upd H s.heap.objs.size (.rng 0 i), I.laid (t' := s.toks + 1 + 1) (fun b o e => Heap.get?_push_of_some _ e) (Nat.le_refl _) ?_, rfl, q _ (I.hok.fresh (Nat.le_refl _))⟩
    exact ⟨s.toks, t, s.toks + 1, Heap.get?_push_size _ rfl⟩
def iRngV (te : TE) : TI := fun σ H R => te σ H fun x H1 => ∃ (a : Addr) (n : Nat), x = .ref a ∧ H1 a = some (.rng 0 (n : Int)) ∧ n ≤ 100000 ∧ R (Itr 0 n) H1
theorem pi_rngV {tg e : Expr} {te : TE} (he : PE X e te) : PI X tg e (iRngV te) := by
  refine ⟨fun pins s σ H R I h => ?_⟩
  refine thn (he.run pins s σ H _ I h) fun v s1 ⟨x, H1, I1, r1, q1⟩ => ?_
  obtain ⟨a, n, e, hq, hn, q⟩ := q1
  subst e
  cases r1
  obtain ⟨t, u, w', g⟩ := I1.hok a _ hq
  refine wpAny_pyIter_range g (small_one (by omega) (by omega) (by omega) (by omega)) ?_
  refine ⟨s1.heap.objs.size, [s1.heap.objs.size], _, _, H1, rfl, I1.kept (t' := s1.toks) fun b o e => Heap.get?_push_of_some _ e, turn_range _ 0 n, ?_, fun b hb => ?_, q⟩
  · have e1 : (0 : Int) + ((0 : Nat) : Int) * 1 = 0 := by simp
    have e2 : (n : Int) - ((0 : Nat) : Int) = Builtin.Range.rangeSize 0 n 1 := by rw [rangeSize_one]; split <;> omega
    show IsRangeIter _ _ (0 + ((0 : Nat) : Int) * 1) ((n : Int) - ((0 : Nat) : Int)) 1
    rw [e1, e2]
    exact Heap.get?_push_size _ rfl
  · have e : b = s1.heap.objs.size := by simpa using hb
    subst e
    exact I1.fpOk (Nat.le_refl _) (I1.hok.fresh (Nat.le_refl _))
end
section
variable {X : Cx} {K : PySem.W.Frag}
theorem op_inK (hK : X.K = K) : OpR X (compareOp .In) (rIn K false) := by
  subst hK
  exact op_in_seq
theorem op_notInK (hK : X.K = K) : OpR X (compareOp .NotIn) (rIn K true) := by
  subst hK
  exact op_notIn_seq
theorem pi_listK {tg l : Expr} {tl : TE} (hK : X.K = K) (hl : PE X l tl) : PI X tg l (iList K tl) := by
  subst hK
  exact pi_list hl
end
section
variable {X : Cx} {K : PySem.W.Frag}
theorem call_lenB (hK : X.K = K) : CallR X (.builtin "len") (fun xs H Q => ∃ p ys, xs = [.ref p] ∧ (SqL K H p ys ∨ SqT K H p ys) ∧ Q (.int ys.length) H) := by
  subst hK
  exact call_len_seq
theorem cr_sumB (hK : X.K = K) (hc : X.calm = true) : CallR X (.builtin "sum") (rSum K) := by
  subst hK
  exact cr_sum hc
theorem sw_cell {elt : Expr} {gs : List Comprehension} {scope : Scope} {pos py : Pos} {y : Str} {l : Nat} {env : Env} (hy : env.scope.names.lookup y = some .cell) : swapsWith (.ListComp elt gs scope pos) (some (.Name y py)) l env = pure false := by
  have ky : env.kindOf y = some .cell := hy
  unfold swapsWith
  simp only [ky]
  have e : ((some NameKind.cell == some NameKind.local) = false) := rfl
  rw [e, Bool.and_false, Bool.false_and, Bool.false_and]
end
theorem inV_ints (x : Int) : ∀ ns : List Int, inV (.int x) (ns.map V.int) = decide (x ∈ ns)
  | [] => by simp [inV]
  | n :: ns => by
    have ih := inV_ints x ns
    unfold inV at ih ⊢
    rw [List.map_cons, List.any_cons, ih]
    have e : eqV (.int n) (.int x) = decide (n = x) := rfl
    rw [e]
    rw [show decide (n = x) = decide (x = n) from decide_eq_decide.mpr eq_comm]
    simp [Bool.decide_or]
theorem flat_ints (ns : List Int) : (ns.map V.int).all flatV = true := by
  rw [List.all_eq_true]
  intro v hv
  obtain ⟨z, _, rfl⟩ := List.mem_map.mp hv
  rfl

/-! ### a keyword-only parameter with a default, left out -/
theorem bd1 {K : PySem.W.Frag} {x qual : Str} {params : Arguments} {body : List Stmt} {scope : Scope} {f D : Addr} {ps : List Str} {nm : Str} {i : Int} {tk : Tok} {oc : Value} {od : Option Addr} {doc pm : Value} {an : Option Addr} {cdv ct : Value} {osl : Array (Option Value)} (n : Nat)
    (lk : K.lookup f = some ⟨oc, od, .func (PySem.W.fnOf x qual params body scope .none (.ref D) doc pm an cdv ct), osl⟩) (hc : PySem.W.codeIn K cdv qual = true) (hk : PySem.W.keepIn K (.ref f) = true) (hd : PySem.W.nsIn K D nm = some (some (.int i tk))) (hn : n + 1 = ps.length)
    (h : ∀ (D : Addr) (doc pm : Value) (an : Option Addr) (cdv ct : Value) (us ks : List Value), us.length = n → ks.length = 1 → KwChain D ([nm].zip ks) (bindArgs (PySem.W.fnOf x qual params body scope .none (.ref D) doc pm an cdv ct) ⟨us, []⟩) (ps.zip (us ++ ks))) :
    ∃ ds, Vals [V.int i] ds ∧ Binds K (PySem.W.fnOf x qual params body scope .none (.ref D) doc pm an cdv ct) ps ds :=
  (FunD.mk ⟨_, _, _, _, _, _, _, _, _, _, rfl, lk, hc, .inl ⟨rfl, rfl⟩, .inr ⟨D, rfl, fun q hq => by rw [List.mem_singleton.mp hq]; exact ⟨_, hd, tk, rfl⟩⟩⟩ hk : FunD K x qual params body scope [] [(nm, V.int i)] f _).binds0 n (by intro z; cases z) hn h

/-! ### within a comprehension: what hangs on the written part alone -/
section
variable {X : Cx} {K : PySem.W.Frag} {e : Expr} {f : Str} {pos : Pos} {ta : TE}
theorem pe_fldB (hK : X.K = K) (he : PE X e ta) (hb : attributeBase e f X.env (eval e X.env) = eval e X.env) : PE X (.Attribute e f pos) (tFld K ta f) := by
  subst hK
  exact pe_fld he hb
theorem ix_listB (hK : X.K = K) : L2.IxR X (rIxL K) := by
  subst hK
  exact ix_list
end
section
variable {X : Cx} {K : PySem.W.Frag}
theorem pg_tupB {es : List Expr} {pos : Pos} {k : Nat} {t : TGs} {n : Nat} (hK : X.K = K) (hc : X.calm = true) (h : PGs X es t)
    (hn : (assignEach es X.env).length = n := by rfl) (hst : (assignEach es X.env).findIdx? (·.1) = none := by rfl) : PG X (.Tuple es k pos) (gTup K n t) := by
  subst hK
  exact pg_tup hc h hn hst
theorem pt_truthB {a : Expr} {ta : TE} (hK : X.K = K) (ha : PE X a ta) (he : ∀ whole, isTrue a X.env whole = (do let v ← whole; standAt a.pos; holding [v] (truthy v))) :
    PT X a (fun σ H Q => ta σ H fun x H' => ∃ k, TruV K x H' k ∧ Q k H') := by
  subst hK
  exact pt_truth ha he
theorem ix_tupB (hK : X.K = K) : L2.IxR X (rIxT K) := by
  subst hK
  exact ix_tup
theorem call_isiB (hK : X.K = K) : CallR X (.builtin "isinstance") (rIsi K) := by
  subst hK
  exact call_isi
end

/-! ### list + list, where the lists are read only (the script) -/
section
open PySem.AutoSeq1 in
theorem list_add_sl (l : Addr) (items : Array Value) (n : Nat) (sl : Array (Option Value)) (b : Addr) (items2 : Array Value) (n2 : Nat) (sl2 : Array (Option Value)) (hc0 : items.size + items2.size ≤ sizeLine) :
    Meets (Builtin.«list.__add__» ⟨[.ref l, .ref b], []⟩) (fun _ R s => s.heap.get? l = some { cls := .type "list", dict := none, data := .seq items n, slots := sl } ∧ s.heap.get? b = some { cls := .type "list", dict := none, data := .seq items2 n2, slots := sl2 } ∧
      R (.ok (.ret (Value.ref s.heap.objs.size))) { s with heap := s.heap.push { cls := Value.type "list", data := Data.seq (items ++ items2) } }) :=
  .of_wp fun prog w A R s h => by
    obtain ⟨hp, g, d, tk, os⟩ := s
    obtain ⟨hl, hb, h⟩ := h
    have f1 := idx_int
    have f2 := sub_tuple_tuple
    have f3 := sub_list_list
    have f4 := sub_tuple_list
    have f5 := sub_list_tuple
    wp_walk using wpAny_loadPart' hl, wpAny_loadPart' hb
    exact ⟨_, rfl, h⟩
variable {X : Cx}
def rCatS (K : PySem.W.Frag) : R2 := fun x y H Q => ∃ l b xs zs, x = .ref l ∧ y = .ref b ∧ SqL K H l xs ∧ SqL K H b zs ∧ xs.length + zs.length ≤ sizeLine ∧ ∀ p, H p = none → Q (.ref p) (upd H p (.lst (xs ++ zs)))
theorem op_catS : OpR X (binaryOp .Add) (rCatS X.K) := by
  intro pins s σ H x y v u Q I rx ry h
  obtain ⟨l, b, xs, zs, rfl, rfl, hH, hB, hz, q⟩ := h
  cases rx
  cases ry
  obtain ⟨its, r, ⟨o, n, e, hc, hd, hs⟩, z⟩ := I.list hH
  obtain ⟨its2, r2, ⟨o2, n2, e2, hc2, hd2, hs2⟩, z2⟩ := I.list hB
  obtain ⟨oc, od, dt, sl⟩ := o
  obtain ⟨oc2, od2, dt2, sl2⟩ := o2
  simp only at hc hd hs hc2 hd2 hs2
  subst hc hd hs hc2 hd2 hs2
  have l1 := r.length
  have l2 := r2.length
  refine concat_meets ⟨_, e, rfl⟩ ⟨_, e2, rfl⟩ noFill_list_add seq_list_add PySem.F.slot_list_add PySem.F.entry_list_add (PySem.F.args_list_add_2 _ _) (list_add_sl l its.toArray n sl b its2.toArray n2 sl2 (by rw [List.size_toArray, List.size_toArray]; omega)) ⟨e, e2, ?_⟩
  have ea : its.toArray ++ its2.toArray = (its ++ its2).toArray := by simp
  rw [ea]
  exact ⟨.ref _, _, I.lnew (t' := s.toks) (r.append r2) (by rw [List.length_append]; omega), rfl, q _ I.fresh⟩
end
section
variable {X : Cx} {K : PySem.W.Frag}
theorem op_catSB (hK : X.K = K) : OpR X (binaryOp .Add) (rCatS K) := by
  subst hK
  exact op_catS
end

/-! ### None == an instance of a class with an own __eq__; two rules of one operation -/
section
open PySem.W
variable {prog : Program} {w : World} {A : Around} {E : Value → Shared → Prop} {s : Shared} {K : PySem.W.Frag} {x C L f : Addr} {h₀ : Heap} {m : Str → Option Value} {ox : Obj} {od : Option Obj}
theorem eq_none_K {Q : Value → Shared → Prop} (hu : A.units < cLine) (F : PyProof.Rows.Fr h₀ L s.heap m) (X₀ : K.In h₀) (I : InstAt s.heap x ox C od)
    (hno : subIn K (.ref C) (.type "NoneType") = some false) (hs : findIn K (.ref C) "__eq__" = some (some (.ref f))) (hf : isFn K (.ref f) = true)
    (h : wpAny (model prog w) A (call (.ref f) [.ref x, .none]) (CmpBack Q) E s) : wpAny (model prog w) A (richCompare .Eq .none (.ref x)) Q E s := by
  have X := X₀.keeps F.keep
  have two : wpAny (model prog w) A (tryCompare (.ref x) "__eq__" .none) (fun r s' => ∃ v, r = some v ∧ Q v s') E s := by
    unfold tryCompare
    refine wpAny_bind (ifBound_K X I hs hf (wpAny_mono h (fun v s' hv => ?_) fun _ _ e => e))
    cases v <;> first | exact hv.elim | exact wpAny_pure ⟨_, rfl, hv⟩
  have hN : s.TypeIs .none "NoneType" := rfl
  unfold richCompare
  simp only [hN.oneThing_none]
  refine wpAny_holding (wpAny_bind (wpAny_cRoomFor hu ?_))
  refine wpAny_bind (wpAny_typeOf hN (wpAny_bind (I.type.here ?_)))
  rw [if_pos (show (Value.type "NoneType" != Value.ref C) = true from rfl)]
  refine wpAny_bind ((looks_subIn X hno).here ?_)
  simp only [Bool.false_eq_true, if_false]
  simp only [Bool.not_false, if_true]
  refine wpAny_bind (m := tryCompare .none _ (.ref x)) (wpAny_tryCompare_declines hN PySem.F.slot_NoneType_eq (call_gives PySem.F.slot_NoneType_eq hN PySem.F.entry_NoneType_eq (PySem.F.args_NoneType_eq_2 _ _) (PySem.SeqAt.NoneType___eq___none_ref_0 x) ⟨rfl, ?_⟩))
  refine wpAny_bind (m := tryCompare (.ref x) _ .none) (wpAny_mono two (fun r s' z => ?_) fun _ _ e => e)
  obtain ⟨v, rfl, hq⟩ := z
  exact wpAny_pure hq
end
section
variable {X : Cx} {n : Nat}
/-- either rule -/
def rOr (r r' : R2) : R2 := fun x y H Q => r x y H Q ∨ r' x y H Q
theorem op_or {f : Value → Value → Sem Value} {r r' : R2} (h : OpR X f r) (h' : OpR X f r') : OpR X f (rOr r r') := fun pins s σ H x y v u Q I rx ry q => q.elim (h pins s σ H x y v u Q I rx ry) (h' pins s σ H x y v u Q I rx ry)
/-- None == an instance: its own __eq__ is asked -/
def rNoneEq (C : Addr) (sp : Sp) (E : XK) : R2 := fun x y H Q => ∃ a dx fs, x = .non ∧ y = .ref a ∧ H a = some (.ins C dx fs) ∧ sp [y, .non] H (fun v H' => ∃ b, v = .bl b ∧ Q (.bl b) H') E
theorem op_noneEq {CX : CXT} {C f : Addr} {fd : FuncData} {ps : List Str} {sp : Sp} {E : XK} (hm : Meth X.K C "__eq__" f) (F : FnOk X.prog X.w X.K X.mg X.base CX n f fd ps sp) (hb : Binds X.K fd ps []) (hr : Room n X.A) (hx : Passes CX X E)
    (hno : PySem.W.subIn X.K (.ref C) (.type "NoneType") = some false) : OpR X (compareOp .Eq) (rNoneEq C sp E) := by
  intro pins s σ H x y v u Q I rx ry hq
  obtain ⟨a, dx, fs, rfl, rfl, ha, hsp⟩ := hq
  cases rx
  cases ry
  obtain ⟨mA, J, _⟩ := ins_get I.hok ha
  obtain ⟨od, J, _⟩ := J.look
  obtain ⟨m, hF⟩ := I.fr
  show wpAny (model X.prog X.w) X.A (richCompare .Eq .none (.ref a)) (EP X pins σ Q) X.xe s
  refine eq_none_K hr.units0 hF I.ok.mod.kin J hno hm.at_ hm.fn ?_
  have hl := F.len _ _ _ _ hsp
  have r2 : Vals [V.ref a, V.non] [Value.ref a, Value.none] := .cons rfl (.cons rfl .nil)
  refine wpAny_call (codeAny_mono (F.run X.A X.stack s H ⟨[.ref a, .none], []⟩ [.ref a, .none] [.ref a, .non] _ E hr I.env0 (by
    have := hb s [.ref a, .none] I.kIn (by simpa using hl)
    simpa using this) r2 hsp) fun r s' hq => ?_)
  cases r with
  | error e => exact hx pins σ H s e s' I hq
  | ok fl =>
    cases fl with
    | ret w =>
      obtain ⟨z, H', I', rz, b, ez, q⟩ := I.after hq
      subst ez
      cases rz
      exact ⟨.bl b, H', I', rfl, q⟩
    | next => exact False.elim hq
    | brk => exact False.elim hq
    | cont => exact False.elim hq
end

/-! ### x in xs, not in, where == of the items may run an own __eq__ -/
section
open PySem.AutoSeq1 in
open PySem.MeetsSeq in
theorem in_loopG {prog : Program} {w : World} {A : Around} {R : Result → Shared → Prop} (l : Addr) (x : Value) (N : Nat) (B : Nat → Bool) (I : Nat → Shared → Prop)
    (hl : ∀ i s, I i s → ∃ (items : Array Value) (n : Nat) (dd : Option Addr) (sl : Array (Option Value)), s.heap.get? l = some { cls := .type "list", dict := dd, data := .seq items n, slots := sl } ∧ items.size = N ∧
      ∀ h1 : i < items.size, wpAny (model prog w) A.in1 (eqBool items[i] x) (fun r s' => r = B i ∧ I (i + 1) s') (fun e s' => R (.error e) s') s)
    (hT : ∀ i s, i < N → B i = true → I (i + 1) s → R (.ok (.ret (.bool true))) s) (hF : (∀ j, j < N → B j = false) → ∀ s, I N s → R (.ok (.ret (.bool false))) s) (k : Nat) :
    ∀ i : Nat, N - i = k → i ≤ N → (∀ j, j < i → B j = false) → ∀ s, I i s →
      wpAny (model prog w) A.in1 (Builtin.«list.__contains__.loop» ⟨[.ref l, x, rawInt i], []⟩) (GQ.FinOf prog w A R) (fun e s' => R (.error e) s') s := by
  induction k with
  | zero =>
    intro i hk hi hno s h
    obtain ⟨items, n, dd, sl, hl1, hs1, _⟩ := hl _ _ h
    have hi' : i = N := by omega
    have hR : R (.ok (.ret (.bool false))) s := hF (fun j hj => hno j (by omega)) s (hi' ▸ h)
    obtain ⟨hp, g, d, tk, os⟩ := s
    wp_walk using wpAny_loadPart' hl1
    have hi1 : items[((i : Nat) : Int).toNat]? = none := by simp; omega
    rw [hi1]
    wp_walk
    exact hR
  | succ k ih =>
    intro i hk hi hno s h
    obtain ⟨items, n, dd, sl, hl1, hs1, turn⟩ := hl _ _ h
    have hlt : i < items.size := by omega
    have ht := turn hlt
    obtain ⟨hp, g, d, tk, os⟩ := s
    wp_walk using wpAny_loadPart' hl1
    have hi1 : items[((i : Nat) : Int).toNat]? = some items[i] := by simp [hlt]
    have hc : ((i : Int) + 1) = ((i + 1 : Nat) : Int) := by omega
    rw [hi1]
    refine wpAny_bind (wpAny_mono ht (fun r s2 h2 => ?_) fun _ _ x => x)
    obtain ⟨hr, h2⟩ := h2
    subst hr
    obtain ⟨hp2, g2, d2, tk2, os2⟩ := s2
    cases hb : B i with
    | true =>
      have hR := hT i _ (by omega) hb h2
      wp_walk
      exact hR
    | false =>
      have hrec := ih (i + 1) (by omega) (by omega) (fun j hj => by
        by_cases e : j = i
        · rw [e]; exact hb
        · exact hno j (by omega)) _ h2
      wp_walk
      rw [hc]
      exact ⟨plainId_quiet plain_contains_loop _, codeAny_builtin entry_contains_loop (by
        rw [Around.under_plainId plain_contains_loop _]
        exact hrec)⟩
end
section
variable {X : Cx} {n : Nat} {CX : CXT} {C f : Addr} {fd : FuncData} {ps : List Str} {sp : Sp} {E : XK} {A : Around} {pins : List (Addr × Obj)} {σ : L2.St} {H : Hp} {s : Shared}
theorem rcOwn (hm : Meth X.K C "__eq__" f) (F : FnOk X.prog X.w X.K X.mg X.base CX n f fd ps sp) (hb : Binds X.K fd ps []) (hx : Passes CX X E) (sb : Sub X n A) (I : Inv X pins σ H s) {a dx : Addr} {fs : List (Str × V)} {y : V} {u t : Value} {R : Bool → Hp → Prop}
    (ry : RelV y u) (ha : H a = some (.ins C dx fs)) (ty : TyX X.K H y t) (nf : PySem.W.notFirst X.K C t = true) (hsp : sp [.ref a, y] H (fun v H' => ∃ b, v = .bl b ∧ R b H') E) :
    wpAny (model X.prog X.w) A (richCompare .Eq (.ref a) u) (fun v s' => ∃ b H', v = .bool b ∧ Inv X pins σ H' s' ∧ R b H') X.xe s := by
  have lt := looks_ty I ry ty
  obtain ⟨mA, J, _⟩ := ins_get I.hok ha
  obtain ⟨od, J, _⟩ := J.look
  obtain ⟨m, hF⟩ := I.fr
  refine PySem.W.cmp_K (op := .Eq) sb.room.units0 hF I.ok.mod.kin J lt nf hm.at_ hm.fn ?_
  have hl := F.len _ _ _ _ hsp
  have e0 : Env0 X.prog X.w X.K X.mg X.base A X.stack s H := by
    have e := I.env0
    exact ⟨by rw [sb.fr]; exact e.frames, e.mod, e.bs, e.bsz, e.funs, e.frf, e.hok, e.bare⟩
  have r2 : Vals [V.ref a, y] [Value.ref a, u] := .cons rfl (.cons ry .nil)
  refine wpAny_call (codeAny_mono (F.run A X.stack s H ⟨[.ref a, u], []⟩ [.ref a, u] [.ref a, y] _ E sb.room e0 (by
    have := hb s [.ref a, u] I.kIn (by simpa using hl)
    simpa using this) r2 hsp) fun r s' hq => ?_)
  cases r with
  | error e => exact hx pins σ H s e s' I hq
  | ok fl =>
    cases fl with
    | ret w =>
      obtain ⟨z, H', I', rz, b, ez, q⟩ := I.after hq
      subst ez
      cases rz
      exact ⟨b, H', rfl, I', q⟩
    | next => exact False.elim hq
    | brk => exact False.elim hq
    | cont => exact False.elim hq
/-- None in a list of instances and None -/
def rNoneInO (K : PySem.W.Frag) (C : Addr) (sp : Sp) (E : XK) (neg : Bool) : R2 := fun x y H Q => ∃ l xs, x = .non ∧ y = .ref l ∧ SqL K H l xs ∧
  (∀ v ∈ xs, v = .non ∨ ∃ a dx fs, v = .ref a ∧ H a = some (.ins C dx fs) ∧ sp [v, .non] H (fun w H' => ∃ b, w = .bl b ∧ b = false ∧ H' = H) E) ∧ Q (.bl (if neg then !xs.any (fun v => decide (v = .non)) else xs.any (fun v => decide (v = .non)))) H
theorem inNone (hm : Meth X.K C "__eq__" f) (F : FnOk X.prog X.w X.K X.mg X.base CX n f fd ps sp) (hb : Binds X.K fd ps []) (hr : Room (n + 1) X.A) (hx : Passes CX X E) (hnf : PySem.W.notFirst X.K C (.type "NoneType") = true)
    (I : Inv X pins σ H s) {l : Addr} {xs : List V} {R : Result → Shared → Prop} (hl : SqL X.K H l xs)
    (hv : ∀ v ∈ xs, v = .non ∨ ∃ a dx fs, v = .ref a ∧ H a = some (.ins C dx fs) ∧ sp [v, .non] H (fun w H' => ∃ b, w = .bl b ∧ b = false ∧ H' = H) E)
    (hE : ∀ e s', X.xe e s' → R (.error e) s') (h : ∀ s', Inv X pins σ H s' → R (.ok (.ret (.bool (xs.any (fun v => decide (v = .non)))))) s') :
    wpAny (model X.prog X.w) X.A.in1 (Builtin.«list.__contains__» ⟨[.ref l, .none], []⟩) (GQ.FinOf X.prog X.w X.A R) (fun e s' => R (.error e) s') s := by
  have turn : ∀ i s, Inv X pins σ H s → ∃ (items : Array Value) (m : Nat) (dd : Option Addr) (sl : Array (Option Value)), s.heap.get? l = some { cls := .type "list", dict := dd, data := .seq items m, slots := sl } ∧ items.size = xs.length ∧
      ∀ h1 : i < items.size, wpAny (model X.prog X.w) X.A.in1 (eqBool items[i] .none) (fun r s' => r = decide (xs[i]? = some .non) ∧ Inv X pins σ H s') (fun e s' => R (.error e) s') s := by
    intro i s J
    obtain ⟨its, r, ⟨⟨oc, od, dt, sl⟩, m, e, hc, hd, hs⟩, z⟩ := J.list hl
    simp only at hc hd hs
    subst hc hd hs
    have hlen := r.length
    refine ⟨its.toArray, m, none, sl, e, by rw [List.size_toArray]; omega, fun h1 => ?_⟩
    have h1' : i < its.length := by simpa using h1
    have h2' : i < xs.length := by omega
    have hx' : xs[i]? = some xs[i] := List.getElem?_eq_getElem h2'
    obtain ⟨u, hu, ru⟩ := r.get hx'
    have eu : its.toArray[i] = u := by
      have : its[i]? = some its[i] := List.getElem?_eq_getElem h1'
      rw [this] at hu
      simpa using Option.some.inj hu
    rw [eu, hx']
    rcases hv _ (List.getElem_mem h2') with hn | ⟨a, dx, fs, hn, ha, hsp⟩
    · rw [hn] at ru ⊢
      cases ru
      exact SeqAt.EqAt.same (A := X.A.in1) (s := s) .none X.prog X.w _ _ ⟨(decide_eq_true rfl).symm, J⟩
    · rw [hn] at ru hsp ⊢
      cases ru
      unfold eqBool
      refine wpAny_holding ?_
      refine wpAny_ite_split (fun hab => by cases eq_of_beq hab) (fun _ => ?_)
      refine wpAny_bind (wpAny_mono (rcOwn (R := fun b H' => b = false ∧ H' = H) hm F hb hx ⟨hr.in1, rfl⟩ J (y := .non) (u := .none) rfl ha (.base .non) hnf hsp) (fun v s' hv => ?_) hE)
      obtain ⟨b, H', rfl, J', eb, eH⟩ := hv
      subst eb eH
      exact wpAny_truthy_bool ⟨(decide_eq_false (by intro z; cases z)).symm, J'⟩
  have hfin := in_loopG (prog := X.prog) (w := X.w) (A := X.A) (R := R) l .none xs.length (fun i => decide (xs[i]? = some .non)) (fun _ s => Inv X pins σ H s) turn ?_ ?_ _ 0 rfl (Nat.zero_le _) (fun j hj => by omega) s I
  · obtain ⟨items, m, dd, sl, hl1, _, _⟩ := turn 0 s I
    obtain ⟨hp, g, d, tk, os⟩ := s
    wp_walk using PySem.AutoSeq1.wpAny_loadPart' hl1
    exact ⟨plainId_quiet MeetsSeq.plain_contains_loop _, codeAny_builtin MeetsSeq.entry_contains_loop (by
      rw [Around.under_plainId MeetsSeq.plain_contains_loop _]
      exact hfin)⟩
  · intro i s' hi hB J
    have e : xs.any (fun v => decide (v = .non)) = true := by
      rw [List.any_eq_true]
      exact ⟨.non, List.mem_of_getElem? (of_decide_eq_true hB), decide_eq_true rfl⟩
    have := h s' J
    rwa [e] at this
  · intro hno s' J
    have e : xs.any (fun v => decide (v = .non)) = false := by
      rw [List.any_eq_false]
      intro v hv' hd
      obtain ⟨j, hj, ej⟩ := List.getElem_of_mem hv'
      have hB := of_decide_eq_false (hno j hj)
      exact hB (by rw [List.getElem?_eq_getElem hj, ej, of_decide_eq_true hd])
    have := h s' J
    rwa [e] at this
theorem op_noneInO (hm : Meth X.K C "__eq__" f) (F : FnOk X.prog X.w X.K X.mg X.base CX n f fd ps sp) (hb : Binds X.K fd ps []) (hr : Room (n + 1) X.A) (hx : Passes CX X E) (hnf : PySem.W.notFirst X.K C (.type "NoneType") = true) : OpR X (compareOp .In) (rNoneInO X.K C sp E false) := by
  intro pins s σ H x y v u Q I rx ry hq
  obtain ⟨l, xs, rfl, rfl, hl, hv, q⟩ := hq
  cases rx
  cases ry
  obtain ⟨its, r, ⟨o, m, e, hc, hd, hs⟩, z⟩ := I.list hl
  show wpAny _ X.A ((do return Value.bool (← contains (.ref l) .none)) : Sem Value) _ _ s
  refine wpAny_bind (wpAny_contains_slot ⟨o, e, hc⟩ PySem.F.slot_list_contains (wpAny_mono (GQ.call_here (Q := fun v s' => ∃ b, v = .bool b ∧ EP X pins σ Q (.bool b) s') PySem.F.slot_list_contains ⟨o, e, hc⟩ PySem.F.entry_list_contains (PySem.F.args_list_contains_2 _ _) ?_) (fun v s' hv => ?_) fun _ _ e => e))
  · exact inNone hm F hb hr hx hnf I hl hv (fun e s' z => z) fun s' J => ⟨_, rfl, .bl _, H, J, rfl, q⟩
  · obtain ⟨b, rfl, hq⟩ := hv
    exact wpAny_truthy_bool (wpAny_pure hq)
theorem op_noneNotInO (hm : Meth X.K C "__eq__" f) (F : FnOk X.prog X.w X.K X.mg X.base CX n f fd ps sp) (hb : Binds X.K fd ps []) (hr : Room (n + 1) X.A) (hx : Passes CX X E) (hnf : PySem.W.notFirst X.K C (.type "NoneType") = true) : OpR X (compareOp .NotIn) (rNoneInO X.K C sp E true) := by
  intro pins s σ H x y v u Q I rx ry hq
  obtain ⟨l, xs, rfl, rfl, hl, hv, q⟩ := hq
  cases rx
  cases ry
  obtain ⟨its, r, ⟨o, m, e, hc, hd, hs⟩, z⟩ := I.list hl
  show wpAny _ X.A ((do return Value.bool (!(← contains (.ref l) .none))) : Sem Value) _ _ s
  refine wpAny_bind (wpAny_contains_slot ⟨o, e, hc⟩ PySem.F.slot_list_contains (wpAny_mono (GQ.call_here (Q := fun v s' => ∃ b, v = .bool b ∧ EP X pins σ Q (.bool (!b)) s') PySem.F.slot_list_contains ⟨o, e, hc⟩ PySem.F.entry_list_contains (PySem.F.args_list_contains_2 _ _) ?_) (fun v s' hv => ?_) fun _ _ e => e))
  · exact inNone hm F hb hr hx hnf I hl hv (fun e s' z => z) fun s' J => ⟨_, rfl, .bl _, H, J, rfl, q⟩
  · obtain ⟨b, rfl, hq⟩ := hv
    exact wpAny_truthy_bool (wpAny_pure hq)
end

/-! ### range with a step of any size (Itc says lo, lo + c, .. n of them) -/
section
open PySem.Spec PyProof.Rows
theorem turn_longC {P : Program} {w : World} {K : PySem.W.Frag} {tg : Expr} (it : Addr) (lo c : Int) (n : Nat) : Turn P w K tg (Itc lo c n) [it] it (fun i h => IsLongIter h it (lo + (i : Nat) * c) ((n : Int) - (i : Nat)) c) where
  mem := by simp
  obj := fun i h st b hb => by
    have e : b = it := by simpa using hb
    subst e
    exact ⟨_, st, fun v z => nomatch z⟩
  keep := fun i h h' st k => k it (by simp) _ st
  item := by
    intro X hP hw hK hc i pins s σ H E I hf st hg
    subst hP hw hK
    obtain ⟨f0, f1, f2, f3, f4, f5⟩ := hf it (by simp)
    have W := Walks.longrange (prog := X.prog) (w := X.w) (I.ok.hd hc) it lo c n
    refine W.item i s _ _ hg st fun v h' tk hv st' kk => ?_
    obtain ⟨t, rfl⟩ := hv
    have I1 : Inv X pins σ H { s with heap := h', toks := tk } := I.turned (fun b o hb e => kk b o (by simpa using hb) e) f0 f1 f3 f4 f5
    exact ⟨_, rfl, go_of (s := { s with heap := h', toks := tk }) (n := "longrange_iterator") st' rfl rfl (by decide) ⟨.int (lo + (i : Nat) * c), H, I1, ⟨t, rfl⟩, ⟨rfl, rfl⟩, st', fun b hb => (hf b hb).1⟩⟩
  done := by
    intro X hP hw hK hc i pins s σ H E I hf st hg
    subst hP hw hK
    obtain ⟨f0, f1, f2, f3, f4, f5⟩ := hf it (by simp)
    exact wpAny_pyNext_long_end (I.ok.hd hc) st (by have : n ≤ i := hg; omega) fun h' eb => ⟨rfl, I.turned (t' := s.toks) (fun b o hb e => eb b o hb e) f0 f1 f3 f4 f5⟩
  self := fun A i s Q E st h => wpAny_pyIter_longiter st h
def iRngW (ta : TA) : TI := fun σ H R => ta σ H fun vs H1 => ∃ (i j c : Int) (n : Nat), vs = [.int i, .int j, .int c] ∧ 0 < c ∧ c.natAbs.log2 < 9000 ∧ Builtin.Range.rangeSize i j c = n ∧ R (Itc i c n) H1
variable {X : Cx} {tg : Expr}
theorem pi_range3W {a b c : Expr} {ta : TA} {p pos : Pos} (hg : Gl X "range") (hm : X.mg "range" = none) (ha : PA X [a, b, c] ta)
    (hs : starEach [a, b, c] X.env = (false, eval a X.env) :: starEach [b, c] X.env := by rfl) (hpl : (backTo pos (starEach [b, c] X.env)).any (·.1) = false := by rfl) :
    PI X tg (.Call (.Name "range" p) [a, b, c] [] pos) (iRngW ta) := by
  refine ⟨fun pins s σ H R I h => ?_⟩
  refine Call_ (ld_blt I hg hm boot_range (PyProof.Rows.callWith_type1 (thn (ha.run pos pins s σ H _ I h) fun us s1 ⟨vs, H1, I1, r1, q1⟩ => ?_) hs hpl))
  obtain ⟨i, j, k, n, e, c0, c1, c3, q⟩ := q1
  subst e
  cases r1 with
  | cons r rr =>
    cases rr with
    | cons r' rr =>
      cases rr with
      | cons r'' rr =>
        cases rr
        obtain ⟨t, rfl⟩ := r
        obtain ⟨t', rfl⟩ := r'
        obtain ⟨t'', rfl⟩ := r''
        refine call_range_3 (by omega) ?_ (.inl (PyProof.noPylong_of_log2 c1))
        have I2 : Inv X pins σ H1 { s1 with heap := s1.heap.push { cls := .type "range", data := .fields #[.int i t, .int j t', .int k t''] } } := I1.kept (t' := s1.toks) fun b o e => Heap.get?_push_of_some _ e
        have e1 : i + ((0 : Nat) : Int) * k = i := by simp
        have e2 : (n : Int) - ((0 : Nat) : Int) = Builtin.Range.rangeSize i j k := by rw [c3]; simp
        cases c2 : Builtin.Range.small i j k with
        | true =>
          refine wpAny_pyIter_range (IsRange.new ..) c2 ?_
          refine pi_one (tk := s1.toks) I2 _ (turn_rangeC _ i k n) ?_ q
          show IsRangeIter _ _ (i + ((0 : Nat) : Int) * k) ((n : Int) - ((0 : Nat) : Int)) k
          rw [e1, e2]
          exact Heap.get?_push_size _ rfl
        | false =>
          refine wpAny_pyIter_longrange (IsRange.new ..) c2 ?_
          refine pi_one (tk := s1.toks) I2 _ (turn_longC _ i k n) ?_ q
          show IsLongIter _ _ (i + ((0 : Nat) : Int) * k) ((n : Int) - ((0 : Nat) : Int)) k
          rw [e1, e2]
          exact Heap.get?_push_size _ rfl
end
section
open PySem.Spec PyProof.Rows
variable {X : Cx} {tg : Expr}
def iRngW2 (ta : TA) : TI := fun σ H R => ta σ H fun vs H1 => ∃ i j : Int, vs = [.int i, .int j] ∧ R (Itc i 1 (j - i).toNat) H1
theorem pi_range2W {a b : Expr} {ta : TA} {p pos : Pos} (hg : Gl X "range") (hm : X.mg "range" = none) (ha : PA X [a, b] ta) (hs : starEach [a, b] X.env = [(false, eval a X.env), (false, eval b X.env)] := by rfl) (hs2 : starEach [b] X.env = [(false, eval b X.env)] := by rfl) :
    PI X tg (.Call (.Name "range" p) [a, b] [] pos) (iRngW2 ta) := by
  refine ⟨fun pins s σ H R I h => ?_⟩
  refine Call_ (ld_blt I hg hm boot_range (PyProof.Rows.callWith_type1 (thn (ha.run pos pins s σ H _ I h) fun us s1 ⟨vs, H1, I1, r1, q1⟩ => ?_) (by rw [hs, hs2]) (by rw [hs2]; rfl)))
  obtain ⟨i, j, e, q⟩ := q1
  subst e
  cases r1 with
  | cons r rr =>
    cases rr with
    | cons r' rr =>
      cases rr
      obtain ⟨t, rfl⟩ := r
      obtain ⟨t', rfl⟩ := r'
      refine call_range_2 ?_
      have I2 : Inv X pins σ H1 { s1 with heap := s1.heap.push { cls := .type "range", data := .fields #[.int i t, .int j t', .int 1 s1.toks] }, toks := s1.toks + 1 } := I1.kept (t' := s1.toks + 1) fun b o e => Heap.get?_push_of_some _ e
      have c3 : Builtin.Range.rangeSize i j 1 = ((j - i).toNat : Int) := rangeSize_nat i j
      have e1 : i + ((0 : Nat) : Int) * 1 = i := by simp
      have e2 : (((j - i).toNat : Nat) : Int) - ((0 : Nat) : Int) = Builtin.Range.rangeSize i j 1 := by rw [c3]; simp
      cases c2 : Builtin.Range.small i j 1 with
      | true =>
        refine wpAny_pyIter_range (IsRange.new ..) c2 ?_
        refine pi_one (tk := s1.toks + 1) I2 _ (turn_rangeC _ i 1 (j - i).toNat) ?_ q
        show IsRangeIter _ _ (i + ((0 : Nat) : Int) * 1) ((((j - i).toNat : Nat) : Int) - ((0 : Nat) : Int)) 1
        rw [e1, e2]
        exact Heap.get?_push_size _ rfl
      | false =>
        refine wpAny_pyIter_longrange (IsRange.new ..) c2 ?_
        refine pi_one (tk := s1.toks + 1) I2 _ (turn_longC _ i 1 (j - i).toNat) ?_ q
        show IsLongIter _ _ (i + ((0 : Nat) : Int) * 1) ((((j - i).toNat : Nat) : Int) - ((0 : Nat) : Int)) 1
        rw [e1, e2]
        exact Heap.get?_push_size _ rfl
end

/-! ### list(enumerate(xs)): a list of new pairs -/
section
open PySem.W PySem.Calls PyProof.Rows PySem.Spec
def enuL {α : Type} : Nat → List α → List (Key × α)
  | _, [] => []
  | i, x :: xs => (.inl (i : Nat), x) :: enuL (i + 1) xs
theorem enuL_len {α : Type} : ∀ (xs : List α) (i : Nat), (enuL i xs).length = xs.length
  | [], _ => rfl
  | _ :: xs, i => congrArg (· + 1) (enuL_len xs (i + 1))
theorem enuL_get {α : Type} : ∀ (xs : List α) (i j : Nat) (x : α), xs[j]? = some x → (enuL i xs)[j]? = some (.inl ((i + j : Nat) : Int), x)
  | [], _, _, _, h => by cases h
  | y :: ys, i, 0, x, h => by cases h; rfl
  | y :: ys, i, j + 1, x, h => by
    have := enuL_get ys (i + 1) j x h
    rw [show i + (j + 1) = i + 1 + j by omega]
    exact this
theorem enuL_kv : ∀ {xs : List V} {us : List Value} (i : Nat), Vals xs us → KV (enuL i xs) (enuL i us)
  | [], [], _, _ => .nil
  | [], _ :: _, _, h => nomatch h
  | _ :: _, [], _, h => nomatch h
  | _ :: _, _ :: _, i, .cons r rr => .cons ⟨rfl, r⟩ (enuL_kv (i + 1) rr)
/-- the enumerate object at e while S is being filled: nothing given out yet, or the first pair is held -/
def EnuSt (h : Heap) (e it l S : Addr) (items : Array Value) (i : Nat) : Prop :=
  h.IsListIter it l i ∧ h.IsList l items ∧ ((∃ old, IsEnum h e it i old) ∨ ∃ old T f oT, IsEnumHeld h e it i old T f ∧ h.get? T = some oT ∧ T ≠ e ∧ T ≠ it ∧ T ≠ S)
variable {prog : Program} {w : World} {A : Around} {E : Value → Shared → Prop} {s : Shared} {R : Result → Shared → Prop} {e it l S : Addr} {items : Array Value}
theorem EnuSt.keep {h h' : Heap} {i : Nat} (x : EnuSt h e it l S items i) (hk : ∀ b o, b ≠ S → h.get? b = some o → h'.get? b = some o) (he : e ≠ S) (hi : it ≠ S) (hl : l ≠ S) : EnuSt h' e it l S items i := by
  obtain ⟨a, b, c⟩ := x
  refine ⟨a.at fun o q => hk _ o hi q, b.at fun o q => hk _ o hl q, ?_⟩
  rcases c with ⟨old, c⟩ | ⟨old, T, f, oT, c, hT, r1, r2, r3⟩
  · exact .inl ⟨old, hk _ _ he c⟩
  · exact .inr ⟨old, T, f, oT, hk _ _ he c, hk _ _ r3 hT, r1, r2, r3⟩
theorem enu_next {i : Nat} {x : Value} {Q : Option Value → Shared → Prop} (hei : e ≠ it) (hle : l ≠ e) (hli : l ≠ it) (st : EnuSt s.heap e it l S items i) (hS : S < s.heap.objs.size) (hx : items[i]? = some x)
    (hQ : ∀ h', EnuSt h' e it l S items (i + 1) → h'.get? s.heap.objs.size = some { cls := .type "tuple", data := .seq #[.int i s.toks, x] } → h'.objs.size = s.heap.objs.size + 1 →
      (∀ b o, b ≠ e → b ≠ it → s.heap.get? b = some o → h'.get? b = some o) → Q (some (.ref s.heap.objs.size)) { s with heap := h', toks := s.toks + 1 }) :
    wpAny (model prog w) A (pyNext (.ref e)) Q E s := by
  obtain ⟨hit, hl, he⟩ := st
  have ec : ((i + 1 : Nat) : Int) = (i : Int) + 1 := by omega
  have nit : s.heap.objs.size ≠ it := let ⟨_, x, _⟩ := hit; Nat.ne_of_gt (Heap.lt_size x)
  rcases he with ⟨old, he⟩ | ⟨old, T, f, oT, he, hT, r1, r2, r3⟩
  · refine wpAny_pyNext_enum_item he hit hl hx hei fun h' ho hit' hT hsz hk => ?_
    exact hQ h' ⟨hit', hl.at fun o x => hk l o hle hli x, .inr ⟨_, s.heap.objs.size, false, _, (by rw [ec]; exact ho), hT, Nat.ne_of_gt (Heap.lt_size he), nit, Nat.ne_of_gt hS⟩⟩ hT hsz hk
  · refine wpAny_pyNext_enum_item_held he hT r1 r2 hit hl hx hei fun h' ho hit' hT' hsz hk => ?_
    exact hQ h' ⟨hit', hl.at fun o x => hk l o hle hli x, .inr ⟨old, T, true, oT, (by rw [ec]; exact ho), hk _ _ r1 r2 hT, r1, r2, r3⟩⟩ hT' hsz hk
theorem enu_stop {Q : Option Value → Shared → Prop} (hh : A.handled = none) (st : EnuSt s.heap e it l S items items.size) (hQ : ∀ h', Heap.ExtBut it s.heap h' → Q none { s with heap := h' }) :
    wpAny (model prog w) A (pyNext (.ref e)) Q E s := by
  obtain ⟨hit, hl, he⟩ := st
  have hx : items[items.size]? = none := Array.getElem?_eq_none (Nat.le_refl _)
  rcases he with ⟨old, he⟩ | ⟨old, T, f, oT, he, hT, r1, r2, r3⟩
  · exact wpAny_pyNext_enum_end hh he hit hl hx hQ
  · exact wpAny_pyNext_enum_end_held hh he hit hl hx hQ
theorem enu_loop (hh : A.handled = none) (heS : e < S) (hiS : it < S) (hlS : l ≠ S) (hle : l ≠ e) (hli : l ≠ it) (hei : e ≠ it) (hn : items.size ≤ sizeLine) (res : Value) {h₁ : Heap}
    (hR : ∀ h' tk acc c as, (∀ b o, b ≠ S → b ≠ e → b ≠ it → h₁.get? b = some o → h'.get? b = some o) → h'.get? S = some { cls := .type "list", dict := none, data := .seq acc c, slots := #[] } → as.length = items.size →
      KdxG (mixKind prog w) (enuL 0 items.toList) S h' as → acc.toList = as.map Value.ref → R (.ok (.ret res)) { s with heap := h', toks := tk }) :
    ∀ (k i : Nat) (h : Heap) (tk c : Nat) (acc : Array Value) (as : List Addr), items.size - i = k → i ≤ items.size → EnuSt h e it l S items i → (∀ b o, b ≠ S → b ≠ e → b ≠ it → h₁.get? b = some o → h.get? b = some o) →
      h.get? S = some { cls := .type "list", dict := none, data := .seq acc c, slots := #[] } → acc.toList = as.map Value.ref → as.length = i → KdxG (mixKind prog w) (enuL 0 items.toList) S h as →
      codeAny (model prog w) A (.builtin "list.extend.loop" ⟨[.ref S, .ref e, res], []⟩) R { s with heap := h, toks := tk } := by
  have neS : S ≠ e := Nat.ne_of_gt heS
  have niS : S ≠ it := Nat.ne_of_gt hiS
  intro k
  induction k with
  | zero =>
    intro i h tk c acc as hk hi hst hkeep hS hacc hal hG
    have hin : i = items.size := by omega
    subst hin
    refine codeAny_builtin PySem.F.entry_extend_loop ?_
    rw [Around.under_plainId PySem.F.plain_extend_loop _]
    show wpAny _ A.in1 (pyNext (.ref e) >>= _) _ _ _
    refine wpAny_bind (enu_stop (s := { s with heap := h, toks := tk }) (A := A.in1) hh hst fun h' he => ?_)
    refine wpAny_pure (hR h' tk acc c as (fun b o h1 h2 h3 q => he b o h3 (hkeep b o h1 h2 h3 q)) (he S _ niS hS) (by omega) ⟨hG.rise, hG.above, fun j a hj => ?_⟩ hacc)
    obtain ⟨key, kk, x, e1, e2, e3⟩ := hG.pairs j a hj
    have := hG.above a (List.mem_of_getElem? hj)
    exact ⟨key, kk, x, e1, e2, he a _ (Nat.ne_of_gt (Nat.lt_trans hiS this)) e3⟩
  | succ k ih =>
    intro i h tk c acc as hk hi hst hkeep hS hacc hal hG
    have hlt : i < items.size := by omega
    have hx : items[i]? = some items[i] := Array.getElem?_eq_getElem hlt
    have hsz : acc.size = i := by rw [← Array.length_toList, hacc, List.length_map, hal]
    have hSl : S < h.objs.size := Heap.lt_size hS
    refine codeAny_builtin PySem.F.entry_extend_loop ?_
    rw [Around.under_plainId PySem.F.plain_extend_loop _]
    show wpAny _ A.in1 (pyNext (.ref e) >>= _) _ _ _
    refine wpAny_bind (enu_next (s := { s with heap := h, toks := tk }) hei hle hli hst hSl hx fun h' hst' ht hz hkp => ?_)
    dsimp only at ht hz hkp ⊢
    have hS' := hkp S _ neS niS hS
    have up : ∀ b o, b ≠ S → h'.get? b = some o → (h'.update S (Obj.mapSeq (·.push (Value.ref h.objs.size)))).get? b = some o := fun b o hb q => (Heap.get?_update_other _ _ (Ne.symm hb)).trans q
    show wpAny _ A.in1 (updateSeq S (·.push (Value.ref h.objs.size)) >>= _) _ _ _
    refine wpAny_bind ?_
    refine wpAny_updateSeq hS' rfl (wpAny_pure ⟨plainId_quiet PySem.F.plain_extend_loop _, ih (i + 1) _ (tk + 1) _ (acc.push (Value.ref h.objs.size)) (as ++ [h.objs.size]) (by omega) hlt (hst'.keep up (Ne.symm neS) (Ne.symm niS) hlS)
      (fun b o h1 h2 h3 q => up b o h1 (hkp b o h2 h3 (hkeep b o h1 h2 h3 q))) (Heap.get?_update_self _ hS' rfl) (by rw [Array.toList_push, hacc, List.map_append]; rfl) (by rw [List.length_append, hal]; rfl) ⟨?_, ?_, ?_⟩⟩) (by rw [hsz]; omega) (by show (acc.push (Value.ref h.objs.size)).size ≤ sizeLine + 1; rw [Array.size_push, hsz]; omega)
    · refine List.pairwise_append.mpr ⟨hG.rise, List.pairwise_singleton _ _, fun a ha b hb => ?_⟩
      rw [List.mem_singleton.mp hb]
      exact hG.there ha
    · intro a ha
      rcases List.mem_append.mp ha with ha | ha
      · exact hG.above a ha
      · rw [List.mem_singleton.mp ha]; exact hSl
    · intro j b hj
      rcases Nat.lt_trichotomy j as.length with h1 | h1 | h1
      · rw [List.getElem?_append_left h1] at hj
        obtain ⟨key', k', x', e1, e2, e3⟩ := hG.pairs j b hj
        have hb := hG.above b (List.mem_of_getElem? hj)
        exact ⟨key', k', x', e1, e2, up b _ (Nat.ne_of_gt hb) (hkp b _ (Nat.ne_of_gt (Nat.lt_trans heS hb)) (Nat.ne_of_gt (Nat.lt_trans hiS hb)) e3)⟩
      · subst h1
        have hb : h.objs.size = b := by simpa using hj
        subst hb
        have g := enuL_get items.toList 0 as.length items[i] (by rw [hal, Array.getElem?_toList]; exact hx)
        rw [Nat.zero_add] at g
        refine ⟨.int i tk, _, _, g, ?_, up _ _ (Nat.ne_of_gt hSl) ht⟩
        rw [hal]
        exact mixKind_int prog w _ _
      · have hnone : (as ++ [h.objs.size])[j]? = none := List.getElem?_eq_none (by rw [List.length_append, List.length_singleton]; omega)
        rw [hnone] at hj; cases hj
theorem enum_no_len : typeLookup (.type "enumerate") "__len__" = pure none := am_miss_of_fast (by decide +kernel)
theorem enum_no_hint : typeLookup (.type "enumerate") "__length_hint__" = pure none := am_miss_of_fast (by decide +kernel)
theorem enu_hint (hT : s.TypeIs (.ref e) "enumerate") {Q : Bool → Shared → Prop} (h : Q true s) : wpAny (model prog w) A (Builtin.List.listLengthHint (.ref e)) Q E s := by
  unfold Builtin.List.listLengthHint
  refine wpAny_bind (wpAny_specialOf hT enum_no_len ?_)
  refine wpAny_ite_split (fun hab => absurd hab (by decide)) (fun _ => ?_)
  refine wpAny_ite_split (fun hab => absurd hab (by decide)) (fun _ => ?_)
  refine wpAny_bind (wpAny_specialOf hT enum_no_hint ?_)
  exact wpAny_pure h
theorem enu_extend {old : Value} (hh : A.handled = none) (he : IsEnum s.heap e it 0 old) (hit : s.heap.IsListIter it l 0) (hl : s.heap.IsList l items) (heS : e < S) (hiS : it < S) (hlS : l ≠ S) (hle : l ≠ e) (hli : l ≠ it) (hei : e ≠ it) (hn : items.size ≤ sizeLine) (res : Value) (c₀ : Nat)
    (hS : s.heap.get? S = some { cls := .type "list", data := .seq #[] c₀ })
    (hR : ∀ h' tk acc c as, (∀ b o, b ≠ S → b ≠ e → b ≠ it → s.heap.get? b = some o → h'.get? b = some o) → h'.get? S = some { cls := .type "list", dict := none, data := .seq acc c, slots := #[] } → as.length = items.size →
      KdxG (mixKind prog w) (enuL 0 items.toList) S h' as → acc.toList = as.map Value.ref → R (.ok (.ret res)) { s with heap := h', toks := tk }) :
    wpAny (model prog w) A.in1 (Builtin.List.listExtendWith (.ref S) (.ref e) res)
      (fun fin s' => match fin with | .done f => R (.ok f) s' | .again c' => c'.quiet = true ∧ codeAny (model prog w) A c' R s') (fun e s' => R (.error e) s') s := by
  have hSe : S ≠ e := Nat.ne_of_gt heS
  have key : ∀ (h : Heap) (c₁ tk : Nat), (∀ b o, b ≠ S → s.heap.get? b = some o → h.get? b = some o) → h.get? S = some { cls := .type "list", data := .seq #[] c₁ } →
      codeAny (model prog w) A (.builtin "list.extend.loop" ⟨[.ref S, .ref e, res], []⟩) R { s with heap := h, toks := tk } := by
    intro h c₁ tk hk hS₁
    have st : EnuSt h e it l S items 0 := EnuSt.keep (h := s.heap) ⟨hit, hl, .inl ⟨old, he⟩⟩ hk (Ne.symm hSe) (Nat.ne_of_lt hiS) hlS
    exact enu_loop (s := s) (h₁ := s.heap) hh heS hiS hlS hle hli hei hn res hR items.size 0 h tk c₁ #[] [] (Nat.sub_zero _) (Nat.zero_le _) st (fun b o h1 _ _ q => hk b o h1 q) hS₁ rfl rfl
      ⟨List.Pairwise.nil, (fun _ ha => nomatch ha), (fun j a hj => by simp at hj)⟩
  have hT : s.TypeIs (.ref e) "enumerate" := ⟨_, he, rfl⟩
  unfold Builtin.List.listExtendWith
  refine wpAny_bind (wpAny_typeOf hT ?_)
  have h1 : Builtin.List.listSameRef (.ref S) (.ref e) = false := by simp [Builtin.List.listSameRef, hSe]
  have h2 : (Value.type "enumerate" == Value.type "list") = false := by decide
  have h3 : (Value.type "enumerate" == Value.type "tuple") = false := by decide
  simp only [h1, h2, h3, Bool.or_false, Bool.false_eq_true, if_false]
  refine wpAny_bind (wpAny_pyIter_enum he ?_)
  refine wpAny_bind (wpAny_holding (enu_hint hT ?_))
  refine wpAny_ite_split (fun _ => ?_) (fun hab => absurd rfl hab)
  refine wpAny_bind (wpAny_rule ?_)
  refine wpAny_bind ?_
  show wpAny _ _ (updateSeq S (·.push .none) >>= fun _ => updateSeq S (·.pop)) _ _ _
  refine wpAny_bind (wpAny_updateSeq hS rfl ?_)
  have hS₂ := Heap.get?_update_self (Obj.mapSeq (·.push Value.none)) hS rfl
  refine wpAny_updateSeq (hz := by seq_fits) hS₂ rfl ?_
  have hS₃ := Heap.get?_update_self (Obj.mapSeq (·.pop)) hS₂ rfl
  refine wpAny_pure ⟨plainId_quiet PySem.F.plain_extend_loop _, key _ _ _ (fun b o hb q => ?_) hS₃⟩
  exact (Heap.get?_update_other _ _ (Ne.symm hb)).trans ((Heap.get?_update_other _ _ (Ne.symm hb)).trans q)
theorem enu_call {Q : Value → Shared → Prop} {old : Value} (hh : A.handled = none) (he : IsEnum s.heap e it 0 old) (hit : s.heap.IsListIter it l 0) (hl : s.heap.IsList l items) (hle : l ≠ e) (hli : l ≠ it) (hei : e ≠ it) (hn : items.size ≤ sizeLine)
    (hQ : ∀ h' tk acc c as, (∀ b o, b ≠ e → b ≠ it → s.heap.get? b = some o → h'.get? b = some o) → h'.get? s.heap.objs.size = some { cls := .type "list", dict := none, data := .seq acc c, slots := #[] } → as.length = items.size →
      KdxG (mixKind prog w) (enuL 0 items.toList) s.heap.objs.size h' as → acc.toList = as.map Value.ref → Q (.ref s.heap.objs.size) { s with heap := h', toks := tk }) :
    wpAny (model prog w) A (call (.type "list") [.ref e]) Q E s := by
  refine callType_codes (Q₁ := fun obj s₁ => obj = .ref s.heap.objs.size ∧ s₁ = { s with heap := s.heap.push { cls := .type "list", data := .seq #[] } }) PySem.F.called_list (PySem.F.typeCall_list_1 _) PySem.F.entry_list_init
    (code_list_new _ ⟨rfl, rfl⟩) fun obj s₁ h₁ => ?_
  obtain ⟨rfl, rfl⟩ := h₁
  have hS : (s.heap.push { cls := .type "list", data := .seq #[] }).get? s.heap.objs.size = some { cls := .type "list", data := .seq #[] } := Heap.get?_push_size _ rfl
  have heS : e < s.heap.objs.size := Heap.lt_size he
  have hiS : it < s.heap.objs.size := let ⟨_, q, _⟩ := hit; Heap.lt_size q
  have hlS : l < s.heap.objs.size := let ⟨_, q, _⟩ := hl; Heap.lt_size q
  have oth : ∀ b o, b ≠ s.heap.objs.size → (s.heap.push { cls := .type "list", data := .seq #[] }).get? b = some o →
      ((s.heap.push { cls := .type "list", data := .seq #[] }).update s.heap.objs.size (Obj.mapSeq (fun _ => (#[] : Array Value)))).get? b = some o :=
    fun b o hb q => (Heap.get?_update_other _ _ (Ne.symm hb)).trans q
  have up : ∀ b o, s.heap.get? b = some o → ((s.heap.push { cls := .type "list", data := .seq #[] }).update s.heap.objs.size (Obj.mapSeq (fun _ => (#[] : Array Value)))).get? b = some o :=
    fun b o q => oth b o (Nat.ne_of_lt (Heap.lt_size q)) (Heap.get?_push_of_some _ q)
  refine ⟨⟨_, hS, rfl⟩, PySem.F.args_list_init_2 _ _, ?_⟩
  show wpAny _ _ (do let old ← Builtin.List.listItems (.ref s.heap.objs.size); Builtin.List.listUpdate (.ref s.heap.objs.size) (fun _ => #[]); letGo old.toList.reverse; Builtin.List.listExtendWith (.ref s.heap.objs.size) (.ref e) .none) _ _ _
  refine wpAny_bind ?_
  unfold Builtin.List.listItems
  refine wpAny_bind (wpAny_seqItems hS rfl (wpAny_pure ?_))
  show wpAny _ _ (updateSeq s.heap.objs.size (fun _ => #[]) >>= fun _ => letGo (#[] : Array Value).toList.reverse >>= fun _ => Builtin.List.listExtendWith (.ref s.heap.objs.size) (.ref e) .none) _ _ _
  refine wpAny_bind (wpAny_updateSeq hS rfl ?_)
  have hS₂ := Heap.get?_update_self (Obj.mapSeq (fun _ => (#[] : Array Value))) hS rfl
  refine wpAny_bind (wpAny_letGo ?_)
  refine enu_extend (A := A.in1) (old := old) (it := it) (l := l) (items := items) hh (up _ _ he) (hit.at fun o q => up _ o q) (hl.at fun o q => up _ o q) heS hiS (Nat.ne_of_lt hlS) hle hli hei hn .none _ hS₂ fun h' tk acc c as hk hS' hal hG hacc => ?_
  exact ⟨rfl, hQ h' tk acc c as (fun b o h1 h2 q => hk b o (Nat.ne_of_lt (Heap.lt_size q)) h1 h2 (up b o q)) hS' hal hG hacc⟩
end
section
open PySem.W PySem.Calls PyProof.Rows PySem.Spec LiI
variable {X : Cx} {e : Expr} {te : TE} {p q pos pos2 : Pos}
theorem enu_laid {pins : List (Addr × Obj)} {σ : L2.St} {H : Hp} {s : Shared} {h' : Heap} {tk : Nat} {S : Addr} {kvs : List (Key × V)} {vs : List (Key × Value)} {acc : Array Value} {c : Nat} {as : List Addr} (I : Inv X pins σ H s) (hz : kvs.length ≤ sizeLine) (kv : KV kvs vs)
    (hk : ∀ b o, s.heap.get? b = some o → h'.get? b = some o) (lo : s.heap.objs.size ≤ S) (hS : h'.get? S = some { cls := .type "list", dict := none, data := .seq acc c, slots := #[] }) (hl : as.length = vs.length) (hG : KdxG (mixKind X.prog X.w) vs S h' as) (hacc : acc.toList = as.map Value.ref) :
    ∃ H' : Hp, (∀ b o, H b = some o → H' b = some o) ∧ H S = none ∧ (∀ t ∈ as, H t = none) ∧ S ∉ as ∧ as.Nodup ∧ H' S = some (.lst (as.map V.ref)) ∧ Paired (fun (t : Addr) (q : Key × V) => H' t = some (.tup [kV q.1, q.2])) as kvs ∧ Inv X pins σ H' { s with heap := h', toks := tk } := by
  have lk : kvs.length = vs.length := Paired.length kv
  have hSn : S ∉ as := fun z => Nat.lt_irrefl _ (hG.above _ z)
  have nd : as.Nodup := List.Pairwise.imp (fun {a b} (h : a < b) => Nat.ne_of_lt h) hG.rise
  have ab : ∀ t ∈ as, s.heap.objs.size < t := fun t ht => Nat.lt_of_le_of_lt lo (hG.above t ht)
  have new : ∀ t ∈ as, H t = none := fun t ht => I.hok.fresh (Nat.le_of_lt (ab t ht))
  have newS : H S = none := I.hok.fresh lo
  have atP := putT_at as kvs (upd H S (.lst (as.map V.ref))) (by omega) nd
  have off : ∀ b, b ∉ as → b ≠ S → putT (upd H S (.lst (as.map V.ref))) as kvs b = H b := fun b h1 h2 => by rw [putT_off as kvs _ h1, upd_ne h2]
  have low : ∀ b o, s.heap.get? b = some o → b ∉ as ∧ b ≠ S := fun b o e => ⟨fun z => absurd (Heap.lt_size e) (Nat.not_lt.mpr (Nat.le_of_lt (ab b z))), Nat.ne_of_lt (Nat.lt_of_lt_of_le (Heap.lt_size e) lo)⟩
  have kp : ∀ b u, H b = some u → (putT (upd H S (.lst (as.map V.ref))) as kvs) b = some u := fun b u e => by
    rw [off b (fun z => by rw [new b z] at e; cases e) (fun z => by rw [z, newS] at e; cases e)]
    exact e
  have eS : putT (upd H S (.lst (as.map V.ref))) as kvs S = some (.lst (as.map V.ref)) := by rw [putT_off as kvs _ hSn, upd_same]
  refine ⟨putT (upd H S (.lst (as.map V.ref))) as kvs, kp, newS, new, hSn, nd, eS, atP, ?_⟩
  refine I.call' (ch := []) rfl ⟨fun b o q _ _ _ => hk b o q, fun b o q _ _ _ => ⟨o.slots, hk b o q⟩, fun b o q n _ => ?_, fun b o q _ => ⟨o, hk b o q⟩, fun b xs q => kp b _ q, fun b o u q => kp b _ q, fun b ps q => ⟨#[], by rw [kp b _ q]; simp⟩⟩ (fun b u q => ?_) I.bare fun b z => by simp at z
  · obtain ⟨z1, z2⟩ := low b o q
    rw [off b z1 z2]
    exact n
  · by_cases hb : b ∈ as
    · obtain ⟨j, pk, e1, e2, e3⟩ := paired_ix atP hb
      rw [e3] at q
      cases q
      obtain ⟨key, k, x, f1, f2, f3⟩ := hG.pairs j b e1
      obtain ⟨qv, g1, g2, g3⟩ := LiI.paired_get kv e2
      rw [f1] at g1
      cases g1
      have rk : RelV (kV pk.1) key := by
        rw [g2]
        exact relV_key (show keyIs k key = true from f2)
      exact ⟨by show 2 ≤ sizeLine; decide, [key, x], .cons rk (.cons g3 .nil), ⟨_, f3, rfl, _, rfl⟩⟩
    · by_cases hb2 : b = S
      · rw [hb2] at q ⊢
        rw [eS] at q
        cases q
        refine ⟨by rw [List.length_map]; omega, acc.toList, c, by rw [hacc]; exact LiI.vals_refs as, ?_⟩
        rw [Array.toArray_toList]
        exact hS
      · rw [off b hb hb2] at q
        exact (I.hok b u q).stay (fun d v _ y => hk d v y) (fun d y => kp d _ y) fun d xs y => kp d _ y
/-- list(enumerate(e)) -/
def tLstEnu (K : PySem.W.Frag) (te : TE) : TE := fun σ H Q => te σ H fun x H1 => ∃ (l : Addr) (xs : List V), x = .ref l ∧ SqL K H1 l xs ∧
  ∀ (H' : Hp) (r : Addr) (ts : List Addr), (∀ b o, H1 b = some o → H' b = some o) → H1 r = none → (∀ t ∈ ts, H1 t = none) → r ∉ ts → ts.Nodup → H' r = some (.lst (ts.map V.ref)) → Paired (fun (t : Addr) (q : Key × V) => H' t = some (.tup [kV q.1, q.2])) ts (enuL 0 xs) → Q (.ref r) H'
theorem pe_listEnu (hc : X.calm = true) (he : PE X e te) (hg : Gl X "list") (hm : X.mg "list" = none) (hg2 : Gl X "enumerate") (hm2 : X.mg "enumerate" = none)
    (hs2 : starEach [e] X.env = [(false, eval e X.env)] := by rfl)
    (hs : starEach [.Call (.Name "enumerate" q) [e] [] pos2] X.env = (false, eval (.Call (.Name "enumerate" q) [e] [] pos2) X.env) :: starEach [] X.env := by rfl) :
    PE X (.Call (.Name "list" p) [.Call (.Name "enumerate" q) [e] [] pos2] [] pos) (tLstEnu X.K te) := by
  refine ⟨fun pins s σ H Q I h => ?_⟩
  refine Call_ (ld_blt I hg hm boot_list (PyProof.Rows.callWith_type1 ?_ hs rfl))
  rw [hs]
  show wpAny _ _ (spliced ((false, eval (.Call (.Name "enumerate" q) [e] [] pos2) X.env) :: backTo pos (starEach [] X.env))) _ _ s
  refine Calls.spliced_cons ?_
  refine Call_ (ld_blt I hg2 hm2 boot_enumerate (PyProof.Rows.callWith_type1 ?_ hs2 rfl))
  rw [hs2]
  show wpAny _ _ (spliced ((false, eval e X.env) :: backTo pos2 [])) _ _ s
  refine Calls.spliced_cons (thn (he.run pins s σ H _ I h) fun u s1 ⟨x, H1, I1, rx, l, xs, ex, hl, q1⟩ => ?_)
  refine Calls.spliced_nil ?_
  subst ex
  obtain rfl : u = Value.ref l := rx
  obtain ⟨its, rv, p', hz⟩ := I1.list hl
  refine call_enumerate_list p'.isList fun h2 he2 hit2 hsz2 hk2 => ?_
  refine Calls.spliced_nil ?_
  have hll : l < s1.heap.objs.size := let ⟨_, q, _⟩ := p'.isList; Heap.lt_size q
  have hlen := rv.length
  refine enu_call (A := X.A) (s := { s1 with heap := h2 }) (it := s1.heap.objs.size) (l := l) (items := its.toArray) (I1.ok.hd hc) he2 hit2 (p'.isList.at fun o q => hk2 _ o q) (Nat.ne_of_lt (Nat.lt_succ_of_lt hll)) (Nat.ne_of_lt hll) (Nat.succ_ne_self _) (by rw [List.size_toArray]; omega) fun h' tk acc c as hk hS hal hG hacc => ?_
  dsimp only at hk hS hG ⊢
  rw [hsz2] at hS hG ⊢
  have kv := enuL_kv 0 rv
  obtain ⟨H', k1, k2, k3, k4, k5, k6, k7, J⟩ := enu_laid (tk := tk) (kvs := enuL 0 xs) (vs := enuL 0 its) I1 (by rw [enuL_len]; omega) kv (fun b o q => hk b o (Nat.ne_of_lt (Nat.lt_succ_of_lt (Heap.lt_size q))) (Nat.ne_of_lt (Heap.lt_size q)) (hk2 b o q)) (Nat.le_add_right _ 2) hS (by rw [enuL_len]; simpa using hal) hG hacc
  exact ⟨.ref _, H', J, rfl, q1 H' _ as k1 k2 k3 k4 k5 k6 k7⟩
end

/-! ### for i, (x, y) in enumerate(zip(a, b)) -/
section
open PySem.W PySem.Calls PyProof.Rows PySem.Spec
section
variable {prog : Program} {w : World} {A : Around} {E : Value → Shared → Prop} {s : Shared}
/-- the tuple that a zip gave out: none yet, or one that stands or is gone -/
def ZSt (h : Heap) (z TI TO : Addr) : Prop := IsZip h z TI TO .none ∨ ∃ T f, IsZipHeld h z TI TO T f
theorem ZSt.get {h : Heap} {z TI TO : Addr} (x : ZSt h z TI TO) : ∃ o, h.get? z = some o ∧ o.cls = .type "zip" ∧ ∀ v, o.data ≠ .cell v := by
  rcases x with x | ⟨T, f, x⟩
  · exact ⟨_, x, rfl, fun v q => nomatch q⟩
  · exact ⟨_, x, rfl, fun v q => nomatch q⟩
theorem ZSt.keep {h h' : Heap} {z TI TO : Addr} (x : ZSt h z TI TO) (k : ∀ o, h.get? z = some o → h'.get? z = some o) : ZSt h' z TI TO := by
  rcases x with x | ⟨T, f, x⟩
  · exact .inl (k _ x)
  · exact .inr ⟨T, f, k _ x⟩
theorem ez_none {a : Addr} {Q : Option Obj → Shared → Prop} (ho : s.heap.get? a = none) (h : Q none s) : wpAny (model prog w) A (loadIfAlive a) Q E s := by
  have h' : Q (s.heap.get? a) s := by rw [ho]; exact h
  exact fun _ _ _ => h'
theorem ez_gone {z TI TO T : Addr} {f : Bool} {Q : Bool → Shared → Prop} (hz : IsZipHeld s.heap z TI TO T f) (hT : s.heap.get? T = none) (h : Q true s) : wpAny (model prog w) A (Builtin.SmallTypes.ownedTupleIsFree (.ref z)) Q E s := by
  unfold Builtin.SmallTypes.ownedTupleIsFree
  refine wpAny_bind (wpAny_field hz rfl (x := rawInt T) rfl ?_)
  show wpAny _ _ (loadIfAlive ((T : Int).toNat) >>= _) _ _ _
  rw [Int.toNat_natCast]
  exact wpAny_bind (ez_none hT (wpAny_pure h))
abbrev ZAt (h : Heap) (z TI TO : Addr) (f0 : Value) (f1 : Bool) : Prop :=
  h.get? z = some { cls := .type "zip", dict := none, data := .fields #[f0, .bool f1, .bool false, .ref TI, .ref TO], slots := #[] }
theorem ez_item_gone {z TI TO T i1 i2 l1 l2 : Addr} {f : Bool} {k1 k2 : Nat} {xs ys : Array Value} {x y a b : Value} {Q : Value → Shared → Prop} (D : ZipApart z TI TO i1 i2 l1 l2)
    (hz : IsZipHeld s.heap z TI TO T f) (hT : s.heap.get? T = none) (hTI : IsPair s.heap TI (.ref i1) (.ref i2)) (hTO : IsPair s.heap TO a b)
    (h1 : s.heap.IsListIter i1 l1 k1) (h2 : s.heap.IsListIter i2 l2 k2) (hl1 : s.heap.IsList l1 xs) (hl2 : s.heap.IsList l2 ys) (hx : xs[k1]? = some x) (hy : ys[k2]? = some y)
    (hQ : ∀ h', ZSt h' z TI TO → IsPair h' TO x y → h'.IsListIter i1 l1 (k1 + 1) → h'.IsListIter i2 l2 (k2 + 1) → IsPair h' s.heap.objs.size x y → h'.objs.size = s.heap.objs.size + 1 →
      (∀ c o, c ≠ z → c ≠ TO → c ≠ i1 → c ≠ i2 → s.heap.get? c = some o → h'.get? c = some o) → Q (.ref s.heap.objs.size) { s with heap := h' }) :
    wpAny (model prog w) A (Builtin.«zip.__next__» ⟨[.ref z], []⟩) (fun fin s' => ∃ v, fin = .done (.ret v) ∧ Q v s') E s := by
  show wpAny _ _ (field (.ref z) 2 >>= _) _ _ _
  refine wpAny_bind (wpAny_field hz rfl (x := .bool false) rfl ?_)
  show wpAny _ _ (field (.ref z) 3 >>= _) _ _ _
  refine wpAny_bind (wpAny_field hz rfl (x := .ref TI) rfl (wpAny_bind (wpAny_seqItems hTI rfl ?_)))
  show wpAny _ _ (Builtin.SmallTypes.ownedTupleIsFree (.ref z) >>= _) _ _ _
  refine wpAny_bind (ez_gone hz hT ?_)
  simp only [if_true]
  refine wpAny_bind (wpAny_rule (wpAny_bind (wpAny_field hz rfl (x := .ref TO) rfl (wpAny_bind (wpAny_setField_rec hz (by simp) fun g1 z1 e1 => ?_)))))
  replace z1 : ZAt g1 z TI TO .ellipsis f := z1
  refine wpAny_bind ?_
  simp only [List.zipIdx_cons, List.zipIdx_nil, List.forIn_cons, List.forIn_nil]
  refine wpAny_bind (wpAny_bind (wpAny_onRaise ?_))
  show wpAny _ _ (Builtin.SmallTypes.nextOf (.ref i1) >>= _) _ _ _
  refine wpAny_bind (wpAny_nextOf_list_item (h1.extBut e1.extBut D.i1z) (hl1.extBut e1.extBut D.l1z) hx fun g2 j1 e2 => wpAny_pure ?_)
  have o2 : IsPair g2 TO a b := e2.extBut _ _ D.TOi1 (e1.extBut _ _ D.TOz hTO)
  refine wpAny_bind (wpAny_seqItems o2 rfl (wpAny_bind (wpAny_updateSeq_pair o2 fun g3 o3 e3 => wpAny_bind (wpAny_letGo (wpAny_pure ?_)))))
  replace o3 : IsPair g3 TO x b := o3
  refine wpAny_bind (wpAny_bind (wpAny_onRaise ?_))
  show wpAny _ _ (Builtin.SmallTypes.nextOf (.ref i2) >>= _) _ _ _
  refine wpAny_bind (wpAny_nextOf_list_item (((h2.extBut e1.extBut D.i2z).extBut e2.extBut D.i12.symm).extBut e3.extBut D.TOi2.symm)
    (((hl2.extBut e1.extBut D.l2z).extBut e2.extBut D.l2i1).extBut e3.extBut D.l2TO) hy fun g4 j2 e4 => wpAny_pure ?_)
  have o4 : IsPair g4 TO x b := e4.extBut _ _ D.TOi2 o3
  refine wpAny_bind (wpAny_seqItems o4 rfl (wpAny_bind (wpAny_updateSeq_pair o4 fun g5 o5 e5 => wpAny_bind (wpAny_letGo (wpAny_pure (wpAny_pure ?_))))))
  replace o5 : IsPair g5 TO x y := o5
  refine wpAny_bind (wpAny_seqItems o5 rfl (wpAny_bind (wpAny_newTuple ?_)))
  have sz : g5.objs.size = s.heap.objs.size := by rw [e5.1, e4.1, e3.1, e2.1, e1.1]
  have z5 : ZAt g5 z TI TO .ellipsis f := e5.extBut _ _ D.TOz.symm (e4.extBut _ _ D.i2z.symm (e3.extBut _ _ D.TOz.symm (e2.extBut _ _ D.i1z.symm z1)))
  have k5 : ∀ c o, c ≠ z → c ≠ TO → c ≠ i1 → c ≠ i2 → s.heap.get? c = some o → g5.get? c = some o := fun c o c1 c2 c3 c4 q =>
    e5.extBut _ _ c2 (e4.extBut _ _ c4 (e3.extBut _ _ c2 (e2.extBut _ _ c3 (e1.extBut _ _ c1 q))))
  have j15 : g5.IsListIter i1 l1 (k1 + 1) := ((j1.extBut e3.extBut D.TOi1.symm).extBut e4.extBut D.i12).extBut e5.extBut D.TOi1.symm
  have j25 : g5.IsListIter i2 l2 (k2 + 1) := j2.extBut e5.extBut D.TOi2.symm
  have zl : z < g5.objs.size := Heap.lt_size z5
  show wpAny _ _ (Builtin.SmallTypes.ownedTupleHandOut (.ref z) (.ref g5.objs.size) >>= _) _ _ _
  refine wpAny_bind ?_
  unfold Builtin.SmallTypes.ownedTupleHandOut
  have z6 : ZAt (g5.push { cls := .type "tuple", data := .seq #[x, y] }) z TI TO .ellipsis f := Heap.get?_push_of_some _ z5
  refine wpAny_bind (wpAny_setField_rec z6 (by simp) fun g7 z7 e7 => ?_)
  replace z7 : ZAt g7 z TI TO (rawInt g5.objs.size) f := z7
  refine wpAny_setField_rec z7 (by simp) fun g8 z8 e8 => ?_
  replace z8 : ZAt g8 z TI TO (rawInt g5.objs.size) false := z8
  have up : ∀ c o, c ≠ z → g5.get? c = some o → g8.get? c = some o := fun c o c1 q => e8.extBut _ _ c1 (e7.extBut _ _ c1 (Heap.get?_push_of_some _ q))
  have t8 : IsPair g8 g5.objs.size x y := e8.extBut _ _ (Nat.ne_of_gt zl) (e7.extBut _ _ (Nat.ne_of_gt zl) (Heap.get?_push_size _ rfl))
  have s8 : g8.objs.size = g5.objs.size + 1 := by rw [e8.1, e7.1, Heap.size_push]
  rw [sz] at z8 t8 s8
  refine wpAny_pure ⟨_, rfl, ?_⟩
  show Q (.ref g5.objs.size) _
  rw [sz]
  exact hQ g8 (.inr ⟨_, _, z8⟩) (up _ _ D.TOz o5) (j15.at fun o q => up _ o D.i1z q) (j25.at fun o q => up _ o D.i2z q) t8 s8 fun c o c1 c2 c3 c4 q => up c o c1 (k5 c o c1 c2 c3 c4 q)
theorem ez_item {z TI TO i1 i2 l1 l2 : Addr} {k1 k2 : Nat} {xs ys : Array Value} {x y a b : Value} {Q : Value → Shared → Prop} (D : ZipApart z TI TO i1 i2 l1 l2)
    (hz : ZSt s.heap z TI TO) (hTI : IsPair s.heap TI (.ref i1) (.ref i2)) (hTO : IsPair s.heap TO a b)
    (h1 : s.heap.IsListIter i1 l1 k1) (h2 : s.heap.IsListIter i2 l2 k2) (hl1 : s.heap.IsList l1 xs) (hl2 : s.heap.IsList l2 ys) (hx : xs[k1]? = some x) (hy : ys[k2]? = some y)
    (hQ : ∀ h', ZSt h' z TI TO → (∃ a b, IsPair h' TO a b) → h'.IsListIter i1 l1 (k1 + 1) → h'.IsListIter i2 l2 (k2 + 1) → IsPair h' s.heap.objs.size x y → h'.objs.size = s.heap.objs.size + 1 →
      (∀ c o, c ≠ z → c ≠ TO → c ≠ i1 → c ≠ i2 → s.heap.get? c = some o → h'.get? c = some o) → Q (.ref s.heap.objs.size) { s with heap := h' }) :
    wpAny (model prog w) A (Builtin.«zip.__next__» ⟨[.ref z], []⟩) (fun fin s' => ∃ v, fin = .done (.ret v) ∧ Q v s') E s := by
  rcases hz with hz | ⟨T, f, hz⟩
  · exact zip_next_item D hz hTI hTO h1 h2 hl1 hl2 hx hy fun h' a1 a2 a3 a4 a5 a6 a7 => hQ h' (.inr ⟨_, _, a1⟩) ⟨_, _, a2⟩ a3 a4 a5 a6 a7
  · cases hT : s.heap.get? T with
    | none => exact ez_item_gone D hz hT hTI hTO h1 h2 hl1 hl2 hx hy fun h' a1 a2 a3 a4 a5 a6 a7 => hQ h' a1 ⟨_, _, a2⟩ a3 a4 a5 a6 a7
    | some oT => exact zip_next_item_held D hz hT hTI h1 h2 hl1 hl2 hx hy fun h' a1 a3 a4 a5 a6 a7 => hQ h' (.inr ⟨_, _, a1⟩) ⟨_, _, a7 _ _ D.TOz D.TOi1 D.TOi2 hTO⟩ a3 a4 a5 a6 fun c o c1 c2 c3 c4 q => a7 c o c1 c3 c4 q
theorem ez_end_gone {z TI TO T i1 i2 l1 l2 : Addr} {f : Bool} {k1 k2 : Nat} {xs ys : Array Value} {a b : Value} {Q : Fin → Shared → Prop} (hh : A.handled = none) (D : ZipApart z TI TO i1 i2 l1 l2)
    (hz : IsZipHeld s.heap z TI TO T f) (hT : s.heap.get? T = none) (hTI : IsPair s.heap TI (.ref i1) (.ref i2)) (hTO : IsPair s.heap TO a b)
    (h1 : s.heap.IsListIter i1 l1 k1) (h2 : s.heap.IsListIter i2 l2 k2) (hl1 : s.heap.IsList l1 xs) (hl2 : s.heap.IsList l2 ys) (hend : xs[k1]? = none ∨ ys[k2]? = none)
    (hE : ∀ h' e, (∀ c o, c ≠ z → c ≠ TO → c ≠ i1 → c ≠ i2 → s.heap.get? c = some o → h'.get? c = some o) → (∃ o, h'.get? e = some o ∧ o.cls = .type "StopIteration") → E (.ref e) { s with heap := h' }) :
    wpAny (model prog w) A (Builtin.«zip.__next__» ⟨[.ref z], []⟩) Q E s := by
  show wpAny _ _ (field (.ref z) 2 >>= _) _ _ _
  refine wpAny_bind (wpAny_field hz rfl (x := .bool false) rfl ?_)
  show wpAny _ _ (field (.ref z) 3 >>= _) _ _ _
  refine wpAny_bind (wpAny_field hz rfl (x := .ref TI) rfl (wpAny_bind (wpAny_seqItems hTI rfl ?_)))
  show wpAny _ _ (Builtin.SmallTypes.ownedTupleIsFree (.ref z) >>= _) _ _ _
  refine wpAny_bind (ez_gone hz hT ?_)
  simp only [if_true]
  refine wpAny_bind (wpAny_rule (wpAny_bind (wpAny_field hz rfl (x := .ref TO) rfl (wpAny_bind (wpAny_setField_rec hz (by simp) fun g1 z1 e1 => ?_)))))
  replace z1 : ZAt g1 z TI TO .ellipsis f := z1
  refine wpAny_bind ?_
  simp only [List.zipIdx_cons, List.zipIdx_nil, List.forIn_cons, List.forIn_nil]
  refine wpAny_bind (wpAny_bind (wpAny_onRaise ?_))
  show wpAny _ _ (Builtin.SmallTypes.nextOf (.ref i1) >>= _) _ _ _
  have fin : ∀ (g : Heap) (e : Addr), ZAt g z TI TO .ellipsis f → (∃ o, g.get? e = some o ∧ o.cls = .type "StopIteration") → (∀ c o, c ≠ z → c ≠ TO → c ≠ i1 → c ≠ i2 → s.heap.get? c = some o → g.get? c = some o) →
      ∀ {A' : Around}, wpAny (model prog w) A' (setField (.ref z) 0 .none) (fun _ s' => E (.ref e) s') E { s with heap := g } := fun g e zg he k A' => by
    obtain ⟨oe, ho, hc⟩ := he
    have hez : e ≠ z := fun q => by subst q; rw [zg] at ho; cases ho; simp at hc
    exact wpAny_setField_rec zg (by simp) fun g' _ eg => hE g' e (fun c o c1 c2 c3 c4 q => eg.extBut _ _ c1 (k c o c1 c2 c3 c4 q)) ⟨oe, eg.extBut _ _ hez ho, hc⟩
  cases hx : xs[k1]? with
  | none =>
    refine wpAny_bind (wpAny_nextOf_list_end hh (h1.extBut e1.extBut D.i1z) (hl1.extBut e1.extBut D.l1z) hx fun g2 e e2 he => ?_)
    exact fin g2 e (e2 _ _ D.i1z.symm z1) he fun c o c1 _ c3 _ q => e2 _ _ c3 (e1.extBut _ _ c1 q)
  | some x =>
    have hy : ys[k2]? = none := by rcases hend with h | h; rw [hx] at h; cases h; exact h
    refine wpAny_bind (wpAny_nextOf_list_item (h1.extBut e1.extBut D.i1z) (hl1.extBut e1.extBut D.l1z) hx fun g2 j1 e2 => wpAny_pure ?_)
    have o2 : IsPair g2 TO a b := e2.extBut _ _ D.TOi1 (e1.extBut _ _ D.TOz hTO)
    refine wpAny_bind (wpAny_seqItems o2 rfl (wpAny_bind (wpAny_updateSeq_pair o2 fun g3 o3 e3 => wpAny_bind (wpAny_letGo (wpAny_pure ?_)))))
    refine wpAny_bind (wpAny_bind (wpAny_onRaise ?_))
    show wpAny _ _ (Builtin.SmallTypes.nextOf (.ref i2) >>= _) _ _ _
    refine wpAny_bind (wpAny_nextOf_list_end hh (((h2.extBut e1.extBut D.i2z).extBut e2.extBut D.i12.symm).extBut e3.extBut D.TOi2.symm)
      (((hl2.extBut e1.extBut D.l2z).extBut e2.extBut D.l2i1).extBut e3.extBut D.l2TO) hy fun g4 e e4 he => ?_)
    exact fin g4 e (e4 _ _ D.i2z.symm (e3.extBut _ _ D.TOz.symm (e2.extBut _ _ D.i1z.symm z1))) he fun c o c1 c2 c3 c4 q => e4 _ _ c4 (e3.extBut _ _ c2 (e2.extBut _ _ c3 (e1.extBut _ _ c1 q)))
theorem ez_end {z TI TO i1 i2 l1 l2 : Addr} {k1 k2 : Nat} {xs ys : Array Value} {a b : Value} {Q : Fin → Shared → Prop} (hh : A.handled = none) (D : ZipApart z TI TO i1 i2 l1 l2)
    (hz : ZSt s.heap z TI TO) (hTI : IsPair s.heap TI (.ref i1) (.ref i2)) (hTO : IsPair s.heap TO a b)
    (h1 : s.heap.IsListIter i1 l1 k1) (h2 : s.heap.IsListIter i2 l2 k2) (hl1 : s.heap.IsList l1 xs) (hl2 : s.heap.IsList l2 ys) (hend : xs[k1]? = none ∨ ys[k2]? = none)
    (hE : ∀ h' e, (∀ c o, c ≠ z → c ≠ TO → c ≠ i1 → c ≠ i2 → s.heap.get? c = some o → h'.get? c = some o) → (∃ o, h'.get? e = some o ∧ o.cls = .type "StopIteration") → E (.ref e) { s with heap := h' }) :
    wpAny (model prog w) A (Builtin.«zip.__next__» ⟨[.ref z], []⟩) Q E s := by
  rcases hz with hz | ⟨T, f, hz⟩
  · exact zip_next_end hh D hz hTI hTO h1 h2 hl1 hl2 hend hE
  · cases hT : s.heap.get? T with
    | none => exact ez_end_gone hh D hz hT hTI hTO h1 h2 hl1 hl2 hend hE
    | some oT => exact zip_next_end_held hh D hz hT hTI h1 h2 hl1 hl2 hend fun h' e k he => hE h' e (fun c o c1 _ c3 c4 q => k c o c1 c3 c4 q) he
theorem ez_nextOf {z TI TO i1 i2 l1 l2 : Addr} {k1 k2 : Nat} {xs ys : Array Value} {x y a b : Value} {Q : Value → Shared → Prop} (D : ZipApart z TI TO i1 i2 l1 l2)
    (hz : ZSt s.heap z TI TO) (hTI : IsPair s.heap TI (.ref i1) (.ref i2)) (hTO : IsPair s.heap TO a b)
    (h1 : s.heap.IsListIter i1 l1 k1) (h2 : s.heap.IsListIter i2 l2 k2) (hl1 : s.heap.IsList l1 xs) (hl2 : s.heap.IsList l2 ys) (hx : xs[k1]? = some x) (hy : ys[k2]? = some y)
    (hQ : ∀ h', ZSt h' z TI TO → (∃ a b, IsPair h' TO a b) → h'.IsListIter i1 l1 (k1 + 1) → h'.IsListIter i2 l2 (k2 + 1) → IsPair h' s.heap.objs.size x y → h'.objs.size = s.heap.objs.size + 1 →
      (∀ c o, c ≠ z → c ≠ TO → c ≠ i1 → c ≠ i2 → s.heap.get? c = some o → h'.get? c = some o) → Q (.ref s.heap.objs.size) { s with heap := h' }) :
    wpAny (model prog w) A (Builtin.SmallTypes.nextOf (.ref z)) Q E s := by
  have ty : s.TypeIs (.ref z) "zip" := let ⟨o, ho, hc, _⟩ := hz.get; ⟨o, ho, hc⟩
  unfold Builtin.SmallTypes.nextOf
  refine wpAny_bind (wpAny_callSpecial?_slot (name := Str.ofString "__next__") ty F.slot_zip_next (wpAny_call_entry F.slot_zip_next ty F.entry_zip_next ?_ (F.args_zip_next_1 _)))
  exact ez_item D hz hTI hTO h1 h2 hl1 hl2 hx hy fun h' a1 a2 a3 a4 a5 a6 a7 => wpAny_pure (hQ h' a1 a2 a3 a4 a5 a6 a7)
theorem ez_nextOf_end {z TI TO i1 i2 l1 l2 : Addr} {k1 k2 : Nat} {xs ys : Array Value} {a b : Value} {Q : Value → Shared → Prop} (hh : A.handled = none) (D : ZipApart z TI TO i1 i2 l1 l2)
    (hz : ZSt s.heap z TI TO) (hTI : IsPair s.heap TI (.ref i1) (.ref i2)) (hTO : IsPair s.heap TO a b)
    (h1 : s.heap.IsListIter i1 l1 k1) (h2 : s.heap.IsListIter i2 l2 k2) (hl1 : s.heap.IsList l1 xs) (hl2 : s.heap.IsList l2 ys) (hend : xs[k1]? = none ∨ ys[k2]? = none)
    (hE : ∀ h' e, (∀ c o, c ≠ z → c ≠ TO → c ≠ i1 → c ≠ i2 → s.heap.get? c = some o → h'.get? c = some o) → (∃ o, h'.get? e = some o ∧ o.cls = .type "StopIteration") → E (.ref e) { s with heap := h' }) :
    wpAny (model prog w) A (Builtin.SmallTypes.nextOf (.ref z)) Q E s := by
  have ty : s.TypeIs (.ref z) "zip" := let ⟨o, ho, hc, _⟩ := hz.get; ⟨o, ho, hc⟩
  unfold Builtin.SmallTypes.nextOf
  exact wpAny_bind (wpAny_callSpecial?_slot (name := Str.ofString "__next__") ty F.slot_zip_next (wpAny_call_entry F.slot_zip_next ty F.entry_zip_next (ez_end hh D hz hTI hTO h1 h2 hl1 hl2 hend hE) (F.args_zip_next_1 _)))
/-- what enumerate(zip(..)) keeps -/
structure EzApart (e z TI TO i1 i2 l1 l2 : Addr) : Prop where
  D : ZipApart z TI TO i1 i2 l1 l2
  ez : e ≠ z
  eI : e ≠ TI
  eO : e ≠ TO
  e1 : e ≠ i1
  e2 : e ≠ i2
  l1e : l1 ≠ e
  l2e : l2 ≠ e
abbrev EAt (h : Heap) (e z : Addr) (f0 : Value) (f1 : Bool) (c : Int) (old : Value) : Prop :=
  h.get? e = some { cls := .type "enumerate", dict := none, data := .fields #[f0, .bool f1, .ref z, rawInt c, .none, old], slots := #[] }
theorem ez_enum {e z TI TO i1 i2 l1 l2 : Addr} {c : Int} {k1 k2 : Nat} {xs ys : Array Value} {x y a b old : Value} {Q : Value → Shared → Prop} (AP : EzApart e z TI TO i1 i2 l1 l2)
    (he : IsEnum s.heap e z c old) (hz : ZSt s.heap z TI TO) (hTI : IsPair s.heap TI (.ref i1) (.ref i2)) (hTO : IsPair s.heap TO a b)
    (h1 : s.heap.IsListIter i1 l1 k1) (h2 : s.heap.IsListIter i2 l2 k2) (hl1 : s.heap.IsList l1 xs) (hl2 : s.heap.IsList l2 ys) (hx : xs[k1]? = some x) (hy : ys[k2]? = some y)
    (hQ : ∀ h', IsEnumOut h' e z (c + 1) (.ref s.heap.objs.size) (s.heap.objs.size + 1) → ZSt h' z TI TO → (∃ a b, IsPair h' TO a b) → h'.IsListIter i1 l1 (k1 + 1) → h'.IsListIter i2 l2 (k2 + 1) → IsPair h' s.heap.objs.size x y →
      h'.get? (s.heap.objs.size + 1) = some { cls := .type "tuple", data := .seq #[.int c s.toks, .ref s.heap.objs.size] } → h'.objs.size = s.heap.objs.size + 2 →
      (∀ d o, d ≠ e → d ≠ z → d ≠ TO → d ≠ i1 → d ≠ i2 → s.heap.get? d = some o → h'.get? d = some o) → Q (.ref (s.heap.objs.size + 1)) { s with heap := h', toks := s.toks + 1 }) :
    wpAny (model prog w) A (Builtin.«enumerate.__next__» ⟨[.ref e], []⟩) (fun fin s' => ∃ v, fin = .done (.ret v) ∧ Q v s') E s := by
  obtain ⟨hp, g, d, tk, os⟩ := s
  have el : e < hp.objs.size := Heap.lt_size he
  show wpAny _ _ (field (.ref e) 2 >>= _) _ _ _
  refine wpAny_bind (wpAny_field he rfl (x := .ref z) rfl ?_)
  refine wpAny_bind (ez_nextOf AP.D hz hTI hTO h1 h2 hl1 hl2 hx hy fun g1 z1 o1 j1 j2 t1 s1 k1' => ?_)
  have eA : EAt g1 e z .none false c old := k1' _ _ AP.ez AP.eO AP.e1 AP.e2 he
  show wpAny _ _ (field (.ref e) 3 >>= _) _ _ _
  refine wpAny_bind (wpAny_field eA rfl (x := rawInt c) rfl ?_)
  show wpAny _ _ (field (.ref e) 4 >>= _) _ _ _
  refine wpAny_bind (wpAny_field eA rfl (x := .none) rfl ?_)
  show wpAny _ _ (mkInt c >>= _) _ _ _
  refine wpAny_bind (wpAny_mkInt ?_)
  show wpAny _ _ (setField (.ref e) 3 (rawInt (c + 1)) >>= _) _ _ _
  refine wpAny_bind (wpAny_setField_rec eA (by simp) fun g2 e2 b2 => ?_)
  replace e2 : EAt g2 e z .none false (c + 1) old := e2
  show wpAny _ _ (setField (.ref e) 4 .none >>= _) _ _ _
  refine wpAny_bind (wpAny_setField_rec e2 (by simp) fun g3 e3 b3 => ?_)
  replace e3 : EAt g3 e z .none false (c + 1) old := e3
  show wpAny _ _ (newTuple [.int c tk, .ref hp.objs.size] >>= _) _ _ _
  refine wpAny_bind (wpAny_newTuple ?_)
  have s3 : g3.objs.size = hp.objs.size + 1 := by rw [b3.1, b2.1, s1]
  have e4 : EAt (g3.push { cls := .type "tuple", data := .seq #[.int c tk, .ref hp.objs.size] }) e z .none false (c + 1) old := Heap.get?_push_of_some _ e3
  have up4 : ∀ q o, q ≠ e → g1.get? q = some o → (g3.push { cls := .type "tuple", data := .seq #[.int c tk, .ref hp.objs.size] }).get? q = some o := fun q o n w' =>
    Heap.get?_push_of_some _ (b3.extBut _ _ n (b2.extBut _ _ n w'))
  have t4 : (g3.push { cls := .type "tuple", data := .seq #[.int c tk, .ref hp.objs.size] }).get? (hp.objs.size + 1) = some { cls := .type "tuple", data := .seq #[.int c tk, .ref hp.objs.size] } := by
    rw [← s3]; exact Heap.get?_push_size _ rfl
  have s4 : (g3.push { cls := .type "tuple", data := .seq #[.int c tk, .ref hp.objs.size] }).objs.size = hp.objs.size + 2 := by rw [Heap.size_push, s3]
  revert e4 up4 t4 s4
  show _ → _ → _ → _ → wpAny _ _ (Builtin.SmallTypes.ownedTupleIsFree (.ref e) >>= _) _ _ ⟨_, g, d, tk + 1, os⟩
  rw [s3]
  generalize g3.push { cls := .type "tuple", data := .seq #[.int c tk, .ref hp.objs.size] } = g4
  intro e4 up4 t4 s4
  refine wpAny_bind ?_
  unfold Builtin.SmallTypes.ownedTupleIsFree
  refine wpAny_bind (wpAny_field e4 rfl (x := .none) rfl (wpAny_pure ?_))
  simp only [if_true]
  refine wpAny_bind (wpAny_rule (wpAny_bind (wpAny_field e4 rfl (x := old) rfl (wpAny_bind (wpAny_setField_rec e4 (by simp) fun g5 e5 b5 => ?_)))))
  replace e5 : EAt g5 e z .none false (c + 1) (.ref hp.objs.size) := e5
  show wpAny _ _ (Builtin.SmallTypes.ownedTupleHandOut (.ref e) (.ref (hp.objs.size + 1)) >>= _) _ _ _
  refine wpAny_bind ?_
  unfold Builtin.SmallTypes.ownedTupleHandOut
  refine wpAny_bind (wpAny_setField_rec e5 (by simp) fun g6 e6 b6 => ?_)
  replace e6 : EAt g6 e z (rawInt ((hp.objs.size + 1 : Nat) : Int)) false (c + 1) (.ref hp.objs.size) := e6
  refine wpAny_setField_rec e6 (by simp) fun g7 e7 b7 => ?_
  replace e7 : EAt g7 e z (rawInt ((hp.objs.size + 1 : Nat) : Int)) false (c + 1) (.ref hp.objs.size) := e7
  have up : ∀ q o, q ≠ e → g1.get? q = some o → g7.get? q = some o := fun q o n w' => b7.extBut _ _ n (b6.extBut _ _ n (b5.extBut _ _ n (up4 q o n w')))
  have n1 : hp.objs.size ≠ e := Nat.ne_of_gt el
  have n2 : hp.objs.size + 1 ≠ e := Nat.ne_of_gt (Nat.lt_succ_of_lt el)
  obtain ⟨a', b', o1⟩ := o1
  refine wpAny_bind (wpAny_letGo (wpAny_pure ⟨_, rfl, hQ g7 e7 (z1.keep fun o w' => up _ _ AP.ez.symm w') ⟨a', b', up _ _ AP.eO.symm o1⟩ (j1.at fun o w' => up _ o AP.e1.symm w') (j2.at fun o w' => up _ o AP.e2.symm w') (up _ _ n1 t1) ?_ ?_ ?_⟩))
  · exact b7.extBut _ _ n2 (b6.extBut _ _ n2 (b5.extBut _ _ n2 t4))
  · rw [b7.1, b6.1, b5.1, s4]
  · exact fun q o m1 m2 m3 m4 m5 w' => up q o m1 (k1' q o m2 m3 m4 m5 w')
theorem ez_pyNext {e z TI TO i1 i2 l1 l2 : Addr} {c : Int} {k1 k2 : Nat} {xs ys : Array Value} {x y a b old : Value} {Q : Option Value → Shared → Prop} (AP : EzApart e z TI TO i1 i2 l1 l2)
    (he : IsEnum s.heap e z c old) (hz : ZSt s.heap z TI TO) (hTI : IsPair s.heap TI (.ref i1) (.ref i2)) (hTO : IsPair s.heap TO a b)
    (h1 : s.heap.IsListIter i1 l1 k1) (h2 : s.heap.IsListIter i2 l2 k2) (hl1 : s.heap.IsList l1 xs) (hl2 : s.heap.IsList l2 ys) (hx : xs[k1]? = some x) (hy : ys[k2]? = some y)
    (hQ : ∀ h', IsEnumOut h' e z (c + 1) (.ref s.heap.objs.size) (s.heap.objs.size + 1) → ZSt h' z TI TO → (∃ a b, IsPair h' TO a b) → h'.IsListIter i1 l1 (k1 + 1) → h'.IsListIter i2 l2 (k2 + 1) → IsPair h' s.heap.objs.size x y →
      h'.get? (s.heap.objs.size + 1) = some { cls := .type "tuple", data := .seq #[.int c s.toks, .ref s.heap.objs.size] } → h'.objs.size = s.heap.objs.size + 2 →
      (∀ d o, d ≠ e → d ≠ z → d ≠ TO → d ≠ i1 → d ≠ i2 → s.heap.get? d = some o → h'.get? d = some o) → Q (some (.ref (s.heap.objs.size + 1))) { s with heap := h', toks := s.toks + 1 }) :
    wpAny (model prog w) A (pyNext (.ref e)) Q E s := by
  have hT : s.TypeIs (.ref e) "enumerate" := ⟨_, he, rfl⟩
  unfold pyNext
  exact wpAny_bind (wpAny_attempt (wpAny_callSpecial?_slot (name := Str.ofString "__next__") hT F.slot_enumerate_next
    (wpAny_call_entry F.slot_enumerate_next hT F.entry_enumerate_next
      (ez_enum AP he hz hTI hTO h1 h2 hl1 hl2 hx hy fun h' a1 a2 a3 a4 a5 a6 a7 a8 a9 => wpAny_pure (hQ h' a1 a2 a3 a4 a5 a6 a7 a8 a9)) (F.args_enumerate_next_1 _))))
theorem ez_pyNext_end {e z TI TO i1 i2 l1 l2 : Addr} {c : Int} {k1 k2 : Nat} {xs ys : Array Value} {a b old : Value} {Q : Option Value → Shared → Prop} (hh : A.handled = none) (AP : EzApart e z TI TO i1 i2 l1 l2)
    (he : IsEnum s.heap e z c old) (hz : ZSt s.heap z TI TO) (hTI : IsPair s.heap TI (.ref i1) (.ref i2)) (hTO : IsPair s.heap TO a b)
    (h1 : s.heap.IsListIter i1 l1 k1) (h2 : s.heap.IsListIter i2 l2 k2) (hl1 : s.heap.IsList l1 xs) (hl2 : s.heap.IsList l2 ys) (hend : xs[k1]? = none ∨ ys[k2]? = none)
    (hQ : ∀ h', (∀ d o, d ≠ e → d ≠ z → d ≠ TO → d ≠ i1 → d ≠ i2 → s.heap.get? d = some o → h'.get? d = some o) → Q none { s with heap := h' }) :
    wpAny (model prog w) A (pyNext (.ref e)) Q E s := by
  have hT : s.TypeIs (.ref e) "enumerate" := ⟨_, he, rfl⟩
  unfold pyNext
  refine wpAny_bind (wpAny_attempt (wpAny_callSpecial?_slot (name := Str.ofString "__next__") hT PySem.F.slot_enumerate_next
    (wpAny_call_entry PySem.F.slot_enumerate_next hT PySem.F.entry_enumerate_next ?_ (PySem.F.args_enumerate_next_1 _))))
  show wpAny _ _ (field (.ref e) 2 >>= _) _ _ _
  refine wpAny_bind (wpAny_field he rfl (x := .ref z) rfl (wpAny_bind (ez_nextOf_end hh AP.D hz hTI hTO h1 h2 hl1 hl2 hend fun h' x k hx' => ?_)))
  obtain ⟨o, ho, hc⟩ := hx'
  exact wpAny_bind (wpAny_isInstance (T := "StopIteration") (b := true) ⟨o, ho, hc⟩ isSubtype_stop (wpAny_pure (hQ _ fun d o' _ m2 m3 m4 m5 w' => k d o' m2 m3 m4 m5 w')))
end
theorem ez_meets_enum (z TI TO : Addr) :
    Meets (Builtin.«enumerate.__new__» ⟨[.type "enumerate", .ref z], []⟩) (fun _ R s => IsZip s.heap z TI TO .none ∧
      R (.ok (.ret (.ref s.heap.objs.size))) { s with heap := s.heap.push { cls := .type "enumerate", data := .fields #[.none, .bool false, .ref z, rawInt 0, .none, .none] } }) :=
  .of_wp fun prog w A R s h => by
    obtain ⟨hp, g, d, tk, os⟩ := s; obtain ⟨hz, h⟩ := h
    have hsub := sub_enumerate
    have hZ : IsZip (Shared.heap ⟨hp, g, d, tk, os⟩) z TI TO .none := hz
    have q1 : ∀ {A' : Around} {E : Value → Shared → Prop} {Q : Value → Shared → Prop}, Q (.ref z) ⟨hp, g, d, tk, os⟩ → wpAny (model prog w) A' (pyIter (.ref z)) Q E ⟨hp, g, d, tk, os⟩ := fun q => wpAny_pyIter_zip hZ q
    wp_walk using q1, AutoSeq1.wpAny_loadPart' hZ
    refine wpAny_stack_any fun st => wpAny_pure ?_
    split
    · rename_i c _ _ _ _ _
      cases (c == Value.type "enumerate")
      · wp_walk using q1, AutoSeq1.wpAny_loadPart' hZ
        exact ⟨_, rfl, h⟩
      · wp_walk using q1, AutoSeq1.wpAny_loadPart' hZ
        exact ⟨_, rfl, h⟩
    · wp_walk using q1, AutoSeq1.wpAny_loadPart' hZ
      exact ⟨_, rfl, h⟩
theorem ez_call_enum {prog : Program} {w : World} {A : Around} {E : Value → Shared → Prop} {s : Shared} {z TI TO : Addr} {Q : Value → Shared → Prop} (hz : IsZip s.heap z TI TO .none)
    (h : ∀ h', IsEnum h' s.heap.objs.size z 0 .none → h'.objs.size = s.heap.objs.size + 1 → (∀ b o, s.heap.get? b = some o → h'.get? b = some o) → Q (.ref s.heap.objs.size) { s with heap := h' }) :
    wpAny (model prog w) A (call (.type "enumerate") [.ref z]) Q E s := by
  refine callType_new F.called_enumerate (by decide) (F.typeCall_enumerate_1 _) (F.newCall_enumerate_1 _) (fun obj => F.args_object_init_2 obj _) F.entry_enumerate_new (ez_meets_enum z TI TO) ⟨hz, ?_⟩
  have he : IsEnum (s.heap.push { cls := .type "enumerate", data := .fields #[.none, .bool false, .ref z, rawInt 0, .none, .none] }) s.heap.objs.size z 0 .none := Heap.get?_push_size _ rfl
  exact ⟨⟨_, he, rfl⟩, h _ he (Heap.size_push ..) fun b o x => Heap.get?_push_of_some _ x⟩
/-- several records of ours have turned, two new objects are laid -/
theorem ez_turned {X : Cx} {pins : List (Addr × Obj)} {σ : L2.St} {H : Hp} {s : Shared} {h' : Heap} {t' : Nat} {ch : List Addr} {T1 T2 : Addr} {o1 o2 : HO} (I : Inv X pins σ H s) (k : ∀ b o, b ∉ ch → s.heap.get? b = some o → h'.get? b = some o)
    (hf : ∀ b ∈ ch, FpOk X pins H b) (h1 : s.heap.objs.size ≤ T1) (h2 : s.heap.objs.size ≤ T2)
    (n1 : ObjOk X.prog X.w (upd (upd H T1 o1) T2 o2) h' T1 o1) (n2 : ObjOk X.prog X.w (upd (upd H T1 o1) T2 o2) h' T2 o2) (ne : T1 ≠ T2) : Inv X pins σ (upd (upd H T1 o1) T2 o2) { s with heap := h', toks := t' } := by
  have f1 : H T1 = none := I.hok.fresh h1
  have f2 : H T2 = none := I.hok.fresh h2
  have nit : ∀ b u, H b = some u → b ∉ ch := fun b u e z => by
    have q := (hf b z).1
    rw [q] at e; cases e
  have same : ∀ b, b ≠ T1 → b ≠ T2 → upd (upd H T1 o1) T2 o2 b = H b := fun b a1 a2 => by rw [upd_ne a2, upd_ne a1]
  have some_ne : ∀ b u, H b = some u → upd (upd H T1 o1) T2 o2 b = some u := fun b u e => by
    rw [same b (ne_of_none e f1) (ne_of_none e f2)]; exact e
  refine I.step (g' := s.gens) (d' := s.drawn) (ch := ch) (fun b hb => ⟨(hf b hb).2.2.2.1, (hf b hb).2.1, (hf b hb).2.2.2.2.1, (hf b hb).2.2.2.2.2⟩) (fun b o _ _ hc e _ => k b o hc e) (fun b o _ _ hc e _ => ⟨o.slots, k b o hc e⟩)
    (fun b o _ e n => ?_) (fun b o hc e => ⟨o, k b o hc e⟩) (fun b xs e => some_ne _ _ e) (fun b o u e => some_ne _ _ e) (fun b ps e => ⟨#[], ?_⟩) (fun m hm => ?_) (fun b u e => ?_) I.bare
  · have lt := Heap.lt_size e
    rw [same b (Nat.ne_of_lt (Nat.lt_of_lt_of_le lt h1)) (Nat.ne_of_lt (Nat.lt_of_lt_of_le lt h2))]; exact n
  · rw [some_ne _ _ e]; simp
  · obtain ⟨o, es, ep, ho, r⟩ := hm
    exact ⟨o, es, ep, k _ o (fun z => (hf _ z).2.1 rfl) ho, r⟩
  · by_cases hb2 : b = T2
    · rw [hb2, upd_same] at e
      cases e
      rw [hb2]
      exact n2
    · by_cases hb1 : b = T1
      · rw [hb1, upd_ne ne, upd_same] at e
        cases e
        rw [hb1]
        exact n1
      · rw [same b hb1 hb2] at e
        refine (I.hok b u e).stay (fun c v hc q => k c v ?_ q) (fun c q => some_ne _ _ q) fun c xs q => some_ne _ _ q
        rcases hc with z | z
        · rw [z]; exact nit b u e
        · exact nit c _ z
/-- the lists at a and b as they stand at each turn: the number and a new pair, in a new pair -/
def Itez (K : PySem.W.Frag) (a b : Addr) : It :=
  ⟨fun i H => ∃ (xs ys : List V) (x y : V), SqL K H a xs ∧ SqL K H b ys ∧ xs[i]? = some x ∧ ys[i]? = some y,
    fun i H v H' => ∃ T1 T2 x y, v = .ref T2 ∧ H T1 = none ∧ H T2 = none ∧ T1 ≠ T2 ∧ H' = upd (upd H T1 (.tup [x, y])) T2 (.tup [.int (i : Nat), .ref T1]) ∧ (∀ xs, SqL K H a xs → xs[i]? = some x) ∧ ∀ ys, SqL K H b ys → ys[i]? = some y,
    fun i H => ∃ xs ys : List V, SqL K H a xs ∧ SqL K H b ys ∧ (xs.length ≤ i ∨ ys.length ≤ i)⟩
theorem ez_mem {e z TI TO i1 i2 c : Addr} : c ∈ [e, z, TI, TO, i1, i2] ↔ c = e ∨ c = z ∨ c = TI ∨ c = TO ∨ c = i1 ∨ c = i2 := by simp
theorem turn_ez {P : Program} {w : World} {K : PySem.W.Frag} {elts : List Expr} {kk : Nat} {tpos : Pos} {a b e z TI TO i1 i2 : Addr} (AP : EzApart e z TI TO i1 i2 a b) :
    Turn P w K (.Tuple elts kk tpos) (Itez K a b) [e, z, TI, TO, i1, i2] e
      (fun i h => (∃ old, IsEnum h e z ((i : Nat) : Int) old) ∧ ZSt h z TI TO ∧ IsPair h TI (.ref i1) (.ref i2) ∧ (∃ x y, IsPair h TO x y) ∧ h.IsListIter i1 a i ∧ h.IsListIter i2 b i) where
  mem := by simp
  obj := fun i h st c hc => by
    obtain ⟨⟨old, he⟩, hz, hTI, ⟨x, y, hTO⟩, ⟨o1, e1, _, d1⟩, ⟨o2, e2, _, d2⟩⟩ := st
    rcases ez_mem.mp hc with q | q | q | q | q | q
    · rw [q]; exact ⟨_, he, fun v q => nomatch q⟩
    · rw [q]; obtain ⟨o, ho, _, hd⟩ := hz.get; exact ⟨o, ho, hd⟩
    · rw [q]; exact ⟨_, hTI, fun v q => nomatch q⟩
    · rw [q]; exact ⟨_, hTO, fun v q => nomatch q⟩
    · rw [q]; exact ⟨o1, e1, fun v q => by rw [d1] at q; cases q⟩
    · rw [q]; exact ⟨o2, e2, fun v q => by rw [d2] at q; cases q⟩
  keep := fun i h h' st k => by
    obtain ⟨⟨old, he⟩, hz, hTI, ⟨x, y, hTO⟩, h1, h2⟩ := st
    exact ⟨⟨old, k e (by simp) _ he⟩, hz.keep fun o q => k z (by simp) o q, k TI (by simp) _ hTI, ⟨x, y, k TO (by simp) _ hTO⟩, h1.at fun o q => k i1 (by simp) o q, h2.at fun o q => k i2 (by simp) o q⟩
  item := by
    intro X hP hw hK hc i pins s σ H E I hf st hg
    subst hP hw hK
    obtain ⟨⟨old, he⟩, hz, hTI, ⟨x0, y0, hTO⟩, h1, h2⟩ := st
    obtain ⟨xs, ys, x, y, hqx, hqy, hx, hy⟩ := hg
    obtain ⟨its, rv, p, _⟩ := I.list hqx
    obtain ⟨its2, rv2, p2, _⟩ := I.list hqy
    obtain ⟨u, hu, ru⟩ := rv.get hx
    obtain ⟨u2, hu2, ru2⟩ := rv2.get hy
    have el : e < s.heap.objs.size := Heap.lt_size he
    refine ez_pyNext AP he hz hTI hTO h1 h2 p.isList p2.isList (x := u) (y := u2) (by simpa using hu) (by simpa using hu2) fun h' e' z' TO' j1 j2 t1 t2 hsz hk => ?_
    refine ⟨_, rfl, wpAny_letOwnedTupleGo_enum (s := { s with heap := h', toks := s.toks + 1 }) e' fun h'' e'' sb => ?_⟩
    have n1 : s.heap.objs.size ≠ e := Nat.ne_of_gt el
    have n2 : s.heap.objs.size + 1 ≠ e := Nat.ne_of_gt (Nat.lt_succ_of_lt el)
    have n12 : s.heap.objs.size ≠ s.heap.objs.size + 1 := Nat.ne_of_lt (Nat.lt_succ_self _)
    have t1' : h''.get? s.heap.objs.size = some { cls := .type "tuple", data := .seq #[u, u2] } := (sb.2 _ n1).trans t1
    have t2' : h''.get? (s.heap.objs.size + 1) = some { cls := .type "tuple", data := .seq #[.int i s.toks, .ref s.heap.objs.size] } := (sb.2 _ n2).trans t2
    have w1 : ObjOk X.prog X.w (upd (upd H s.heap.objs.size (.tup [x, y])) (s.heap.objs.size + 1) (.tup [.int (i : Nat), .ref s.heap.objs.size])) h'' s.heap.objs.size (.tup [x, y]) :=
      ⟨by show 2 ≤ sizeLine; decide, [u, u2], .cons ru (.cons ru2 .nil), ⟨_, t1', rfl, _, rfl⟩⟩
    have w2 : ObjOk X.prog X.w (upd (upd H s.heap.objs.size (.tup [x, y])) (s.heap.objs.size + 1) (.tup [.int (i : Nat), .ref s.heap.objs.size])) h'' (s.heap.objs.size + 1) (.tup [.int (i : Nat), .ref s.heap.objs.size]) :=
      ⟨by show 2 ≤ sizeLine; decide, [.int i s.toks, .ref s.heap.objs.size], .cons ⟨_, rfl⟩ (.cons rfl .nil), ⟨_, t2', rfl, _, rfl⟩⟩
    have hk' : ∀ c o, c ∉ [e, z, TI, TO, i1, i2] → s.heap.get? c = some o → h''.get? c = some o := fun c o hb q =>
      (sb.2 c (fun q' => hb (by simp [q']))).trans (hk c o (fun q' => hb (by simp [q'])) (fun q' => hb (by simp [q'])) (fun q' => hb (by simp [q'])) (fun q' => hb (by simp [q'])) (fun q' => hb (by simp [q'])) q)
    have I1 := ez_turned (t' := s.toks + 1) (T2 := s.heap.objs.size + 1) I hk' hf (Nat.le_refl _) (Nat.le_succ _) w1 w2 n12
    have f1 : H s.heap.objs.size = none := I.hok.fresh (Nat.le_refl _)
    have f2 : H (s.heap.objs.size + 1) = none := I.hok.fresh (Nat.le_succ _)
    refine ⟨.ref (s.heap.objs.size + 1), _, I1, rfl, ⟨_, _, x, y, rfl, f1, f2, n12, rfl, fun l hl => by rw [I.list_inj hl hqx]; exact hx, fun l hl => by rw [I.list_inj hl hqy]; exact hy⟩, ⟨⟨.ref s.heap.objs.size, ?_⟩, ?_, ?_, ?_, ?_, ?_⟩, fun c hcm => ?_⟩
    · have q1 : ((i + 1 : Nat) : Int) = (i : Int) + 1 := by omega
      rw [q1]; exact e''
    · exact z'.keep fun o q => (sb.2 _ AP.ez.symm).trans q
    · exact (sb.2 _ AP.eI.symm).trans (hk _ _ AP.eI.symm AP.D.TIz AP.D.TITO AP.D.TIi1 AP.D.TIi2 hTI)
    · obtain ⟨p', q', TO'⟩ := TO'
      exact ⟨p', q', (sb.2 _ AP.eO.symm).trans TO'⟩
    · exact j1.at fun o q => (sb.2 _ AP.e1.symm).trans q
    · exact j2.at fun o q => (sb.2 _ AP.e2.symm).trans q
    · have hlt : c < s.heap.objs.size := by
        rcases ez_mem.mp hcm with q | q | q | q | q | q
        · rw [q]; exact el
        · rw [q]; obtain ⟨_, ho, _⟩ := hz.get; exact Heap.lt_size ho
        · rw [q]; exact Heap.lt_size hTI
        · rw [q]; exact Heap.lt_size hTO
        · rw [q]; obtain ⟨_, e1, _⟩ := h1; exact Heap.lt_size e1
        · rw [q]; obtain ⟨_, e2, _⟩ := h2; exact Heap.lt_size e2
      rw [upd_ne (Nat.ne_of_lt (Nat.lt_succ_of_lt hlt)), upd_ne (Nat.ne_of_lt hlt)]
      exact (hf c hcm).1
  done := by
    intro X hP hw hK hc i pins s σ H E I hf st hg
    subst hP hw hK
    obtain ⟨⟨old, he⟩, hz, hTI, ⟨x0, y0, hTO⟩, h1, h2⟩ := st
    obtain ⟨xs, ys, hqx, hqy, hend⟩ := hg
    obtain ⟨its, rv, p, _⟩ := I.list hqx
    obtain ⟨its2, rv2, p2, _⟩ := I.list hqy
    have l1 := rv.length
    have l2 := rv2.length
    have hen : its.toArray[i]? = none ∨ its2.toArray[i]? = none := by
      rcases hend with q | q
      · exact .inl (by simp; omega)
      · exact .inr (by simp; omega)
    exact ez_pyNext_end (I.ok.hd hc) AP he hz hTI hTO h1 h2 p.isList p2.isList hen fun h' hk => ⟨rfl, I.turnedL (t' := s.toks) (ch := [e, z, TI, TO, i1, i2]) (fun c o hb q =>
      hk c o (fun q' => hb (by simp [q'])) (fun q' => hb (by simp [q'])) (fun q' => hb (by simp [q'])) (fun q' => hb (by simp [q'])) (fun q' => hb (by simp [q'])) q) hf⟩
  self := fun A i s Q E st h => let ⟨⟨_, he⟩, _⟩ := st; wpAny_pyIter_enum he h
def iEz (K : PySem.W.Frag) (ta : TA) : TI := fun σ H R => ta σ H fun vs H1 => ∃ a b xs ys, vs = [.ref a, .ref b] ∧ SqL K H1 a xs ∧ SqL K H1 b ys ∧ R (Itez K a b) H1
theorem pi_ez {X : Cx} {e e2 : Expr} {ta : TA} {p pos p' pos' tpos : Pos} {elts : List Expr} {kk : Nat} (hg : Gl X "enumerate") (hm : X.mg "enumerate" = none) (hg' : Gl X "zip") (hm' : X.mg "zip" = none) (ha : PA X [e, e2] ta)
    (hs : starEach [e, e2] X.env = (false, eval e X.env) :: starEach [e2] X.env := by rfl) (hpl : (backTo pos' (starEach [e2] X.env)).any (·.1) = false := by rfl)
    (hs' : starEach [.Call (.Name "zip" p') [e, e2] [] pos'] X.env = [(false, eval (.Call (.Name "zip" p') [e, e2] [] pos') X.env)] := by rfl) :
    PI X (.Tuple elts kk tpos) (.Call (.Name "enumerate" p) [.Call (.Name "zip" p') [e, e2] [] pos'] [] pos) (iEz X.K ta) := by
  refine ⟨fun pins s σ H R I h => ?_⟩
  refine Call_ (ld_blt I hg hm boot_enumerate (PyProof.Rows.callWith_type1 ?_ hs' rfl))
  rw [hs']
  refine Calls.spliced_cons ?_
  refine Call_ (ld_blt I hg' hm' PyProof.Rows.boot_zip (PyProof.Rows.callWith_type1 (thn (ha.run pos' pins s σ H _ I h) fun us s1 ⟨vs, H1, I1, r1, q1⟩ => ?_) hs hpl))
  obtain ⟨a, b, xs, ys, ex, hqx, hqy, q⟩ := q1
  subst ex
  cases r1 with
  | cons r rr =>
    cases rr with
    | cons r' rr =>
      cases rr
      cases r
      cases r'
      obtain ⟨its, rv, p1, _⟩ := I1.list hqx
      obtain ⟨its2, rv2, p2, _⟩ := I1.list hqy
      have la : a < s1.heap.objs.size := p1.lt
      have lb : b < s1.heap.objs.size := p2.lt
      refine call_zip_2 p1.isList p2.isList fun h' hz hTI hTO h1 h2 hsz hk => ?_
      refine Calls.spliced_nil ?_
      refine ez_call_enum (s := { s1 with heap := h' }) hz fun h'' he hsz' hk' => wpAny_pyIter_enum he ?_
      have I2 : Inv X pins σ H1 { s1 with heap := h'' } := I1.kept (t' := s1.toks) fun c o w' => hk' c o (hk c o w')
      have eN : (Shared.heap { s1 with heap := h' }).objs.size = s1.heap.objs.size + 5 := hsz
      rw [eN] at he ⊢
      have hk'' : ∀ c o, h'.get? c = some o → h''.get? c = some o := hk'
      have AP : EzApart (s1.heap.objs.size + 5) (s1.heap.objs.size + 4) (s1.heap.objs.size + 2) (s1.heap.objs.size + 3) s1.heap.objs.size (s1.heap.objs.size + 1) a b :=
        ⟨PySem.W.ktu_apart s1.heap.objs.size a b la lb, by simp, by simp, by simp, by simp, by simp, Nat.ne_of_lt (Nat.lt_of_lt_of_le la (Nat.le_add_right _ _)), Nat.ne_of_lt (Nat.lt_of_lt_of_le lb (Nat.le_add_right _ _))⟩
      refine ⟨s1.heap.objs.size + 5, [s1.heap.objs.size + 5, s1.heap.objs.size + 4, s1.heap.objs.size + 2, s1.heap.objs.size + 3, s1.heap.objs.size, s1.heap.objs.size + 1], _, _, H1, rfl, I2, turn_ez AP,
        ⟨⟨_, he⟩, .inl (hk'' _ _ hz), hk'' _ _ hTI, ⟨_, _, hk'' _ _ hTO⟩, h1.at fun o w' => hk'' _ o w', h2.at fun o w' => hk'' _ o w'⟩, fun c hcm => ?_, q⟩
      have hle : s1.heap.objs.size ≤ c := by
        rcases ez_mem.mp hcm with z | z | z | z | z | z
        · rw [z]; exact Nat.le_add_right _ _
        · rw [z]; exact Nat.le_add_right _ _
        · rw [z]; exact Nat.le_add_right _ _
        · rw [z]; exact Nat.le_add_right _ _
        · rw [z]; exact Nat.le_refl _
        · rw [z]; exact Nat.le_add_right _ _
      exact I1.fpOk hle (I1.hok.fresh hle)
/-- a new pair of the number and a new pair of the two items -/
def YEz (xs ys : List V) : Nat → Hp → V → Hp → Prop := fun i H v H' => ∃ T1 T2 x y, v = .ref T2 ∧ H T1 = none ∧ H T2 = none ∧ T1 ≠ T2 ∧ H' = upd (upd H T1 (.tup [x, y])) T2 (.tup [.int (i : Nat), .ref T1]) ∧ xs[i]? = some x ∧ ys[i]? = some y
theorem walk_ez {K : PySem.W.Frag} {a b : Addr} {xs ys : List V} {n : Nat} (hn : n = min xs.length ys.length) : Walk (Itez K a b) n (fun H => SqL K H a xs ∧ SqL K H b ys) (YEz xs ys) := by
  subst hn
  refine ⟨fun i _ hi q => ?_, fun _ q => ⟨xs, ys, q.1, q.2, by omega⟩, fun i H v H' _ q y => ?_⟩
  · have h1 : i < xs.length := by omega
    have h2 : i < ys.length := by omega
    exact ⟨xs, ys, xs[i], ys[i], q.1, q.2, by simp [h1], by simp [h2]⟩
  · obtain ⟨T1, T2, x, z, h1, h2, h3, h4, h5, h6, h7⟩ := y
    exact ⟨T1, T2, x, z, h1, h2, h3, h4, h5, h6 xs q.1, h7 ys q.2⟩
end

/-- bits of a number that a period may have -/
def E8 : Nat := 8000
/-! ### numbers: the inverse by Euclid's steps -/
structure InvI (a m o n ot nt : Int) : Prop where
  n0 : 0 ≤ n
  o0 : 0 < o
  g : Int.gcd o n = 1
  d1 : m ∣ a * ot - o
  d2 : m ∣ a * nt - n
  sz : o * nt.natAbs + n * ot.natAbs ≤ m
theorem natAbs_sub_mul (x y q : Int) (hq : 0 ≤ q) : ((x - q * y).natAbs : Int) ≤ x.natAbs + q * y.natAbs := by
  have h1 : (x - q * y).natAbs ≤ x.natAbs + (q * y).natAbs := by omega
  have h2 : ((q * y).natAbs : Int) = q * y.natAbs := by
    rw [Int.natAbs_mul]
    have : (q.natAbs : Int) = q := by omega
    rw [Int.natCast_mul, this]
  omega
theorem InvI.step {a m o n ot nt : Int} (h : InvI a m o n ot nt) (hn : 0 < n) : InvI a m n (o - o / n * n) nt (ot - o / n * nt) := by
  have hq : 0 ≤ o / n := Int.ediv_nonneg (by have := h.o0; omega) (by omega)
  have e : o - o / n * n = o % n := by
    have := Int.emod_add_mul_ediv o n
    rw [Int.mul_comm] at this
    omega
  refine ⟨?_, hn, ?_, h.d2, ?_, ?_⟩
  · rw [e]; exact Int.emod_nonneg _ (by omega)
  · have g := h.g
    rw [show o - o / n * n = o - (o / n) * n from rfl, Int.gcd_sub_mul_right_right, Int.gcd_comm]
    exact g
  · have h1 := h.d1
    have h2 := h.d2
    have : a * (ot - o / n * nt) - (o - o / n * n) = (a * ot - o) - (o / n) * (a * nt - n) := by grind
    rw [this]
    exact Int.dvd_sub h1 (Int.dvd_mul_of_dvd_right h2)
  · have b := natAbs_sub_mul ot nt (o / n) hq
    have h3 : n * ((ot - o / n * nt).natAbs : Int) ≤ n * (ot.natAbs + o / n * nt.natAbs) := Int.mul_le_mul_of_nonneg_left b (by omega)
    have := h.sz
    have e2 : n * (ot.natAbs + o / n * nt.natAbs) + (o - o / n * n) * nt.natAbs = n * (ot.natAbs : Int) + o * nt.natAbs := by grind
    omega
theorem InvI.start {a m : Int} (hm : 0 < m) (g : Int.gcd m a = 1) : InvI a m m (a % m) 0 1 := by
  refine ⟨Int.emod_nonneg _ (by omega), hm, ?_, ?_, ?_, ?_⟩
  · rw [show a % m = a - m * (a / m) by have := Int.emod_add_mul_ediv a m; omega, Int.gcd_sub_mul_left_right]; exact g
  · exact ⟨-1, by grind⟩
  · exact ⟨a / m, by have := Int.emod_add_mul_ediv a m; grind⟩
  · simp
theorem InvI.nt_le {a m o n ot nt : Int} (h : InvI a m o n ot nt) : (nt.natAbs : Int) ≤ m := by
  have h1 := h.sz
  have h2 : (1 : Int) * nt.natAbs ≤ o * nt.natAbs := Int.mul_le_mul_of_nonneg_right (by have := h.o0; omega) (by omega)
  have h3 : 0 ≤ n * (ot.natAbs : Int) := Int.mul_nonneg h.n0 (by omega)
  omega
theorem InvI.fin {a m o ot nt : Int} (h : InvI a m o 0 ot nt) (hm : 0 < m) : 0 ≤ ot % m ∧ ot % m < m ∧ m ∣ a * (ot % m) - 1 := by
  have g := h.g
  rw [Int.gcd_zero_right] at g
  have o1 : o = 1 := by have := h.o0; omega
  refine ⟨Int.emod_nonneg _ (by omega), Int.emod_lt_of_pos _ hm, ?_⟩
  have h1 := h.d1
  rw [o1] at h1
  have : a * (ot % m) - 1 = (a * ot - 1) - m * (a * (ot / m)) := by
    have := Int.emod_add_mul_ediv ot m
    grind
  rw [this]
  exact Int.dvd_sub h1 (Int.dvd_mul_right _ _)
/-- the one number from 0 below m that inverts a by m -/
theorem inv_uniq {a m r s : Int} (hm : 0 < m) (hr : 0 ≤ r ∧ r < m ∧ m ∣ a * r - 1) (hs : 0 ≤ s ∧ s < m ∧ m ∣ a * s - 1) : r = s := by
  obtain ⟨r0, r1, x, hx⟩ := hr
  obtain ⟨s0, s1, y, hy⟩ := hs
  have h : m ∣ r - s := by
    refine ⟨s * x - r * y + 0, ?_⟩
    grind
  obtain ⟨k, hk⟩ := h
  have : k = 0 := by
    by_cases h0 : k = 0
    · exact h0
    · exfalso
      by_cases h1 : 0 < k
      · have : m * 1 ≤ m * k := Int.mul_le_mul_of_nonneg_left (by omega) (by omega)
        omega
      · have : m * k ≤ m * (-1) := Int.mul_le_mul_of_nonneg_left (by omega) (by omega)
        omega
  rw [this] at hk
  omega

/-! ### numbers: lamps seen and met -/
/-- what is seen of (p2, b2) at the own beats of (p1, b1): (q, r) -/
structure SeenIs (p1 b1 p2 b2 q r : Int) : Prop where
  q0 : 0 < q
  r0 : 0 ≤ r
  rq : r < q
  qe : q = p2 / (Int.gcd p1 p2 : Int)
  iff : ∀ t : Int, q ∣ t - r ↔ p2 ∣ b1 + t * p1 - b2
/-- the meeting of (p1, b1) and (p2, b2): (m, c) -/
structure MeetIs (p1 b1 p2 b2 m c : Int) : Prop where
  m0 : 0 < m
  c0 : 0 ≤ c
  cm : c < m
  me : m = p1 * (p2 / (Int.gcd p1 p2 : Int))
  iff : ∀ x : Int, m ∣ x - c ↔ p1 ∣ x - b1 ∧ p2 ∣ x - b2
theorem dvd_iff_emod {a b : Int} : b % a = 0 ↔ a ∣ b := ⟨Int.dvd_of_emod_eq_zero, Int.emod_eq_zero_of_dvd⟩
theorem dvd_emod_sub {q x t : Int} : q ∣ t - x % q ↔ q ∣ t - x := by
  have h := Int.emod_add_mul_ediv x q
  constructor
  · rintro ⟨k, hk⟩
    exact ⟨k - x / q, by grind⟩
  · rintro ⟨k, hk⟩
    exact ⟨k + x / q, by grind⟩
theorem gcd_pos {a b : Int} (h : 0 < a) : (0 : Int) < (Int.gcd a b : Int) := by
  have := Int.gcd_pos_of_ne_zero_left b (a := a) (by omega)
  omega
theorem gcd_cop {a b : Int} (h : 0 < a) : Int.gcd (b / (Int.gcd a b : Int)) (a / (Int.gcd a b : Int)) = 1 := by
  have h0 : 0 < Int.gcd a b := Int.gcd_pos_of_ne_zero_left b (by omega)
  rw [Int.gcd_comm]
  exact Int.gcd_ediv_gcd_ediv_gcd h0
theorem seen_is {p1 b1 p2 b2 v : Int} (h1 : 0 < p1) (h2 : 0 < p2) (hg : (Int.gcd p1 p2 : Int) ∣ b2 - b1) (hv : p2 / (Int.gcd p1 p2 : Int) ∣ p1 / (Int.gcd p1 p2 : Int) * v - 1) :
    SeenIs p1 b1 p2 b2 (p2 / (Int.gcd p1 p2 : Int)) (((b2 - b1) / (Int.gcd p1 p2 : Int) * v) % (p2 / (Int.gcd p1 p2 : Int))) := by
  have g0 := gcd_pos (a := p1) (b := p2) h1
  have cop := gcd_cop (a := p1) (b := p2) h1
  obtain ⟨P, hP⟩ : (Int.gcd p1 p2 : Int) ∣ p1 := Int.gcd_dvd_left ..
  obtain ⟨q, hq⟩ : (Int.gcd p1 p2 : Int) ∣ p2 := Int.gcd_dvd_right ..
  obtain ⟨A, hA⟩ := hg
  generalize hgg : (Int.gcd p1 p2 : Int) = g at *
  have eP : p1 / g = P := by rw [hP]; exact Int.mul_ediv_cancel_left _ (by omega)
  have eq : p2 / g = q := by rw [hq]; exact Int.mul_ediv_cancel_left _ (by omega)
  have eA : (b2 - b1) / g = A := by rw [hA]; exact Int.mul_ediv_cancel_left _ (by omega)
  rw [eP, eq] at cop hv
  rw [eq, eA]
  have q0 : 0 < q := by
    by_cases hq0 : 0 < q
    · exact hq0
    · exfalso
      have : g * q ≤ g * 0 := Int.mul_le_mul_of_nonneg_left (by omega) (by omega)
      omega
  refine ⟨q0, Int.emod_nonneg _ (by omega), Int.emod_lt_of_pos _ q0, by rw [hgg, eq], fun t => ?_⟩
  rw [dvd_emod_sub]
  have e1 : b1 + t * p1 - b2 = g * (P * t - A) := by grind
  rw [e1, hq]
  have e2 : g * q ∣ g * (P * t - A) ↔ q ∣ P * t - A := Int.mul_dvd_mul_iff_left (by omega)
  rw [e2]
  obtain ⟨k, hk⟩ := hv
  constructor
  · rintro ⟨j, hj⟩
    exact ⟨P * j + A * k, by grind⟩
  · rintro ⟨j, hj⟩
    exact ⟨v * (j - A * k) - k * (t - A * v), by grind⟩
theorem seen_none {p1 b1 p2 b2 : Int} (hg : ¬ (Int.gcd p1 p2 : Int) ∣ b2 - b1) (x : Int) (h1 : p1 ∣ x - b1) (h2 : p2 ∣ x - b2) : False := by
  apply hg
  have d1 : (Int.gcd p1 p2 : Int) ∣ x - b1 := Int.dvd_trans (Int.gcd_dvd_left ..) h1
  have d2 : (Int.gcd p1 p2 : Int) ∣ x - b2 := Int.dvd_trans (Int.gcd_dvd_right ..) h2
  have : b2 - b1 = (x - b1) - (x - b2) := by omega
  rw [this]
  exact Int.dvd_sub d1 d2
theorem meet_is {p1 b1 p2 b2 q r : Int} (h1 : 0 < p1) (S : SeenIs p1 b1 p2 b2 q r) : MeetIs p1 b1 p2 b2 (p1 * q) ((b1 + p1 * r) % (p1 * q)) := by
  have q0 := S.q0
  have m0 : 0 < p1 * q := Int.mul_pos h1 q0
  refine ⟨m0, Int.emod_nonneg _ (by omega), Int.emod_lt_of_pos _ m0, by rw [S.qe], fun x => ?_⟩
  rw [dvd_emod_sub]
  constructor
  · rintro ⟨k, hk⟩
    have hx : x = b1 + (r + q * k) * p1 := by grind
    refine ⟨⟨r + q * k, by grind⟩, ?_⟩
    rw [hx]
    exact (S.iff (r + q * k)).mp ⟨k, by grind⟩
  · rintro ⟨⟨t, ht⟩, h⟩
    have hx : x = b1 + t * p1 := by grind
    rw [hx] at h
    obtain ⟨k, hk⟩ := (S.iff t).mpr h
    exact ⟨k, by grind⟩

theorem dvd_small {m x : Int} (h0 : -m < x) (h1 : x < m) (d : m ∣ x) : x = 0 := by
  obtain ⟨k, hk⟩ := d
  have m0 : 0 < m := by omega
  have : k = 0 := by
    by_cases h : k = 0
    · exact h
    · exfalso
      by_cases hp : 0 < k
      · have : m * 1 ≤ m * k := Int.mul_le_mul_of_nonneg_left (by omega) (by omega)
        omega
      · have : m * k ≤ m * (-1) := Int.mul_le_mul_of_nonneg_left (by omega) (by omega)
        omega
  rw [this] at hk
  omega
theorem MeetIs.at {p1 b1 p2 b2 m c : Int} (h : MeetIs p1 b1 p2 b2 m c) : p1 ∣ c - b1 ∧ p2 ∣ c - b2 := (h.iff c).mp ⟨0, by omega⟩
theorem MeetIs.lcm {p1 b1 p2 b2 m c : Int} (h : MeetIs p1 b1 p2 b2 m c) : m = p1 * p2 / (Int.gcd p1 p2 : Int) := by
  rw [h.me]
  exact (Int.mul_ediv_assoc p1 (Int.gcd_dvd_right ..)).symm
theorem MeetIs.swap {p1 b1 p2 b2 m c m' c' : Int} (h : MeetIs p1 b1 p2 b2 m c) (h' : MeetIs p2 b2 p1 b1 m' c') : m = m' ∧ c = c' := by
  have e : m = m' := by
    rw [h.lcm, h'.lcm, Int.gcd_comm, Int.mul_comm]
  refine ⟨e, ?_⟩
  have d := h'.at
  have d2 : m ∣ c' - c := (h.iff c').mpr ⟨d.2, d.1⟩
  have := dvd_small (by have := h.cm; have := h'.c0; have := h'.cm; omega) (by have := h.c0; have := h'.cm; omega) d2
  omega
/-- the beats from 0 below n that pass -/
def sieve (n : Nat) (f : Int → Bool) : List Int := ((List.range n).map fun (i : Nat) => (i : Int)).filter f
theorem sieve_succ (n : Nat) (f : Int → Bool) : sieve (n + 1) f = sieve n f ++ (if f n then [(n : Int)] else []) := by
  unfold sieve
  rw [List.range_succ, List.map_append, List.filter_append]
  congr 1
  simp [List.filter_cons]
theorem sieve_mem {n : Nat} {f : Int → Bool} {x : Int} : x ∈ sieve n f ↔ 0 ≤ x ∧ x < n ∧ f x = true := by
  unfold sieve
  rw [List.mem_filter, List.mem_map]
  constructor
  · rintro ⟨⟨i, hi, rfl⟩, h⟩
    have := List.mem_range.mp hi
    exact ⟨by omega, by omega, h⟩
  · rintro ⟨h0, h1, h⟩
    exact ⟨⟨x.toNat, List.mem_range.mpr (by omega), by omega⟩, h⟩
theorem sieve_len (n : Nat) (f : Int → Bool) : (sieve n f).length ≤ n := by
  unfold sieve
  exact Nat.le_trans (List.length_filter_le _ _) (by simp)
theorem sieve_none {n : Nat} {f : Int → Bool} (h : ∀ x : Int, 0 ≤ x → x < n → f x = false) : sieve n f = [] := by
  apply List.eq_nil_iff_forall_not_mem.mpr
  intro x hx
  obtain ⟨h0, h1, h2⟩ := sieve_mem.mp hx
  rw [h x h0 h1] at h2
  cases h2
theorem sieve_one {n : Nat} {f : Int → Bool} {c : Int} (c0 : 0 ≤ c) (cn : c < n) (h : ∀ x : Int, 0 ≤ x → x < n → (f x = true ↔ x = c)) : sieve n f = [c] := by
  induction n with
  | zero => omega
  | succ n ih =>
    rw [sieve_succ]
    by_cases e : c = n
    · rw [sieve_none, if_pos ((h n (by omega) (by omega)).mpr (by omega)), e]
      · rfl
      · intro x h0 h1
        have := h x h0 (by omega)
        cases hf : f x with
        | false => rfl
        | true => have := this.mp hf; omega
    · rw [ih (by omega) (fun x h0 h1 => h x h0 (by omega)), if_neg (fun hf => e ((h n (by omega) (by omega)).mp hf).symm)]
      rfl
theorem sieve_sieve (n : Nat) (f g : Int → Bool) : (sieve n f).filter g = sieve n (fun x => f x && g x) := by
  unfold sieve
  rw [List.filter_filter]
  congr 1
  funext x
  exact Bool.and_comm _ _
theorem MeetIs.self {p b m c : Int} (p0 : 0 < p) (b0 : 0 ≤ b) (bp : b < p) (h : MeetIs p b p b m c) : m = p ∧ c = b := by
  have e : m = p := by
    rw [h.lcm, Int.gcd_self]
    have : ((p.natAbs : Nat) : Int) = p := by omega
    rw [this]
    exact Int.mul_ediv_cancel_left _ (by omega)
  have d := h.at.1
  have := dvd_small (by have := h.c0; omega) (by have := h.cm; omega) d
  exact ⟨e, by omega⟩
theorem gcd_of_dvd {m p : Int} (p0 : 0 < p) (d : p ∣ m) : (Int.gcd m p : Int) = p := by
  rw [Int.gcd_eq_right_iff_dvd (by omega) |>.mpr d]
/-- the meeting of what one lamp hides and the hider -/
theorem MeetIs.within {m c p b m' c' : Int} (p0 : 0 < p) (c0 : 0 ≤ c) (cm : c < m) (d : p ∣ m) (h : MeetIs m c p b m' c') : m' = m ∧ c' = c := by
  have e : m' = m := by
    rw [h.me, gcd_of_dvd p0 d, Int.ediv_self (by omega), Int.mul_one]
  have d := h.at.1
  rw [e] at h
  have := dvd_small (by have := h.c0; omega) (by have := h.cm; omega) d
  exact ⟨e, by omega⟩
theorem dvd_sub_emod {g p x : Int} (d : g ∣ p) : g ∣ x - x % p := by
  have : x - x % p = p * (x / p) := by have := Int.emod_add_mul_ediv x p; omega
  rw [this]
  exact Int.dvd_mul_of_dvd_left d
theorem SeenIs.uniq {p1 b1 p2 b2 q r q' r' : Int} (h : SeenIs p1 b1 p2 b2 q r) (h' : SeenIs p1 b1 p2 b2 q' r') : q = q' ∧ r = r' := by
  have e : q = q' := by rw [h.qe, h'.qe]
  refine ⟨e, ?_⟩
  have d : q ∣ r' - r := (h.iff r').mpr ((h'.iff r').mp ⟨0, by omega⟩)
  have := dvd_small (by have := h.rq; have := h'.r0; omega) (by have := h.r0; have := h'.rq; omega) d
  omega
theorem SeenIs.always {p1 b1 p2 b2 q r : Int} (p10 : 0 < p1) (p20 : 0 < p2) (h : SeenIs p1 b1 p2 b2 q r) (hg : (Int.gcd p1 p2 : Int) ∣ b2 - b1) : decide (q = 1 ∧ r = 0 % 1) = (decide (p2 ∣ p1) && decide (p2 ∣ b1 - b2)) := by
  have g0 := gcd_pos (a := p1) (b := p2) p10
  have gd1 : (Int.gcd p1 p2 : Int) ∣ p1 := Int.gcd_dvd_left ..
  have gd2 : (Int.gcd p1 p2 : Int) ∣ p2 := Int.gcd_dvd_right ..
  have qe := h.qe
  have q1 : p2 = (Int.gcd p1 p2 : Int) * q := by rw [qe]; exact (Int.mul_ediv_cancel' gd2).symm
  by_cases e : q = 1
  · have r0 : r = 0 := by have := h.r0; have := h.rq; omega
    rw [e, Int.mul_one] at q1
    rw [← q1] at gd1 hg
    have d2 : p2 ∣ b1 - b2 := by
      rw [show b1 - b2 = -(b2 - b1) by omega]
      exact Int.dvd_neg.mpr hg
    simp [e, r0, gd1, d2]
  · have : ¬ p2 ∣ p1 := fun d => e (by
      have gg : (Int.gcd p1 p2 : Int) = p2 := gcd_of_dvd p20 d
      rw [qe, gg]
      exact Int.ediv_self (by omega))
    simp [e, this]
theorem seen_no_always {p1 b1 p2 b2 : Int} (p20 : 0 < p2) (hn : ¬ (Int.gcd p1 p2 : Int) ∣ b2 - b1) : (decide (p2 ∣ p1) && decide (p2 ∣ b1 - b2)) = false := by
  by_cases d : p2 ∣ p1
  · have gg : (Int.gcd p1 p2 : Int) = p2 := gcd_of_dvd p20 d
    have : ¬ p2 ∣ b1 - b2 := fun e => hn (by
      rw [gg, show b2 - b1 = -(b1 - b2) by omega]
      exact Int.dvd_neg.mpr e)
    simp [this]
  · simp [d]
theorem SeenIs.self {p b q r : Int} (p0 : 0 < p) (h : SeenIs p b p b q r) : q = 1 ∧ r = 0 := by
  have e : q = 1 := by
    rw [h.qe, Int.gcd_self]
    have : ((p.natAbs : Nat) : Int) = p := by omega
    rw [this]
    exact Int.ediv_self (by omega)
  exact ⟨e, by have := h.r0; have := h.rq; omega⟩

/-! ### numbers: three lamps -/
theorem inv_from : ∀ (k : Nat) {a m o n ot nt : Int}, n.toNat ≤ k → 0 < m → InvI a m o n ot nt → ∃ r : Int, m ∣ a * r - 1
  | 0, a, m, o, n, ot, nt, hk, hm, h => by
    have n0 : n = 0 := by have := h.n0; omega
    subst n0
    exact ⟨_, (h.fin hm).2.2⟩
  | k + 1, a, m, o, n, ot, nt, hk, hm, h => by
    by_cases hn : n = 0
    · subst hn
      exact ⟨_, (h.fin hm).2.2⟩
    · have n0 := h.n0
      have hp : 0 < n := by omega
      have J := h.step hp
      have e : o - o / n * n = o % n := by
        have := Int.emod_add_mul_ediv o n
        rw [Int.mul_comm] at this
        omega
      have := Int.emod_lt_of_pos o hp
      exact inv_from k (by omega) hm J
theorem inv_ex {a m : Int} (hm : 0 < m) (g : Int.gcd m a = 1) : ∃ r : Int, m ∣ a * r - 1 := inv_from _ (Nat.le_refl _) hm (InvI.start hm g)
theorem bezout {a b : Int} (ha : 0 < a) : ∃ x y : Int, (Int.gcd a b : Int) = a * x + b * y := by
  have g0 := gcd_pos (a := a) (b := b) ha
  have cop := gcd_cop (a := a) (b := b) ha
  obtain ⟨A, hA⟩ : (Int.gcd a b : Int) ∣ a := Int.gcd_dvd_left ..
  obtain ⟨B, hB⟩ : (Int.gcd a b : Int) ∣ b := Int.gcd_dvd_right ..
  generalize (Int.gcd a b : Int) = g at *
  have eA : a / g = A := by rw [hA]; exact Int.mul_ediv_cancel_left _ (by omega)
  have eB : b / g = B := by rw [hB]; exact Int.mul_ediv_cancel_left _ (by omega)
  rw [eA, eB, Int.gcd_comm] at cop
  have A0 : 0 < A := by
    by_cases h : 0 < A
    · exact h
    · exfalso
      have : g * A ≤ g * 0 := Int.mul_le_mul_of_nonneg_left (by omega) (by omega)
      omega
  obtain ⟨v, k, hk⟩ := inv_ex A0 cop
  exact ⟨-k, v, by grind⟩
/-- what the common parts of each with a third divide, the common part of their least multiple with it divides -/
theorem three_parts {p1 p2 p3 z : Int} (h1 : 0 < p1) (h2 : 0 < p2) (d1 : (Int.gcd p1 p3 : Int) ∣ z) (d2 : (Int.gcd p2 p3 : Int) ∣ z) : (Int.gcd (p1 * (p2 / (Int.gcd p1 p2 : Int))) p3 : Int) ∣ z := by
  have g0 := gcd_pos (a := p1) (b := p2) h1
  have gd2 : (Int.gcd p1 p2 : Int) ∣ p2 := Int.gcd_dvd_right ..
  obtain ⟨x, y, hxy⟩ := bezout (a := p1) (b := p2) h1
  obtain ⟨x1, y1, h13⟩ := bezout (a := p1) (b := p3) h1
  obtain ⟨x2, y2, h23⟩ := bezout (a := p2) (b := p3) h2
  obtain ⟨k1, e1⟩ := d1
  obtain ⟨k2, e2⟩ := d2
  obtain ⟨B, hB⟩ := gd2
  obtain ⟨A, hA⟩ : (Int.gcd p1 p2 : Int) ∣ p1 := Int.gcd_dvd_left ..
  obtain ⟨u, hu⟩ : (Int.gcd (p1 * (p2 / (Int.gcd p1 p2 : Int))) p3 : Int) ∣ p1 * (p2 / (Int.gcd p1 p2 : Int)) := Int.gcd_dvd_left ..
  obtain ⟨w, hw⟩ : (Int.gcd (p1 * (p2 / (Int.gcd p1 p2 : Int))) p3 : Int) ∣ p3 := Int.gcd_dvd_right ..
  generalize (Int.gcd (p1 * (p2 / (Int.gcd p1 p2 : Int))) p3 : Int) = g at *
  have eB : p2 / (Int.gcd p1 p2 : Int) = B := by
    conv => lhs; lhs; rw [hB]
    exact Int.mul_ediv_cancel_left _ (by omega)
  rw [eB] at hu
  generalize (Int.gcd p1 p2 : Int) = d at *
  rw [h13] at e1
  rw [h23] at e2
  -- 1 = A x + B y
  have one : A * x + B * y = 1 := by
    have : d * (A * x + B * y) = d * 1 := by grind
    exact Int.eq_of_mul_eq_mul_left (by omega) this
  -- z = z (A x + B y); A z by the second, B z by the first
  have ez : z = A * x * z + B * y * z := by grind
  have t1 : B * z = (p1 * B) * (x1 * k1) + p3 * (y1 * k1 * B) := by grind
  have t2 : A * z = (p1 * B) * (x2 * k2) + p3 * (y2 * k2 * A) := by grind
  exact ⟨u * (x1 * k1) * y + w * (y1 * k1 * B) * y + u * (x2 * k2) * x + w * (y2 * k2 * A) * x, by grind⟩
/-- where a lamp shines, or none -/
abbrev OLp := Option (Int × Int)
def Shn : OLp → Int → Prop
  | none, _ => False
  | some l, t => l.1 ∣ t - l.2
def OkL (o : OLp) : Prop := ∀ l, o = some l → 0 < l.1 ∧ 0 ≤ l.2 ∧ l.2 < l.1
theorem shn_inj {o o' : OLp} (h : OkL o) (h' : OkL o') (e : ∀ t, Shn o t ↔ Shn o' t) : o = o' := by
  cases o with
  | none =>
    cases o' with
    | none => rfl
    | some l' => exact ((e l'.2).mpr (by show l'.1 ∣ l'.2 - l'.2; rw [Int.sub_self]; exact Int.dvd_zero _)).elim
  | some l =>
    cases o' with
    | none => exact ((e l.2).mp (by show l.1 ∣ l.2 - l.2; rw [Int.sub_self]; exact Int.dvd_zero _)).elim
    | some l' =>
      obtain ⟨p, b⟩ := l
      obtain ⟨p', b'⟩ := l'
      obtain ⟨p0, b0, bp⟩ := h _ rfl
      obtain ⟨p0', b0', bp'⟩ := h' _ rfl
      dsimp only at *
      have e1 : p ∣ b' - b := (e b').mpr (by show p' ∣ b' - b'; rw [Int.sub_self]; exact Int.dvd_zero _)
      have e2 : p ∣ b' + p' - b := (e (b' + p')).mpr (by show p' ∣ b' + p' - b'; exact ⟨1, by omega⟩)
      have e3 : p' ∣ b + p - b' := (e (b + p)).mp (by show p ∣ b + p - b; exact ⟨1, by omega⟩)
      have e4 : p' ∣ b - b' := (e b).mp (by show p ∣ b - b; rw [Int.sub_self]; exact Int.dvd_zero _)
      have d1 : p ∣ p' := by
        have := Int.dvd_sub e2 e1
        rwa [show b' + p' - b - (b' - b) = p' by omega] at this
      have d2 : p' ∣ p := by
        have := Int.dvd_sub e3 e4
        rwa [show b + p - b' - (b - b') = p by omega] at this
      have pe : p = p' := Int.le_antisymm (Int.le_of_dvd p0' d1) (Int.le_of_dvd p0 d2)
      have := dvd_small (by omega) (by omega) e1
      have be : b = b' := by omega
      rw [pe, be]
/-- the lamp of both -/
def MeetO (x y o : OLp) : Prop := OkL o ∧ ∀ t, Shn o t ↔ Shn x t ∧ Shn y t
/-- what is seen of x at the own beats of l -/
def SeesO (l : Int × Int) (x o : OLp) : Prop := OkL o ∧ ∀ t, Shn o t ↔ Shn x (l.2 + t * l.1)
theorem MeetO.uniq {x y x' y' o o' : OLp} (h : MeetO x y o) (h' : MeetO x' y' o') (e : ∀ t, (Shn x t ∧ Shn y t) ↔ (Shn x' t ∧ Shn y' t)) : o = o' :=
  shn_inj h.1 h'.1 fun t => (h.2 t).trans ((e t).trans (h'.2 t).symm)
theorem MeetO.hit {x y o : OLp} (h : MeetO x y o) : o ≠ none ↔ ∃ t, Shn x t ∧ Shn y t := by
  constructor
  · intro hn
    cases e : o with
    | none => exact (hn e).elim
    | some l => exact ⟨l.2, (h.2 l.2).mp (by rw [e]; show l.1 ∣ l.2 - l.2; rw [Int.sub_self]; exact Int.dvd_zero _)⟩
  · rintro ⟨t, ht⟩ e
    have := (h.2 t).mpr ht
    rw [e] at this
    exact this

/-! ### the next beat of all -/
def AllS (ls : List (Int × Int)) (t : Int) : Prop := ∀ l ∈ ls, Shn (some l) t
def IsDue (ls : List (Int × Int)) (spot : Int) : Option Int → Prop
  | none => ∀ t, ¬ AllS ls t
  | some d => spot ≤ d ∧ AllS ls d ∧ ∀ t, spot ≤ t → AllS ls t → d ≤ t
theorem IsDue.uniq {ls : List (Int × Int)} {spot : Int} {d d' : Option Int} (h : IsDue ls spot d) (h' : IsDue ls spot d') : d = d' := by
  cases d with
  | none =>
    cases d' with
    | none => rfl
    | some e => exact (h e h'.2.1).elim
  | some e =>
    cases d' with
    | none => exact (h' e h.2.1).elim
    | some e' =>
      have h1 := h.2.2 e' h'.1 h'.2.1
      have h2 := h'.2.2 e h.1 h.2.1
      have : e = e' := by omega
      rw [this]
/-- the first beat of a lamp from t on -/
def nxt (l : Int × Int) (t : Int) : Int := t + (l.2 - t) % l.1
theorem nxt_ge {l : Int × Int} (h : 0 < l.1) (t : Int) : t ≤ nxt l t := by
  have := Int.emod_nonneg (l.2 - t) (show l.1 ≠ 0 by omega)
  unfold nxt
  omega
theorem nxt_lt {l : Int × Int} (h : 0 < l.1) (t : Int) : nxt l t < t + l.1 := by
  have := Int.emod_lt_of_pos (l.2 - t) h
  unfold nxt
  omega
theorem nxt_shn {l : Int × Int} (t : Int) : Shn (some l) (nxt l t) := by
  show l.1 ∣ nxt l t - l.2
  have := Int.emod_add_mul_ediv (l.2 - t) l.1
  refine ⟨-((l.2 - t) / l.1), ?_⟩
  unfold nxt
  rw [Int.mul_neg]
  omega
theorem nxt_le {l : Int × Int} (h : 0 < l.1) {t x : Int} (hx : t ≤ x) (hs : Shn (some l) x) : nxt l t ≤ x := by
  have h1 : l.1 ∣ x - l.2 := hs
  have h2 : l.1 ∣ nxt l t - l.2 := nxt_shn t
  have h3 := Int.dvd_sub h1 h2
  rw [show x - l.2 - (nxt l t - l.2) = x - nxt l t by omega] at h3
  have h4 := nxt_lt h t
  obtain ⟨k, hk⟩ := h3
  by_cases hz : k < 0
  · have : l.1 * k ≤ l.1 * (-1) := Int.mul_le_mul_of_nonneg_left (by omega) (by omega)
    omega
  · have : 0 ≤ l.1 * k := Int.mul_nonneg (by omega) (by omega)
    omega
theorem due_of {ls : List (Int × Int)} {u : Int × Int} (h : 0 < u.1) (hs : ∀ t, Shn (some u) t ↔ AllS ls t) (spot : Int) : IsDue ls spot (some (nxt u spot)) :=
  ⟨nxt_ge h spot, (hs _).mp (nxt_shn spot), fun _ ht ha => nxt_le h ht ((hs _).mpr ha)⟩
/-- through the own beats of the first -/
theorem due_first {ls : List (Int × Int)} {l0 u : Int × Int} (h0 : 0 < l0.1) (hu : 0 < u.1) (hm : l0 ∈ ls) (hs : ∀ t, Shn (some u) t ↔ AllS ls (l0.2 + t * l0.1)) (spot : Int) :
    IsDue ls spot (some (l0.2 + nxt u ((spot - l0.2 + l0.1 - 1) / l0.1) * l0.1)) := by
  generalize ho : (spot - l0.2 + l0.1 - 1) / l0.1 = o
  have e1 := Int.emod_add_mul_ediv (spot - l0.2 + l0.1 - 1) l0.1
  have e2 := Int.emod_lt_of_pos (spot - l0.2 + l0.1 - 1) h0
  have e3 := Int.emod_nonneg (spot - l0.2 + l0.1 - 1) (show l0.1 ≠ 0 by omega)
  rw [ho] at e1
  have g := nxt_ge hu o
  refine ⟨?_, (hs _).mp (nxt_shn o), fun t ht ha => ?_⟩
  · have : l0.1 * o ≤ l0.1 * nxt u o := Int.mul_le_mul_of_nonneg_left g (by omega)
    rw [Int.mul_comm (nxt u o)]
    omega
  · obtain ⟨k, hk⟩ : l0.1 ∣ t - l0.2 := ha l0 hm
    have et : t = l0.2 + k * l0.1 := by rw [Int.mul_comm]; omega
    have hko : o ≤ k := by
      by_cases hh : o ≤ k
      · exact hh
      · have : l0.1 * k ≤ l0.1 * (o - 1) := Int.mul_le_mul_of_nonneg_left (by omega) (by omega)
        rw [Int.mul_sub, Int.mul_one] at this
        omega
    have hk2 : Shn (some u) k := (hs k).mpr (by rw [← et]; exact ha)
    have := nxt_le hu hko hk2
    have : l0.1 * nxt u o ≤ l0.1 * k := Int.mul_le_mul_of_nonneg_left this (by omega)
    rw [et, Int.mul_comm (nxt u o), Int.mul_comm k]
    omega
theorem due_no {ls : List (Int × Int)} {l0 : Int × Int} (hm : l0 ∈ ls) (hs : ∀ t, ¬ AllS ls (l0.2 + t * l0.1)) (spot : Int) : IsDue ls spot none := by
  intro t ha
  obtain ⟨k, hk⟩ : l0.1 ∣ t - l0.2 := ha l0 hm
  exact hs k (by rw [show l0.2 + k * l0.1 = t by rw [Int.mul_comm]; omega]; exact ha)
/-- in turns -/
theorem turn_end {ls : List (Int × Int)} {spot sp : Int} (h : spot ≤ sp) (hl : ∀ t, spot ≤ t → AllS ls t → sp ≤ t) (ha : AllS ls sp) : IsDue ls spot (some sp) := ⟨h, ha, hl⟩
theorem turn_none {ls : List (Int × Int)} {spot sp : Int} (h : spot + 400 ≤ sp) (hl : ∀ t, spot ≤ t → AllS ls t → sp ≤ t) (h360 : ∀ l ∈ ls, l.1 ∣ 360) : IsDue ls spot none := by
  intro t ha
  have e1 := Int.emod_add_mul_ediv (t - spot) 360
  have e2 := Int.emod_lt_of_pos (t - spot) (show (0 : Int) < 360 by decide)
  have e3 := Int.emod_nonneg (t - spot) (show (360 : Int) ≠ 0 by decide)
  have := hl (spot + (t - spot) % 360) (by omega) (fun l hm => by
    have h1 : l.1 ∣ t - l.2 := ha l hm
    have h2 : l.1 ∣ 360 * ((t - spot) / 360) := Int.dvd_trans (h360 l hm) (Int.dvd_mul_right _ _)
    show l.1 ∣ spot + (t - spot) % 360 - l.2
    have := Int.dvd_sub h1 h2
    rwa [show t - l.2 - 360 * ((t - spot) / 360) = spot + (t - spot) % 360 - l.2 by omega] at this)
  omega
theorem turn_step {ls : List (Int × Int)} {spot sp m : Int} (hp : ∀ l ∈ ls, 0 < l.1) (hl : ∀ t, spot ≤ t → AllS ls t → sp ≤ t) (hm : ∃ l ∈ ls, m = nxt l sp) : ∀ t, spot ≤ t → AllS ls t → m ≤ t := by
  obtain ⟨l, hl', rfl⟩ := hm
  exact fun t ht ha => nxt_le (hp l hl') (hl t ht ha) (ha l hl')
theorem turn_all {ls : List (Int × Int)} {sp : Int} (hp : ∀ l ∈ ls, 0 < l.1) (h : ∀ l ∈ ls, nxt l sp ≤ sp) : AllS ls sp := by
  intro l hl
  have e : nxt l sp = sp := Int.le_antisymm (h l hl) (nxt_ge (hp l hl) sp)
  have := nxt_shn (l := l) sp
  rwa [e] at this
theorem nxt_next {l : Int × Int} (h : 0 < l.1) {d : Int} (hs : Shn (some l) d) : nxt l (d + 1) - d = l.1 := by
  have h1 := nxt_le (l := l) h (t := d + 1) (x := d + l.1) (by omega) (by
    have h2 : l.1 ∣ d - l.2 := hs
    show l.1 ∣ d + l.1 - l.2
    have := Int.dvd_add h2 (Int.dvd_refl l.1)
    rwa [show d - l.2 + l.1 = d + l.1 - l.2 by omega] at this)
  have h3 := nxt_ge (l := l) h (d + 1)
  have h4 : l.1 ∣ nxt l (d + 1) - l.2 := nxt_shn (d + 1)
  have h5 : l.1 ∣ d - l.2 := hs
  have h6 := Int.dvd_sub h4 h5
  rw [show nxt l (d + 1) - l.2 - (d - l.2) = nxt l (d + 1) - d by omega] at h6
  have := Int.le_of_dvd (by omega) h6
  omega
theorem ediv_abs {x p : Int} (h : 0 < p) : (x / p).natAbs ≤ x.natAbs := by
  by_cases hx : 0 ≤ x
  · have h1 := Int.ediv_nonneg hx (show 0 ≤ p by omega)
    have h2 := Int.ediv_le_self p hx
    omega
  · have h1 : x ≤ x / p := (Int.le_ediv_iff_mul_le h).mpr (by
      have : (-x) * 1 ≤ (-x) * p := Int.mul_le_mul_of_nonneg_left (by omega) (by omega)
      rw [Int.neg_mul, Int.neg_mul] at this
      omega)
    have h2 : x / p < 0 := Int.ediv_neg_of_neg_of_pos (by omega) h
    omega

/-! ### a light of k lamps that is bright at 2 ^ k beats in a row is bright for ever
Sequences of functions of coordinates, one coordinate a lamp; a sequence that is killed by D steps and is nought D times in a row is nought. -/
abbrev Crd := Nat → Int
abbrev Sq := Int → Crd → Int
def subC (r s : Crd) : Crd := fun k => r k - s k
def stepS (s : Crd) (f : Sq) : Sq := fun n r => f (n + 1) r - f n (subC r s)
def Kills : List Crd → Sq → Prop
  | [], f => ∀ n r, f n r = 0
  | s :: ss, f => Kills ss (stepS s f)
theorem kills_zero : ∀ (ss : List Crd) (f : Sq), (∀ n r, f n r = 0) → Kills ss f
  | [], _, h => h
  | s :: ss, f, h => kills_zero ss _ fun n r => by unfold stepS; rw [h, h]; rfl
theorem vanish : ∀ (ss : List Crd) (f : Sq) (n0 : Int), Kills ss f → (∀ i : Nat, i < ss.length → ∀ r, f (n0 + i) r = 0) → ∀ n r, f n r = 0
  | [], _, _, h, _ => h
  | s :: ss, f, n0, h, hz => by
    have g0 : ∀ n r, stepS s f n r = 0 := vanish ss (stepS s f) n0 h fun i hi r => by
      unfold stepS
      have h1 := hz (i + 1) (by simp; omega) r
      have h2 := hz i (by simp; omega) (subC r s)
      rw [show n0 + (i : Int) + 1 = n0 + ((i + 1 : Nat) : Int) by omega, h1, h2]
      rfl
    have e : ∀ n r, f (n + 1) r = f n (subC r s) := fun n r => by
      have := g0 n r
      unfold stepS at this
      omega
    have z0 : ∀ r, f n0 r = 0 := fun r => by
      have := hz 0 (by simp) r
      rwa [show n0 + ((0 : Nat) : Int) = n0 by omega] at this
    have up : ∀ (j : Nat) r, f (n0 + j) r = 0 := by
      intro j
      induction j with
      | zero => intro r; rw [show n0 + ((0 : Nat) : Int) = n0 by omega]; exact z0 r
      | succ j ih => intro r; rw [show n0 + ((j + 1 : Nat) : Int) = n0 + (j : Int) + 1 by omega, e]; exact ih _
    have down : ∀ (j : Nat) r, f (n0 - j) r = 0 := by
      intro j
      induction j with
      | zero => intro r; rw [show n0 - ((0 : Nat) : Int) = n0 by omega]; exact z0 r
      | succ j ih =>
        intro r
        have h1 := ih (fun k => r k + s k)
        rw [show n0 - (j : Int) = n0 - ((j + 1 : Nat) : Int) + 1 by omega, e] at h1
        have h2 : subC (fun k => r k + s k) s = r := by
          funext k
          unfold subC
          dsimp only
          omega
        rwa [h2] at h1
    intro n r
    by_cases hn : n0 ≤ n
    · have := up (n - n0).toNat r
      rwa [show n0 + (((n - n0).toNat : Nat) : Int) = n by omega] at this
    · have := down (n0 - n).toNat r
      rwa [show n0 - (((n0 - n).toNat : Nat) : Int) = n by omega] at this
theorem step_comm (s t : Crd) (f : Sq) : stepS s (stepS t f) = stepS t (stepS s f) := by
  funext n r
  unfold stepS
  have : subC (subC r s) t = subC (subC r t) s := by
    funext k
    unfold subC
    omega
  rw [this]
  omega
theorem kills_step : ∀ (ss : List Crd) (s : Crd) (f : Sq), Kills ss f → Kills ss (stepS s f)
  | [], s, f, h => fun n r => by unfold stepS; rw [h, h]; rfl
  | t :: ss, s, f, h => by
    show Kills ss (stepS t (stepS s f))
    rw [← step_comm]
    exact kills_step ss s _ h
theorem kills_right : ∀ (ss tt : List Crd) (f : Sq), Kills tt f → Kills (ss ++ tt) f
  | [], _, _, h => h
  | s :: ss, tt, f, h => kills_right ss tt _ (kills_step tt s f h)
theorem kills_left : ∀ (ss tt : List Crd) (f : Sq), Kills ss f → Kills (ss ++ tt) f
  | [], tt, f, h => kills_zero tt f h
  | s :: ss, tt, f, h => kills_left ss tt _ h
theorem kills_sub : ∀ (ss : List Crd) (f g : Sq), Kills ss f → Kills ss g → Kills ss (fun n r => f n r - g n r)
  | [], f, g, hf, hg => fun n r => by
    show f n r - g n r = 0
    rw [hf, hg]
    rfl
  | s :: ss, f, g, hf, hg => by
    have := kills_sub ss (stepS s f) (stepS s g) hf hg
    show Kills ss (stepS s _)
    have e : stepS s (fun n r => f n r - g n r) = fun n r => stepS s f n r - stepS s g n r := by
      funext n r
      unfold stepS
      dsimp only
      omega
    rw [e]
    exact this
theorem kills_still (k : Nat) : ∀ (ss : List Crd) (f : Sq) (c : Int → Int), (∀ s ∈ ss, s k = 0) → Kills ss f → Kills ss (fun n r => f n r * c (r k))
  | [], f, c, _, h => fun n r => by
    show f n r * c (r k) = 0
    rw [h, Int.zero_mul]
  | s :: ss, f, c, hs, h => by
    have := kills_still k ss (stepS s f) c (fun t ht => hs t (.tail _ ht)) h
    show Kills ss (stepS s _)
    have e : stepS s (fun n r => f n r * c (r k)) = fun n r => stepS s f n r * c (r k) := by
      funext n r
      unfold stepS
      dsimp only
      have : subC r s k = r k := by
        unfold subC
        rw [hs s (.head _)]
        omega
      rw [this, Int.sub_mul]
    rw [e]
    exact this
/-- the coordinate k set to 1 -/
def atOne (k : Nat) (s : Crd) : Crd := fun j => if j = k then 1 else s j
/-- f does not look at the coordinate k -/
def Blind (k : Nat) (f : Sq) : Prop := ∀ n r r', (∀ j, j ≠ k → r j = r' j) → f n r = f n r'
theorem blind_step {k : Nat} {s : Crd} {f : Sq} (h : Blind k f) : Blind k (stepS s f) := fun n r r' e => by
  unfold stepS
  rw [h (n + 1) r r' e, h n (subC r s) (subC r' s) fun j hj => by unfold subC; rw [e j hj]]
theorem kills_moves (k : Nat) : ∀ (ss : List Crd) (f : Sq) (c : Int → Int), (∀ s ∈ ss, s k = 0) → Blind k f → Kills ss f → Kills (ss.map (atOne k)) (fun n r => f n r * c (r k - n))
  | [], f, c, _, _, h => fun n r => by
    show f n r * c (r k - n) = 0
    rw [h, Int.zero_mul]
  | s :: ss, f, c, hs, hb, h => by
    have := kills_moves k ss (stepS s f) (fun x => c (x - 1)) (fun t ht => hs t (.tail _ ht)) (blind_step hb) h
    show Kills (ss.map (atOne k)) (stepS (atOne k s) _)
    have e : stepS (atOne k s) (fun n r => f n r * c (r k - n)) = fun n r => stepS s f n r * c (r k - n - 1) := by
      funext n r
      unfold stepS
      dsimp only
      have e1 : subC r (atOne k s) k = r k - 1 := by
        unfold subC atOne
        rw [if_pos rfl]
      have e2 : f n (subC r (atOne k s)) = f n (subC r s) := hb _ _ _ fun j hj => by
        unfold subC atOne
        rw [if_neg hj]
      rw [e1, e2, Int.sub_mul, show r k - (n + 1) = r k - n - 1 by omega, show r k - 1 - n = r k - n - 1 by omega]
    rw [e]
    exact this
def dlt (m x : Int) : Int := if m ∣ x then 1 else 0
def prodS : List (Int × Int) → Sq
  | [] => fun _ _ => 1
  | l :: ls => fun n r => prodS ls n r * dlt l.1 (r ls.length) - prodS ls n r * dlt l.1 (r ls.length - n + l.2)
def shiftsS : List (Int × Int) → List Crd
  | [] => [fun _ => 0]
  | _ :: ls => shiftsS ls ++ (shiftsS ls).map (atOne ls.length)
theorem shifts_len : ∀ ls : List (Int × Int), (shiftsS ls).length = 2 ^ ls.length
  | [] => rfl
  | _ :: ls => by
    show (shiftsS ls ++ (shiftsS ls).map (atOne ls.length)).length = 2 ^ (ls.length + 1)
    rw [List.length_append, List.length_map, shifts_len ls, Nat.pow_succ]
    omega
theorem shifts_far : ∀ (ls : List (Int × Int)) (k : Nat), ls.length ≤ k → ∀ s ∈ shiftsS ls, s k = 0
  | [], k, _, s, hs => by
    have : s = fun _ => 0 := by simpa [shiftsS] using hs
    rw [this]
  | _ :: ls, k, hk, s, hs => by
    have hk' : ls.length + 1 ≤ k := hk
    rcases List.mem_append.mp (show s ∈ shiftsS ls ++ (shiftsS ls).map (atOne ls.length) from hs) with h | h
    · exact shifts_far ls k (by omega) s h
    · obtain ⟨t, ht, rfl⟩ := List.mem_map.mp h
      unfold atOne
      rw [if_neg (by omega)]
      exact shifts_far ls k (by omega) t ht
theorem prod_blind : ∀ (ls : List (Int × Int)) (k : Nat), ls.length ≤ k → Blind k (prodS ls)
  | [], _, _ => fun _ _ _ _ => rfl
  | l :: ls, k, hk => fun n r r' e => by
    have hk' : ls.length + 1 ≤ k := hk
    show prodS ls n r * dlt l.1 (r ls.length) - prodS ls n r * dlt l.1 (r ls.length - n + l.2) = prodS ls n r' * dlt l.1 (r' ls.length) - prodS ls n r' * dlt l.1 (r' ls.length - n + l.2)
    rw [prod_blind ls k (by omega) n r r' e, e ls.length (by omega)]
theorem prod_killed : ∀ ls : List (Int × Int), Kills (shiftsS ls) (prodS ls)
  | [] => fun n r => by
    show (1 : Int) - 1 = 0
    rfl
  | l :: ls => by
    have ih := prod_killed ls
    have h0 := shifts_far ls ls.length (Nat.le_refl _)
    have h1 := kills_still ls.length (shiftsS ls) (prodS ls) (fun x => dlt l.1 x) h0 ih
    have h2 := kills_moves ls.length (shiftsS ls) (prodS ls) (fun x => dlt l.1 (x + l.2)) h0 (prod_blind ls _ (Nat.le_refl _)) ih
    exact kills_sub _ _ _ (kills_left _ _ _ h1) (kills_right _ _ _ h2)
theorem prod_bright : ∀ (ls : List (Int × Int)) (n : Int), (∃ l ∈ ls, l.1 ∣ n - l.2) → ∀ r, prodS ls n r = 0
  | [], _, ⟨_, h, _⟩ => nomatch h
  | l :: ls, n, ⟨l', hl, hd⟩ => fun r => by
    show prodS ls n r * dlt l.1 (r ls.length) - prodS ls n r * dlt l.1 (r ls.length - n + l.2) = 0
    rcases List.mem_cons.mp hl with rfl | hl
    · have : dlt l'.1 (r ls.length) = dlt l'.1 (r ls.length - n + l'.2) := by
        have iff : l'.1 ∣ r ls.length ↔ l'.1 ∣ r ls.length - n + l'.2 := by
          constructor
          · intro h
            rw [show r ls.length - n + l'.2 = r ls.length - (n - l'.2) by omega]
            exact Int.dvd_sub h hd
          · intro h
            have := Int.dvd_add h hd
            rwa [show r ls.length - n + l'.2 + (n - l'.2) = r ls.length by omega] at this
        unfold dlt
        by_cases h : l'.1 ∣ r ls.length
        · rw [if_pos h, if_pos (iff.mp h)]
        · rw [if_neg h, if_neg (fun z => h (iff.mpr z))]
      rw [this, Int.sub_self]
    · rw [prod_bright ls n ⟨l', hl, hd⟩ r, Int.zero_mul, Int.zero_mul]
      rfl
theorem prod_dark : ∀ (ls : List (Int × Int)) (n : Int), (∀ l ∈ ls, ¬ l.1 ∣ n - l.2) → prodS ls n (fun _ => 0) = 1
  | [], _, _ => rfl
  | l :: ls, n, h => by
    show prodS ls n (fun _ => 0) * dlt l.1 0 - prodS ls n (fun _ => 0) * dlt l.1 (0 - n + l.2) = 1
    have h1 : dlt l.1 0 = 1 := if_pos (Int.dvd_zero _)
    have h2 : dlt l.1 (0 - n + l.2) = 0 := if_neg fun z => h l (.head _) (by
      rw [show n - l.2 = -(0 - n + l.2) by omega]
      exact Int.dvd_neg.mpr z)
    rw [prod_dark ls n fun l hl => h l (.tail _ hl), h1, h2]
    rfl
/-- bright at as many beats in a row as 2 by itself for each lamp: bright for ever -/
theorem wait_all (ls : List (Int × Int)) (n0 : Int) (h : ∀ i : Nat, i < 2 ^ ls.length → ∃ l ∈ ls, l.1 ∣ n0 + i - l.2) (n : Int) : ∃ l ∈ ls, l.1 ∣ n - l.2 := by
  have hz := vanish (shiftsS ls) (prodS ls) n0 (prod_killed ls) (fun i hi r => prod_bright ls _ (h i (by rw [← shifts_len]; exact hi)) r)
  by_cases e : ∃ l ∈ ls, l.1 ∣ n - l.2
  · exact e
  · have h1 := prod_dark ls n fun l hl hd => e ⟨l, hl, hd⟩
    rw [hz] at h1
    cases h1

/-! ### lights: which lamps shine at a beat -/
def shB (l : Int × Int) (t : Int) : Bool := decide (l.1 ∣ t - l.2)
theorem shB_iff {l : Int × Int} {t : Int} : shB l t = true ↔ l.1 ∣ t - l.2 := decide_eq_true_iff
/-- numbered lamps: the numbers of those that shine -/
def rowOf (ns : List (Int × Int × Int)) (t : Int) : List Int := (ns.filter fun x => shB x.2 t).map Prod.fst
/-- lamps numbered from i on -/
def numF (i : Int) : List (Int × Int) → List (Int × Int × Int)
  | [] => []
  | l :: ls => (i, l) :: numF (i + 1) ls
theorem numF_len : ∀ (ls : List (Int × Int)) (i : Int), (numF i ls).length = ls.length
  | [], _ => rfl
  | _ :: ls, i => congrArg (· + 1) (numF_len ls (i + 1))
theorem numF_get : ∀ (ls : List (Int × Int)) (i : Int) (j : Nat), (numF i ls)[j]? = ls[j]?.map fun l => (i + j, l)
  | [], _, _ => by simp [numF]
  | l :: ls, i, 0 => by simp [numF]
  | l :: ls, i, j + 1 => by
    show (numF (i + 1) ls)[j]? = ls[j]?.map _
    rw [numF_get ls (i + 1) j, show i + 1 + (j : Int) = i + ((j + 1 : Nat) : Int) by omega]
theorem numF_mem {ls : List (Int × Int)} {i : Int} {x : Int × Int × Int} : x ∈ numF i ls ↔ ∃ j : Nat, x.1 = i + j ∧ ls[j]? = some x.2 := by
  constructor
  · intro h
    obtain ⟨j, hj⟩ := List.mem_iff_getElem?.mp h
    rw [numF_get] at hj
    cases e : ls[j]? with
    | none => rw [e] at hj; cases hj
    | some l =>
      rw [e] at hj
      cases hj
      exact ⟨j, rfl, e⟩
  · rintro ⟨j, e1, e2⟩
    refine List.mem_iff_getElem?.mpr ⟨j, ?_⟩
    rw [numF_get, e2]
    show some (i + (j : Int), x.2) = some x
    rw [← e1]
theorem rowOf_take {ns : List (Int × Int × Int)} {i : Nat} {x : Int × Int × Int} (h : ns[i]? = some x) (t : Int) : rowOf (ns.take (i + 1)) t = rowOf (ns.take i) t ++ if shB x.2 t then [x.1] else [] := by
  unfold rowOf
  rw [List.take_succ, h, List.filter_append, List.map_append]
  congr 1
  cases e : shB x.2 t <;> simp [e]
theorem rowOf_nil_iff {ns : List (Int × Int × Int)} {t : Int} : rowOf ns t = [] ↔ ∀ x ∈ ns, ¬ x.2.1 ∣ t - x.2.2 := by
  unfold rowOf
  rw [List.map_eq_nil_iff, List.filter_eq_nil_iff]
  exact ⟨fun h x hx hd => h x hx (shB_iff.mpr hd), fun h x hx hs => h x hx (shB_iff.mp hs)⟩
theorem rowOf_mem {ns : List (Int × Int × Int)} {t z : Int} : z ∈ rowOf ns t ↔ ∃ x ∈ ns, x.1 = z ∧ x.2.1 ∣ t - x.2.2 := by
  unfold rowOf
  rw [List.mem_map]
  constructor
  · rintro ⟨x, hx, e⟩
    obtain ⟨h1, h2⟩ := List.mem_filter.mp hx
    exact ⟨x, h1, e, shB_iff.mp h2⟩
  · rintro ⟨x, hx, e, hd⟩
    exact ⟨x, List.mem_filter.mpr ⟨hx, shB_iff.mpr hd⟩, e⟩
theorem rowOf_len (ns : List (Int × Int × Int)) (t : Int) : (rowOf ns t).length ≤ ns.length := by
  unfold rowOf
  rw [List.length_map]
  exact List.length_filter_le ..
/-- a light is bright -/
def Bright (ls : List (Int × Int)) (t : Int) : Prop := ∃ l ∈ ls, l.1 ∣ t - l.2
instance (ls : List (Int × Int)) (t : Int) : Decidable (Bright ls t) := inferInstanceAs (Decidable (∃ l ∈ ls, l.1 ∣ t - l.2))
/-- the row of a light -/
def lrow (ls : List (Int × Int)) (t : Int) : List Int := rowOf (numF 0 ls) t
theorem lrow_nil {ls : List (Int × Int)} {t : Int} : lrow ls t = [] ↔ ¬ Bright ls t := by
  unfold lrow
  rw [rowOf_nil_iff]
  constructor
  · rintro h ⟨l, hl, hd⟩
    obtain ⟨j, hj⟩ := List.mem_iff_getElem?.mp hl
    exact h (0 + j, l) (numF_mem.mpr ⟨j, rfl, hj⟩) hd
  · intro h x hx hd
    obtain ⟨j, _, e⟩ := numF_mem.mp hx
    exact h ⟨x.2, List.mem_of_getElem? e, hd⟩
theorem lrow_mem {ls : List (Int × Int)} {t z : Int} : z ∈ lrow ls t ↔ ∃ j : Nat, z = j ∧ ∃ l, ls[j]? = some l ∧ l.1 ∣ t - l.2 := by
  unfold lrow
  rw [rowOf_mem]
  constructor
  · rintro ⟨x, hx, e, hd⟩
    obtain ⟨j, e1, e2⟩ := numF_mem.mp hx
    exact ⟨j, by omega, x.2, e2, hd⟩
  · rintro ⟨j, e, l, hl, hd⟩
    exact ⟨(0 + j, l), numF_mem.mpr ⟨j, rfl, hl⟩, by omega, hd⟩
theorem lrow_len (ls : List (Int × Int)) (t : Int) : (lrow ls t).length ≤ ls.length := by
  have := rowOf_len (numF 0 ls) t
  rw [numF_len] at this
  exact this
/-! ### going by periods from the first shine on -/
/-- of the places lo, lo + c, .. the first m have been gone to -/
def hitB (lo c : Int) (m : Nat) (j : Int) : Bool := decide (lo ≤ j ∧ j < lo + m * c ∧ c ∣ j - lo)
theorem hit_zero (lo c j : Int) : hitB lo c 0 j = false := decide_eq_false fun h => by
  have := h.2.1
  simp at this
  omega
theorem hit_at {lo c : Int} (hc : 0 < c) (m : Nat) : hitB lo c m (lo + m * c) = false := decide_eq_false fun h => by omega
theorem hit_new {lo c : Int} (hc : 0 < c) (m : Nat) : hitB lo c (m + 1) (lo + m * c) = true := decide_eq_true (by
  have : 0 ≤ (m : Int) * c := Int.mul_nonneg (by omega) (by omega)
  refine ⟨by omega, ?_, ⟨m, by rw [Int.mul_comm c]; omega⟩⟩
  rw [show ((m + 1 : Nat) : Int) = m + 1 by omega, Int.add_mul]
  omega)
theorem hit_step {lo c : Int} (hc : 0 < c) {m : Nat} {j : Int} (h : j ≠ lo + m * c) : hitB lo c (m + 1) j = hitB lo c m j := by
  unfold hitB
  refine decide_eq_decide.mpr ⟨fun ⟨h1, h2, h3⟩ => ⟨h1, ?_, h3⟩, fun ⟨h1, h2, h3⟩ => ⟨h1, ?_, h3⟩⟩
  · obtain ⟨q, hq⟩ := h3
    rw [show ((m + 1 : Nat) : Int) = m + 1 by omega, Int.add_mul] at h2
    have e : c * q = q * c := Int.mul_comm ..
    have : q ≤ m := by
      by_cases hh : q ≤ m
      · exact hh
      · have h4 : ((m : Int) + 1) * c ≤ q * c := Int.mul_le_mul_of_nonneg_right (by omega) (by omega)
        rw [Int.add_mul] at h4
        omega
    have : q ≠ m := fun z => by
      subst z
      omega
    have h5 : (q + 1) * c ≤ (m : Int) * c := Int.mul_le_mul_of_nonneg_right (by omega) (by omega)
    rw [Int.add_mul] at h5
    omega
  · rw [show ((m + 1 : Nat) : Int) = m + 1 by omega, Int.add_mul]
    omega
theorem hit_all {p b t many j : Int} {n : Nat} (hp : 0 < p) (hn : PySem.Builtin.Range.rangeSize ((b - t) % p) many p = n) (j0 : 0 ≤ j) (j1 : j < many) : hitB ((b - t) % p) p n j = shB (p, b) (t + j) := by
  have l0 := Int.emod_nonneg (b - t) (show p ≠ 0 by omega)
  have l1 := Int.emod_lt_of_pos (b - t) hp
  unfold hitB shB
  have e0 : t + j - b = j - (b - t) % p - p * ((b - t) / p) := by
    have := Int.emod_add_mul_ediv (b - t) p
    omega
  have dv : p ∣ j - (b - t) % p ↔ p ∣ t + j - b := by
    rw [e0]
    constructor
    · intro h
      exact Int.dvd_sub h ⟨_, rfl⟩
    · intro h
      have := Int.dvd_add h (Int.dvd_mul_right p ((b - t) / p))
      rwa [Int.sub_add_cancel] at this
  refine decide_eq_decide.mpr ⟨fun h => dv.mp h.2.2, fun h => ⟨?_, ?_, dv.mpr h⟩⟩
  · by_cases hh : (b - t) % p ≤ j
    · exact hh
    · obtain ⟨q, hq⟩ := dv.mpr h
      have : q < 0 := by
        by_cases z : q < 0
        · exact z
        · have := Int.mul_nonneg (show 0 ≤ p by omega) (show 0 ≤ q by omega)
          omega
      have : p * q ≤ p * (-1) := Int.mul_le_mul_of_nonneg_left (by omega) (by omega)
      omega
  · by_cases hh : j < (b - t) % p
    · have : 0 ≤ (n : Int) * p := Int.mul_nonneg (by omega) (by omega)
      omega
    · unfold PySem.Builtin.Range.rangeSize at hn
      rw [if_pos (by omega), if_pos (by omega)] at hn
      have h1 := Int.emod_add_mul_ediv (many - (b - t) % p - 1) p
      have h2 := Int.emod_lt_of_pos (many - (b - t) % p - 1) hp
      have h3 : (n : Int) * p = p * ((many - (b - t) % p - 1) / p) + p := by
        rw [← hn, Int.add_mul, Int.one_mul, Int.mul_comm]
      omega
theorem hit_lt {lo c many : Int} {n m : Nat} (hc : 0 < c) (hn : PySem.Builtin.Range.rangeSize lo many c = n) (hm : m < n) : lo + m * c < many := by
  unfold PySem.Builtin.Range.rangeSize at hn
  rw [if_pos (by omega)] at hn
  by_cases hh : lo < many
  · rw [if_pos hh] at hn
    have h1 := Int.emod_add_mul_ediv (many - lo - 1) c
    have h2 := Int.emod_nonneg (many - lo - 1) (show c ≠ 0 by omega)
    have h3 : (m : Int) * c ≤ (many - lo - 1) / c * c := Int.mul_le_mul_of_nonneg_right (by omega) (by omega)
    rw [Int.mul_comm ((many - lo - 1) / c)] at h3
    omega
  · rw [if_neg hh] at hn
    omega
theorem range_nat {lo many c : Int} (hc : 0 < c) : ∃ n : Nat, PySem.Builtin.Range.rangeSize lo many c = n := by
  unfold PySem.Builtin.Range.rangeSize
  rw [if_pos (by omega)]
  by_cases hh : lo < many
  · rw [if_pos hh]
    have := Int.ediv_nonneg (show 0 ≤ many - lo - 1 by omega) (show 0 ≤ c by omega)
    exact ⟨((many - lo - 1) / c + 1).toNat, by omega⟩
  · rw [if_neg hh]
    exact ⟨0, rfl⟩
theorem rowOf_numF_take {ls : List (Int × Int)} {i : Nat} {l : Int × Int} (e : ls[i]? = some l) (t : Int) : rowOf ((numF 0 ls).take (i + 1)) t = rowOf ((numF 0 ls).take i) t ++ if shB l t then [(i : Int)] else [] := by
  have h : (numF 0 ls)[i]? = some ((i : Int), l) := by
    rw [numF_get, e]
    show some (0 + (i : Int), l) = _
    rw [Int.zero_add]
  exact rowOf_take h t

/-! ### the next dark beat and the last one -/
def darks (ls : List (Int × Int)) (t : Int) : List Nat := (List.range (2 ^ ls.length)).filter fun j => decide (lrow ls (t + (j : Nat)) = [])
theorem darks_mem {ls : List (Int × Int)} {t : Int} {j : Nat} : j ∈ darks ls t ↔ j < 2 ^ ls.length ∧ ¬ Bright ls (t + j) := by
  unfold darks
  rw [List.mem_filter, List.mem_range, decide_eq_true_iff, lrow_nil]
theorem darks_nil {ls : List (Int × Int)} {t : Int} : darks ls t = [] ↔ ∀ x, Bright ls x := by
  constructor
  · intro h
    refine wait_all ls t fun i hi => ?_
    by_cases hb : Bright ls (t + i)
    · exact hb
    · have := darks_mem.mpr ⟨hi, hb⟩
      rw [h] at this
      cases this
  · intro h
    cases e : darks ls t with
    | nil => rfl
    | cons j r => exact absurd (h _) (darks_mem.mp (by rw [e]; exact .head _ : j ∈ darks ls t)).2
theorem darks_rise (ls : List (Int × Int)) (t : Int) : (darks ls t).Pairwise (· < ·) := List.Pairwise.filter _ List.pairwise_lt_range
def nextD (ls : List (Int × Int)) (t : Int) : Option Int := (darks ls t).head?.map fun j => t + (j : Nat)
def firstL (ls : List (Int × Int)) (t : Int) : Int := t - 2 ^ ls.length + 1
def lastD (ls : List (Int × Int)) (t : Int) : Option Int := (darks ls (firstL ls t)).getLast?.map fun j => firstL ls t + (j : Nat)
def paper (ls : List (Int × Int)) (t : Int) : List Int := (List.range (2 ^ ls.length)).map fun j => (lrow ls (t + (j : Nat))).headD 0
theorem nextD_none {ls : List (Int × Int)} {t : Int} : nextD ls t = none ↔ ∀ x, Bright ls x := by
  unfold nextD
  rw [Option.map_eq_none_iff, List.head?_eq_none_iff, darks_nil]
theorem lastD_none {ls : List (Int × Int)} {t : Int} : lastD ls t = none ↔ ∀ x, Bright ls x := by
  unfold lastD
  rw [Option.map_eq_none_iff, List.getLast?_eq_none_iff, darks_nil]
theorem pairwise_head {R : Nat → Nat → Prop} {l : List Nat} {a b : Nat} (h : l.Pairwise R) (ha : l.head? = some a) (hb : b ∈ l) : a = b ∨ R a b := by
  cases l with
  | nil => cases ha
  | cons x r =>
    cases ha
    rcases List.mem_cons.mp hb with e | e
    · exact .inl e.symm
    · exact .inr ((List.pairwise_cons.mp h).1 b e)
theorem pairwise_last {l : List Nat} {a b : Nat} (h : l.Pairwise (· < ·)) (ha : l.getLast? = some a) (hb : b ∈ l) : b = a ∨ b < a := by
  obtain ⟨r, rfl⟩ : ∃ r, l = r ++ [a] := List.getLast?_eq_some_iff.mp ha
  rcases List.mem_append.mp hb with e | e
  · exact .inr ((List.pairwise_append.mp h).2.2 b e a (.head _))
  · exact .inl (List.mem_singleton.mp e)
theorem nextD_spec {ls : List (Int × Int)} {t d : Int} (h : nextD ls t = some d) : t ≤ d ∧ d < t + 2 ^ ls.length ∧ ¬ Bright ls d ∧ ∀ x, t ≤ x → x < d → Bright ls x := by
  unfold nextD at h
  cases e : (darks ls t).head? with
  | none => rw [e] at h; cases h
  | some j =>
    rw [e] at h
    cases h
    obtain ⟨h1, h2⟩ := darks_mem.mp (List.mem_of_mem_head? e)
    have h1' : (j : Int) < 2 ^ ls.length := by exact_mod_cast h1
    refine ⟨by show t ≤ t + (j : Int); omega, by show t + (j : Int) < _; omega, h2, fun x h3 h4 => ?_⟩
    replace h4 : x < t + (j : Int) := h4
    by_cases hb : Bright ls x
    · exact hb
    · have hx : x = t + ((x - t).toNat : Nat) := by omega
      rw [hx] at hb
      rcases pairwise_head (darks_rise ls t) e (darks_mem.mpr ⟨by omega, hb⟩) with q | q <;> omega
theorem lastD_spec {ls : List (Int × Int)} {t d : Int} (h : lastD ls t = some d) : d ≤ t ∧ t - 2 ^ ls.length < d ∧ ¬ Bright ls d ∧ ∀ x, d < x → x ≤ t → Bright ls x := by
  unfold lastD at h
  cases e : (darks ls (firstL ls t)).getLast? with
  | none => rw [e] at h; cases h
  | some j =>
    rw [e] at h
    cases h
    obtain ⟨h1, h2⟩ := darks_mem.mp (List.mem_of_mem_getLast? e)
    have h1' : (j : Int) < 2 ^ ls.length := by exact_mod_cast h1
    have ef : firstL ls t = t - 2 ^ ls.length + 1 := rfl
    refine ⟨by show firstL ls t + (j : Int) ≤ t; omega, by show _ < firstL ls t + (j : Int); omega, h2, fun x h3 h4 => ?_⟩
    replace h3 : firstL ls t + (j : Int) < x := h3
    by_cases hb : Bright ls x
    · exact hb
    · have hx : x = firstL ls t + ((x - firstL ls t).toNat : Nat) := by omega
      rw [hx] at hb
      have hlt : (x - firstL ls t).toNat < 2 ^ ls.length := by
        have : (((x - firstL ls t).toNat : Nat) : Int) < ((2 ^ ls.length : Nat) : Int) := by
          rw [show ((2 ^ ls.length : Nat) : Int) = 2 ^ ls.length by norm_cast]
          omega
        exact_mod_cast this
      rcases pairwise_last (darks_rise ls _) e (darks_mem.mpr ⟨hlt, hb⟩) with q | q <;> omega
theorem nextD_of {ls : List (Int × Int)} {t d : Int} (h1 : t ≤ d) (h2 : ¬ Bright ls d) (h3 : ∀ x, t ≤ x → x < d → Bright ls x) : nextD ls t = some d := by
  cases e : nextD ls t with
  | none => exact absurd (nextD_none.mp e d) h2
  | some d' =>
    obtain ⟨g1, _, g2, g3⟩ := nextD_spec e
    by_cases hl : d < d'
    · exact absurd (g3 d h1 hl) h2
    · by_cases hg : d' < d
      · exact absurd (h3 d' g1 hg) g2
      · rw [show d' = d by omega]
theorem lastD_of {ls : List (Int × Int)} {t d : Int} (h1 : d ≤ t) (h2 : ¬ Bright ls d) (h3 : ∀ x, d < x → x ≤ t → Bright ls x) : lastD ls t = some d := by
  cases e : lastD ls t with
  | none => exact absurd (lastD_none.mp e d) h2
  | some d' =>
    obtain ⟨g1, _, g2, g3⟩ := lastD_spec e
    by_cases hl : d' < d
    · exact absurd (g3 d hl h1) h2
    · by_cases hg : d < d'
      · exact absurd (h3 d' hg g1) g2
      · rw [show d' = d by omega]
theorem paper_len (ls : List (Int × Int)) (t : Int) : (paper ls t).length = 2 ^ ls.length := by
  unfold paper
  rw [List.length_map, List.length_range]

/-! ### lights of pairs as they are drawn -/
def nrm (l : Int × Int) : Int × Int := (l.1, l.2 % l.1)
theorem dvd_nrm (p b t : Int) : p ∣ t - b % p ↔ p ∣ t - b := by
  have e := Int.emod_add_mul_ediv b p
  have e2 : t - b % p = t - b + p * (b / p) := by omega
  rw [e2]
  constructor
  · intro h
    have := Int.dvd_sub h (Int.dvd_mul_right p (b / p))
    rwa [Int.add_sub_cancel] at this
  · intro h
    exact Int.dvd_add h (Int.dvd_mul_right ..)
theorem shB_nrm (l : Int × Int) (t : Int) : shB (nrm l) t = shB l t := decide_eq_decide.mpr (dvd_nrm l.1 l.2 t)
theorem row_nrm : ∀ (ls : List (Int × Int)) (i t : Int), rowOf (numF i (ls.map nrm)) t = rowOf (numF i ls) t
  | [], _, _ => rfl
  | l :: ls, i, t => by
    have ih := row_nrm ls (i + 1) t
    unfold rowOf at ih ⊢
    show (List.filter _ ((i, nrm l) :: numF (i + 1) (ls.map nrm))).map Prod.fst = (List.filter _ ((i, l) :: numF (i + 1) ls)).map Prod.fst
    rw [List.filter_cons, List.filter_cons]
    show (if shB (nrm l) t then _ else _ : List (Int × Int × Int)).map Prod.fst = (if shB l t then _ else _ : List (Int × Int × Int)).map Prod.fst
    rw [shB_nrm]
    cases shB l t
    · simpa using ih
    · simpa using ih
theorem lrow_nrm (ls : List (Int × Int)) (t : Int) : lrow (ls.map nrm) t = lrow ls t := row_nrm ls 0 t
theorem bright_nrm {ls : List (Int × Int)} {t : Int} : Bright (ls.map nrm) t ↔ Bright ls t := by
  have h := @lrow_nil (ls.map nrm) t
  rw [lrow_nrm, lrow_nil] at h
  constructor
  · intro h1
    by_cases h2 : Bright ls t
    · exact h2
    · exact absurd h1 (h.mp h2)
  · intro h1
    by_cases h2 : Bright (ls.map nrm) t
    · exact h2
    · exact absurd h1 (h.mpr h2)
theorem darks_nrm (ls : List (Int × Int)) (t : Int) : darks (ls.map nrm) t = darks ls t := by
  unfold darks
  rw [List.length_map]
  simp only [lrow_nrm]
theorem nextD_nrm (ls : List (Int × Int)) (t : Int) : nextD (ls.map nrm) t = nextD ls t := by
  unfold nextD
  rw [darks_nrm]
theorem firstL_nrm (ls : List (Int × Int)) (t : Int) : firstL (ls.map nrm) t = firstL ls t := by
  unfold firstL
  rw [List.length_map]
theorem lastD_nrm (ls : List (Int × Int)) (t : Int) : lastD (ls.map nrm) t = lastD ls t := by
  unfold lastD
  rw [firstL_nrm, darks_nrm]
theorem paper_nrm (ls : List (Int × Int)) (t : Int) : paper (ls.map nrm) t = paper ls t := by
  unfold paper
  rw [List.length_map]
  simp only [lrow_nrm]
theorem bright_same {ls ls' : List (Int × Int)} (h : ∀ l, l ∈ ls ↔ l ∈ ls') (t : Int) : Bright ls t ↔ Bright ls' t :=
  ⟨fun ⟨l, a, b⟩ => ⟨l, (h l).mp a, b⟩, fun ⟨l, a, b⟩ => ⟨l, (h l).mpr a, b⟩⟩
/-- the next dark beat of a light whose beats are others' -/
theorem nextD_up {ls ls' : List (Int × Int)} (c : Int) (h : ∀ x, Bright ls' (x + c) ↔ Bright ls x) (t : Int) : nextD ls' (t + c) = (nextD ls t).map (· + c) := by
  cases e : nextD ls t with
  | none =>
    rw [Option.map_none]
    refine nextD_none.mpr fun x => ?_
    have := (h (x - c)).mpr (nextD_none.mp e (x - c))
    rwa [Int.sub_add_cancel] at this
  | some d =>
    obtain ⟨g1, _, g2, g3⟩ := nextD_spec e
    refine nextD_of (by show t + c ≤ d + c; omega) (fun z => g2 ((h d).mp z)) fun x h1 h2 => ?_
    replace h2 : x < d + c := h2
    have := (h (x - c)).mpr (g3 (x - c) (by omega) (by omega))
    rwa [Int.sub_add_cancel] at this
theorem nextD_congr {ls ls' : List (Int × Int)} (h : ∀ x, Bright ls' x ↔ Bright ls x) (t : Int) : nextD ls' t = nextD ls t := by
  have := nextD_up (ls := ls) (ls' := ls') 0 (fun x => by rw [Int.add_zero]; exact h x) t
  rw [Int.add_zero] at this
  rw [this]
  cases nextD ls t <;> simp
theorem nextD_mirror {ls ls' : List (Int × Int)} (h : ∀ x, Bright ls' (0 - x) ↔ Bright ls x) (t : Int) : lastD ls' (0 - t) = (nextD ls t).map (0 - ·) := by
  cases e : nextD ls t with
  | none =>
    refine lastD_none.mpr fun x => ?_
    have := (h (0 - x)).mpr (nextD_none.mp e (0 - x))
    rwa [show 0 - (0 - x) = x by omega] at this
  | some d =>
    obtain ⟨g1, _, g2, g3⟩ := nextD_spec e
    refine lastD_of (by show 0 - d ≤ 0 - t; omega) (fun z => g2 ((h d).mp z)) fun x h1 h2 => ?_
    replace h1 : 0 - d < x := h1
    have := (h (0 - x)).mpr (g3 (0 - x) (by omega) (by omega))
    rwa [show 0 - (0 - x) = x by omega] at this
theorem lastD_mirror {ls ls' : List (Int × Int)} (h : ∀ x, Bright ls' (0 - x) ↔ Bright ls x) (t : Int) : nextD ls' (0 - t) = (lastD ls t).map (0 - ·) := by
  cases e : lastD ls t with
  | none =>
    refine nextD_none.mpr fun x => ?_
    have := (h (0 - x)).mpr (lastD_none.mp e (0 - x))
    rwa [show 0 - (0 - x) = x by omega] at this
  | some d =>
    obtain ⟨g1, _, g2, g3⟩ := lastD_spec e
    refine nextD_of (by show 0 - t ≤ 0 - d; omega) (fun z => g2 ((h d).mp z)) fun x h1 h2 => ?_
    replace h2 : x < 0 - d := h2
    have := (h (0 - x)).mpr (g3 (0 - x) (by omega) (by omega))
    rwa [show 0 - (0 - x) = x by omega] at this
def upL (c : Int) (ls : List (Int × Int)) : List (Int × Int) := ls.map fun l => (l.1, l.2 + c)
theorem bright_up (c : Int) (ls : List (Int × Int)) (x : Int) : Bright (upL c ls) (x + c) ↔ Bright ls x := by
  constructor
  · rintro ⟨l, hl, hd⟩
    obtain ⟨m, hm, rfl⟩ := List.mem_map.mp hl
    exact ⟨m, hm, by rwa [show x + c - (m.2 + c) = x - m.2 by omega] at hd⟩
  · rintro ⟨m, hm, hd⟩
    exact ⟨_, List.mem_map.mpr ⟨m, hm, rfl⟩, by show m.1 ∣ x + c - (m.2 + c); rwa [show x + c - (m.2 + c) = x - m.2 by omega]⟩
def negL (ls : List (Int × Int)) : List (Int × Int) := ls.map fun l => (l.1, 0 - l.2)
theorem bright_neg (ls : List (Int × Int)) (x : Int) : Bright (negL ls) (0 - x) ↔ Bright ls x := by
  constructor
  · rintro ⟨l, hl, hd⟩
    obtain ⟨m, hm, rfl⟩ := List.mem_map.mp hl
    exact ⟨m, hm, by rw [show (0 - x) - (0 - m.2) = -(x - m.2) by omega] at hd; exact Int.dvd_neg.mp hd⟩
  · rintro ⟨m, hm, hd⟩
    exact ⟨_, List.mem_map.mpr ⟨m, hm, rfl⟩, by show m.1 ∣ (0 - x) - (0 - m.2); rw [show (0 - x) - (0 - m.2) = -(x - m.2) by omega]; exact Int.dvd_neg.mpr hd⟩
/-- dark beats one behind another: where the search goes on -/
def goD (ls : List (Int × Int)) (t : Int) : Nat → Int
  | 0 => t
  | i + 1 => (nextD ls (goD ls t i)).getD 0 + 1
/-- the dark beat of number i -/
def dkD (ls : List (Int × Int)) (t : Int) (i : Nat) : Int := goD ls t (i + 1) - 1
theorem dk_next {ls : List (Int × Int)} {t : Int} (h : ∃ x, ¬ Bright ls x) (i : Nat) : nextD ls (goD ls t i) = some (dkD ls t i) := by
  cases e : nextD ls (goD ls t i) with
  | none => obtain ⟨x, hx⟩ := h; exact absurd (nextD_none.mp e x) hx
  | some d =>
    unfold dkD goD
    rw [e]
    show some d = some (d + 1 - 1)
    rw [Int.add_sub_cancel]
theorem goD_congr {ls ls' : List (Int × Int)} (h : ∀ x, Bright ls' x ↔ Bright ls x) (t : Int) : ∀ i, goD ls' t i = goD ls t i
  | 0 => rfl
  | i + 1 => by
    unfold goD
    rw [goD_congr h t i, nextD_congr h]
theorem goD_up {ls ls' : List (Int × Int)} {c : Int} (h : ∀ x, Bright ls' (x + c) ↔ Bright ls x) (hd : ∃ x, ¬ Bright ls x) (t : Int) : ∀ i, goD ls' (t + c) i = goD ls t i + c
  | 0 => rfl
  | i + 1 => by
    have e := dk_next hd (t := t) i
    show (nextD ls' (goD ls' (t + c) i)).getD 0 + 1 = (nextD ls (goD ls t i)).getD 0 + 1 + c
    rw [goD_up h hd t i, nextD_up c h, e]
    show dkD ls t i + c + 1 = dkD ls t i + 1 + c
    omega
theorem dk_last {ls : List (Int × Int)} {t : Int} (h : ∃ x, ¬ Bright ls x) (i : Nat) : lastD ls (dkD ls t (i + 1) - 1) = some (dkD ls t i) := by
  obtain ⟨g1, _, g2, g3⟩ := nextD_spec (dk_next h (t := t) i)
  obtain ⟨k1, _, k2, k3⟩ := nextD_spec (dk_next h (t := t) (i + 1))
  have e : goD ls t (i + 1) = dkD ls t i + 1 := by unfold dkD; omega
  refine lastD_of (by omega) g2 fun x h1 h2 => k3 x (by omega) (by omega)

/-! ### lamps moved and stretched -/
def mvL (c : Int) (ls : List (Int × Int)) : List (Int × Int) := ls.map fun l => (l.1, (l.2 + c) % l.1)
def stL (c : Int) (ls : List (Int × Int)) : List (Int × Int) := ls.map fun l => (l.1 * c, l.2 * c)
def Kept (ls : List (Int × Int)) : Prop := ∀ l ∈ ls, 0 ≤ l.2 ∧ l.2 < l.1
theorem bright_mv {c : Int} {ls : List (Int × Int)} {x : Int} : Bright (mvL c ls) (x + c) ↔ Bright ls x := by
  unfold Bright mvL
  constructor
  · rintro ⟨l, hl, hd⟩
    obtain ⟨k, hk, rfl⟩ := List.mem_map.mp hl
    refine ⟨k, hk, ?_⟩
    have := (dvd_nrm k.1 (k.2 + c) (x + c)).mp hd
    rwa [show x + c - (k.2 + c) = x - k.2 by omega] at this
  · rintro ⟨k, hk, hd⟩
    refine ⟨_, List.mem_map.mpr ⟨k, hk, rfl⟩, (dvd_nrm k.1 (k.2 + c) (x + c)).mpr ?_⟩
    rwa [show x + c - (k.2 + c) = x - k.2 by omega]
theorem bright_st {c : Int} (hc : 0 < c) {ls : List (Int × Int)} {x : Int} : Bright (stL c ls) (x * c) ↔ Bright ls x := by
  have key : ∀ k : Int × Int, k.1 * c ∣ x * c - k.2 * c ↔ k.1 ∣ x - k.2 := fun k => by
    rw [← Int.sub_mul]
    exact Int.mul_dvd_mul_iff_right (by omega)
  unfold Bright stL
  constructor
  · rintro ⟨l, hl, hd⟩
    obtain ⟨k, hk, rfl⟩ := List.mem_map.mp hl
    exact ⟨k, hk, (key k).mp hd⟩
  · rintro ⟨k, hk, hd⟩
    exact ⟨_, List.mem_map.mpr ⟨k, hk, rfl⟩, (key k).mpr hd⟩
theorem dark_st {c r : Int} (hr : 0 < r) (hc : r < c) {ls : List (Int × Int)} {x : Int} : ¬ Bright (stL c ls) (x * c + r) := by
  rintro ⟨l, hl, hd⟩
  obtain ⟨k, hk, rfl⟩ := List.mem_map.mp hl
  have h1 : c ∣ x * c + r - k.2 * c := Int.dvd_trans ⟨k.1, Int.mul_comm _ _⟩ hd
  have h2 : c ∣ r := by
    have h3 : c ∣ (x - k.2) * c := ⟨x - k.2, Int.mul_comm _ _⟩
    have h4 := Int.dvd_sub h1 h3
    rwa [show x * c + r - k.2 * c - (x - k.2) * c = r by rw [Int.sub_mul]; omega] at h4
  have := Int.le_of_dvd hr h2
  omega
theorem mv_zero {ls : List (Int × Int)} (h : Kept ls) : mvL 0 ls = ls := by
  have e : mvL 0 ls = ls.map id := List.map_congr_left fun l hl => by
    obtain ⟨h0, h1⟩ := h l hl
    show (l.1, (l.2 + 0) % l.1) = l
    rw [Int.add_zero, Int.emod_eq_of_lt h0 h1]
  rw [e, List.map_id]
theorem st_one (ls : List (Int × Int)) : stL 1 ls = ls := by
  have e : stL 1 ls = ls.map id := List.map_congr_left fun l hl => by
    show (l.1 * 1, l.2 * 1) = l
    rw [Int.mul_one, Int.mul_one]
  rw [e, List.map_id]
theorem mv_mv (a b : Int) (ls : List (Int × Int)) : mvL b (mvL a ls) = mvL (a + b) ls := by
  unfold mvL
  rw [List.map_map]
  refine List.map_congr_left fun l hl => ?_
  show (l.1, ((l.2 + a) % l.1 + b) % l.1) = (l.1, (l.2 + (a + b)) % l.1)
  rw [Int.emod_add_emod, Int.add_assoc]
theorem st_st (a b : Int) (ls : List (Int × Int)) : stL b (stL a ls) = stL (a * b) ls := by
  unfold stL
  rw [List.map_map]
  refine List.map_congr_left fun l hl => ?_
  show (l.1 * a * b, l.2 * a * b) = (l.1 * (a * b), l.2 * (a * b))
  rw [Int.mul_assoc, Int.mul_assoc]
theorem st_mv {n c : Int} (hc : 0 < c) (ls : List (Int × Int)) : stL c (mvL n ls) = mvL (n * c) (stL c ls) := by
  unfold stL mvL
  rw [List.map_map, List.map_map]
  refine List.map_congr_left fun l hl => ?_
  show (l.1 * c, (l.2 + n) % l.1 * c) = (l.1 * c, (l.2 * c + n * c) % (l.1 * c))
  have e : (l.2 * c + n * c) % (l.1 * c) = (l.2 + n) % l.1 * c := by
    rw [← Int.add_mul, Int.mul_comm (l.2 + n) c, Int.mul_comm l.1 c, Int.mul_emod_mul_of_pos _ _ hc, Int.mul_comm]
  rw [e]
theorem mv_len (c : Int) (ls : List (Int × Int)) : (mvL c ls).length = ls.length := List.length_map ..
theorem st_len (c : Int) (ls : List (Int × Int)) : (stL c ls).length = ls.length := List.length_map ..

/-! ### seen from a lamp's own beats -/
theorem sees_ex {l x : Int × Int} (hl : 0 < l.1) (hx : 0 < x.1) : ∃ o, SeesO l (some x) o := by
  by_cases hg : (Int.gcd l.1 x.1 : Int) ∣ x.2 - l.2
  · have g0 := gcd_pos (a := l.1) (b := x.1) hl
    have gd : (Int.gcd l.1 x.1 : Int) ∣ x.1 := Int.gcd_dvd_right ..
    obtain ⟨v, hv⟩ := inv_ex (m := x.1 / (Int.gcd l.1 x.1 : Int)) (a := l.1 / (Int.gcd l.1 x.1 : Int)) (Int.ediv_pos_of_pos_of_dvd hx (by omega) gd) (gcd_cop hl)
    have S := seen_is hl hx hg hv
    exact ⟨some (_, _), fun q e => by cases e; exact ⟨S.q0, S.r0, S.rq⟩, S.iff⟩
  · refine ⟨none, fun _ h => (nomatch h), fun t => ⟨fun h => h.elim, fun h => ?_⟩⟩
    refine seen_none hg (l.2 + t * l.1) ?_ h
    exact ⟨t, by rw [Int.mul_comm]; omega⟩
theorem thin_ex {l : Int × Int} (hl : 0 < l.1) : ∀ {ls : List (Int × Int)}, (∀ x ∈ ls, 0 < x.1) → ∃ ms : List (Int × Int), ms.length ≤ ls.length ∧ ∀ t, Bright ms t ↔ Bright ls (l.2 + t * l.1)
  | [], _ => ⟨[], Nat.le_refl _, fun t => ⟨fun ⟨_, h, _⟩ => (nomatch h), fun ⟨_, h, _⟩ => (nomatch h)⟩⟩
  | x :: ls, h => by
    obtain ⟨ms, h1, h2⟩ := thin_ex hl (ls := ls) fun y hy => h y (.tail _ hy)
    obtain ⟨o, ok, ho⟩ := sees_ex (x := x) hl (h x (.head _))
    cases o with
    | none =>
      refine ⟨ms, Nat.le_succ_of_le h1, fun t => (h2 t).trans ⟨fun ⟨y, hy, hd⟩ => ⟨y, .tail _ hy, hd⟩, fun ⟨y, hy, hd⟩ => ?_⟩⟩
      rcases List.mem_cons.mp hy with rfl | hy
      · exact ((ho t).mpr hd).elim
      · exact ⟨y, hy, hd⟩
    | some q =>
      refine ⟨q :: ms, Nat.succ_le_succ h1, fun t => ⟨fun ⟨y, hy, hd⟩ => ?_, fun ⟨y, hy, hd⟩ => ?_⟩⟩
      · rcases List.mem_cons.mp hy with rfl | hy
        · exact ⟨x, .head _, (ho t).mp hd⟩
        · obtain ⟨z, hz, hd2⟩ := (h2 t).mp ⟨y, hy, hd⟩
          exact ⟨z, .tail _ hz, hd2⟩
      · rcases List.mem_cons.mp hy with rfl | hy
        · exact ⟨q, .head _, (ho t).mpr hd⟩
        · obtain ⟨z, hz, hd2⟩ := (h2 t).mpr ⟨y, hy, hd⟩
          exact ⟨z, .tail _ hz, hd2⟩
theorem thin_wait {l : Int × Int} {ls : List (Int × Int)} (hl : 0 < l.1) (h : ∀ x ∈ ls, 0 < x.1) (n0 : Int) (hb : ∀ i : Nat, i < 2 ^ ls.length → Bright ls (l.2 + (n0 + i) * l.1)) (t : Int) : Bright ls (l.2 + t * l.1) := by
  obtain ⟨ms, h1, h2⟩ := thin_ex hl h
  refine (h2 t).mp (wait_all ms n0 (fun i hi => (h2 _).mpr (hb i (Nat.lt_of_lt_of_le hi (Nat.pow_le_pow_right (by decide) h1)))) t)
/-- the number of a lamp's first own beat from a beat on -/
def fstN (l : Int × Int) (t : Int) : Int := (t + (l.2 - t) % l.1 - l.2) / l.1
theorem fst_at {l : Int × Int} (hl : 0 < l.1) (t : Int) : l.2 + fstN l t * l.1 = t + (l.2 - t) % l.1 := by
  have d : l.1 ∣ t + (l.2 - t) % l.1 - l.2 := by
    have := Int.emod_add_mul_ediv (l.2 - t) l.1
    exact ⟨-((l.2 - t) / l.1), by rw [Int.mul_neg]; omega⟩
  have := Int.ediv_mul_cancel d
  unfold fstN
  omega
theorem fst_ge {l : Int × Int} (hl : 0 < l.1) (t : Int) : t ≤ l.2 + fstN l t * l.1 := by
  rw [fst_at hl]
  have := Int.emod_nonneg (l.2 - t) (show l.1 ≠ 0 by omega)
  omega
theorem fst_le {l : Int × Int} (hl : 0 < l.1) {t x : Int} (h : t ≤ x) (hx : l.1 ∣ x - l.2) : ∃ n, fstN l t ≤ n ∧ x = l.2 + n * l.1 := by
  obtain ⟨n, hn⟩ := hx
  refine ⟨n, ?_, by rw [Int.mul_comm]; omega⟩
  have h1 := fst_at hl t
  have h2 := Int.emod_lt_of_pos (l.2 - t) hl
  by_cases hh : fstN l t ≤ n
  · exact hh
  · have h3 : (n + 1) * l.1 ≤ fstN l t * l.1 := Int.mul_le_mul_of_nonneg_right (by omega) (by omega)
    rw [Int.add_mul, Int.one_mul, Int.mul_comm n] at h3
    omega
/-- the first own beat of a lamp from a beat on that is dark by other lamps -/
def OutIs (l : Int × Int) (ls : List (Int × Int)) (t : Int) : Option Int → Prop
  | some b => t ≤ b ∧ l.1 ∣ b - l.2 ∧ ¬ Bright ls b ∧ ∀ x, t ≤ x → l.1 ∣ x - l.2 → ¬ Bright ls x → b ≤ x
  | none => ∀ n : Int, Bright ls (l.2 + n * l.1)
/-- places, of some from a number on, at which a lamp's own beats are dark by other lamps -/
def outsL (l : Int × Int) (ls : List (Int × Int)) (n0 : Int) : List Nat := (List.range (2 ^ ls.length)).filter fun j => decide (lrow ls (l.2 + (n0 + (j : Nat)) * l.1) = [])
theorem outs_mem {l : Int × Int} {ls : List (Int × Int)} {n0 : Int} {j : Nat} : j ∈ outsL l ls n0 ↔ j < 2 ^ ls.length ∧ ¬ Bright ls (l.2 + (n0 + j) * l.1) := by
  unfold outsL
  rw [List.mem_filter, List.mem_range, decide_eq_true_iff, lrow_nil]
theorem outs_none {l : Int × Int} {ls : List (Int × Int)} {n0 : Int} (hl : 0 < l.1) (h : ∀ x ∈ ls, 0 < x.1) (e : outsL l ls n0 = []) (n : Int) : Bright ls (l.2 + n * l.1) := by
  refine thin_wait hl h n0 (fun i hi => ?_) n
  by_cases hb : Bright ls (l.2 + (n0 + i) * l.1)
  · exact hb
  · have := outs_mem.mpr ⟨hi, hb⟩
    rw [e] at this
    cases this
theorem outs_head {l : Int × Int} {ls : List (Int × Int)} {t : Int} {j : Nat} (hl : 0 < l.1) (e : (outsL l ls (fstN l t)).head? = some j) : OutIs l ls t (some (l.2 + (fstN l t + j) * l.1)) := by
  have hm := outs_mem.mp (List.mem_of_mem_head? (by rw [e]; rfl))
  have hg := fst_ge hl t
  have hj : 0 ≤ (j : Int) * l.1 := Int.mul_nonneg (by omega) (by omega)
  refine ⟨by rw [Int.add_mul]; omega, ⟨fstN l t + j, by rw [Int.mul_comm]; omega⟩, hm.2, fun x hx hd hb => ?_⟩
  obtain ⟨n, h1, rfl⟩ := fst_le hl hx hd
  have key : fstN l t + j ≤ n := by
    by_cases hn : n < fstN l t + (2 ^ ls.length : Nat)
    · obtain ⟨i, hi⟩ : ∃ i : Nat, n = fstN l t + i := ⟨(n - fstN l t).toNat, by omega⟩
      subst hi
      have mi := outs_mem.mpr ⟨by omega, hb⟩
      rcases pairwise_head (R := (· < ·)) (List.Pairwise.filter _ List.pairwise_lt_range) e mi with rfl | hlt
      · omega
      · omega
    · have := hm.1
      omega
  have := Int.mul_le_mul_of_nonneg_right key (show 0 ≤ l.1 by omega)
  omega
/-- first beats from a beat on, bright by some lamps, dark by others: enough of them to know the first -/
structure OutsIs (bs : List Int) (ls1 ls2 : List (Int × Int)) (t : Int) : Prop where
  no : bs = [] → ∀ x, Bright ls1 x → Bright ls2 x
  at_ : ∀ b ∈ bs, t ≤ b ∧ Bright ls1 b ∧ ¬ Bright ls2 b
  le : ∀ x, t ≤ x → Bright ls1 x → ¬ Bright ls2 x → ∃ b ∈ bs, b ≤ x
theorem OutsIs.nil {ls2 : List (Int × Int)} {t : Int} : OutsIs [] [] ls2 t :=
  ⟨fun _ _ ⟨_, h, _⟩ => (nomatch h), fun _ h => (nomatch h), fun _ _ ⟨_, h, _⟩ => (nomatch h)⟩
theorem bright_snoc {ls : List (Int × Int)} {l : Int × Int} {x : Int} : Bright (ls ++ [l]) x ↔ Bright ls x ∨ l.1 ∣ x - l.2 := by
  constructor
  · rintro ⟨k, hk, hd⟩
    rcases List.mem_append.mp hk with h | h
    · exact .inl ⟨k, h, hd⟩
    · rw [List.mem_singleton.mp h] at hd
      exact .inr hd
  · rintro (⟨k, hk, hd⟩ | hd)
    · exact ⟨k, List.mem_append_left _ hk, hd⟩
    · exact ⟨l, List.mem_append_right _ (List.mem_singleton.mpr rfl), hd⟩
theorem OutsIs.more {bs : List Int} {ls1 ls2 : List (Int × Int)} {t : Int} {l : Int × Int} {o : Option Int} (h : OutsIs bs ls1 ls2 t) (hl : 0 < l.1) (ho : OutIs l ls2 t o) : OutsIs (bs ++ o.toList) (ls1 ++ [l]) ls2 t := by
  cases o with
  | none =>
    have all : ∀ x, l.1 ∣ x - l.2 → Bright ls2 x := fun x ⟨n, hn⟩ => by
      have := ho n
      rwa [show l.2 + n * l.1 = x by rw [Int.mul_comm]; omega] at this
    rw [show bs ++ (none : Option Int).toList = bs from List.append_nil bs]
    refine ⟨fun e x hx => ?_, fun b hb => ?_, fun x hx hb hd => ?_⟩
    · rcases bright_snoc.mp hx with h1 | h1
      · exact h.no e x h1
      · exact all x h1
    · obtain ⟨a1, a2, a3⟩ := h.at_ b hb
      exact ⟨a1, bright_snoc.mpr (.inl a2), a3⟩
    · rcases bright_snoc.mp hb with h1 | h1
      · exact h.le x hx h1 hd
      · exact absurd (all x h1) hd
  | some c =>
    obtain ⟨c1, c2, c3, c4⟩ := ho
    show OutsIs (bs ++ [c]) _ _ _
    refine ⟨fun e => by simp at e, fun b hb => ?_, fun x hx hb hd => ?_⟩
    · rcases List.mem_append.mp hb with h1 | h1
      · obtain ⟨a1, a2, a3⟩ := h.at_ b h1
        exact ⟨a1, bright_snoc.mpr (.inl a2), a3⟩
      · rw [List.mem_singleton.mp h1]
        exact ⟨c1, bright_snoc.mpr (.inr c2), c3⟩
    · rcases bright_snoc.mp hb with h1 | h1
      · obtain ⟨b, hb2, hle⟩ := h.le x hx h1 hd
        exact ⟨b, List.mem_append_left _ hb2, hle⟩
      · exact ⟨c, List.mem_append_right _ (List.mem_singleton.mpr rfl), c4 x hx h1 hd⟩

/-! ### a light seen from a lamp's own beats -/
def SeenOs (l : Int × Int) (ls : List (Int × Int)) (os : List OLp) : Prop := os.length = ls.length ∧ ∀ (i : Nat) x o, ls[i]? = some x → os[i]? = some o → SeesO l (some x) o
theorem SeenOs.cons {l x : Int × Int} {ls : List (Int × Int)} {o : OLp} {os : List OLp} (h : SeenOs l (x :: ls) (o :: os)) : SeesO l (some x) o ∧ SeenOs l ls os :=
  ⟨h.2 0 x o rfl rfl, by have := h.1; simpa using this, fun i y p e1 e2 => h.2 (i + 1) y p e1 e2⟩
theorem SeenOs.bright {l : Int × Int} : ∀ {ls : List (Int × Int)} {os : List OLp}, SeenOs l ls os → ∀ t, Bright (os.filterMap id) t ↔ Bright ls (l.2 + t * l.1)
  | [], [], _, t => ⟨fun ⟨_, h, _⟩ => (nomatch h), fun ⟨_, h, _⟩ => (nomatch h)⟩
  | [], _ :: _, h, _ => by have := h.1; simp at this
  | _ :: _, [], h, _ => by have := h.1; simp at this
  | x :: ls, o :: os, h, t => by
    obtain ⟨h1, h2⟩ := h.cons
    have ih := h2.bright t
    cases o with
    | none =>
      rw [show List.filterMap id (none :: os) = os.filterMap id from rfl]
      refine ih.trans ⟨fun ⟨y, hy, hd⟩ => ⟨y, .tail _ hy, hd⟩, fun ⟨y, hy, hd⟩ => ?_⟩
      rcases List.mem_cons.mp hy with rfl | hy
      · exact ((h1.2 t).mpr hd).elim
      · exact ⟨y, hy, hd⟩
    | some q =>
      rw [show List.filterMap id (some q :: os) = q :: os.filterMap id from rfl]
      refine ⟨fun ⟨y, hy, hd⟩ => ?_, fun ⟨y, hy, hd⟩ => ?_⟩
      · rcases List.mem_cons.mp hy with rfl | hy
        · exact ⟨x, .head _, (h1.2 t).mp hd⟩
        · obtain ⟨z, hz, hd2⟩ := ih.mp ⟨y, hy, hd⟩
          exact ⟨z, .tail _ hz, hd2⟩
      · rcases List.mem_cons.mp hy with rfl | hy
        · exact ⟨q, .head _, (h1.2 t).mpr hd⟩
        · obtain ⟨z, hz, hd2⟩ := ih.mpr ⟨y, hy, hd⟩
          exact ⟨z, .tail _ hz, hd2⟩
theorem SeenOs.len {l : Int × Int} {ls : List (Int × Int)} {os : List OLp} (h : SeenOs l ls os) : (os.filterMap id).length ≤ ls.length := by
  rw [← h.1]
  exact List.length_filterMap_le _ _
/-- a light's part at each so many beats, from a beat on -/
theorem bright_part {m f x : Int} (hm : 0 < m) (f0 : 0 ≤ f) (f1 : f < m) {ls ts : List (Int × Int)} (h : ∀ t, Bright ts t ↔ Bright ls (f + t * m)) : Bright (mvL f (stL m ts)) x ↔ x % m = f ∧ Bright ls x := by
  have e1 : x = (x - f) + f := by omega
  have e2 := Int.emod_add_mul_ediv (x - f) m
  have r0 := Int.emod_nonneg (x - f) (show m ≠ 0 by omega)
  have r1 := Int.emod_lt_of_pos (x - f) hm
  rw [Int.mul_comm] at e2
  have step : Bright (mvL f (stL m ts)) x ↔ Bright (stL m ts) (x - f) := by
    conv => lhs; rw [e1]
    exact bright_mv
  rw [step]
  by_cases hr : (x - f) % m = 0
  · have ex : x - f = (x - f) / m * m := by omega
    rw [ex, bright_st hm, h, ← ex]
    have hx : x % m = f := by
      have : x = f + m * ((x - f) / m) := by rw [Int.mul_comm]; omega
      rw [this, Int.add_mul_emod_self_left, Int.emod_eq_of_lt f0 f1]
    rw [show f + (x - f) = x by omega]
    exact ⟨fun z => ⟨hx, z⟩, fun z => z.2⟩
  · have ex : x - f = (x - f) / m * m + (x - f) % m := by omega
    constructor
    · intro hb
      rw [ex] at hb
      exact absurd hb (dark_st (by omega) r1)
    · rintro ⟨hx, _⟩
      have : (x - f) % m = 0 := by
        have h3 : x - f = m * (x / m) := by
          have := Int.emod_add_mul_ediv x m
          omega
        rw [h3, Int.mul_emod_right]
      exact absurd this hr
theorem bright_app2 {ls ms : List (Int × Int)} {x : Int} : Bright (ls ++ ms) x ↔ Bright ls x ∨ Bright ms x := by
  constructor
  · rintro ⟨l, hl, hd⟩
    rcases List.mem_append.mp hl with h | h
    · exact .inl ⟨l, h, hd⟩
    · exact .inr ⟨l, h, hd⟩
  · rintro (⟨l, hl, hd⟩ | ⟨l, hl, hd⟩)
    · exact ⟨l, List.mem_append_left _ hl, hd⟩
    · exact ⟨l, List.mem_append_right _ hl, hd⟩
theorem snoc_at {α : Type} {xs : List α} {x y : α} {i : Nat} (e : (xs ++ [x])[i]? = some y) : (i < xs.length ∧ xs[i]? = some y) ∨ (i = xs.length ∧ y = x) := by
  by_cases hi : i < xs.length
  · rw [List.getElem?_append_left hi] at e
    exact .inl ⟨hi, e⟩
  · rw [List.getElem?_append_right (by omega)] at e
    have e0 : i - xs.length = 0 := by
      by_cases z : i - xs.length = 0
      · exact z
      · rw [List.getElem?_eq_none (by simp; omega)] at e; cases e
    rw [e0] at e
    cases e
    exact .inr ⟨by omega, rfl⟩

/-! ### the first beats that are told of two lights -/
def FirstO (ls1 ls2 : List (Int × Int)) (t : Int) : Option Int → Prop
  | some b => t ≤ b ∧ Bright ls1 b ∧ ¬ Bright ls2 b ∧ ∀ x, t ≤ x → x < b → Bright ls1 x → Bright ls2 x
  | none => ∀ x, Bright ls1 x → Bright ls2 x
def PartO (ls1 ls2 : List (Int × Int)) (t : Int) : Option Int → Prop
  | some b => t ≤ b ∧ ¬ (Bright ls1 b ↔ Bright ls2 b) ∧ ∀ x, t ≤ x → x < b → (Bright ls1 x ↔ Bright ls2 x)
  | none => ∀ x, Bright ls1 x ↔ Bright ls2 x
theorem FirstO.uniq {ls1 ls2 : List (Int × Int)} {t : Int} {o o' : Option Int} (h : FirstO ls1 ls2 t o) (h' : FirstO ls1 ls2 t o') : o = o' := by
  cases o with
  | none =>
    cases o' with
    | none => rfl
    | some b => exact absurd (h b h'.2.1) h'.2.2.1
  | some a =>
    cases o' with
    | none => exact absurd (h' a h.2.1) h.2.2.1
    | some b =>
      obtain ⟨a0, a1, a2, a3⟩ := h
      obtain ⟨b0, b1, b2, b3⟩ := h'
      rcases Int.lt_trichotomy a b with hlt | rfl | hlt
      · exact absurd (b3 a a0 hlt a1) a2
      · rfl
      · exact absurd (a3 b b0 hlt b1) b2
theorem PartO.uniq {ls1 ls2 : List (Int × Int)} {t : Int} {o o' : Option Int} (h : PartO ls1 ls2 t o) (h' : PartO ls1 ls2 t o') : o = o' := by
  cases o with
  | none =>
    cases o' with
    | none => rfl
    | some b => exact absurd (h b) h'.2.1
  | some a =>
    cases o' with
    | none => exact absurd (h' a) h.2.1
    | some b =>
      obtain ⟨a0, a1, a3⟩ := h
      obtain ⟨b0, b1, b3⟩ := h'
      rcases Int.lt_trichotomy a b with hlt | rfl | hlt
      · exact absurd (b3 a a0 hlt) a1
      · rfl
      · exact absurd (a3 b b0 hlt) b1
def IsLeast (os : List (Option Int)) : Option Int → Prop
  | some m => some m ∈ os ∧ ∀ k, some k ∈ os → m ≤ k
  | none => ∀ x ∈ os, x = none
/-- the first beat from a beat on of which something is so -/
def LstO (P : Int → Prop) (t : Int) : Option Int → Prop
  | some x => t ≤ x ∧ P x ∧ ∀ y, t ≤ y → y < x → ¬ P y
  | none => ∀ y, ¬ P y
/-- two conditions, the least beat of either -/
theorem least_two {P Q : Int → Prop} {t : Int} {a b m : Option Int} (ha : LstO P t a) (hb : LstO Q t b) (hm : IsLeast [a, b] m) : LstO (fun x => P x ∨ Q x) t m := by
  cases m with
  | none =>
    have e1 : a = none := hm a (.head _)
    have e2 : b = none := hm b (.tail _ (.head _))
    subst e1 e2
    exact fun y z => z.elim (ha y) (hb y)
  | some x =>
    obtain ⟨hx, hle⟩ := hm
    have pa : ∀ y, t ≤ y → y < x → ¬ P y := fun y h1 h2 => by
      cases a with
      | none => exact ha y
      | some z => exact ha.2.2 y h1 (by have := hle z (.head _); omega)
    have pb : ∀ y, t ≤ y → y < x → ¬ Q y := fun y h1 h2 => by
      cases b with
      | none => exact hb y
      | some z => exact hb.2.2 y h1 (by have := hle z (.tail _ (.head _)); omega)
    simp only [List.mem_cons, List.not_mem_nil, or_false] at hx
    rcases hx with rfl | rfl
    · exact ⟨ha.1, .inl ha.2.1, fun y h1 h2 z => z.elim (pa y h1 h2) (pb y h1 h2)⟩
    · exact ⟨hb.1, .inr hb.2.1, fun y h1 h2 z => z.elim (pa y h1 h2) (pb y h1 h2)⟩
theorem FirstO.m {ls1 ls2 : List (Int × Int)} {t : Int} {a : Option Int} (h : FirstO ls1 ls2 t a) : LstO (fun x => Bright ls1 x ∧ ¬ Bright ls2 x) t a := by
  cases a with
  | none => exact fun y z => z.2 (h y z.1)
  | some x => exact ⟨h.1, ⟨h.2.1, h.2.2.1⟩, fun y h1 h2 z => z.2 (h.2.2.2 y h1 h2 z.1)⟩
theorem part_least {ls1 ls2 : List (Int × Int)} {t : Int} {a b m o : Option Int} (ha : FirstO ls1 ls2 t a) (hb : FirstO ls2 ls1 t b) (hm : IsLeast [a, b] m) (ho : PartO ls1 ls2 t o) : o = m := by
  refine ho.uniq ?_
  have key := least_two ha.m hb.m hm
  have imp : ∀ y, ¬ ((Bright ls1 y ∧ ¬ Bright ls2 y) ∨ (Bright ls2 y ∧ ¬ Bright ls1 y)) → (Bright ls1 y ↔ Bright ls2 y) := fun y z =>
    ⟨fun h => Classical.byContradiction fun n => z (.inl ⟨h, n⟩), fun h => Classical.byContradiction fun n => z (.inr ⟨h, n⟩)⟩
  cases m with
  | none => exact fun y => imp y (key y)
  | some x =>
    refine ⟨key.1, fun z => ?_, fun y h1 h2 => imp y (key.2.2 y h1 h2)⟩
    rcases key.2.1 with ⟨h1, h2⟩ | ⟨h1, h2⟩
    · exact h2 (z.mp h1)
    · exact h2 (z.mpr h1)
theorem first_app {ls1 ls2 ls3 : List (Int × Int)} {t : Int} {a b m o : Option Int} (ha : FirstO ls1 ls3 t a) (hb : FirstO ls2 ls3 t b) (hm : IsLeast [a, b] m) (ho : FirstO (ls1 ++ ls2) ls3 t o) : o = m := by
  refine ho.uniq ?_
  have key := least_two ha.m hb.m hm
  cases m with
  | none =>
    intro y hy
    refine Classical.byContradiction fun n => ?_
    rcases bright_app2.mp hy with h | h
    · exact key y (.inl ⟨h, n⟩)
    · exact key y (.inr ⟨h, n⟩)
  | some x =>
    refine ⟨key.1, ?_, ?_, fun y h1 h2 hy => ?_⟩
    · rcases key.2.1 with ⟨h, _⟩ | ⟨h, _⟩
      · exact bright_app2.mpr (.inl h)
      · exact bright_app2.mpr (.inr h)
    · rcases key.2.1 with ⟨_, h⟩ | ⟨_, h⟩ <;> exact h
    · refine Classical.byContradiction fun n => ?_
      rcases bright_app2.mp hy with h | h
      · exact key.2.2 y h1 h2 (.inl ⟨h, n⟩)
      · exact key.2.2 y h1 h2 (.inr ⟨h, n⟩)
theorem part_beside {ls1 ls2 : List (Int × Int)} {t : Int} {a o : Option Int} (ha : FirstO ls1 ls2 t a) (ho : PartO ls2 (ls2 ++ ls1) t o) : o = a := by
  refine ho.uniq ?_
  cases a with
  | none => exact fun y => ⟨fun h => bright_app2.mpr (.inl h), fun h => (bright_app2.mp h).elim id (ha y)⟩
  | some x =>
    refine ⟨ha.1, fun z => ha.2.2.1 (z.mpr (bright_app2.mpr (.inr ha.2.1))), fun y h1 h2 => ⟨fun h => bright_app2.mpr (.inl h), fun h => (bright_app2.mp h).elim id (ha.2.2.2 y h1 h2)⟩⟩
theorem part_swap {ls1 ls2 : List (Int × Int)} {t : Int} {o o' : Option Int} (h : PartO ls1 ls2 t o) (h' : PartO ls2 ls1 t o') : o = o' := by
  refine h.uniq ?_
  cases o' with
  | none => exact fun y => (h' y).symm
  | some x => exact ⟨h'.1, fun z => h'.2.1 z.symm, fun y h1 h2 => (h'.2.2 y h1 h2).symm⟩

/-! ### the last beats up to a beat -/
def lstN (l : Int × Int) (t : Int) : Int := (t - l.2) / l.1
theorem lst_le {l : Int × Int} (hl : 0 < l.1) (t : Int) : l.2 + lstN l t * l.1 ≤ t := by
  have := Int.ediv_mul_le (t - l.2) (show l.1 ≠ 0 by omega)
  unfold lstN
  omega
theorem lst_ge {l : Int × Int} (hl : 0 < l.1) {t x : Int} (h : x ≤ t) (hx : l.1 ∣ x - l.2) : ∃ n, n ≤ lstN l t ∧ x = l.2 + n * l.1 := by
  obtain ⟨n, hn⟩ := hx
  refine ⟨n, ?_, by rw [Int.mul_comm]; omega⟩
  unfold lstN
  exact (Int.le_ediv_iff_mul_le hl).mpr (by rw [Int.mul_comm]; omega)
/-- the last own beat of a lamp up to a beat that is dark by other lamps -/
def OutB (l : Int × Int) (ls : List (Int × Int)) (t : Int) : Option Int → Prop
  | some b => b ≤ t ∧ l.1 ∣ b - l.2 ∧ ¬ Bright ls b ∧ ∀ x, x ≤ t → l.1 ∣ x - l.2 → ¬ Bright ls x → x ≤ b
  | none => ∀ n : Int, Bright ls (l.2 + n * l.1)
theorem outs_last {l : Int × Int} {ls : List (Int × Int)} {t : Int} {j : Nat} (hl : 0 < l.1) (e : (outsL l ls (lstN l t - 2 ^ ls.length + 1)).getLast? = some j) : OutB l ls t (some (l.2 + (lstN l t - 2 ^ ls.length + 1 + j) * l.1)) := by
  have hm := outs_mem.mp (List.mem_of_getLast? e)
  have hg := lst_le hl t
  have hjn : lstN l t - 2 ^ ls.length + 1 + j ≤ lstN l t := by
    have := hm.1
    have e2 : ((2 ^ ls.length : Nat) : Int) = 2 ^ ls.length := by norm_cast
    omega
  have hj := Int.mul_le_mul_of_nonneg_right hjn (show 0 ≤ l.1 by omega)
  refine ⟨by omega, ⟨lstN l t - 2 ^ ls.length + 1 + j, by rw [Int.mul_comm]; omega⟩, hm.2, fun x hx hd hb => ?_⟩
  obtain ⟨n, h1, rfl⟩ := lst_ge hl hx hd
  have key : n ≤ lstN l t - 2 ^ ls.length + 1 + j := by
    by_cases hn : lstN l t - 2 ^ ls.length + 1 ≤ n
    · obtain ⟨i, hi⟩ : ∃ i : Nat, n = lstN l t - 2 ^ ls.length + 1 + i := ⟨(n - (lstN l t - 2 ^ ls.length + 1)).toNat, by omega⟩
      subst hi
      have e2 : ((2 ^ ls.length : Nat) : Int) = 2 ^ ls.length := by norm_cast
      have mi := outs_mem.mpr ⟨by omega, hb⟩
      rcases pairwise_last (List.Pairwise.filter _ List.pairwise_lt_range) e mi with rfl | hlt
      · omega
      · omega
    · omega
  have := Int.mul_le_mul_of_nonneg_right key (show 0 ≤ l.1 by omega)
  omega
structure BacksIs (bs : List Int) (ls1 ls2 : List (Int × Int)) (t : Int) : Prop where
  no : bs = [] → ∀ x, Bright ls1 x → Bright ls2 x
  at_ : ∀ b ∈ bs, b ≤ t ∧ Bright ls1 b ∧ ¬ Bright ls2 b
  ge : ∀ x, x ≤ t → Bright ls1 x → ¬ Bright ls2 x → ∃ b ∈ bs, x ≤ b
theorem BacksIs.nil {ls2 : List (Int × Int)} {t : Int} : BacksIs [] [] ls2 t :=
  ⟨fun _ _ ⟨_, h, _⟩ => (nomatch h), fun _ h => (nomatch h), fun _ _ ⟨_, h, _⟩ => (nomatch h)⟩
theorem BacksIs.more {bs : List Int} {ls1 ls2 : List (Int × Int)} {t : Int} {l : Int × Int} {o : Option Int} (h : BacksIs bs ls1 ls2 t) (ho : OutB l ls2 t o) : BacksIs (bs ++ o.toList) (ls1 ++ [l]) ls2 t := by
  cases o with
  | none =>
    have all : ∀ x, l.1 ∣ x - l.2 → Bright ls2 x := fun x ⟨n, hn⟩ => by
      have := ho n
      rwa [show l.2 + n * l.1 = x by rw [Int.mul_comm]; omega] at this
    rw [show bs ++ (none : Option Int).toList = bs from List.append_nil bs]
    refine ⟨fun e x hx => ?_, fun b hb => ?_, fun x hx hb hd => ?_⟩
    · rcases bright_snoc.mp hx with h1 | h1
      · exact h.no e x h1
      · exact all x h1
    · obtain ⟨a1, a2, a3⟩ := h.at_ b hb
      exact ⟨a1, bright_snoc.mpr (.inl a2), a3⟩
    · rcases bright_snoc.mp hb with h1 | h1
      · exact h.ge x hx h1 hd
      · exact absurd (all x h1) hd
  | some c =>
    obtain ⟨c1, c2, c3, c4⟩ := ho
    show BacksIs (bs ++ [c]) _ _ _
    refine ⟨fun e => by simp at e, fun b hb => ?_, fun x hx hb hd => ?_⟩
    · rcases List.mem_append.mp hb with h1 | h1
      · obtain ⟨a1, a2, a3⟩ := h.at_ b h1
        exact ⟨a1, bright_snoc.mpr (.inl a2), a3⟩
      · rw [List.mem_singleton.mp h1]
        exact ⟨c1, bright_snoc.mpr (.inr c2), c3⟩
    · rcases bright_snoc.mp hb with h1 | h1
      · obtain ⟨b, hb2, hle⟩ := h.ge x hx h1 hd
        exact ⟨b, List.mem_append_left _ hb2, hle⟩
      · exact ⟨c, List.mem_append_right _ (List.mem_singleton.mpr rfl), c4 x hx h1 hd⟩
/-! ### parting beats, one behind the other -/
def Parts (ls1 ls2 : List (Int × Int)) (x : Int) : Prop := ¬ (Bright ls1 x ↔ Bright ls2 x)
theorem gap_one {ls1 ls2 : List (Int × Int)} {far : Int} (ok1 : ∀ l ∈ ls1, 0 < l.1) (ok2 : ∀ l ∈ ls2, 0 < l.1) (hf : ∀ l ∈ ls1, l.1 * 2 ^ ls2.length ≤ far) {z : Int} (h1 : Bright ls1 z) (h2 : ¬ Bright ls2 z) (x : Int) : ∃ y, x ≤ y ∧ y < x + far ∧ Bright ls1 y ∧ ¬ Bright ls2 y := by
  obtain ⟨l, hl, n, hn⟩ := h1
  have p0 := ok1 l hl
  have hex : ∃ i : Nat, i < 2 ^ ls2.length ∧ ¬ Bright ls2 (l.2 + (fstN l x + i) * l.1) := by
    refine Classical.byContradiction fun hc => h2 ?_
    have := thin_wait p0 ok2 (fstN l x) (fun i hi => Classical.byContradiction fun hb => hc ⟨i, hi, hb⟩) n
    rwa [show l.2 + n * l.1 = z by rw [Int.mul_comm]; omega] at this
  obtain ⟨i, hi, hb⟩ := hex
  refine ⟨_, ?_, ?_, ⟨l, hl, ⟨fstN l x + i, by rw [Int.mul_comm]; omega⟩⟩, hb⟩
  · have := fst_ge p0 x
    have := Int.mul_nonneg (show (0 : Int) ≤ i by omega) (show 0 ≤ l.1 by omega)
    rw [Int.add_mul]
    omega
  · have h3 := fst_at p0 x
    have h4 := Int.emod_lt_of_pos (l.2 - x) p0
    have h5 : ((i : Int) + 1) * l.1 ≤ 2 ^ ls2.length * l.1 := by
      refine Int.mul_le_mul_of_nonneg_right ?_ (by omega)
      have e2 : ((2 ^ ls2.length : Nat) : Int) = 2 ^ ls2.length := by norm_cast
      omega
    have h6 := hf l hl
    rw [Int.mul_comm] at h6
    rw [Int.add_mul, Int.one_mul] at h5
    rw [Int.add_mul]
    omega
theorem gap_any {ls1 ls2 : List (Int × Int)} {far : Int} (ok1 : ∀ l ∈ ls1, 0 < l.1) (ok2 : ∀ l ∈ ls2, 0 < l.1) (hf1 : ∀ l ∈ ls1, l.1 * 2 ^ ls2.length ≤ far) (hf2 : ∀ l ∈ ls2, l.1 * 2 ^ ls1.length ≤ far) {z : Int} (hz : Parts ls1 ls2 z) (x : Int) : ∃ y, x ≤ y ∧ y < x + far ∧ Parts ls1 ls2 y := by
  by_cases h1 : Bright ls1 z
  · have h2 : ¬ Bright ls2 z := fun h => hz ⟨fun _ => h, fun _ => h1⟩
    obtain ⟨y, a, b, c, d⟩ := gap_one ok1 ok2 hf1 h1 h2 x
    exact ⟨y, a, b, fun z => d (z.mp c)⟩
  · have h2 : Bright ls2 z := Classical.byContradiction fun h => hz ⟨fun w => absurd w h1, fun w => absurd w h⟩
    obtain ⟨y, a, b, c, d⟩ := gap_one ok2 ok1 hf2 h2 h1 x
    exact ⟨y, a, b, fun z => d (z.mpr c)⟩
/-- one parting beat, and the next one -/
structure NextP (ls1 ls2 : List (Int × Int)) (lo hi : Int) : Prop where
  lt : lo < hi
  l : Parts ls1 ls2 lo
  h : Parts ls1 ls2 hi
  no : ∀ x, lo < x → x < hi → (Bright ls1 x ↔ Bright ls2 x)
theorem NextP.gap {ls1 ls2 : List (Int × Int)} {far lo hi : Int} (n : NextP ls1 ls2 lo hi) (ok1 : ∀ l ∈ ls1, 0 < l.1) (ok2 : ∀ l ∈ ls2, 0 < l.1) (hf1 : ∀ l ∈ ls1, l.1 * 2 ^ ls2.length ≤ far) (hf2 : ∀ l ∈ ls2, l.1 * 2 ^ ls1.length ≤ far) : hi - lo ≤ far := by
  obtain ⟨y, h1, h2, h3⟩ := gap_any ok1 ok2 hf1 hf2 n.l (lo + 1)
  by_cases h : y < hi
  · exact absurd (n.no y (by omega) h) h3
  · omega

/-! ### lamps that leave but the last of each 2 ** m of a lamp's own beats dark -/
theorem odd_pow {P : Int} (hP : P % 2 = 1) : ∀ (k : Nat) (u : Int), (2 : Int) ^ k ∣ u * P → (2 : Int) ^ k ∣ u
  | 0, u, _ => ⟨u, by simp⟩
  | k + 1, u, h => by
    have h2 : (2 : Int) ∣ u * P := Int.dvd_trans ⟨2 ^ k, by rw [Int.pow_succ, Int.mul_comm]⟩ h
    have hu : u % 2 = 0 := by
      have e := Int.emod_eq_zero_of_dvd h2
      rw [Int.mul_emod, hP] at e
      omega
    obtain ⟨q, rfl⟩ : ∃ q, u = 2 * q := ⟨u / 2, by omega⟩
    have h3 : (2 : Int) ^ k ∣ q * P := by
      obtain ⟨c, hc⟩ := h
      refine ⟨c, ?_⟩
      have e : (2 : Int) * (q * P) = 2 * (2 ^ k * c) := by
        rw [← Int.mul_assoc, hc, Int.pow_succ]
        grind
      omega
    obtain ⟨c, hc⟩ := odd_pow hP k q h3
    exact ⟨c, by rw [hc, Int.pow_succ]; grind⟩
theorem last_hit {P b c : Int} {k : Nat} {n : Int} (hP : P % 2 = 1) (c0 : 0 < c) (hc : c ∣ P) : (2 : Int) ^ (k + 1) * c ∣ b + n * P - (b + (2 ^ k - 1) * P) ↔ (2 : Int) ^ (k + 1) ∣ n + 1 - 2 ^ k := by
  obtain ⟨d, rfl⟩ := hc
  have e : b + n * (c * d) - (b + (2 ^ k - 1) * (c * d)) = (n + 1 - 2 ^ k) * (c * d) := by grind
  rw [e]
  constructor
  · rintro ⟨w, hw⟩
    refine odd_pow hP (k + 1) _ ⟨c * w, ?_⟩
    rw [hw]
    grind
  · rintro ⟨w, hw⟩
    exact ⟨w * d, by rw [hw]; grind⟩
theorem pow_bits (m : Nat) (v : Int) : (∃ k, k < m ∧ (2 : Int) ^ (k + 1) ∣ v - 2 ^ k) ↔ ¬ (2 : Int) ^ m ∣ v := by
  induction m with
  | zero => exact ⟨fun ⟨k, h, _⟩ => absurd h (Nat.not_lt_zero k), fun h => absurd ⟨v, by simp⟩ h⟩
  | succ m ih =>
    have ev : ∀ w : Int, (2 : Int) ^ (m + 1) ∣ 2 ^ m * w ↔ w % 2 = 0 := fun w => by
      have p0 : (2 : Int) ^ m ≠ 0 := by
        have : (0 : Int) < 2 ^ m := Int.pow_pos (by decide)
        omega
      rw [Int.pow_succ, Int.mul_dvd_mul_iff_left p0]
      omega
    by_cases h : (2 : Int) ^ m ∣ v
    · obtain ⟨w, rfl⟩ := h
      have e : (2 : Int) ^ m * w - 2 ^ m = 2 ^ m * (w - 1) := by rw [Int.mul_sub, Int.mul_one]
      rw [ev]
      constructor
      · rintro ⟨k, hk, hd⟩
        by_cases hkm : k < m
        · exact absurd ⟨w, rfl⟩ (ih.mp ⟨k, hkm, hd⟩)
        · obtain rfl : k = m := by omega
          rw [e, ev] at hd
          omega
      · intro hw
        exact ⟨m, Nat.lt_succ_self m, by rw [e, ev]; omega⟩
    · constructor
      · intro _ h2
        exact h (Int.dvd_trans ⟨2, by rw [Int.pow_succ]⟩ h2)
      · intro _
        obtain ⟨k, hk, hd⟩ := ih.mpr h
        exact ⟨k, by omega, hd⟩
/-- lamps as they are laid -/
def Laid (P b : Int) (ls : List (Int × Int)) : Prop := ∀ (k : Nat) l, ls[k]? = some l → ∃ c, 0 < c ∧ c ∣ P ∧ l = ((2 : Int) ^ (k + 1) * c, b + (2 ^ k - 1) * P)
theorem laid_bright {P b : Int} {ls : List (Int × Int)} (hP : P % 2 = 1) (h : Laid P b ls) (n : Int) : Bright ls (b + n * P) ↔ ¬ (2 : Int) ^ ls.length ∣ n + 1 := by
  rw [← pow_bits]
  constructor
  · rintro ⟨l, hl, hd⟩
    obtain ⟨k, hk, e⟩ := List.getElem_of_mem hl
    obtain ⟨c, c0, hc, e2⟩ := h k l (by rw [List.getElem?_eq_getElem hk, e])
    rw [e2] at hd
    exact ⟨k, hk, (last_hit hP c0 hc).mp hd⟩
  · rintro ⟨k, hk, hd⟩
    obtain ⟨c, c0, hc, e2⟩ := h k _ (List.getElem?_eq_getElem hk)
    refine ⟨ls[k], List.getElem_mem hk, ?_⟩
    rw [e2]
    exact (last_hit hP c0 hc).mpr hd
/-- of a lamp's own beats just those are dark that stand so far on -/
def Lone (P b W : Int) (ls : List (Int × Int)) : Prop := ∀ x, (P ∣ x - b ∧ ¬ Bright ls x) ↔ W ∣ x - (b + W - P)
theorem laid_lone {P b : Int} {ls : List (Int × Int)} (hP : P % 2 = 1) (h : Laid P b ls) : Lone P b (2 ^ ls.length * P) ls := fun x => by
  constructor
  · rintro ⟨⟨n, hn⟩, hd⟩
    have ex : x = b + n * P := by rw [Int.mul_comm] at hn; omega
    rw [ex, laid_bright hP h] at hd
    obtain ⟨q, hq⟩ := Classical.not_not.mp hd
    refine ⟨q - 1, ?_⟩
    have : (n + 1) * P = 2 ^ ls.length * q * P := by rw [hq]
    rw [ex]
    grind
  · rintro ⟨q, hq⟩
    have ex : x = b + (2 ^ ls.length * (q + 1) - 1) * P := by grind
    refine ⟨⟨2 ^ ls.length * (q + 1) - 1, by rw [ex]; grind⟩, ?_⟩
    rw [ex, laid_bright hP h, Classical.not_not]
    exact ⟨q + 1, by omega⟩
theorem Lone.perm {P b W : Int} {ls ms : List (Int × Int)} (h : Lone P b W ls) (e : ∀ l, l ∈ ms ↔ l ∈ ls) : Lone P b W ms := fun x => by
  rw [← h x, bright_same e x]
/-- the first and the last of some beats that stand so far apart -/
theorem step_first {W a t : Int} (hW : 0 < W) : t ≤ t + (a - t) % W ∧ W ∣ t + (a - t) % W - a ∧ ∀ x, t ≤ x → x < t + (a - t) % W → ¬ W ∣ x - a := by
  have h0 := Int.emod_nonneg (a - t) (show W ≠ 0 by omega)
  have h1 := Int.emod_lt_of_pos (a - t) hW
  have h2 : W ∣ t + (a - t) % W - a := by
    have := Int.emod_def (a - t) W
    exact ⟨-((a - t) / W), by rw [Int.mul_neg]; omega⟩
  refine ⟨by omega, h2, fun x hx hlt hd => ?_⟩
  have h3 : W ∣ (t + (a - t) % W) - x := by
    have := Int.dvd_sub h2 hd
    obtain ⟨c, hc⟩ := this
    exact ⟨c, by omega⟩
  have := Int.le_of_dvd (by omega) h3
  omega
theorem step_last {W a t : Int} (hW : 0 < W) : t - (t - a) % W ≤ t ∧ W ∣ t - (t - a) % W - a ∧ ∀ x, t - (t - a) % W < x → x ≤ t → ¬ W ∣ x - a := by
  have h0 := Int.emod_nonneg (t - a) (show W ≠ 0 by omega)
  have h1 := Int.emod_lt_of_pos (t - a) hW
  have h2 : W ∣ t - (t - a) % W - a := by
    have := Int.emod_def (t - a) W
    exact ⟨(t - a) / W, by omega⟩
  refine ⟨by omega, h2, fun x hx hle hd => ?_⟩
  have h3 : W ∣ x - (t - (t - a) % W) := by
    have := Int.dvd_sub hd h2
    obtain ⟨c, hc⟩ := this
    exact ⟨c, by omega⟩
  have := Int.le_of_dvd (by omega) h3
  omega
theorem bright_one {l : Int × Int} {x : Int} : Bright [l] x ↔ l.1 ∣ x - l.2 :=
  ⟨fun ⟨m, hm, hd⟩ => by rw [List.mem_singleton.mp hm] at hd; exact hd, fun h => ⟨l, .head _, h⟩⟩
theorem bright_cons {l : Int × Int} {ls : List (Int × Int)} {x : Int} : Bright (l :: ls) x ↔ l.1 ∣ x - l.2 ∨ Bright ls x := by
  constructor
  · rintro ⟨m, hm, hd⟩
    rcases List.mem_cons.mp hm with rfl | hm
    · exact .inl hd
    · exact .inr ⟨m, hm, hd⟩
  · rintro (h | ⟨m, hm, hd⟩)
    · exact ⟨l, .head _, h⟩
    · exact ⟨m, .tail _ hm, hd⟩
theorem lone_first {P b W t : Int} {ls : List (Int × Int)} (hW : 0 < W) (h : Lone P b W ls) : FirstO [(P, b)] ls t (some (t + (b + W - P - t) % W)) := by
  obtain ⟨h0, h1, h2⟩ := step_first (a := b + W - P) (t := t) hW
  obtain ⟨d1, d2⟩ := (h _).mpr h1
  refine ⟨h0, bright_one.mpr d1, d2, fun x hx hlt hb => ?_⟩
  refine Classical.byContradiction fun hn => h2 x hx hlt ((h x).mp ⟨bright_one.mp hb, hn⟩)
theorem lone_iff {P b W x : Int} {ls : List (Int × Int)} (h : Lone P b W ls) : (Bright ls x ↔ Bright ((P, b) :: ls) x) ↔ ¬ W ∣ x - (b + W - P) := by
  rw [← h x, bright_cons]
  by_cases h1 : Bright ls x <;> by_cases h2 : P ∣ x - b <;> simp [h1, h2]
theorem lone_part {P b W t : Int} {ls : List (Int × Int)} (hW : 0 < W) (h : Lone P b W ls) : PartO ls ((P, b) :: ls) t (some (t + (b + W - P - t) % W)) := by
  obtain ⟨h0, h1, h2⟩ := step_first (a := b + W - P) (t := t) hW
  exact ⟨h0, fun z => (lone_iff h).mp z h1, fun x hx hlt => (lone_iff h).mpr (h2 x hx hlt)⟩
theorem PartO.symm {ls1 ls2 : List (Int × Int)} {t : Int} {o : Option Int} (h : PartO ls1 ls2 t o) : PartO ls2 ls1 t o := by
  cases o with
  | none => exact fun x => (h x).symm
  | some b => exact ⟨h.1, fun z => h.2.1 z.symm, fun x h1 h2 => (h.2.2 x h1 h2).symm⟩
theorem FirstO.nrm {ls1 ls2 : List (Int × Int)} {t : Int} {o : Option Int} (h : FirstO ls1 ls2 t o) : FirstO (ls1.map Own.nrm) (ls2.map Own.nrm) t o := by
  cases o with
  | none => exact fun x hx => bright_nrm.mpr (h x (bright_nrm.mp hx))
  | some b => exact ⟨h.1, bright_nrm.mpr h.2.1, fun z => h.2.2.1 (bright_nrm.mp z), fun x h1 h2 h3 => bright_nrm.mpr (h.2.2.2 x h1 h2 (bright_nrm.mp h3))⟩
theorem PartO.nrm {ls1 ls2 : List (Int × Int)} {t : Int} {o : Option Int} (h : PartO ls1 ls2 t o) : PartO (ls1.map Own.nrm) (ls2.map Own.nrm) t o := by
  cases o with
  | none => exact fun x => by rw [bright_nrm, bright_nrm]; exact h x
  | some b => exact ⟨h.1, by rw [bright_nrm, bright_nrm]; exact h.2.1, fun x h1 h2 => by rw [bright_nrm, bright_nrm]; exact h.2.2 x h1 h2⟩
/-- the last beat up to a beat that parts two lights -/
def BackO (ls1 ls2 : List (Int × Int)) (t : Int) : Option Int → Prop
  | some b => b ≤ t ∧ ¬ (Bright ls1 b ↔ Bright ls2 b) ∧ ∀ x, b < x → x ≤ t → (Bright ls1 x ↔ Bright ls2 x)
  | none => ∀ x, Bright ls1 x ↔ Bright ls2 x
theorem BackO.uniq {ls1 ls2 : List (Int × Int)} {t : Int} {o o' : Option Int} (h : BackO ls1 ls2 t o) (h' : BackO ls1 ls2 t o') : o = o' := by
  cases o with
  | none =>
    cases o' with
    | none => rfl
    | some b => exact absurd (h b) h'.2.1
  | some a =>
    cases o' with
    | none => exact absurd (h' a) h.2.1
    | some b =>
      obtain ⟨a0, a1, a3⟩ := h
      obtain ⟨b0, b1, b3⟩ := h'
      rcases Int.lt_trichotomy a b with hlt | rfl | hlt
      · exact absurd (a3 b hlt b0) b1
      · rfl
      · exact absurd (b3 a hlt a0) a1
theorem BackO.symm {ls1 ls2 : List (Int × Int)} {t : Int} {o : Option Int} (h : BackO ls1 ls2 t o) : BackO ls2 ls1 t o := by
  cases o with
  | none => exact fun x => (h x).symm
  | some b => exact ⟨h.1, fun z => h.2.1 z.symm, fun x h1 h2 => (h.2.2 x h1 h2).symm⟩
theorem BackO.nrm {ls1 ls2 : List (Int × Int)} {t : Int} {o : Option Int} (h : BackO ls1 ls2 t o) : BackO (ls1.map Own.nrm) (ls2.map Own.nrm) t o := by
  cases o with
  | none => exact fun x => by rw [bright_nrm, bright_nrm]; exact h x
  | some b => exact ⟨h.1, by rw [bright_nrm, bright_nrm]; exact h.2.1, fun x h1 h2 => by rw [bright_nrm, bright_nrm]; exact h.2.2 x h1 h2⟩
theorem lone_back {P b W t : Int} {ls : List (Int × Int)} (hW : 0 < W) (h : Lone P b W ls) : BackO ls ((P, b) :: ls) t (some (t - (t - (b + W - P)) % W)) := by
  obtain ⟨h0, h1, h2⟩ := step_last (a := b + W - P) (t := t) hW
  exact ⟨h0, fun z => (lone_iff h).mp z h1, fun x hx hlt => (lone_iff h).mpr (h2 x hx hlt)⟩

section
/-! ### lamps split, lamps left out -/
theorem pieces_bright {p b : Int} {m : Nat} (hm : 0 < m) (x : Int) : Bright ((List.range m).map fun (k : Nat) => (p * (m : Int), b + (k : Int) * p)) x ↔ p ∣ x - b := by
  constructor
  · rintro ⟨l, hl, hd⟩
    obtain ⟨k, hk, rfl⟩ := List.mem_map.mp hl
    have h1 : p ∣ x - (b + (k : Int) * p) := Int.dvd_trans ⟨(m : Int), rfl⟩ hd
    have h2 : p ∣ (k : Int) * p := ⟨k, Int.mul_comm _ _⟩
    have := Int.dvd_add h1 h2
    rw [show x - (b + (k : Int) * p) + (k : Int) * p = x - b by omega] at this
    exact this
  · rintro ⟨u, hu⟩
    have m0 : (0 : Int) < (m : Int) := by omega
    have r0 := Int.emod_nonneg u (show (m : Int) ≠ 0 by omega)
    have r1 := Int.emod_lt_of_pos u m0
    have e := Int.emod_add_mul_ediv u m
    refine ⟨_, List.mem_map.mpr ⟨(u % (m : Int)).toNat, List.mem_range.mpr (by omega), rfl⟩, u / (m : Int), ?_⟩
    show x - (b + (((u % (m : Int)).toNat : Nat) : Int) * p) = p * (m : Int) * (u / (m : Int))
    rw [Int.toNat_of_nonneg r0]
    have h1 : x - b = p * (u % (m : Int) + (m : Int) * (u / (m : Int))) := by rw [e]; exact hu
    rw [Int.mul_add, Int.mul_comm p (u % (m : Int)), ← Int.mul_assoc] at h1
    omega
theorem at_split {ls : List (Int × Int)} {k : Nat} {l : Int × Int} (h : ls[k]? = some l) : ls = ls.take k ++ l :: ls.drop (k + 1) := by
  obtain ⟨hk, e⟩ := List.getElem?_eq_some_iff.mp h
  rw [← e, List.getElem_cons_drop, List.take_append_drop]
theorem fewer_bright {ls : List (Int × Int)} {k : Nat} {l : Int × Int} (h : ls[k]? = some l) (x : Int) : Bright ls x ↔ l.1 ∣ x - l.2 ∨ Bright (ls.take k ++ ls.drop (k + 1)) x := by
  have e := at_split h
  constructor
  · intro hb
    rw [e] at hb
    rcases bright_app2.mp hb with h1 | h1
    · exact .inr (bright_app2.mpr (.inl h1))
    · rcases bright_cons.mp h1 with h2 | h2
      · exact .inl h2
      · exact .inr (bright_app2.mpr (.inr h2))
  · intro hb
    rw [e]
    rcases hb with h1 | h1
    · exact bright_app2.mpr (.inr (bright_cons.mpr (.inl h1)))
    · rcases bright_app2.mp h1 with h2 | h2
      · exact bright_app2.mpr (.inl h2)
      · exact bright_app2.mpr (.inr (bright_cons.mpr (.inr h2)))
theorem split_bright {ls ms : List (Int × Int)} {k : Nat} {l : Int × Int} (h : ls[k]? = some l) (hm : ∀ x, Bright ms x ↔ l.1 ∣ x - l.2) (x : Int) : Bright (ls.take k ++ ms ++ ls.drop (k + 1)) x ↔ Bright ls x := by
  rw [fewer_bright h x, bright_app2, bright_app2, bright_app2, hm]
  constructor
  · rintro ((h1 | h1) | h1)
    · exact .inr (.inl h1)
    · exact .inl h1
    · exact .inr (.inr h1)
  · rintro (h1 | h1 | h1)
    · exact .inl (.inr h1)
    · exact .inl (.inl h1)
    · exact .inr h1
theorem out_part {l : Int × Int} {L fs : List (Int × Int)} {t : Int} {o : Option Int} (hB : ∀ x, Bright L x ↔ l.1 ∣ x - l.2 ∨ Bright fs x) (h : OutIs l fs t o) : PartO fs L t o := by
  cases o with
  | none =>
    intro x
    rw [hB]
    refine ⟨.inr, fun z => z.elim (fun ⟨u, hu⟩ => ?_) id⟩
    have := h u
    rw [show l.2 + u * l.1 = x by rw [Int.mul_comm]; omega] at this
    exact this
  | some y =>
    obtain ⟨h1, h2, h3, h4⟩ := h
    refine ⟨h1, fun z => h3 (z.mpr ((hB y).mpr (.inl h2))), fun x hx hlt => ?_⟩
    rw [hB]
    refine ⟨.inr, fun z => z.elim (fun hd => Classical.byContradiction fun hn => ?_) id⟩
    have := h4 x hx hd hn
    omega
theorem outb_back {l : Int × Int} {L fs : List (Int × Int)} {t : Int} {o : Option Int} (hB : ∀ x, Bright L x ↔ l.1 ∣ x - l.2 ∨ Bright fs x) (h : OutB l fs t o) : BackO L fs t o := by
  cases o with
  | none =>
    intro x
    rw [hB]
    refine ⟨fun z => z.elim (fun ⟨u, hu⟩ => ?_) id, .inr⟩
    have := h u
    rw [show l.2 + u * l.1 = x by rw [Int.mul_comm]; omega] at this
    exact this
  | some y =>
    obtain ⟨h1, h2, h3, h4⟩ := h
    refine ⟨h1, fun z => h3 (z.mp ((hB y).mpr (.inl h2))), fun x hlt hx => ?_⟩
    rw [hB]
    refine ⟨fun z => z.elim (fun hd => Classical.byContradiction fun hn => ?_) id, .inr⟩
    have := h4 x hx hd hn
    omega
theorem out_mirror {p b t : Int} {fs : List (Int × Int)} {o : Option Int} (h : OutIs (p, 0 - b) (negL fs) (0 - t) o) : OutB (p, b) fs t (o.map (0 - ·)) := by
  have hb : ∀ x, Bright (negL fs) x ↔ Bright fs (0 - x) := fun x => by
    have := bright_neg fs (0 - x)
    rw [show 0 - (0 - x) = x by omega] at this
    exact this
  cases o with
  | none =>
    intro n
    have := h (0 - n)
    rw [hb] at this
    show Bright fs (b + n * p)
    have e : 0 - ((0 - b) + (0 - n) * p) = b + n * p := by rw [Int.sub_mul, Int.zero_mul]; omega
    rw [← e]
    exact this
  | some y =>
    obtain ⟨h1, h2, h3, h4⟩ := h
    have h2 : p ∣ y - (0 - b) := h2
    have fl : ∀ u : Int, p ∣ u → p ∣ 0 - u := fun u ⟨c, hc⟩ => ⟨0 - c, by rw [Int.mul_sub, Int.mul_zero, hc]⟩
    refine ⟨by show 0 - y ≤ t; omega, ?_, fun z => h3 ((hb y).mpr z), fun x hx hd hn => ?_⟩
    · show p ∣ 0 - y - b
      have := fl _ h2
      rw [show 0 - (y - (0 - b)) = 0 - y - b by omega] at this
      exact this
    · have hd : p ∣ x - b := hd
      have q1 : p ∣ (0 - x) - (0 - b) := by
        have := fl _ hd
        rw [show 0 - (x - b) = (0 - x) - (0 - b) by omega] at this
        exact this
      have := h4 (0 - x) (by omega) q1 (fun z => hn (by have := (hb _).mp z; rw [show 0 - (0 - x) = x by omega] at this; exact this))
      show x ≤ 0 - y
      omega
end

/-! ### the text -/
def topS (i : Nat) : Stmt := PySem.Challenge.pw_farlamps_k32_whole_split_lamps.main.body.getD i (.Pass ⟨0, 0, 0, 0⟩)
abbrev s_is_whole : Stmt := topS 9
theorem sc_is_whole : FnScope ["thing"] ["thing"] (defScope s_is_whole) := ⟨rfl, rfl, rfl, by decide +kernel, rfl, by decide +kernel, by decide +kernel⟩
abbrev s_check_beat : Stmt := topS 10
theorem sc_check_beat : FnScope ["thing"] ["thing"] (defScope s_check_beat) := ⟨rfl, rfl, rfl, by decide +kernel, rfl, by decide +kernel, by decide +kernel⟩
abbrev s_inverse : Stmt := topS 11
theorem sc_inverse : FnScope ["number", "modulus", "older", "newer", "older_times", "newer_times", "quotient"] ["number", "modulus"] (defScope s_inverse) := ⟨rfl, rfl, rfl, by decide +kernel, rfl, by decide +kernel, by decide +kernel⟩
abbrev s_Lamp_init : Stmt := inClass (topS 13) 0
theorem sc_Lamp_init : FnScope ["self", "period", "beat"] ["self", "period", "beat"] (defScope s_Lamp_init) := ⟨rfl, rfl, rfl, by decide +kernel, rfl, by decide +kernel, by decide +kernel⟩
abbrev s_Lamp_eq : Stmt := inClass (topS 13) 1
theorem sc_Lamp_eq : FnScope ["self", "other"] ["self", "other"] (defScope s_Lamp_eq) := ⟨rfl, rfl, rfl, by decide +kernel, rfl, by decide +kernel, by decide +kernel⟩
abbrev s_Lamp_next_shine : Stmt := inClass (topS 13) 3
theorem sc_Lamp_next_shine : FnScope ["self", "begin"] ["self", "begin"] (defScope s_Lamp_next_shine) := ⟨rfl, rfl, rfl, by decide +kernel, rfl, by decide +kernel, by decide +kernel⟩
abbrev s_seen_from : Stmt := topS 14
theorem sc_seen_from : FnScope ["lamp", "other", "common", "ahead", "period"] ["lamp", "other"] (defScope s_seen_from) := ⟨rfl, rfl, rfl, by decide +kernel, rfl, by decide +kernel, by decide +kernel⟩
abbrev s_l_source : Stmt := topS 34
theorem sc_l_source : FnScope ["_law_cell"] ["_law_cell"] (defScope s_l_source) := ⟨rfl, rfl, rfl, by decide +kernel, rfl, by decide +kernel, by decide +kernel⟩
abbrev s_l_take : Stmt := topS 35
theorem sc_l_take : FnScope ["_law_source_here", "_law_many", "_law_found", "_law_number"] ["_law_source_here", "_law_many"] (defScope s_l_take) := ⟨rfl, rfl, rfl, by decide +kernel, rfl, by decide +kernel, by decide +kernel⟩
abbrev s_shining_rows : Stmt := topS 18
theorem sc_shining_rows : FnScope ["numbered", "begin", "many", "rows", "number", "lamp", "offset"] ["numbered", "begin", "many"] (defScope s_shining_rows) := ⟨rfl, rfl, rfl, by decide +kernel, rfl, by decide +kernel, by decide +kernel⟩
abbrev s_copied : Stmt := topS 23
theorem sc_copied : FnScope ["lamps", "lamp"] ["lamps"] (defScope s_copied) := ⟨rfl, rfl, rfl, by decide +kernel, rfl, by decide +kernel, by decide +kernel⟩
abbrev s_Light_init : Stmt := inClass (topS 17) 0
theorem sc_Light_init : FnScope ["self", "lamps", "lamp"] ["self", "lamps"] (defScope s_Light_init) := ⟨rfl, rfl, rfl, by decide +kernel, rfl, by decide +kernel, by decide +kernel⟩
abbrev s_Light_lamps : Stmt := inClass (topS 17) 2
theorem sc_Light_lamps : FnScope ["self"] ["self"] (defScope s_Light_lamps) := ⟨rfl, rfl, rfl, by decide +kernel, rfl, by decide +kernel, by decide +kernel⟩
abbrev s_Light_wait : Stmt := inClass (topS 17) 3
theorem sc_Light_wait : FnScope ["self"] ["self"] (defScope s_Light_wait) := ⟨rfl, rfl, rfl, by decide +kernel, rfl, by decide +kernel, by decide +kernel⟩
abbrev s_empty_places : Stmt := topS 20
theorem sc_empty_places : FnScope ["rows", "place", "row"] ["rows"] (defScope s_empty_places) := ⟨rfl, rfl, rfl, by decide +kernel, rfl, by decide +kernel, by decide +kernel⟩
abbrev s_least_paper : Stmt := topS 21
theorem sc_least_paper : FnScope ["rows", "row"] ["rows"] (defScope s_least_paper) := ⟨rfl, rfl, rfl, by decide +kernel, rfl, by decide +kernel, by decide +kernel⟩
abbrev s_seen_rows : Stmt := topS 19
theorem sc_seen_rows : FnScope ["lamp", "numbered", "first", "many", "seen", "number", "other"] ["lamp", "numbered", "first", "many"] (defScope s_seen_rows) := ⟨rfl, rfl, rfl, by decide +kernel, rfl, by decide +kernel, by decide +kernel⟩
abbrev s_rows : Stmt := topS 31
theorem sc_rows : FnScope ["lamp", "other", "first"] ["lamp", "other", "first"] (defScope s_rows) := ⟨rfl, rfl, rfl, by decide +kernel, rfl, by decide +kernel, by decide +kernel⟩
abbrev s_papers : Stmt := topS 28
theorem sc_papers : FnScope ["one", "other", "lamp"] ["one", "other"] (defScope s_papers) := ⟨rfl, rfl, rfl, by decide +kernel, rfl, by decide +kernel, by decide +kernel⟩
abbrev s_first_beats : Stmt := topS 29
theorem sc_first_beats : FnScope ["one", "other", "begin", "beats", "lamp", "first", "left"] ["one", "other", "begin"] (defScope s_first_beats) := ⟨rfl, rfl, rfl, by decide +kernel, rfl, by decide +kernel, by decide +kernel⟩
abbrev s_parted : Stmt := topS 25
theorem sc_parted : FnScope ["one", "other", "begin", "beats"] ["one", "other", "begin"] (defScope s_parted) := ⟨rfl, rfl, rfl, by decide +kernel, rfl, by decide +kernel, by decide +kernel⟩
abbrev s_last_beats : Stmt := topS 30
theorem sc_last_beats : FnScope ["one", "other", "begin", "beats", "lamp", "first", "left"] ["one", "other", "begin"] (defScope s_last_beats) := ⟨rfl, rfl, rfl, by decide +kernel, rfl, by decide +kernel, by decide +kernel⟩
abbrev s_parted_back : Stmt := topS 26
theorem sc_parted_back : FnScope ["one", "other", "begin", "beats"] ["one", "other", "begin"] (defScope s_parted_back) := ⟨rfl, rfl, rfl, by decide +kernel, rfl, by decide +kernel, by decide +kernel⟩
abbrev s_l_one : Stmt := topS 37
theorem sc_l_one : FnScope ["_law_source_here", "_law_some"] ["_law_source_here", "_law_some"] (defScope s_l_one) := ⟨rfl, rfl, rfl, by decide +kernel, rfl, by decide +kernel, by decide +kernel⟩
abbrev s_l_wait : Stmt := topS 36
theorem sc_l_wait : FnScope ["_law_many", "_law_found", "_law_k"] ["_law_many"] (defScope s_l_wait) := ⟨rfl, rfl, rfl, by decide +kernel, rfl, by decide +kernel, by decide +kernel⟩
abbrev s_l_period : Stmt := topS 39
theorem sc_l_period : FnScope ["_law_source_here", "_law_great", "_law_small", "_law_more"] ["_law_source_here"] (defScope s_l_period) := ⟨rfl, rfl, rfl, by decide +kernel, rfl, by decide +kernel, by decide +kernel⟩
abbrev s_l_lamps : Stmt := topS 40
theorem sc_l_lamps : FnScope ["_law_source_here", "_law_most", "_law_found", "_law_k", "_law_beat"] ["_law_source_here", "_law_most"] (defScope s_l_lamps) := ⟨rfl, rfl, rfl, by decide +kernel, rfl, by decide +kernel, by decide +kernel⟩
abbrev s_l_made : Stmt := topS 41
theorem sc_l_made : FnScope ["_law_some", "_law_lamp"] ["_law_some"] (defScope s_l_made) := ⟨rfl, rfl, rfl, by decide +kernel, rfl, by decide +kernel, by decide +kernel⟩
abbrev s_l_mixed : Stmt := topS 38
theorem sc_l_mixed : FnScope ["_law_source_here", "_law_some", "_law_left", "_law_found"] ["_law_source_here", "_law_some"] (defScope s_l_mixed) := ⟨rfl, rfl, rfl, by decide +kernel, rfl, by decide +kernel, by decide +kernel⟩
abbrev s_l_cell_at : Stmt := topS 33
theorem sc_l_cell_at : FnScope ["_law_script", "_law_k"] ["_law_script", "_law_k"] (defScope s_l_cell_at) := ⟨rfl, rfl, rfl, by decide +kernel, rfl, by decide +kernel, by decide +kernel⟩
abbrev s_l_lit : Stmt := topS 42
theorem sc_l_lit : FnScope ["_law_some", "_law_beat", "_law_k", "_law_lamp"] ["_law_some", "_law_beat"] (defScope s_l_lit) := ⟨rfl, rfl, rfl, by decide +kernel, rfl, by decide +kernel, by decide +kernel⟩
abbrev s_l_first : Stmt := topS 43
theorem sc_l_first : FnScope ["_law_lamp", "_law_some", "_law_moment", "_law_first_here", "_law_k"] ["_law_lamp", "_law_some", "_law_moment"] (defScope s_l_first) := ⟨rfl, rfl, rfl, by decide +kernel, rfl, by decide +kernel, by decide +kernel⟩
abbrev s_first_amiss : Stmt := topS 22
theorem sc_first_amiss : FnScope ["paper", "rows", "place", "thing", "row"] ["paper", "rows"] (defScope s_first_amiss) := ⟨rfl, rfl, rfl, by decide +kernel, rfl, by decide +kernel, by decide +kernel⟩
abbrev s_check_within : Stmt := topS 27
theorem sc_check_within : FnScope ["one", "other", "papers", "lamps", "number", "lamp", "paper"] ["one", "other", "papers"] (defScope s_check_within) := ⟨rfl, rfl, rfl, by decide +kernel, rfl, by decide +kernel, by decide +kernel⟩
abbrev s_l_pieces : Stmt := topS 44
theorem sc_l_pieces : FnScope ["_law_lamp", "_law_many", "_law_k"] ["_law_lamp", "_law_many"] (defScope s_l_pieces) := ⟨rfl, rfl, rfl, by decide +kernel, rfl, by decide +kernel, by decide +kernel⟩
abbrev s_l_split : Stmt := topS 45
theorem sc_l_split : FnScope ["_law_source_here", "_law_some", "_law_found", "_law_k", "_law_at", "_law_many", "_law_lamp"] ["_law_source_here", "_law_some"] (defScope s_l_split) := ⟨rfl, rfl, rfl, by decide +kernel, rfl, by decide +kernel, by decide +kernel⟩
abbrev s_l_last : Stmt := topS 46
theorem sc_l_last : FnScope ["_law_lamp", "_law_some", "_law_moment", "_law_found", "_law_period_here", "_law_beat"] ["_law_lamp", "_law_some", "_law_moment"] (defScope s_l_last) := ⟨rfl, rfl, rfl, by decide +kernel, rfl, by decide +kernel, by decide +kernel⟩
abbrev s_l_alike : Stmt := topS 47
theorem sc_l_alike : FnScope ["_law_one_here", "_law_other", "_law_told"] ["_law_one_here", "_law_other"] (defScope s_l_alike) := ⟨rfl, rfl, rfl, by decide +kernel, rfl, by decide +kernel, by decide +kernel⟩
abbrev s_l_law : Stmt := topS 48
theorem sc_l_law : FnScope ["_law_script", "_law_cell", "_law_source_here", "_law_some", "_law_more", "_law_one_here", "_law_other", "_law_at", "_law_fewer", "_law_left", "_law_moment", "_law_first_here", "_law_last_here", "_law_told"] ["_law_script"] (defScope s_l_law) := ⟨rfl, rfl, rfl, by decide +kernel, rfl, by decide +kernel, by decide +kernel⟩
set_option maxHeartbeats 4000000 in
/-- what the top leaves: where each def stands -/
structure Top (K : PySem.W.Frag) (mg : Str → Option Value) where
  C_Lamp : Addr
  cl_Lamp : Cls K C_Lamp
  gC_Lamp : mg "Lamp" = some (.ref C_Lamp)
  kl_Lamp : Kls K C_Lamp
  na_Lamp_period : NoAttr K C_Lamp "period"
  na_Lamp_beat : NoAttr K C_Lamp "beat"
  C_Light : Addr
  cl_Light : Cls K C_Light
  gC_Light : mg "Light" = some (.ref C_Light)
  kl_Light : Kls K C_Light
  na_Light__lamps : NoAttr K C_Light "_lamps"
  f_is_whole : Addr
  d_is_whole : FuncData
  F_is_whole : Fun K "is_whole" "is_whole" s_is_whole f_is_whole d_is_whole
  g_is_whole : mg "is_whole" = some (.ref f_is_whole)
  b_is_whole : Binds K d_is_whole ["thing"] []
  f_check_beat : Addr
  d_check_beat : FuncData
  F_check_beat : Fun K "check_beat" "check_beat" s_check_beat f_check_beat d_check_beat
  g_check_beat : mg "check_beat" = some (.ref f_check_beat)
  b_check_beat : Binds K d_check_beat ["thing"] []
  f_inverse : Addr
  d_inverse : FuncData
  F_inverse : Fun K "inverse" "inverse" s_inverse f_inverse d_inverse
  g_inverse : mg "inverse" = some (.ref f_inverse)
  b_inverse : Binds K d_inverse ["number", "modulus"] []
  f_Lamp_init : Addr
  d_Lamp_init : FuncData
  F_Lamp_init : Fun K "__init__" "Lamp.__init__" s_Lamp_init f_Lamp_init d_Lamp_init
  m_Lamp_init : Meth K C_Lamp "__init__" f_Lamp_init
  mk_Lamp : Mk K C_Lamp f_Lamp_init
  b_Lamp_init : Binds K d_Lamp_init ["self", "period", "beat"] []
  f_Lamp_eq : Addr
  d_Lamp_eq : FuncData
  F_Lamp_eq : Fun K "__eq__" "Lamp.__eq__" s_Lamp_eq f_Lamp_eq d_Lamp_eq
  m_Lamp_eq : Meth K C_Lamp "__eq__" f_Lamp_eq
  b_Lamp_eq : Binds K d_Lamp_eq ["self", "other"] []
  f_Lamp_next_shine : Addr
  d_Lamp_next_shine : FuncData
  F_Lamp_next_shine : Fun K "next_shine" "Lamp.next_shine" s_Lamp_next_shine f_Lamp_next_shine d_Lamp_next_shine
  m_Lamp_next_shine : Meth K C_Lamp "next_shine" f_Lamp_next_shine
  b_Lamp_next_shine : Binds K d_Lamp_next_shine ["self", "begin"] []
  f_seen_from : Addr
  d_seen_from : FuncData
  F_seen_from : Fun K "seen_from" "seen_from" s_seen_from f_seen_from d_seen_from
  g_seen_from : mg "seen_from" = some (.ref f_seen_from)
  b_seen_from : Binds K d_seen_from ["lamp", "other"] []
  f_l_source : Addr
  d_l_source : FuncData
  F_l_source : Fun K "_law_source" "_law_source" s_l_source f_l_source d_l_source
  g_l_source : mg "_law_source" = some (.ref f_l_source)
  b_l_source : Binds K d_l_source ["_law_cell"] []
  f_l_take : Addr
  d_l_take : FuncData
  F_l_take : Fun K "_law_take" "_law_take" s_l_take f_l_take d_l_take
  g_l_take : mg "_law_take" = some (.ref f_l_take)
  b_l_take : Binds K d_l_take ["_law_source_here", "_law_many"] []
  f_shining_rows : Addr
  d_shining_rows : FuncData
  F_shining_rows : Fun K "shining_rows" "shining_rows" s_shining_rows f_shining_rows d_shining_rows
  g_shining_rows : mg "shining_rows" = some (.ref f_shining_rows)
  b_shining_rows : Binds K d_shining_rows ["numbered", "begin", "many"] []
  f_copied : Addr
  d_copied : FuncData
  F_copied : Fun K "_copied" "_copied" s_copied f_copied d_copied
  g_copied : mg "_copied" = some (.ref f_copied)
  b_copied : Binds K d_copied ["lamps"] []
  f_Light_init : Addr
  d_Light_init : FuncData
  F_Light_init : Fun K "__init__" "Light.__init__" s_Light_init f_Light_init d_Light_init
  m_Light_init : Meth K C_Light "__init__" f_Light_init
  mk_Light : Mk K C_Light f_Light_init
  b_Light_init : Binds K d_Light_init ["self", "lamps"] []
  f_Light_lamps : Addr
  d_Light_lamps : FuncData
  F_Light_lamps : Fun K "lamps" "Light.lamps" s_Light_lamps f_Light_lamps d_Light_lamps
  m_Light_lamps : Meth K C_Light "lamps" f_Light_lamps
  b_Light_lamps : Binds K d_Light_lamps ["self"] []
  f_Light_wait : Addr
  d_Light_wait : FuncData
  F_Light_wait : Fun K "wait" "Light.wait" s_Light_wait f_Light_wait d_Light_wait
  m_Light_wait : Meth K C_Light "wait" f_Light_wait
  b_Light_wait : Binds K d_Light_wait ["self"] []
  f_empty_places : Addr
  d_empty_places : FuncData
  F_empty_places : Fun K "empty_places" "empty_places" s_empty_places f_empty_places d_empty_places
  g_empty_places : mg "empty_places" = some (.ref f_empty_places)
  b_empty_places : Binds K d_empty_places ["rows"] []
  f_least_paper : Addr
  d_least_paper : FuncData
  F_least_paper : Fun K "least_paper" "least_paper" s_least_paper f_least_paper d_least_paper
  g_least_paper : mg "least_paper" = some (.ref f_least_paper)
  b_least_paper : Binds K d_least_paper ["rows"] []
  f_seen_rows : Addr
  d_seen_rows : FuncData
  F_seen_rows : Fun K "seen_rows" "seen_rows" s_seen_rows f_seen_rows d_seen_rows
  g_seen_rows : mg "seen_rows" = some (.ref f_seen_rows)
  b_seen_rows : Binds K d_seen_rows ["lamp", "numbered", "first", "many"] []
  f_rows : Addr
  d_rows : FuncData
  F_rows : Fun K "_rows" "_rows" s_rows f_rows d_rows
  g_rows : mg "_rows" = some (.ref f_rows)
  b_rows : Binds K d_rows ["lamp", "other", "first"] []
  f_papers : Addr
  d_papers : FuncData
  F_papers : Fun K "_papers" "_papers" s_papers f_papers d_papers
  g_papers : mg "_papers" = some (.ref f_papers)
  b_papers : Binds K d_papers ["one", "other"] []
  f_first_beats : Addr
  d_first_beats : FuncData
  F_first_beats : Fun K "_first_beats" "_first_beats" s_first_beats f_first_beats d_first_beats
  g_first_beats : mg "_first_beats" = some (.ref f_first_beats)
  b_first_beats : Binds K d_first_beats ["one", "other", "begin"] []
  f_parted : Addr
  d_parted : FuncData
  F_parted : Fun K "parted" "parted" s_parted f_parted d_parted
  g_parted : mg "parted" = some (.ref f_parted)
  bd_parted : ∃ ds, Vals [V.int 0] ds ∧ Binds K d_parted ["one", "other", "begin"] ds
  f_last_beats : Addr
  d_last_beats : FuncData
  F_last_beats : Fun K "_last_beats" "_last_beats" s_last_beats f_last_beats d_last_beats
  g_last_beats : mg "_last_beats" = some (.ref f_last_beats)
  b_last_beats : Binds K d_last_beats ["one", "other", "begin"] []
  f_parted_back : Addr
  d_parted_back : FuncData
  F_parted_back : Fun K "parted_back" "parted_back" s_parted_back f_parted_back d_parted_back
  g_parted_back : mg "parted_back" = some (.ref f_parted_back)
  bd_parted_back : ∃ ds, Vals [V.int 0] ds ∧ Binds K d_parted_back ["one", "other", "begin"] ds
  f_l_one : Addr
  d_l_one : FuncData
  F_l_one : Fun K "_law_one" "_law_one" s_l_one f_l_one d_l_one
  g_l_one : mg "_law_one" = some (.ref f_l_one)
  b_l_one : Binds K d_l_one ["_law_source_here", "_law_some"] []
  f_l_wait : Addr
  d_l_wait : FuncData
  F_l_wait : Fun K "_law_wait" "_law_wait" s_l_wait f_l_wait d_l_wait
  g_l_wait : mg "_law_wait" = some (.ref f_l_wait)
  b_l_wait : Binds K d_l_wait ["_law_many"] []
  f_l_period : Addr
  d_l_period : FuncData
  F_l_period : Fun K "_law_period" "_law_period" s_l_period f_l_period d_l_period
  g_l_period : mg "_law_period" = some (.ref f_l_period)
  b_l_period : Binds K d_l_period ["_law_source_here"] []
  f_l_lamps : Addr
  d_l_lamps : FuncData
  F_l_lamps : Fun K "_law_lamps" "_law_lamps" s_l_lamps f_l_lamps d_l_lamps
  g_l_lamps : mg "_law_lamps" = some (.ref f_l_lamps)
  b_l_lamps : Binds K d_l_lamps ["_law_source_here", "_law_most"] []
  f_l_made : Addr
  d_l_made : FuncData
  F_l_made : Fun K "_law_made" "_law_made" s_l_made f_l_made d_l_made
  g_l_made : mg "_law_made" = some (.ref f_l_made)
  b_l_made : Binds K d_l_made ["_law_some"] []
  f_l_mixed : Addr
  d_l_mixed : FuncData
  F_l_mixed : Fun K "_law_mixed" "_law_mixed" s_l_mixed f_l_mixed d_l_mixed
  g_l_mixed : mg "_law_mixed" = some (.ref f_l_mixed)
  b_l_mixed : Binds K d_l_mixed ["_law_source_here", "_law_some"] []
  f_l_cell_at : Addr
  d_l_cell_at : FuncData
  F_l_cell_at : Fun K "_law_cell_at" "_law_cell_at" s_l_cell_at f_l_cell_at d_l_cell_at
  g_l_cell_at : mg "_law_cell_at" = some (.ref f_l_cell_at)
  b_l_cell_at : Binds K d_l_cell_at ["_law_script", "_law_k"] []
  f_l_lit : Addr
  d_l_lit : FuncData
  F_l_lit : Fun K "_law_lit" "_law_lit" s_l_lit f_l_lit d_l_lit
  g_l_lit : mg "_law_lit" = some (.ref f_l_lit)
  b_l_lit : Binds K d_l_lit ["_law_some", "_law_beat"] []
  f_l_first : Addr
  d_l_first : FuncData
  F_l_first : Fun K "_law_first" "_law_first" s_l_first f_l_first d_l_first
  g_l_first : mg "_law_first" = some (.ref f_l_first)
  b_l_first : Binds K d_l_first ["_law_lamp", "_law_some", "_law_moment"] []
  f_first_amiss : Addr
  d_first_amiss : FuncData
  F_first_amiss : Fun K "first_amiss" "first_amiss" s_first_amiss f_first_amiss d_first_amiss
  g_first_amiss : mg "first_amiss" = some (.ref f_first_amiss)
  b_first_amiss : Binds K d_first_amiss ["paper", "rows"] []
  f_check_within : Addr
  d_check_within : FuncData
  F_check_within : Fun K "check_within" "check_within" s_check_within f_check_within d_check_within
  g_check_within : mg "check_within" = some (.ref f_check_within)
  b_check_within : Binds K d_check_within ["one", "other", "papers"] []
  f_l_pieces : Addr
  d_l_pieces : FuncData
  F_l_pieces : Fun K "_law_pieces" "_law_pieces" s_l_pieces f_l_pieces d_l_pieces
  g_l_pieces : mg "_law_pieces" = some (.ref f_l_pieces)
  b_l_pieces : Binds K d_l_pieces ["_law_lamp", "_law_many"] []
  f_l_split : Addr
  d_l_split : FuncData
  F_l_split : Fun K "_law_split" "_law_split" s_l_split f_l_split d_l_split
  g_l_split : mg "_law_split" = some (.ref f_l_split)
  b_l_split : Binds K d_l_split ["_law_source_here", "_law_some"] []
  f_l_last : Addr
  d_l_last : FuncData
  F_l_last : Fun K "_law_last" "_law_last" s_l_last f_l_last d_l_last
  g_l_last : mg "_law_last" = some (.ref f_l_last)
  b_l_last : Binds K d_l_last ["_law_lamp", "_law_some", "_law_moment"] []
  f_l_alike : Addr
  d_l_alike : FuncData
  F_l_alike : Fun K "_law_alike" "_law_alike" s_l_alike f_l_alike d_l_alike
  g_l_alike : mg "_law_alike" = some (.ref f_l_alike)
  b_l_alike : Binds K d_l_alike ["_law_one_here", "_law_other"] []
  f_l_law : Addr
  d_l_law : FuncData
  F_l_law : Fun K "law" "law" s_l_law f_l_law d_l_law
  g_l_law : mg "law" = some (.ref f_l_law)
  b_l_law : Binds K d_l_law ["_law_script"] []
  kb_parted_begin : KBn K d_parted ["one", "other", "begin"] 2 ["begin"] (fun us ws => us ++ permL [0] ws) (fun vs zs => vs ++ permL [0] zs)
  kb_parted_back_begin : KBn K d_parted_back ["one", "other", "begin"] 2 ["begin"] (fun us ws => us ++ permL [0] ws) (fun vs zs => vs ++ permL [0] zs)
  ne_Lamp : NeK K C_Lamp
  n_isinstance : mg "isinstance" = none
  n_int : mg "int" = none
  n_bool : mg "bool" = none
  n_range : mg "range" = none
  n_len : mg "len" = none
  n_list : mg "list" = none
  n_enumerate : mg "enumerate" = none
  n_tuple : mg "tuple" = none
  n_all : mg "all" = none
  n_min : mg "min" = none
  n_max : mg "max" = none
  n_zip : mg "zip" = none
  t_MOST_LAMPS : Tok
  c_MOST_LAMPS : mg "MOST_LAMPS" = some (.int 10 t_MOST_LAMPS)
  ic_Lamp : PySem.W.isClsIn K C_Lamp = true
  tc_Lamp : PySem.W.typeIn K (.ref C_Lamp) = some (.type "type")
  sn_Lamp : PySem.W.subIn K (.type "NoneType") (.ref C_Lamp) = some false
  i_gcd : mg "gcd" = some (.builtin "math.gcd")
section
variable {P : Program} {w : World} {K : PySem.W.Frag} {mg : Str → Option Value} {base : Heap}
/-! ### whole numbers -/
def spWhole : Sp := fun vs H Q _ => ∃ z : Int, vs = [.int z] ∧ Q (.bl true) H
theorem ok_is_whole (T : Top K mg) : FnOk P w K mg base CX0 1 T.f_is_whole T.d_is_whole ["thing"] spWhole := by
  refine T.F_is_whole.ok sc_is_whole (fun vs H Q E h => ?_) (fun cdv A outer s H vs Q E hr h => ?_)
  · obtain ⟨z, rfl, _⟩ := h; rfl
  · obtain ⟨z, rfl, q⟩ := h
    refine ⟨_, (pss_one (ps_ret (pe_and (pe_callB call_isi (by rfl) T.n_isinstance (by decide +kernel) (pa_cons (pv 0) (pa_cons (pe_bltn (v := .ty "int") (by rfl) T.n_int (by decide +kernel) rfl) pa_nil))) (pe_one (pe_not (pe_callB call_isi (by rfl) T.n_isinstance (by decide +kernel) (pa_cons (pv 0) (pa_cons (pe_bltn (v := .ty "bool") (by rfl) T.n_bool (by decide +kernel) rfl) pa_nil)))))))), ?_⟩
    exact ⟨_, rfl, _, _, _, _, true, rfl, .ty _, .base (.int z), kit_ty (by decide +kernel), true, rfl, iteT ⟨_, rfl, _, _, _, _, false, rfl, .ty _, .base (.int z), kit_ty (by decide +kernel), false, rfl, q⟩⟩
def spCheckBeat : Sp := fun vs H Q _ => ∃ z : Int, vs = [.int z] ∧ Q .non H
theorem ok_check_beat (T : Top K mg) : FnOk P w K mg base CX0 2 T.f_check_beat T.d_check_beat ["thing"] spCheckBeat := by
  have G_is_whole := ok_is_whole (P := P) (w := w) (base := base) T
  refine T.F_check_beat.ok sc_check_beat (fun vs H Q E h => ?_) (fun cdv A outer s H vs Q E hr h => ?_)
  · obtain ⟨z, rfl, _⟩ := h; rfl
  · obtain ⟨z, rfl, q⟩ := h
    refine ⟨_, (pss_one (ps_if (pt_not (pt_val (pe_call G_is_whole (hr.mono (by decide)) rfl T.g_is_whole T.F_is_whole.kp T.b_is_whole .nil pass0 (pa_cons (pv 0) pa_nil)))) (pss_one (ps_never)) pss_nil)), ?_⟩
    exact ⟨_, rfl, z, rfl, true, rfl, iteF q⟩
def spInverse : Sp := fun vs H Q _ => ∃ a m : Int, vs = [.int a, .int m] ∧ 0 < m ∧ m.natAbs < 2 ^ E8 ∧ Int.gcd m a = 1 ∧ ∀ r : Int, 0 ≤ r ∧ r < m ∧ m ∣ a * r - 1 → ∀ H', Same H H' → Q (.int r) H'
theorem fmod_pos {a b : Int} (h : 0 < b) : a.fmod b = a % b := Int.fmod_eq_emod_of_nonneg a (by omega)
theorem ok_inverse (T : Top K mg) : FnOk P w K mg base CX0 1 T.f_inverse T.d_inverse ["number", "modulus"] spInverse := by
  refine T.F_inverse.ok sc_inverse (fun vs H Q E h => ?_) (fun cdv A outer s H vs Q E hr h => ?_)
  · obtain ⟨a, m, rfl, _⟩ := h; rfl
  · obtain ⟨a, m, rfl, hm, hb, hg, q⟩ := h
    refine ⟨_, (pss_cons (ps_par (i := 2) (j := 3) (by rfl) sc_inverse.nd rfl rfl (by decide) rfl rfl (pa_cons (pv 1) (pa_cons (pe_op op_modN (pv 0) (pv 1)) pa_nil)) (by rfl))
      (pss_cons (ps_asg (pe_tup (pa_cons pe_int (pa_cons pe_int pa_nil))) (pg_tup (by rfl) (pgs_cons (pg_name (i := 4) sc_inverse.nd rfl (Or.inl rfl)) (pgs_cons (pg_name (i := 5) sc_inverse.nd rfl (Or.inl rfl)) pgs_nil))))
      (pss_cons (ps_while PassesOwn.never (pt_cmpR op_gt (pv 3) pe_int (nomark _)) (pss_cons (ps_set (i := 6) sc_inverse.nd rfl (Or.inl rfl) (pe_op op_fdivW (pv 2) (pv 3)))
      (pss_cons (ps_par (i := 2) (j := 3) (by rfl) sc_inverse.nd rfl rfl (by decide) rfl rfl (pa_cons (pv 3) (pa_cons (pe_op op_sub (pv 2) (pe_op op_mulW (pv 6) (pv 3))) pa_nil)) (by rfl))
      (pss_one (ps_par (i := 4) (j := 5) (by rfl) sc_inverse.nd rfl rfl (by decide) rfl rfl (pa_cons (pv 5) (pa_cons (pe_op op_sub (pv 4) (pe_op op_mulW (pv 6) (pv 5))) pa_nil)) (by rfl))))))
      (pss_one (ps_ret (pe_op op_modN (pv 4) (pv 1))))))), ?_⟩
    refine ⟨_, rfl, _, rfl, _, rfl, _, _, rfl, rfl, (by omega), _, _, rfl, ?_⟩
    refine ⟨(by show 2 ≤ sizeLine; decide), fun p hp => ?_⟩
    have s1 : Same H (upd H p (.tup [.int 0, .int 1])) := fun b o e => by rw [upd_ne (ne_of_none e hp)]; exact e
    refine ⟨p, _, rfl, SqT.of upd_same, rfl, _, _, rfl, _, _, rfl, rfl, ?_⟩
    have lt8 : ∀ z : Int, 0 ≤ z → z ≤ m → z.natAbs < 2 ^ E8 := fun z h0 h1 => Nat.lt_of_le_of_lt (by omega) hb
    refine while_by (fun σ H' => ∃ (o n ot nt : Int) (v : Option V), σ = [some (.int a), some (.int m), some (.int o), some (.int n), some (.int ot), some (.int nt), v] ∧ InvI a m o n ot nt ∧ (o ≤ m ∧ n ≤ m) ∧ Same H H')
      (fun σ _ => match σ with | [_, _, _, some (.int n), _, _, _] => n.toNat | _ => 0) ⟨m, a % m, 0, 1, none, by rw [← fmod_pos hm]; rfl, InvI.start hm hg, ⟨Int.le_refl _, Int.le_of_lt (Int.emod_lt_of_pos _ hm)⟩, s1⟩ ?_
      (fun σ H Q Q' hq ⟨v, hv, i, j, e1, e2, k, e3, h⟩ => ⟨v, hv, i, j, e1, e2, k, e3, hq _ _ h⟩)
    rintro σ H' ⟨o, n, ot, nt, v, rfl, I, ⟨hle, no⟩, s2⟩
    refine ⟨_, rfl, _, _, rfl, rfl, _, rfl, ite2 (fun c => ?_) (fun c => ?_)⟩
    · have hn : 0 < n := of_decide_eq_true c
      have o0 := I.o0
      have q0 : 0 ≤ o / n := Int.ediv_nonneg (by omega) (by omega)
      have q1 : o / n ≤ o := Int.ediv_le_self _ (by omega)
      have J := I.step hn
      have e0 : o - o / n * n = o % n := by
        have := Int.emod_add_mul_ediv o n
        rw [Int.mul_comm] at this
        omega
      have nlt : o % n < n := Int.emod_lt_of_pos _ hn
      have bn := lt8 n (by omega) no
      have bq := lt8 (o / n) q0 (by omega)
      have bt : nt.natAbs < 2 ^ E8 := Nat.lt_of_le_of_lt (by have := I.nt_le; omega) hb
      refine ⟨_, rfl, _, rfl, o, n, rfl, rfl, wide_div hn bn (by decide) (by decide), ?_⟩
      refine ⟨_, rfl, _, rfl, _, rfl, _, rfl, _, _, rfl, rfl, wide_mul bq bn (by decide) (by decide) (by decide), _, _, rfl, rfl, _, _, rfl, ?_⟩
      refine ⟨_, rfl, _, rfl, _, rfl, _, rfl, _, _, rfl, rfl, wide_mul bq bt (by decide) (by decide) (by decide), _, _, rfl, rfl, _, _, rfl, ?_⟩
      refine ⟨⟨n, o - o / n * n, nt, ot - o / n * nt, _, rfl, J, ⟨no, by omega⟩, s2⟩, ?_⟩
      show (o - o / n * n).toNat < n.toNat
      omega
    · have hn : n = 0 := by
        have := of_decide_eq_false (Bool.eq_false_iff.mpr c)
        have := I.n0
        omega
      subst hn
      refine ⟨_, rfl, _, rfl, _, _, rfl, rfl, (by omega), ?_⟩
      show Q (V.int (ot.fmod m)) H'
      rw [fmod_pos hm]
      exact q _ (I.fin hm) _ s2
end

section
variable {P : Program} {w : World} {K : PySem.W.Frag} {mg : Str → Option Value} {base : Heap}
/-! ### a lamp: its fields -/
theorem lpb : ¬ (("period" : Str) = "beat") := by decide +kernel
def lf (p b : Int) : List (Str × V) := putF "beat" (.int b) (putF "period" (.int p) [])
theorem lf_period (p b : Int) : (lf p b).lookup ("period" : Str) = some (.int p) := by
  unfold lf
  rw [lookup_putF, if_neg lpb, lookup_putF, if_pos rfl]
theorem lf_beat (p b : Int) : (lf p b).lookup ("beat" : Str) = some (.int b) := by
  unfold lf
  rw [lookup_putF, if_pos rfl]
theorem lf_no (p b : Int) {m : Str} (h1 : ¬ m = "beat") (h2 : ¬ m = "period") : (lf p b).lookup m = none := by
  unfold lf
  rw [lookup_putF, if_neg h1, lookup_putF, if_neg h2]
  all_goals rfl
/-- a Lamp of period p and beat b stands at a -/
def LampAt (C : Addr) (H : Hp) (a : Addr) (p b : Int) : Prop := ∃ dx, H a = some (.ins C dx (lf p b))
theorem LampAt.same {C : Addr} {H H' : Hp} {a : Addr} {p b : Int} (h : LampAt C H a p b) (s : Same H H') : LampAt C H' a p b := let ⟨dx, e⟩ := h; ⟨dx, s _ _ e⟩
theorem LampAt.eq {C : Addr} {H : Hp} {a : Addr} {p b p' b' : Int} (h : LampAt C H a p b) (h' : LampAt C H a p' b') : p = p' ∧ b = b' := by
  obtain ⟨dx, e⟩ := h
  obtain ⟨dx', e'⟩ := h'
  rw [e] at e'
  have e2 : lf p b = lf p' b' := by
    injection e' with e'
    injection e'
  have h1 := lf_period p b
  have h2 := lf_beat p b
  rw [e2, lf_period] at h1
  rw [e2, lf_beat] at h2
  injection h1 with h1
  injection h1 with h1
  injection h2 with h2
  injection h2 with h2
  exact ⟨h1.symm, h2.symm⟩
theorem dec_int {a b : Int} : decide (V.int a = V.int b) = decide (a = b) := by
  by_cases h : a = b
  · rw [decide_eq_true h, decide_eq_true (by rw [h])]
  · rw [decide_eq_false h, decide_eq_false (by intro e; injection e with e; exact h e)]
/-! ### made -/
def spLampInit (C : Addr) : Sp := fun vs H Q _ => ∃ (x dx : Addr) (p b : Int), vs = [.ref x, .int p, .int b] ∧ H x = some (.ins C dx []) ∧ 0 < p ∧ ∀ H', LampAt C H' x p (b % p) → (∀ c o, H c = some o → c ≠ x → H' c = some o) → Q .non H'
theorem ok_Lamp_init (T : Top K mg) : FnOk P w K mg base CX0 2 T.f_Lamp_init T.d_Lamp_init ["self", "period", "beat"] (spLampInit T.C_Lamp) := by
  have G_is_whole := ok_is_whole (P := P) (w := w) (base := base) T
  refine T.F_Lamp_init.ok sc_Lamp_init (fun vs H Q E h => ?_) (fun cdv A outer s H vs Q E hr h => ?_)
  · obtain ⟨x, dx, p, b, rfl, _⟩ := h; rfl
  · obtain ⟨x, dx, p, b, rfl, hx, hp, q⟩ := h
    refine ⟨_, (pss_cons (ps_if (PW.pt (pw_or (pt_not (pt_val (pe_call G_is_whole (hr.mono (by decide)) rfl T.g_is_whole T.F_is_whole.kp T.b_is_whole .nil pass0 (pa_cons (pv 1) pa_nil)))) (pw_or1 (pt_cmpR op_lt (pv 1) pe_int (nomark _))))) (pss_one (ps_never)) pss_nil)
      (pss_cons (ps_if (pt_not (pt_val (pe_call G_is_whole (hr.mono (by decide)) rfl T.g_is_whole T.F_is_whole.kp T.b_is_whole .nil pass0 (pa_cons (pv 2) pa_nil)))) (pss_one (ps_never)) pss_nil)
      (pss_cons (ps_fld (pv 0) (pv 1) rfl)
      (pss_one (ps_fld (pv 0) (pe_op op_modN (pv 2) (pv 1)) rfl))))), ?_⟩
    refine ⟨_, rfl, p, rfl, true, rfl, iteF ⟨_, rfl, _, _, rfl, rfl, _, rfl, ite2 (fun c => absurd (of_decide_eq_true c) (by omega)) (fun _ => ?_)⟩⟩
    refine ⟨_, rfl, b, rfl, true, rfl, iteF ?_⟩
    refine ⟨_, rfl, _, rfl, x, T.C_Lamp, dx, [], rfl, hx, T.cl_Lamp, T.na_Lamp_period, (by show 0 < 1000; decide), ?_⟩
    refine ⟨_, rfl, _, rfl, _, _, rfl, rfl, (by omega), _, rfl, x, T.C_Lamp, dx, _, rfl, upd_same, T.cl_Lamp, T.na_Lamp_beat, (by show 1 < 1000; decide), ?_⟩
    refine q _ ⟨dx, ?_⟩ fun c o e hc => by rw [upd_ne hc, upd_ne hc]; exact e
    rw [upd_same]
    show some (HO.ins T.C_Lamp dx (putF "beat" (V.int (b.fmod p)) (putF "period" (V.int p) []))) = _
    rw [fmod_pos hp]
    rfl
/-- Lamp(p, b): the arguments' reading ends in this -/
theorem make_lamp {C : Addr} {p b : Int} {vs : List V} {H : Hp} {Q : VK} {E : XK} (hv : vs = [.int p, .int b]) (hp : 0 < p) (q : ∀ a H', H a = none → Same H H' → LampAt C H' a p (b % p) → Q (.ref a) H') :
    ∀ x dx, H x = none → H dx = none → dx ≠ x → spLampInit C (.ref x :: (vs ++ [])) (upd (upd H dx (.own x)) x (.ins C dx [])) (fun v H2 => v = .non ∧ Q (.ref x) H2) E :=
  fun x dx nx nd _ => ⟨x, dx, p, b, by rw [hv]; rfl, upd_same, hp, fun H' h k => ⟨rfl, q x H' nx (Same.made nx nd k) h⟩⟩
/-! ### == -/
def spLampEq (K : PySem.W.Frag) (C : Addr) : Sp := fun vs H Q _ => ∃ (a : Addr) (p b : Int) (y : V), vs = [.ref a, y] ∧ LampAt C H a p b ∧
  ((∃ (c : Addr) (p' b' : Int), y = .ref c ∧ LampAt C H c p' b' ∧ Q (.bl (decide (p = p' ∧ b = b'))) H) ∨ (∃ t, TyX K H y t ∧ PySem.W.kitOne K t (.ref C) = some false ∧ Q (.bl false) H))
theorem ok_Lamp_eq (T : Top K mg) : FnOk P w K mg base CX0 1 T.f_Lamp_eq T.d_Lamp_eq ["self", "other"] (spLampEq K T.C_Lamp) := by
  refine T.F_Lamp_eq.ok sc_Lamp_eq (fun vs H Q E h => ?_) (fun cdv A outer s H vs Q E hr h => ?_)
  · obtain ⟨a, p, b, y, rfl, _⟩ := h; rfl
  · obtain ⟨a, p, b, y, rfl, ⟨dx, ha⟩, h⟩ := h
    refine ⟨_, (pss_one (ps_ret (pe_and (pe_callB call_isi (by rfl) T.n_isinstance (by decide +kernel) (pa_cons (pv 1) (pa_cons (pe_glob (v := .ref T.C_Lamp) rfl T.gC_Lamp rfl) pa_nil))) (pe_and (pe_cmpR op_eq (pe_fld (pv 0) rfl) (pe_fld (pv 1) rfl) (nomark _)) (pe_one (pe_cmpR op_eq (pe_fld (pv 0) rfl) (pe_fld (pv 1) rfl) (nomark _))))))), ?_⟩
    rcases h with ⟨c, p', b', rfl, ⟨dc, hc⟩, q⟩ | ⟨t, ty, kt, q⟩
    · refine ⟨_, rfl, _, _, _, _, true, rfl, .own _, T.kl_Lamp.ty hc, (by unfold PySem.W.kitOne; rw [if_pos (by simp)]), true, rfl, iteT ?_⟩
      refine ⟨_, rfl, a, T.C_Lamp, dx, _, _, rfl, ha, T.cl_Lamp, T.na_Lamp_period, lf_period _ _, _, rfl, c, T.C_Lamp, dc, _, _, rfl, hc, T.cl_Lamp, T.na_Lamp_period, lf_period _ _, rfl, _, rfl, ?_⟩
      rw [dec_int]
      refine ite2 (fun e => ?_) (fun e => ?_)
      · refine ⟨_, rfl, a, T.C_Lamp, dx, _, _, rfl, ha, T.cl_Lamp, T.na_Lamp_beat, lf_beat _ _, _, rfl, c, T.C_Lamp, dc, _, _, rfl, hc, T.cl_Lamp, T.na_Lamp_beat, lf_beat _ _, rfl, ?_⟩
        have e1 : p = p' := of_decide_eq_true e
        show Q (V.bl (decide (V.int b = V.int b'))) H
        rw [dec_int, show decide (b = b') = decide (p = p' ∧ b = b') by simp [e1]]
        exact q
      · have e1 : ¬ p = p' := fun z => e (decide_eq_true z)
        rw [show decide (p = p' ∧ b = b') = false by simp [e1]] at q
        exact q
    · exact ⟨_, rfl, _, _, _, _, false, rfl, .own _, ty, kt, false, rfl, iteF q⟩
/-! ### shines -/
def spShines (C : Addr) : Sp := fun vs H Q _ => ∃ (a : Addr) (p b t : Int), vs = [.ref a, .int t] ∧ LampAt C H a p b ∧ 0 < p ∧ Q (.bl (decide (p ∣ t - b))) H
end

section
variable {P : Program} {w : World} {K : PySem.W.Frag} {mg : Str → Option Value} {base : Heap}
def spNextShine (C : Addr) : Sp := fun vs H Q _ => ∃ (a : Addr) (p b t : Int), vs = [.ref a, .int t] ∧ LampAt C H a p b ∧ 0 < p ∧ Q (.int (t + (b - t) % p)) H
theorem ok_Lamp_next_shine (T : Top K mg) : FnOk P w K mg base CX0 3 T.f_Lamp_next_shine T.d_Lamp_next_shine ["self", "begin"] (spNextShine T.C_Lamp) := by
  have G_check_beat := ok_check_beat (P := P) (w := w) (base := base) T
  refine T.F_Lamp_next_shine.ok sc_Lamp_next_shine (fun vs H Q E h => ?_) (fun cdv A outer s H vs Q E hr h => ?_)
  · obtain ⟨a, p, b, t, rfl, _⟩ := h; rfl
  · obtain ⟨a, p, b, t, rfl, ⟨dx, ha⟩, hp, q⟩ := h
    refine ⟨_, (pss_cons (ps_expr (pe_call G_check_beat (hr.mono (by decide)) rfl T.g_check_beat T.F_check_beat.kp T.b_check_beat .nil pass0 (pa_cons (pv 1) pa_nil)))
      (pss_one (ps_ret (pe_op op_add (pv 1) (pe_op op_modN (pe_op op_sub (pe_fld (pv 0) rfl) (pv 1)) (pe_fld (pv 0) rfl)))))), ?_⟩
    refine ⟨_, rfl, t, rfl, ?_⟩
    refine ⟨_, rfl, _, rfl, a, T.C_Lamp, dx, _, _, rfl, ha, T.cl_Lamp, T.na_Lamp_beat, lf_beat _ _, _, rfl, _, _, rfl, rfl, _, rfl, a, T.C_Lamp, dx, _, _, rfl, ha, T.cl_Lamp, T.na_Lamp_period, lf_period _ _, _, _, rfl, rfl, (by omega), _, _, rfl, rfl, ?_⟩
    show Q (V.int (t + (b - t).fmod p)) H
    rw [fmod_pos hp]
    exact q
end

section
variable {P : Program} {w : World} {K : PySem.W.Frag} {mg : Str → Option Value} {base : Heap}
/-- a period as it may be handed in -/
structure Pd (p b : Int) : Prop where
  p0 : 0 < p
  pb : p.natAbs < 2 ^ E8
  b0 : 0 ≤ b
  bp : b < p
def spSeen (C : Addr) : Sp := fun vs H Q _ => ∃ (a c : Addr) (p1 b1 p2 b2 : Int), vs = [.ref a, .ref c] ∧ LampAt C H a p1 b1 ∧ LampAt C H c p2 b2 ∧ Pd p1 b1 ∧ Pd p2 b2 ∧
  (¬ (Int.gcd p1 p2 : Int) ∣ b2 - b1 → ∀ H', Same H H' → Q .non H') ∧
  (∀ q r, SeenIs p1 b1 p2 b2 q r → (Int.gcd p1 p2 : Int) ∣ b2 - b1 → ∀ x H', H x = none → Same H H' → LampAt C H' x q r → Q (.ref x) H')
theorem ok_seen_from (T : Top K mg) : FnOk P w K mg base CX0 4 T.f_seen_from T.d_seen_from ["lamp", "other"] (spSeen T.C_Lamp) := by
  have G_Lamp_init := ok_Lamp_init (P := P) (w := w) (base := base) T
  have G_Lamp_eq := ok_Lamp_eq (P := P) (w := w) (base := base) T
  have G_inverse := ok_inverse (P := P) (w := w) (base := base) T
  refine T.F_seen_from.ok sc_seen_from (fun vs H Q E h => ?_) (fun cdv A outer s H vs Q E hr h => ?_)
  · obtain ⟨a, c, p1, b1, p2, b2, rfl, _⟩ := h; rfl
  · obtain ⟨a, c, p1, b1, p2, b2, rfl, ⟨da, ha⟩, ⟨dc, hc⟩, D1, D2, q1, q2⟩ := h
    have p10 := D1.p0
    have p20 := D2.p0
    have g0 := gcd_pos (a := p1) (b := p2) p10
    refine ⟨_, (pss_cons (ps_set (i := 2) sc_seen_from.nd rfl (Or.inl rfl) (pe_callBfun cr_gcd rfl T.i_gcd (pa_cons (pe_fld (pv 0) rfl) (pa_cons (pe_fld (pv 1) rfl) pa_nil))))
      (pss_cons (ps_set (i := 3) sc_seen_from.nd rfl (Or.inl rfl) (pe_op op_sub (pe_fld (pv 1) rfl) (pe_fld (pv 0) rfl)))
      (pss_cons (ps_if (pt_cmpR op_ne (pe_op op_modN (pv 3) (pv 2)) pe_int (nomark _)) (pss_one (ps_ret pe_non)) pss_nil)
      (pss_cons (ps_set (i := 4) sc_seen_from.nd rfl (Or.inl rfl) (pe_op op_fdivW (pe_fld (pv 1) rfl) (pv 2)))
      (pss_one (ps_ret (pe_make T.mk_Lamp G_Lamp_init (hr.mono (by decide)) (by rfl) T.gC_Lamp T.b_Lamp_init .nil pass0 (pa_cons (pv 4) (pa_cons (pe_op op_mulW (pe_op op_fdivW (pv 3) (pv 2)) (pe_call G_inverse (hr.mono (by decide)) rfl T.g_inverse T.F_inverse.kp T.b_inverse .nil pass0 (pa_cons (pe_op op_fdivW (pe_fld (pv 0) rfl) (pv 2)) (pa_cons (pv 4) pa_nil)))) pa_nil))))))))), ?_⟩
    -- common = gcd(lamp.period, other.period)
    refine ⟨_, rfl, a, T.C_Lamp, da, _, _, rfl, ha, T.cl_Lamp, T.na_Lamp_period, lf_period _ _, _, rfl, c, T.C_Lamp, dc, _, _, rfl, hc, T.cl_Lamp, T.na_Lamp_period, lf_period _ _, _, _, rfl, ?_⟩
    -- ahead = other.beat - lamp.beat
    refine ⟨_, rfl, c, T.C_Lamp, dc, _, _, rfl, hc, T.cl_Lamp, T.na_Lamp_beat, lf_beat _ _, _, rfl, a, T.C_Lamp, da, _, _, rfl, ha, T.cl_Lamp, T.na_Lamp_beat, lf_beat _ _, _, _, rfl, rfl, ?_⟩
    refine ⟨_, rfl, _, rfl, _, _, rfl, rfl, (by show ((Int.gcd p1 p2 : Nat) : Int) ≠ 0; omega), rfl, _, rfl, ?_⟩
    show (if (!decide (V.int ((b2 - b1).fmod (Int.gcd p1 p2 : Int)) = V.int 0)) = true then _ else _)
    rw [dec_int, fmod_pos g0]
    by_cases hz : (b2 - b1) % (Int.gcd p1 p2 : Int) = 0
    · rw [decide_eq_true hz]
      refine iteF ?_
      have hg := dvd_iff_emod.mp hz
      have gp1 : (Int.gcd p1 p2 : Int) ∣ p1 := Int.gcd_dvd_left ..
      have gp2 : (Int.gcd p1 p2 : Int) ∣ p2 := Int.gcd_dvd_right ..
      have gle : (Int.gcd p1 p2 : Int) ≤ p1 := Int.le_of_dvd p10 gp1
      have q0 : 0 < p2 / (Int.gcd p1 p2 : Int) := Int.ediv_pos_of_pos_of_dvd p20 (by omega) gp2
      have cd : CDivW p2 (Int.gcd p1 p2 : Int) := wide_div g0 (wide_le (by omega) gle D1.pb) (by decide) (by decide)
      have qb : (p2 / (Int.gcd p1 p2 : Int)).natAbs < 2 ^ E8 := wide_le (by omega) (Int.ediv_le_self _ (by omega)) D2.pb
      -- period = other.period // common
      refine ⟨_, rfl, c, T.C_Lamp, dc, _, _, rfl, hc, T.cl_Lamp, T.na_Lamp_period, lf_period _ _, _, rfl, _, _, rfl, rfl, cd, ?_⟩
      -- Lamp(period, ahead // common * inverse(lamp.period // common, period))
      refine ⟨_, rfl, _, rfl, _, rfl, _, _, rfl, rfl, cd, _, rfl, a, T.C_Lamp, da, _, _, rfl, ha, T.cl_Lamp, T.na_Lamp_period, lf_period _ _, _, rfl, _, _, rfl, rfl, cd, _, rfl, _, _, rfl, q0, qb, gcd_cop p10, fun v hv H1 s1 => ?_⟩
      have vb : v.natAbs < 2 ^ E8 := wide_le hv.1 (Int.le_of_lt hv.2.1) qb
      have ab : ((b2 - b1) / (Int.gcd p1 p2 : Int)).natAbs < 2 ^ E8 := by
        have e1 : (b2 - b1) / (Int.gcd p1 p2 : Int) * (Int.gcd p1 p2 : Int) = b2 - b1 := Int.ediv_mul_cancel hg
        have e2 : ((b2 - b1) / (Int.gcd p1 p2 : Int)).natAbs * 1 ≤ ((b2 - b1) / (Int.gcd p1 p2 : Int)).natAbs * (Int.gcd p1 p2 : Int).natAbs := Nat.mul_le_mul_left _ (by omega)
        rw [← Int.natAbs_mul, e1] at e2
        have h1 := D1.pb
        have h2 := D2.pb
        have h3 := D1.b0
        have h4 := D1.bp
        have h5 := D2.b0
        have h6 := D2.bp
        generalize (2 : Nat) ^ 8000 = B at *
        omega
      refine ⟨_, _, rfl, rfl, wide_mul ab vb (by decide) (by decide) (by decide), ?_⟩
      refine make_lamp rfl q0 fun x H2 nx s2 hx => ?_
      exact q2 _ _ (seen_is p10 p20 hg hv.2.2) hg x H2 (s1.free nx) (s1.trans s2) hx
    · rw [decide_eq_false hz]
      refine iteT ?_
      exact q1 (fun z => hz (dvd_iff_emod.mpr z)) H (Same.refl H)
end

section
variable {P : Program} {w : World} {K : PySem.W.Frag} {mg : Str → Option Value} {base : Heap}
/-! ### readings of a lamp -/
theorem rdP (T : Top K mg) {H : Hp} {a : Addr} {p b : Int} {Q : VK} (h : LampAt T.C_Lamp H a p b) (q : Q (.int p) H) : ∃ a' C dx fs v, V.ref a = V.ref a' ∧ H a' = some (.ins C dx fs) ∧ Cls K C ∧ NoAttr K C "period" ∧ fs.lookup ("period" : Str) = some v ∧ Q v H :=
  let ⟨dx, e⟩ := h; ⟨a, T.C_Lamp, dx, _, _, rfl, e, T.cl_Lamp, T.na_Lamp_period, lf_period _ _, q⟩
theorem rdB (T : Top K mg) {H : Hp} {a : Addr} {p b : Int} {Q : VK} (h : LampAt T.C_Lamp H a p b) (q : Q (.int b) H) : ∃ a' C dx fs v, V.ref a = V.ref a' ∧ H a' = some (.ins C dx fs) ∧ Cls K C ∧ NoAttr K C "beat" ∧ fs.lookup ("beat" : Str) = some v ∧ Q v H :=
  let ⟨dx, e⟩ := h; ⟨a, T.C_Lamp, dx, _, _, rfl, e, T.cl_Lamp, T.na_Lamp_beat, lf_beat _ _, q⟩
theorem nf_self {K : PySem.W.Frag} {C : Addr} : PySem.W.notFirst K C (.ref C) = true := by unfold PySem.W.notFirst; simp
theorem rdEq (T : Top K mg) {H : Hp} {a c : Addr} {p b p' b' : Int} {Q : VK} {E : XK} (h : LampAt T.C_Lamp H a p b) (h' : LampAt T.C_Lamp H c p' b') (q : Q (.bl (decide (p = p' ∧ b = b'))) H) :
    rEqOwn K T.C_Lamp (spLampEq K T.C_Lamp) E (.ref a) (.ref c) H Q :=
  let ⟨dx, e⟩ := h; let ⟨_, e'⟩ := h'; ⟨a, dx, _, _, rfl, e, T.kl_Lamp.ty e', nf_self, a, p, b, _, rfl, h, .inl ⟨c, p', b', rfl, h', _, rfl, q⟩⟩
theorem rdNe (T : Top K mg) {H : Hp} {a c : Addr} {p b p' b' : Int} {Q : VK} {E : XK} (h : LampAt T.C_Lamp H a p b) (h' : LampAt T.C_Lamp H c p' b') (q : Q (.bl (!decide (p = p' ∧ b = b'))) H) :
    rNeOwn K T.C_Lamp (spLampEq K T.C_Lamp) E (.ref a) (.ref c) H Q :=
  let ⟨dx, e⟩ := h; let ⟨_, e'⟩ := h'; ⟨a, dx, _, _, rfl, e, T.kl_Lamp.ty e', nf_self, a, p, b, _, rfl, h, .inl ⟨c, p', b', rfl, h', _, rfl, q⟩⟩
theorem ifNeF {x y : Int} {A B : Prop} (h : x = y) (hb : B) : if (!decide (V.int x = V.int y)) = true then A else B := by
  rw [dec_int, decide_eq_true h]
  exact iteF hb
theorem ifNeT {x y : Int} {A B : Prop} (h : x ≠ y) (ha : A) : if (!decide (V.int x = V.int y)) = true then A else B := by
  rw [dec_int, decide_eq_false h]
  exact iteT ha
theorem ifEqF {x y : Int} {A B : Prop} (h : x ≠ y) (hb : B) : if decide (V.int x = V.int y) = true then A else B := by
  rw [dec_int, decide_eq_false h]
  exact iteF hb
theorem ifEqT {x y : Int} {A B : Prop} (h : x = y) (ha : A) : if decide (V.int x = V.int y) = true then A else B := by
  rw [dec_int, decide_eq_true h]
  exact iteT ha
theorem fmod0 {x p : Int} (p0 : 0 < p) (d : p ∣ x) : x.fmod p = 0 := by rw [fmod_pos p0]; exact Int.emod_eq_zero_of_dvd d
theorem fmodN {x p : Int} (p0 : 0 < p) (d : ¬ p ∣ x) : x.fmod p ≠ 0 := by rw [fmod_pos p0]; exact fun e => d (Int.dvd_of_emod_eq_zero e)
theorem pd_of {p b : Int} (p0 : 0 < p) (pb : p < 2 ^ 255) : Pd p (b % p) := by
  refine ⟨p0, ?_, Int.emod_nonneg _ (by omega), Int.emod_lt_of_pos _ p0⟩
  have h1 : p.natAbs < 2 ^ 255 := by omega
  exact Nat.lt_of_lt_of_le h1 (Nat.pow_le_pow_right (by decide) (by decide))
end

section
variable {P : Program} {w : World} {K : PySem.W.Frag} {mg : Str → Option Value} {base : Heap}
/-! ### draws -/
/-- small factors -/
theorem mw {i j : Int} (h1 : -(2 ^ 200) < i) (h2 : i < 2 ^ 200) (h3 : -(2 ^ 200) < j) (h4 : j < 2 ^ 200) : CMulW i j :=
  wide_mul (a := 200) (b := 200) (by omega) (by omega) (by decide) (by decide) (by decide)
theorem nz {j : Int} (h : j ≠ 0) : j ≠ 0 := h
theorem fm0 {a b : Int} (h : 0 < b) : 0 ≤ a.fmod b := by rw [fmod_pos h]; exact Int.emod_nonneg _ (by omega)
theorem fm1 {a b : Int} (h : 0 < b) : a.fmod b < b := by rw [fmod_pos h]; exact Int.emod_lt_of_pos _ h
theorem dvw {i j : Int} (h : 0 < j) (h2 : j < 2 ^ 200) : CDivW i j := wide_div (b := 200) h (by omega) (by decide) (by decide)
theorem same_new {H : Hp} {p : Addr} {o : HO} (h : H p = Option.none) : Same H (upd H p o) := fun b x e => by
  rw [upd_ne (ne_of_none e h)]
  exact e
/-- the heap may have more, and the object at s may be another -/
def Dr (s : Addr) (H H' : Hp) : Prop := ∀ b o, H b = some o → b ≠ s → H' b = some o
theorem Dr.of {s : Addr} {H H' : Hp} (h : Same H H') : Dr s H H' := fun b o e _ => h b o e
theorem Dr.refl (s : Addr) (H : Hp) : Dr s H H := fun _ _ e _ => e
theorem Dr.trans {s : Addr} {H H1 H2 : Hp} (a : Dr s H H1) (b : Dr s H1 H2) : Dr s H H2 := fun c o e hc => b c o (a c o e hc) hc
theorem Dr.then {s : Addr} {H H1 H2 : Hp} (a : Dr s H H1) (b : Same H1 H2) : Dr s H H2 := fun c o e hc => b c o (a c o e hc)
/-- a source of draws stands at s; n draws at most have been taken -/
def Src (H : Hp) (s : Addr) (n : Nat) : Prop := ∃ a b c : Int, H s = some (.lst [.int a, .int b, .int c]) ∧ 0 ≤ c ∧ c ≤ n ∧ 0 ≤ b ∧ b < 2147483549
theorem Src.same {H H' : Hp} {s : Addr} {n : Nat} (h : Src H s n) (e : Same H H') : Src H' s n := let ⟨a, b, c, h1, h2⟩ := h; ⟨a, b, c, e _ _ h1, h2⟩
theorem Src.mono {H : Hp} {s : Addr} {n m : Nat} (h : Src H s n) (e : n ≤ m) : Src H s m := let ⟨a, b, c, h1, h2, h3, h4⟩ := h; ⟨a, b, c, h1, h2, by omega, h4⟩
theorem Src.free {H H' : Hp} {s l : Addr} {n : Nat} (h : Src H' s n) (d : Dr s H H') (hl : H' l = Option.none) : H l = Option.none := by
  obtain ⟨a, b, c, h1, _⟩ := h
  cases e : H l with
  | none => rfl
  | some o =>
    have hne : l ≠ s := fun z => by rw [z, h1] at hl; cases hl
    rw [d l o e hne] at hl
    cases hl
theorem LampAt.dr {C : Addr} {H H' : Hp} {a s : Addr} {p b : Int} {n : Nat} (h : LampAt C H a p b) (hs : Src H s n) (d : Dr s H H') : LampAt C H' a p b := by
  obtain ⟨dx, e⟩ := h
  obtain ⟨_, _, _, h1, _⟩ := hs
  exact ⟨dx, d a _ e (ne_of e h1 (by intro z; cases z))⟩
def spSource : Sp := fun vs H Q _ => ∃ z : Int, vs = [.int z] ∧ PySem.Builtin.Int.intBits z ≤ 1048576 ∧ ∀ l H', H l = none → Same H H' → Src H' l 0 → Q (.ref l) H'
theorem ok_l_source (T : Top K mg) : FnOk P w K mg base CX0 1 T.f_l_source T.d_l_source ["_law_cell"] spSource := by
  refine T.F_l_source.ok sc_l_source (fun vs H Q E h => ?_) (fun cdv A outer s H vs Q E hr h => ?_)
  · obtain ⟨z, rfl, _⟩ := h; rfl
  · obtain ⟨z, rfl, hz, q⟩ := h
    refine ⟨_, (pss_one (ps_ret (pe_lst (pa_cons (pe_op op_mulX (pv 0) (pe_callTy call_int1 (by rfl) T.n_int (by decide +kernel) (pa_cons (pe_cmpR op_ge (pv 0) (pe_op op_pow pe_int pe_int) (nomark _)) pa_nil))) (pa_cons (pe_op op_modN (pv 0) pe_int) (pa_cons pe_int pa_nil)))))), ?_⟩
    have m0 := fm0 (a := z) (b := 2147483549) (by decide)
    have m1 := fm1 (a := z) (b := 2147483549) (by decide)
    refine ⟨_, rfl, _, rfl, _, _, rfl, rfl, ⟨by decide, by decide, by decide⟩, _, _, rfl, rfl, .inr ⟨_, rfl, _, _, rfl, rfl, ?_, _, rfl, _, _, rfl, rfl, nz (by decide), (by show 3 ≤ sizeLine; decide), fun l hl => ?_⟩⟩
    · unfold CMulX
      have : PySem.Builtin.Int.intBits (if decide ((10 : Int) ^ (18 : Int).toNat ≤ z) = true then 1 else 0) ≤ 1 := by split <;> decide
      omega
    · exact q l _ hl (fun b o e => by rw [upd_ne (ne_of_none e hl)]; exact e) ⟨_, _, 0, upd_same, by decide, by decide, m0, m1⟩
def spTake : Sp := fun vs H Q _ => ∃ (s : Addr) (n : Nat) (m : Int), vs = [.ref s, .int m] ∧ Src H s n ∧ n < 1000000 ∧ 0 < m ∧ m < 2 ^ 200 ∧ ∀ v H', 0 ≤ v → v < m → Src H' s (n + 1) → Dr s H H' → Q (.int v) H'
theorem ok_l_take (T : Top K mg) : FnOk P w K mg base CX0 1 T.f_l_take T.d_l_take ["_law_source_here", "_law_many"] spTake := by
  refine T.F_l_take.ok sc_l_take (fun vs H Q E h => ?_) (fun cdv A outer s H vs Q E hr h => ?_)
  · obtain ⟨s, n, m, rfl, _⟩ := h; rfl
  · obtain ⟨s, n, m, rfl, ⟨a, b, c, hs, c0, cn, b0, b1⟩, hn, m0, m1, q⟩ := h
    refine ⟨_, (pss_cons (ps_if (pt_cmpR op_gt (pe_ix ix_list (pv 0) pe_int (fun _ _ => rfl)) pe_int (nomark _)) (pss_cons (ps_set (i := 2) sc_l_take.nd rfl (Or.inl rfl) (pe_op op_modN (pe_ix ix_list (pv 0) pe_int (fun _ _ => rfl)) (pv 1)))
      (pss_cons (ps_asg (pe_op op_fdivW (pe_ix ix_list (pv 0) pe_int (fun _ _ => rfl)) (pv 1)) (pg_sub (pv 0) pe_int set_list))
      (pss_one (ps_ret (pv 2))))) pss_nil)
      (pss_cons (ps_asg (pe_op op_add (pe_ix ix_list (pv 0) pe_int (fun _ _ => rfl)) pe_int) (pg_sub (pv 0) pe_int set_list))
      (pss_cons (ps_set (i := 3) sc_l_take.nd rfl (Or.inl rfl) (pe_op op_modN (pe_op op_mulW (pe_op op_add (pe_op op_add (pe_ix ix_list (pv 0) pe_int (fun _ _ => rfl)) (pe_op op_mulW pe_int (pe_ix ix_list (pv 0) pe_int (fun _ _ => rfl)))) pe_int) pe_int) pe_int))
      (pss_cons (ps_set (i := 3) sc_l_take.nd rfl (Or.inl rfl) (pe_op op_modN (pe_op op_mulW (pv 3) (pe_op op_add (pe_op op_fdivW (pv 3) pe_int) pe_int)) pe_int))
      (pss_one (ps_ret (pe_op op_modN (pe_op op_fdivW (pe_op op_modN (pe_op op_mulW (pv 3) (pe_op op_add (pe_op op_fdivW (pv 3) pe_int) pe_int)) pe_int) pe_int) (pv 1)))))))), ?_⟩
    refine ⟨_, rfl, s, _, _, _, rfl, rfl, SqL.of hs, at_of (j := 0) rfl rfl, _, _, rfl, rfl, _, rfl, ite2 (fun _ => ?_) (fun _ => ?_)⟩
    · refine ⟨_, rfl, s, _, _, _, rfl, rfl, SqL.of hs, at_of (j := 0) rfl rfl, _, rfl, _, _, rfl, rfl, (by omega), ?_⟩
      refine ⟨_, rfl, s, _, _, _, rfl, rfl, SqL.of hs, at_of (j := 0) rfl rfl, _, rfl, _, _, rfl, rfl, dvw m0 m1, _, rfl, s, _, _, _, rfl, rfl, hs, rfl, ?_⟩
      refine ⟨_, rfl, ?_⟩
      exact q _ _ (fm0 m0) (fm1 m0) ⟨a / m, b, c, upd_same, c0, by omega, b0, b1⟩ fun d o e hd => by rw [upd_ne hd]; exact e
    · refine ⟨_, rfl, s, _, _, _, rfl, rfl, SqL.of hs, at_of (j := 2) rfl rfl, _, _, rfl, rfl, _, rfl, s, _, _, _, rfl, rfl, hs, rfl, ?_⟩
      refine ⟨_, rfl, s, _, _, _, rfl, rfl, SqL.of upd_same, at_of (j := 1) rfl rfl, _, rfl, s, _, _, _, rfl, rfl, SqL.of upd_same, at_of (j := 2) rfl rfl, _, _, rfl, rfl, mw (by omega) (by omega) (by omega) (by omega), _, _, rfl, rfl, _, _, rfl, rfl, _, _, rfl, rfl, mw (by omega) (by omega) (by decide) (by decide), _, _, rfl, rfl, nz (by decide), ?_⟩
      have x0 := fm0 (a := (b + 67867967 * (c + 1) + 1) * 48271) (b := 2147483647) (by decide)
      have x1 := fm1 (a := (b + 67867967 * (c + 1) + 1) * 48271) (b := 2147483647) (by decide)
      dsimp only
      generalize ((b + 67867967 * (c + 1) + 1) * 48271).fmod 2147483647 = n1 at *
      refine ⟨_, rfl, _, rfl, _, _, rfl, rfl, dvw (by decide) (by decide), _, _, rfl, rfl, _, _, rfl, rfl, mw (by omega) (by omega) (by omega) (by omega), _, _, rfl, rfl, nz (by decide), ?_⟩
      have y0 := fm0 (a := n1 * (n1 / 1013 + 69621)) (b := 2147483629) (by decide)
      have y1 := fm1 (a := n1 * (n1 / 1013 + 69621)) (b := 2147483629) (by decide)
      dsimp only
      generalize (n1 * (n1 / 1013 + 69621)).fmod 2147483629 = n2 at *
      refine ⟨_, rfl, _, rfl, _, _, rfl, rfl, dvw (by decide) (by decide), _, _, rfl, rfl, _, _, rfl, rfl, mw (by omega) (by omega) (by omega) (by omega), _, _, rfl, rfl, nz (by decide), _, _, rfl, rfl, dvw (by decide) (by decide), _, rfl, _, _, rfl, rfl, (by omega), ?_⟩
      exact q _ _ (fm0 m0) (fm1 m0) ⟨a, b, c + 1, upd_same, by omega, by omega, b0, b1⟩ fun d o e hd => by rw [upd_ne hd]; exact e
/-- an item of a written list at a drawn place -/
theorem pick {items : List V} {R : V → Prop} (hR : ∀ x ∈ items, R x) {v : Int} (h0 : 0 ≤ v) (h1 : v < items.length) : ∃ x, atI items v = some x ∧ R x := by
  have hj : v.toNat < items.length := by omega
  exact ⟨items[v.toNat], at_of (j := v.toNat) (by omega) (List.getElem?_eq_getElem hj), hR _ (List.getElem_mem hj)⟩
/-- an int between -/
def Btw (lo hi : Int) (x : V) : Prop := ∃ z : Int, x = .int z ∧ lo ≤ z ∧ z ≤ hi
end

/-! ### data compared -/
section
open PySem
/-- may be compared: no dict in it, not too deep -/
def OkD (n : Nat) (d : PyData) : Prop := d.canLay0 = true ∧ d.depth ≤ n
theorem OkD.mono {n m : Nat} {d : PyData} (h : OkD n d) (hn : n ≤ m) : OkD m d := ⟨h.1, Nat.le_trans h.2 hn⟩
theorem okD_int (i : Int) : OkD 0 (.int i) := ⟨by unfold PyData.canLay0; rfl, by unfold PyData.depth; exact Nat.le_refl _⟩
theorem okD_non : OkD 0 .none := ⟨by unfold PyData.canLay0; rfl, by unfold PyData.depth; exact Nat.le_refl _⟩
theorem okD_bl (b : Bool) : OkD 0 (.bool b) := ⟨by unfold PyData.canLay0; rfl, by unfold PyData.depth; exact Nat.le_refl _⟩
theorem okD_all {n : Nat} : ∀ {ds : List PyData}, (∀ d ∈ ds, OkD n d) → PyData.canLayAll0 ds = true ∧ PyData.depthAll ds ≤ n
  | [], _ => ⟨by unfold PyData.canLayAll0; rfl, by unfold PyData.depthAll; exact Nat.zero_le _⟩
  | d :: ds, h => by
    obtain ⟨h1, h2⟩ := okD_all (ds := ds) fun e he => h e (.tail _ he)
    obtain ⟨g1, g2⟩ := h d (.head _)
    refine ⟨?_, ?_⟩
    · unfold PyData.canLayAll0
      rw [g1, h1]
      rfl
    · unfold PyData.depthAll
      omega
theorem okD_list {n : Nat} {ds : List PyData} (h : ∀ d ∈ ds, OkD n d) : OkD (n + 1) (.list ds) := by
  obtain ⟨h1, h2⟩ := okD_all h
  refine ⟨?_, ?_⟩
  · unfold PyData.canLay0
    exact h1
  · unfold PyData.depth
    omega
theorem okD_tup {n : Nat} {ds : List PyData} (h : ∀ d ∈ ds, OkD n d) : OkD (n + 1) (.tuple ds) := by
  obtain ⟨h1, h2⟩ := okD_all h
  refine ⟨?_, ?_⟩
  · unfold PyData.canLay0
    exact h1
  · unfold PyData.depth
    omega
theorem OkD.sh {n : Nat} {d : PyData} (h : OkD n d) (hn : n ≤ 64) : SeqAt.shaped d = true := by
  unfold SeqAt.shaped
  rw [h.1]
  exact decide_eq_true (Nat.le_trans h.2 hn)
mutual
theorem eqv_self : ∀ d : PyData, d.canLay0 = true → PyData.eqv d d = true
  | .none, _ => by unfold PyData.eqv; rfl
  | .bool b, _ => by unfold PyData.eqv; exact beq_self_eq_true _
  | .int i, _ => by unfold PyData.eqv; exact beq_self_eq_true _
  | .str x, _ => by unfold PyData.eqv; exact beq_self_eq_true _
  | .list xs, h => by unfold PyData.eqv; unfold PyData.canLay0 at h; exact eqv_all_self xs h
  | .tuple xs, h => by unfold PyData.eqv; unfold PyData.canLay0 at h; exact eqv_all_self xs h
  | .dict _, h => by unfold PyData.canLay0 at h; cases h
theorem eqv_all_self : ∀ ds : List PyData, PyData.canLayAll0 ds = true → PyData.eqvAll ds ds = true
  | [], _ => by unfold PyData.eqvAll; rfl
  | d :: ds, h => by
    unfold PyData.canLayAll0 at h
    obtain ⟨h1, h2⟩ := Bool.and_eq_true_iff.mp h
    unfold PyData.eqvAll
    rw [eqv_self d h1, eqv_all_self ds h2]
    rfl
end
def dInts (ns : List Int) : PyData := .list (ns.map .int)
theorem okD_ints (ns : List Int) : OkD 1 (dInts ns) := okD_list fun d hd => by
  obtain ⟨i, _, rfl⟩ := List.mem_map.mp hd
  exact okD_int i
theorem eqv_ints : ∀ (ms ns : List Int), PyData.eqvAll (ms.map .int) (ns.map .int) = decide (ms = ns)
  | [], [] => by unfold PyData.eqvAll; rfl
  | [], _ :: _ => by unfold PyData.eqvAll; rfl
  | _ :: _, [] => by unfold PyData.eqvAll; rfl
  | m :: ms, n :: ns => by
    show PyData.eqvAll (.int m :: ms.map .int) (.int n :: ns.map .int) = _
    unfold PyData.eqvAll
    rw [eqv_ints ms ns]
    unfold PyData.eqv
    by_cases h : m = n
    · subst h
      by_cases h2 : ms = ns
      · subst h2; simp
      · simp [h2]
    · simp [h]
variable {K : PySem.W.Frag} {H : Hp}
theorem dp_ints {L : Addr} {ns : List Int} (h : H L = some (.lst (ns.map V.int))) : Dp K H (.ref L) (dInts ns) := by
  refine .lst (SqL.of h) ?_
  clear h
  induction ns with
  | nil => exact .nil
  | cons n ns ih => exact .cons (.int n) ih
/-- what next_dark tells, as data -/
def tD (pap : List Int) : Option Int → PyData
  | some d => .tuple [.str "dark", .int d]
  | none => .tuple [.str "ever", dInts pap]
theorem okD_str {x : Str} (h : PyData.strOk x = true) : OkD 0 (.str x) := ⟨by unfold PyData.canLay0; exact h, by unfold PyData.depth; exact Nat.le_refl _⟩
theorem okD_dark (d : Int) : OkD 1 (.tuple [.str "dark", .int d]) := okD_tup fun x hx => by
  simp only [List.mem_cons, List.not_mem_nil, or_false] at hx
  rcases hx with rfl | rfl
  · exact okD_str (by decide +kernel)
  · exact okD_int d
theorem okD_tD (pap : List Int) : ∀ o, OkD 2 (tD pap o)
  | some d => (okD_dark d).mono (by decide)
  | none => okD_tup fun x hx => by
    simp only [List.mem_cons, List.not_mem_nil, or_false] at hx
    rcases hx with rfl | rfl
    · exact (okD_str (by decide +kernel)).mono (by decide)
    · exact okD_ints pap
theorem dp_dark {p : Addr} {d : Int} (h : H p = some (.tup [.str "dark", .int d])) : Dp K H (.ref p) (.tuple [.str "dark", .int d]) := .tup (SqT.of h) (.cons (.str _) (.cons (.int _) .nil))
theorem neD_self {K : PySem.W.Frag} {x y : V} {d : PyData} {n : Nat} {Q : VK} (hx : Dp K H x d) (hy : Dp K H y d) (ok : OkD n d) (hn : n ≤ 64) (q : Q (.bl false) H) : rNeD K x y H Q := by
  refine ⟨d, d, hx, hy, ok.sh hn, ok.sh hn, ?_⟩
  rw [eqv_self d ok.1]
  exact q
theorem eqD_self {K : PySem.W.Frag} {x y : V} {d : PyData} {n : Nat} {Q : VK} (hx : Dp K H x d) (hy : Dp K H y d) (ok : OkD n d) (hn : n ≤ 64) (q : Q (.bl true) H) : rEqD K x y H Q := by
  refine ⟨d, d, hx, hy, ok.sh hn, ok.sh hn, ?_⟩
  rw [eqv_self d ok.1]
  exact q
end

/-! ### [x for x in .. if test] of ints -/
section
variable {sl n : Nat} {tt : TT} {σ : L2.St} {H1 : Hp} {D a : Addr} {Qd : Hp → Prop}
theorem lc_sieve (f : Int → Bool) (hD : H1 D = Option.none) (hn : n < 100000) (hw : ∀ v, wipe ((wipe σ [sl]).set sl (some v)) [sl] = wipe σ [sl]) (hg : ∀ v : V, ((wipe σ [sl]).set sl (some v))[sl]? = some (some v))
    (ht : ∀ (i : Nat) (H' : Hp) (Q : Bool → Hp → Prop), i < n → Same H1 H' → Q (f i) H' → tt ((wipe σ [sl]).set sl (some (.int i))) H' Q)
    (hd : ∀ H', Same H1 H' → H' D = some (.lst ((sieve n f).map V.int)) → Qd H') :
    ∃ W : Nat → Nat → Hp → Prop, (∃ m, W 0 m (upd H1 D (.lst []))) ∧ ∀ i m H, W i m H →
      ((Itr 0 n).stop i H ∧ Qd H) ∨ ((Itr 0 n).go i H ∧ ∃ Nx : Hp → Prop, (∀ H', Nx H' → ∃ m', m' < m ∧ W (i + 1) m' H') ∧ ∀ x H', (Itr 0 n).yld i H x H' → gName sl x (wipe σ [sl]) H' fun σ2 H2 => wipe σ2 [sl] = wipe σ [sl] ∧ tt σ2 H2 fun b H3 =>
        if b = true then tVar sl σ2 H3 fun y H4 => ∃ acc, H4 D = some (.lst acc) ∧ acc.length < sizeLine ∧ Nx (upd H4 D (.lst (acc ++ [y]))) else Nx H3) := by
  have sm : ∀ {H' : Hp} {o : HO}, Same H1 H' → Same H1 (upd H' D o) := fun s b x e => by rw [upd_ne (ne_of_none e hD)]; exact s b x e
  refine lc_range (fun i H' => Same H1 H' ∧ H' D = some (.lst ((sieve i f).map V.int))) ⟨sm (Same.refl H1), upd_same⟩ (fun i H' hi ⟨s1, hl⟩ => ?_) fun H' ⟨s1, hl⟩ => hd H' s1 hl
  rw [Int.zero_add]
  refine ⟨hw _, ht i H' _ hi s1 ?_⟩
  cases e : f i with
  | true =>
    refine iteT ⟨_, hg _, _, hl, ?_, sm s1, ?_⟩
    · rw [List.length_map]
      have := sieve_len i f
      exact Nat.lt_of_lt_of_le (show (sieve i f).length < 100000 by omega) (by decide)
    · rw [upd_same, sieve_succ, e, List.map_append]
      rfl
  | false =>
    refine iteF ⟨s1, ?_⟩
    rw [hl, sieve_succ, e]
    simp
theorem lc_filter {K : PySem.W.Frag} {ns : List Int} (f : Int → Bool) (hD : H1 D = Option.none) (ha : SqL K H1 a (ns.map V.int)) (hn : ns.length < 100000) (hw : ∀ v, wipe ((wipe σ [sl]).set sl (some v)) [sl] = wipe σ [sl]) (hg : ∀ v : V, ((wipe σ [sl]).set sl (some v))[sl]? = some (some v))
    (ht : ∀ (z : Int) (H' : Hp) (Q : Bool → Hp → Prop), z ∈ ns → Same H1 H' → Q (f z) H' → tt ((wipe σ [sl]).set sl (some (.int z))) H' Q)
    (hd : ∀ H', Same H1 H' → H' D = some (.lst ((ns.filter f).map V.int)) → Qd H') :
    ∃ W : Nat → Nat → Hp → Prop, (∃ m, W 0 m (upd H1 D (.lst []))) ∧ ∀ i m H, W i m H →
      ((Itl K a).stop i H ∧ Qd H) ∨ ((Itl K a).go i H ∧ ∃ Nx : Hp → Prop, (∀ H', Nx H' → ∃ m', m' < m ∧ W (i + 1) m' H') ∧ ∀ x H', (Itl K a).yld i H x H' → gName sl x (wipe σ [sl]) H' fun σ2 H2 => wipe σ2 [sl] = wipe σ [sl] ∧ tt σ2 H2 fun b H3 =>
        if b = true then tVar sl σ2 H3 fun y H4 => ∃ acc, H4 D = some (.lst acc) ∧ acc.length < sizeLine ∧ Nx (upd H4 D (.lst (acc ++ [y]))) else Nx H3) := by
  have sm : ∀ {H' : Hp} {o : HO}, Same H1 H' → Same H1 (upd H' D o) := fun s b x e => by rw [upd_ne (ne_of_none e hD)]; exact s b x e
  refine lc_list (K := K) (a := a) (xs := ns.map V.int) (fun i H' => Same H1 H' ∧ H' D = some (.lst (((ns.take i).filter f).map V.int))) ⟨sm (Same.refl H1), upd_same⟩ (fun i H' _ ⟨s1, _⟩ => s1.seq ha) (fun i x H' hi ⟨s1, hl⟩ => ?_) fun H' ⟨s1, hl⟩ => hd H' s1 (by rw [hl, List.length_map, List.take_length])
  obtain ⟨z, hz, rfl⟩ : ∃ z, ns[i]? = some z ∧ x = V.int z := by
    rw [List.getElem?_map] at hi
    cases e : ns[i]? with
    | none => rw [e] at hi; cases hi
    | some z => rw [e] at hi; exact ⟨z, rfl, (Option.some.inj hi).symm⟩
  have et : ns.take (i + 1) = ns.take i ++ [z] := by
    rw [List.take_succ, hz]
    rfl
  refine ⟨hw _, ht z H' _ (List.mem_of_getElem? hz) s1 ?_⟩
  cases e : f z with
  | true =>
    refine iteT ⟨_, hg _, _, hl, ?_, sm s1, ?_⟩
    · rw [List.length_map]
      have h1 := List.length_filter_le f (ns.take i)
      have h2 := List.length_take_le i ns
      exact Nat.lt_of_lt_of_le (show ((ns.take i).filter f).length < 100000 by have := List.length_take_le' i ns; omega) (by decide)
    · rw [upd_same, et, List.filter_append, List.map_append]
      simp [List.filter_cons, e]
  | false =>
    refine iteF ⟨s1, ?_⟩
    rw [hl, et, List.filter_append]
    simp [List.filter_cons, e]
end

section
variable {P : Program} {w : World} {K : PySem.W.Frag} {mg : Str → Option Value} {base : Heap}
/-- what a part of a law promises: True, from a source of n draws at most, having taken k more at most -/
def spPart (k : Nat) : Sp := fun vs H Q _ => ∃ (s : Addr) (n : Nat), vs = [.ref s] ∧ Src H s n ∧ n < 100000 ∧ ∀ H', Src H' s (n + k) → Dr s H H' → Q (.bl true) H'
theorem Dr.mut {s l : Addr} {H H' : Hp} {o : HO} (d : Dr s H H') (h : H l = Option.none) : Dr s H (upd H' l o) := fun b x e hb => by
  rw [upd_ne (ne_of_none e h)]
  exact d b x e hb
theorem ne_src {H : Hp} {s l : Addr} {n : Nat} (h : Src H s n) (hl : H l = Option.none) : l ≠ s := fun e => by
  obtain ⟨_, _, _, h1, _⟩ := h
  rw [e, h1] at hl
  cases hl
theorem Src.mut {H : Hp} {s l : Addr} {n : Nat} {o : HO} (h : Src H s n) (hl : l ≠ s) : Src (upd H l o) s n := by
  obtain ⟨a, b, c, h1, h2⟩ := h
  exact ⟨a, b, c, by rw [upd_ne hl.symm]; exact h1, h2⟩
def spLaw (K : PySem.W.Frag) : Sp := fun vs H Q _ => ∃ (a : Addr) (ns : List Int), vs = [.ref a] ∧ SqL K H a (ns.map V.int) ∧ ns.length ≤ 63 ∧ ∀ H', Q (.bl true) H'
theorem Dr.back {l : Addr} {H H1 H2 : Hp} (hl : H l = Option.none) (s : Same H H1) (d : Dr l H1 H2) : Same H H2 := fun b o e => d b o (s b o e) (ne_of_none e hl)
theorem cutV_mem {xs : List V} {lo hi : Option Int} {x : V} (h : x ∈ cutV xs lo hi) : x ∈ xs := by
  unfold cutV at h
  exact List.mem_of_mem_drop (List.mem_of_mem_take h)
theorem cut_ints {ns : List Int} {z : Int} {lo hi : Option Int} : ∀ x ∈ cutV (ns.map V.int ++ [.int z]) lo hi, ∃ z : Int, x = .int z := by
  intro x hx
  have := cutV_mem hx
  simp only [List.mem_append, List.mem_map, List.mem_singleton] at this
  rcases this with ⟨z, _, rfl⟩ | rfl
  · exact ⟨z, rfl⟩
  · exact ⟨_, rfl⟩
theorem Pd.big {p b : Int} (D : Pd p b) (h : p < 2 ^ 250) : p < 2 ^ 250 := h
end

section
variable {P : Program} {w : World} {K : PySem.W.Frag} {mg : Str → Option Value} {base : Heap}
/-! ### lamps that may be None -/
def OAt (C : Addr) (H : Hp) (v : V) (k : Nat) : OLp → Prop
  | none => v = .non
  | some l => ∃ a, v = .ref a ∧ LampAt C H a l.1 l.2 ∧ 0 < l.1 ∧ 0 ≤ l.2 ∧ l.2 < l.1 ∧ l.1.natAbs < 2 ^ k
theorem OAt.same {C : Addr} {H H' : Hp} {v : V} {k : Nat} {o : OLp} (h : OAt C H v k o) (s : Same H H') : OAt C H' v k o := by
  cases o with
  | none => exact h
  | some l =>
    obtain ⟨a, e, hl, r⟩ := h
    exact ⟨a, e, hl.same s, r⟩
theorem OAt.ok {C : Addr} {H : Hp} {v : V} {k : Nat} {o : OLp} (h : OAt C H v k o) : OkL o := by
  rintro l rfl
  obtain ⟨_, _, _, h0, h1, h2, _⟩ := h
  exact ⟨h0, h1, h2⟩
theorem OAt.pd {C : Addr} {H : Hp} {v : V} {k : Nat} {l : Int × Int} (h : OAt C H v k (some l)) (hk : k ≤ 8000) : Pd l.1 l.2 := by
  obtain ⟨_, _, _, h0, h1, h2, h3⟩ := h
  exact ⟨h0, Nat.lt_of_lt_of_le h3 (Nat.pow_le_pow_right (by decide) hk), h1, h2⟩
/-- v != v', both of the same lamp or none -/
theorem neO (T : Top K mg) {H : Hp} {v v' : V} {k k' : Nat} {o : OLp} {Q : VK} {E : XK} (h : OAt T.C_Lamp H v k o) (h' : OAt T.C_Lamp H v' k' o) (q : Q (.bl false) H) :
    rOr (rNeOwn K T.C_Lamp (spLampEq K T.C_Lamp) E) rNe v v' H Q := by
  cases o with
  | none =>
    cases h
    cases h'
    refine .inr ⟨rfl, ?_⟩
    rw [decide_eq_true (show V.non = V.non from rfl)]
    exact q
  | some l =>
    obtain ⟨a, rfl, ha, _⟩ := h
    obtain ⟨c, rfl, hc, _⟩ := h'
    refine .inl (rdNe T ha hc ?_)
    rw [decide_eq_true (show l.1 = l.1 ∧ l.2 = l.2 from ⟨rfl, rfl⟩)]
    exact q
theorem OAt.non {C : Addr} {H : Hp} {v : V} {k : Nat} {o : OLp} (h : OAt C H v k o) : v = .non ↔ o = none := by
  cases o with
  | none => exact ⟨fun _ => rfl, fun _ => h⟩
  | some l =>
    obtain ⟨a, rfl, _⟩ := h
    exact ⟨fun e => (nomatch e), fun e => (nomatch e)⟩
theorem noneItem (T : Top K mg) {H : Hp} {v : V} {k : Nat} {o : OLp} {E : XK} (h : OAt T.C_Lamp H v k o) : v = .non ∨ ∃ a dx fs, v = .ref a ∧ H a = some (.ins T.C_Lamp dx fs) ∧ spLampEq K T.C_Lamp [v, .non] H (fun w H' => ∃ b, w = .bl b ∧ b = false ∧ H' = H) E := by
  cases o with
  | none => exact .inl h
  | some l =>
    obtain ⟨a, rfl, ⟨dx, ha⟩, _⟩ := h
    exact .inr ⟨a, dx, _, rfl, ha, a, _, _, _, rfl, ⟨dx, ha⟩, .inr ⟨_, .base .non, kit_no T.ic_Lamp T.tc_Lamp T.sn_Lamp, _, rfl, rfl, rfl⟩⟩
theorem bl_neO {a b : Bool} {A B : Prop} (h : a = b) (hb : B) : if (!decide (V.bl a = V.bl b)) = true then A else B := by
  subst h
  rw [decide_eq_true rfl]
  exact iteF hb
theorem anyNone {C : Addr} {H : Hp} {v1 v2 v3 vw : V} {k1 k2 k3 k : Nat} {o1 o2 o3 w : OLp} (h1 : OAt C H v1 k1 o1) (h2 : OAt C H v2 k2 o2) (h3 : OAt C H v3 k3 o3) (hw : OAt C H vw k w) (e : w = none ↔ (o1 = none ∨ o2 = none ∨ o3 = none)) :
    [v1, v2, v3].any (fun v => decide (v = .non)) = decide (vw = .non) := by
  rw [Bool.eq_iff_iff, List.any_eq_true]
  simp only [List.mem_cons, List.not_mem_nil, or_false, decide_eq_true_eq]
  rw [hw.non, e, ← h1.non, ← h2.non, ← h3.non]
  constructor
  · rintro ⟨x, rfl | rfl | rfl, h⟩
    · exact .inl h
    · exact .inr (.inl h)
    · exact .inr (.inr h)
  · rintro (h | h | h)
    · exact ⟨v1, .inl rfl, h⟩
    · exact ⟨v2, .inr (.inl rfl), h⟩
    · exact ⟨v3, .inr (.inr rfl), h⟩
theorem OAt.lamp {C : Addr} {H : Hp} {a : Addr} {k : Nat} {l : Int × Int} (h : OAt C H (.ref a) k (some l)) : LampAt C H a l.1 l.2 := by
  obtain ⟨c, e, hl, _⟩ := h
  injection e with e
  subst e
  exact hl
theorem OAt.dr {C : Addr} {H H' : Hp} {v : V} {k : Nat} {o : OLp} {s : Addr} {n : Nat} (h : OAt C H v k o) (hs : Src H s n) (d : Dr s H H') : OAt C H' v k o := by
  cases o with
  | none => exact h
  | some l =>
    obtain ⟨a, e, hl, r⟩ := h
    exact ⟨a, e, hl.dr hs d, r⟩
theorem OAt.mut {C : Addr} {H : Hp} {v : V} {k : Nat} {o : OLp} {lf : Addr} {xs ys : List V} (h : OAt C H v k o) (hl : H lf = some (.lst xs)) : OAt C (upd H lf (.lst ys)) v k o := by
  cases o with
  | none => exact h
  | some l =>
    obtain ⟨a, e, ⟨dx, ha⟩, r⟩ := h
    refine ⟨a, e, ⟨dx, ?_⟩, r⟩
    rw [upd_ne (ne_of ha hl (by intro z; cases z))]
    exact ha
theorem OAt.mono {C : Addr} {H : Hp} {v : V} {k k' : Nat} {o : OLp} (h : OAt C H v k o) (hk : k ≤ k') : OAt C H v k' o := by
  cases o with
  | none => exact h
  | some l =>
    obtain ⟨a, e, hl, h0, h1, h2, h3⟩ := h
    exact ⟨a, e, hl, h0, h1, h2, Nat.lt_of_lt_of_le h3 (Nat.pow_le_pow_right (by decide) hk)⟩
end

section
variable {P : Program} {w : World} {K : PySem.W.Frag} {mg : Str → Option Value} {base : Heap}
theorem seenO {C : Addr} {H : Hp} {a c : Addr} {l1 l2 : Int × Int} {k1 k2 : Nat} {Q : VK} {E : XK} (hA : OAt C H (.ref a) k1 (some l1)) (hC : OAt C H (.ref c) k2 (some l2)) (n1 : k1 ≤ 8000) (n2 : k2 ≤ 8000)
    (q : ∀ o v H', Same H H' → OAt C H' v k2 o → SeesO l1 (some l2) o → Q v H') : spSeen C [.ref a, .ref c] H Q E := by
  have P1 := hA.pd n1
  have P2 := hC.pd n2
  obtain ⟨a', ea, ha, _, _, _, z1⟩ := hA
  obtain ⟨c', ec, hc, _, _, _, z2⟩ := hC
  injection ea with ea
  injection ec with ec
  subst ea ec
  refine ⟨a, c, l1.1, l1.2, l2.1, l2.2, rfl, ha, hc, P1, P2, fun hn H' s => ?_, fun m z M hg x H' nx s hx => ?_⟩
  · refine q none .non H' s rfl ⟨fun _ h => (nomatch h), fun t => ⟨fun h => h.elim, fun h => ?_⟩⟩
    refine seen_none hn (l1.2 + t * l1.1) ?_ h
    exact ⟨t, by rw [Int.mul_comm]; omega⟩
  · refine q (some (m, z)) (.ref x) H' s ⟨x, rfl, hx, M.q0, M.r0, M.rq, ?_⟩ ⟨?_, M.iff⟩
    · show m.natAbs < _
      rw [M.qe]
      refine Nat.lt_of_le_of_lt ?_ z2
      have := P2.p0
      have g0 := gcd_pos (a := l1.1) (b := l2.1) P1.p0
      have := Int.ediv_le_self (Int.gcd l1.1 l2.1 : Int) (show 0 ≤ l2.1 by omega)
      have := Int.ediv_nonneg (show 0 ≤ l2.1 by omega) (show (0 : Int) ≤ (Int.gcd l1.1 l2.1 : Int) by omega)
      omega
    · rintro l hl
      injection hl with hl
      subst hl
      exact ⟨M.q0, M.r0, M.rq⟩
end

section
variable {P : Program} {w : World} {K : PySem.W.Frag} {mg : Str → Option Value} {base : Heap}
/-- lamps, one behind another -/
def AllL (C : Addr) (H : Hp) (k : Nat) (vs : List V) (ls : List (Int × Int)) : Prop := vs.length = ls.length ∧ ∀ (i : Nat) v l, vs[i]? = some v → ls[i]? = some l → ∃ a, v = .ref a ∧ OAt C H (.ref a) k (some l)
theorem AllL.same {C : Addr} {H H' : Hp} {k : Nat} {vs : List V} {ls : List (Int × Int)} (h : AllL C H k vs ls) (s : Same H H') : AllL C H' k vs ls :=
  ⟨h.1, fun i v l e1 e2 => let ⟨a, e, o⟩ := h.2 i v l e1 e2; ⟨a, e, o.same s⟩⟩
theorem AllL.at {C : Addr} {H : Hp} {k : Nat} {vs : List V} {ls : List (Int × Int)} (h : AllL C H k vs ls) {i : Nat} {v : V} (e : vs[i]? = some v) : ∃ a l, v = .ref a ∧ ls[i]? = some l ∧ OAt C H (.ref a) k (some l) := by
  have hi : i < vs.length := by
    by_cases hh : i < vs.length
    · exact hh
    · rw [List.getElem?_eq_none (by omega)] at e; cases e
  have h2 : i < ls.length := h.1 ▸ hi
  obtain ⟨a, e', o⟩ := h.2 i v ls[i] e (List.getElem?_eq_getElem h2)
  exact ⟨a, ls[i], e', List.getElem?_eq_getElem h2, o⟩
theorem AllL.dr {C : Addr} {H H' : Hp} {k : Nat} {vs : List V} {ls : List (Int × Int)} {s : Addr} {n : Nat} (h : AllL C H k vs ls) (hs : Src H s n) (d : Dr s H H') : AllL C H' k vs ls :=
  ⟨h.1, fun i v l e1 e2 => let ⟨a, e, o⟩ := h.2 i v l e1 e2; ⟨a, e, o.dr hs d⟩⟩
theorem AllL.mut {C : Addr} {H : Hp} {k : Nat} {vs xs ys : List V} {ls : List (Int × Int)} {lf : Addr} (h : AllL C H k vs ls) (hl : H lf = some (.lst xs)) : AllL C (upd H lf (.lst ys)) k vs ls :=
  ⟨h.1, fun i v l e1 e2 => let ⟨a, e, o⟩ := h.2 i v l e1 e2; ⟨a, e, o.mut hl⟩⟩
theorem AllL.more {C : Addr} {H : Hp} {k : Nat} {vs : List V} {ls : List (Int × Int)} {a : Addr} {l : Int × Int} (h : AllL C H k vs ls) (o : OAt C H (.ref a) k (some l)) : AllL C H k (vs ++ [.ref a]) (ls ++ [l]) := by
  refine ⟨by simp [h.1], fun i v l' e1 e2 => ?_⟩
  by_cases hi : i < vs.length
  · rw [List.getElem?_append_left hi] at e1
    rw [List.getElem?_append_left (h.1 ▸ hi)] at e2
    exact h.2 i v l' e1 e2
  · rw [List.getElem?_append_right (by omega)] at e1
    rw [List.getElem?_append_right (by have := h.1; omega), ← h.1] at e2
    have e0 : i - vs.length = 0 := by
      by_cases z : i - vs.length = 0
      · exact z
      · rw [List.getElem?_eq_none (by simp; omega)] at e1; cases e1
    rw [e0] at e1 e2
    cases e1
    cases e2
    exact ⟨a, rfl, o⟩
theorem OAt.ins {C CG g dx : Addr} {H : Hp} {v : V} {k : Nat} {o : OLp} {ob : HO} (h : OAt C H v k o) (hg : H g = some (.ins CG dx [])) : OAt C (upd H g ob) v k o := by
  cases o with
  | none => exact h
  | some l =>
    obtain ⟨a, e, ⟨dx', ha⟩, r⟩ := h
    refine ⟨a, e, ⟨dx', ?_⟩, r⟩
    have ne : a ≠ g := fun z => by
      subst z
      rw [ha] at hg
      injection hg with hg
      injection hg with _ _ hg
      have := lf_period l.1 l.2
      rw [hg] at this
      cases this
    rw [upd_ne ne]
    exact ha
theorem AllL.ins {C CG g dx : Addr} {H : Hp} {k : Nat} {vs : List V} {ls : List (Int × Int)} {ob : HO} (h : AllL C H k vs ls) (hg : H g = some (.ins CG dx [])) : AllL C (upd H g ob) k vs ls :=
  ⟨h.1, fun i v l e1 e2 => let ⟨a, e, o⟩ := h.2 i v l e1 e2; ⟨a, e, o.ins hg⟩⟩
end

section
variable {P : Program} {w : World} {K : PySem.W.Frag} {mg : Str → Option Value} {base : Heap}
theorem get_map {α β : Type} {f : α → β} {xs : List α} {i : Nat} {y : β} (h : (xs.map f)[i]? = some y) : ∃ x, xs[i]? = some x ∧ y = f x := by
  rw [List.getElem?_map] at h
  cases e : xs[i]? with
  | none => rw [e] at h; cases h
  | some x => rw [e] at h; exact ⟨x, rfl, (Option.some.inj h).symm⟩
theorem same_at {H H2 : Hp} {a : Addr} {o : HO} (s : Same H H2) (h : H a = Option.none) : Same H (upd H2 a o) := fun b x e => by
  rw [upd_ne (ne_of_none e h)]
  exact s b x e
theorem back_none {H H' : Hp} {a : Addr} (s : Same H H') (e : H' a = Option.none) : H a = Option.none := by
  cases z : H a with
  | none => rfl
  | some o => rw [s a o z] at e; cases e
end

section
variable {P : Program} {w : World} {K : PySem.W.Frag} {mg : Str → Option Value} {base : Heap}
/-! ### numbered lamps, rows -/
def NumA (C : Addr) (H : Hp) (k : Nat) (ts : List Addr) (ns : List (Int × Int × Int)) : Prop :=
  ts.length = ns.length ∧ ∀ (i : Nat) T x, ts[i]? = some T → ns[i]? = some x → ∃ a, H T = some (.tup [.int x.1, .ref a]) ∧ OAt C H (.ref a) k (some x.2)
theorem NumA.same {C : Addr} {H H' : Hp} {k : Nat} {ts : List Addr} {ns : List (Int × Int × Int)} (h : NumA C H k ts ns) (s : Same H H') : NumA C H' k ts ns :=
  ⟨h.1, fun i T x e1 e2 => let ⟨a, e, o⟩ := h.2 i T x e1 e2; ⟨a, s _ _ e, o.same s⟩⟩
def RowsAt (H0 H : Hp) (R : Addr) (n : Nat) (f : Nat → List Int) : Prop := ∃ as : List Addr, H R = some (.lst (as.map V.ref)) ∧ as.length = n ∧ as.Nodup ∧ R ∉ as ∧ H0 R = none ∧ (∀ a ∈ as, H0 a = none) ∧
  ∀ (j : Nat) a, as[j]? = some a → H a = some (.lst ((f j).map V.int))
theorem RowsAt.more {H H2 : Hp} {D l : Addr} {i : Nat} {f : Nat → List Int} (h : RowsAt H H2 D i f) (s : Same H H2) (hl : H2 l = Option.none) : ∃ as : List Addr, H2 D = some (.lst (as.map V.ref)) ∧ as.length = i ∧
    Same H (upd (upd H2 l (.lst ((f i).map V.int))) D (.lst (as.map V.ref ++ [.ref l]))) ∧ RowsAt H (upd (upd H2 l (.lst ((f i).map V.int))) D (.lst (as.map V.ref ++ [.ref l]))) D (i + 1) f ∧ l ≠ D := by
  obtain ⟨as, hD, len, nd, nD, d0, n0, hr⟩ := h
  have lD : l ≠ D := fun z => by rw [z, hD] at hl; cases hl
  have h0 : H l = Option.none := by
    cases e : H l with
    | none => rfl
    | some o => rw [s l o e] at hl; cases hl
  have la : l ∉ as := fun z => by
    obtain ⟨j, hj⟩ := List.mem_iff_getElem?.mp z
    rw [hr j l hj] at hl
    cases hl
  refine ⟨as, hD, len, same_at (same_at s h0) d0, ⟨as ++ [l], ?_, by rw [List.length_append, len]; rfl, ?_, ?_, d0, ?_, ?_⟩, lD⟩
  · rw [upd_same, List.map_append]
    rfl
  · rw [List.nodup_append]
    exact ⟨nd, by simp, fun a ha b hb e => la (by rw [List.mem_singleton.mp hb] at e; rw [← e]; exact ha)⟩
  · intro hm
    rcases List.mem_append.mp hm with hm | hm
    · exact nD hm
    · exact lD (List.mem_singleton.mp hm).symm
  · intro a ha
    rcases List.mem_append.mp ha with ha | ha
    · exact n0 a ha
    · rw [List.mem_singleton.mp ha]; exact h0
  · intro j a hj
    by_cases hji : j < as.length
    · rw [List.getElem?_append_left hji] at hj
      have ma := List.mem_of_getElem? hj
      rw [upd_ne (fun z => nD (by rw [← z]; exact ma)), upd_ne (fun z => la (by rw [← z]; exact ma))]
      exact hr j a hj
    · have e : j = i := by
        by_cases z : j = as.length
        · omega
        · rw [List.getElem?_eq_none (by rw [List.length_append]; show as.length + 1 ≤ j; omega)] at hj; cases hj
      subst e
      rw [List.getElem?_append_right (by omega), len, Nat.sub_self] at hj
      cases hj
      rw [upd_ne lD, upd_same]
theorem RowsAt.nil {H : Hp} {D : Addr} {f : Nat → List Int} (hD : H D = Option.none) : RowsAt H (upd H D (.lst [])) D 0 f :=
  ⟨[], upd_same, rfl, List.nodup_nil, (fun h => nomatch h), hD, (fun _ h => nomatch h), fun j a h => by cases h⟩
theorem RowsAt.put {H H2 : Hp} {R : Addr} {n j : Nat} {f g : Nat → List Int} {z : Int} (h : RowsAt H H2 R n f) (s : Same H H2) (hj : j < n) (hg : g j = f j ++ [z]) (hn : ∀ x, x ≠ j → g x = f x) : ∃ (as : List Addr) (a : Addr), H2 R = some (.lst (as.map V.ref)) ∧ as[j]? = some a ∧ H2 a = some (.lst ((f j).map V.int)) ∧
    Same H (upd H2 a (.lst ((f j).map V.int ++ [.int z]))) ∧ RowsAt H (upd H2 a (.lst ((f j).map V.int ++ [.int z]))) R n g := by
  obtain ⟨as, hR, len, nd, nR, r0, n0, hr⟩ := h
  have hj' : j < as.length := by omega
  have ej : as[j]? = some as[j] := List.getElem?_eq_getElem hj'
  have mj := List.mem_of_getElem? ej
  refine ⟨as, as[j], hR, ej, hr j _ ej, same_at s (n0 _ mj), as, ?_, len, nd, nR, r0, n0, ?_⟩
  · rw [upd_ne (fun z => nR (by rw [z]; exact mj))]
    exact hR
  · intro x a hx
    by_cases e : x = j
    · subst e
      rw [ej] at hx
      cases hx
      rw [upd_same, hg, List.map_append]
      rfl
    · have hne : a ≠ as[j] := fun q => by
        subst q
        exact e ((List.getElem?_inj (List.getElem?_eq_some_iff.mp hx).1 nd).mp (hx.trans ej.symm))
      rw [upd_ne hne, hn x e]
      exact hr x a hx
theorem RowsAt.same {H0 H H' : Hp} {R : Addr} {n : Nat} {f : Nat → List Int} (h : RowsAt H0 H R n f) (s : Same H H') : RowsAt H0 H' R n f := by
  obtain ⟨as, hR, len, nd, nR, r0, n0, hr⟩ := h
  exact ⟨as, s _ _ hR, len, nd, nR, r0, n0, fun j a e => s _ _ (hr j a e)⟩
theorem RowsAt.ext {H0 H : Hp} {R : Addr} {n : Nat} {f g : Nat → List Int} (h : RowsAt H0 H R n f) (e : ∀ j, j < n → f j = g j) : RowsAt H0 H R n g := by
  obtain ⟨as, hR, len, nd, nR, r0, n0, hr⟩ := h
  refine ⟨as, hR, len, nd, nR, r0, n0, fun j a q => ?_⟩
  rw [← e j (by rw [← len]; exact (List.getElem?_eq_some_iff.mp q).1)]
  exact hr j a q
def spShRows (C : Addr) : Sp := fun vs H Q _ => ∃ (N : Addr) (ts : List Addr) (ns : List (Int × Int × Int)) (t : Int) (n k : Nat), vs = [.ref N, .int t, .int n] ∧ H N = some (.lst (ts.map V.ref)) ∧ NumA C H k ts ns ∧ k ≤ 8000 ∧ ns.length ≤ 1000 ∧ n ≤ 100000 ∧
  ∀ R H', Same H H' → RowsAt H H' R n (fun j => rowOf ns (t + j)) → Q (.ref R) H'
theorem ok_shining_rows (T : Top K mg) : FnOk P w K mg base CX0 4 T.f_shining_rows T.d_shining_rows ["numbered", "begin", "many"] (spShRows T.C_Lamp) := by
  have G_Lamp_next_shine := ok_Lamp_next_shine (P := P) (w := w) (base := base) T
  refine T.F_shining_rows.ok sc_shining_rows (fun vs H Q E h => ?_) (fun cdv A outer s H vs Q E hr h => ?_)
  · obtain ⟨N, ts, ns, t, n, k, rfl, _⟩ := h; rfl
  · obtain ⟨N, ts, ns, t, n, k, rfl, hN, hA, k1, n1, n2, q⟩ := h
    refine ⟨_, (pss_cons (ps_setLc (i := 3) (own := [("offset", 6)]) (g := gName 6) (by rfl) sc_shining_rows.nd rfl rfl (sw_true rfl rfl rfl (by decide +kernel)) (pi_range1 (by rfl) T.n_range (pa_cons (pv 2) pa_nil)) (blkOk_by (own := [("offset", 6)]) (N := ["numbered", "begin", "many", "rows", "number", "lamp", "offset"]) (sc := defScope s_shining_rows) (by decide +kernel)) (fun _ _ _ _ _ => by exact (pg_name (i := 6) sc_shining_rows.nd rfl (Or.inl rfl))) (fun _ _ _ _ _ => by exact (pts_nil)) (fun _ _ _ _ _ => by exact (pe_lst pa_nil)))
      (pss_cons (ps_for PassesOwn.never rfl (pi_list (pv 0)) (pg_tup (by rfl) (pgs_cons (pg_name (i := 4) sc_shining_rows.nd rfl (Or.inl rfl)) (pgs_cons (pg_name (i := 5) sc_shining_rows.nd rfl (Or.inl rfl)) pgs_nil))) (pss_one (ps_for PassesOwn.never rfl (pi_range3W (by rfl) T.n_range (pa_cons (pe_op op_sub (pe_meth (pv 5) T.cl_Lamp T.m_Lamp_next_shine G_Lamp_next_shine (hr.mono (by decide)) T.b_Lamp_next_shine .nil pass0 (pa_cons (pv 1) pa_nil)) (pv 1)) (pa_cons (pv 2) (pa_cons (pe_fld (pv 5) rfl) pa_nil)))) (pg_name (i := 6) sc_shining_rows.nd rfl (Or.inl rfl)) (pss_one (ps_expr (pe_bm PySem.F.plainAttrs_list PySem.F.slot_list_append PySem.F.type_list_append mt_append (pe_ix ix_list (pv 3) (pv 6) (fun _ _ => rfl)) (pa_cons (pv 4) pa_nil)))))))
      (pss_one (ps_ret (pv 3))))), ?_⟩
    -- rows = [[] for offset in range(many)]
    refine ⟨_, rfl, n, rfl, by omega, by omega, fun D hD => lc_range (lo := 0) (n := n) (fun i H' => Same H H' ∧ RowsAt H H' D i (fun _ => [])) ⟨same_new hD, RowsAt.nil hD⟩ ?_ ?_⟩
    · rintro i H2 hi ⟨s2, hr⟩
      refine ⟨rfl, ?_⟩
      refine ⟨(by show 0 ≤ sizeLine; decide), fun l hl => ?_⟩
      obtain ⟨as, hD2, len, s3, r3, lD⟩ := hr.more s2 hl
      refine ⟨as.map V.ref, by rw [upd_ne lD.symm]; exact hD2, ?_, s3, r3⟩
      rw [List.length_map, len]
      exact Nat.lt_of_lt_of_le (show i < 100001 by omega) (by decide)
    rintro H2 ⟨s2, hr2⟩
    have hN2 := s2 _ _ hN
    refine ⟨_, rfl, N, rfl, ⟨_, SqL.of hN2⟩, for_list (K := K) (a := N) (xs := ts.map V.ref) (fun i σ H' => (∃ v4 v5 v6, σ = [some (.ref N), some (.int t), some (.int n), some (.ref D), v4, v5, v6]) ∧ Same H H' ∧ RowsAt H H' D n (fun j => rowOf (ns.take i) (t + j)))
      ⟨⟨_, _, _, rfl⟩, s2, hr2.ext fun j _ => rfl⟩ (fun _ σ H' _ ⟨_, s', _⟩ => SqL.of (s' _ _ hN)) ?_ ?_⟩
    · rintro i x σ H3 hi ⟨⟨v4, v5, v6, rfl⟩, s3, hr3⟩
      obtain ⟨T', hT, rfl⟩ := get_map hi
      obtain ⟨l, hl⟩ : ∃ l, ns[i]? = some l := ⟨_, List.getElem?_eq_getElem (by rw [← hA.1]; exact (List.getElem?_eq_some_iff.mp hT).1)⟩
      obtain ⟨a, e1, o1⟩ := hA.2 i T' l hT hl
      have e3 := s3 _ _ e1
      have o3 := o1.same s3
      obtain ⟨p0, b0, bp⟩ := o3.ok _ rfl
      refine ⟨T', _, rfl, SqT.of e3, rfl, _, _, rfl, _, _, rfl, rfl, ?_⟩
      obtain ⟨m, hm⟩ := range_nat (lo := (l.2.2 - t) % l.2.1) (many := n) p0
      have lg : l.2.1.natAbs.log2 < 9000 := by
        obtain ⟨_, _, _, _, _, _, z⟩ := o1
        exact (Nat.log2_lt (n := l.2.1.natAbs) (k := 9000) (by omega)).mpr (Nat.lt_of_lt_of_le z (Nat.pow_le_pow_right (by decide) (Nat.le_trans k1 (by decide))))
      refine ⟨_, rfl, _, _, _, rfl, o3.lamp.choose_spec, lf_no _ _ (by decide +kernel) (by decide +kernel), _, rfl, a, l.2.1, l.2.2, t, rfl, o3.lamp, p0, _, rfl, _, _, rfl, rfl, _, rfl, _, rfl, _, _, _, _, _, rfl, (o3.lamp).choose_spec, T.cl_Lamp, T.na_Lamp_period, lf_period _ _, ?_⟩
      have e0 : t + (l.2.2 - t) % l.2.1 - t = (l.2.2 - t) % l.2.1 := by omega
      have lo0 : 0 ≤ (l.2.2 - t) % l.2.1 := Int.emod_nonneg _ (by omega)
      refine ⟨_, _, _, m, (by show [V.int (t + (l.2.2 - t) % l.2.1 - t), V.int n, V.int l.2.1] = [V.int ((l.2.2 - t) % l.2.1), V.int n, V.int l.2.1]; rw [e0]), p0, lg, hm, for_rangeC (fun x σ H' => (∃ v6, σ = [some (.ref N), some (.int t), some (.int n), some (.ref D), some (.int l.1), some (.ref a), v6]) ∧ Same H H' ∧
        RowsAt H H' D n (fun j => rowOf (ns.take i) (t + j) ++ if hitB ((l.2.2 - t) % l.2.1) l.2.1 x j then [l.1] else [])) ⟨⟨_, rfl⟩, s3, hr3.ext fun j _ => by rw [hit_zero]; simp⟩ ?_ ?_⟩
      · rintro x σ H4 hx ⟨⟨v6', rfl⟩, s4, hr4⟩
        have hlt := hit_lt p0 hm hx
        have xp : 0 ≤ (x : Int) * l.2.1 := Int.mul_nonneg (by omega) (by omega)
        obtain ⟨o, ho⟩ : ∃ o : Nat, (l.2.2 - t) % l.2.1 + x * l.2.1 = o := ⟨((l.2.2 - t) % l.2.1 + x * l.2.1).toNat, by omega⟩
        obtain ⟨as, b, hR, hb, hb2, s5, r5⟩ := hr4.put (j := o) (z := l.1) (g := fun j => rowOf (ns.take i) (t + j) ++ if hitB ((l.2.2 - t) % l.2.1) l.2.1 (x + 1) j then [l.1] else []) s4 (by omega)
          (by rw [← ho, hit_at p0, hit_new p0]; simp) (fun y hy => by rw [hit_step p0 (by omega)])
        refine ⟨_, rfl, _, rfl, D, _, _, _, rfl, rfl, SqL.of hR, at_of (j := o) ho (show (as.map V.ref)[o]? = some (V.ref b) by rw [List.getElem?_map, hb]; rfl), .inl ⟨rfl, _, SqL.of hb2⟩, _, rfl, b, _, _, rfl, rfl, hb2, ?_, ?_⟩
        · have h1 := rowOf_len (ns.take i) (t + o)
          have h2 := List.length_take_le' i ns
          rw [List.length_map, List.length_append]
          refine Nat.lt_of_lt_of_le (show _ < 1002 by split <;> simp <;> omega) (by decide)
        · exact ⟨⟨_, rfl⟩, s5, r5⟩
      · rintro σ H4 ⟨⟨v6', rfl⟩, s4, hr4⟩
        refine ⟨⟨_, _, _, rfl⟩, s4, hr4.ext fun j hj => ?_⟩
        rw [rowOf_take hl, hit_all p0 hm (by omega) (by omega)]
    · rintro σ H3 ⟨⟨v4, v5, v6, rfl⟩, s3, hr3⟩
      refine ⟨_, rfl, q D H3 s3 ?_⟩
      rw [List.length_map, hA.1, List.take_length] at hr3
      exact hr3
end

section
variable {P : Program} {w : World} {K : PySem.W.Frag} {mg : Str → Option Value} {base : Heap}
/-! ### lights -/
def spCopied (C : Addr) : Sp := fun vs H Q _ => ∃ (L : Addr) (xs : List V) (ls : List (Int × Int)) (k : Nat), vs = [.ref L] ∧ H L = some (.lst xs) ∧ AllL C H k xs ls ∧ ls.length ≤ 1000 ∧
  ∀ p ys H', Same H H' → H p = none → H' p = some (.lst ys) → AllL C H' k ys ls → Q (.ref p) H'
theorem ok_copied (T : Top K mg) : FnOk P w K mg base CX0 4 T.f_copied T.d_copied ["lamps"] (spCopied T.C_Lamp) := by
  have G_Lamp_init := ok_Lamp_init (P := P) (w := w) (base := base) T
  refine T.F_copied.ok sc_copied (fun vs H Q E h => ?_) (fun cdv A outer s H vs Q E hr h => ?_)
  · obtain ⟨L, xs, ls, k, rfl, _⟩ := h; rfl
  · obtain ⟨L, xs, ls, k, rfl, hL, hall, hn, q⟩ := h
    refine ⟨_, (pss_one (ps_ret (pe_lc (own := [("lamp", 1)]) (g := gName 1) (by rfl) sc_copied.nd (pi_list (pv 0)) (blkOk_by (own := [("lamp", 1)]) (N := ["lamps", "lamp"]) (sc := defScope s_copied) (by decide +kernel)) (fun _ _ _ _ _ => by exact (pg_name (i := 1) sc_copied.nd rfl (Or.inl rfl))) (fun _ _ _ _ _ => by exact (pts_nil)) (fun _ _ _ _ _ => by exact (pe_make T.mk_Lamp G_Lamp_init (hr.mono (by decide)) (by rfl) T.gC_Lamp T.b_Lamp_init .nil pass0 (pa_cons (pe_fldB (K := K) rfl (pv 1) rfl) (pa_cons (pe_fldB (K := K) rfl (pv 1) rfl) pa_nil))))))), ?_⟩
    refine ⟨_, rfl, L, rfl, ⟨_, SqL.of hL⟩, fun D hD => lc_list (K := K) (a := L) (xs := xs) (fun i H' => Same H H' ∧ ∃ ys, H' D = some (.lst ys) ∧ AllL T.C_Lamp H' k ys (ls.take i))
      ⟨same_new hD, [], upd_same, rfl, fun i v l h => by cases h⟩ (fun i H' _ ⟨s2, _⟩ => SqL.of (s2 _ _ hL)) (fun i x H' hi ⟨s2, ys, hD', ha'⟩ => ?_) (fun H' ⟨s2, ys, hD', ha'⟩ => ?_)⟩
    · obtain ⟨a, l, rfl, el, ha⟩ := hall.at hi
      have ha2 := ha.same s2
      obtain ⟨p0, b0, bp⟩ := ha2.ok _ rfl
      refine ⟨rfl, ?_⟩
      refine ⟨_, rfl, _, _, _, _, _, rfl, (ha2.lamp).choose_spec, T.cl_Lamp, T.na_Lamp_period, lf_period _ _, _, rfl, _, _, _, _, _, rfl, (ha2.lamp).choose_spec, T.cl_Lamp, T.na_Lamp_beat, lf_beat _ _, ?_⟩
      intro x dx nx ndx nex; refine ⟨x, dx, l.1, l.2, rfl, upd_same, p0, fun H3 hx kx => ⟨rfl, ?_⟩⟩; have sx := Same.made nx ndx kx; clear kx nex ndx
      have s3 := sx
      have hD3 := s3 _ _ hD'
      refine ⟨ys, hD3, ?_, same_at (s2.trans s3) hD, _, upd_same, ?_⟩
      · rw [ha'.1, List.length_take]
        exact Nat.lt_of_lt_of_le (show min i ls.length < 1001 by omega) (by decide)
      · rw [List.take_succ, el]
        refine AllL.more (AllL.mut (ha'.same s3) hD3) (OAt.mut ⟨x, rfl, ?_, p0, b0, bp, ?_⟩ hD3)
        · rw [Int.emod_eq_of_lt b0 bp] at hx
          exact hx
        · obtain ⟨_, _, _, _, _, _, z⟩ := ha
          exact z
    · rw [hall.1, List.take_length] at ha'
      exact q D ys H' s2 hD hD' ha'
def gf (L : Addr) : List (Str × V) := putF "_lamps" (.ref L) []
theorem gf_lamps (L : Addr) : (gf L).lookup ("_lamps" : Str) = some (.ref L) := by
  unfold gf
  rw [lookup_putF, if_pos rfl]
theorem gf_no (L : Addr) {m : Str} (h1 : ¬ m = "_lamps") : (gf L).lookup m = none := by
  unfold gf
  rw [lookup_putF, if_neg h1]
  rfl
/-- a Light of these lamps stands at g -/
def LightAt (C CG : Addr) (H : Hp) (g : Addr) (k : Nat) (ls : List (Int × Int)) : Prop := ∃ dx L xs, H g = some (.ins CG dx (gf L)) ∧ H L = some (.lst xs) ∧ AllL C H k xs ls
theorem LightAt.same {C CG : Addr} {H H' : Hp} {g : Addr} {k : Nat} {ls : List (Int × Int)} (h : LightAt C CG H g k ls) (s : Same H H') : LightAt C CG H' g k ls :=
  let ⟨dx, L, xs, e1, e2, e3⟩ := h; ⟨dx, L, xs, s _ _ e1, s _ _ e2, e3.same s⟩
def spLightInit (C CG : Addr) : Sp := fun vs H Q _ => ∃ (g dx L : Addr) (xs : List V) (ls : List (Int × Int)) (k : Nat), vs = [.ref g, .ref L] ∧ H g = some (.ins CG dx []) ∧ H L = some (.lst xs) ∧ AllL C H k xs ls ∧ ls.length ≤ 10 ∧
  ∀ H', LightAt C CG H' g k ls → (∀ c o, H c = some o → c ≠ g → H' c = some o) → Q .non H'
theorem ok_Light_init (T : Top K mg) : FnOk P w K mg base CX0 5 T.f_Light_init T.d_Light_init ["self", "lamps"] (spLightInit T.C_Lamp T.C_Light) := by
  have G_copied := ok_copied (P := P) (w := w) (base := base) T
  refine T.F_Light_init.ok sc_Light_init (fun vs H Q E h => ?_) (fun cdv A outer s H vs Q E hr h => ?_)
  · obtain ⟨g, dx, L, xs, ls, k, rfl, _⟩ := h; rfl
  · obtain ⟨g, dx, L, xs, ls, k, rfl, hg, hL, hall, hn, q⟩ := h
    refine ⟨_, (pss_cons (ps_if (PW.pt (pw_or (pt_not (pt_val (pe_callB call_isiT (by rfl) T.n_isinstance (by decide +kernel) (pa_cons (pv 1) (pa_cons (pe_tup (pa_cons (pe_bltn (v := .ty "list") (by rfl) T.n_list (by decide +kernel) rfl) (pa_cons (pe_bltn (v := .ty "tuple") (by rfl) T.n_tuple (by decide +kernel) rfl) pa_nil))) pa_nil))))) (pw_or1 (pt_cmpR op_gt (pe_callB call_len_seq (by rfl) T.n_len (by decide +kernel) (pa_cons (pv 1) pa_nil)) (pe_glob (v := .int 10) rfl T.c_MOST_LAMPS ⟨_, rfl⟩) (nomark _))))) (pss_one (ps_never)) pss_nil)
      (pss_cons (ps_if (pt_not (pt_val (pe_callB (cr_all rfl) (by rfl) T.n_all (by decide +kernel) (pa_cons (pe_lc (own := [("lamp", 2)]) (g := gName 2) (by rfl) sc_Light_init.nd (pi_list (pv 1)) (blkOk_by (own := [("lamp", 2)]) (N := ["self", "lamps", "lamp"]) (sc := defScope s_Light_init) (by decide +kernel)) (fun _ _ _ _ _ => by exact (pg_name (i := 2) sc_Light_init.nd rfl (Or.inl rfl))) (fun _ _ _ _ _ => by exact (pts_nil)) (fun _ _ _ _ _ => by exact (pe_callB (call_isiB (K := K) rfl) (by rfl) T.n_isinstance (by decide +kernel) (pa_cons (pv 2) (pa_cons (pe_glob (v := .ref T.C_Lamp) rfl T.gC_Lamp rfl) pa_nil))))) pa_nil)))) (pss_one (ps_never)) pss_nil)
      (pss_one (ps_fld (pv 0) (pe_call G_copied (hr.mono (by decide)) rfl T.g_copied T.F_copied.kp T.b_copied .nil pass0 (pa_cons (pv 1) pa_nil)) rfl)))), ?_⟩
    refine ⟨_, rfl, (by show 2 ≤ sizeLine; decide), fun tp htp => ?_⟩
    have s0 := same_new (o := .tup [.ty "list", .ty "tuple"]) htp
    refine ⟨_, tp, [.ty "list", .ty "tuple"], _, [.type "list", .type "tuple"], true, rfl, upd_same, .cons (.ty _) (.cons (.ty _) .nil), .base (.lst (s0 _ _ hL)), ?_, true, rfl, ?_⟩
    · unfold PySem.W.kitAny PySem.W.kitOne
      rw [if_pos (by decide)]
    refine ⟨_, rfl, L, xs, rfl, .inl (SqL.of (s0 _ _ hL)), _, _, rfl, rfl, _, rfl, ?_⟩
    show if decide (10 < (xs.length : Int)) = true then _ else _
    refine ite2 (fun c => absurd (of_decide_eq_true c) (by rw [hall.1]; omega)) fun _ => ?_
    have hL1 := s0 _ _ hL
    have hall1 := hall.same s0
    have hg1 := s0 _ _ hg
    generalize upd H tp (.tup [.ty "list", .ty "tuple"]) = H1 at *
    refine ⟨_, rfl, L, rfl, ⟨_, SqL.of hL1⟩, fun D hD => lc_list (K := K) (a := L) (xs := xs) (fun i H' => Same H1 H' ∧ H' D = some (.lst ((List.replicate i true).map V.bl)))
      ⟨same_new hD, upd_same⟩ (fun i H' _ ⟨s2, _⟩ => SqL.of (s2 _ _ hL1)) (fun i x H' hi ⟨s2, hD'⟩ => ?_) (fun H' ⟨s2, hD'⟩ => ?_)⟩
    · obtain ⟨a, l, rfl, el, ha⟩ := hall1.at hi
      have ha2 := (ha.same s2).lamp
      refine ⟨rfl, ?_⟩
      refine ⟨_, rfl, _, _, _, _, true, rfl, .own _, T.kl_Lamp.ty ha2.choose_spec, (by unfold PySem.W.kitOne; rw [if_pos (by simp)]), _, hD', ?_, ?_, ?_⟩
      · have hlt : i < xs.length := by
          by_cases hh : i < xs.length
          · exact hh
          · rw [List.getElem?_eq_none (by omega)] at hi; cases hi
        rw [List.length_map, List.length_replicate]
        exact Nat.lt_of_lt_of_le (show i < 11 by rw [hall1.1] at hlt; omega) (by decide)
      · exact same_at s2 hD
      · rw [upd_same, List.replicate_succ', List.map_append]
        rfl
    · refine ⟨D, _, rfl, SqL.of hD', ?_⟩
      rw [show (List.replicate xs.length true).all id = true by rw [List.all_eq_true]; intro x hx; exact (List.mem_replicate.mp hx).2]
      refine ⟨_, rfl, iteF ?_⟩
      have hL2 := s2 _ _ hL1
      have hall2 := hall1.same s2
      have hg2 := s2 _ _ hg1
      refine ⟨_, rfl, L, xs, ls, k, rfl, hL2, hall2, by omega, fun p ys H3 s3 hp hl ha => ?_⟩
      have hg3 := s3 _ _ hg2
      refine ⟨_, rfl, g, T.C_Light, dx, [], rfl, hg3, T.cl_Light, T.na_Light__lamps, (by show 0 < 1000; decide), ?_⟩
      refine q _ ⟨dx, p, ys, upd_same, ?_, ha.ins hg3⟩ fun c o e hc => ?_
      · rw [upd_ne (ne_of hl hg3 (by intro z; cases z))]
        exact hl
      · rw [upd_ne hc]
        exact s3 _ _ (s2 _ _ (s0 _ _ e))
end
section
variable {P : Program} {w : World} {K : PySem.W.Frag} {mg : Str → Option Value} {base : Heap}
/-- Light(list): the argument's reading ends in this -/
theorem make_light {C CG : Addr} {L : Addr} {xs : List V} {ls : List (Int × Int)} {k : Nat} {vs : List V} {H : Hp} {Q : VK} {E : XK} (hv : vs = [.ref L]) (hL : H L = some (.lst xs)) (hall : AllL C H k xs ls) (hn : ls.length ≤ 10)
    (q : ∀ g H', H g = none → Same H H' → LightAt C CG H' g k ls → Q (.ref g) H') :
    ∀ x dx, H x = none → H dx = none → dx ≠ x → spLightInit C CG (.ref x :: (vs ++ [])) (upd (upd H dx (.own x)) x (.ins CG dx [])) (fun v H2 => v = .non ∧ Q (.ref x) H2) E := by
  intro x dx nx nd ne
  have s1 : Same H (upd (upd H dx (.own x)) x (.ins CG dx [])) := fun b o e => by
    rw [upd_ne (ne_of_none e nx), upd_ne (ne_of_none e nd)]
    exact e
  subst hv
  exact ⟨x, dx, L, xs, ls, k, rfl, upd_same, s1 _ _ hL, hall.same s1, hn, fun H' h kk => ⟨rfl, q x H' nx (Same.made nx nd kk) h⟩⟩
def spLamps0 (C CG : Addr) : Sp := fun vs H Q _ => ∃ (g : Addr) (k : Nat) (ls : List (Int × Int)), vs = [.ref g] ∧ LightAt C CG H g k ls ∧ ls.length ≤ 10 ∧
  ∀ p ys H', Same H H' → H p = none → H' p = some (.lst ys) → AllL C H' k ys ls → Q (.ref p) H'
theorem ok_Light_lamps (T : Top K mg) : FnOk P w K mg base CX0 5 T.f_Light_lamps T.d_Light_lamps ["self"] (spLamps0 T.C_Lamp T.C_Light) := by
  have G_copied := ok_copied (P := P) (w := w) (base := base) T
  refine T.F_Light_lamps.ok sc_Light_lamps (fun vs H Q E h => ?_) (fun cdv A outer s H vs Q E hr h => ?_)
  · obtain ⟨g, k, ls, rfl, _⟩ := h; rfl
  · obtain ⟨g, k, ls, rfl, ⟨dx, L, xs, hg, hL, hall⟩, hn, q⟩ := h
    refine ⟨_, (pss_one (ps_ret (pe_call G_copied (hr.mono (by decide)) rfl T.g_copied T.F_copied.kp T.b_copied .nil pass0 (pa_cons (pe_fld (pv 0) rfl) pa_nil)))), ?_⟩
    refine ⟨_, rfl, g, T.C_Light, dx, _, _, rfl, hg, T.cl_Light, T.na_Light__lamps, gf_lamps _, ?_⟩
    exact ⟨L, xs, ls, k, rfl, hL, hall, by omega, q⟩
end

section
variable {P : Program} {w : World} {K : PySem.W.Frag} {mg : Str → Option Value} {base : Heap}
def spWait (C CG : Addr) : Sp := fun vs H Q _ => ∃ (g : Addr) (k : Nat) (ls : List (Int × Int)), vs = [.ref g] ∧ LightAt C CG H g k ls ∧ ls.length ≤ 1000 ∧ Q (.int (2 ^ ls.length)) H
theorem ok_Light_wait (T : Top K mg) : FnOk P w K mg base CX0 1 T.f_Light_wait T.d_Light_wait ["self"] (spWait T.C_Lamp T.C_Light) := by
  refine T.F_Light_wait.ok sc_Light_wait (fun vs H Q E h => ?_) (fun cdv A outer s H vs Q E hr h => ?_)
  · obtain ⟨g, k, ls, rfl, _⟩ := h; rfl
  · obtain ⟨g, k, ls, rfl, ⟨dx, L, xs, hg, hL, hall⟩, hn, q⟩ := h
    refine ⟨_, (pss_one (ps_ret (pe_op op_oneShl pe_int (pe_callB call_len_seq (by rfl) T.n_len (by decide +kernel) (pa_cons (pe_fld (pv 0) rfl) pa_nil))))), ?_⟩
    refine ⟨_, rfl, g, T.C_Light, dx, _, _, rfl, hg, T.cl_Light, T.na_Light__lamps, gf_lamps _, L, xs, rfl, .inl (SqL.of hL), xs.length, rfl, rfl, by rw [hall.1]; omega, ?_⟩
    rw [hall.1]
    exact q
end

section
variable {P : Program} {w : World} {K : PySem.W.Frag} {mg : Str → Option Value} {base : Heap}
theorem num_of {C : Addr} {H : Hp} {k : Nat} {ts : List Addr} {ys : List V} {ls : List (Int × Int)} (hall : AllL C H k ys ls) (pr : Paired (fun (t : Addr) (q : Key × V) => H t = some (.tup [kV q.1, q.2])) ts (enuL 0 ys)) : NumA C H k ts (numF 0 ls) := by
  have len := Paired.length pr
  rw [enuL_len] at len
  refine ⟨by rw [len, numF_len, hall.1], fun i T x e1 e2 => ?_⟩
  obtain ⟨q, g1, g2⟩ := L2.paired_get pr e1
  have hi : i < ys.length := by rw [← len]; exact (List.getElem?_eq_some_iff.mp e1).1
  have ey := List.getElem?_eq_getElem hi
  have g3 := enuL_get ys 0 i _ ey
  rw [g1] at g3
  injection g3 with g3
  subst g3
  rw [numF_get] at e2
  obtain ⟨a, l, ea, el, ho⟩ := hall.at ey
  rw [el] at e2
  cases e2
  refine ⟨a, ?_, ho⟩
  rw [g2, ea]
  show some (HO.tup [V.int ((0 + i : Nat) : Int), V.ref a]) = some (HO.tup [V.int (0 + (i : Int)), V.ref a])
  rw [show ((0 + i : Nat) : Int) = 0 + (i : Int) by omega]
/-- rows to be read -/
def RowsR (H : Hp) (R : Addr) (n : Nat) (f : Nat → List Int) : Prop := ∃ as : List Addr, H R = some (.lst (as.map V.ref)) ∧ as.length = n ∧ ∀ (j : Nat) a, as[j]? = some a → H a = some (.lst ((f j).map V.int))
theorem RowsAt.r {H0 H : Hp} {R : Addr} {n : Nat} {f : Nat → List Int} (h : RowsAt H0 H R n f) : RowsR H R n f := let ⟨as, a, b, _, _, _, _, c⟩ := h; ⟨as, a, b, c⟩
theorem RowsR.same {H H' : Hp} {R : Addr} {n : Nat} {f : Nat → List Int} (h : RowsR H R n f) (s : Same H H') : RowsR H' R n f := let ⟨as, a, b, c⟩ := h; ⟨as, s _ _ a, b, fun j x e => s _ _ (c j x e)⟩
def emptyL (n : Nat) (f : Nat → List Int) : List Nat := (List.range n).filter fun j => decide (f j = [])
def spEmpty : Sp := fun vs H Q _ => ∃ (R : Addr) (n : Nat) (f : Nat → List Int), vs = [.ref R] ∧ RowsR H R n f ∧ n ≤ 100000 ∧ ∀ p H', Same H H' → H p = none → H' p = some (.lst ((emptyL n f).map fun j => V.int (j : Nat))) → Q (.ref p) H'
theorem ok_empty_places (T : Top K mg) : FnOk P w K mg base CX0 1 T.f_empty_places T.d_empty_places ["rows"] spEmpty := by
  refine T.F_empty_places.ok sc_empty_places (fun vs H Q E h => ?_) (fun cdv A outer s H vs Q E hr h => ?_)
  · obtain ⟨R, n, f, rfl, _⟩ := h; rfl
  · obtain ⟨R, n, f, rfl, ⟨as, hR, len, hr⟩, hn, q⟩ := h
    refine ⟨_, (pss_one (ps_ret (pe_lc (own := [("place", 1), ("row", 2)]) (g := gTup K 2 (gCons (gName 1) (gCons (gName 2) gNil))) (tt := _) (by rfl) sc_empty_places.nd (pi_enum (by rfl) T.n_enumerate (pa_cons (pv 0) pa_nil)) (blkOk_by (own := [("place", 1), ("row", 2)]) (N := ["rows", "place", "row"]) (sc := defScope s_empty_places) (by decide +kernel)) (fun _ _ _ _ _ => by exact (pg_tupB (K := K) rfl (by rfl) (pgs_cons (pg_name (i := 1) sc_empty_places.nd rfl (Or.inl rfl)) (pgs_cons (pg_name (i := 2) sc_empty_places.nd rfl (Or.inl rfl)) pgs_nil)))) (fun _ _ _ _ _ => by exact (pts_one (pt_not (pt_truthB (K := K) rfl (pv 2) (by intro _; rfl))))) (fun _ _ _ _ _ => by exact ((pv 1)))))), ?_⟩
    refine ⟨_, rfl, R, as.map V.ref, rfl, SqL.of hR, fun D hD => lc_it (walk_enum (K := K) (a := R) (xs := as.map V.ref)) (fun i H' => Same H H' ∧ H' D = some (.lst ((emptyL i f).map fun j => V.int (j : Nat)))) ⟨same_new hD, upd_same⟩ (fun i H' _ ⟨s2, _⟩ => SqL.of (s2 _ _ hR)) ?_ ?_⟩
    · rintro i x H2 H3 hi ⟨s2, hD2⟩ ⟨T', x1, x2, rfl, hT, rfl, e1, e2⟩
      cases e1
      obtain ⟨a, ea, rfl⟩ := get_map e2
      have s3 : Same H (upd H2 T' (.tup [.int (i : Nat), .ref a])) := fun b o e => by
        rw [upd_ne (ne_of_none (s2 _ _ e) hT)]
        exact s2 _ _ e
      refine ⟨T', _, rfl, SqT.of upd_same, rfl, _, _, rfl, _, _, rfl, rfl, rfl, ?_⟩
      have hD3 : upd H2 T' (.tup [.int (i : Nat), .ref a]) D = some (.lst ((emptyL i f).map fun j => V.int (j : Nat))) := by rw [upd_ne (ne_of_none hD2 hT)]; exact hD2
      have hb := s3 _ _ (hr i a ea)
      generalize upd H2 T' (.tup [.int (i : Nat), .ref a]) = H3 at *
      refine ⟨_, rfl, !((f i).map V.int).isEmpty, .inl ⟨_, SqL.of hb, rfl⟩, ?_⟩
      have hlt : i < n := by rw [List.length_map] at hi; omega
      cases e : f i with
      | nil =>
        refine ⟨_, rfl, _, hD3, ?_, same_at s3 hD, ?_⟩
        · rw [List.length_map]
          have h1 := List.length_filter_le (fun j => decide (f j = [])) (List.range i)
          rw [List.length_range] at h1
          exact Nat.lt_of_lt_of_le (show (emptyL i f).length < 100001 by unfold emptyL; omega) (by decide)
        · rw [upd_same]
          unfold emptyL
          rw [List.range_succ, List.filter_append, List.map_append]
          simp [e]
      | cons z r =>
        refine ⟨s3, ?_⟩
        rw [hD3]
        unfold emptyL
        rw [List.range_succ, List.filter_append, List.map_append]
        simp [e]
    · rintro H2 ⟨s2, hD2⟩
      rw [List.length_map, len] at hD2
      exact q D H2 s2 hD hD2
def spLeast : Sp := fun vs H Q _ => ∃ (R : Addr) (n : Nat) (f : Nat → List Int), vs = [.ref R] ∧ RowsR H R n f ∧ n ≤ 100000 ∧ (∀ j, j < n → f j ≠ []) ∧
  ∀ p H', Same H H' → H p = none → H' p = some (.lst (((List.range n).map fun j => (f j).headD 0).map V.int)) → Q (.ref p) H'
theorem ok_least_paper (T : Top K mg) : FnOk P w K mg base CX0 1 T.f_least_paper T.d_least_paper ["rows"] spLeast := by
  refine T.F_least_paper.ok sc_least_paper (fun vs H Q E h => ?_) (fun cdv A outer s H vs Q E hr h => ?_)
  · obtain ⟨R, n, f, rfl, _⟩ := h; rfl
  · obtain ⟨R, n, f, rfl, ⟨as, hR, len, hr⟩, hn, hf, q⟩ := h
    refine ⟨_, (pss_one (ps_ret (pe_lc (own := [("row", 1)]) (g := gName 1) (by rfl) sc_least_paper.nd (pi_list (pv 0)) (blkOk_by (own := [("row", 1)]) (N := ["rows", "row"]) (sc := defScope s_least_paper) (by decide +kernel)) (fun _ _ _ _ _ => by exact (pg_name (i := 1) sc_least_paper.nd rfl (Or.inl rfl))) (fun _ _ _ _ _ => by exact (pts_nil)) (fun _ _ _ _ _ => by exact (pe_ix (ix_listB (K := K) rfl) (pv 1) pe_int (fun _ _ => rfl)))))), ?_⟩
    refine ⟨_, rfl, R, rfl, ⟨_, SqL.of hR⟩, fun D hD => lc_list (K := K) (a := R) (xs := as.map V.ref) (fun i H' => Same H H' ∧ H' D = some (.lst (((List.range i).map fun j => (f j).headD 0).map V.int)))
      ⟨same_new hD, upd_same⟩ (fun i H' _ ⟨s2, _⟩ => SqL.of (s2 _ _ hR)) (fun i x H' hi ⟨s2, hD'⟩ => ?_) (fun H' ⟨s2, hD'⟩ => ?_)⟩
    · obtain ⟨a, ea, rfl⟩ := get_map hi
      have hb := s2 _ _ (hr i a ea)
      have hlt : i < n := by rw [← len]; exact (List.getElem?_eq_some_iff.mp ea).1
      have e := hf i hlt
      obtain ⟨z, r, hz⟩ := List.exists_cons_of_ne_nil e
      refine ⟨rfl, ?_⟩
      refine ⟨_, rfl, a, _, _, _, rfl, rfl, SqL.of hb, at_of (j := 0) rfl (show ((f i).map V.int)[0]? = some (V.int z) by rw [hz]; rfl), _, hD', ?_, same_at s2 hD, ?_⟩
      · rw [List.length_map, List.length_map, List.length_range]
        exact Nat.lt_of_lt_of_le (show i < 100001 by omega) (by decide)
      · rw [upd_same, List.range_succ, List.map_append, List.map_append]
        simp [hz]
    · rw [List.length_map, len] at hD'
      exact q D H' s2 hD hD'
end

section
variable {P : Program} {w : World} {K : PySem.W.Frag} {mg : Str → Option Value} {base : Heap}
/-! ### lists of pairs -/
abbrev PZ := List (Addr × (Int × Int))
def prs (zs : PZ) : List (Int × Int) := zs.map fun z => z.2
/-- pairs as they stand in a heap -/
def TupZ (H : Hp) (zs : PZ) : Prop := ∀ z ∈ zs, H z.1 = some (.tup [.int z.2.1, .int z.2.2])
def refsZ (zs : PZ) : List V := zs.map fun z => V.ref z.1
def PairsA (H : Hp) (L : Addr) (zs : PZ) : Prop := H L = some (.lst (refsZ zs)) ∧ TupZ H zs
def OkZ (zs : PZ) : Prop := ∀ z ∈ zs, 0 < z.2.1 ∧ z.2.1 < 2 ^ 250
theorem TupZ.same {H H' : Hp} {zs : PZ} (h : TupZ H zs) (s : Same H H') : TupZ H' zs := fun z hz => s _ _ (h z hz)
theorem PairsA.same {H H' : Hp} {L : Addr} {zs : PZ} (h : PairsA H L zs) (s : Same H H') : PairsA H' L zs := ⟨s _ _ h.1, h.2.same s⟩
theorem TupZ.dr {H H' : Hp} {s : Addr} {n : Nat} {zs : PZ} (h : TupZ H zs) (hs : Src H s n) (d : Dr s H H') : TupZ H' zs := fun z hz => d _ _ (h z hz) fun e => by
  obtain ⟨_, _, _, h1, _⟩ := hs
  have := h z hz
  rw [e, h1] at this
  cases this
theorem refs_ne {H : Hp} {s L : Addr} {n : Nat} {zs : PZ} (hs : Src H s n) (h : H L = some (.lst (refsZ zs))) : L ≠ s := fun e => by
  obtain ⟨_, _, _, h1, _⟩ := hs
  rw [e, h1] at h
  cases zs with
  | nil => cases h
  | cons z zs => cases h
theorem PairsA.dr {H H' : Hp} {s L : Addr} {n : Nat} {zs : PZ} (h : PairsA H L zs) (hs : Src H s n) (d : Dr s H H') : PairsA H' L zs := ⟨d _ _ h.1 (refs_ne hs h.1), h.2.dr hs d⟩
theorem TupZ.mut {H : Hp} {l : Addr} {xs : List V} {o : HO} {zs : PZ} (h : TupZ H zs) (hl : H l = some (.lst xs)) : TupZ (upd H l o) zs := fun z hz => by
  rw [upd_ne (ne_of (h z hz) hl (by intro e; cases e))]
  exact h z hz
theorem TupZ.app {H : Hp} {zs ys : PZ} (h : TupZ H zs) (h2 : TupZ H ys) : TupZ H (zs ++ ys) := fun z hz => (List.mem_append.mp hz).elim (h z) (h2 z)
theorem OkZ.app {zs ys : PZ} (h : OkZ zs) (h2 : OkZ ys) : OkZ (zs ++ ys) := fun z hz => (List.mem_append.mp hz).elim (h z) (h2 z)
theorem OkZ.perm {zs ys : PZ} (h : OkZ zs) (p : ys.Perm zs) : OkZ ys := fun z hz => h z (p.mem_iff.mp hz)
def dPairs (zs : PZ) : PyData := .list (zs.map fun z => .tuple [.int z.2.1, .int z.2.2])
theorem okD_pairs (zs : PZ) : OkD 2 (dPairs zs) := okD_list fun d hd => by
  obtain ⟨z, _, rfl⟩ := List.mem_map.mp hd
  refine okD_tup fun x hx => ?_
  simp only [List.mem_cons, List.not_mem_nil, or_false] at hx
  rcases hx with rfl | rfl
  · exact okD_int _
  · exact okD_int _
theorem dp_pairs {H : Hp} {L : Addr} {zs : PZ} (h : PairsA H L zs) : Dp K H (.ref L) (dPairs zs) := by
  refine .lst (SqL.of h.1) ?_
  have h2 := h.2
  clear h
  induction zs with
  | nil => exact .nil
  | cons z zs ih => exact .cons (.tup (SqT.of (h2 z (.head _))) (.cons (.int _) (.cons (.int _) .nil))) (ih fun y hy => h2 y (.tail _ hy))
theorem eqv_pairs_nil (zs : PZ) : PyData.eqv (dPairs zs) (.list []) = zs.isEmpty := by
  cases zs with
  | nil => unfold dPairs PyData.eqv PyData.eqvAll; rfl
  | cons z zs => unfold dPairs PyData.eqv PyData.eqvAll; rfl
end

section
variable {P : Program} {w : World} {K : PySem.W.Frag} {mg : Str → Option Value} {base : Heap}
theorem cut_head {xs : List V} {z : Int} (h : 0 ≤ z) : cutV xs none (some z) = xs.take z.toNat := by
  unfold cutV
  have e1 : HT.sIx xs.length 0 none = 0 := by unfold HT.sIx; rfl
  have e2 : HT.sIx xs.length xs.length (some z) = min z.toNat xs.length := by unfold HT.sIx; simp; omega
  rw [e1, e2, List.drop_zero, Nat.sub_zero, ← List.take_eq_take_min]
theorem cut_from {xs : List V} {z : Int} (h : 0 ≤ z) : cutV xs (some z) none = xs.drop z.toNat := by
  unfold cutV
  have e1 : HT.sIx xs.length 0 (some z) = min z.toNat xs.length := by unfold HT.sIx; simp; omega
  have e2 : HT.sIx xs.length xs.length none = xs.length := by unfold HT.sIx; simp
  rw [e1, e2]
  by_cases hh : z.toNat ≤ xs.length
  · rw [Nat.min_eq_left hh]
    exact List.take_of_length_le (by rw [List.length_drop]; exact Nat.le_refl _)
  · rw [Nat.min_eq_right (by omega), List.drop_eq_nil_of_le (Nat.le_refl _), List.drop_eq_nil_of_le (by omega), List.take_nil]
theorem refsZ_app (xs ys : PZ) : refsZ xs ++ refsZ ys = refsZ (xs ++ ys) := by unfold refsZ; rw [List.map_append]
theorem refsZ_take (xs : PZ) (n : Nat) : (refsZ xs).take n = refsZ (xs.take n) := by unfold refsZ; rw [List.map_take]
theorem refsZ_len (xs : PZ) : (refsZ xs).length = xs.length := by unfold refsZ; rw [List.length_map]
theorem prs_len (xs : PZ) : (prs xs).length = xs.length := by unfold prs; rw [List.length_map]
theorem refsZ_drop (xs : PZ) (n : Nat) : (refsZ xs).drop n = refsZ (xs.drop n) := by unfold refsZ; rw [List.map_drop]
/-- a list of pairs being made out of another one -/
def CompZ (H0 : Hp) (D : Addr) (zs : PZ) (f : Int × Int → Int) (i : Nat) (H' : Hp) : Prop := Same H0 H' ∧ ∃ ws : PZ, H' D = some (.lst (refsZ ws)) ∧ TupZ H' ws ∧ ws.length = i ∧ OkZ ws ∧ prs ws = ((prs zs).take i).map fun l => (l.1, f l)
theorem CompZ.start {H0 : Hp} {D : Addr} {zs : PZ} {f : Int × Int → Int} (hD : H0 D = Option.none) : CompZ H0 D zs f 0 (upd H0 D (.lst [])) :=
  ⟨same_new hD, [], upd_same, (fun _ h => by cases h), rfl, (fun _ h => by cases h), rfl⟩
theorem CompZ.step {H0 H2 : Hp} {D T : Addr} {zs : PZ} {f : Int × Int → Int} {i : Nat} {z : Addr × (Int × Int)} {a b : Int} (h : CompZ H0 D zs f i H2) (hD : H0 D = Option.none) (hz : zs[i]? = some z) (ok : OkZ zs) (hT : H2 T = Option.none) (hi : zs.length ≤ 1000) (ea : a = z.2.1) (eb : b = f z.2) :
    ∃ acc, upd H2 T (.tup [.int a, .int b]) D = some (.lst acc) ∧ acc.length < sizeLine ∧ CompZ H0 D zs f (i + 1) (upd (upd H2 T (.tup [.int a, .int b])) D (.lst (acc ++ [.ref T]))) := by
  subst ea eb
  obtain ⟨s2, ws, h1, h2, h3, h4, h5⟩ := h
  have hlt : i < zs.length := (List.getElem?_eq_some_iff.mp hz).1
  have sT : Same H2 (upd H2 T (.tup [.int z.2.1, .int (f z.2)])) := same_new hT
  have hD2 := sT _ _ h1
  refine ⟨refsZ ws, hD2, ?_, same_at (s2.trans sT) hD, ws ++ [(T, (z.2.1, f z.2))], ?_, ?_, ?_, ?_, ?_⟩
  · rw [refsZ_len, h3]
    exact Nat.lt_of_lt_of_le (show i < 1001 by omega) (by decide)
  · rw [upd_same, ← refsZ_app]
    rfl
  · refine TupZ.mut (TupZ.app (h2.same sT) fun y hy => ?_) hD2
    rw [List.mem_singleton.mp hy]
    exact upd_same
  · rw [List.length_append, h3]
    rfl
  · refine h4.app fun y hy => ?_
    rw [List.mem_singleton.mp hy]
    exact ok z (List.mem_of_getElem? hz)
  · have e : (prs zs)[i]? = some z.2 := by unfold prs; rw [List.getElem?_map, hz]; rfl
    rw [List.take_succ, e, List.map_append, ← h5]
    unfold prs
    rw [List.map_append]
    rfl
theorem LightAt.dr {C CG : Addr} {H H' : Hp} {g s : Addr} {k n : Nat} {ls : List (Int × Int)} (h : LightAt C CG H g k ls) (hs : Src H s n) (d : Dr s H H') : LightAt C CG H' g k ls := by
  obtain ⟨dx, L, xs, h1, h2, h3⟩ := h
  have hs' := hs
  obtain ⟨u, v, w, hs1, _⟩ := hs'
  refine ⟨dx, L, xs, d _ _ h1 (fun e => ?_), d _ _ h2 (fun e => ?_), h3.dr hs d⟩
  · rw [e, hs1] at h1
    cases h1
  · rw [e, hs1] at h2
    cases h2
    obtain ⟨a, l, e, _⟩ := h3.at (i := 0) rfl
    cases e
theorem LightAt.pos {C CG : Addr} {H : Hp} {g : Addr} {k : Nat} {ls : List (Int × Int)} (h : LightAt C CG H g k ls) : ∀ x ∈ ls, 0 < x.1 := fun x hx => by
  obtain ⟨dx, L, xs, _, _, hall⟩ := h
  obtain ⟨i, hi, e⟩ := List.getElem_of_mem hx
  obtain ⟨a, _, o⟩ := hall.2 i _ x (List.getElem?_eq_getElem (show i < xs.length by rw [hall.1]; exact hi)) (by rw [List.getElem?_eq_getElem hi, e])
  exact (o.ok _ rfl).1
end

section
variable {P : Program} {w : World} {K : PySem.W.Frag} {mg : Str → Option Value} {base : Heap}
theorem mw4 {i j : Int} (h1 : -(2 ^ 400) < i) (h2 : i < 2 ^ 400) (h3 : -(2 ^ 400) < j) (h4 : j < 2 ^ 400) : CMulW i j :=
  wide_mul (a := 400) (b := 400) (by omega) (by omega) (by decide) (by decide) (by decide)
theorem lt400 {x : Int} {k : Nat} (h : x.natAbs < 2 ^ k) (hk : k ≤ 400) : -(2 ^ 400) < x ∧ x < 2 ^ 400 := by
  have h2 : (2 : Nat) ^ k ≤ 2 ^ 400 := Nat.pow_le_pow_right (by decide) hk
  have e : ((2 ^ 400 : Nat) : Int) = 2 ^ 400 := by norm_cast
  generalize (2 : Nat) ^ 400 = N at *
  rw [← e]
  omega
end

section
variable {P : Program} {w : World} {K : PySem.W.Frag} {mg : Str → Option Value} {base : Heap}
/-! ### rows seen from a lamp's own beats -/
/-- numbers with what is seen of their lamps -/
def SeenA (C : Addr) (H : Hp) (k : Nat) (l : Int × Int) (us : List Addr) (ns : List (Int × Int × Int)) : Prop :=
  us.length = ns.length ∧ ∀ (i : Nat) T x, us[i]? = some T → ns[i]? = some x → ∃ v o, H T = some (.tup [.int x.1, v]) ∧ OAt C H v k o ∧ SeesO l (some x.2) o
theorem SeenA.same {C : Addr} {H H' : Hp} {k : Nat} {l : Int × Int} {us : List Addr} {ns : List (Int × Int × Int)} (h : SeenA C H k l us ns) (s : Same H H') : SeenA C H' k l us ns :=
  ⟨h.1, fun i T x e1 e2 => let ⟨v, o, e, a, b⟩ := h.2 i T x e1 e2; ⟨v, o, s _ _ e, a.same s, b⟩⟩
theorem SeenA.mut {C : Addr} {H : Hp} {k : Nat} {l : Int × Int} {us : List Addr} {ns : List (Int × Int × Int)} {D : Addr} {xs ys : List V} (h : SeenA C H k l us ns) (hD : H D = some (.lst xs)) : SeenA C (upd H D (.lst ys)) k l us ns :=
  ⟨h.1, fun i T x e1 e2 => let ⟨v, o, e, a, b⟩ := h.2 i T x e1 e2; ⟨v, o, by rw [upd_ne (ne_of e hD (by intro z; cases z))]; exact e, a.mut hD, b⟩⟩
theorem SeenA.more {C : Addr} {H : Hp} {k : Nat} {l : Int × Int} {us : List Addr} {ns : List (Int × Int × Int)} {T : Addr} {x : Int × Int × Int} {v : V} {o : OLp} (h : SeenA C H k l us ns) (e : H T = some (.tup [.int x.1, v])) (a : OAt C H v k o) (b : SeesO l (some x.2) o) : SeenA C H k l (us ++ [T]) (ns ++ [x]) := by
  refine ⟨by simp [h.1], fun i T' x' e1 e2 => ?_⟩
  by_cases hi : i < us.length
  · rw [List.getElem?_append_left hi] at e1
    rw [List.getElem?_append_left (h.1 ▸ hi)] at e2
    exact h.2 i T' x' e1 e2
  · have e0 : i - us.length = 0 := by
      by_cases z : i - us.length = 0
      · exact z
      · rw [List.getElem?_append_right (by omega), List.getElem?_eq_none (by simp; omega)] at e1; cases e1
    rw [List.getElem?_append_right (by omega), e0] at e1
    rw [List.getElem?_append_right (by have := h.1; omega), ← h.1, e0] at e2
    cases e1
    cases e2
    exact ⟨v, o, e, a, b⟩
theorem NumA.mut {C : Addr} {H : Hp} {k : Nat} {ts : List Addr} {ns : List (Int × Int × Int)} {D : Addr} {xs ys : List V} (h : NumA C H k ts ns) (hD : H D = some (.lst xs)) : NumA C (upd H D (.lst ys)) k ts ns :=
  ⟨h.1, fun i T x e1 e2 => let ⟨a, e, o⟩ := h.2 i T x e1 e2; ⟨a, by rw [upd_ne (ne_of e hD (by intro z; cases z))]; exact e, o.mut hD⟩⟩
theorem NumA.more {C : Addr} {H : Hp} {k : Nat} {ts : List Addr} {ns : List (Int × Int × Int)} {T a : Addr} {x : Int × Int × Int} (h : NumA C H k ts ns) (e : H T = some (.tup [.int x.1, .ref a])) (o : OAt C H (.ref a) k (some x.2)) : NumA C H k (ts ++ [T]) (ns ++ [x]) := by
  refine ⟨by simp [h.1], fun i T' x' e1 e2 => ?_⟩
  by_cases hi : i < ts.length
  · rw [List.getElem?_append_left hi] at e1
    rw [List.getElem?_append_left (h.1 ▸ hi)] at e2
    exact h.2 i T' x' e1 e2
  · have e0 : i - ts.length = 0 := by
      by_cases z : i - ts.length = 0
      · exact z
      · rw [List.getElem?_append_right (by omega), List.getElem?_eq_none (by simp; omega)] at e1; cases e1
    rw [List.getElem?_append_right (by omega), e0] at e1
    rw [List.getElem?_append_right (by have := h.1; omega), ← h.1, e0] at e2
    cases e1
    cases e2
    exact ⟨a, e, o⟩
theorem RowsAt.back {H0 H1 H : Hp} {R : Addr} {n : Nat} {f : Nat → List Int} (h : RowsAt H1 H R n f) (s : Same H0 H1) : RowsAt H0 H R n f := by
  obtain ⟨as, hR, len, nd, nR, r0, n0, hr⟩ := h
  exact ⟨as, hR, len, nd, nR, back_none s r0, fun a ha => back_none s (n0 a ha), hr⟩
theorem rowOf_app (xs ys : List (Int × Int × Int)) (t : Int) : rowOf (xs ++ ys) t = rowOf xs t ++ rowOf ys t := by
  unfold rowOf
  rw [List.filter_append, List.map_append]
theorem rowOf_one (x : Int × Int × Int) (t : Int) : rowOf [x] t = if shB x.2 t then [x.1] else [] := by
  unfold rowOf
  rw [List.filter_cons, List.filter_nil]
  cases shB x.2 t <;> rfl
def spSeenRows (C : Addr) : Sp := fun vs H Q _ => ∃ (a N : Addr) (f : Int) (m k1 k : Nat) (l : Int × Int) (ts : List Addr) (ns : List (Int × Int × Int)), vs = [.ref a, .ref N, .int f, .int m] ∧ OAt C H (.ref a) k1 (some l) ∧ H N = some (.lst (ts.map V.ref)) ∧ NumA C H k ts ns ∧ k1 ≤ 8000 ∧ k ≤ 8000 ∧ ns.length ≤ 1000 ∧ m ≤ 100000 ∧
  ∀ R H', Same H H' → RowsAt H H' R m (fun j => rowOf ns (l.2 + (f + j) * l.1)) → Q (.ref R) H'
theorem ok_seen_rows (T : Top K mg) : FnOk P w K mg base CX0 5 T.f_seen_rows T.d_seen_rows ["lamp", "numbered", "first", "many"] (spSeenRows T.C_Lamp) := by
  have G_seen_from := ok_seen_from (P := P) (w := w) (base := base) T
  have G_shining_rows := ok_shining_rows (P := P) (w := w) (base := base) T
  refine T.F_seen_rows.ok sc_seen_rows (fun vs H Q E h => ?_) (fun cdv A outer s H vs Q E hr h => ?_)
  · obtain ⟨a, N, f, m, k1, k, l, ts, ns, rfl, _⟩ := h; rfl
  · obtain ⟨a, N, f, m, k1, k, l, ts, ns, rfl, ha, hN, hA, b1, b2, n1, n2, q⟩ := h
    refine ⟨_, (pss_cons (ps_setLc (i := 4) (own := [("number", 5), ("other", 6)]) (g := gTup K 2 (gCons (gName 5) (gCons (gName 6) gNil))) (by rfl) sc_seen_rows.nd rfl rfl (sw_true rfl rfl rfl (by decide +kernel)) (pi_list (pv 1)) (blkOk_by (own := [("number", 5), ("other", 6)]) (N := ["lamp", "numbered", "first", "many", "seen", "number", "other"]) (sc := defScope s_seen_rows) (by decide +kernel)) (fun _ _ _ _ _ => by exact (pg_tupB (K := K) rfl (by rfl) (pgs_cons (pg_name (i := 5) sc_seen_rows.nd rfl (Or.inl rfl)) (pgs_cons (pg_name (i := 6) sc_seen_rows.nd rfl (Or.inl rfl)) pgs_nil)))) (fun _ _ _ _ _ => by exact (pts_nil)) (fun _ _ _ _ _ => by exact (pe_tup (pa_cons (pv 5) (pa_cons (pe_call G_seen_from (hr.mono (by decide)) rfl T.g_seen_from T.F_seen_from.kp T.b_seen_from .nil pass0 (pa_cons (pv 0) (pa_cons (pv 6) pa_nil))) pa_nil)))))
      (pss_one (ps_ret (pe_call G_shining_rows (hr.mono (by decide)) rfl T.g_shining_rows T.F_shining_rows.kp T.b_shining_rows .nil pass0 (pa_cons (pe_lc (own := [("number", 5), ("other", 6)]) (g := gTup K 2 (gCons (gName 5) (gCons (gName 6) gNil))) (tt := _) (by rfl) sc_seen_rows.nd (pi_list (pv 4)) (blkOk_by (own := [("number", 5), ("other", 6)]) (N := ["lamp", "numbered", "first", "many", "seen", "number", "other"]) (sc := defScope s_seen_rows) (by decide +kernel)) (fun _ _ _ _ _ => by exact (pg_tupB (K := K) rfl (by rfl) (pgs_cons (pg_name (i := 5) sc_seen_rows.nd rfl (Or.inl rfl)) (pgs_cons (pg_name (i := 6) sc_seen_rows.nd rfl (Or.inl rfl)) pgs_nil)))) (fun _ _ _ _ _ => by exact (pts_one (pt_cmpR op_notN (pv 6) pe_non (nomark _)))) (fun _ _ _ _ _ => by exact (pe_tup (pa_cons (pv 5) (pa_cons (pv 6) pa_nil))))) (pa_cons (pv 2) (pa_cons (pv 3) pa_nil))))))), ?_⟩
    have lt := hA.1
    refine ⟨_, rfl, N, rfl, ⟨_, SqL.of hN⟩, fun D hD => lc_list (K := K) (a := N) (xs := ts.map V.ref) (fun i H' => Same H H' ∧ ∃ us : List Addr, H' D = some (.lst (us.map V.ref)) ∧ SeenA T.C_Lamp H' k l us (ns.take i))
      ⟨same_new hD, [], upd_same, rfl, fun i T x h => by cases h⟩ (fun i H' _ ⟨s2, _⟩ => SqL.of (s2 _ _ hN)) (fun i x H2 hi ⟨s2, us, h1, h2⟩ => ?_) (fun H2 ⟨s2, us, h1, h2⟩ => ?_)⟩
    · obtain ⟨T', hT, rfl⟩ := get_map hi
      obtain ⟨y, hy⟩ : ∃ y, ns[i]? = some y := ⟨_, List.getElem?_eq_getElem (by rw [← lt]; exact (List.getElem?_eq_some_iff.mp hT).1)⟩
      obtain ⟨c, e1, o1⟩ := hA.2 i T' y hT hy
      have e2 := s2 _ _ e1
      have o2 := o1.same s2
      refine ⟨T', _, rfl, SqT.of e2, rfl, _, _, rfl, _, _, rfl, rfl, rfl, ?_⟩
      refine ⟨_, rfl, _, rfl, _, rfl, ?_⟩
      dsimp only [tNil, List.append_nil]
      refine seenO (E := E0) (ha.same s2) o2 b1 b2 fun o v H3 s3 ho hso => ?_
      refine ⟨(by show 2 ≤ sizeLine; decide), fun U hU => ?_⟩
      have sU := same_new (o := .tup [.int y.1, v]) hU
      have h3 := sU _ _ (s3 _ _ h1)
      have lu : us.length ≤ 1000 := by
        rw [h2.1]
        exact Nat.le_trans (List.length_take_le' _ _) n1
      refine ⟨us.map V.ref, h3, ?_, same_at (s2.trans (s3.trans sU)) hD, us ++ [U], ?_, ?_⟩
      · rw [List.length_map]
        exact Nat.lt_of_lt_of_le (show us.length < 1001 by omega) (by decide)
      · rw [upd_same, List.map_append]
        rfl
      · rw [List.take_succ, hy]
        exact SeenA.mut (SeenA.more (h2.same (s3.trans sU)) upd_same (ho.same sU) hso) h3
    rw [List.length_map, lt, List.take_length] at h2
    refine ⟨_, rfl, D, rfl, ⟨_, SqL.of h1⟩, fun E hE => lc_list (K := K) (a := D) (xs := us.map V.ref) (fun i H' => Same H2 H' ∧ ∃ (ws : List Addr) (ms : List (Int × Int × Int)), H' E = some (.lst (ws.map V.ref)) ∧ NumA T.C_Lamp H' k ws ms ∧ ms.length ≤ i ∧ ∀ t, rowOf ms t = rowOf (ns.take i) (l.2 + t * l.1))
      ⟨same_new hE, [], [], upd_same, ⟨rfl, fun i T x h => by cases h⟩, Nat.le_refl _, fun t => rfl⟩ (fun i H' _ ⟨s3, _⟩ => SqL.of (s3 _ _ h1)) (fun i x H3 hi ⟨s3, ws, ms, g1, g2, g3, g4⟩ => ?_) (fun H3 ⟨s3, ws, ms, g1, g2, g3, g4⟩ => ?_)⟩
    · obtain ⟨T', hT, rfl⟩ := get_map hi
      have hil : i < us.length := (List.getElem?_eq_some_iff.mp hT).1
      obtain ⟨y, hy⟩ : ∃ y, ns[i]? = some y := ⟨_, List.getElem?_eq_getElem (by rw [← h2.1]; exact hil)⟩
      obtain ⟨v, o, e1, o1, hso⟩ := h2.2 i T' y hT hy
      have e3 := s3 _ _ e1
      have o3 := o1.same s3
      refine ⟨T', _, rfl, SqT.of e3, rfl, _, _, rfl, _, _, rfl, rfl, rfl, ?_⟩
      have hl1000 : i ≤ 1000 := by have := h2.1; omega
      cases o with
      | none =>
        cases o3
        refine ⟨_, rfl, rfl, _, rfl, iteF ⟨s3, ws, ms, g1, g2, Nat.le_succ_of_le g3, fun t => ?_⟩⟩
        rw [g4, List.take_succ, hy, rowOf_app]
        show _ = _ ++ rowOf [y] _
        rw [rowOf_one]
        have : shB y.2 (l.2 + t * l.1) = false := Bool.eq_false_iff.mpr fun z => ((hso.2 t).mpr (shB_iff.mp z)).elim
        rw [this]
        simp
      | some z =>
        obtain ⟨c, rfl, o4⟩ : ∃ c, v = .ref c ∧ OAt T.C_Lamp H3 (.ref c) k (some z) := by
          obtain ⟨c, rfl, r⟩ := o3
          exact ⟨c, rfl, c, rfl, r⟩
        refine ⟨_, rfl, rfl, _, rfl, iteT ⟨_, rfl, _, rfl, (by show 2 ≤ sizeLine; decide), fun U hU => ?_⟩⟩
        have sU := same_new (o := .tup [.int y.1, .ref c]) hU
        have h5 := sU _ _ g1
        refine ⟨ws.map V.ref, h5, ?_, same_at (s3.trans sU) hE, ws ++ [U], ms ++ [(y.1, z)], ?_, ?_, ?_, fun t => ?_⟩
        · rw [List.length_map, g2.1]
          exact Nat.lt_of_lt_of_le (show ms.length < 1001 by omega) (by decide)
        · rw [upd_same, List.map_append]
          rfl
        · exact NumA.mut (NumA.more (g2.same sU) upd_same (o4.same sU)) h5
        · rw [List.length_append]
          exact Nat.succ_le_succ g3
        · rw [List.take_succ, hy, rowOf_app, rowOf_app, g4]
          show _ ++ rowOf [(y.1, z)] t = _ ++ rowOf [y] _
          rw [rowOf_one, rowOf_one]
          have : shB z t = shB y.2 (l.2 + t * l.1) := by
            rw [Bool.eq_iff_iff, shB_iff, shB_iff]
            exact hso.2 t
          show _ ++ (if shB z t then _ else _) = _
          rw [this]
    · have lu : (us.map V.ref).length = ns.length := by rw [List.length_map]; exact h2.1
      rw [lu] at g3
      rw [lu, List.take_length] at g4
      refine ⟨_, rfl, _, rfl, E, ws, ms, f, m, k, rfl, g1, g2, b2, by omega, n2, fun R H4 s4 hR => ?_⟩
      have S3 := s2.trans s3
      refine q R H4 (S3.trans s4) ((hR.back S3).ext fun j _ => ?_)
      exact g4 _
end

section
variable {P : Program} {w : World} {K : PySem.W.Frag} {mg : Str → Option Value} {base : Heap}
/-! ### two lights -/
def spRows (C CG : Addr) : Sp := fun vs H Q _ => ∃ (a g : Addr) (f : Int) (k1 k : Nat) (l : Int × Int) (ls : List (Int × Int)), vs = [.ref a, .ref g, .int f] ∧ OAt C H (.ref a) k1 (some l) ∧ LightAt C CG H g k ls ∧ ls.length ≤ 10 ∧ k1 ≤ 8000 ∧ k ≤ 8000 ∧
  ∀ R H', Same H H' → RowsAt H H' R (2 ^ ls.length) (fun j => lrow ls (l.2 + (f + j) * l.1)) → Q (.ref R) H'
theorem ok_rows (T : Top K mg) : FnOk P w K mg base CX0 6 T.f_rows T.d_rows ["lamp", "other", "first"] (spRows T.C_Lamp T.C_Light) := by
  have G_Light_lamps := ok_Light_lamps (P := P) (w := w) (base := base) T
  have G_Light_wait := ok_Light_wait (P := P) (w := w) (base := base) T
  have G_seen_rows := ok_seen_rows (P := P) (w := w) (base := base) T
  refine T.F_rows.ok sc_rows (fun vs H Q E h => ?_) (fun cdv A outer s H vs Q E hr h => ?_)
  · obtain ⟨a, g, f, k1, k, l, ls, rfl, _⟩ := h; rfl
  · obtain ⟨a, g, f, k1, k, l, ls, rfl, ha, hg, hn, b1, b2, q⟩ := h
    refine ⟨_, (pss_one (ps_ret (pe_call G_seen_rows (hr.mono (by decide)) rfl T.g_seen_rows T.F_seen_rows.kp T.b_seen_rows .nil pass0 (pa_cons (pv 0) (pa_cons (pe_listEnu (by rfl) (pe_meth0 (pv 1) T.cl_Light T.m_Light_lamps G_Light_lamps (hr.mono (by decide)) T.b_Light_lamps .nil pass0) (by rfl) T.n_list (by rfl) T.n_enumerate) (pa_cons (pv 2) (pa_cons (pe_meth0 (pv 1) T.cl_Light T.m_Light_wait G_Light_wait (hr.mono (by decide)) T.b_Light_wait .nil pass0) pa_nil))))))), ?_⟩
    obtain ⟨dx, L, xs, hg0, _, _⟩ := id hg
    have w1 : (2 : Nat) ^ ls.length ≤ 2 ^ 10 := Nat.pow_le_pow_right (by decide) hn
    refine ⟨_, rfl, _, rfl, g, dx, _, rfl, hg0, gf_no _ (by decide +kernel), g, k, ls, rfl, hg, hn, fun p ys H1 s1 hp hp1 ha1 => ?_⟩
    refine ⟨p, ys, rfl, SqL.of hp1, fun H2 r ts s2 hr hts hrn nd h2r pr => ?_⟩
    have hN := num_of (AllL.same ha1 s2) pr
    have s12 : Same H H2 := s1.trans s2
    refine ⟨_, rfl, _, rfl, g, dx, _, rfl, s12 _ _ hg0, gf_no _ (by decide +kernel), g, k, ls, rfl, hg.same s12, by omega, ?_⟩
    refine ⟨a, r, f, 2 ^ ls.length, k1, k, l, ts, numF 0 ls, by rw [show ((2 ^ ls.length : Nat) : Int) = 2 ^ ls.length by norm_cast]; rfl, ha.same s12, h2r, hN, b1, b2, by rw [numF_len]; omega, by omega, fun R H3 s3 hR => ?_⟩
    exact q R H3 (s12.trans s3) (hR.back s12)
/-- lists of numbers -/
def PapersAt (H : Hp) (p : Addr) (pss : List (List Int)) : Prop := ∃ as : List Addr, H p = some (.lst (as.map V.ref)) ∧ as.length = pss.length ∧ ∀ (j : Nat) a ns, as[j]? = some a → pss[j]? = some ns → H a = some (.lst (ns.map V.int))
theorem PapersAt.same {H H' : Hp} {p : Addr} {pss : List (List Int)} (h : PapersAt H p pss) (s : Same H H') : PapersAt H' p pss := let ⟨as, a, b, c⟩ := h; ⟨as, s _ _ a, b, fun j x ns e1 e2 => s _ _ (c j x ns e1 e2)⟩
/-- what stands in a paper for one lamp -/
def paperL (ls : List (Int × Int)) (l : Int × Int) : List Int := (List.range (2 ^ ls.length)).map fun j => (lrow ls (l.2 + (0 + (j : Nat)) * l.1)).headD 0
def spPapers (C CG : Addr) : Sp := fun vs H Q _ => ∃ (g h : Addr) (k1 k2 : Nat) (ls1 ls2 : List (Int × Int)), vs = [.ref g, .ref h] ∧ LightAt C CG H g k1 ls1 ∧ LightAt C CG H h k2 ls2 ∧ ls1.length ≤ 10 ∧ ls2.length ≤ 10 ∧ k1 ≤ 8000 ∧ k2 ≤ 8000 ∧ (∀ x, Bright ls1 x → Bright ls2 x) ∧
  ∀ p H', Same H H' → H p = none → PapersAt H' p (ls1.map (paperL ls2)) → Q (.ref p) H'
theorem ok_papers (T : Top K mg) : FnOk P w K mg base CX0 7 T.f_papers T.d_papers ["one", "other"] (spPapers T.C_Lamp T.C_Light) := by
  have G_Light_lamps := ok_Light_lamps (P := P) (w := w) (base := base) T
  have G_least_paper := ok_least_paper (P := P) (w := w) (base := base) T
  have G_rows := ok_rows (P := P) (w := w) (base := base) T
  refine T.F_papers.ok sc_papers (fun vs H Q E h => ?_) (fun cdv A outer s H vs Q E hr h => ?_)
  · obtain ⟨g, g2, k1, k2, ls1, ls2, rfl, _⟩ := h; rfl
  · obtain ⟨g, g2, k1, k2, ls1, ls2, rfl, hg, hh, n1, n2, b1, b2, hw, q⟩ := h
    refine ⟨_, (pss_one (ps_ret (pe_lc (own := [("lamp", 2)]) (g := gName 2) (by rfl) sc_papers.nd (pi_list (pe_meth0 (pv 0) T.cl_Light T.m_Light_lamps G_Light_lamps (hr.mono (by decide)) T.b_Light_lamps .nil pass0)) (blkOk_by (own := [("lamp", 2)]) (N := ["one", "other", "lamp"]) (sc := defScope s_papers) (by decide +kernel)) (fun _ _ _ _ _ => by exact (pg_name (i := 2) sc_papers.nd rfl (Or.inl rfl))) (fun _ _ _ _ _ => by exact (pts_nil)) (fun _ _ _ _ _ => by exact (pe_call G_least_paper (hr.mono (by decide)) rfl T.g_least_paper T.F_least_paper.kp T.b_least_paper .nil pass0 (pa_cons (pe_call G_rows (hr.mono (by decide)) rfl T.g_rows T.F_rows.kp T.b_rows .nil pass0 (pa_cons (pv 2) (pa_cons (pv 1) (pa_cons pe_int pa_nil)))) pa_nil)))))), ?_⟩
    obtain ⟨dx, L, xs, hg0, _, _⟩ := id hg
    refine ⟨_, rfl, g, dx, _, rfl, hg0, gf_no _ (by decide +kernel), g, k1, ls1, rfl, hg, n1, fun p ys H1 s1 hp hp1 ha1 => ?_⟩
    refine ⟨p, rfl, ⟨_, SqL.of hp1⟩, fun D hD => lc_list (K := K) (a := p) (xs := ys) (fun i H' => Same H1 H' ∧ PapersAt H' D ((ls1.map (paperL ls2)).take i))
      ⟨same_new hD, [], upd_same, rfl, fun j a ns h => by cases h⟩ (fun i H' _ ⟨s2, _⟩ => SqL.of (s2 _ _ hp1)) (fun i x H2 hi ⟨s2, as, h1, h2, h3⟩ => ?_) (fun H2 ⟨s2, hpp⟩ => ?_)⟩
    · obtain ⟨a, l, rfl, el, ha⟩ := ha1.at hi
      refine ⟨rfl, ?_⟩
      refine ⟨_, rfl, _, rfl, a, g2, 0, k1, k2, l, ls2, rfl, ha.same s2, hh.same (s1.trans s2), n2, b1, b2, fun R H3 s3 hR => ?_⟩
      have w1 : (2 : Nat) ^ ls2.length ≤ 2 ^ 10 := Nat.pow_le_pow_right (by decide) n2
      refine ⟨R, _, _, rfl, hR.r, by omega, fun j hj z => ?_, fun q2 H4 s4 hq2 hq4 => ?_⟩
      · refine lrow_nil.mp z (hw _ ⟨l, List.mem_of_getElem? el, ?_⟩)
        exact ⟨0 + (j : Nat), by rw [Int.mul_comm]; omega⟩
      have h5 := s4 _ _ (s3 _ _ h1)
      have nD : q2 ≠ D := fun z => by rw [z] at hq4; rw [h5] at hq4; rw [z, s3 _ _ h1] at hq2; cases hq2
      refine ⟨as.map V.ref, h5, ?_, same_at (s2.trans (s3.trans s4)) hD, as ++ [q2], ?_, ?_, fun j a' ns e1 e2 => ?_⟩
      · rw [List.length_map, h2, List.length_take]
        exact Nat.lt_of_lt_of_le (show min i (ls1.map (paperL ls2)).length < 11 by rw [List.length_map]; omega) (by decide)
      · rw [upd_same, List.map_append]
        rfl
      · have hil : i < (ls1.map (paperL ls2)).length := by rw [List.length_map]; exact (List.getElem?_eq_some_iff.mp el).1
        rw [List.length_append, h2, List.length_take, List.length_take]
        show min i _ + 1 = min (i + 1) _
        omega
      · have el2 : (ls1.map (paperL ls2))[i]? = some (paperL ls2 l) := by rw [List.getElem?_map, el]; rfl
        have hil : i < (ls1.map (paperL ls2)).length := (List.getElem?_eq_some_iff.mp el2).1
        have la : as.length = i := by rw [h2, List.length_take]; omega
        rw [List.take_succ, el2] at e2
        by_cases hj : j < i
        · rw [List.getElem?_append_left (by omega)] at e1
          rw [List.getElem?_append_left (by rw [List.length_take]; omega)] at e2
          have := s4 _ _ (s3 _ _ (h3 j a' ns e1 e2))
          rw [upd_ne]
          · exact this
          · rintro rfl
            rw [h5] at this
            injection this with this
            injection this with this
            -- a list of references is no list of numbers, unless both are empty
            cases as with
            | nil => cases e1
            | cons x xs =>
              cases ns with
              | nil => cases this
              | cons y ys => cases this
        · have j0 : j = i := by
            by_cases z : j = i
            · exact z
            · rw [List.getElem?_eq_none (by rw [List.length_append]; show as.length + 1 ≤ j; omega)] at e1; cases e1
          subst j0
          rw [List.getElem?_append_right (by omega), la, Nat.sub_self] at e1
          rw [List.getElem?_append_right (by rw [List.length_take]; omega), List.length_take, Nat.min_eq_left (by omega), Nat.sub_self] at e2
          cases e1
          cases e2
          rw [upd_ne nD]
          exact hq4
    · rw [ha1.1, show ls1.length = (ls1.map (paperL ls2)).length by rw [List.length_map], List.take_length] at hpp
      exact q D H2 (s1.trans s2) (back_none s1 hD) hpp
theorem fst_lt {l : Int × Int} {t : Int} (hl : 0 < l.1) (l1 : l.1 < 2 ^ 400) (b0 : 0 ≤ l.2) (b1 : l.2 < l.1) (t0 : -(2 ^ 400) < t) (t1 : t < 2 ^ 400) : -(2 ^ 402) < fstN l t ∧ fstN l t < 2 ^ 402 := by
  have h1 := fst_at hl t
  have h2 := Int.emod_nonneg (l.2 - t) (show l.1 ≠ 0 by omega)
  have h3 := Int.emod_lt_of_pos (l.2 - t) hl
  generalize fstN l t = F at *
  generalize (l.2 - t) % l.1 = R at *
  constructor
  · by_cases h : F ≤ -(2 ^ 402)
    · have : F * l.1 ≤ F * 1 := Int.mul_le_mul_of_nonpos_left (by omega) (by omega)
      omega
    · omega
  · by_cases h : 2 ^ 402 ≤ F
    · have : F * 1 ≤ F * l.1 := Int.mul_le_mul_of_nonneg_left (by omega) (by omega)
      omega
    · omega
def spFirstBeats (C CG : Addr) : Sp := fun vs H Q _ => ∃ (g h : Addr) (t : Int) (k1 k2 : Nat) (ls1 ls2 : List (Int × Int)), vs = [.ref g, .ref h, .int t] ∧ LightAt C CG H g k1 ls1 ∧ LightAt C CG H h k2 ls2 ∧ ls1.length ≤ 10 ∧ ls2.length ≤ 10 ∧ k1 ≤ 400 ∧ k2 ≤ 8000 ∧ -(2 ^ 400) < t ∧ t < 2 ^ 400 ∧
  ∀ p bs H', Same H H' → H p = none → H' p = some (.lst (bs.map V.int)) → bs.length ≤ 10 → OutsIs bs ls1 ls2 t → Q (.ref p) H'
theorem ok_first_beats (T : Top K mg) : FnOk P w K mg base CX0 7 T.f_first_beats T.d_first_beats ["one", "other", "begin"] (spFirstBeats T.C_Lamp T.C_Light) := by
  have G_Lamp_next_shine := ok_Lamp_next_shine (P := P) (w := w) (base := base) T
  have G_Light_lamps := ok_Light_lamps (P := P) (w := w) (base := base) T
  have G_empty_places := ok_empty_places (P := P) (w := w) (base := base) T
  have G_rows := ok_rows (P := P) (w := w) (base := base) T
  refine T.F_first_beats.ok sc_first_beats (fun vs H Q E h => ?_) (fun cdv A outer s H vs Q E hr h => ?_)
  · obtain ⟨g, g2, t, k1, k2, ls1, ls2, rfl, _⟩ := h; rfl
  · obtain ⟨g, g2, t, k1, k2, ls1, ls2, rfl, hg, hh, n1, n2, b1, b2, t0, t1, q⟩ := h
    refine ⟨_, (pss_cons (ps_set (i := 3) sc_first_beats.nd rfl (Or.inl rfl) (pe_lst pa_nil))
      (pss_cons (ps_for PassesOwn.never rfl (pi_list (pe_meth0 (pv 0) T.cl_Light T.m_Light_lamps G_Light_lamps (hr.mono (by decide)) T.b_Light_lamps .nil pass0)) (pg_name (i := 4) sc_first_beats.nd rfl (Or.inl rfl)) (pss_cons (ps_set (i := 5) sc_first_beats.nd rfl (Or.inl rfl) (pe_op op_fdivW (pe_op op_sub (pe_meth (pv 4) T.cl_Lamp T.m_Lamp_next_shine G_Lamp_next_shine (hr.mono (by decide)) T.b_Lamp_next_shine .nil pass0 (pa_cons (pv 2) pa_nil)) (pe_fld (pv 4) rfl)) (pe_fld (pv 4) rfl)))
      (pss_cons (ps_set (i := 6) sc_first_beats.nd rfl (Or.inl rfl) (pe_call G_empty_places (hr.mono (by decide)) rfl T.g_empty_places T.F_empty_places.kp T.b_empty_places .nil pass0 (pa_cons (pe_call G_rows (hr.mono (by decide)) rfl T.g_rows T.F_rows.kp T.b_rows .nil pass0 (pa_cons (pv 4) (pa_cons (pv 1) (pa_cons (pv 5) pa_nil)))) pa_nil)))
      (pss_one (ps_if (pt_truth (pv 6) (by intro _; rfl)) (pss_one (ps_expr (pe_bm PySem.F.plainAttrs_list PySem.F.slot_list_append PySem.F.type_list_append mt_append (pv 3) (pa_cons (pe_op op_add (pe_fld (pv 4) rfl) (pe_op op_mulW (pe_op op_add (pv 5) (pe_ix ix_list (pv 6) pe_int (fun _ _ => rfl))) (pe_fld (pv 4) rfl))) pa_nil)))) pss_nil)))))
      (pss_one (ps_ret (pv 3))))), ?_⟩
    obtain ⟨dx, L, xs, hg0, _, _⟩ := id hg
    obtain ⟨dx2, LB, zs, hh0, _, hallB⟩ := id hh
    have ok2 : ∀ x ∈ ls2, 0 < x.1 := fun x hx => by
      obtain ⟨i, hi, e⟩ := List.getElem_of_mem hx
      obtain ⟨a, _, o⟩ := hallB.2 i _ x (List.getElem?_eq_getElem (show i < zs.length by rw [hallB.1]; exact hi)) (by rw [List.getElem?_eq_getElem hi, e])
      exact (o.ok _ rfl).1
    have w1 : (2 : Nat) ^ ls2.length ≤ 2 ^ 10 := Nat.pow_le_pow_right (by decide) n2
    refine ⟨(by show 0 ≤ sizeLine; decide), fun F hF => ?_⟩
    have s0 := same_new (o := .lst []) hF
    refine ⟨_, rfl, g, dx, _, rfl, s0 _ _ hg0, gf_no _ (by decide +kernel), g, k1, ls1, rfl, hg.same s0, n1, fun p ys H1 s1 hp hp1 ha1 => ?_⟩
    have S1 := s0.trans s1
    have hF1 := s1 _ _ (upd_same (H := H) (a := F) (o := .lst []))
    refine ⟨p, rfl, ⟨_, SqL.of hp1⟩, for_list (K := K) (a := p) (xs := ys) (fun i σ H' => (∃ v4 v5 v6, σ = [some (.ref g), some (.ref g2), some (.int t), some (.ref F), v4, v5, v6]) ∧ Same H H' ∧ H' p = some (.lst ys) ∧ AllL T.C_Lamp H' k1 ys ls1 ∧ ∃ bs : List Int, H' F = some (.lst (bs.map V.int)) ∧ bs.length ≤ i ∧ OutsIs bs (ls1.take i) ls2 t)
      ⟨⟨_, _, _, rfl⟩, S1, hp1, ha1, [], hF1, Nat.le_refl _, OutsIs.nil⟩ (fun i σ H' _ ⟨_, _, h, _⟩ => SqL.of h) ?_ ?_⟩
    · rintro i x σ H2 hi ⟨⟨v4, v5, v6, rfl⟩, s2, hp2, ha2, bs, hF2, lb, ho⟩
      obtain ⟨a, l, rfl, el, ha⟩ := ha2.at hi
      obtain ⟨p0, l0, l1⟩ := ha.ok _ rfl
      obtain ⟨_, _, _, _, _, _, zb⟩ := id ha
      obtain ⟨z1, z2⟩ := lt400 zb b1
      have il : i < ls1.length := (List.getElem?_eq_some_iff.mp el).1
      -- first
      refine ⟨_, rfl, _, _, _, rfl, ha.lamp.choose_spec, lf_no _ _ (by decide +kernel) (by decide +kernel), _, rfl, a, l.1, l.2, t, rfl, ha.lamp, p0, _, rfl, _, _, _, _, _, rfl, ha.lamp.choose_spec, T.cl_Lamp, T.na_Lamp_beat, lf_beat _ _, _, _, rfl, rfl, _, rfl, _, _, _, _, _, rfl, ha.lamp.choose_spec, T.cl_Lamp, T.na_Lamp_period, lf_period _ _, _, _, rfl, rfl, wide_div (b := 400) p0 (by omega) (by decide) (by decide), ?_⟩
      have eF : (t + (l.2 - t) % l.1 - l.2) / l.1 = fstN l t := rfl
      dsimp only
      rw [eF]
      refine ⟨_, rfl, _, rfl, _, rfl, a, g2, fstN l t, k1, k2, l, ls2, rfl, ha, hh.same s2, n2, by omega, b2, fun R H3 s3 hR => ?_⟩
      refine ⟨R, _, _, rfl, hR.r, by omega, fun D H4 s4 hD hD4 => ?_⟩
      have eO : (emptyL (2 ^ ls2.length) fun j => lrow ls2 (l.2 + (fstN l t + j) * l.1)) = outsL l ls2 (fstN l t) := rfl
      rw [eO] at hD4
      have S4 := s3.trans s4
      have hF4 := S4 _ _ hF2
      have hp4 := S4 _ _ hp2
      have ha4 := ha2.same S4
      have hl4 := (ha.same S4).lamp
      obtain ⟨f0, f1⟩ := fst_lt p0 z2 l0 l1 t0 t1
      have np : p ≠ F := fun z => by rw [z, upd_same] at hp; cases hp
      refine ⟨_, rfl, !((outsL l ls2 (fstN l t)).map fun j => V.int (j : Nat)).isEmpty, .inl ⟨_, SqL.of hD4, rfl⟩, ?_⟩
      cases e : outsL l ls2 (fstN l t) with
      | nil =>
        refine iteF ⟨⟨_, _, _, rfl⟩, s2.trans S4, hp4, ha4, bs, hF4, by omega, ?_⟩
        have := ho.more p0 (o := none) (outs_none p0 ok2 e)
        rw [show bs ++ (none : Option Int).toList = bs from List.append_nil bs] at this
        rw [List.take_succ, el]
        exact this
      | cons j r =>
        rw [e] at hD4
        have hj := (outs_mem.mp (show j ∈ outsL l ls2 (fstN l t) by rw [e]; exact .head _)).1
        refine iteT ⟨_, rfl, .inl ⟨rfl, _, SqL.of hF4⟩, _, rfl, _, _, _, _, _, rfl, (hl4).choose_spec, T.cl_Lamp, T.na_Lamp_beat, lf_beat _ _, _, rfl, _, rfl, D, _, _, _, rfl, rfl, SqL.of hD4, at_of (j := 0) rfl rfl, _, _, rfl, rfl, _, rfl, _, _, _, _, _, rfl, (hl4).choose_spec, T.cl_Lamp, T.na_Lamp_period, lf_period _ _, _, _, rfl, rfl, ?_, _, _, rfl, rfl, F, _, _, rfl, rfl, hF4, ?_, ?_⟩
        · exact wide_mul (a := 410) (b := 400) (by omega) (by omega) (by decide) (by decide) (by decide)
        · rw [List.length_map]
          exact Nat.lt_of_lt_of_le (show bs.length < 11 by omega) (by decide)
        · refine ⟨⟨_, _, _, rfl⟩, same_at (s2.trans S4) hF, by rw [upd_ne np]; exact hp4, ha4.mut hF4, bs ++ [l.2 + (fstN l t + j) * l.1], ?_, by rw [List.length_append]; exact Nat.succ_le_succ lb, ?_⟩
          · rw [upd_same, List.map_append]
            rfl
          · rw [List.take_succ, el]
            exact ho.more p0 (outs_head p0 (by rw [e]; rfl))
    · rintro σ H2 ⟨⟨v4, v5, v6, rfl⟩, s2, hp2, ha2, bs, hF2, lb, ho⟩
      rw [ha1.1] at lb
      rw [ha1.1, List.take_length] at ho
      exact ⟨_, rfl, q F bs H2 s2 hF hF2 (by omega) ho⟩
end

section
variable {P : Program} {w : World} {K : PySem.W.Frag} {mg : Str → Option Value} {base : Heap}
/-- what parted tells -/
def PartTold (H : Hp) (p : Addr) (ls1 ls2 : List (Int × Int)) (t : Int) : Prop :=
  (∃ b, H p = some (.tup [.str "beat", .int b]) ∧ t ≤ b ∧ ¬ (Bright ls1 b ↔ Bright ls2 b) ∧ ∀ x, t ≤ x → x < b → (Bright ls1 x ↔ Bright ls2 x)) ∨
  (∃ q1 q2, H p = some (.tup [.str "alike", .ref q1, .ref q2]) ∧ PapersAt H q1 (ls1.map (paperL ls2)) ∧ PapersAt H q2 (ls2.map (paperL ls1)) ∧ ∀ x, Bright ls1 x ↔ Bright ls2 x)
def spParted (C CG : Addr) : Sp := fun vs H Q _ => ∃ (g h : Addr) (t : Int) (k1 k2 : Nat) (ls1 ls2 : List (Int × Int)), vs = [.ref g, .ref h, .int t] ∧ LightAt C CG H g k1 ls1 ∧ LightAt C CG H h k2 ls2 ∧ ls1.length ≤ 10 ∧ ls2.length ≤ 10 ∧ k1 ≤ 400 ∧ k2 ≤ 400 ∧ -(2 ^ 400) < t ∧ t < 2 ^ 400 ∧
  ∀ p H', Same H H' → H p = none → PartTold H' p ls1 ls2 t → Q (.ref p) H'
theorem ok_parted (T : Top K mg) : FnOk P w K mg base CX0 8 T.f_parted T.d_parted ["one", "other", "begin"] (spParted T.C_Lamp T.C_Light) := by
  have G_check_beat := ok_check_beat (P := P) (w := w) (base := base) T
  have G_first_beats := ok_first_beats (P := P) (w := w) (base := base) T
  have G_papers := ok_papers (P := P) (w := w) (base := base) T
  refine T.F_parted.ok sc_parted (fun vs H Q E h => ?_) (fun cdv A outer s H vs Q E hr h => ?_)
  · obtain ⟨g, g2, t, k1, k2, ls1, ls2, rfl, _⟩ := h; rfl
  · obtain ⟨g, g2, t, k1, k2, ls1, ls2, rfl, hg, hh, n1, n2, b1, b2, t0, t1, q⟩ := h
    refine ⟨_, (pss_cons (ps_expr (pe_call G_check_beat (hr.mono (by decide)) rfl T.g_check_beat T.F_check_beat.kp T.b_check_beat .nil pass0 (pa_cons (pv 2) pa_nil)))
      (pss_cons (ps_set (i := 3) sc_parted.nd rfl (Or.inl rfl) (pe_op op_catS (pe_call G_first_beats (hr.mono (by decide)) rfl T.g_first_beats T.F_first_beats.kp T.b_first_beats .nil pass0 (pa_cons (pv 0) (pa_cons (pv 1) (pa_cons (pv 2) pa_nil)))) (pe_call G_first_beats (hr.mono (by decide)) rfl T.g_first_beats T.F_first_beats.kp T.b_first_beats .nil pass0 (pa_cons (pv 1) (pa_cons (pv 0) (pa_cons (pv 2) pa_nil))))))
      (pss_cons (ps_if (pt_truth (pv 3) (by intro _; rfl)) (pss_one (ps_ret (pe_tup (pa_cons pe_str (pa_cons (pe_callB (cr_min rfl) (by rfl) T.n_min (by decide +kernel) (pa_cons (pv 3) pa_nil)) pa_nil))))) pss_nil)
      (pss_one (ps_ret (pe_tup (pa_cons pe_str (pa_cons (pe_call G_papers (hr.mono (by decide)) rfl T.g_papers T.F_papers.kp T.b_papers .nil pass0 (pa_cons (pv 0) (pa_cons (pv 1) pa_nil))) (pa_cons (pe_call G_papers (hr.mono (by decide)) rfl T.g_papers T.F_papers.kp T.b_papers .nil pass0 (pa_cons (pv 1) (pa_cons (pv 0) pa_nil))) pa_nil))))))))), ?_⟩
    refine ⟨_, rfl, t, rfl, ?_⟩
    refine ⟨_, rfl, _, rfl, _, rfl, g, g2, t, k1, k2, ls1, ls2, rfl, hg, hh, n1, n2, b1, by omega, t0, t1, fun p1 bs1 H1 s1 _ e1 l1 o1 => ?_⟩
    refine ⟨_, rfl, _, rfl, _, rfl, g2, g, t, k2, k1, ls2, ls1, rfl, hh.same s1, hg.same s1, n2, n1, b2, by omega, t0, t1, fun p2 bs2 H2 s2 _ e2 l2 o2 => ?_⟩
    refine ⟨p1, p2, _, _, rfl, rfl, SqL.of (s2 _ _ e1), SqL.of e2, ?_, fun B hB => ?_⟩
    · rw [List.length_map, List.length_map]
      exact Nat.le_trans (show _ ≤ 20 by omega) (by decide)
    rw [← List.map_append]
    have s3 := same_new (o := .lst ((bs1 ++ bs2).map V.int)) hB
    have S3 := (s1.trans s2).trans s3
    have eB := upd_same (H := H2) (a := B) (o := .lst ((bs1 ++ bs2).map V.int))
    have hg3 := hg.same S3
    have hh3 := hh.same S3
    generalize upd H2 B (.lst ((bs1 ++ bs2).map V.int)) = H3 at *
    clear s1 s2 s3 e1 e2 hB
    refine ⟨_, rfl, !((bs1 ++ bs2).map V.int).isEmpty, .inl ⟨_, SqL.of eB, rfl⟩, ?_⟩
    by_cases hb : bs1 ++ bs2 = []
    · rw [hb]
      obtain ⟨z1, z2⟩ := List.append_eq_nil_iff.mp hb
      refine iteF ?_
      refine ⟨_, rfl, _, rfl, g, g2, k1, k2, ls1, ls2, rfl, hg3, hh3, n1, n2, by omega, by omega, o1.no z1, fun q1 H4 s4 _ hq1 => ?_⟩
      refine ⟨_, rfl, _, rfl, g2, g, k2, k1, ls2, ls1, rfl, hh3.same s4, hg3.same s4, n2, n1, by omega, by omega, o2.no z2, fun q2 H5 s5 _ hq2 => ⟨(by show 3 ≤ sizeLine; decide), fun p hp => ?_⟩⟩
      have S5 := S3.trans (s4.trans s5)
      have s6 := same_new (o := .tup [.str "alike", .ref q1, .ref q2]) hp
      exact q p _ (S5.trans s6) (back_none S5 hp) (.inr ⟨q1, q2, upd_same, (hq1.same s5).same s6, hq2.same s6, fun x => ⟨o1.no z1 x, o2.no z2 x⟩⟩)
    · have pos : 0 < (bs1 ++ bs2).length := List.length_pos_iff.mpr hb
      rw [show (!((bs1 ++ bs2).map V.int).isEmpty) = true by
        cases h : bs1 ++ bs2 with
        | nil => exact absurd h hb
        | cons x xs => rfl]
      refine iteT ?_
      refine ⟨_, rfl, B, bs1 ++ bs2, rfl, SqL.of eB, pos, fun m hm hle => ⟨(by show 2 ≤ sizeLine; decide), fun p hp => ?_⟩⟩
      have s6 := same_new (o := .tup [.str "beat", .int m]) hp
      refine q p _ (S3.trans s6) (back_none S3 hp) (.inl ⟨m, upd_same, ?_, ?_, fun x hx hlt => ?_⟩)
      · rcases List.mem_append.mp hm with h | h
        · exact (o1.at_ m h).1
        · exact (o2.at_ m h).1
      · rcases List.mem_append.mp hm with h | h
        · obtain ⟨_, a2, a3⟩ := o1.at_ m h
          exact fun z => a3 (z.mp a2)
        · obtain ⟨_, a2, a3⟩ := o2.at_ m h
          exact fun z => a3 (z.mpr a2)
      · constructor
        · intro h1
          by_cases h2 : Bright ls2 x
          · exact h2
          · obtain ⟨b, hb2, hbx⟩ := o1.le x hx h1 h2
            have := hle b (List.mem_append_left _ hb2)
            omega
        · intro h1
          by_cases h2 : Bright ls1 x
          · exact h2
          · obtain ⟨b, hb2, hbx⟩ := o2.le x hx h1 h2
            have := hle b (List.mem_append_right _ hb2)
            omega
end

section
variable {P : Program} {w : World} {K : PySem.W.Frag} {mg : Str → Option Value} {base : Heap}
theorem lst_lt {l : Int × Int} {t : Int} (hl : 0 < l.1) (l1 : l.1 < 2 ^ 400) (b0 : 0 ≤ l.2) (b1 : l.2 < l.1) (t0 : -(2 ^ 400) < t) (t1 : t < 2 ^ 400) : -(2 ^ 403) < lstN l t ∧ lstN l t < 2 ^ 403 := by
  have h2 := lst_le hl t
  have h3 : t < l.2 + (lstN l t + 1) * l.1 := by
    have := Int.lt_ediv_add_one_mul_self (t - l.2) hl
    unfold lstN
    omega
  generalize lstN l t = F at *
  constructor
  · by_cases h : F ≤ -(2 ^ 403)
    · have : (F + 1) * l.1 ≤ (F + 1) * 1 := Int.mul_le_mul_of_nonpos_left (by omega) (by omega)
      omega
    · omega
  · by_cases h : 2 ^ 403 ≤ F
    · have : F * 1 ≤ F * l.1 := Int.mul_le_mul_of_nonneg_left (by omega) (by omega)
      omega
    · omega
def spLastBeats (C CG : Addr) : Sp := fun vs H Q _ => ∃ (g h : Addr) (t : Int) (k1 k2 : Nat) (ls1 ls2 : List (Int × Int)), vs = [.ref g, .ref h, .int t] ∧ LightAt C CG H g k1 ls1 ∧ LightAt C CG H h k2 ls2 ∧ ls1.length ≤ 10 ∧ ls2.length ≤ 10 ∧ k1 ≤ 400 ∧ k2 ≤ 8000 ∧ -(2 ^ 400) < t ∧ t < 2 ^ 400 ∧
  ∀ p bs H', Same H H' → H p = none → H' p = some (.lst (bs.map V.int)) → bs.length ≤ 10 → BacksIs bs ls1 ls2 t → Q (.ref p) H'
theorem ok_last_beats (T : Top K mg) : FnOk P w K mg base CX0 7 T.f_last_beats T.d_last_beats ["one", "other", "begin"] (spLastBeats T.C_Lamp T.C_Light) := by
  have G_Light_lamps := ok_Light_lamps (P := P) (w := w) (base := base) T
  have G_Light_wait := ok_Light_wait (P := P) (w := w) (base := base) T
  have G_empty_places := ok_empty_places (P := P) (w := w) (base := base) T
  have G_rows := ok_rows (P := P) (w := w) (base := base) T
  refine T.F_last_beats.ok sc_last_beats (fun vs H Q E h => ?_) (fun cdv A outer s H vs Q E hr h => ?_)
  · obtain ⟨g, g2, t, k1, k2, ls1, ls2, rfl, _⟩ := h; rfl
  · obtain ⟨g, g2, t, k1, k2, ls1, ls2, rfl, hg, hh, n1, n2, b1, b2, t0, t1, q⟩ := h
    refine ⟨_, (pss_cons (ps_set (i := 3) sc_last_beats.nd rfl (Or.inl rfl) (pe_lst pa_nil))
      (pss_cons (ps_for PassesOwn.never rfl (pi_list (pe_meth0 (pv 0) T.cl_Light T.m_Light_lamps G_Light_lamps (hr.mono (by decide)) T.b_Light_lamps .nil pass0)) (pg_name (i := 4) sc_last_beats.nd rfl (Or.inl rfl)) (pss_cons (ps_set (i := 5) sc_last_beats.nd rfl (Or.inl rfl) (pe_op op_add (pe_op op_sub (pe_op op_fdivW (pe_op op_sub (pv 2) (pe_fld (pv 4) rfl)) (pe_fld (pv 4) rfl)) (pe_meth0 (pv 1) T.cl_Light T.m_Light_wait G_Light_wait (hr.mono (by decide)) T.b_Light_wait .nil pass0)) pe_int))
      (pss_cons (ps_set (i := 6) sc_last_beats.nd rfl (Or.inl rfl) (pe_call G_empty_places (hr.mono (by decide)) rfl T.g_empty_places T.F_empty_places.kp T.b_empty_places .nil pass0 (pa_cons (pe_call G_rows (hr.mono (by decide)) rfl T.g_rows T.F_rows.kp T.b_rows .nil pass0 (pa_cons (pv 4) (pa_cons (pv 1) (pa_cons (pv 5) pa_nil)))) pa_nil)))
      (pss_one (ps_if (pt_truth (pv 6) (by intro _; rfl)) (pss_one (ps_expr (pe_bm PySem.F.plainAttrs_list PySem.F.slot_list_append PySem.F.type_list_append mt_append (pv 3) (pa_cons (pe_op op_add (pe_fld (pv 4) rfl) (pe_op op_mulW (pe_op op_add (pv 5) (pe_ix ix_list (pv 6) (pe_un un_neg pe_int) (fun _ _ => rfl))) (pe_fld (pv 4) rfl))) pa_nil)))) pss_nil)))))
      (pss_one (ps_ret (pv 3))))), ?_⟩
    obtain ⟨dx, L, xs, hg0, _, _⟩ := id hg
    have ok2 := hh.pos
    have w1 : (2 : Nat) ^ ls2.length ≤ 2 ^ 10 := Nat.pow_le_pow_right (by decide) n2
    refine ⟨(by show 0 ≤ sizeLine; decide), fun F hF => ?_⟩
    have s0 := same_new (o := .lst []) hF
    refine ⟨_, rfl, g, dx, _, rfl, s0 _ _ hg0, gf_no _ (by decide +kernel), g, k1, ls1, rfl, hg.same s0, n1, fun p ys H1 s1 hp hp1 ha1 => ?_⟩
    have S1 := s0.trans s1
    have hF1 := s1 _ _ (upd_same (H := H) (a := F) (o := .lst []))
    refine ⟨p, rfl, ⟨_, SqL.of hp1⟩, for_list (K := K) (a := p) (xs := ys) (fun i σ H' => (∃ v4 v5 v6, σ = [some (.ref g), some (.ref g2), some (.int t), some (.ref F), v4, v5, v6]) ∧ Same H H' ∧ H' p = some (.lst ys) ∧ AllL T.C_Lamp H' k1 ys ls1 ∧ ∃ bs : List Int, H' F = some (.lst (bs.map V.int)) ∧ bs.length ≤ i ∧ BacksIs bs (ls1.take i) ls2 t)
      ⟨⟨_, _, _, rfl⟩, S1, hp1, ha1, [], hF1, Nat.le_refl _, BacksIs.nil⟩ (fun i σ H' _ ⟨_, _, h, _⟩ => SqL.of h) ?_ ?_⟩
    · rintro i x σ H2 hi ⟨⟨v4, v5, v6, rfl⟩, s2, hp2, ha2, bs, hF2, lb, ho⟩
      obtain ⟨a, l, rfl, el, ha⟩ := ha2.at hi
      obtain ⟨p0, l0, l1⟩ := ha.ok _ rfl
      obtain ⟨_, _, _, _, _, _, zb⟩ := id ha
      obtain ⟨z1, z2⟩ := lt400 zb b1
      have il : i < ls1.length := (List.getElem?_eq_some_iff.mp el).1
      have hh2 := hh.same s2
      obtain ⟨dx2, _, _, hh0, _, _⟩ := id hh2
      -- first
      refine ⟨_, rfl, _, rfl, _, _, _, _, _, rfl, (ha.lamp).choose_spec, T.cl_Lamp, T.na_Lamp_beat, lf_beat _ _, _, _, rfl, rfl, _, rfl, _, _, _, _, _, rfl, (ha.lamp).choose_spec, T.cl_Lamp, T.na_Lamp_period, lf_period _ _, _, _, rfl, rfl, wide_div (b := 400) p0 (by omega) (by decide) (by decide), _, rfl, g2, dx2, _, rfl, hh0, gf_no _ (by decide +kernel), g2, k2, ls2, rfl, hh2, by omega, _, _, rfl, rfl, _, _, rfl, rfl, ?_⟩
      have eF : (t - l.2) / l.1 - 2 ^ ls2.length + 1 = lstN l t - 2 ^ ls2.length + 1 := rfl
      dsimp only
      rw [eF]
      refine ⟨_, rfl, _, rfl, _, rfl, a, g2, lstN l t - 2 ^ ls2.length + 1, k1, k2, l, ls2, rfl, ha, hh2, n2, by omega, b2, fun R H3 s3 hR => ?_⟩
      refine ⟨R, _, _, rfl, hR.r, by omega, fun D H4 s4 hD hD4 => ?_⟩
      have eO : (emptyL (2 ^ ls2.length) fun j => lrow ls2 (l.2 + (lstN l t - 2 ^ ls2.length + 1 + j) * l.1)) = outsL l ls2 (lstN l t - 2 ^ ls2.length + 1) := rfl
      rw [eO] at hD4
      have S4 := s3.trans s4
      have hF4 := S4 _ _ hF2
      have hp4 := S4 _ _ hp2
      have ha4 := ha2.same S4
      have hl4 := (ha.same S4).lamp
      obtain ⟨f0, f1⟩ := lst_lt p0 z2 l0 l1 t0 t1
      have np : p ≠ F := fun z => by rw [z, upd_same] at hp; cases hp
      refine ⟨_, rfl, !((outsL l ls2 (lstN l t - 2 ^ ls2.length + 1)).map fun j => V.int (j : Nat)).isEmpty, .inl ⟨_, SqL.of hD4, rfl⟩, ?_⟩
      by_cases e : outsL l ls2 (lstN l t - 2 ^ ls2.length + 1) = []
      · rw [e]
        refine iteF ⟨⟨_, _, _, rfl⟩, s2.trans S4, hp4, ha4, bs, hF4, by omega, ?_⟩
        have := ho.more (o := none) (outs_none p0 ok2 e)
        rw [show bs ++ (none : Option Int).toList = bs from List.append_nil bs] at this
        rw [List.take_succ, el]
        exact this
      · have e1 : (!((outsL l ls2 (lstN l t - 2 ^ ls2.length + 1)).map fun j => V.int (j : Nat)).isEmpty) = true := by
          cases z : outsL l ls2 (lstN l t - 2 ^ ls2.length + 1) with
          | nil => exact absurd z e
          | cons a r => rfl
        rw [e1]
        obtain ⟨j, hj⟩ : ∃ j, (outsL l ls2 (lstN l t - 2 ^ ls2.length + 1)).getLast? = some j := by
          cases z : (outsL l ls2 (lstN l t - 2 ^ ls2.length + 1)).getLast? with
          | none => exact absurd (List.getLast?_eq_none_iff.mp z) e
          | some j => exact ⟨j, rfl⟩
        have hjm := (outs_mem.mp (List.mem_of_getLast? hj)).1
        obtain ⟨r, hr⟩ := List.getLast?_eq_some_iff.mp hj
        have em : ((outsL l ls2 (lstN l t - 2 ^ ls2.length + 1)).map fun j => V.int (j : Nat)) = (r.map fun j => V.int (j : Nat)) ++ [V.int (j : Nat)] := by
          rw [hr, List.map_append]
          rfl
        rw [em] at hD4
        have w2 : (2 : Int) ^ ls2.length ≤ 2 ^ 10 := by exact_mod_cast w1
        have w3 : (0 : Int) < 2 ^ ls2.length := Int.pow_pos (by decide)
        refine iteT ⟨_, rfl, .inl ⟨rfl, _, SqL.of hF4⟩, _, rfl, _, _, _, _, _, rfl, (hl4).choose_spec, T.cl_Lamp, T.na_Lamp_beat, lf_beat _ _, _, rfl, _, rfl, _, rfl, D, _, _, _, rfl, rfl, SqL.of hD4, atI_last _ _, _, _, rfl, rfl, _, rfl, _, _, _, _, _, rfl, (hl4).choose_spec, T.cl_Lamp, T.na_Lamp_period, lf_period _ _, _, _, rfl, rfl, ?_, _, _, rfl, rfl, F, _, _, rfl, rfl, hF4, ?_, ?_⟩
        · exact wide_mul (a := 410) (b := 400) (by omega) (by omega) (by decide) (by decide) (by decide)
        · rw [List.length_map]
          exact Nat.lt_of_lt_of_le (show bs.length < 11 by omega) (by decide)
        · refine ⟨⟨_, _, _, rfl⟩, same_at (s2.trans S4) hF, by rw [upd_ne np]; exact hp4, ha4.mut hF4, bs ++ [l.2 + (lstN l t - 2 ^ ls2.length + 1 + j) * l.1], ?_, by rw [List.length_append]; exact Nat.succ_le_succ lb, ?_⟩
          · rw [upd_same, List.map_append]
            rfl
          · rw [List.take_succ, el]
            exact ho.more (outs_last p0 hj)
    · rintro σ H2 ⟨⟨v4, v5, v6, rfl⟩, s2, hp2, ha2, bs, hF2, lb, ho⟩
      rw [ha1.1] at lb
      rw [ha1.1, List.take_length] at ho
      exact ⟨_, rfl, q F bs H2 s2 hF hF2 (by omega) ho⟩
/-- what parted_back tells -/
def BackTold (H : Hp) (p : Addr) (ls1 ls2 : List (Int × Int)) (t : Int) : Prop :=
  (∃ b, H p = some (.tup [.str "beat", .int b]) ∧ b ≤ t ∧ ¬ (Bright ls1 b ↔ Bright ls2 b) ∧ ∀ x, b < x → x ≤ t → (Bright ls1 x ↔ Bright ls2 x)) ∨
  (∃ q1 q2, H p = some (.tup [.str "alike", .ref q1, .ref q2]) ∧ PapersAt H q1 (ls1.map (paperL ls2)) ∧ PapersAt H q2 (ls2.map (paperL ls1)) ∧ ∀ x, Bright ls1 x ↔ Bright ls2 x)
def spPartedB (C CG : Addr) : Sp := fun vs H Q _ => ∃ (g h : Addr) (t : Int) (k1 k2 : Nat) (ls1 ls2 : List (Int × Int)), vs = [.ref g, .ref h, .int t] ∧ LightAt C CG H g k1 ls1 ∧ LightAt C CG H h k2 ls2 ∧ ls1.length ≤ 10 ∧ ls2.length ≤ 10 ∧ k1 ≤ 400 ∧ k2 ≤ 400 ∧ -(2 ^ 400) < t ∧ t < 2 ^ 400 ∧
  ∀ p H', Same H H' → H p = none → BackTold H' p ls1 ls2 t → Q (.ref p) H'
theorem ok_parted_back (T : Top K mg) : FnOk P w K mg base CX0 8 T.f_parted_back T.d_parted_back ["one", "other", "begin"] (spPartedB T.C_Lamp T.C_Light) := by
  have G_check_beat := ok_check_beat (P := P) (w := w) (base := base) T
  have G_last_beats := ok_last_beats (P := P) (w := w) (base := base) T
  have G_papers := ok_papers (P := P) (w := w) (base := base) T
  refine T.F_parted_back.ok sc_parted_back (fun vs H Q E h => ?_) (fun cdv A outer s H vs Q E hr h => ?_)
  · obtain ⟨g, g2, t, k1, k2, ls1, ls2, rfl, _⟩ := h; rfl
  · obtain ⟨g, g2, t, k1, k2, ls1, ls2, rfl, hg, hh, n1, n2, b1, b2, t0, t1, q⟩ := h
    refine ⟨_, (pss_cons (ps_expr (pe_call G_check_beat (hr.mono (by decide)) rfl T.g_check_beat T.F_check_beat.kp T.b_check_beat .nil pass0 (pa_cons (pv 2) pa_nil)))
      (pss_cons (ps_set (i := 3) sc_parted_back.nd rfl (Or.inl rfl) (pe_op op_catS (pe_call G_last_beats (hr.mono (by decide)) rfl T.g_last_beats T.F_last_beats.kp T.b_last_beats .nil pass0 (pa_cons (pv 0) (pa_cons (pv 1) (pa_cons (pv 2) pa_nil)))) (pe_call G_last_beats (hr.mono (by decide)) rfl T.g_last_beats T.F_last_beats.kp T.b_last_beats .nil pass0 (pa_cons (pv 1) (pa_cons (pv 0) (pa_cons (pv 2) pa_nil))))))
      (pss_cons (ps_if (pt_truth (pv 3) (by intro _; rfl)) (pss_one (ps_ret (pe_tup (pa_cons pe_str (pa_cons (pe_callB (cr_max rfl) (by rfl) T.n_max (by decide +kernel) (pa_cons (pv 3) pa_nil)) pa_nil))))) pss_nil)
      (pss_one (ps_ret (pe_tup (pa_cons pe_str (pa_cons (pe_call G_papers (hr.mono (by decide)) rfl T.g_papers T.F_papers.kp T.b_papers .nil pass0 (pa_cons (pv 0) (pa_cons (pv 1) pa_nil))) (pa_cons (pe_call G_papers (hr.mono (by decide)) rfl T.g_papers T.F_papers.kp T.b_papers .nil pass0 (pa_cons (pv 1) (pa_cons (pv 0) pa_nil))) pa_nil))))))))), ?_⟩
    refine ⟨_, rfl, t, rfl, ?_⟩
    refine ⟨_, rfl, _, rfl, _, rfl, g, g2, t, k1, k2, ls1, ls2, rfl, hg, hh, n1, n2, b1, by omega, t0, t1, fun p1 bs1 H1 s1 _ e1 l1 o1 => ?_⟩
    refine ⟨_, rfl, _, rfl, _, rfl, g2, g, t, k2, k1, ls2, ls1, rfl, hh.same s1, hg.same s1, n2, n1, b2, by omega, t0, t1, fun p2 bs2 H2 s2 _ e2 l2 o2 => ?_⟩
    refine ⟨p1, p2, _, _, rfl, rfl, SqL.of (s2 _ _ e1), SqL.of e2, ?_, fun B hB => ?_⟩
    · rw [List.length_map, List.length_map]
      exact Nat.le_trans (show _ ≤ 20 by omega) (by decide)
    rw [← List.map_append]
    have s3 := same_new (o := .lst ((bs1 ++ bs2).map V.int)) hB
    have S3 := (s1.trans s2).trans s3
    have eB := upd_same (H := H2) (a := B) (o := .lst ((bs1 ++ bs2).map V.int))
    have hg3 := hg.same S3
    have hh3 := hh.same S3
    generalize upd H2 B (.lst ((bs1 ++ bs2).map V.int)) = H3 at *
    clear s1 s2 s3 e1 e2 hB
    refine ⟨_, rfl, !((bs1 ++ bs2).map V.int).isEmpty, .inl ⟨_, SqL.of eB, rfl⟩, ?_⟩
    by_cases hb : bs1 ++ bs2 = []
    · rw [hb]
      obtain ⟨z1, z2⟩ := List.append_eq_nil_iff.mp hb
      refine iteF ?_
      refine ⟨_, rfl, _, rfl, g, g2, k1, k2, ls1, ls2, rfl, hg3, hh3, n1, n2, by omega, by omega, o1.no z1, fun q1 H4 s4 _ hq1 => ?_⟩
      refine ⟨_, rfl, _, rfl, g2, g, k2, k1, ls2, ls1, rfl, hh3.same s4, hg3.same s4, n2, n1, by omega, by omega, o2.no z2, fun q2 H5 s5 _ hq2 => ⟨(by show 3 ≤ sizeLine; decide), fun p hp => ?_⟩⟩
      have S5 := S3.trans (s4.trans s5)
      have s6 := same_new (o := .tup [.str "alike", .ref q1, .ref q2]) hp
      exact q p _ (S5.trans s6) (back_none S5 hp) (.inr ⟨q1, q2, upd_same, (hq1.same s5).same s6, hq2.same s6, fun x => ⟨o1.no z1 x, o2.no z2 x⟩⟩)
    · have pos : 0 < (bs1 ++ bs2).length := List.length_pos_iff.mpr hb
      rw [show (!((bs1 ++ bs2).map V.int).isEmpty) = true by
        cases h : bs1 ++ bs2 with
        | nil => exact absurd h hb
        | cons x xs => rfl]
      refine iteT ?_
      refine ⟨_, rfl, B, bs1 ++ bs2, rfl, SqL.of eB, pos, fun m hm hle => ⟨(by show 2 ≤ sizeLine; decide), fun p hp => ?_⟩⟩
      have s6 := same_new (o := .tup [.str "beat", .int m]) hp
      refine q p _ (S3.trans s6) (back_none S3 hp) (.inl ⟨m, upd_same, ?_, ?_, fun x hlt hx => ?_⟩)
      · rcases List.mem_append.mp hm with h | h
        · exact (o1.at_ m h).1
        · exact (o2.at_ m h).1
      · rcases List.mem_append.mp hm with h | h
        · obtain ⟨_, a2, a3⟩ := o1.at_ m h
          exact fun z => a3 (z.mp a2)
        · obtain ⟨_, a2, a3⟩ := o2.at_ m h
          exact fun z => a3 (z.mpr a2)
      · constructor
        · intro h1
          by_cases h2 : Bright ls2 x
          · exact h2
          · obtain ⟨b, hb2, hbx⟩ := o1.ge x hx h1 h2
            have := hle b (List.mem_append_left _ hb2)
            omega
        · intro h1
          by_cases h2 : Bright ls1 x
          · exact h2
          · obtain ⟨b, hb2, hbx⟩ := o2.ge x hx h1 h2
            have := hle b (List.mem_append_right _ hb2)
            omega
end

section
def spLawB (K : PySem.W.Frag) : Sp := fun vs H Q _ => ∃ (a : Addr) (ns : List Int), vs = [.ref a] ∧ SqL K H a (ns.map V.int) ∧ ns.length ≤ 63 ∧ (∀ z ∈ ns, PySem.Builtin.Int.intBits z ≤ 1048576) ∧ ∀ H', Q (.bl true) H'
end

section
variable {P : Program} {w : World} {K : PySem.W.Frag} {mg : Str → Option Value} {base : Heap}
def spOne : Sp := fun vs H Q _ => ∃ (s : Addr) (n : Nat) (L : Addr) (xs : List V), vs = [.ref s, .ref L] ∧ Src H s n ∧ n < 900000 ∧ L ≠ s ∧ H L = some (.lst xs) ∧ 0 < xs.length ∧ xs.length ≤ 1000 ∧ ∀ x H', x ∈ xs → Src H' s (n + 1) → Dr s H H' → Q x H'
theorem ok_l_one (T : Top K mg) : FnOk P w K mg base CX0 2 T.f_l_one T.d_l_one ["_law_source_here", "_law_some"] spOne := by
  have G_l_take := ok_l_take (P := P) (w := w) (base := base) T
  refine T.F_l_one.ok sc_l_one (fun vs H Q E h => ?_) (fun cdv A outer s H vs Q E hr h => ?_)
  · obtain ⟨s, n, L, xs, rfl, _⟩ := h; rfl
  · obtain ⟨s, n, L, xs, rfl, hs, hn, ne, hL, h0, h1, q⟩ := h
    refine ⟨_, (pss_one (ps_ret (pe_ix ix_list (pv 1) (pe_call G_l_take (hr.mono (by decide)) rfl T.g_l_take T.F_l_take.kp T.b_l_take .nil pass0 (pa_cons (pv 0) (pa_cons (pe_callB call_len_seq (by rfl) T.n_len (by decide +kernel) (pa_cons (pv 1) pa_nil)) pa_nil))) (fun _ _ => rfl)))), ?_⟩
    refine ⟨_, rfl, _, rfl, _, rfl, L, _, rfl, .inl (SqL.of hL), s, _, _, rfl, hs, by omega, by omega, by omega, fun v H1 x0 x1 hs1 d1 => ?_⟩
    obtain ⟨k, rfl⟩ : ∃ k : Nat, v = k := ⟨v.toNat, by omega⟩
    have hk : k < xs.length := by omega
    exact ⟨L, _, _, _, rfl, rfl, SqL.of (d1 _ _ hL ne), at_of (j := k) rfl (List.getElem?_eq_getElem hk), q _ H1 (List.getElem_mem hk) hs1 d1⟩
end

section
variable {P : Program} {w : World} {K : PySem.W.Frag} {mg : Str → Option Value} {base : Heap}
/-! ### drawn lamps for two lights -/
def spWaitN : Sp := fun vs H Q _ => ∃ m : Nat, vs = [.int m] ∧ m ≤ 150 ∧ Q (.int (2 ^ m)) H
theorem ok_l_wait (T : Top K mg) : FnOk P w K mg base CX0 1 T.f_l_wait T.d_l_wait ["_law_many"] spWaitN := by
  refine T.F_l_wait.ok sc_l_wait (fun vs H Q E h => ?_) (fun cdv A outer s H vs Q E hr h => ?_)
  · obtain ⟨m, rfl, _⟩ := h; rfl
  · obtain ⟨m, rfl, hm, q⟩ := h
    refine ⟨_, (pss_cons (ps_set (i := 1) sc_l_wait.nd rfl (Or.inl rfl) pe_int)
      (pss_cons (ps_for PassesOwn.never rfl (pi_range1 (by rfl) T.n_range (pa_cons (pv 0) pa_nil)) (pg_name (i := 2) sc_l_wait.nd rfl (Or.inl rfl)) (pss_one (ps_set (i := 1) sc_l_wait.nd rfl (Or.inl rfl) (pe_op op_mulW pe_int (pv 1)))))
      (pss_one (ps_ret (pv 1))))), ?_⟩
    refine ⟨_, rfl, m, rfl, by omega, by omega, for_range (lo := 0) (n := m) (fun j σ H' => (∃ v2, σ = [some (.int m), some (.int (2 ^ j)), v2]) ∧ H' = H) ⟨⟨_, rfl⟩, rfl⟩ ?_ ?_⟩
    · rintro j σ H' hj ⟨⟨v2, rfl⟩, rfl⟩
      have p0 : (0 : Int) < 2 ^ j := Int.pow_pos (by decide)
      have p1 : (2 : Int) ^ j ≤ 2 ^ 150 := by
        have : (2 : Nat) ^ j ≤ 2 ^ 150 := Nat.pow_le_pow_right (by decide) (by omega)
        exact_mod_cast this
      refine ⟨_, rfl, _, _, rfl, rfl, mw (by decide) (by decide) (by omega) (by omega), ⟨some (.int (0 + (j : Int))), ?_⟩, rfl⟩
      have e : (2 : Int) * 2 ^ j = 2 ^ (j + 1) := by rw [Int.pow_succ, Int.mul_comm]
      exact congrArg (fun x => [some (V.int m), some (V.int x), some (V.int (0 + (j : Int)))]) e
    · rintro σ H' ⟨⟨v2, rfl⟩, rfl⟩
      exact ⟨_, rfl, q⟩
def OkP (zs : PZ) : Prop := ∀ z ∈ zs, 0 < z.2.1 ∧ z.2.1 < 2 ^ 64 ∧ -(2 ^ 70) < z.2.2 ∧ z.2.2 < 2 ^ 70
theorem OkP.z {zs : PZ} (h : OkP zs) : OkZ zs := fun z hz => ⟨(h z hz).1, by have := (h z hz).2.1; omega⟩
end

section
variable {P : Program} {w : World} {K : PySem.W.Frag} {mg : Str → Option Value} {base : Heap}
def spPeriod : Sp := fun vs H Q _ => ∃ (s : Addr) (n : Nat), vs = [.ref s] ∧ Src H s n ∧ n < 800000 ∧ ∀ v H', 0 < v → v < 2 ^ 64 → Src H' s (n + 8) → Dr s H H' → Q (.int v) H'
theorem ok_l_period (T : Top K mg) : FnOk P w K mg base CX0 3 T.f_l_period T.d_l_period ["_law_source_here"] spPeriod := by
  have G_l_one := ok_l_one (P := P) (w := w) (base := base) T
  have G_l_take := ok_l_take (P := P) (w := w) (base := base) T
  have G_l_wait := ok_l_wait (P := P) (w := w) (base := base) T
  refine T.F_l_period.ok sc_l_period (fun vs H Q E h => ?_) (fun cdv A outer s H vs Q E hr h => ?_)
  · obtain ⟨s, n, rfl, _⟩ := h; rfl
  · obtain ⟨s, n, rfl, hs, hn, q⟩ := h
    refine ⟨_, (pss_cons (ps_set (i := 1) sc_l_period.nd rfl (Or.inl rfl) (pe_call G_l_one (hr.mono (by decide)) rfl T.g_l_one T.F_l_one.kp T.b_l_one .nil pass0 (pa_cons (pv 0) (pa_cons (pe_lst (pa_cons pe_int (pa_cons pe_int (pa_cons pe_int (pa_cons (pe_op op_add (pe_op op_pow pe_int pe_int) pe_int) (pa_cons pe_int (pa_cons (pe_op op_mulW (pe_op op_add (pe_op op_pow pe_int pe_int) pe_int) pe_int) pa_nil))))))) pa_nil))))
      (pss_cons (ps_set (i := 2) sc_l_period.nd rfl (Or.inl rfl) (pe_lst (pa_cons (pe_op op_add pe_int (pe_call G_l_take (hr.mono (by decide)) rfl T.g_l_take T.F_l_take.kp T.b_l_take .nil pass0 (pa_cons (pv 0) (pa_cons pe_int pa_nil)))) (pa_cons (pe_op op_add pe_int (pe_call G_l_take (hr.mono (by decide)) rfl T.g_l_take T.F_l_take.kp T.b_l_take .nil pass0 (pa_cons (pv 0) (pa_cons pe_int pa_nil)))) (pa_cons (pe_call G_l_wait (hr.mono (by decide)) rfl T.g_l_wait T.F_l_wait.kp T.b_l_wait .nil pass0 (pa_cons (pe_call G_l_take (hr.mono (by decide)) rfl T.g_l_take T.F_l_take.kp T.b_l_take .nil pass0 (pa_cons (pv 0) (pa_cons pe_int pa_nil))) pa_nil)) pa_nil)))))
      (pss_cons (ps_set (i := 3) sc_l_period.nd rfl (Or.inl rfl) (pe_lst (pa_cons (pe_op op_mulW (pe_call G_l_wait (hr.mono (by decide)) rfl T.g_l_wait T.F_l_wait.kp T.b_l_wait .nil pass0 (pa_cons (pe_call G_l_take (hr.mono (by decide)) rfl T.g_l_take T.F_l_take.kp T.b_l_take .nil pass0 (pa_cons (pv 0) (pa_cons pe_int pa_nil))) pa_nil)) (pv 1)) (pa_cons (pv 1) (pa_cons (pe_op op_add pe_int (pe_op op_mulW (pe_call G_l_take (hr.mono (by decide)) rfl T.g_l_take T.F_l_take.kp T.b_l_take .nil pass0 (pa_cons (pv 0) (pa_cons (pe_op op_pow pe_int pe_int) pa_nil))) (pe_call G_l_take (hr.mono (by decide)) rfl T.g_l_take T.F_l_take.kp T.b_l_take .nil pass0 (pa_cons (pv 0) (pa_cons (pe_op op_pow pe_int pe_int) pa_nil))))) pa_nil)))))
      (pss_one (ps_ret (pe_call G_l_one (hr.mono (by decide)) rfl T.g_l_one T.F_l_one.kp T.b_l_one .nil pass0 (pa_cons (pv 0) (pa_cons (pe_op op_catS (pe_op op_catS (pv 2) (pv 2)) (pv 3)) pa_nil)))))))), ?_⟩
    -- great
    refine ⟨_, rfl, _, _, rfl, rfl, ⟨by decide, by decide, by decide⟩, _, _, rfl, rfl, _, _, rfl, rfl, ⟨by decide, by decide, by decide⟩, _, _, rfl, rfl, _, _, rfl, rfl, mw (by decide) (by decide) (by decide) (by decide), (by show 6 ≤ sizeLine; decide), fun l1 hl1 => ?_⟩
    refine ⟨s, _, l1, _, rfl, hs.same (same_new hl1), by omega, ne_src hs hl1, upd_same, by decide, by decide, fun x H2 hx hs2 d2 => ?_⟩
    have D2 := (Dr.of (s := s) (same_new (o := _) hl1)).trans d2
    obtain ⟨g, rfl, g0, g1⟩ : Btw 1 (2 ^ 40) x := by
      simp only [List.mem_cons, List.not_mem_nil, or_false] at hx
      rcases hx with rfl | rfl | rfl | rfl | rfl | rfl
      · exact ⟨_, rfl, by decide, by decide⟩
      · exact ⟨_, rfl, by decide, by decide⟩
      · exact ⟨_, rfl, by decide, by decide⟩
      · exact ⟨10 ^ 9 + 7, rfl, by decide, by decide⟩
      · exact ⟨_, rfl, by decide, by decide⟩
      · exact ⟨(10 ^ 9 + 7) * 3, rfl, by decide, by decide⟩
    -- small
    refine ⟨_, rfl, s, _, 6, rfl, hs2, by omega, by decide, by decide, fun a1 H3 a10 a11 hs3 d3 => ⟨_, _, rfl, rfl, ?_⟩⟩
    refine ⟨_, rfl, s, _, 30, rfl, hs3, by omega, by decide, by decide, fun a2 H4 a20 a21 hs4 d4 => ⟨_, _, rfl, rfl, ?_⟩⟩
    refine ⟨_, rfl, s, _, 9, rfl, hs4, by omega, by decide, by decide, fun a3 H5 a30 a31 hs5 d5 => ?_⟩
    obtain ⟨a3, rfl⟩ : ∃ k : Nat, a3 = k := ⟨a3.toNat, by omega⟩
    refine ⟨a3, rfl, by omega, (by show 3 ≤ sizeLine; decide), fun l2 hl2 => ?_⟩
    have p3 : (2 : Int) ^ a3 ≤ 2 ^ 9 := by
      have : (2 : Nat) ^ a3 ≤ 2 ^ 9 := Nat.pow_le_pow_right (by decide) (by omega)
      exact_mod_cast this
    have p30 : (0 : Int) < 2 ^ a3 := Int.pow_pos (by decide)
    generalize (2 : Int) ^ a3 = w3 at *
    have e2 := upd_same (H := H5) (a := l2) (o := .lst [.int (1 + a1), .int (1 + a2), .int w3])
    have s5 := same_new (o := .lst [.int (1 + a1), .int (1 + a2), .int w3]) hl2
    have n2 : l2 ≠ s := ne_src hs5 hl2
    have hs6 := hs5.same s5
    have D6 := (((D2.trans d3).trans d4).trans d5).then s5
    generalize upd H5 l2 (.lst [.int (1 + a1), .int (1 + a2), .int w3]) = H6 at *
    -- more
    refine ⟨_, rfl, s, _, 4, rfl, hs6, by omega, by decide, by decide, fun a4 H7 a40 a41 hs7 d7 => ?_⟩
    obtain ⟨a4, rfl⟩ : ∃ k : Nat, a4 = k := ⟨a4.toNat, by omega⟩
    have p4 : (2 : Int) ^ a4 ≤ 2 ^ 4 := by
      have : (2 : Nat) ^ a4 ≤ 2 ^ 4 := Nat.pow_le_pow_right (by decide) (by omega)
      exact_mod_cast this
    have p40 : (0 : Int) < 2 ^ a4 := Int.pow_pos (by decide)
    refine ⟨a4, rfl, by omega, ?_⟩
    generalize (2 : Int) ^ a4 = w4 at *
    have b4 : 0 < w4 * g := Int.mul_pos p40 (by omega)
    have b5 : w4 * g ≤ 2 ^ 4 * 2 ^ 40 := Int.mul_le_mul p4 g1 (by omega) (by decide)
    refine ⟨_, rfl, _, _, rfl, rfl, mw (by omega) (by omega) (by omega) (by omega), _, rfl, ?_⟩
    refine ⟨_, rfl, _, _, rfl, rfl, ⟨by decide, by decide, by decide⟩, s, _, _, rfl, hs7, by omega, by decide, by decide, fun a5 H8 a50 a51 hs8 d8 => ?_⟩
    have a51 : a5 < 10 ^ 9 := a51
    refine ⟨_, rfl, _, _, rfl, rfl, ⟨by decide, by decide, by decide⟩, s, _, _, rfl, hs8, by omega, by decide, by decide, fun a6 H9 a60 a61 hs9 d9 => ?_⟩
    have a61 : a6 < 10 ^ 9 := a61
    have b6 : 0 ≤ a5 * a6 := Int.mul_nonneg a50 a60
    have b7 : a5 * a6 ≤ 10 ^ 9 * 10 ^ 9 := Int.mul_le_mul (by omega) (by omega) a60 (by decide)
    refine ⟨_, _, rfl, rfl, mw (by omega) (by omega) (by omega) (by omega), _, _, rfl, rfl, (by show 3 ≤ sizeLine; decide), fun l3 hl3 => ?_⟩
    have D9 := ((D6.trans d7).trans d8).trans d9
    have e29 := d9 _ _ (d8 _ _ (d7 _ _ e2 n2) n2) n2
    have s10 := same_new (o := .lst [.int (w4 * g), .int g, .int (1 + a5 * a6)]) hl3
    have e3 := upd_same (H := H9) (a := l3) (o := .lst [.int (w4 * g), .int g, .int (1 + a5 * a6)])
    have e210 := s10 _ _ e29
    have hs10 := hs9.same s10
    have D10 := D9.then s10
    generalize upd H9 l3 (.lst [.int (w4 * g), .int g, .int (1 + a5 * a6)]) = H10 at *
    -- one(small + small + more)
    refine ⟨_, rfl, _, rfl, _, rfl, l2, l2, _, _, rfl, rfl, SqL.of e210, SqL.of e210, (by show 6 ≤ sizeLine; decide), fun p1 hp1 => ?_⟩
    have s11 := same_new (o := .lst ([.int (1 + a1), .int (1 + a2), .int w3] ++ [.int (1 + a1), .int (1 + a2), .int w3])) hp1
    refine ⟨_, rfl, p1, l3, _, _, rfl, rfl, SqL.of upd_same, SqL.of (s11 _ _ e3), (by show 9 ≤ sizeLine; decide), fun p2 hp2 => ?_⟩
    have s12 := same_new (o := .lst ([.int (1 + a1), .int (1 + a2), .int w3] ++ [.int (1 + a1), .int (1 + a2), .int w3] ++ [.int (w4 * g), .int g, .int (1 + a5 * a6)])) hp2
    have S := s11.trans s12
    refine ⟨s, _, p2, _, rfl, hs10.same S, by omega, ne_src (hs10.same s11) hp2, upd_same, (by show 0 < 9; decide), (by show 9 ≤ 1000; decide), fun x H13 hx hs13 d13 => ?_⟩
    obtain ⟨v, rfl, v0, v1⟩ : Btw 1 (2 ^ 62) x := by
      simp only [List.mem_append, List.mem_cons, List.not_mem_nil, or_false] at hx
      rcases hx with ((rfl | rfl | rfl) | (rfl | rfl | rfl)) | (rfl | rfl | rfl) <;> exact ⟨_, rfl, by omega, by omega⟩
    exact q v H13 (by omega) (by omega) (hs13.mono (by omega)) ((D10.then S).trans d13)
def spLampsT : Sp := fun vs H Q _ => ∃ (s : Addr) (n m : Nat), vs = [.ref s, .int m] ∧ Src H s n ∧ n < 400000 ∧ m ≤ 20 ∧
  ∀ F zs H', PairsA H' F zs → H F = none → zs.length ≤ m → OkP zs → Src H' s (n + 1 + 12 * m) → Dr s H H' → Q (.ref F) H'
theorem ok_l_lamps (T : Top K mg) : FnOk P w K mg base CX0 4 T.f_l_lamps T.d_l_lamps ["_law_source_here", "_law_most"] spLampsT := by
  have G_l_one := ok_l_one (P := P) (w := w) (base := base) T
  have G_l_period := ok_l_period (P := P) (w := w) (base := base) T
  have G_l_take := ok_l_take (P := P) (w := w) (base := base) T
  refine T.F_l_lamps.ok sc_l_lamps (fun vs H Q E h => ?_) (fun cdv A outer s H vs Q E hr h => ?_)
  · obtain ⟨s, n, m, rfl, _⟩ := h; rfl
  · obtain ⟨s, n, m, rfl, hs, hn, hm, q⟩ := h
    refine ⟨_, (pss_cons (ps_set (i := 2) sc_l_lamps.nd rfl (Or.inl rfl) (pe_lst pa_nil))
      (pss_cons (ps_for PassesOwn.never rfl (pi_range1 (by rfl) T.n_range (pa_cons (pe_call G_l_take (hr.mono (by decide)) rfl T.g_l_take T.F_l_take.kp T.b_l_take .nil pass0 (pa_cons (pv 0) (pa_cons (pe_op op_add (pv 1) pe_int) pa_nil))) pa_nil)) (pg_name (i := 3) sc_l_lamps.nd rfl (Or.inl rfl)) (pss_cons (ps_set (i := 4) sc_l_lamps.nd rfl (Or.inl rfl) (pe_call G_l_one (hr.mono (by decide)) rfl T.g_l_one T.F_l_one.kp T.b_l_one .nil pass0 (pa_cons (pv 0) (pa_cons (pe_lst (pa_cons (pe_call G_l_take (hr.mono (by decide)) rfl T.g_l_take T.F_l_take.kp T.b_l_take .nil pass0 (pa_cons (pv 0) (pa_cons pe_int pa_nil))) (pa_cons (pe_call G_l_take (hr.mono (by decide)) rfl T.g_l_take T.F_l_take.kp T.b_l_take .nil pass0 (pa_cons (pv 0) (pa_cons (pe_op op_pow pe_int pe_int) pa_nil))) (pa_cons (pe_op op_sub pe_int (pe_call G_l_take (hr.mono (by decide)) rfl T.g_l_take T.F_l_take.kp T.b_l_take .nil pass0 (pa_cons (pv 0) (pa_cons (pe_op op_pow pe_int pe_int) pa_nil)))) pa_nil)))) pa_nil))))
      (pss_one (ps_expr (pe_bm PySem.F.plainAttrs_list PySem.F.slot_list_append PySem.F.type_list_append mt_append (pv 2) (pa_cons (pe_tup (pa_cons (pe_call G_l_period (hr.mono (by decide)) rfl T.g_l_period T.F_l_period.kp T.b_l_period .nil pass0 (pa_cons (pv 0) pa_nil)) (pa_cons (pv 4) pa_nil))) pa_nil))))))
      (pss_one (ps_ret (pv 2))))), ?_⟩
    refine ⟨(by show 0 ≤ sizeLine; decide), fun F hF => ?_⟩
    have s1 := same_new (o := .lst []) hF
    have nF : F ≠ s := ne_src hs hF
    refine ⟨_, rfl, _, rfl, _, _, rfl, rfl, s, n, (m : Int) + 1, rfl, hs.same s1, by omega, by omega, by omega, fun v H1 v0 v1 hs1 d1 => ?_⟩
    have hF1 := d1 _ _ (upd_same (H := H) (a := F) (o := .lst [])) nF
    have D1 : Dr s H H1 := (Dr.of s1).trans d1
    obtain ⟨c, rfl⟩ : ∃ c : Nat, v = c := ⟨v.toNat, by omega⟩
    refine ⟨c, rfl, by omega, by omega, for_range (lo := 0) (n := c) (fun j σ H5 => (∃ v3 v4, σ = [some (.ref s), some (.int m), some (.ref F), v3, v4]) ∧ Src H5 s (n + 1 + 12 * j) ∧ Dr s H H5 ∧ ∃ zs, PairsA H5 F zs ∧ OkP zs ∧ zs.length = j)
      ⟨⟨_, _, rfl⟩, hs1, D1, [], ⟨hF1, fun _ hz => by cases hz⟩, (fun _ hz => by cases hz), rfl⟩ ?_ ?_⟩
    · rintro j σ H5 hj ⟨⟨v3, v4, rfl⟩, hs5, D5, zs, hp, ok, hl⟩
      refine ⟨_, rfl, _, rfl, s, _, 40, rfl, hs5, by omega, by decide, by decide, fun b1 H6 b10 b11 hs6 d6 => ?_⟩
      refine ⟨_, rfl, _, _, rfl, rfl, ⟨by decide, by decide, by decide⟩, s, _, _, rfl, hs6, by omega, by decide, by decide, fun b2 H7 b20 b21 hs7 d7 => ?_⟩
      have b21 : b2 < 10 ^ 9 := b21
      refine ⟨_, rfl, _, _, rfl, rfl, ⟨by decide, by decide, by decide⟩, s, _, _, rfl, hs7, by omega, by decide, by decide, fun b3 H8 b30 b31 hs8 d8 => ⟨_, _, rfl, rfl, (by show 3 ≤ sizeLine; decide), fun l1 hl1 => ?_⟩⟩
      have b31 : b3 < 10 ^ 20 := b31
      have s9 := same_new (o := .lst [.int b1, .int b2, .int (0 - b3)]) hl1
      refine ⟨s, _, l1, _, rfl, hs8.same s9, by omega, ne_src hs8 hl1, upd_same, (by show 0 < 3; decide), (by show 3 ≤ 1000; decide), fun x H10 hx hs10 d10 => ?_⟩
      obtain ⟨b, rfl, bl, bu⟩ : Btw (-(10 ^ 20)) (10 ^ 20) x := by
        simp only [List.mem_cons, List.not_mem_nil, or_false] at hx
        rcases hx with rfl | rfl | rfl <;> exact ⟨_, rfl, by omega, by omega⟩
      have hp8 := ((hp.dr hs5 d6).dr hs6 d7).dr hs7 d8
      have hp10 := (hp8.same s9).dr (hs8.same s9) d10
      have D10 := ((((D5.trans d6).trans d7).trans d8).then s9).trans d10
      refine ⟨_, rfl, .inl ⟨rfl, _, SqL.of hp10.1⟩, _, rfl, s, _, rfl, hs10, by omega, fun pp H11 pp0 pp1 hs11 d11 => ⟨_, rfl, (by show 2 ≤ sizeLine; decide), fun T0 hT0 => ?_⟩⟩
      have s12 := same_new (o := .tup [.int pp, .int b]) hT0
      have hp12 := (hp10.dr hs10 d11).same s12
      have hs12 := hs11.same s12
      have D12 := (D10.trans d11).then s12
      refine ⟨F, _, _, rfl, rfl, hp12.1, by rw [refsZ_len]; exact Nat.lt_of_lt_of_le (show zs.length < 21 by omega) (by decide), ?_⟩
      refine ⟨⟨_, _, rfl⟩, (hs12.mut (refs_ne hs12 hp12.1)).mono (by omega), D12.mut hF, zs ++ [(T0, (pp, b))], ⟨?_, ?_⟩, ?_, by rw [List.length_append, hl]; rfl⟩
      · rw [upd_same, ← refsZ_app]
        rfl
      · refine TupZ.mut (TupZ.app hp12.2 fun y hy => ?_) hp12.1
        rw [List.mem_singleton.mp hy]
        exact upd_same
      · intro y hy
        rcases List.mem_append.mp hy with h | h
        · exact ok y h
        · rw [List.mem_singleton.mp h]
          exact ⟨pp0, pp1, by show -(2 ^ 70) < b; omega, by show b < 2 ^ 70; omega⟩
    · rintro σ H5 ⟨⟨v3, v4, rfl⟩, hs5, D5, zs, hp, ok, hl⟩
      exact ⟨_, rfl, q F zs H5 hp hF (by omega) ok (hs5.mono (by omega)) D5⟩
end

section
variable {P : Program} {w : World} {K : PySem.W.Frag} {mg : Str → Option Value} {base : Heap}
def spMade (C CG : Addr) : Sp := fun vs H Q _ => ∃ (L : Addr) (zs : PZ), vs = [.ref L] ∧ PairsA H L zs ∧ OkZ zs ∧ zs.length ≤ 10 ∧
  ∀ g H', Same H H' → H g = none → LightAt C CG H' g 250 ((prs zs).map nrm) → Q (.ref g) H'
theorem ok_l_made (T : Top K mg) : FnOk P w K mg base CX0 7 T.f_l_made T.d_l_made ["_law_some"] (spMade T.C_Lamp T.C_Light) := by
  have G_Lamp_init := ok_Lamp_init (P := P) (w := w) (base := base) T
  have G_Light_init := ok_Light_init (P := P) (w := w) (base := base) T
  refine T.F_l_made.ok sc_l_made (fun vs H Q E h => ?_) (fun cdv A outer s H vs Q E hr h => ?_)
  · obtain ⟨L, zs, rfl, _⟩ := h; rfl
  · obtain ⟨L, zs, rfl, ⟨hL, hT⟩, ok, hn, q⟩ := h
    refine ⟨_, (pss_one (ps_ret (pe_make T.mk_Light G_Light_init (hr.mono (by decide)) (by rfl) T.gC_Light T.b_Light_init .nil pass0 (pa_cons (pe_lc (own := [("_law_lamp", 1)]) (g := gName 1) (by rfl) sc_l_made.nd (pi_list (pv 0)) (blkOk_by (own := [("_law_lamp", 1)]) (N := ["_law_some", "_law_lamp"]) (sc := defScope s_l_made) (by decide +kernel)) (fun _ _ _ _ _ => by exact (pg_name (i := 1) sc_l_made.nd rfl (Or.inl rfl))) (fun _ _ _ _ _ => by exact (pts_nil)) (fun _ _ _ _ _ => by exact (pe_make T.mk_Lamp G_Lamp_init (hr.mono (by decide)) (by rfl) T.gC_Lamp T.b_Lamp_init .nil pass0 (pa_cons (pe_ix (ix_tupB (K := K) rfl) (pv 1) pe_int (fun _ _ => rfl)) (pa_cons (pe_ix (ix_tupB (K := K) rfl) (pv 1) pe_int (fun _ _ => rfl)) pa_nil))))) pa_nil)))), ?_⟩
    refine ⟨_, rfl, L, rfl, ⟨_, SqL.of hL⟩, fun D hD => lc_list (K := K) (a := L) (xs := refsZ zs) (fun i H' => Same H H' ∧ ∃ ys, H' D = some (.lst ys) ∧ AllL T.C_Lamp H' 250 ys (((prs zs).map nrm).take i))
      ⟨same_new hD, [], upd_same, rfl, fun i v l h => by cases h⟩ (fun i H' _ ⟨s2, _⟩ => SqL.of (s2 _ _ hL)) (fun i x H' hi ⟨s2, ys, hD', ha'⟩ => ?_) (fun H' ⟨s2, ys, hD', ha'⟩ => ?_)⟩
    · obtain ⟨z, hz, rfl⟩ := get_map hi
      have mz := List.mem_of_getElem? hz
      have hT2 := s2 _ _ (hT z mz)
      obtain ⟨p0, p1⟩ := ok z mz
      refine ⟨rfl, ?_⟩
      refine ⟨_, rfl, z.1, _, _, _, rfl, rfl, SqT.of hT2, at_of (j := 0) rfl rfl, _, rfl, z.1, _, _, _, rfl, rfl, SqT.of hT2, at_of (j := 1) rfl rfl, ?_⟩
      intro x dx nx ndx nex; refine ⟨x, dx, z.2.1, z.2.2, rfl, upd_same, p0, fun H3 hx kx => ⟨rfl, ?_⟩⟩; have sx := Same.made nx ndx kx; clear kx nex ndx
      have hD3 := sx _ _ hD'
      refine ⟨ys, hD3, ?_, same_at (s2.trans sx) hD, _, upd_same, ?_⟩
      · rw [ha'.1, List.length_take, List.length_map]
        unfold prs
        rw [List.length_map]
        exact Nat.lt_of_lt_of_le (show min i zs.length < 11 by omega) (by decide)
      · have el : ((prs zs).map nrm)[i]? = some (nrm z.2) := by
          unfold prs
          rw [List.getElem?_map, List.getElem?_map, hz]
          rfl
        rw [List.take_succ, el]
        refine AllL.more (AllL.mut (ha'.same sx) hD3) (OAt.mut ⟨x, rfl, hx, p0, Int.emod_nonneg _ (by show z.2.1 ≠ 0; omega), Int.emod_lt_of_pos _ p0, ?_⟩ hD3)
        show z.2.1.natAbs < 2 ^ 250
        omega
    · have len : (refsZ zs).length = ((prs zs).map nrm).length := by unfold refsZ prs; rw [List.length_map, List.length_map, List.length_map]
      rw [len, List.take_length] at ha'
      refine make_light rfl hD' ha' (by rw [← len]; unfold refsZ; rw [List.length_map]; exact hn) fun g H3 hg s3 hl => ?_
      exact q g H3 (s2.trans s3) (back_none s2 hg) hl
end

section
variable {P : Program} {w : World} {K : PySem.W.Frag} {mg : Str → Option Value} {base : Heap}
theorem perm_pop {α : Type} : ∀ {xs : List α} {k : Nat} {x : α}, xs[k]? = some x → (x :: xs.eraseIdx k).Perm xs
  | y :: ys, 0, x, h => by cases h; exact List.Perm.refl _
  | y :: ys, k + 1, x, h => (List.Perm.swap y x _).trans ((perm_pop (xs := ys) (k := k) h).cons y)
theorem erase_len {α : Type} {xs : List α} {k : Nat} (h : k < xs.length) : (xs.eraseIdx k).length = xs.length - 1 := List.length_eraseIdx_of_lt h
theorem refsZ_erase (zs : PZ) (k : Nat) : (refsZ zs).eraseIdx k = refsZ (zs.eraseIdx k) := by
  unfold refsZ
  induction zs generalizing k with
  | nil => rfl
  | cons z zs ih =>
    cases k with
    | zero => rfl
    | succ k =>
      show V.ref z.1 :: (zs.map fun z => V.ref z.1).eraseIdx k = _
      rw [ih]
      rfl
theorem ne_nilD {H : Hp} {L : Addr} {zs : PZ} {Q : VK} {l0 : Addr} (h : PairsA H L zs) (h0 : H l0 = some (.lst [])) (q : Q (.bl (!zs.isEmpty)) H) : rNeD K (.ref L) (.ref l0) H Q := by
  refine ⟨dPairs zs, .list [], dp_pairs h, .lst (SqL.of h0) .nil, (okD_pairs zs).sh (by decide), (okD_list (n := 0) (ds := []) (fun _ hd => by cases hd)).sh (by decide), ?_⟩
  rw [eqv_pairs_nil]
  exact q
theorem seq_nat {k n : Nat} (h : k < n) : seqIndex? (k : Int) n = some k := by
  have h1 : ¬ ((k : Int) < 0) := by omega
  have h2 : (k : Int) < n := by omega
  unfold seqIndex?
  simp [h1, h2]
def spShuf : Sp := fun vs H Q _ => ∃ (s : Addr) (n : Nat) (L : Addr) (zs : PZ), vs = [.ref s, .ref L] ∧ Src H s n ∧ n < 100000 ∧ PairsA H L zs ∧ zs.length ≤ 100 ∧
  ∀ F ys H', ys.Perm zs → PairsA H' F ys → H F = none → Src H' s (n + zs.length) → Dr s H H' → Q (.ref F) H'
theorem ok_l_mixed (T : Top K mg) : FnOk P w K mg base CX0 3 T.f_l_mixed T.d_l_mixed ["_law_source_here", "_law_some"] spShuf := by
  have G_Lamp_eq := ok_Lamp_eq (P := P) (w := w) (base := base) T
  have G_l_take := ok_l_take (P := P) (w := w) (base := base) T
  refine T.F_l_mixed.ok sc_l_mixed (fun vs H Q E h => ?_) (fun cdv A outer s H vs Q E hr h => ?_)
  · obtain ⟨s, n, L, zs, rfl, _⟩ := h; rfl
  · obtain ⟨s, n, L, zs, rfl, hs, hn, hp, hz, q⟩ := h
    refine ⟨_, (pss_cons (ps_set (i := 2) sc_l_mixed.nd rfl (Or.inl rfl) (pe_callTy call_list_of (by rfl) T.n_list (by decide +kernel) (pa_cons (pv 1) pa_nil)))
      (pss_cons (ps_set (i := 3) sc_l_mixed.nd rfl (Or.inl rfl) (pe_lst pa_nil))
      (pss_cons (ps_while PassesOwn.never (pt_cmpR (op_neD hr.units) (pv 2) (pe_lst pa_nil) (nomark _)) (pss_one (ps_expr (pe_bm PySem.F.plainAttrs_list PySem.F.slot_list_append PySem.F.type_list_append mt_append (pv 3) (pa_cons (pe_bm PySem.F.plainAttrs_list PySem.F.slot_list_pop PySem.F.type_list_pop mt_popAt (pv 2) (pa_cons (pe_call G_l_take (hr.mono (by decide)) rfl T.g_l_take T.F_l_take.kp T.b_l_take .nil pass0 (pa_cons (pv 0) (pa_cons (pe_callB call_len_seq (by rfl) T.n_len (by decide +kernel) (pa_cons (pv 2) pa_nil)) pa_nil))) pa_nil)) pa_nil)))))
      (pss_one (ps_ret (pv 3)))))), ?_⟩
    refine ⟨_, rfl, L, _, rfl, .inl (SqL.of hp.1), fun l hl => ?_⟩
    have s1 := same_new (o := .lst (refsZ zs)) hl
    refine ⟨(by show 0 ≤ sizeLine; decide), fun F hF => ?_⟩
    have s2 := same_new (o := .lst []) hF
    have s12 : Same H _ := s1.trans s2
    have hF0 : H F = none := back_none s1 hF
    have lF : l ≠ F := fun e => by rw [← e, upd_same] at hF; cases hF
    refine ⟨fun m σ H' => σ = [some (.ref s), some (.ref L), some (.ref l), some (.ref F)] ∧ ∃ zl zf : PZ, H' l = some (.lst (refsZ zl)) ∧ H' F = some (.lst (refsZ zf)) ∧ TupZ H' (zf ++ zl) ∧ (zf ++ zl).Perm zs ∧ zl.length = m ∧ Src H' s (n + zf.length) ∧ Dr s H H',
      ⟨_, rfl, zs, [], by rw [upd_ne lF]; exact upd_same, upd_same, hp.2.same s12, List.Perm.refl _, rfl, hs.same s12, Dr.of s12⟩, ?_⟩
    rintro m σ H1 ⟨rfl, zl, zf, h1, h2, hT, pm, hm, hs1, d1⟩
    have hT2 : TupZ H1 zl := fun z hz => hT z (List.mem_append_right _ hz)
    have hlen := pm.length_eq
    rw [List.length_append] at hlen
    refine ⟨_, rfl, (by show 0 ≤ sizeLine; decide), fun l0 h0 => ?_⟩
    have s3 := same_new (o := .lst []) h0
    refine ne_nilD (zs := zl) ⟨s3 _ _ h1, hT2.same s3⟩ upd_same ⟨_, rfl, ?_⟩
    cases zl with
    | nil =>
      refine iteF ?_
      have es : zf.length = zs.length := by simpa using hlen
      rw [List.append_nil] at pm hT
      exact ⟨_, rfl, q F zf _ pm (PairsA.same ⟨h2, hT⟩ s3) hF0 (by rw [← es]; exact hs1.same s3) (d1.then s3)⟩
    | cons z0 zr =>
      refine iteT ?_
      generalize hzl : z0 :: zr = zl at *
      have l1 : 0 < zl.length := by rw [← hzl]; exact Nat.succ_pos _
      have hl3 := s3 _ _ h1
      have hF3 := s3 _ _ h2
      have hT3 := hT.same s3
      have hs3 := hs1.same s3
      have d3 := d1.then s3
      generalize upd H1 l0 (.lst []) = H3 at *
      refine ⟨_, fun σ' H' p => p, ?_⟩
      have rl : (refsZ zl).length = zl.length := by unfold refsZ; rw [List.length_map]
      refine ⟨_, rfl, .inl ⟨rfl, _, SqL.of hF3⟩, _, rfl, .inl ⟨rfl, _, SqL.of hl3⟩, _, rfl, _, rfl, l, _, rfl, .inl (SqL.of hl3), s, _, _, rfl, hs3, by omega, by rw [rl]; omega, by rw [rl]; omega, fun v H4 v0 v1 hs4 d4 => ?_⟩
      have hl4 := d4 _ _ hl3 (refs_ne hs3 hl3)
      have hF4 := d4 _ _ hF3 (refs_ne hs3 hF3)
      have hT4 := hT3.dr hs3 d4
      rw [rl] at v1
      obtain ⟨k, rfl⟩ : ∃ k : Nat, v = k := ⟨v.toNat, by omega⟩
      have hk : k < zl.length := by omega
      obtain ⟨z, hz⟩ : ∃ z, zl[k]? = some z := ⟨_, List.getElem?_eq_getElem hk⟩
      have lz : (refsZ zf).length < sizeLine := by
        unfold refsZ
        rw [List.length_map]
        exact Nat.lt_of_lt_of_le (show zf.length < 101 by omega) (by decide)
      refine ⟨l, refsZ zl, _, k, .ref z.1, rfl, rfl, hl4, by omega, by omega, by rw [rl]; exact seq_nat hk, by unfold refsZ; rw [List.getElem?_map, hz]; rfl, F, refsZ zf, .ref z.1, rfl, rfl, by rw [upd_ne lF.symm]; exact hF4, lz, ?_⟩
      have hF5 : upd H4 l (.lst ((refsZ zl).eraseIdx k)) F = some (.lst (refsZ zf)) := by rw [upd_ne lF.symm]; exact hF4
      refine ⟨zl.length - 1, by omega, rfl, zl.eraseIdx k, zf ++ [z], ?_, ?_, ?_, ?_, erase_len hk, ?_, ?_⟩
      · rw [upd_ne lF, upd_same, refsZ_erase]
      · rw [upd_same]
        unfold refsZ
        rw [List.map_append]
        rfl
      · refine TupZ.mut (TupZ.mut (fun y hy => hT4 y ?_) hl4) hF5
        rcases List.mem_append.mp hy with hy | hy
        · rcases List.mem_append.mp hy with hy | hy
          · exact List.mem_append_left _ hy
          · rw [List.mem_singleton.mp hy]
            exact List.mem_append_right _ (List.mem_of_getElem? hz)
        · exact List.mem_append_right _ (List.mem_of_mem_eraseIdx hy)
      · refine List.Perm.trans ?_ pm
        rw [List.append_assoc]
        exact (perm_pop hz).append_left zf
      · have e : n + (zf ++ [z]).length = n + zf.length + 1 := by rw [List.length_append]; rfl
        rw [e]
        exact (hs4.mut (refs_ne hs4 hl4)).mut (refs_ne (hs4.mut (refs_ne hs4 hl4)) hF5)
      · exact ((d3.trans d4).mut hl).mut hF0
end

section
variable {P : Program} {w : World} {K : PySem.W.Frag} {mg : Str → Option Value} {base : Heap}
/-- a word and a beat, or another word with more -/
def TellsO (H : Hp) (p : Addr) (w : Str) : Option Int → Prop
  | some b => H p = some (.tup [.str "beat", .int b])
  | none => ∃ v vs, H p = some (.tup (.str w :: .ref v :: vs)) ∧ vs.length ≤ 1
theorem TellsO.same {H H' : Hp} {p : Addr} {w : Str} {o : Option Int} (h : TellsO H p w o) (s : Same H H') : TellsO H' p w o := by
  cases o with
  | none => obtain ⟨v, vs, e, l⟩ := h; exact ⟨v, vs, s _ _ e, l⟩
  | some b => exact s _ _ h
def spWithin (C CG : Addr) : Sp := fun vs H Q _ => ∃ (g h : Addr) (t : Int) (k1 k2 : Nat) (ls1 ls2 : List (Int × Int)), vs = [.ref g, .ref h, .int t] ∧ LightAt C CG H g k1 ls1 ∧ LightAt C CG H h k2 ls2 ∧ ls1.length ≤ 10 ∧ ls2.length ≤ 10 ∧ k1 ≤ 400 ∧ k2 ≤ 400 ∧ -(2 ^ 400) < t ∧ t < 2 ^ 400 ∧
  ∀ p o H', Same H H' → H p = none → FirstO ls1 ls2 t o → TellsO H' p "within" o → (o = none → ∃ q, H' p = some (.tup [.str "within", .ref q]) ∧ PapersAt H' q (ls1.map (paperL ls2))) → Q (.ref p) H'
end

section
variable {P : Program} {w : World} {K : PySem.W.Frag} {mg : Str → Option Value} {base : Heap}
theorem PartTold.o {H : Hp} {p : Addr} {ls1 ls2 : List (Int × Int)} {t : Int} (h : PartTold H p ls1 ls2 t) : ∃ o, PartO ls1 ls2 t o ∧ TellsO H p "alike" o := by
  rcases h with ⟨b, e, h1, h2, h3⟩ | ⟨q1, q2, e, _, _, h3⟩
  · exact ⟨some b, ⟨h1, h2, h3⟩, e⟩
  · exact ⟨none, h3, q1, [.ref q2], e, Nat.le_refl _⟩
end

section
variable {P : Program} {w : World} {K : PySem.W.Frag} {mg : Str → Option Value} {base : Heap}
theorem BackTold.o {H : Hp} {p : Addr} {ls1 ls2 : List (Int × Int)} {t : Int} (h : BackTold H p ls1 ls2 t) : ∃ o, BackO ls1 ls2 t o ∧ TellsO H p "alike" o := by
  rcases h with ⟨b, e, h1, h2, h3⟩ | ⟨q1, q2, e, _, _, h3⟩
  · exact ⟨some b, ⟨h1, h2, h3⟩, e⟩
  · exact ⟨none, h3, q1, [.ref q2], e, Nat.le_refl _⟩
end

section
variable {P : Program} {w : World} {K : PySem.W.Frag} {mg : Str → Option Value} {base : Heap}
def oV : Option Int → V
  | some x => .int x
  | none => .non
def spCellAt (K : PySem.W.Frag) : Sp := fun vs H Q _ => ∃ (a : Addr) (ns : List Int), vs = [.ref a, .int 0] ∧ SqL K H a (ns.map V.int) ∧ (∀ z ∈ ns, PySem.Builtin.Int.intBits z ≤ 1048576) ∧ ∀ z : Int, PySem.Builtin.Int.intBits z ≤ 1048576 → Q (.int z) H
theorem ok_l_cell_at (T : Top K mg) : FnOk P w K mg base CX0 1 T.f_l_cell_at T.d_l_cell_at ["_law_script", "_law_k"] (spCellAt K) := by
  refine T.F_l_cell_at.ok sc_l_cell_at (fun vs H Q E h => ?_) (fun cdv A outer s H vs Q E hr h => ?_)
  · obtain ⟨a, ns, rfl, _⟩ := h; rfl
  · obtain ⟨a, ns, rfl, hS, hB, q⟩ := h
    refine ⟨_, (pss_cons (ps_if (pt_cmpR op_lt (pv 1) (pe_callB call_len_seq (by rfl) T.n_len (by decide +kernel) (pa_cons (pv 0) pa_nil)) (nomark _)) (pss_one (ps_ret (pe_ix ix_list (pv 0) (pv 1) (fun _ _ => rfl)))) pss_nil)
      (pss_one (ps_ret pe_int))), ?_⟩
    refine ⟨_, rfl, _, rfl, a, _, rfl, .inl hS, _, _, rfl, rfl, _, rfl, ite2 (fun hlt => ?_) (fun _ => ?_)⟩
    · have h0 : (0 : Int) < ((ns.map V.int).length : Nat) := of_decide_eq_true hlt
      rw [List.length_map] at h0
      cases ns with
      | nil => exact absurd h0 (by decide)
      | cons z zs => exact ⟨_, rfl, _, rfl, a, _, _, _, rfl, rfl, hS, at_of (j := 0) rfl rfl, q z (hB z (.head _))⟩
    · exact q 0 (by decide)
theorem pairs_push {H : Hp} {s F L T : Addr} {n : Nat} {ws zs : PZ} {a b : Int} (hs : Src H s n) (hw : PairsA H F ws) (hp : PairsA H L zs) (nLF : L ≠ F) (hT : H T = Option.none) :
    Src (upd (upd H T (.tup [.int a, .int b])) F (.lst (refsZ ws ++ [.ref T]))) s n ∧ PairsA (upd (upd H T (.tup [.int a, .int b])) F (.lst (refsZ ws ++ [.ref T]))) L zs ∧ PairsA (upd (upd H T (.tup [.int a, .int b])) F (.lst (refsZ ws ++ [.ref T]))) F (ws ++ [(T, (a, b))]) := by
  have s9 := same_new (o := .tup [.int a, .int b]) hT
  have hw9 := hw.same s9
  have hp9 := hp.same s9
  have hs9 := hs.same s9
  refine ⟨hs9.mut (refs_ne hs9 hw9.1), ⟨by rw [upd_ne nLF]; exact hp9.1, TupZ.mut hp9.2 hw9.1⟩, ⟨by rw [upd_same, ← refsZ_app]; rfl, ?_⟩⟩
  refine TupZ.mut (TupZ.app hw9.2 fun y hy => ?_) hw9.1
  rw [List.mem_singleton.mp hy]
  exact upd_same
end

section
variable {P : Program} {w : World} {K : PySem.W.Frag} {mg : Str → Option Value} {base : Heap}
theorem neV_same {o : Option Int} {Q : VK} {H : Hp} (q : Q (.bl false) H) : rNe (oV o) (oV o) H Q := by
  cases o with
  | none => exact ⟨rfl, by rw [decide_eq_true rfl]; exact q⟩
  | some x => exact ⟨rfl, by rw [decide_eq_true rfl]; exact q⟩
theorem eqV_same {o : Option Int} {Q : VK} {H : Hp} (q : Q (.bl true) H) : rEq (oV o) (oV o) H Q := by
  cases o with
  | none => exact ⟨rfl, by rw [decide_eq_true rfl]; exact q⟩
  | some x => exact ⟨rfl, by rw [decide_eq_true rfl]; exact q⟩
def wordO (w : Str) : Option Int → Str
  | some _ => "beat"
  | none => w
theorem TellsO.word {H : Hp} {p : Addr} {w : Str} {o : Option Int} (h : TellsO H p w o) : ∃ xs, H p = some (.tup (.str (wordO w o) :: xs)) ∧ 1 ≤ xs.length := by
  cases o with
  | some b => exact ⟨[.int b], h, Nat.le_refl _⟩
  | none => obtain ⟨v, vs, e, _⟩ := h; exact ⟨.ref v :: vs, e, Nat.succ_le_succ (Nat.zero_le _)⟩
theorem cut_one {x : V} {xs : List V} : cutV (x :: xs) none (some 1) = [x] := by
  rw [cut_head (by decide)]
  rfl
theorem cut_less {x : V} {xs : List V} (h : 1 ≤ xs.length) : ¬ (HT.sIx (x :: xs).length 0 none = 0 ∧ HT.sIx (x :: xs).length (x :: xs).length (some 1) = (x :: xs).length) := by
  rintro ⟨_, e⟩
  have e2 : HT.sIx (x :: xs).length (x :: xs).length (some 1) = min 1 (x :: xs).length := by unfold HT.sIx; simp
  rw [e2, List.length_cons] at e
  omega
theorem nw_within : ¬ (("within" : Str) = "beat") := by decide +kernel
theorem nw_alike : ¬ (("alike" : Str) = "beat") := by decide +kernel
theorem prs_nrm_app (zs ws : PZ) : (prs (zs ++ ws)).map nrm = (prs zs).map nrm ++ (prs ws).map nrm := by
  unfold prs
  rw [List.map_append, List.map_append]
end

section
variable {P : Program} {w : World} {K : PySem.W.Frag} {mg : Str → Option Value} {base : Heap}
def spLitL : Sp := fun vs H Q _ => ∃ (L : Addr) (t : Int) (zs : PZ), vs = [.ref L, .int t] ∧ PairsA H L zs ∧ (∀ z ∈ zs, 0 < z.2.1) ∧ zs.length ≤ 1000 ∧
  ∀ p H', Same H H' → H p = none → H' p = some (.lst ((lrow (prs zs) t).map V.int)) → Q (.ref p) H'
theorem ok_l_lit (T : Top K mg) : FnOk P w K mg base CX0 3 T.f_l_lit T.d_l_lit ["_law_some", "_law_beat"] spLitL := by
  have G_Lamp_eq := ok_Lamp_eq (P := P) (w := w) (base := base) T
  refine T.F_l_lit.ok sc_l_lit (fun vs H Q E h => ?_) (fun cdv A outer s H vs Q E hr h => ?_)
  · obtain ⟨L, t, zs, rfl, _⟩ := h; rfl
  · obtain ⟨L, t, zs, rfl, ⟨hL, hT⟩, ok, hn, q⟩ := h
    refine ⟨_, (pss_one (ps_ret (pe_lc (own := [("_law_k", 2), ("_law_lamp", 3)]) (g := gTup K 2 (gCons (gName 2) (gCons (gName 3) gNil))) (tt := _) (by rfl) sc_l_lit.nd (pi_enum (by rfl) T.n_enumerate (pa_cons (pv 0) pa_nil)) (blkOk_by (own := [("_law_k", 2), ("_law_lamp", 3)]) (N := ["_law_some", "_law_beat", "_law_k", "_law_lamp"]) (sc := defScope s_l_lit) (by decide +kernel)) (fun _ _ _ _ _ => by exact (pg_tupB (K := K) rfl (by rfl) (pgs_cons (pg_name (i := 2) sc_l_lit.nd rfl (Or.inl rfl)) (pgs_cons (pg_name (i := 3) sc_l_lit.nd rfl (Or.inl rfl)) pgs_nil)))) (fun _ _ _ _ _ => by exact (pts_one (pt_cmpR op_eq (pe_op op_modN (pe_op op_sub (pv 1) (pe_ix (ix_tupB (K := K) rfl) (pv 3) pe_int (fun _ _ => rfl))) (pe_ix (ix_tupB (K := K) rfl) (pv 3) pe_int (fun _ _ => rfl))) pe_int (nomark _)))) (fun _ _ _ _ _ => by exact ((pv 2)))))), ?_⟩
    refine ⟨_, rfl, L, refsZ zs, rfl, SqL.of hL, fun D hD => lc_it (walk_enum (K := K) (a := L) (xs := refsZ zs)) (fun i H' => Same H H' ∧ H' D = some (.lst ((rowOf ((numF 0 (prs zs)).take i) t).map V.int))) ⟨same_new hD, upd_same⟩ (fun i H' _ ⟨s2, _⟩ => SqL.of (s2 _ _ hL)) ?_ ?_⟩
    · rintro i x H2 H3 hi ⟨s2, hD2⟩ ⟨T', x1, x2, rfl, hT', rfl, e1, e2⟩
      cases e1
      obtain ⟨z, hz, rfl⟩ := get_map (show (zs.map fun z => V.ref z.1)[i]? = some x2 from e2)
      have mz := List.mem_of_getElem? hz
      have s3 : Same H (upd H2 T' (.tup [.int (i : Nat), .ref z.1])) := same_at s2 (back_none s2 hT')
      have hD3 : upd H2 T' (.tup [.int (i : Nat), .ref z.1]) D = some (.lst ((rowOf ((numF 0 (prs zs)).take i) t).map V.int)) := by rw [upd_ne (ne_of_none hD2 hT')]; exact hD2
      have hz3 := s3 _ _ (hT z mz)
      have p0 := ok z mz
      refine ⟨T', _, rfl, SqT.of upd_same, rfl, _, _, rfl, _, _, rfl, rfl, rfl, ?_⟩
      generalize upd H2 T' (.tup [.int (i : Nat), .ref z.1]) = H3 at *
      have el : (prs zs)[i]? = some z.2 := by unfold prs; rw [List.getElem?_map, hz]; rfl
      have et := rowOf_numF_take el t
      refine ⟨_, rfl, _, rfl, z.1, _, _, _, rfl, rfl, SqT.of hz3, at_of (j := 1) rfl rfl, _, _, rfl, rfl, _, rfl, z.1, _, _, _, rfl, rfl, SqT.of hz3, at_of (j := 0) rfl rfl, _, _, rfl, rfl, by omega, rfl, _, rfl, ?_⟩
      have eb : decide (V.int ((t - z.2.2).fmod z.2.1) = V.int 0) = shB z.2 t := by
        rw [dec_int, fmod_pos p0]
        exact decide_eq_decide.mpr dvd_iff_emod
      show if decide (V.int ((t - z.2.2).fmod z.2.1) = V.int 0) = true then _ else _
      rw [eb]
      cases e : shB z.2 t with
      | true =>
        rw [e] at et
        refine iteT ⟨_, rfl, _, hD3, ?_, same_at s3 hD, ?_⟩
        · have h1 := rowOf_len ((numF 0 (prs zs)).take i) t
          have h2 := List.length_take_le' i (numF 0 (prs zs))
          rw [numF_len, prs_len] at h2
          rw [List.length_map]
          exact Nat.lt_of_lt_of_le (show _ < 1001 by omega) (by decide)
        · rw [upd_same, et, List.map_append]
          rfl
      | false =>
        rw [e] at et
        refine iteF ⟨s3, ?_⟩
        rw [hD3, et]
        simp
    · rintro H2 ⟨s2, hD2⟩
      rw [refsZ_len, ← prs_len, ← numF_len (prs zs) 0, List.take_length] at hD2
      exact q D H2 s2 hD hD2
/-- the own beats of a lamp that are dark: the first of these is told -/
def spFirstL : Sp := fun vs H Q _ => ∃ (R L : Addr) (t p b : Int) (zs : PZ), vs = [.ref R, .ref L, .int t] ∧ H R = some (.tup [.int p, .int b]) ∧ PairsA H L zs ∧ (∀ z ∈ zs, 0 < z.2.1) ∧ zs.length ≤ 10 ∧ 0 < p ∧ p < 2 ^ 180 ∧ -(2 ^ 180) < t ∧ t < 2 ^ 180 ∧
  ∀ o H', Same H H' → OutIs (p, b) (prs zs) t o → Q (oV o) H'
theorem ok_l_first (T : Top K mg) : FnOk P w K mg base CX0 4 T.f_l_first T.d_l_first ["_law_lamp", "_law_some", "_law_moment"] spFirstL := by
  have G_Lamp_eq := ok_Lamp_eq (P := P) (w := w) (base := base) T
  have G_l_lit := ok_l_lit (P := P) (w := w) (base := base) T
  have G_l_wait := ok_l_wait (P := P) (w := w) (base := base) T
  refine T.F_l_first.ok sc_l_first (fun vs H Q E h => ?_) (fun cdv A outer s H vs Q E hr h => ?_)
  · obtain ⟨R, L, t, p, b, zs, rfl, _⟩ := h; rfl
  · obtain ⟨R, L, t, p, b, zs, rfl, hT, hp, ok, hn, p0, p1, t0, t1, q⟩ := h
    refine ⟨_, (pss_cons (ps_set (i := 3) sc_l_first.nd rfl (Or.inl rfl) (pe_op op_add (pv 2) (pe_op op_modN (pe_op op_sub (pe_ix ix_tup (pv 0) pe_int (fun _ _ => rfl)) (pv 2)) (pe_ix ix_tup (pv 0) pe_int (fun _ _ => rfl)))))
      (pss_cons (ps_for PassesOwn.never rfl (pi_range1 (by rfl) T.n_range (pa_cons (pe_call G_l_wait (hr.mono (by decide)) rfl T.g_l_wait T.F_l_wait.kp T.b_l_wait .nil pass0 (pa_cons (pe_callB call_len_seq (by rfl) T.n_len (by decide +kernel) (pa_cons (pv 1) pa_nil)) pa_nil)) pa_nil)) (pg_name (i := 4) sc_l_first.nd rfl (Or.inl rfl)) (pss_one (ps_if (pt_cmpR (op_eqD hr.units) (pe_call G_l_lit (hr.mono (by decide)) rfl T.g_l_lit T.F_l_lit.kp T.b_l_lit .nil pass0 (pa_cons (pv 1) (pa_cons (pe_op op_add (pv 3) (pe_op op_mulW (pv 4) (pe_ix ix_tup (pv 0) pe_int (fun _ _ => rfl)))) pa_nil))) (pe_lst pa_nil) (nomark _)) (pss_one (ps_ret (pe_op op_add (pv 3) (pe_op op_mulW (pv 4) (pe_ix ix_tup (pv 0) pe_int (fun _ _ => rfl)))))) pss_nil)))
      (pss_one (ps_ret pe_non)))), ?_⟩
    refine ⟨_, rfl, _, rfl, R, _, _, _, rfl, rfl, SqT.of hT, at_of (j := 1) rfl rfl, _, rfl, _, _, rfl, rfl, _, rfl, R, _, _, _, rfl, rfl, SqT.of hT, at_of (j := 0) rfl rfl, _, _, rfl, rfl, by omega, _, _, rfl, rfl, ?_⟩
    have w1 : (2 : Nat) ^ zs.length ≤ 2 ^ 10 := Nat.pow_le_pow_right (by decide) hn
    have f0 := fm0 (a := b - t) (b := p) p0
    have f1 := fm1 (a := b - t) (b := p) p0
    have ef : t + (b - t).fmod p = b + fstN (p, b) t * p := by
      rw [fmod_pos p0]
      exact (fst_at (l := (p, b)) p0 t).symm
    have eN : (2 : Int) ^ (refsZ zs).length = ((2 ^ zs.length : Nat) : Int) := by rw [refsZ_len]; norm_cast
    obtain ⟨N, hN⟩ : ∃ N : Nat, N = 2 ^ zs.length := ⟨_, rfl⟩
    rw [← hN] at w1 eN
    have eX : ∀ j : Nat, t + (b - t).fmod p + (0 + (j : Int)) * p = b + (fstN (p, b) t + j) * p := fun j => by
      rw [ef, Int.add_mul, Int.add_mul, Int.zero_mul]; omega
    refine ⟨_, rfl, L, _, rfl, .inl (SqL.of hp.1), _, rfl, by rw [refsZ_len]; omega, (N : Int), congrArg (fun x => [V.int x]) eN, by omega, by omega, for_range (lo := 0) (n := N) (fun j σ H' => (∃ v4, σ = [some (.ref R), some (.ref L), some (.int t), some (.int (t + (b - t).fmod p)), v4]) ∧ Same H H' ∧ ∀ i : Nat, i < j → Bright (prs zs) (b + (fstN (p, b) t + i) * p))
      ⟨⟨_, rfl⟩, Same.refl _, fun i h => absurd h (Nat.not_lt_zero i)⟩ ?_ ?_⟩
    · rintro j σ H2 hj ⟨⟨v4, rfl⟩, s2, hb⟩
      have hT2 := s2 _ _ hT
      have hp2 := hp.same s2
      refine ⟨_, rfl, _, rfl, _, rfl, _, rfl, R, _, _, _, rfl, rfl, SqT.of hT2, at_of (j := 0) rfl rfl, _, _, rfl, rfl, mw (by omega) (by omega) (by omega) (by omega), _, _, rfl, rfl, ?_⟩
      refine ⟨L, _, zs, rfl, hp2, ok, by omega, fun D H3 s3 hD hD3 => ⟨(by show 0 ≤ sizeLine; decide), fun l0 hl0 => ?_⟩⟩
      have s4 := same_new (o := .lst []) hl0
      rw [eX] at hD3
      refine ⟨dInts (lrow (prs zs) (b + (fstN (p, b) t + j) * p)), dInts [], dp_ints (s4 _ _ hD3), dp_ints (ns := []) upd_same, (okD_ints _).sh (by decide), (okD_ints _).sh (by decide), ?_⟩
      have q0 : PyData.eqv (dInts (lrow (prs zs) (b + (fstN (p, b) t + j) * p))) (dInts []) = decide (lrow (prs zs) (b + (fstN (p, b) t + j) * p) = []) := by
        unfold dInts PyData.eqv
        exact eqv_ints _ _
      rw [q0]
      have S4 := s2.trans (s3.trans s4)
      generalize upd H3 l0 (.lst []) = H4 at *
      have hT4 := S4 _ _ hT
      refine ⟨_, rfl, ite2 (fun hb1 => ?_) (fun hb1 => ?_)⟩
      · have hnb := lrow_nil.mp (of_decide_eq_true hb1)
        refine ⟨_, rfl, _, rfl, _, rfl, R, _, _, _, rfl, rfl, SqT.of hT4, at_of (j := 0) rfl rfl, _, _, rfl, rfl, mw (by omega) (by omega) (by omega) (by omega), _, _, rfl, rfl, ?_⟩
        have eY : V.int (t + (b - t).fmod p + (0 + (j : Int)) * p) = V.int (b + (fstN (p, b) t + j) * p) := by rw [eX]
        refine (show Q (V.int (t + (b - t).fmod p + (0 + (j : Int)) * p)) H4 from ?_)
        rw [eY]
        refine q (some (b + (fstN (p, b) t + j) * p)) H4 S4 ⟨?_, ⟨fstN (p, b) t + j, by show _ - b = p * _; rw [Int.mul_comm p]; omega⟩, hnb, fun x hx hd hn => ?_⟩
        · have h1 := fst_ge (l := (p, b)) p0 t
          have h2 : fstN (p, b) t * p ≤ (fstN (p, b) t + j) * p := Int.mul_le_mul_of_nonneg_right (by omega) (by omega)
          have h1 : t ≤ b + fstN (p, b) t * p := h1
          omega
        · obtain ⟨n, h1, rfl⟩ := fst_le (l := (p, b)) p0 hx hd
          have hn : ¬ Bright (prs zs) (b + n * p) := hn
          have key : fstN (p, b) t + j ≤ n := by
            refine Classical.byContradiction fun hc => hn ?_
            have := hb (n - fstN (p, b) t).toNat (by omega)
            rwa [show fstN (p, b) t + ((n - fstN (p, b) t).toNat : Int) = n by omega] at this
          have h2 : (fstN (p, b) t + j) * p ≤ n * p := Int.mul_le_mul_of_nonneg_right key (by omega)
          show _ ≤ b + n * p
          omega
      · refine ⟨⟨_, rfl⟩, S4, fun i hi => ?_⟩
        by_cases h : i < j
        · exact hb i h
        · obtain rfl : i = j := by omega
          refine Classical.byContradiction fun hn => hb1 (decide_eq_true (lrow_nil.mpr hn))
    · rintro σ H2 ⟨⟨v4, rfl⟩, s2, hb⟩
      refine q none H2 s2 fun n => ?_
      refine thin_wait (l := (p, b)) p0 (ls := prs zs) (fun x hx => ?_) (fstN (p, b) t) (fun i hi => hb i (by rw [prs_len, ← hN] at hi; exact hi)) n
      obtain ⟨z, hz, rfl⟩ := List.mem_map.mp hx
      exact ok z hz
end

section
variable {P : Program} {w : World} {K : PySem.W.Frag} {mg : Str → Option Value} {base : Heap}
/-- a paper of ints, each a number of its row -/
def spFirstAmiss : Sp := fun vs H Q _ => ∃ (L R : Addr) (n : Nat) (f : Nat → List Int) (pap : List Int), vs = [.ref L, .ref R] ∧ H L = some (.lst (pap.map V.int)) ∧ RowsR H R n f ∧ pap.length = n ∧ n ≤ 100000 ∧ (∀ j z, pap[j]? = some z → z ∈ f j) ∧
  ∀ H', Same H H' → Q .non H'
theorem ok_first_amiss (T : Top K mg) : FnOk P w K mg base CX0 3 T.f_first_amiss T.d_first_amiss ["paper", "rows"] spFirstAmiss := by
  have G_Lamp_eq := ok_Lamp_eq (P := P) (w := w) (base := base) T
  have G_is_whole := ok_is_whole (P := P) (w := w) (base := base) T
  refine T.F_first_amiss.ok sc_first_amiss (fun vs H Q E h => ?_) (fun cdv A outer s H vs Q E hr h => ?_)
  · obtain ⟨L, R, n, f, pap, rfl, _⟩ := h; rfl
  · obtain ⟨L, R, n, f, pap, rfl, hL, ⟨as, hR, len, hrw⟩, hl, hn, hp, q⟩ := h
    refine ⟨_, (pss_cons (ps_for PassesOwn.never rfl (pi_ez (by rfl) T.n_enumerate (by rfl) T.n_zip (pa_cons (pv 0) (pa_cons (pv 1) pa_nil))) (pg_tup (by rfl) (pgs_cons (pg_name (i := 2) sc_first_amiss.nd rfl (Or.inl rfl)) (pgs_cons (pg_tup (by rfl) (pgs_cons (pg_name (i := 3) sc_first_amiss.nd rfl (Or.inl rfl)) (pgs_cons (pg_name (i := 4) sc_first_amiss.nd rfl (Or.inl rfl)) pgs_nil))) pgs_nil))) (pss_one (ps_if (PW.pt (pw_or (pt_not (pt_val (pe_call G_is_whole (hr.mono (by decide)) rfl T.g_is_whole T.F_is_whole.kp T.b_is_whole .nil pass0 (pa_cons (pv 3) pa_nil)))) (pw_or1 (pt_cmpR op_notIn_seq (pv 3) (pv 4) (by with_unfolding_all rfl))))) (pss_one (ps_ret (pv 2))) pss_nil)))
      (pss_one (ps_ret pe_non))), ?_⟩
    refine ⟨_, rfl, _, rfl, L, R, _, _, rfl, SqL.of hL, SqL.of hR, for_it (walk_ez (K := K) (a := L) (b := R) (xs := pap.map V.int) (ys := as.map V.ref) (n := n) (by rw [List.length_map, List.length_map, hl, len, Nat.min_self])) (fun i σ H' => (∃ v2 v3 v4, σ = [some (.ref L), some (.ref R), v2, v3, v4]) ∧ Same H H') ⟨⟨_, _, _, rfl⟩, Same.refl _⟩ (fun i σ H' _ ⟨_, s3⟩ => ⟨SqL.of (s3 _ _ hL), SqL.of (s3 _ _ hR)⟩) ?_ ?_⟩
    · rintro i x σ H3 H4 hi ⟨⟨v2, v3, v4, rfl⟩, s3⟩ ⟨T1, T2, x1, x2, rfl, hT1, hT2, n12, rfl, e1, e2⟩
      obtain ⟨z, hz, rfl⟩ := get_map e1
      obtain ⟨a, ha, rfl⟩ := get_map e2
      have s4 : Same H3 (upd (upd H3 T1 (.tup [.int z, .ref a])) T2 (.tup [.int (i : Nat), .ref T1])) := (same_new hT1).trans (same_new (by rw [upd_ne n12.symm]; exact hT2))
      have eT2 : upd (upd H3 T1 (.tup [.int z, .ref a])) T2 (.tup [.int (i : Nat), .ref T1]) T2 = some (.tup [.int (i : Nat), .ref T1]) := upd_same
      have eT1 : upd (upd H3 T1 (.tup [.int z, .ref a])) T2 (.tup [.int (i : Nat), .ref T1]) T1 = some (.tup [.int z, .ref a]) := by rw [upd_ne n12]; exact upd_same
      generalize upd (upd H3 T1 (.tup [.int z, .ref a])) T2 (.tup [.int (i : Nat), .ref T1]) = H4 at *
      have s34 := s3.trans s4
      refine ⟨T2, _, rfl, SqT.of eT2, rfl, _, _, rfl, _, _, rfl, T1, _, rfl, SqT.of eT1, rfl, _, _, rfl, _, _, rfl, rfl, rfl, ?_⟩
      refine ⟨_, rfl, z, rfl, true, rfl, iteF ?_⟩
      refine ⟨_, rfl, _, rfl, a, _, rfl, .inl (SqL.of (s34 _ _ (hrw i a ha))), rfl, flat_ints _, _, rfl, ?_⟩
      rw [inV_ints, decide_eq_true (hp i z hz)]
      exact iteF ⟨⟨_, _, _, rfl⟩, s34⟩
    · rintro σ H3 ⟨⟨v2, v3, v4, rfl⟩, s3⟩
      exact q _ s3
end

section
variable {P : Program} {w : World} {K : PySem.W.Frag} {mg : Str → Option Value} {base : Heap}
theorem ne_fw {z y : Int} (h : z = y) : V.bl (!decide (V.int z = V.int y)) = V.bl false := by rw [h, decide_eq_true rfl]; rfl
def spChWithin (C CG : Addr) : Sp := fun vs H Q _ => ∃ (g h pq : Addr) (k1 k2 : Nat) (ls1 ls2 : List (Int × Int)), vs = [.ref g, .ref h, .ref pq] ∧ LightAt C CG H g k1 ls1 ∧ LightAt C CG H h k2 ls2 ∧ ls1.length ≤ 10 ∧ ls2.length ≤ 10 ∧ k1 ≤ 8000 ∧ k2 ≤ 8000 ∧ PapersAt H pq (ls1.map (paperL ls2)) ∧ (∀ x, Bright ls1 x → Bright ls2 x) ∧
  ∀ H', Same H H' → Q .non H'
theorem ok_check_within (T : Top K mg) : FnOk P w K mg base CX0 7 T.f_check_within T.d_check_within ["one", "other", "papers"] (spChWithin T.C_Lamp T.C_Light) := by
  have G_Lamp_eq := ok_Lamp_eq (P := P) (w := w) (base := base) T
  have G_Light_lamps := ok_Light_lamps (P := P) (w := w) (base := base) T
  have G_Light_wait := ok_Light_wait (P := P) (w := w) (base := base) T
  have G_first_amiss := ok_first_amiss (P := P) (w := w) (base := base) T
  have G_rows := ok_rows (P := P) (w := w) (base := base) T
  refine T.F_check_within.ok sc_check_within (fun vs H Q E h => ?_) (fun cdv A outer s H vs Q E hr h => ?_)
  · obtain ⟨g, g2, pq, k1, k2, ls1, ls2, rfl, _⟩ := h; rfl
  · obtain ⟨g, g2, pq, k1, k2, ls1, ls2, rfl, hg, hh, n1, n2, b1, b2, hpq, hw, q⟩ := h
    refine ⟨_, (pss_cons (ps_set (i := 3) sc_check_within.nd rfl (Or.inl rfl) (pe_meth0 (pv 0) T.cl_Light T.m_Light_lamps G_Light_lamps (hr.mono (by decide)) T.b_Light_lamps .nil pass0))
      (pss_cons (ps_if (PW.pt (pw_or (pt_not (pt_val (pe_callB call_isi (by rfl) T.n_isinstance (by decide +kernel) (pa_cons (pv 2) (pa_cons (pe_bltn (v := .ty "list") (by rfl) T.n_list (by decide +kernel) rfl) pa_nil))))) (pw_or1 (pt_cmpR op_ne (pe_callB call_len_seq (by rfl) T.n_len (by decide +kernel) (pa_cons (pv 2) pa_nil)) (pe_callB call_len_seq (by rfl) T.n_len (by decide +kernel) (pa_cons (pv 3) pa_nil)) (nomark _))))) (pss_one (ps_never)) pss_nil)
      (pss_cons (ps_if (pt_not (pt_val (pe_callB (cr_all rfl) (by rfl) T.n_all (by decide +kernel) (pa_cons (pe_lc (own := [("paper", 6)]) (g := gName 6) (by rfl) sc_check_within.nd (pi_list (pv 2)) (blkOk_by (own := [("paper", 6)]) (N := ["one", "other", "papers", "lamps", "number", "lamp", "paper"]) (sc := defScope s_check_within) (by decide +kernel)) (fun _ _ _ _ _ => by exact (pg_name (i := 6) sc_check_within.nd rfl (Or.inl rfl))) (fun _ _ _ _ _ => by exact (pts_nil)) (fun _ _ _ _ _ => by exact ((pe_and (pe_callB (call_isiB (K := K) rfl) (by rfl) T.n_isinstance (by decide +kernel) (pa_cons (pv 6) (pa_cons (pe_bltn (v := .ty "list") (by rfl) T.n_list (by decide +kernel) rfl) pa_nil))) (pe_one (pe_cmpR op_eq (pe_callB (call_lenB (K := K) rfl) (by rfl) T.n_len (by decide +kernel) (pa_cons (pv 6) pa_nil)) (pe_meth0 (pv 1) T.cl_Light T.m_Light_wait G_Light_wait (hr.mono (by decide)) T.b_Light_wait .nil pass0) (nomark _))))))) pa_nil)))) (pss_one (ps_never)) pss_nil)
      (pss_one (ps_for PassesOwn.never rfl (pi_ez (by rfl) T.n_enumerate (by rfl) T.n_zip (pa_cons (pv 3) (pa_cons (pv 2) pa_nil))) (pg_tup (by rfl) (pgs_cons (pg_name (i := 4) sc_check_within.nd rfl (Or.inl rfl)) (pgs_cons (pg_tup (by rfl) (pgs_cons (pg_name (i := 5) sc_check_within.nd rfl (Or.inl rfl)) (pgs_cons (pg_name (i := 6) sc_check_within.nd rfl (Or.inl rfl)) pgs_nil))) pgs_nil))) (pss_one (ps_if (pt_cmpR op_notN (pe_call G_first_amiss (hr.mono (by decide)) rfl T.g_first_amiss T.F_first_amiss.kp T.b_first_amiss .nil pass0 (pa_cons (pv 6) (pa_cons (pe_call G_rows (hr.mono (by decide)) rfl T.g_rows T.F_rows.kp T.b_rows .nil pass0 (pa_cons (pv 5) (pa_cons (pv 1) (pa_cons pe_int pa_nil)))) pa_nil))) pe_non (nomark _)) (pss_one (ps_never)) pss_nil))))))), ?_⟩
    obtain ⟨dx, _, _, hg0, _, _⟩ := id hg
    obtain ⟨dx2, _, _, hh0, _, _⟩ := id hh
    have w1 : (2 : Nat) ^ ls2.length ≤ 2 ^ 10 := Nat.pow_le_pow_right (by decide) n2
    refine ⟨_, rfl, g, dx, _, rfl, hg0, gf_no _ (by decide +kernel), g, k1, ls1, rfl, hg, n1, fun p ys H1 s1 hp hp1 ha1 => ?_⟩
    replace hpq := hpq.same s1
    obtain ⟨as, ea, la, hrw⟩ := id hpq
    have las : as.length = ls1.length := by rw [la, List.length_map]
    refine ⟨_, rfl, _, _, _, _, true, rfl, .ty _, .base (.lst ea), kit_ty (by decide +kernel), true, rfl, iteF ?_⟩
    refine ⟨_, rfl, pq, _, rfl, .inl (SqL.of ea), _, rfl, p, _, rfl, .inl (SqL.of hp1), rfl, false, ne_fw ?_, iteF ?_⟩
    · rw [List.length_map, las, ha1.1]
    refine ⟨_, rfl, pq, rfl, ⟨_, SqL.of ea⟩, fun D hD => lc_list (K := K) (a := pq) (xs := as.map V.ref) (fun i H' => Same H1 H' ∧ H' D = some (.lst ((List.replicate i true).map V.bl)))
      ⟨same_new hD, upd_same⟩ (fun i H' _ ⟨s2, _⟩ => SqL.of (s2 _ _ ea)) (fun i x H' hi ⟨s2, hD'⟩ => ?_) (fun H' ⟨s2, hD'⟩ => ?_)⟩
    · obtain ⟨a, ha, rfl⟩ := get_map hi
      obtain ⟨l, hl⟩ : ∃ l, ls1[i]? = some l := ⟨_, List.getElem?_eq_getElem (by rw [← las]; exact (List.getElem?_eq_some_iff.mp ha).1)⟩
      have e1 := s2 _ _ (hrw i a _ ha (by rw [List.getElem?_map, hl]; rfl))
      refine ⟨rfl, ?_⟩
      refine ⟨_, rfl, _, _, _, _, true, rfl, .ty _, .base (.lst e1), kit_ty (by decide +kernel), true, rfl, iteT ⟨_, rfl, a, _, rfl, .inl (SqL.of e1), _, rfl, g2, dx2, _, rfl, s2 _ _ (s1 _ _ hh0), gf_no _ (by decide +kernel), g2, k2, ls2, rfl, (hh.same s1).same s2, by omega, rfl, ?_⟩⟩
      have el : (((paperL ls2 l).map V.int).length : Int) = 2 ^ ls2.length := by
        rw [List.length_map]
        unfold paperL
        rw [List.length_map, List.length_range]
        norm_cast
      rw [decide_eq_true (congrArg V.int el)]
      refine ⟨_, hD', ?_, same_at s2 hD, ?_⟩
      · rw [List.length_map, List.length_replicate]
        have := (List.getElem?_eq_some_iff.mp hl).1
        exact Nat.lt_of_lt_of_le (show i < 11 by omega) (by decide)
      · rw [upd_same, List.replicate_succ', List.map_append]
        rfl
    · refine ⟨D, _, rfl, SqL.of hD', ?_⟩
      rw [show (List.replicate (as.map V.ref).length true).all id = true by rw [List.all_eq_true]; intro x hx; exact (List.mem_replicate.mp hx).2]
      refine ⟨_, rfl, iteF ?_⟩
      refine ⟨_, rfl, _, rfl, p, pq, ys, as.map V.ref, rfl, SqL.of (s2 _ _ hp1), SqL.of (s2 _ _ ea), for_it (walk_ez (K := K) (a := p) (b := pq) (xs := ys) (ys := as.map V.ref) (n := ls1.length) (by rw [ha1.1, List.length_map, las, Nat.min_self])) (fun i σ H3 => (∃ v4 v5 v6, σ = [some (.ref g), some (.ref g2), some (.ref pq), some (.ref p), v4, v5, v6]) ∧ Same H' H3) ⟨⟨_, _, _, rfl⟩, Same.refl _⟩ (fun i σ H3 _ ⟨_, s3⟩ => ⟨SqL.of (s3 _ _ (s2 _ _ hp1)), SqL.of (s3 _ _ (s2 _ _ ea))⟩) ?_ ?_⟩
      · rintro i x σ H3 H4 hi ⟨⟨v4, v5, v6, rfl⟩, s3⟩ ⟨T1, T2, x1, x2, rfl, hT1, hT2, n12, rfl, e1, e2⟩
        obtain ⟨a, l, rfl, el, ha⟩ := ha1.at e1
        obtain ⟨b, hb, rfl⟩ := get_map e2
        have s4 : Same H3 (upd (upd H3 T1 (.tup [.ref a, .ref b])) T2 (.tup [.int (i : Nat), .ref T1])) := (same_new hT1).trans (same_new (by rw [upd_ne n12.symm]; exact hT2))
        have eT2 : upd (upd H3 T1 (.tup [.ref a, .ref b])) T2 (.tup [.int (i : Nat), .ref T1]) T2 = some (.tup [.int (i : Nat), .ref T1]) := upd_same
        have eT1 : upd (upd H3 T1 (.tup [.ref a, .ref b])) T2 (.tup [.int (i : Nat), .ref T1]) T1 = some (.tup [.ref a, .ref b]) := by rw [upd_ne n12]; exact upd_same
        generalize upd (upd H3 T1 (.tup [.ref a, .ref b])) T2 (.tup [.int (i : Nat), .ref T1]) = H4 at *
        have s34 := s3.trans s4
        have S := s2.trans s34
        refine ⟨T2, _, rfl, SqT.of eT2, rfl, _, _, rfl, _, _, rfl, T1, _, rfl, SqT.of eT1, rfl, _, _, rfl, _, _, rfl, rfl, rfl, ?_⟩
        refine ⟨_, rfl, _, rfl, _, rfl, a, g2, 0, k1, k2, l, ls2, rfl, ha.same S, (hh.same s1).same S, n2, b1, b2, fun R H5 s5 hR => ?_⟩
        have eb := s5 _ _ (S _ _ (hrw i b (paperL ls2 l) hb (by rw [List.getElem?_map, el]; rfl)))
        refine ⟨b, R, _, _, paperL ls2 l, rfl, eb, hR.r, ?_, by omega, fun j z hj => ?_, fun H6 s6 => ⟨rfl, false, by rw [decide_eq_true rfl]; rfl, iteF ⟨⟨_, _, _, rfl⟩, (s34.trans s5).trans s6⟩⟩⟩
        · unfold paperL
          rw [List.length_map, List.length_range]
        · unfold paperL at hj
          rw [List.getElem?_map] at hj
          obtain ⟨j', hj', e⟩ := Option.map_eq_some_iff.mp hj
          have ej : j' = j := by
            have h1 := (List.getElem?_eq_some_iff.mp hj').2
            rw [List.getElem_range] at h1
            exact h1.symm
          rw [ej] at e
          have hbr : Bright ls2 (l.2 + (0 + (j : Nat)) * l.1) := hw _ ⟨l, List.mem_of_getElem? el, 0 + (j : Nat), by rw [Int.mul_comm]; omega⟩
          have hne : lrow ls2 (l.2 + (0 + (j : Nat)) * l.1) ≠ [] := fun z => lrow_nil.mp z hbr
          rw [← e]
          show _ ∈ lrow ls2 (l.2 + (0 + (j : Nat)) * l.1)
          cases e3 : lrow ls2 (l.2 + (0 + (j : Nat)) * l.1) with
          | nil => exact absurd e3 hne
          | cons a r => exact List.mem_cons_self ..
      · rintro σ H3 ⟨⟨v4, v5, v6, rfl⟩, s3⟩
        exact q _ (s1.trans (s2.trans s3))
end

section
variable {P : Program} {w : World} {K : PySem.W.Frag} {mg : Str → Option Value} {base : Heap}
def spPieces : Sp := fun vs H Q _ => ∃ (R : Addr) (m : Nat) (p b : Int), vs = [.ref R, .int m] ∧ H R = some (.tup [.int p, .int b]) ∧ m ≤ 3 ∧ 0 < p ∧ p < 2 ^ 80 ∧ -(2 ^ 90) < b ∧ b < 2 ^ 90 ∧
  ∀ D ws H', Same H H' → H D = none → PairsA H' D ws → prs ws = ((List.range m).map fun (k : Nat) => (p * (m : Int), b + (k : Int) * p)) → Q (.ref D) H'
theorem ok_l_pieces (T : Top K mg) : FnOk P w K mg base CX0 1 T.f_l_pieces T.d_l_pieces ["_law_lamp", "_law_many"] spPieces := by
  refine T.F_l_pieces.ok sc_l_pieces (fun vs H Q E h => ?_) (fun cdv A outer s H vs Q E hr h => ?_)
  · obtain ⟨R, m, p, b, rfl, _⟩ := h; rfl
  · obtain ⟨R, m, p, b, rfl, hR, hm, p0, p1, b0, b1, q⟩ := h
    refine ⟨_, (pss_one (ps_ret (pe_lc (own := [("_law_k", 2)]) (g := gName 2) (by rfl) sc_l_pieces.nd (pi_range1 (by rfl) T.n_range (pa_cons (pv 1) pa_nil)) (blkOk_by (own := [("_law_k", 2)]) (N := ["_law_lamp", "_law_many", "_law_k"]) (sc := defScope s_l_pieces) (by decide +kernel)) (fun _ _ _ _ _ => by exact (pg_name (i := 2) sc_l_pieces.nd rfl (Or.inl rfl))) (fun _ _ _ _ _ => by exact (pts_nil)) (fun _ _ _ _ _ => by exact (pe_tup (pa_cons (pe_op op_mulW (pe_ix (ix_tupB (K := K) rfl) (pv 0) pe_int (fun _ _ => rfl)) (pv 1)) (pa_cons (pe_op op_add (pe_ix (ix_tupB (K := K) rfl) (pv 0) pe_int (fun _ _ => rfl)) (pe_op op_mulW (pv 2) (pe_ix (ix_tupB (K := K) rfl) (pv 0) pe_int (fun _ _ => rfl)))) pa_nil))))))), ?_⟩
    refine ⟨_, rfl, m, rfl, by omega, by omega, fun D hD => lc_range (lo := 0) (n := m) (fun i H' => Same H H' ∧ ∃ ws : PZ, H' D = some (.lst (refsZ ws)) ∧ TupZ H' ws ∧ prs ws = (List.range i).map fun (k : Nat) => (p * (m : Int), b + (k : Int) * p)) ⟨same_new hD, [], upd_same, (fun _ h => by cases h), rfl⟩ ?_ ?_⟩
    · rintro i H2 hi ⟨s2, ws, h1, h2, h3⟩
      have hR2 := s2 _ _ hR
      refine ⟨rfl, ?_⟩
      refine ⟨_, rfl, R, _, _, _, rfl, rfl, SqT.of hR2, at_of (j := 0) rfl rfl, _, rfl, _, _, rfl, rfl, mw (by omega) (by omega) (by omega) (by omega), _, rfl, R, _, _, _, rfl, rfl, SqT.of hR2, at_of (j := 1) rfl rfl, _, rfl, _, rfl, R, _, _, _, rfl, rfl, SqT.of hR2, at_of (j := 0) rfl rfl, _, _, rfl, rfl, mw (by omega) (by omega) (by omega) (by omega), _, _, rfl, rfl, (by show 2 ≤ sizeLine; decide), fun T' hT' => ?_⟩
      have s3 := same_new (o := .tup [.int (p * m), .int (b + (0 + (i : Int)) * p)]) hT'
      have h4 := s3 _ _ h1
      have lw : ws.length = i := by rw [← prs_len, h3, List.length_map, List.length_range]
      refine ⟨refsZ ws, h4, ?_, same_at (s2.trans s3) hD, ws ++ [(T', (p * m, b + (0 + (i : Int)) * p))], ?_, ?_, ?_⟩
      · rw [refsZ_len, lw]
        exact Nat.lt_of_lt_of_le (show i < 4 by omega) (by decide)
      · rw [upd_same, ← refsZ_app]
        rfl
      · refine TupZ.mut (TupZ.app (h2.same s3) fun y hy => ?_) h4
        rw [List.mem_singleton.mp hy]
        exact upd_same
      · unfold prs at h3 ⊢
        rw [List.map_append, h3, List.range_succ, List.map_append, Int.zero_add]
        rfl
    · rintro H2 ⟨s2, ws, h1, h2, h3⟩
      exact q D ws H2 s2 hD ⟨h1, h2⟩ h3
end
section
variable {P : Program} {w : World} {K : PySem.W.Frag} {mg : Str → Option Value} {base : Heap}
theorem tup_ne {H : Hp} {s U : Addr} {n : Nat} {xs : List V} (hs : Src H s n) (h : H U = some (.tup xs)) : U ≠ s := fun e => by
  obtain ⟨_, _, _, h1, _⟩ := hs
  rw [e, h1] at h
  cases h
/-- bounds of split lamps -/
def OkQ (zs : PZ) : Prop := ∀ z ∈ zs, 0 < z.2.1 ∧ z.2.1 < 2 ^ 72 ∧ -(2 ^ 80) < z.2.2 ∧ z.2.2 < 2 ^ 80
def spSplit : Sp := fun vs H Q _ => ∃ (s : Addr) (n : Nat) (L : Addr) (zs : PZ), vs = [.ref s, .ref L] ∧ Src H s n ∧ n < 10000 ∧ PairsA H L zs ∧ OkP zs ∧ 1 ≤ zs.length ∧ zs.length ≤ 4 ∧
  ∀ F ys H', PairsA H' F ys → OkQ ys → 1 ≤ ys.length → ys.length ≤ 10 → (∀ x, Bright (prs ys) x ↔ Bright (prs zs) x) → Src H' s (n + 40) → Dr s H H' → Q (.ref F) H'
theorem ok_l_split (T : Top K mg) : FnOk P w K mg base CX0 4 T.f_l_split T.d_l_split ["_law_source_here", "_law_some"] spSplit := by
  have G_Lamp_eq := ok_Lamp_eq (P := P) (w := w) (base := base) T
  have G_l_mixed := ok_l_mixed (P := P) (w := w) (base := base) T
  have G_l_one := ok_l_one (P := P) (w := w) (base := base) T
  have G_l_pieces := ok_l_pieces (P := P) (w := w) (base := base) T
  have G_l_take := ok_l_take (P := P) (w := w) (base := base) T
  refine T.F_l_split.ok sc_l_split (fun vs H Q E h => ?_) (fun cdv A outer s H vs Q E hr h => ?_)
  · obtain ⟨s, n, L, zs, rfl, _⟩ := h; rfl
  · obtain ⟨s, n, L, zs, rfl, hs, hn, hp, ok, hz1, hz4, q⟩ := h
    refine ⟨_, (pss_cons (ps_set (i := 2) sc_l_split.nd rfl (Or.inl rfl) (pe_callTy call_list_of (by rfl) T.n_list (by decide +kernel) (pa_cons (pv 1) pa_nil)))
      (pss_cons (ps_for PassesOwn.never rfl (pi_range1 (by rfl) T.n_range (pa_cons (pe_op op_add pe_int (pe_call G_l_take (hr.mono (by decide)) rfl T.g_l_take T.F_l_take.kp T.b_l_take .nil pass0 (pa_cons (pv 0) (pa_cons pe_int pa_nil)))) pa_nil)) (pg_name (i := 3) sc_l_split.nd rfl (Or.inl rfl)) (pss_cons (ps_set (i := 4) sc_l_split.nd rfl (Or.inl rfl) (pe_call G_l_take (hr.mono (by decide)) rfl T.g_l_take T.F_l_take.kp T.b_l_take .nil pass0 (pa_cons (pv 0) (pa_cons (pe_callB call_len_seq (by rfl) T.n_len (by decide +kernel) (pa_cons (pv 2) pa_nil)) pa_nil))))
      (pss_cons (ps_set (i := 5) sc_l_split.nd rfl (Or.inl rfl) (pe_op op_add pe_int (pe_call G_l_take (hr.mono (by decide)) rfl T.g_l_take T.F_l_take.kp T.b_l_take .nil pass0 (pa_cons (pv 0) (pa_cons pe_int pa_nil)))))
      (pss_one (ps_if (pt_cmpR op_lt (pe_op op_add (pe_callB call_len_seq (by rfl) T.n_len (by decide +kernel) (pa_cons (pv 2) pa_nil)) (pv 5)) pe_int (nomark _)) (pss_one (ps_set (i := 2) sc_l_split.nd rfl (Or.inl rfl) (pe_op op_catS (pe_op op_catS (pe_slice sl_list (pv 2) po_none (po_some (pv 4))) (pe_call G_l_pieces (hr.mono (by decide)) rfl T.g_l_pieces T.F_l_pieces.kp T.b_l_pieces .nil pass0 (pa_cons (pe_ix ix_list (pv 2) (pv 4) (fun _ _ => rfl)) (pa_cons (pv 5) pa_nil)))) (pe_slice sl_list (pv 2) (po_some (pe_op op_add (pv 4) pe_int)) po_none)))) pss_nil)))))
      (pss_cons (ps_set (i := 6) sc_l_split.nd rfl (Or.inl rfl) (pe_call G_l_one (hr.mono (by decide)) rfl T.g_l_one T.F_l_one.kp T.b_l_one .nil pass0 (pa_cons (pv 0) (pa_cons (pv 1) pa_nil))))
      (C8.pss_cut (ps_if (PW.pt (pw_and (pt_cmpR op_lt (pe_callB call_len_seq (by rfl) T.n_len (by decide +kernel) (pa_cons (pv 2) pa_nil)) pe_int (nomark _)) (pw_and1 (pt_cmpR op_eq (pe_call G_l_take (hr.mono (by decide)) rfl T.g_l_take T.F_l_take.kp T.b_l_take .nil pass0 (pa_cons (pv 0) (pa_cons pe_int pa_nil))) pe_int (nomark _))))) (pss_one (ps_expr (pe_bm PySem.F.plainAttrs_list PySem.F.slot_list_append PySem.F.type_list_append mt_append (pv 2) (pa_cons (pe_tup (pa_cons (pe_op op_mulW (pe_ix ix_tup (pv 6) pe_int (fun _ _ => rfl)) (pe_op op_add pe_int (pe_call G_l_take (hr.mono (by decide)) rfl T.g_l_take T.F_l_take.kp T.b_l_take .nil pass0 (pa_cons (pv 0) (pa_cons pe_int pa_nil))))) (pa_cons (pe_op op_add (pe_ix ix_tup (pv 6) pe_int (fun _ _ => rfl)) (pe_op op_mulW (pe_ix ix_tup (pv 6) pe_int (fun _ _ => rfl)) (pe_call G_l_take (hr.mono (by decide)) rfl T.g_l_take T.F_l_take.kp T.b_l_take .nil pass0 (pa_cons (pv 0) (pa_cons pe_int pa_nil))))) pa_nil))) pa_nil)))) pss_nil)
      (pss_one (ps_ret (pe_call G_l_mixed (hr.mono (by decide)) rfl T.g_l_mixed T.F_l_mixed.kp T.b_l_mixed .nil pass0 (pa_cons (pv 0) (pa_cons (pv 2) pa_nil))))))))), ?_⟩
    refine ⟨_, rfl, L, _, rfl, .inl (SqL.of hp.1), fun F0 hF0 => ?_⟩
    have s1 := same_new (o := .lst (refsZ zs)) hF0
    have hpL := hp.same s1
    have hpF : PairsA (upd H F0 (.lst (refsZ zs))) F0 zs := ⟨upd_same, hp.2.same s1⟩
    have hs1 := hs.same s1
    have D1 : Dr s H _ := Dr.of s1
    generalize upd H F0 (.lst (refsZ zs)) = H1 at *
    refine ⟨_, rfl, s, _, 3, rfl, hs1, by omega, by decide, by decide, fun v H2 v0 v1 hs2 d2 => ⟨_, _, rfl, rfl, ?_⟩⟩
    obtain ⟨c, hc⟩ : ∃ c : Nat, 1 + v = c := ⟨(1 + v).toNat, by omega⟩
    refine ⟨(c : Int), congrArg (fun x => [V.int x]) hc, by omega, by omega, for_range (lo := 0) (n := c) (fun j σ H5 => ∃ F ys, (∃ v3 v4 v5 v6, σ = [some (.ref s), some (.ref L), some (.ref F), v3, v4, v5, v6]) ∧ Src H5 s (n + 1 + 2 * j) ∧ Dr s H H5 ∧ PairsA H5 L zs ∧ PairsA H5 F ys ∧ H F = none ∧ 1 ≤ ys.length ∧ ys.length ≤ 9 ∧
        (∀ y ∈ ys, 0 < y.2.1 ∧ y.2.1 < 2 ^ 64 * 4 ^ j ∧ -(2 ^ 70 * 4 ^ j) < y.2.2 ∧ y.2.2 < 2 ^ 70 * 4 ^ j) ∧ ∀ x, Bright (prs ys) x ↔ Bright (prs zs) x)
      ⟨F0, zs, ⟨_, _, _, _, rfl⟩, hs2, D1.trans d2, hpL.dr hs1 d2, hpF.dr hs1 d2, hF0, hz1, by omega, fun y hy => ?_, fun x => Iff.rfl⟩ ?_ ?_⟩
    · obtain ⟨h1, h2, h3, h4⟩ := ok y hy
      exact ⟨h1, by show _ < 2 ^ 64 * 1; omega, by show -(2 ^ 70 * 1) < _; omega, by show _ < 2 ^ 70 * 1; omega⟩
    · rintro j σ H5 hj ⟨F, ys, ⟨v3, v4, v5, v6, rfl⟩, hs5, D5, hpL5, hp5, fF, ly1, ly9, okj, hbr⟩
      have hj3 : j < 3 := by omega
      refine ⟨_, rfl, _, rfl, F, _, rfl, .inl (SqL.of hp5.1), s, _, _, rfl, hs5, by omega, by rw [refsZ_len]; omega, by rw [refsZ_len]; omega, fun w1 H6 x0 x1 hs6 d6 => ?_⟩
      rw [refsZ_len] at x1
      obtain ⟨k, rfl⟩ : ∃ k : Nat, w1 = k := ⟨w1.toNat, by omega⟩
      have hk : k < ys.length := by omega
      obtain ⟨z, hz⟩ : ∃ z, ys[k]? = some z := ⟨_, List.getElem?_eq_getElem hk⟩
      refine ⟨_, rfl, s, _, 2, rfl, hs6, by omega, by decide, by decide, fun w2 H7 y0 y1 hs7 d7 => ⟨_, _, rfl, rfl, ?_⟩⟩
      obtain ⟨u, rfl⟩ : ∃ u : Nat, w2 = u := ⟨w2.toNat, by omega⟩
      have hu : u < 2 := by omega
      have hp7 := (hp5.dr hs5 d6).dr hs6 d7
      have hpL7 := (hpL5.dr hs5 d6).dr hs6 d7
      have D7 := (D5.trans d6).trans d7
      clear hs5 D5 hp5 hpL5 d6 d7 hs6
      refine ⟨_, rfl, F, _, rfl, .inl (SqL.of hp7.1), _, rfl, _, _, rfl, rfl, _, _, rfl, rfl, _, rfl, ite2 (fun cc => ?_) (fun _ => ?_)⟩
      · have l8 : ((refsZ ys).length : Int) + (2 + (u : Int)) < 10 := of_decide_eq_true cc
        rw [refsZ_len] at l8
        -- found[:at]
        refine ⟨_, rfl, _, rfl, _, rfl, F, _, rfl, SqL.of hp7.1, fun p1 hp1 => ?_⟩
        have ec1 : cutV (refsZ ys) none (some ((k : Nat) : Int)) = refsZ (ys.take k) := by rw [cut_head (by omega), Int.toNat_natCast, refsZ_take]
        rw [ec1]
        have s8 := same_new (o := .lst (refsZ (ys.take k))) hp1
        have e8 := upd_same (H := H7) (a := p1) (o := .lst (refsZ (ys.take k)))
        have hp8 := hp7.same s8
        generalize upd H7 p1 (.lst (refsZ (ys.take k))) = H8 at *
        have hT := hp8.2 z (List.mem_of_getElem? hz)
        obtain ⟨z0, z1, z2, z3⟩ := okj z (List.mem_of_getElem? hz)
        have P64 : (4 : Int) ^ j ≤ 64 := by
          have : (4 : Nat) ^ j ≤ 4 ^ 3 := Nat.pow_le_pow_right (by decide) (by omega)
          exact_mod_cast this
        have P0 : (0 : Int) < 4 ^ j := Int.pow_pos (by decide)
        have PS : (4 : Int) ^ (j + 1) = 4 ^ j * 4 := Int.pow_succ ..
        refine ⟨_, rfl, _, rfl, F, _, _, _, rfl, rfl, SqL.of hp8.1, at_of (j := k) rfl (show (refsZ ys)[k]? = some (.ref z.1) by unfold refsZ; rw [List.getElem?_map, hz]; rfl), _, rfl, z.1, 2 + u, z.2.1, z.2.2, by rw [show ((2 + u : Nat) : Int) = 2 + (u : Int) by omega]; rfl, hT, by omega, z0, by omega, by omega, by omega, fun D ws H9 s9 _ hpD hprs => ?_⟩
        have lw : ws.length = 2 + u := by rw [← prs_len, hprs, List.length_map, List.length_range]
        refine ⟨p1, D, _, _, rfl, rfl, SqL.of (s9 _ _ e8), SqL.of hpD.1, ?_, fun p3 hp3 => ?_⟩
        · rw [refsZ_len, refsZ_len, List.length_take]
          exact Nat.le_trans (show _ ≤ 13 by omega) (by decide)
        rw [refsZ_app]
        have s10 := same_new (o := .lst (refsZ (ys.take k ++ ws))) hp3
        have e10 := upd_same (H := H9) (a := p3) (o := .lst (refsZ (ys.take k ++ ws)))
        have hpD10 := hpD.same s10
        have hp10 := (hp8.same s9).same s10
        have S10 := s8.trans (s9.trans s10)
        generalize upd H9 p3 (.lst (refsZ (ys.take k ++ ws))) = H10 at *
        refine ⟨_, rfl, _, rfl, _, _, rfl, rfl, _, rfl, F, _, rfl, SqL.of hp10.1, fun p4 hp4 => ?_⟩
        have ec2 : cutV (refsZ ys) (some ((k : Nat) + 1 : Int)) none = refsZ (ys.drop (k + 1)) := by
          rw [cut_from (by omega), show ((k : Int) + 1).toNat = k + 1 by omega, refsZ_drop]
        rw [ec2]
        have s11 := same_new (o := .lst (refsZ (ys.drop (k + 1)))) hp4
        have e11 := upd_same (H := H10) (a := p4) (o := .lst (refsZ (ys.drop (k + 1))))
        have e1011 := s11 _ _ e10
        generalize upd H10 p4 (.lst (refsZ (ys.drop (k + 1)))) = H11 at *
        refine ⟨p3, p4, _, _, rfl, rfl, SqL.of e1011, SqL.of e11, ?_, fun p5 hp5 => ?_⟩
        · rw [refsZ_len, refsZ_len, List.length_append, List.length_take, List.length_drop]
          exact Nat.le_trans (show _ ≤ 30 by omega) (by decide)
        rw [refsZ_app]
        have s12 := same_new (o := .lst (refsZ (ys.take k ++ ws ++ ys.drop (k + 1)))) hp5
        have S12 := S10.trans (s11.trans s12)
        have f5 : H p5 = none := hs7.free D7 (back_none (S10.trans s11) hp5)
        refine ⟨p5, ys.take k ++ ws ++ ys.drop (k + 1), ⟨_, _, _, _, rfl⟩, (hs7.same S12).mono (by omega), D7.then S12, hpL7.same S12, ⟨upd_same, ?_⟩, f5, ?_, ?_, ?_, fun x => ?_⟩
        · refine TupZ.app (TupZ.app ?_ ?_) ?_
          · exact fun y hy => S12 _ _ (hp7.2 y (List.mem_of_mem_take hy))
          · exact fun y hy => (s11.trans s12) _ _ (hpD10.2 y hy)
          · exact fun y hy => S12 _ _ (hp7.2 y (List.mem_of_mem_drop hy))
        · rw [List.length_append, List.length_append, lw]; omega
        · rw [List.length_append, List.length_append, lw, List.length_take, List.length_drop]; omega
        · have old : ∀ y ∈ ys, 0 < y.2.1 ∧ y.2.1 < 2 ^ 64 * 4 ^ (j + 1) ∧ -(2 ^ 70 * 4 ^ (j + 1)) < y.2.2 ∧ y.2.2 < 2 ^ 70 * 4 ^ (j + 1) := fun y hy => by
            obtain ⟨h1, h2, h3, h4⟩ := okj y hy
            rw [PS]
            exact ⟨h1, by omega, by omega, by omega⟩
          intro y hy
          rcases List.mem_append.mp hy with hy | hy
          · rcases List.mem_append.mp hy with hy | hy
            · exact old y (List.mem_of_mem_take hy)
            · have hm : y.2 ∈ prs ws := List.mem_map.mpr ⟨y, hy, rfl⟩
              rw [hprs] at hm
              obtain ⟨i, hi, e⟩ := List.mem_map.mp hm
              have hi2 := List.mem_range.mp hi
              rw [← e, PS]
              have q1 : z.2.1 * ((2 + u : Nat) : Int) = z.2.1 * 2 ∨ z.2.1 * ((2 + u : Nat) : Int) = z.2.1 * 3 := by
                have : u = 0 ∨ u = 1 := by omega
                rcases this with rfl | rfl
                · exact .inl rfl
                · exact .inr rfl
              have q2 : (i : Int) * z.2.1 = 0 ∨ (i : Int) * z.2.1 = z.2.1 ∨ (i : Int) * z.2.1 = 2 * z.2.1 := by
                have : i = 0 ∨ i = 1 ∨ i = 2 := by omega
                rcases this with rfl | rfl | rfl
                · exact .inl (Int.zero_mul _)
                · exact .inr (.inl (Int.one_mul _))
                · exact .inr (.inr rfl)
              refine ⟨?_, ?_, ?_, ?_⟩
              · show 0 < z.2.1 * ((2 + u : Nat) : Int); omega
              · show z.2.1 * ((2 + u : Nat) : Int) < _; omega
              · show _ < z.2.2 + (i : Int) * z.2.1; omega
              · show z.2.2 + (i : Int) * z.2.1 < _; omega
          · exact old y (List.mem_of_mem_drop hy)
        · have e : prs (ys.take k ++ ws ++ ys.drop (k + 1)) = (prs ys).take k ++ prs ws ++ (prs ys).drop (k + 1) := by
            unfold prs
            rw [List.map_append, List.map_append, List.map_take, List.map_drop]
          rw [e, ← hbr x]
          refine split_bright (l := z.2) (by unfold prs; rw [List.getElem?_map, hz]; rfl) (fun x => ?_) x
          rw [hprs]
          exact pieces_bright (by omega) x
      · refine ⟨F, ys, ⟨_, _, _, _, rfl⟩, hs7.mono (by omega), D7, hpL7, hp7, fF, ly1, ly9, fun y hy => ?_, hbr⟩
        obtain ⟨h1, h2, h3, h4⟩ := okj y hy
        have P0 : (0 : Int) < 4 ^ j := Int.pow_pos (by decide)
        have PS : (4 : Int) ^ (j + 1) = 4 ^ j * 4 := Int.pow_succ ..
        rw [PS]
        exact ⟨h1, by omega, by omega, by omega⟩
    · rintro σ H5 ⟨F, ys, ⟨v3, v4, v5, v6, rfl⟩, hs5, D5, hpL5, hp5, fF, ly1, ly9, okj, hbr⟩
      have okj2 : ∀ y ∈ ys, 0 < y.2.1 ∧ y.2.1 < 2 ^ 70 ∧ -(2 ^ 76) < y.2.2 ∧ y.2.2 < 2 ^ 76 := fun y hy => by
        obtain ⟨h1, h2, h3, h4⟩ := okj y hy
        have P64 : (4 : Int) ^ c ≤ 64 := by
          have : (4 : Nat) ^ c ≤ 4 ^ 3 := Nat.pow_le_pow_right (by decide) (by omega)
          exact_mod_cast this
        exact ⟨h1, by omega, by omega, by omega⟩
      have nL : L ≠ s := refs_ne hs5 hpL5.1
      refine ⟨_, rfl, _, rfl, s, _, L, _, rfl, hs5, by omega, nL, hpL5.1, by rw [refsZ_len]; omega, by rw [refsZ_len]; omega, fun x H9 hx hs9 d9 => ?_⟩
      obtain ⟨z, hz, rfl⟩ : ∃ z ∈ zs, x = .ref z.1 := by
        unfold refsZ at hx
        obtain ⟨z, hz, e⟩ := List.mem_map.mp hx
        exact ⟨z, hz, e.symm⟩
      have hp9 := hp5.dr hs5 d9
      have hT9 := (hpL5.dr hs5 d9).2 z hz
      have D9 := D5.trans d9
      obtain ⟨z0, z1, z2, z3⟩ := ok z hz
      clear hp5 hpL5 D5 d9
      refine ⟨fun σ' H' => ∃ ys' : PZ, (∃ w3 w4 w5 w6, σ' = [some (.ref s), some (.ref L), some (.ref F), w3, w4, w5, w6]) ∧ Src H' s (n + 15) ∧ Dr s H H' ∧ PairsA H' F ys' ∧ 1 ≤ ys'.length ∧ ys'.length ≤ 10 ∧ (∀ y ∈ ys', 0 < y.2.1 ∧ y.2.1 < 2 ^ 72 ∧ -(2 ^ 80) < y.2.2 ∧ y.2.2 < 2 ^ 80) ∧ ∀ x, Bright (prs ys') x ↔ Bright (prs zs) x, ?_, ?_⟩
      · have stay : ∀ H', Src H' s (n + 15) → Dr s H H' → PairsA H' F ys → ∃ ys' : PZ, (∃ w3 w4 w5 w6, [some (V.ref s), some (.ref L), some (.ref F), v3, v4, v5, some (.ref z.1)] = [some (.ref s), some (.ref L), some (.ref F), w3, w4, w5, w6]) ∧ Src H' s (n + 15) ∧ Dr s H H' ∧ PairsA H' F ys' ∧ 1 ≤ ys'.length ∧ ys'.length ≤ 10 ∧ (∀ y ∈ ys', 0 < y.2.1 ∧ y.2.1 < 2 ^ 72 ∧ -(2 ^ 80) < y.2.2 ∧ y.2.2 < 2 ^ 80) ∧ ∀ x, Bright (prs ys') x ↔ Bright (prs zs) x := fun H' h1 h2 h3 =>
          ⟨ys, ⟨_, _, _, _, rfl⟩, h1, h2, h3, ly1, by omega, fun y hy => by obtain ⟨a1, a2, a3, a4⟩ := okj2 y hy; exact ⟨a1, by omega, by omega, by omega⟩, hbr⟩
        refine ⟨_, rfl, F, _, rfl, .inl (SqL.of hp9.1), _, _, rfl, rfl, _, rfl, ite2 (fun _ => ⟨_, rfl, s, _, 2, rfl, hs9, by omega, by decide, by decide, fun w1 H10 a0 a1 hs10 d10 => ⟨rfl, _, rfl, ite2 (fun _ => ?_) (fun _ => stay _ (hs10.mono (by omega)) (D9.trans d10) (hp9.dr hs9 d10))⟩⟩) (fun _ => iteF (stay _ (hs9.mono (by omega)) D9 hp9))⟩
        have hp10 := hp9.dr hs9 d10
        have hT10 := d10 _ _ hT9 (tup_ne hs9 hT9)
        have D10 := D9.trans d10
        clear hs9 D9 d10 stay
        refine ⟨_, rfl, .inl ⟨rfl, _, SqL.of hp10.1⟩, _, rfl, z.1, _, _, _, rfl, rfl, SqT.of hT10, at_of (j := 0) rfl rfl, _, rfl, s, _, 4, rfl, hs10, by omega, by decide, by decide, fun w2 H11 b0 b1 hs11 d11 => ⟨_, _, rfl, rfl, _, _, rfl, rfl, mw (by omega) (by omega) (by omega) (by omega), ?_⟩⟩
        have hT11 := d11 _ _ hT10 (tup_ne hs10 hT10)
        refine ⟨_, rfl, z.1, _, _, _, rfl, rfl, SqT.of hT11, at_of (j := 1) rfl rfl, _, rfl, z.1, _, _, _, rfl, rfl, SqT.of hT11, at_of (j := 0) rfl rfl, _, rfl, s, _, 7, rfl, hs11, by omega, by decide, by decide, fun w3 H12 c0 c1 hs12 d12 => ⟨_, _, rfl, rfl, mw (by omega) (by omega) (by omega) (by omega), _, _, rfl, rfl, (by show 2 ≤ sizeLine; decide), fun T' hT' => ?_⟩⟩
        have hp12 := (hp10.dr hs10 d11).dr hs11 d12
        have D12 := (D10.trans d11).trans d12
        have s13 := same_new (o := .tup [.int (z.2.1 * (1 + w2)), .int (z.2.2 + z.2.1 * w3)]) hT'
        have eT := upd_same (H := H12) (a := T') (o := .tup [.int (z.2.1 * (1 + w2)), .int (z.2.2 + z.2.1 * w3)])
        have hp13 := hp12.same s13
        have hs13 := hs12.same s13
        have D13 := D12.then s13
        generalize upd H12 T' (.tup [.int (z.2.1 * (1 + w2)), .int (z.2.2 + z.2.1 * w3)]) = H13 at *
        refine ⟨F, _, _, rfl, rfl, hp13.1, by rw [refsZ_len]; exact Nat.lt_of_lt_of_le (show ys.length < 12 by omega) (by decide), ?_⟩
        refine ⟨ys ++ [(T', (z.2.1 * (1 + w2), z.2.2 + z.2.1 * w3))], ⟨_, _, _, _, rfl⟩, (hs13.mut (refs_ne hs13 hp13.1)).mono (by omega), D13.mut fF, ⟨?_, ?_⟩, by rw [List.length_append]; show 1 ≤ ys.length + 1; omega, by rw [List.length_append]; show ys.length + 1 ≤ 10; omega, ?_, fun x => ?_⟩
        · rw [upd_same, ← refsZ_app]
          rfl
        · refine TupZ.mut (TupZ.app hp13.2 fun y hy => ?_) hp13.1
          rw [List.mem_singleton.mp hy]
          exact eT
        · intro y hy
          rcases List.mem_append.mp hy with hy | hy
          · obtain ⟨a1, a2, a3, a4⟩ := okj2 y hy
            exact ⟨a1, by omega, by omega, by omega⟩
          · rw [List.mem_singleton.mp hy]
            have m1 : z.2.1 * 1 ≤ z.2.1 * (1 + w2) := Int.mul_le_mul_of_nonneg_left (by omega) (by omega)
            have m2 : z.2.1 * (1 + w2) ≤ z.2.1 * 4 := Int.mul_le_mul_of_nonneg_left (by omega) (by omega)
            have m3 : z.2.1 * 0 ≤ z.2.1 * w3 := Int.mul_le_mul_of_nonneg_left (by omega) (by omega)
            have m4 : z.2.1 * w3 ≤ z.2.1 * 7 := Int.mul_le_mul_of_nonneg_left (by omega) (by omega)
            refine ⟨?_, ?_, ?_, ?_⟩
            · show 0 < z.2.1 * (1 + w2); omega
            · show z.2.1 * (1 + w2) < _; omega
            · show _ < z.2.2 + z.2.1 * w3; omega
            · show z.2.2 + z.2.1 * w3 < _; omega
        · have e : prs (ys ++ [(T', (z.2.1 * (1 + w2), z.2.2 + z.2.1 * w3))]) = prs ys ++ [(z.2.1 * (1 + w2), z.2.2 + z.2.1 * w3)] := by
            unfold prs
            rw [List.map_append]
            rfl
          rw [e, bright_app2, hbr x]
          refine ⟨fun h => h.elim id fun h => ?_, .inl⟩
          have h := bright_one.mp h
          have h : z.2.1 * (1 + w2) ∣ x - (z.2.2 + z.2.1 * w3) := h
          refine ⟨z.2, List.mem_map.mpr ⟨z, hz, rfl⟩, ?_⟩
          have h1 : z.2.1 ∣ x - (z.2.2 + z.2.1 * w3) := Int.dvd_trans ⟨1 + w2, rfl⟩ h
          have := Int.dvd_add h1 (show z.2.1 ∣ z.2.1 * w3 from ⟨w3, rfl⟩)
          rw [show x - (z.2.2 + z.2.1 * w3) + z.2.1 * w3 = x - z.2.2 by omega] at this
          exact this
      · rintro σ' H' ⟨ys', ⟨w3, w4, w5, w6, rfl⟩, hs', D', hp', l1, l10, okq, hb'⟩
        refine ⟨_, rfl, _, rfl, s, _, F, ys', rfl, hs', by omega, hp', by omega, fun G us H'' pm hpG _ hs'' d'' => ?_⟩
        have lu := pm.length_eq
        refine q G us H'' hpG (fun y hy => okq y (pm.mem_iff.mp hy)) (by omega) (by omega) (fun x => ?_) (hs''.mono (by omega)) (D'.trans d'')
        rw [← hb' x]
        exact bright_same (fun l => (pm.map fun z => z.2).mem_iff) x
end
section
variable {P : Program} {w : World} {K : PySem.W.Frag} {mg : Str → Option Value} {base : Heap}
def spLastL : Sp := fun vs H Q _ => ∃ (R L : Addr) (t p b : Int) (zs : PZ), vs = [.ref R, .ref L, .int t] ∧ H R = some (.tup [.int p, .int b]) ∧ PairsA H L zs ∧ OkZ zs ∧ zs.length ≤ 10 ∧ 0 < p ∧ p < 2 ^ 180 ∧ -(2 ^ 180) < t ∧ t < 2 ^ 180 ∧
  ∀ o H', Same H H' → OutB (p, b) (prs zs) t o → Q (oV o) H'
theorem ok_l_last (T : Top K mg) : FnOk P w K mg base CX0 5 T.f_l_last T.d_l_last ["_law_lamp", "_law_some", "_law_moment"] spLastL := by
  have G_l_first := ok_l_first (P := P) (w := w) (base := base) T
  refine T.F_l_last.ok sc_l_last (fun vs H Q E h => ?_) (fun cdv A outer s H vs Q E hr h => ?_)
  · obtain ⟨R, L, t, p, b, zs, rfl, _⟩ := h; rfl
  · obtain ⟨R, L, t, p, b, zs, rfl, hR, hp, ok, hn, p0, p1, t0, t1, q⟩ := h
    refine ⟨_, (pss_cons (ps_set (i := 3) sc_l_last.nd rfl (Or.inl rfl) (pe_call G_l_first (hr.mono (by decide)) rfl T.g_l_first T.F_l_first.kp T.b_l_first .nil pass0 (pa_cons (pe_tup (pa_cons (pe_ix ix_tup (pv 0) pe_int (fun _ _ => rfl)) (pa_cons (pe_op op_sub pe_int (pe_ix ix_tup (pv 0) pe_int (fun _ _ => rfl))) pa_nil))) (pa_cons (pe_lc (own := [("_law_period_here", 4), ("_law_beat", 5)]) (g := gTup K 2 (gCons (gName 4) (gCons (gName 5) gNil))) (by rfl) sc_l_last.nd (pi_list (pv 1)) (blkOk_by (own := [("_law_period_here", 4), ("_law_beat", 5)]) (N := ["_law_lamp", "_law_some", "_law_moment", "_law_found", "_law_period_here", "_law_beat"]) (sc := defScope s_l_last) (by decide +kernel)) (fun _ _ _ _ _ => by exact (pg_tupB (K := K) rfl (by rfl) (pgs_cons (pg_name (i := 4) sc_l_last.nd rfl (Or.inl rfl)) (pgs_cons (pg_name (i := 5) sc_l_last.nd rfl (Or.inl rfl)) pgs_nil)))) (fun _ _ _ _ _ => by exact (pts_nil)) (fun _ _ _ _ _ => by exact (pe_tup (pa_cons (pv 4) (pa_cons (pe_op op_sub pe_int (pv 5)) pa_nil))))) (pa_cons (pe_op op_sub pe_int (pv 2)) pa_nil)))))
      (pss_one (ps_ret (pe_ifExp (pt_cmpR op_isN (pv 3) pe_non (nomark _)) pe_non (pe_op op_sub pe_int (pv 3)))))), ?_⟩
    refine ⟨_, rfl, R, _, _, _, rfl, rfl, SqT.of hR, at_of (j := 0) rfl rfl, _, rfl, R, _, _, _, rfl, rfl, SqT.of hR, at_of (j := 1) rfl rfl, _, _, rfl, rfl, (by show 2 ≤ sizeLine; decide), fun U hU => ?_⟩
    have s1 := same_new (o := .tup [.int p, .int (0 - b)]) hU
    have eU := upd_same (H := H) (a := U) (o := .tup [.int p, .int (0 - b)])
    have hp1 := hp.same s1
    generalize upd H U (.tup [.int p, .int (0 - b)]) = H1 at *
    refine ⟨_, rfl, L, rfl, ⟨_, SqL.of hp1.1⟩, fun D hD => lc_list (K := K) (a := L) (xs := refsZ zs) (fun i H' => CompZ H1 D zs (fun l => 0 - l.2) i H') (CompZ.start hD) (fun i H' _ ⟨s2, _⟩ => SqL.of (s2 _ _ hp1.1)) (fun i x H7 hi hc => ?_) (fun H6 hc => ?_)⟩
    · obtain ⟨z, hz2, rfl⟩ := get_map hi
      have hT := hc.1 _ _ (hp1.2 z (List.mem_of_getElem? hz2))
      refine ⟨z.1, _, rfl, SqT.of hT, rfl, _, _, rfl, _, _, rfl, rfl, rfl, ?_⟩
      exact ⟨_, rfl, _, rfl, _, _, rfl, rfl, (by show 2 ≤ sizeLine; decide), fun T' hT' => hc.step hD hz2 ok hT' (by omega) rfl rfl⟩
    obtain ⟨s6, ps, h1, h2, h3, okp, h5⟩ := hc
    rw [show (refsZ zs).length = (prs zs).length by rw [refsZ_len, prs_len], List.take_length] at h5
    have lp : ps.length ≤ 10 := by rw [h3, refsZ_len]; exact hn
    refine ⟨_, rfl, _, _, rfl, rfl, U, D, 0 - t, p, 0 - b, ps, rfl, s6 _ _ eU, ⟨h1, h2⟩, fun z hz => (okp z hz).1, lp, p0, p1, by omega, by omega, fun o H8 s8 out => ?_⟩
    rw [h5] at out
    have S8 := s1.trans (s6.trans s8)
    have fin := out_mirror (p := p) (b := b) (t := t) (fs := prs zs) out
    cases o with
    | none => exact ⟨_, rfl, rfl, true, by rw [decide_eq_true (show oV none = V.non from rfl)], iteT (q none H8 S8 fin)⟩
    | some y => exact ⟨_, rfl, rfl, false, by rw [decide_eq_false (show ¬ oV (some y) = V.non from fun z => by cases z)], iteF ⟨_, rfl, _, _, rfl, rfl, q (some (0 - y)) H8 S8 fin⟩⟩
theorem dp_papersW {H : Hp} {p : Addr} {pss : List (List Int)} (h : PapersAt H p pss) : Dp K H (.ref p) (.list (pss.map dInts)) := by
  obtain ⟨as, e, hl, ha⟩ := h
  refine .lst (SqL.of e) ?_
  clear e
  induction as generalizing pss with
  | nil =>
    cases pss with
    | nil => exact .nil
    | cons x xs => cases hl
  | cons a as ih =>
    cases pss with
    | nil => cases hl
    | cons x xs => exact .cons (dp_ints (ha 0 a x rfl rfl)) (ih (by simpa using hl) fun j b ns e1 e2 => ha (j + 1) b ns e1 e2)
theorem okD_papersW (pss : List (List Int)) : OkD 2 (.list (pss.map dInts)) := okD_list fun d hd => by
  obtain ⟨x, _, rfl⟩ := List.mem_map.mp hd
  exact okD_ints x
/-- what two alike lights are told to be, as data -/
def alikeD (a b : List (List Int)) : PyData := .tuple [.str "alike", .list (a.map dInts), .list (b.map dInts)]
theorem okD_alike (a b : List (List Int)) : OkD 3 (alikeD a b) := okD_tup fun x hx => by
  simp only [List.mem_cons, List.not_mem_nil, or_false] at hx
  rcases hx with rfl | rfl | rfl
  · exact (okD_str (x := "alike") (by decide +kernel)).mono (by decide)
  · exact okD_papersW _
  · exact okD_papersW _
theorem dp_alike {H : Hp} {p q1 q2 : Addr} {a b : List (List Int)} (h : H p = some (.tup [.str "alike", .ref q1, .ref q2])) (h1 : PapersAt H q1 a) (h2 : PapersAt H q2 b) : Dp K H (.ref p) (alikeD a b) :=
  .tup (SqT.of h) (.cons (.str _) (.cons (dp_papersW h1) (.cons (dp_papersW h2) .nil)))
def spAlike (C CG : Addr) : Sp := fun vs H Q _ => ∃ (g h : Addr) (ls1 ls2 : List (Int × Int)), vs = [.ref g, .ref h] ∧ LightAt C CG H g 250 ls1 ∧ LightAt C CG H h 250 ls2 ∧ ls1.length ≤ 10 ∧ ls2.length ≤ 10 ∧ (∀ x, Bright ls1 x ↔ Bright ls2 x) ∧
  ∀ H', Same H H' → Q (.bl true) H'
theorem ok_l_alike (T : Top K mg) : FnOk P w K mg base CX0 9 T.f_l_alike T.d_l_alike ["_law_one_here", "_law_other"] (spAlike T.C_Lamp T.C_Light) := by
  have G_Lamp_eq := ok_Lamp_eq (P := P) (w := w) (base := base) T
  have G_check_within := ok_check_within (P := P) (w := w) (base := base) T
  have G_parted := ok_parted (P := P) (w := w) (base := base) T
  have G_parted_back := ok_parted_back (P := P) (w := w) (base := base) T
  refine T.F_l_alike.ok sc_l_alike (fun vs H Q E h => ?_) (fun cdv A outer s H vs Q E hr h => ?_)
  · obtain ⟨g, g2, ls1, ls2, rfl, _⟩ := h; rfl
  · obtain ⟨g, g2, ls1, ls2, rfl, hg, hh, n1, n2, hw, q⟩ := h
    refine ⟨_, (pss_cons (ps_set (i := 2) sc_l_alike.nd rfl (Or.inl rfl) (pe_call G_parted (hr.mono (by decide)) rfl T.g_parted T.F_parted.kp T.bd_parted.choose_spec.2 T.bd_parted.choose_spec.1 pass0 (pa_cons (pv 0) (pa_cons (pv 1) pa_nil))))
      (pss_cons (ps_if (PW.pt (pw_or (pt_cmpR op_ne (pe_ix ix_tup (pv 2) pe_int (fun _ _ => rfl)) pe_str (nomark _)) (pw_or (pt_cmpR (op_neD hr.units) (pe_call G_parted_back (hr.mono (by decide)) rfl T.g_parted_back T.F_parted_back.kp T.bd_parted_back.choose_spec.2 T.bd_parted_back.choose_spec.1 pass0 (pa_cons (pv 0) (pa_cons (pv 1) pa_nil))) (pv 2) (nomark _)) (pw_or1 (pt_cmpR (op_neD hr.units) (pe_call G_parted (hr.mono (by decide)) rfl T.g_parted T.F_parted.kp T.bd_parted.choose_spec.2 T.bd_parted.choose_spec.1 pass0 (pa_cons (pv 1) (pa_cons (pv 0) pa_nil))) (pe_tup (pa_cons pe_str (pa_cons (pe_ix ix_tup (pv 2) pe_int (fun _ _ => rfl)) (pa_cons (pe_ix ix_tup (pv 2) pe_int (fun _ _ => rfl)) pa_nil)))) (nomark _)))))) (pss_one (ps_ret pe_bl)) pss_nil)
      (pss_one (ps_ret (pe_and (pe_cmpR op_isN (pe_call G_check_within (hr.mono (by decide)) rfl T.g_check_within T.F_check_within.kp T.b_check_within .nil pass0 (pa_cons (pv 0) (pa_cons (pv 1) (pa_cons (pe_ix ix_tup (pv 2) pe_int (fun _ _ => rfl)) pa_nil)))) pe_non (nomark _)) (pe_one (pe_cmpR op_isN (pe_call G_check_within (hr.mono (by decide)) rfl T.g_check_within T.F_check_within.kp T.b_check_within .nil pass0 (pa_cons (pv 1) (pa_cons (pv 0) (pa_cons (pe_ix ix_tup (pv 2) pe_int (fun _ _ => rfl)) pa_nil)))) pe_non (nomark _)))))))), ?_⟩
    refine ⟨_, rfl, _, rfl, g, g2, 0, 250, 250, ls1, ls2, rfl, hg, hh, n1, n2, by decide, by decide, by decide, by decide, fun p1 H1 s1 _ t1 => ?_⟩
    rcases t1 with ⟨y, _, _, y1, _⟩ | ⟨qa, qb, e1, pa, pb, _⟩
    · exact absurd (hw y) y1
    refine ⟨_, rfl, p1, _, _, _, rfl, rfl, SqT.of e1, at_of (j := 0) rfl rfl, rfl, false, by rw [decide_eq_true rfl]; rfl, iteF ?_⟩
    refine ⟨_, rfl, _, rfl, g, g2, 0, 250, 250, ls1, ls2, rfl, hg.same s1, hh.same s1, n1, n2, by decide, by decide, by decide, by decide, fun p2 H2 s2 _ t2 => ?_⟩
    rcases t2 with ⟨y, _, _, y1, _⟩ | ⟨qc, qd, e2, pc, pd, _⟩
    · exact absurd (hw y) y1
    refine ⟨_, rfl, neD_self (dp_alike e2 pc pd) (dp_alike (s2 _ _ e1) (pa.same s2) (pb.same s2)) (okD_alike _ _) (by decide) ⟨_, rfl, iteF ?_⟩⟩
    have s12 := s1.trans s2
    refine ⟨_, rfl, _, rfl, g2, g, 0, 250, 250, ls2, ls1, rfl, hh.same s12, hg.same s12, n2, n1, by decide, by decide, by decide, by decide, fun p3 H3 s3 _ t3 => ?_⟩
    rcases t3 with ⟨y, _, _, y1, _⟩ | ⟨qe, qf, e3, pe, pf, _⟩
    · exact absurd (hw y).symm y1
    have e13 := s3 _ _ (s2 _ _ e1)
    have pa3 := (pa.same s2).same s3
    have pb3 := (pb.same s2).same s3
    refine ⟨_, rfl, p1, _, _, _, rfl, rfl, SqT.of e13, at_of (j := 2) rfl rfl, _, rfl, p1, _, _, _, rfl, rfl, SqT.of e13, at_of (j := 1) rfl rfl, (by show 3 ≤ sizeLine; decide), fun p4 hp4 => ?_⟩
    have s4 := same_new (o := .tup [.str "alike", .ref qb, .ref qa]) hp4
    refine neD_self (dp_alike (s4 _ _ e3) (pe.same s4) (pf.same s4)) (dp_alike upd_same (pb3.same s4) (pa3.same s4)) (okD_alike _ _) (by decide) ⟨_, rfl, iteF ?_⟩
    have S4 := (s12.trans s3).trans s4
    have e14 := s4 _ _ e13
    have pa4 := pa3.same s4
    have pb4 := pb3.same s4
    generalize upd H3 p4 (.tup [.str "alike", .ref qb, .ref qa]) = H4 at *
    refine ⟨_, rfl, _, rfl, _, rfl, p1, _, _, _, rfl, rfl, SqT.of e14, at_of (j := 1) rfl rfl, g, g2, qa, 250, 250, ls1, ls2, rfl, hg.same S4, hh.same S4, n1, n2, by decide, by decide, pa4, fun x => (hw x).mp, fun H5 s5 => ?_⟩
    have S5 := S4.trans s5
    refine ⟨rfl, true, by rw [decide_eq_true rfl], iteT ⟨_, rfl, _, rfl, _, rfl, p1, _, _, _, rfl, rfl, SqT.of (s5 _ _ e14), at_of (j := 2) rfl rfl, g2, g, qb, 250, 250, ls2, ls1, rfl, hh.same S5, hg.same S5, n2, n1, by decide, by decide, pb4.same s5, fun x => (hw x).mpr, fun H6 s6 => ⟨rfl, ?_⟩⟩⟩
    rw [decide_eq_true rfl]
    exact q H6 (S5.trans s6)
end
section
variable {P : Program} {w : World} {K : PySem.W.Frag} {mg : Str → Option Value} {base : Heap}
theorem dp_beat {H : Hp} {p : Addr} {z : Int} (h : H p = some (.tup [.str "beat", .int z])) : Dp K H (.ref p) (.tuple [.str "beat", .int z]) := .tup (SqT.of h) (.cons (.str _) (.cons (.int _) .nil))
theorem okD_beat (z : Int) : OkD 1 (.tuple [.str "beat", .int z]) := okD_tup fun x hx => by
  simp only [List.mem_cons, List.not_mem_nil, or_false] at hx
  rcases hx with rfl | rfl
  · exact okD_str (by decide +kernel)
  · exact okD_int _
theorem ok_l_law (T : Top K mg) : FnOk P w K mg base CX0 10 T.f_l_law T.d_l_law ["_law_script"] (spLawB K) := by
  have G_Lamp_eq := ok_Lamp_eq (P := P) (w := w) (base := base) T
  have G_l_alike := ok_l_alike (P := P) (w := w) (base := base) T
  have G_l_cell_at := ok_l_cell_at (P := P) (w := w) (base := base) T
  have G_l_first := ok_l_first (P := P) (w := w) (base := base) T
  have G_l_lamps := ok_l_lamps (P := P) (w := w) (base := base) T
  have G_l_last := ok_l_last (P := P) (w := w) (base := base) T
  have G_l_made := ok_l_made (P := P) (w := w) (base := base) T
  have G_l_period := ok_l_period (P := P) (w := w) (base := base) T
  have G_l_source := ok_l_source (P := P) (w := w) (base := base) T
  have G_l_split := ok_l_split (P := P) (w := w) (base := base) T
  have G_l_take := ok_l_take (P := P) (w := w) (base := base) T
  have G_parted := ok_parted (P := P) (w := w) (base := base) T
  have G_parted_back := ok_parted_back (P := P) (w := w) (base := base) T
  refine T.F_l_law.ok sc_l_law (fun vs H Q E h => ?_) (fun cdv A outer s H vs Q E hr h => ?_)
  · obtain ⟨a, ns, rfl, _⟩ := h; rfl
  · obtain ⟨a, ns, rfl, hS, hn, hB, q⟩ := h
    refine ⟨_, (pss_cons (ps_for PassesOwn.never rfl (pi_list (pe_op op_catS (pe_lst (pa_cons (pe_call G_l_cell_at (hr.mono (by decide)) rfl T.g_l_cell_at T.F_l_cell_at.kp T.b_l_cell_at .nil pass0 (pa_cons (pv 0) (pa_cons pe_int pa_nil))) pa_nil)) (pe_slice sl_list (pv 0) (po_some pe_int) (po_some pe_int)))) (pg_name (i := 1) sc_l_law.nd rfl (Or.inl rfl)) (pss_cons (ps_set (i := 2) sc_l_law.nd rfl (Or.inl rfl) (pe_call G_l_source (hr.mono (by decide)) rfl T.g_l_source T.F_l_source.kp T.b_l_source .nil pass0 (pa_cons (pv 1) pa_nil)))
      (pss_cons (ps_set (i := 3) sc_l_law.nd rfl (Or.inl rfl) (pe_op op_catS (pe_call G_l_lamps (hr.mono (by decide)) rfl T.g_l_lamps T.F_l_lamps.kp T.b_l_lamps .nil pass0 (pa_cons (pv 2) (pa_cons pe_int pa_nil))) (pe_lst (pa_cons (pe_tup (pa_cons (pe_call G_l_period (hr.mono (by decide)) rfl T.g_l_period T.F_l_period.kp T.b_l_period .nil pass0 (pa_cons (pv 2) pa_nil)) (pa_cons (pe_call G_l_take (hr.mono (by decide)) rfl T.g_l_take T.F_l_take.kp T.b_l_take .nil pass0 (pa_cons (pv 2) (pa_cons (pe_op op_pow pe_int pe_int) pa_nil))) pa_nil))) pa_nil))))
      (pss_cons (ps_set (i := 4) sc_l_law.nd rfl (Or.inl rfl) (pe_call G_l_split (hr.mono (by decide)) rfl T.g_l_split T.F_l_split.kp T.b_l_split .nil pass0 (pa_cons (pv 2) (pa_cons (pv 3) pa_nil))))
      (pss_cons (ps_par (i := 5) (j := 6) (by rfl) sc_l_law.nd rfl rfl (by decide) rfl rfl (pa_cons (pe_call G_l_made (hr.mono (by decide)) rfl T.g_l_made T.F_l_made.kp T.b_l_made .nil pass0 (pa_cons (pv 3) pa_nil)) (pa_cons (pe_call G_l_made (hr.mono (by decide)) rfl T.g_l_made T.F_l_made.kp T.b_l_made .nil pass0 (pa_cons (pv 4) pa_nil)) pa_nil)) (by rfl))
      (pss_cons (ps_if (pt_not (pt_val (pe_call G_l_alike (hr.mono (by decide)) rfl T.g_l_alike T.F_l_alike.kp T.b_l_alike .nil pass0 (pa_cons (pv 5) (pa_cons (pv 6) pa_nil))))) (pss_one (ps_ret pe_bl)) pss_nil)
      (pss_cons (ps_set (i := 7) sc_l_law.nd rfl (Or.inl rfl) (pe_call G_l_take (hr.mono (by decide)) rfl T.g_l_take T.F_l_take.kp T.b_l_take .nil pass0 (pa_cons (pv 2) (pa_cons (pe_callB call_len_seq (by rfl) T.n_len (by decide +kernel) (pa_cons (pv 4) pa_nil)) pa_nil))))
      (pss_cons (ps_set (i := 8) sc_l_law.nd rfl (Or.inl rfl) (pe_op op_catS (pe_slice sl_list (pv 4) po_none (po_some (pv 7))) (pe_slice sl_list (pv 4) (po_some (pe_op op_add (pv 7) pe_int)) po_none)))
      (pss_cons (ps_set (i := 9) sc_l_law.nd rfl (Or.inl rfl) (pe_call G_l_made (hr.mono (by decide)) rfl T.g_l_made T.F_l_made.kp T.b_l_made .nil pass0 (pa_cons (pv 8) pa_nil)))
      (pss_one (ps_for PassesOwn.never rfl (pi_list (pe_lst (pa_cons (pe_op op_sub (pe_call G_l_take (hr.mono (by decide)) rfl T.g_l_take T.F_l_take.kp T.b_l_take .nil pass0 (pa_cons (pv 2) (pa_cons (pe_op op_pow pe_int pe_int) pa_nil))) (pe_op op_pow pe_int pe_int)) (pa_cons (pe_ix ix_tup (pe_ix ix_list (pv 4) (pv 7) (fun _ _ => rfl)) pe_int (fun _ _ => rfl)) (pa_cons (pe_op op_add (pe_ix ix_tup (pe_ix ix_list (pv 4) (pv 7) (fun _ _ => rfl)) pe_int (fun _ _ => rfl)) pe_int) pa_nil))))) (pg_name (i := 10) sc_l_law.nd rfl (Or.inl rfl)) (pss_cons (ps_par (i := 11) (j := 12) (by rfl) sc_l_law.nd rfl rfl (by decide) rfl rfl (pa_cons (pe_call G_l_first (hr.mono (by decide)) rfl T.g_l_first T.F_l_first.kp T.b_l_first .nil pass0 (pa_cons (pe_ix ix_list (pv 4) (pv 7) (fun _ _ => rfl)) (pa_cons (pv 8) (pa_cons (pv 10) pa_nil)))) (pa_cons (pe_call G_l_last (hr.mono (by decide)) rfl T.g_l_last T.F_l_last.kp T.b_l_last .nil pass0 (pa_cons (pe_ix ix_list (pv 4) (pv 7) (fun _ _ => rfl)) (pa_cons (pv 8) (pa_cons (pv 10) pa_nil)))) pa_nil)) (by rfl))
      (pss_one (ps_if (pt_cmpR op_isN (pv 11) pe_non (nomark _)) (pss_one (ps_if (pt_not (pt_val (pe_call G_l_alike (hr.mono (by decide)) rfl T.g_l_alike T.F_l_alike.kp T.b_l_alike .nil pass0 (pa_cons (pv 5) (pa_cons (pv 9) pa_nil))))) (pss_one (ps_ret pe_bl)) pss_nil)) (pss_cons (ps_set (i := 13) sc_l_law.nd rfl (Or.inl rfl) (pe_lst (pa_cons (pe_callN G_parted (hr.mono (by decide)) rfl T.g_parted T.F_parted.kp T.kb_parted_begin pass0 (pa_cons (pv 9) (pa_cons (pv 5) pa_nil)) (pk_cons (pv 10) pk_nil)) (pa_cons (pe_callN G_parted (hr.mono (by decide)) rfl T.g_parted T.F_parted.kp T.kb_parted_begin pass0 (pa_cons (pv 5) (pa_cons (pv 9) pa_nil)) (pk_cons (pv 10) pk_nil)) pa_nil))))
      (pss_one (ps_if (PW.pt (pw_or (pt_cmpR (op_neD hr.units) (pv 13) (pe_op op_rep (pe_lst (pa_cons (pe_tup (pa_cons pe_str (pa_cons (pv 11) pa_nil))) pa_nil)) pe_int) (nomark _)) (pw_or1 (pt_cmpR (op_neD hr.units) (pe_callN G_parted_back (hr.mono (by decide)) rfl T.g_parted_back T.F_parted_back.kp T.kb_parted_back_begin pass0 (pa_cons (pv 5) (pa_cons (pv 9) pa_nil)) (pk_cons (pv 10) pk_nil)) (pe_tup (pa_cons pe_str (pa_cons (pv 12) pa_nil))) (nomark _))))) (pss_one (ps_ret pe_bl)) pss_nil)))))))))))))))))
      (pss_one (ps_ret pe_bl))), ?_⟩
    refine ⟨_, rfl, a, ns, rfl, hS, hB, fun z0 hz0 => ⟨(by show 1 ≤ sizeLine; decide), fun l0 hl0 => ?_⟩⟩
    have s0 := same_new (o := .lst [.int z0]) hl0
    refine ⟨_, rfl, 1, rfl, 4, rfl, a, _, rfl, s0.seq hS, fun p hp => ?_⟩
    have s1 := same_new (o := .lst (cutV (ns.map V.int) (some 1) (some 4))) hp
    have lc : (cutV (ns.map V.int) (some 1) (some 4)).length ≤ 63 := by
      unfold cutV
      rw [List.length_take, List.length_drop, List.length_map]
      omega
    have hints : ∀ x ∈ [V.int z0] ++ cutV (ns.map V.int) (some 1) (some 4), ∃ z, x = .int z ∧ PySem.Builtin.Int.intBits z ≤ 1048576 := fun x hx => by
      rcases List.mem_append.mp hx with h | h
      · rw [List.mem_singleton.mp h]; exact ⟨_, rfl, hz0⟩
      · obtain ⟨z, hz, rfl⟩ := List.mem_map.mp (cutV_mem h)
        exact ⟨z, rfl, hB z hz⟩
    generalize cutV (ns.map V.int) (some 1) (some 4) = xs at *
    refine ⟨l0, p, _, _, rfl, rfl, SqL.of (s1 _ _ upd_same), SqL.of upd_same, ?_, fun p2 hp2 => ?_⟩
    · exact Nat.le_trans (show 1 + xs.length ≤ 64 by omega) (by decide)
    generalize hH : upd (upd (upd H l0 (.lst [.int z0])) p (.lst xs)) p2 (.lst ([.int z0] ++ xs)) = H2
    have hx2 : H2 p2 = some (.lst ([.int z0] ++ xs)) := by rw [← hH]; exact upd_same
    generalize [V.int z0] ++ xs = cells at *
    clear hH s1 s0 hp hp2 hl0 lc
    refine ⟨p2, rfl, ⟨_, SqL.of hx2⟩, for_list (K := K) (a := p2) (xs := cells) (fun _ σ H' => (∃ v1 v2 v3 v4 v5 v6 v7 v8 v9 v10 v11 v12 v13, σ = [some (.ref a), v1, v2, v3, v4, v5, v6, v7, v8, v9, v10, v11, v12, v13]) ∧ Same H2 H') ⟨⟨_, _, _, _, _, _, _, _, _, _, _, _, _, rfl⟩, Same.refl _⟩ (fun _ σ H' _ ⟨_, s'⟩ => SqL.of (s' _ _ hx2)) ?_ ?_⟩
    · rintro i x σ H' hi ⟨⟨v1, v2, v3, v4, v5, v6, v7, v8, v9, v10, v11, v12, v13, rfl⟩, s2'⟩
      obtain ⟨z, rfl, hzb⟩ := hints x (List.mem_of_getElem? hi)
      refine ⟨_, rfl, z, rfl, hzb, fun l H3 nl s3 hsrc => ?_⟩
      -- some
      refine ⟨_, rfl, l, _, 3, rfl, hsrc, by decide, by decide, fun F0 zs0 H4 hp4 _ lz0 ok4 hs4 d4 => ?_⟩
      refine ⟨_, rfl, l, _, rfl, hs4, by decide, fun pp H5 pp0 pp1 hs5 d5 => ?_⟩
      refine ⟨_, rfl, _, _, rfl, rfl, ⟨by decide, by decide, by decide⟩, l, _, _, rfl, hs5, by omega, by decide, by decide, fun bb H6 bb0 bb1 hs6 d6 => ⟨(by show 2 ≤ sizeLine; decide), fun T0 hT0 => ⟨(by show 1 ≤ sizeLine; decide), fun l1 hl1 => ?_⟩⟩⟩
      have bb1 : bb < 10 ^ 18 := bb1
      have hp6 := (hp4.dr hs4 d5).dr hs5 d6
      have s7 := same_new (o := .tup [.int pp, .int bb]) hT0
      have eT0 := upd_same (H := H6) (a := T0) (o := .tup [.int pp, .int bb])
      have s8 := same_new (o := .lst [.ref T0]) hl1
      have e8 := upd_same (H := upd H6 T0 (.tup [.int pp, .int bb])) (a := l1) (o := .lst [.ref T0])
      have S8 := s7.trans s8
      have eT8 := s8 _ _ eT0
      have hp8 := hp6.same S8
      have hs8 := hs6.same S8
      have D8 := ((d4.trans d5).trans d6).then S8
      generalize upd (upd H6 T0 (.tup [.int pp, .int bb])) l1 (.lst [.ref T0]) = H8 at *
      refine ⟨F0, l1, _, _, rfl, rfl, SqL.of hp8.1, SqL.of e8, ?_, fun G hG => ?_⟩
      · rw [refsZ_len]
        exact Nat.le_trans (show zs0.length + 1 ≤ 4 by omega) (by decide)
      rw [show refsZ zs0 ++ [V.ref T0] = refsZ (zs0 ++ [(T0, (pp, bb))]) from refsZ_app zs0 [(T0, (pp, bb))]]
      have s9 := same_new (o := .lst (refsZ (zs0 ++ [(T0, (pp, bb))]))) hG
      have hpG : PairsA (upd H8 G (.lst (refsZ (zs0 ++ [(T0, (pp, bb))])))) G (zs0 ++ [(T0, (pp, bb))]) := ⟨upd_same, TupZ.app (hp8.2.same s9) fun y hy => by rw [List.mem_singleton.mp hy]; exact s9 _ _ eT8⟩
      have okG : OkP (zs0 ++ [(T0, (pp, bb))]) := fun y hy => by
        rcases List.mem_append.mp hy with h | h
        · exact ok4 y h
        · rw [List.mem_singleton.mp h]
          exact ⟨pp0, pp1, by show -(2 ^ 70) < bb; omega, by show bb < 2 ^ 70; omega⟩
      have lG1 : 1 ≤ (zs0 ++ [(T0, (pp, bb))]).length := by rw [List.length_append]; exact Nat.le_add_left _ _
      have lG4 : (zs0 ++ [(T0, (pp, bb))]).length ≤ 4 := by rw [List.length_append]; exact Nat.succ_le_succ lz0
      have hs9 := hs8.same s9
      have D9 := D8.then s9
      generalize upd H8 G (.lst (refsZ (zs0 ++ [(T0, (pp, bb))]))) = H9 at *
      generalize zs0 ++ [(T0, (pp, bb))] = zs at *
      clear hp4 hs4 d4 hs5 d5 hs6 d6 hp6 s7 eT0 s8 e8 S8 eT8 hp8 hs8 D8 hT0 hl1 hG s9
      -- more
      refine ⟨_, rfl, _, rfl, l, _, G, zs, rfl, hs9, by omega, hpG, okG, lG1, lG4, fun M ys H10 hpM okM ly1 ly10 hbr hs10 d10 => ?_⟩
      have hpG10 := hpG.dr hs9 d10
      have D10 := D9.trans d10
      have okZM : OkZ ys := fun y hy => ⟨(okM y hy).1, by have := (okM y hy).2.1; omega⟩
      refine ⟨_, rfl, G, zs, rfl, hpG10, okG.z, by omega, fun g1 H11 s11 _ hg1 => ?_⟩
      refine ⟨_, rfl, M, ys, rfl, hpM.same s11, okZM, ly10, fun g2 H12 s12 _ hg2 => ⟨_, _, rfl, ?_⟩⟩
      have n1 : ((prs zs).map nrm).length ≤ 10 := by rw [List.length_map, prs_len]; omega
      have n2 : ((prs ys).map nrm).length ≤ 10 := by rw [List.length_map, prs_len]; omega
      refine ⟨_, rfl, _, rfl, g1, g2, _, _, rfl, hg1.same s12, hg2, n1, n2, fun x => by rw [bright_nrm, bright_nrm]; exact (hbr x).symm, fun H13 s13 => ⟨true, rfl, iteF ?_⟩⟩
      have S13 := s11.trans (s12.trans s13)
      have hpM13 := hpM.same S13
      have hg1 := hg1.same (s12.trans s13)
      have hs13 := hs10.same S13
      have D13 := D10.then S13
      clear hg2 s11 s12 s13 S13 hpM hs10 D10 d10 hpG hpG10 hs9 D9
      -- at
      refine ⟨_, rfl, _, rfl, M, _, rfl, .inl (SqL.of hpM13.1), l, _, _, rfl, hs13, by omega, by rw [refsZ_len]; omega, by rw [refsZ_len]; omega, fun kz H20 k0 k1 hs20 d20 => ?_⟩
      rw [refsZ_len] at k1
      obtain ⟨k, rfl⟩ : ∃ k : Nat, kz = k := ⟨kz.toNat, by omega⟩
      have hk : k < ys.length := by omega
      obtain ⟨y0, hy0⟩ : ∃ y, ys[k]? = some y := ⟨_, List.getElem?_eq_getElem hk⟩
      have hpB := hpM13.dr hs13 d20
      have hg1 := hg1.dr hs13 d20
      have D20 := D13.trans d20
      refine ⟨_, rfl, _, rfl, _, rfl, M, _, rfl, SqL.of hpB.1, fun p1 hp1 => ?_⟩
      have ec1 : cutV (refsZ ys) none (some ((k : Nat) : Int)) = refsZ (ys.take k) := by rw [cut_head (by omega), Int.toNat_natCast, refsZ_take]
      rw [ec1]
      have s5 := same_new (o := .lst (refsZ (ys.take k))) hp1
      have e5 := upd_same (H := H20) (a := p1) (o := .lst (refsZ (ys.take k)))
      generalize upd H20 p1 (.lst (refsZ (ys.take k))) = H21 at *
      have hp21 := hpB.same s5
      refine ⟨_, rfl, _, rfl, _, _, rfl, rfl, _, rfl, M, _, rfl, SqL.of hp21.1, fun p2 hp2 => ?_⟩
      have ec2 : cutV (refsZ ys) (some ((k : Nat) + 1 : Int)) none = refsZ (ys.drop (k + 1)) := by
        rw [cut_from (by omega), show ((k : Int) + 1).toNat = k + 1 by omega, refsZ_drop]
      rw [ec2]
      have s6 := same_new (o := .lst (refsZ (ys.drop (k + 1)))) hp2
      have e6 := upd_same (H := H21) (a := p2) (o := .lst (refsZ (ys.drop (k + 1))))
      have e56 := s6 _ _ e5
      generalize upd H21 p2 (.lst (refsZ (ys.drop (k + 1)))) = H22 at *
      refine ⟨p1, p2, _, _, rfl, rfl, SqL.of e56, SqL.of e6, ?_, fun p3 hp3 => ?_⟩
      · rw [refsZ_len, refsZ_len, List.length_take, List.length_drop]
        exact Nat.le_trans (show _ ≤ 20 by omega) (by decide)
      rw [refsZ_app]
      have s7 := same_new (o := .lst (refsZ (ys.take k ++ ys.drop (k + 1)))) hp3
      have e7 := upd_same (H := H22) (a := p3) (o := .lst (refsZ (ys.take k ++ ys.drop (k + 1))))
      have sA := s5.trans (s6.trans s7)
      generalize upd H22 p3 (.lst (refsZ (ys.take k ++ ys.drop (k + 1)))) = H23 at *
      have lR : (ys.take k ++ ys.drop (k + 1)).length ≤ 10 := by rw [List.length_append, List.length_take, List.length_drop]; omega
      have mR : ∀ y ∈ ys.take k ++ ys.drop (k + 1), y ∈ ys := fun y hy => (List.mem_append.mp hy).elim (fun h => List.mem_of_mem_take h) fun h => List.mem_of_mem_drop h
      have hpR : PairsA H23 p3 (ys.take k ++ ys.drop (k + 1)) := ⟨e7, fun y hy => sA _ _ (hpB.2 y (mR y hy))⟩
      have okR : OkZ (ys.take k ++ ys.drop (k + 1)) := fun y hy => okZM y (mR y hy)
      have bF : ∀ x, Bright (prs ys) x ↔ y0.2.1 ∣ x - y0.2.2 ∨ Bright (prs (ys.take k ++ ys.drop (k + 1))) x := fun x => by
        have e : prs (ys.take k ++ ys.drop (k + 1)) = (prs ys).take k ++ (prs ys).drop (k + 1) := by
          unfold prs
          rw [List.map_append, List.map_take, List.map_drop]
        rw [e]
        exact fewer_bright (l := y0.2) (by unfold prs; rw [List.getElem?_map, hy0]; rfl) x
      have hpM23 := hpB.same sA
      have hg1 := hg1.same sA
      have hs23 := hs20.same sA
      have D23 := D20.then sA
      generalize ys.take k ++ ys.drop (k + 1) = fs at *
      clear s5 s6 s7 sA e5 e6 e7 e56 hp1 hp2 hp3 hpB hp21 hs20 d20 D20 hpM13 hs13 D13
      refine ⟨_, rfl, p3, fs, rfl, hpR, okR, lR, fun g3 H24 s24 _ hg3 => ?_⟩
      have hpR := hpR.same s24
      have hpM24 := hpM23.same s24
      have hg1 := hg1.same s24
      have hs24 := hs23.same s24
      have D24 := D23.then s24
      have n3 : ((prs fs).map nrm).length ≤ 10 := by rw [List.length_map, prs_len]; omega
      obtain ⟨q0, q1, q2, q3⟩ := okM y0 (List.mem_of_getElem? hy0)
      have my0 : (refsZ ys)[k]? = some (.ref y0.1) := by unfold refsZ; rw [List.getElem?_map, hy0]; rfl
      -- moments
      refine ⟨_, rfl, _, _, rfl, rfl, ⟨by decide, by decide, by decide⟩, l, _, _, rfl, hs24, by omega, by decide, by decide, fun a1 H25 a10 a11 hs25 d25 => ?_⟩
      have a11 : a1 < 10 ^ 30 := a11
      have hpR := hpR.dr hs24 d25
      have hpM25 := hpM24.dr hs24 d25
      have hg1 := hg1.dr hs24 d25
      have hg3 := hg3.dr hs24 d25
      have D25 := D24.trans d25
      have eY := hpM25.2 y0 (List.mem_of_getElem? hy0)
      refine ⟨_, _, rfl, rfl, ⟨by decide, by decide, by decide⟩, a1, (10 : Int) ^ 29, rfl, rfl, _, rfl, _, rfl, M, _, _, _, rfl, rfl, SqL.of hpM25.1, at_of (j := k) rfl my0, y0.1, _, _, _, rfl, rfl, SqT.of eY, at_of (j := 1) rfl rfl, _, rfl, _, rfl, M, _, _, _, rfl, rfl, SqL.of hpM25.1, at_of (j := k) rfl my0, y0.1, _, _, _, rfl, rfl, SqT.of eY, at_of (j := 1) rfl rfl, _, _, rfl, rfl, (by show 3 ≤ sizeLine; decide), fun S hS' => ?_⟩
      have s26 := same_new (o := .lst [.int (a1 - 10 ^ 29), .int y0.2.2, .int (y0.2.2 + 1)]) hS'
      have eS := upd_same (H := H25) (a := S) (o := .lst [.int (a1 - 10 ^ 29), .int y0.2.2, .int (y0.2.2 + 1)])
      have hpR := hpR.same s26
      have hpM26 := hpM25.same s26
      have hg1 := hg1.same s26
      have hg3 := hg3.same s26
      have eY := s26 _ _ eY
      have D26 := D25.then s26
      generalize upd H25 S (.lst [.int (a1 - 10 ^ 29), .int y0.2.2, .int (y0.2.2 + 1)]) = H26 at *
      have each : ∀ x ∈ [V.int (a1 - 10 ^ 29), .int y0.2.2, .int (y0.2.2 + 1)], ∃ t : Int, x = .int t ∧ -(2 ^ 150) < t ∧ t < 2 ^ 150 := fun x hx => by
        simp only [List.mem_cons, List.not_mem_nil, or_false] at hx
        rcases hx with rfl | rfl | rfl <;> exact ⟨_, rfl, by omega, by omega⟩
      refine ⟨S, rfl, ⟨_, SqL.of eS⟩, for_list (K := K) (a := S) (xs := [.int (a1 - 10 ^ 29), .int y0.2.2, .int (y0.2.2 + 1)]) (fun _ σ H' => (∃ v10 v11 v12 v13, σ = [some (.ref a), some (.int z), some (.ref l), some (.ref G), some (.ref M), some (.ref g1), some (.ref g2), some (.int k), some (.ref p3), some (.ref g3), v10, v11, v12, v13]) ∧ Same H26 H') ⟨⟨_, _, _, _, rfl⟩, Same.refl _⟩ (fun _ σ H' _ ⟨_, s'⟩ => SqL.of (s' _ _ eS)) ?_ ?_⟩
      · rintro j x σ H27 hj ⟨⟨w10, w11, w12, w13, rfl⟩, s27⟩
        obtain ⟨t, rfl, tl, tu⟩ := each x (List.mem_of_getElem? hj)
        have hpR := hpR.same s27
        have hpM27 := hpM26.same s27
        have hg1 := hg1.same s27
        have hg3 := hg3.same s27
        have eY := s27 _ _ eY
        have hZ : ∀ x, Bright (prs zs) x ↔ y0.2.1 ∣ x - y0.2.2 ∨ Bright (prs fs) x := fun x => (hbr x).symm.trans (bF x)
        clear hS' eS hs24 hs23 hs25 d25 D25 D24 D23 s24 s26 hpM24 hpM23 hpM25 hpM26
        refine ⟨_, rfl, _, rfl, M, _, _, _, rfl, rfl, SqL.of hpM27.1, at_of (j := k) rfl my0, _, rfl, _, rfl, y0.1, p3, t, y0.2.1, y0.2.2, fs, rfl, eY, hpR, fun y hy => (okR y hy).1, lR, q0, by omega, by omega, by omega, fun o H28 s28 out => ?_⟩
        refine ⟨_, rfl, _, rfl, M, _, _, _, rfl, rfl, SqL.of (s28 _ _ hpM27.1), at_of (j := k) rfl my0, _, rfl, _, rfl, y0.1, p3, t, y0.2.1, y0.2.2, fs, rfl, s28 _ _ eY, hpR.same s28, okR, lR, q0, by omega, by omega, by omega, fun o2 H29 s29 outb => ⟨_, _, rfl, ?_⟩⟩
        have S29 := s28.trans s29
        have P1 := (out_part (l := y0.2) hZ out).nrm
        have B1 := (outb_back (l := y0.2) hZ outb).nrm
        cases o with
        | none =>
          refine ⟨_, rfl, rfl, true, by rw [decide_eq_true (show oV none = V.non from rfl)], iteT ?_⟩
          exact ⟨_, rfl, _, rfl, g1, g3, _, _, rfl, hg1.same S29, hg3.same S29, n1, n3, fun x => (P1 x).symm, fun H30 s30 => ⟨true, rfl, iteF ⟨⟨_, _, _, _, rfl⟩, s27.trans (S29.trans s30)⟩⟩⟩
        | some y =>
          refine ⟨_, rfl, rfl, false, by rw [decide_eq_false (show ¬ oV (some y) = V.non from fun z => by cases z)], iteF ?_⟩
          obtain ⟨y2, rfl⟩ : ∃ y2, o2 = some y2 := by
            cases o2 with
            | some y2 => exact ⟨y2, rfl⟩
            | none =>
              obtain ⟨_, ⟨u, hu⟩, h3, _⟩ := out
              have := outb u
              have hu : y - y0.2.2 = y0.2.1 * u := hu
              rw [show (y0.2.1, y0.2.2).2 + u * (y0.2.1, y0.2.2).1 = y by show y0.2.2 + u * y0.2.1 = y; rw [Int.mul_comm]; omega] at this
              exact absurd this h3
          refine ⟨_, rfl, _, rfl, _, rfl, rfl, rfl, g3, g1, t, 250, 250, _, _, rfl, hg3.same S29, hg1.same S29, n3, n1, by decide, by decide, by omega, by omega, fun r1 H30 s30 _ pt1 => ?_⟩
          have S30 := S29.trans s30
          refine ⟨_, rfl, _, rfl, _, rfl, rfl, rfl, g1, g3, t, 250, 250, _, _, rfl, hg1.same S30, hg3.same S30, n1, n3, by decide, by decide, by omega, by omega, fun r2 H31 s31 _ pt2 => ⟨(by show 2 ≤ sizeLine; decide), fun W hW => ?_⟩⟩
          obtain ⟨o3, u3, v3⟩ := pt1.o
          obtain rfl := PartO.uniq u3 P1
          obtain ⟨o4, u4, v4⟩ := pt2.o
          obtain rfl := PartO.uniq u4 P1.symm
          have v3 : H31 r1 = some (.tup [.str "beat", .int y]) := s31 _ _ v3
          have v4 : H31 r2 = some (.tup [.str "beat", .int y]) := v4
          have s32 := same_new (o := .lst [.ref r1, .ref r2]) hW
          have eW := upd_same (H := H31) (a := W) (o := .lst [.ref r1, .ref r2])
          have v3 := s32 _ _ v3
          have v4 := s32 _ _ v4
          have S32 := (S30.trans s31).trans s32
          generalize upd H31 W (.lst [.ref r1, .ref r2]) = H32 at *
          refine ⟨_, rfl, _, rfl, (by show 2 ≤ sizeLine; decide), fun T1 hT1 => ⟨(by show 1 ≤ sizeLine; decide), fun l6 hl6 => ?_⟩⟩
          have s33 := same_new (o := .tup [.str "beat", .int y]) hT1
          have e33 := upd_same (H := H32) (a := T1) (o := .tup [.str "beat", .int y])
          have s34 := same_new (o := .lst [.ref T1]) hl6
          refine ⟨l6, 2, _, rfl, rfl, upd_same, by decide, by decide, (by show 1 * 2 ≤ sizeLine; decide), fun l7 hl7 => ?_⟩
          have s35 := same_new (o := .lst [.ref T1, .ref T1]) hl7
          have e7 := upd_same (H := upd (upd H32 T1 (.tup [.str "beat", .int y])) l6 (.lst [.ref T1])) (a := l7) (o := .lst [.ref T1, .ref T1])
          have e33 := s35 _ _ (s34 _ _ e33)
          have s36 := (s33.trans s34).trans s35
          have S36 := S32.trans s36
          refine neD_self (d := .list [.tuple [.str "beat", .int y], .tuple [.str "beat", .int y]]) (n := 2) (.lst (SqL.of (s36 _ _ eW)) (.cons (dp_beat (s36 _ _ v3)) (.cons (dp_beat (s36 _ _ v4)) .nil))) (.lst (SqL.of e7) (.cons (dp_beat e33) (.cons (dp_beat e33) .nil))) (okD_list fun d hd => by
            simp only [List.mem_cons, List.not_mem_nil, or_false] at hd
            rcases hd with rfl | rfl <;> exact okD_beat y) (by decide) ⟨_, rfl, iteF ?_⟩
          refine ⟨_, rfl, _, rfl, _, rfl, rfl, rfl, g1, g3, t, 250, 250, _, _, rfl, hg1.same S36, hg3.same S36, n1, n3, by decide, by decide, by omega, by omega, fun r3 H37 s37 _ bt => ⟨_, rfl, (by show 2 ≤ sizeLine; decide), fun T9 hT9 => ?_⟩⟩
          obtain ⟨o5, u5, v5⟩ := bt.o
          obtain rfl := BackO.uniq u5 B1
          have v5 : H37 r3 = some (.tup [.str "beat", .int y2]) := v5
          have s38 := same_new (o := .tup [.str "beat", .int y2]) hT9
          refine neD_self (dp_beat (s38 _ _ v5)) (dp_beat upd_same) (okD_beat y2) (by decide) ⟨_, rfl, iteF ?_⟩
          exact ⟨⟨_, _, _, _, rfl⟩, s27.trans ((S36.trans s37).trans s38)⟩
      · rintro σ H27 ⟨⟨w10, w11, w12, w13, rfl⟩, s27⟩
        exact ⟨⟨_, _, _, _, _, _, _, _, _, _, _, _, _, rfl⟩, s2'.trans (Dr.back nl s3 (D26.then s27))⟩
    · rintro σ H' ⟨⟨v1, v2, v3, v4, v5, v6, v7, v8, v9, v10, v11, v12, v13, rfl⟩, _⟩
      exact q H'
end
set_option maxHeartbeats 0 in
theorem all_mk {l : PySem.W.OpenLaw} {w : World} {K : PySem.W.Frag} {h : Heap} {mg : Str → Option Value} {fa C_Lamp C_Light f_is_whole f_check_beat f_inverse f_Lamp_init f_Lamp_eq f_Lamp_next_shine f_seen_from f_l_source f_l_take f_shining_rows f_copied f_Light_init f_Light_lamps f_Light_wait f_empty_places f_least_paper f_seen_rows f_rows f_papers f_first_beats f_parted D_parted f_last_beats f_parted_back D_parted_back f_l_one f_l_wait f_l_period f_l_lamps f_l_made f_l_mixed f_l_cell_at f_l_lit f_l_first f_first_amiss f_check_within f_l_pieces f_l_split f_l_last f_l_alike f_l_law : Addr} (X : K.In h) (G : h.Ns mainGlobals mg) (hfa : mg "law" = some (.ref fa))
    {od_is_whole an_is_whole od_check_beat an_check_beat od_inverse an_inverse od_Lamp_init an_Lamp_init od_Lamp_eq an_Lamp_eq od_Lamp_next_shine an_Lamp_next_shine od_seen_from an_seen_from od_l_source an_l_source od_l_take an_l_take od_shining_rows an_shining_rows od_copied an_copied od_Light_init an_Light_init od_Light_lamps an_Light_lamps od_Light_wait an_Light_wait od_empty_places an_empty_places od_least_paper an_least_paper od_seen_rows an_seen_rows od_rows an_rows od_papers an_papers od_first_beats an_first_beats od_parted an_parted od_last_beats an_last_beats od_parted_back an_parted_back od_l_one an_l_one od_l_wait an_l_wait od_l_period an_l_period od_l_lamps an_l_lamps od_l_made an_l_made od_l_mixed an_l_mixed od_l_cell_at an_l_cell_at od_l_lit an_l_lit od_l_first an_l_first od_first_amiss an_first_amiss od_check_within an_check_within od_l_pieces an_l_pieces od_l_split an_l_split od_l_last an_l_last od_l_alike an_l_alike od_l_law an_l_law : Option Addr} {sl_is_whole sl_check_beat sl_inverse sl_Lamp_init sl_Lamp_eq sl_Lamp_next_shine sl_seen_from sl_l_source sl_l_take sl_shining_rows sl_copied sl_Light_init sl_Light_lamps sl_Light_wait sl_empty_places sl_least_paper sl_seen_rows sl_rows sl_papers sl_first_beats sl_parted sl_last_beats sl_parted_back sl_l_one sl_l_wait sl_l_period sl_l_lamps sl_l_made sl_l_mixed sl_l_cell_at sl_l_lit sl_l_first sl_first_amiss sl_check_within sl_l_pieces sl_l_split sl_l_last sl_l_alike sl_l_law : Array (Option Value)} {oc_is_whole kV_is_whole dc_is_whole pm_is_whole cd_is_whole ct_is_whole oc_check_beat kV_check_beat dc_check_beat pm_check_beat cd_check_beat ct_check_beat oc_inverse kV_inverse dc_inverse pm_inverse cd_inverse ct_inverse oc_Lamp_init kV_Lamp_init dc_Lamp_init pm_Lamp_init cd_Lamp_init ct_Lamp_init oc_Lamp_eq kV_Lamp_eq dc_Lamp_eq pm_Lamp_eq cd_Lamp_eq ct_Lamp_eq oc_Lamp_next_shine kV_Lamp_next_shine dc_Lamp_next_shine pm_Lamp_next_shine cd_Lamp_next_shine ct_Lamp_next_shine oc_seen_from kV_seen_from dc_seen_from pm_seen_from cd_seen_from ct_seen_from oc_l_source kV_l_source dc_l_source pm_l_source cd_l_source ct_l_source oc_l_take kV_l_take dc_l_take pm_l_take cd_l_take ct_l_take oc_shining_rows kV_shining_rows dc_shining_rows pm_shining_rows cd_shining_rows ct_shining_rows oc_copied kV_copied dc_copied pm_copied cd_copied ct_copied oc_Light_init kV_Light_init dc_Light_init pm_Light_init cd_Light_init ct_Light_init oc_Light_lamps kV_Light_lamps dc_Light_lamps pm_Light_lamps cd_Light_lamps ct_Light_lamps oc_Light_wait kV_Light_wait dc_Light_wait pm_Light_wait cd_Light_wait ct_Light_wait oc_empty_places kV_empty_places dc_empty_places pm_empty_places cd_empty_places ct_empty_places oc_least_paper kV_least_paper dc_least_paper pm_least_paper cd_least_paper ct_least_paper oc_seen_rows kV_seen_rows dc_seen_rows pm_seen_rows cd_seen_rows ct_seen_rows oc_rows kV_rows dc_rows pm_rows cd_rows ct_rows oc_papers kV_papers dc_papers pm_papers cd_papers ct_papers oc_first_beats kV_first_beats dc_first_beats pm_first_beats cd_first_beats ct_first_beats oc_parted dc_parted pm_parted cd_parted ct_parted oc_last_beats kV_last_beats dc_last_beats pm_last_beats cd_last_beats ct_last_beats oc_parted_back dc_parted_back pm_parted_back cd_parted_back ct_parted_back oc_l_one kV_l_one dc_l_one pm_l_one cd_l_one ct_l_one oc_l_wait kV_l_wait dc_l_wait pm_l_wait cd_l_wait ct_l_wait oc_l_period kV_l_period dc_l_period pm_l_period cd_l_period ct_l_period oc_l_lamps kV_l_lamps dc_l_lamps pm_l_lamps cd_l_lamps ct_l_lamps oc_l_made kV_l_made dc_l_made pm_l_made cd_l_made ct_l_made oc_l_mixed kV_l_mixed dc_l_mixed pm_l_mixed cd_l_mixed ct_l_mixed oc_l_cell_at kV_l_cell_at dc_l_cell_at pm_l_cell_at cd_l_cell_at ct_l_cell_at oc_l_lit kV_l_lit dc_l_lit pm_l_lit cd_l_lit ct_l_lit oc_l_first kV_l_first dc_l_first pm_l_first cd_l_first ct_l_first oc_first_amiss kV_first_amiss dc_first_amiss pm_first_amiss cd_first_amiss ct_first_amiss oc_check_within kV_check_within dc_check_within pm_check_within cd_check_within ct_check_within oc_l_pieces kV_l_pieces dc_l_pieces pm_l_pieces cd_l_pieces ct_l_pieces oc_l_split kV_l_split dc_l_split pm_l_split cd_l_split ct_l_split oc_l_last kV_l_last dc_l_last pm_l_last cd_l_last ct_l_last oc_l_alike kV_l_alike dc_l_alike pm_l_alike cd_l_alike ct_l_alike oc_l_law kV_l_law dc_l_law pm_l_law cd_l_law ct_l_law : Value}
    {tk_parted tk_parted_back t_MOST_LAMPS : Tok}
    (aC_Lamp : PySem.W.nsIn K mainGlobals "Lamp" = some (some (.ref C_Lamp)))
    (pg_Lamp : PySem.W.plainGet K C_Lamp Str.empty = true)
    (hd_Lamp : PySem.W.hasDictIn K C_Lamp = true)
    (po_Lamp : PySem.W.plainOver K C_Lamp = true)
    (sa_Lamp : PySem.W.findIn K (.ref C_Lamp) "__setattr__" = some (some (.builtin "object.__setattr__")))
    (mk_Lamp : PySem.W.makesIn K C_Lamp = true)
    (kc_Lamp : PySem.W.keepIn K (.ref C_Lamp) = true)
    (kha_Lamp : PySem.W.findIn K (.ref C_Lamp) "__class__" = some (some (.builtin "object.__class__")))
    (khn_Lamp : PySem.W.specialIn K (.builtin "object.__class__") "__get__" = some (some (.builtin "getset_descriptor.__get__")))
    (kht_Lamp : PySem.W.takesIn K (.builtin "object.__class__") = some true)
    (khm_Lamp : PySem.W.mroIn K C_Lamp (.type "object") = some true)
    (na_Lamp_period : PySem.W.findIn K (.ref C_Lamp) "period" = some none)
    (na_Lamp_beat : PySem.W.findIn K (.ref C_Lamp) "beat" = some none)
    (aC_Light : PySem.W.nsIn K mainGlobals "Light" = some (some (.ref C_Light)))
    (pg_Light : PySem.W.plainGet K C_Light Str.empty = true)
    (hd_Light : PySem.W.hasDictIn K C_Light = true)
    (po_Light : PySem.W.plainOver K C_Light = true)
    (sa_Light : PySem.W.findIn K (.ref C_Light) "__setattr__" = some (some (.builtin "object.__setattr__")))
    (mk_Light : PySem.W.makesIn K C_Light = true)
    (kc_Light : PySem.W.keepIn K (.ref C_Light) = true)
    (kha_Light : PySem.W.findIn K (.ref C_Light) "__class__" = some (some (.builtin "object.__class__")))
    (khn_Light : PySem.W.specialIn K (.builtin "object.__class__") "__get__" = some (some (.builtin "getset_descriptor.__get__")))
    (kht_Light : PySem.W.takesIn K (.builtin "object.__class__") = some true)
    (khm_Light : PySem.W.mroIn K C_Light (.type "object") = some true)
    (na_Light__lamps : PySem.W.findIn K (.ref C_Light) "_lamps" = some none)
    (a_is_whole : PySem.W.nsIn K mainGlobals "is_whole" = some (some (.ref f_is_whole)))
    (l_is_whole : K.lookup f_is_whole = some ⟨oc_is_whole, od_is_whole, .func (PySem.W.fnOf "is_whole" "is_whole" (defArgs s_is_whole) (defBody s_is_whole) (defScope s_is_whole) .none kV_is_whole dc_is_whole pm_is_whole an_is_whole cd_is_whole ct_is_whole), sl_is_whole⟩)
    (c_is_whole : PySem.W.codeIn K cd_is_whole "is_whole" = true)
    (k_is_whole : PySem.W.keepIn K (.ref f_is_whole) = true)
    (a_check_beat : PySem.W.nsIn K mainGlobals "check_beat" = some (some (.ref f_check_beat)))
    (l_check_beat : K.lookup f_check_beat = some ⟨oc_check_beat, od_check_beat, .func (PySem.W.fnOf "check_beat" "check_beat" (defArgs s_check_beat) (defBody s_check_beat) (defScope s_check_beat) .none kV_check_beat dc_check_beat pm_check_beat an_check_beat cd_check_beat ct_check_beat), sl_check_beat⟩)
    (c_check_beat : PySem.W.codeIn K cd_check_beat "check_beat" = true)
    (k_check_beat : PySem.W.keepIn K (.ref f_check_beat) = true)
    (a_inverse : PySem.W.nsIn K mainGlobals "inverse" = some (some (.ref f_inverse)))
    (l_inverse : K.lookup f_inverse = some ⟨oc_inverse, od_inverse, .func (PySem.W.fnOf "inverse" "inverse" (defArgs s_inverse) (defBody s_inverse) (defScope s_inverse) .none kV_inverse dc_inverse pm_inverse an_inverse cd_inverse ct_inverse), sl_inverse⟩)
    (c_inverse : PySem.W.codeIn K cd_inverse "inverse" = true)
    (k_inverse : PySem.W.keepIn K (.ref f_inverse) = true)
    (a_Lamp_init : PySem.W.findIn K (.ref C_Lamp) "__init__" = some (some (.ref f_Lamp_init)))
    (j_Lamp_init : PySem.W.isFn K (.ref f_Lamp_init) = true)
    (l_Lamp_init : K.lookup f_Lamp_init = some ⟨oc_Lamp_init, od_Lamp_init, .func (PySem.W.fnOf "__init__" "Lamp.__init__" (defArgs s_Lamp_init) (defBody s_Lamp_init) (defScope s_Lamp_init) .none kV_Lamp_init dc_Lamp_init pm_Lamp_init an_Lamp_init cd_Lamp_init ct_Lamp_init), sl_Lamp_init⟩)
    (c_Lamp_init : PySem.W.codeIn K cd_Lamp_init "Lamp.__init__" = true)
    (k_Lamp_init : PySem.W.keepIn K (.ref f_Lamp_init) = true)
    (a_Lamp_eq : PySem.W.findIn K (.ref C_Lamp) "__eq__" = some (some (.ref f_Lamp_eq)))
    (j_Lamp_eq : PySem.W.isFn K (.ref f_Lamp_eq) = true)
    (l_Lamp_eq : K.lookup f_Lamp_eq = some ⟨oc_Lamp_eq, od_Lamp_eq, .func (PySem.W.fnOf "__eq__" "Lamp.__eq__" (defArgs s_Lamp_eq) (defBody s_Lamp_eq) (defScope s_Lamp_eq) .none kV_Lamp_eq dc_Lamp_eq pm_Lamp_eq an_Lamp_eq cd_Lamp_eq ct_Lamp_eq), sl_Lamp_eq⟩)
    (c_Lamp_eq : PySem.W.codeIn K cd_Lamp_eq "Lamp.__eq__" = true)
    (k_Lamp_eq : PySem.W.keepIn K (.ref f_Lamp_eq) = true)
    (a_Lamp_next_shine : PySem.W.findIn K (.ref C_Lamp) "next_shine" = some (some (.ref f_Lamp_next_shine)))
    (j_Lamp_next_shine : PySem.W.isFn K (.ref f_Lamp_next_shine) = true)
    (l_Lamp_next_shine : K.lookup f_Lamp_next_shine = some ⟨oc_Lamp_next_shine, od_Lamp_next_shine, .func (PySem.W.fnOf "next_shine" "Lamp.next_shine" (defArgs s_Lamp_next_shine) (defBody s_Lamp_next_shine) (defScope s_Lamp_next_shine) .none kV_Lamp_next_shine dc_Lamp_next_shine pm_Lamp_next_shine an_Lamp_next_shine cd_Lamp_next_shine ct_Lamp_next_shine), sl_Lamp_next_shine⟩)
    (c_Lamp_next_shine : PySem.W.codeIn K cd_Lamp_next_shine "Lamp.next_shine" = true)
    (k_Lamp_next_shine : PySem.W.keepIn K (.ref f_Lamp_next_shine) = true)
    (a_seen_from : PySem.W.nsIn K mainGlobals "seen_from" = some (some (.ref f_seen_from)))
    (l_seen_from : K.lookup f_seen_from = some ⟨oc_seen_from, od_seen_from, .func (PySem.W.fnOf "seen_from" "seen_from" (defArgs s_seen_from) (defBody s_seen_from) (defScope s_seen_from) .none kV_seen_from dc_seen_from pm_seen_from an_seen_from cd_seen_from ct_seen_from), sl_seen_from⟩)
    (c_seen_from : PySem.W.codeIn K cd_seen_from "seen_from" = true)
    (k_seen_from : PySem.W.keepIn K (.ref f_seen_from) = true)
    (a_l_source : PySem.W.nsIn K mainGlobals "_law_source" = some (some (.ref f_l_source)))
    (l_l_source : K.lookup f_l_source = some ⟨oc_l_source, od_l_source, .func (PySem.W.fnOf "_law_source" "_law_source" (defArgs s_l_source) (defBody s_l_source) (defScope s_l_source) .none kV_l_source dc_l_source pm_l_source an_l_source cd_l_source ct_l_source), sl_l_source⟩)
    (c_l_source : PySem.W.codeIn K cd_l_source "_law_source" = true)
    (k_l_source : PySem.W.keepIn K (.ref f_l_source) = true)
    (a_l_take : PySem.W.nsIn K mainGlobals "_law_take" = some (some (.ref f_l_take)))
    (l_l_take : K.lookup f_l_take = some ⟨oc_l_take, od_l_take, .func (PySem.W.fnOf "_law_take" "_law_take" (defArgs s_l_take) (defBody s_l_take) (defScope s_l_take) .none kV_l_take dc_l_take pm_l_take an_l_take cd_l_take ct_l_take), sl_l_take⟩)
    (c_l_take : PySem.W.codeIn K cd_l_take "_law_take" = true)
    (k_l_take : PySem.W.keepIn K (.ref f_l_take) = true)
    (a_shining_rows : PySem.W.nsIn K mainGlobals "shining_rows" = some (some (.ref f_shining_rows)))
    (l_shining_rows : K.lookup f_shining_rows = some ⟨oc_shining_rows, od_shining_rows, .func (PySem.W.fnOf "shining_rows" "shining_rows" (defArgs s_shining_rows) (defBody s_shining_rows) (defScope s_shining_rows) .none kV_shining_rows dc_shining_rows pm_shining_rows an_shining_rows cd_shining_rows ct_shining_rows), sl_shining_rows⟩)
    (c_shining_rows : PySem.W.codeIn K cd_shining_rows "shining_rows" = true)
    (k_shining_rows : PySem.W.keepIn K (.ref f_shining_rows) = true)
    (a_copied : PySem.W.nsIn K mainGlobals "_copied" = some (some (.ref f_copied)))
    (l_copied : K.lookup f_copied = some ⟨oc_copied, od_copied, .func (PySem.W.fnOf "_copied" "_copied" (defArgs s_copied) (defBody s_copied) (defScope s_copied) .none kV_copied dc_copied pm_copied an_copied cd_copied ct_copied), sl_copied⟩)
    (c_copied : PySem.W.codeIn K cd_copied "_copied" = true)
    (k_copied : PySem.W.keepIn K (.ref f_copied) = true)
    (a_Light_init : PySem.W.findIn K (.ref C_Light) "__init__" = some (some (.ref f_Light_init)))
    (j_Light_init : PySem.W.isFn K (.ref f_Light_init) = true)
    (l_Light_init : K.lookup f_Light_init = some ⟨oc_Light_init, od_Light_init, .func (PySem.W.fnOf "__init__" "Light.__init__" (defArgs s_Light_init) (defBody s_Light_init) (defScope s_Light_init) .none kV_Light_init dc_Light_init pm_Light_init an_Light_init cd_Light_init ct_Light_init), sl_Light_init⟩)
    (c_Light_init : PySem.W.codeIn K cd_Light_init "Light.__init__" = true)
    (k_Light_init : PySem.W.keepIn K (.ref f_Light_init) = true)
    (a_Light_lamps : PySem.W.findIn K (.ref C_Light) "lamps" = some (some (.ref f_Light_lamps)))
    (j_Light_lamps : PySem.W.isFn K (.ref f_Light_lamps) = true)
    (l_Light_lamps : K.lookup f_Light_lamps = some ⟨oc_Light_lamps, od_Light_lamps, .func (PySem.W.fnOf "lamps" "Light.lamps" (defArgs s_Light_lamps) (defBody s_Light_lamps) (defScope s_Light_lamps) .none kV_Light_lamps dc_Light_lamps pm_Light_lamps an_Light_lamps cd_Light_lamps ct_Light_lamps), sl_Light_lamps⟩)
    (c_Light_lamps : PySem.W.codeIn K cd_Light_lamps "Light.lamps" = true)
    (k_Light_lamps : PySem.W.keepIn K (.ref f_Light_lamps) = true)
    (a_Light_wait : PySem.W.findIn K (.ref C_Light) "wait" = some (some (.ref f_Light_wait)))
    (j_Light_wait : PySem.W.isFn K (.ref f_Light_wait) = true)
    (l_Light_wait : K.lookup f_Light_wait = some ⟨oc_Light_wait, od_Light_wait, .func (PySem.W.fnOf "wait" "Light.wait" (defArgs s_Light_wait) (defBody s_Light_wait) (defScope s_Light_wait) .none kV_Light_wait dc_Light_wait pm_Light_wait an_Light_wait cd_Light_wait ct_Light_wait), sl_Light_wait⟩)
    (c_Light_wait : PySem.W.codeIn K cd_Light_wait "Light.wait" = true)
    (k_Light_wait : PySem.W.keepIn K (.ref f_Light_wait) = true)
    (a_empty_places : PySem.W.nsIn K mainGlobals "empty_places" = some (some (.ref f_empty_places)))
    (l_empty_places : K.lookup f_empty_places = some ⟨oc_empty_places, od_empty_places, .func (PySem.W.fnOf "empty_places" "empty_places" (defArgs s_empty_places) (defBody s_empty_places) (defScope s_empty_places) .none kV_empty_places dc_empty_places pm_empty_places an_empty_places cd_empty_places ct_empty_places), sl_empty_places⟩)
    (c_empty_places : PySem.W.codeIn K cd_empty_places "empty_places" = true)
    (k_empty_places : PySem.W.keepIn K (.ref f_empty_places) = true)
    (a_least_paper : PySem.W.nsIn K mainGlobals "least_paper" = some (some (.ref f_least_paper)))
    (l_least_paper : K.lookup f_least_paper = some ⟨oc_least_paper, od_least_paper, .func (PySem.W.fnOf "least_paper" "least_paper" (defArgs s_least_paper) (defBody s_least_paper) (defScope s_least_paper) .none kV_least_paper dc_least_paper pm_least_paper an_least_paper cd_least_paper ct_least_paper), sl_least_paper⟩)
    (c_least_paper : PySem.W.codeIn K cd_least_paper "least_paper" = true)
    (k_least_paper : PySem.W.keepIn K (.ref f_least_paper) = true)
    (a_seen_rows : PySem.W.nsIn K mainGlobals "seen_rows" = some (some (.ref f_seen_rows)))
    (l_seen_rows : K.lookup f_seen_rows = some ⟨oc_seen_rows, od_seen_rows, .func (PySem.W.fnOf "seen_rows" "seen_rows" (defArgs s_seen_rows) (defBody s_seen_rows) (defScope s_seen_rows) .none kV_seen_rows dc_seen_rows pm_seen_rows an_seen_rows cd_seen_rows ct_seen_rows), sl_seen_rows⟩)
    (c_seen_rows : PySem.W.codeIn K cd_seen_rows "seen_rows" = true)
    (k_seen_rows : PySem.W.keepIn K (.ref f_seen_rows) = true)
    (a_rows : PySem.W.nsIn K mainGlobals "_rows" = some (some (.ref f_rows)))
    (l_rows : K.lookup f_rows = some ⟨oc_rows, od_rows, .func (PySem.W.fnOf "_rows" "_rows" (defArgs s_rows) (defBody s_rows) (defScope s_rows) .none kV_rows dc_rows pm_rows an_rows cd_rows ct_rows), sl_rows⟩)
    (c_rows : PySem.W.codeIn K cd_rows "_rows" = true)
    (k_rows : PySem.W.keepIn K (.ref f_rows) = true)
    (a_papers : PySem.W.nsIn K mainGlobals "_papers" = some (some (.ref f_papers)))
    (l_papers : K.lookup f_papers = some ⟨oc_papers, od_papers, .func (PySem.W.fnOf "_papers" "_papers" (defArgs s_papers) (defBody s_papers) (defScope s_papers) .none kV_papers dc_papers pm_papers an_papers cd_papers ct_papers), sl_papers⟩)
    (c_papers : PySem.W.codeIn K cd_papers "_papers" = true)
    (k_papers : PySem.W.keepIn K (.ref f_papers) = true)
    (a_first_beats : PySem.W.nsIn K mainGlobals "_first_beats" = some (some (.ref f_first_beats)))
    (l_first_beats : K.lookup f_first_beats = some ⟨oc_first_beats, od_first_beats, .func (PySem.W.fnOf "_first_beats" "_first_beats" (defArgs s_first_beats) (defBody s_first_beats) (defScope s_first_beats) .none kV_first_beats dc_first_beats pm_first_beats an_first_beats cd_first_beats ct_first_beats), sl_first_beats⟩)
    (c_first_beats : PySem.W.codeIn K cd_first_beats "_first_beats" = true)
    (k_first_beats : PySem.W.keepIn K (.ref f_first_beats) = true)
    (a_parted : PySem.W.nsIn K mainGlobals "parted" = some (some (.ref f_parted)))
    (l_parted : K.lookup f_parted = some ⟨oc_parted, od_parted, .func (PySem.W.fnOf "parted" "parted" (defArgs s_parted) (defBody s_parted) (defScope s_parted) .none (.ref D_parted) dc_parted pm_parted an_parted cd_parted ct_parted), sl_parted⟩)
    (c_parted : PySem.W.codeIn K cd_parted "parted" = true)
    (k_parted : PySem.W.keepIn K (.ref f_parted) = true)
    (kd_parted : PySem.W.nsIn K D_parted "begin" = some (some (.int 0 tk_parted)))
    (a_last_beats : PySem.W.nsIn K mainGlobals "_last_beats" = some (some (.ref f_last_beats)))
    (l_last_beats : K.lookup f_last_beats = some ⟨oc_last_beats, od_last_beats, .func (PySem.W.fnOf "_last_beats" "_last_beats" (defArgs s_last_beats) (defBody s_last_beats) (defScope s_last_beats) .none kV_last_beats dc_last_beats pm_last_beats an_last_beats cd_last_beats ct_last_beats), sl_last_beats⟩)
    (c_last_beats : PySem.W.codeIn K cd_last_beats "_last_beats" = true)
    (k_last_beats : PySem.W.keepIn K (.ref f_last_beats) = true)
    (a_parted_back : PySem.W.nsIn K mainGlobals "parted_back" = some (some (.ref f_parted_back)))
    (l_parted_back : K.lookup f_parted_back = some ⟨oc_parted_back, od_parted_back, .func (PySem.W.fnOf "parted_back" "parted_back" (defArgs s_parted_back) (defBody s_parted_back) (defScope s_parted_back) .none (.ref D_parted_back) dc_parted_back pm_parted_back an_parted_back cd_parted_back ct_parted_back), sl_parted_back⟩)
    (c_parted_back : PySem.W.codeIn K cd_parted_back "parted_back" = true)
    (k_parted_back : PySem.W.keepIn K (.ref f_parted_back) = true)
    (kd_parted_back : PySem.W.nsIn K D_parted_back "begin" = some (some (.int 0 tk_parted_back)))
    (a_l_one : PySem.W.nsIn K mainGlobals "_law_one" = some (some (.ref f_l_one)))
    (l_l_one : K.lookup f_l_one = some ⟨oc_l_one, od_l_one, .func (PySem.W.fnOf "_law_one" "_law_one" (defArgs s_l_one) (defBody s_l_one) (defScope s_l_one) .none kV_l_one dc_l_one pm_l_one an_l_one cd_l_one ct_l_one), sl_l_one⟩)
    (c_l_one : PySem.W.codeIn K cd_l_one "_law_one" = true)
    (k_l_one : PySem.W.keepIn K (.ref f_l_one) = true)
    (a_l_wait : PySem.W.nsIn K mainGlobals "_law_wait" = some (some (.ref f_l_wait)))
    (l_l_wait : K.lookup f_l_wait = some ⟨oc_l_wait, od_l_wait, .func (PySem.W.fnOf "_law_wait" "_law_wait" (defArgs s_l_wait) (defBody s_l_wait) (defScope s_l_wait) .none kV_l_wait dc_l_wait pm_l_wait an_l_wait cd_l_wait ct_l_wait), sl_l_wait⟩)
    (c_l_wait : PySem.W.codeIn K cd_l_wait "_law_wait" = true)
    (k_l_wait : PySem.W.keepIn K (.ref f_l_wait) = true)
    (a_l_period : PySem.W.nsIn K mainGlobals "_law_period" = some (some (.ref f_l_period)))
    (l_l_period : K.lookup f_l_period = some ⟨oc_l_period, od_l_period, .func (PySem.W.fnOf "_law_period" "_law_period" (defArgs s_l_period) (defBody s_l_period) (defScope s_l_period) .none kV_l_period dc_l_period pm_l_period an_l_period cd_l_period ct_l_period), sl_l_period⟩)
    (c_l_period : PySem.W.codeIn K cd_l_period "_law_period" = true)
    (k_l_period : PySem.W.keepIn K (.ref f_l_period) = true)
    (a_l_lamps : PySem.W.nsIn K mainGlobals "_law_lamps" = some (some (.ref f_l_lamps)))
    (l_l_lamps : K.lookup f_l_lamps = some ⟨oc_l_lamps, od_l_lamps, .func (PySem.W.fnOf "_law_lamps" "_law_lamps" (defArgs s_l_lamps) (defBody s_l_lamps) (defScope s_l_lamps) .none kV_l_lamps dc_l_lamps pm_l_lamps an_l_lamps cd_l_lamps ct_l_lamps), sl_l_lamps⟩)
    (c_l_lamps : PySem.W.codeIn K cd_l_lamps "_law_lamps" = true)
    (k_l_lamps : PySem.W.keepIn K (.ref f_l_lamps) = true)
    (a_l_made : PySem.W.nsIn K mainGlobals "_law_made" = some (some (.ref f_l_made)))
    (l_l_made : K.lookup f_l_made = some ⟨oc_l_made, od_l_made, .func (PySem.W.fnOf "_law_made" "_law_made" (defArgs s_l_made) (defBody s_l_made) (defScope s_l_made) .none kV_l_made dc_l_made pm_l_made an_l_made cd_l_made ct_l_made), sl_l_made⟩)
    (c_l_made : PySem.W.codeIn K cd_l_made "_law_made" = true)
    (k_l_made : PySem.W.keepIn K (.ref f_l_made) = true)
    (a_l_mixed : PySem.W.nsIn K mainGlobals "_law_mixed" = some (some (.ref f_l_mixed)))
    (l_l_mixed : K.lookup f_l_mixed = some ⟨oc_l_mixed, od_l_mixed, .func (PySem.W.fnOf "_law_mixed" "_law_mixed" (defArgs s_l_mixed) (defBody s_l_mixed) (defScope s_l_mixed) .none kV_l_mixed dc_l_mixed pm_l_mixed an_l_mixed cd_l_mixed ct_l_mixed), sl_l_mixed⟩)
    (c_l_mixed : PySem.W.codeIn K cd_l_mixed "_law_mixed" = true)
    (k_l_mixed : PySem.W.keepIn K (.ref f_l_mixed) = true)
    (a_l_cell_at : PySem.W.nsIn K mainGlobals "_law_cell_at" = some (some (.ref f_l_cell_at)))
    (l_l_cell_at : K.lookup f_l_cell_at = some ⟨oc_l_cell_at, od_l_cell_at, .func (PySem.W.fnOf "_law_cell_at" "_law_cell_at" (defArgs s_l_cell_at) (defBody s_l_cell_at) (defScope s_l_cell_at) .none kV_l_cell_at dc_l_cell_at pm_l_cell_at an_l_cell_at cd_l_cell_at ct_l_cell_at), sl_l_cell_at⟩)
    (c_l_cell_at : PySem.W.codeIn K cd_l_cell_at "_law_cell_at" = true)
    (k_l_cell_at : PySem.W.keepIn K (.ref f_l_cell_at) = true)
    (a_l_lit : PySem.W.nsIn K mainGlobals "_law_lit" = some (some (.ref f_l_lit)))
    (l_l_lit : K.lookup f_l_lit = some ⟨oc_l_lit, od_l_lit, .func (PySem.W.fnOf "_law_lit" "_law_lit" (defArgs s_l_lit) (defBody s_l_lit) (defScope s_l_lit) .none kV_l_lit dc_l_lit pm_l_lit an_l_lit cd_l_lit ct_l_lit), sl_l_lit⟩)
    (c_l_lit : PySem.W.codeIn K cd_l_lit "_law_lit" = true)
    (k_l_lit : PySem.W.keepIn K (.ref f_l_lit) = true)
    (a_l_first : PySem.W.nsIn K mainGlobals "_law_first" = some (some (.ref f_l_first)))
    (l_l_first : K.lookup f_l_first = some ⟨oc_l_first, od_l_first, .func (PySem.W.fnOf "_law_first" "_law_first" (defArgs s_l_first) (defBody s_l_first) (defScope s_l_first) .none kV_l_first dc_l_first pm_l_first an_l_first cd_l_first ct_l_first), sl_l_first⟩)
    (c_l_first : PySem.W.codeIn K cd_l_first "_law_first" = true)
    (k_l_first : PySem.W.keepIn K (.ref f_l_first) = true)
    (a_first_amiss : PySem.W.nsIn K mainGlobals "first_amiss" = some (some (.ref f_first_amiss)))
    (l_first_amiss : K.lookup f_first_amiss = some ⟨oc_first_amiss, od_first_amiss, .func (PySem.W.fnOf "first_amiss" "first_amiss" (defArgs s_first_amiss) (defBody s_first_amiss) (defScope s_first_amiss) .none kV_first_amiss dc_first_amiss pm_first_amiss an_first_amiss cd_first_amiss ct_first_amiss), sl_first_amiss⟩)
    (c_first_amiss : PySem.W.codeIn K cd_first_amiss "first_amiss" = true)
    (k_first_amiss : PySem.W.keepIn K (.ref f_first_amiss) = true)
    (a_check_within : PySem.W.nsIn K mainGlobals "check_within" = some (some (.ref f_check_within)))
    (l_check_within : K.lookup f_check_within = some ⟨oc_check_within, od_check_within, .func (PySem.W.fnOf "check_within" "check_within" (defArgs s_check_within) (defBody s_check_within) (defScope s_check_within) .none kV_check_within dc_check_within pm_check_within an_check_within cd_check_within ct_check_within), sl_check_within⟩)
    (c_check_within : PySem.W.codeIn K cd_check_within "check_within" = true)
    (k_check_within : PySem.W.keepIn K (.ref f_check_within) = true)
    (a_l_pieces : PySem.W.nsIn K mainGlobals "_law_pieces" = some (some (.ref f_l_pieces)))
    (l_l_pieces : K.lookup f_l_pieces = some ⟨oc_l_pieces, od_l_pieces, .func (PySem.W.fnOf "_law_pieces" "_law_pieces" (defArgs s_l_pieces) (defBody s_l_pieces) (defScope s_l_pieces) .none kV_l_pieces dc_l_pieces pm_l_pieces an_l_pieces cd_l_pieces ct_l_pieces), sl_l_pieces⟩)
    (c_l_pieces : PySem.W.codeIn K cd_l_pieces "_law_pieces" = true)
    (k_l_pieces : PySem.W.keepIn K (.ref f_l_pieces) = true)
    (a_l_split : PySem.W.nsIn K mainGlobals "_law_split" = some (some (.ref f_l_split)))
    (l_l_split : K.lookup f_l_split = some ⟨oc_l_split, od_l_split, .func (PySem.W.fnOf "_law_split" "_law_split" (defArgs s_l_split) (defBody s_l_split) (defScope s_l_split) .none kV_l_split dc_l_split pm_l_split an_l_split cd_l_split ct_l_split), sl_l_split⟩)
    (c_l_split : PySem.W.codeIn K cd_l_split "_law_split" = true)
    (k_l_split : PySem.W.keepIn K (.ref f_l_split) = true)
    (a_l_last : PySem.W.nsIn K mainGlobals "_law_last" = some (some (.ref f_l_last)))
    (l_l_last : K.lookup f_l_last = some ⟨oc_l_last, od_l_last, .func (PySem.W.fnOf "_law_last" "_law_last" (defArgs s_l_last) (defBody s_l_last) (defScope s_l_last) .none kV_l_last dc_l_last pm_l_last an_l_last cd_l_last ct_l_last), sl_l_last⟩)
    (c_l_last : PySem.W.codeIn K cd_l_last "_law_last" = true)
    (k_l_last : PySem.W.keepIn K (.ref f_l_last) = true)
    (a_l_alike : PySem.W.nsIn K mainGlobals "_law_alike" = some (some (.ref f_l_alike)))
    (l_l_alike : K.lookup f_l_alike = some ⟨oc_l_alike, od_l_alike, .func (PySem.W.fnOf "_law_alike" "_law_alike" (defArgs s_l_alike) (defBody s_l_alike) (defScope s_l_alike) .none kV_l_alike dc_l_alike pm_l_alike an_l_alike cd_l_alike ct_l_alike), sl_l_alike⟩)
    (c_l_alike : PySem.W.codeIn K cd_l_alike "_law_alike" = true)
    (k_l_alike : PySem.W.keepIn K (.ref f_l_alike) = true)
    (a_l_law : PySem.W.nsIn K mainGlobals "law" = some (some (.ref f_l_law)))
    (l_l_law : K.lookup f_l_law = some ⟨oc_l_law, od_l_law, .func (PySem.W.fnOf "law" "law" (defArgs s_l_law) (defBody s_l_law) (defScope s_l_law) .none kV_l_law dc_l_law pm_l_law an_l_law cd_l_law ct_l_law), sl_l_law⟩)
    (c_l_law : PySem.W.codeIn K cd_l_law "law" = true)
    (k_l_law : PySem.W.keepIn K (.ref f_l_law) = true)
    (ne1_Lamp : PySem.W.findIn K (.ref C_Lamp) "__ne__" = some (some (.builtin "object.__ne__")))
    (ne2_Lamp : PySem.W.subIn K (.ref C_Lamp) (.type "object") = some true)
    (n_isinstance : PySem.W.nsIn K mainGlobals "isinstance" = some none)
    (n_int : PySem.W.nsIn K mainGlobals "int" = some none)
    (n_bool : PySem.W.nsIn K mainGlobals "bool" = some none)
    (n_range : PySem.W.nsIn K mainGlobals "range" = some none)
    (n_len : PySem.W.nsIn K mainGlobals "len" = some none)
    (n_list : PySem.W.nsIn K mainGlobals "list" = some none)
    (n_enumerate : PySem.W.nsIn K mainGlobals "enumerate" = some none)
    (n_tuple : PySem.W.nsIn K mainGlobals "tuple" = some none)
    (n_all : PySem.W.nsIn K mainGlobals "all" = some none)
    (n_min : PySem.W.nsIn K mainGlobals "min" = some none)
    (n_max : PySem.W.nsIn K mainGlobals "max" = some none)
    (n_zip : PySem.W.nsIn K mainGlobals "zip" = some none)
    (c_MOST_LAMPS : PySem.W.nsIn K mainGlobals "MOST_LAMPS" = some (some (.int 10 t_MOST_LAMPS)))
    (ic_Lamp : PySem.W.isClsIn K C_Lamp = true)
    (tc_Lamp : PySem.W.typeIn K (.ref C_Lamp) = some (.type "type"))
    (sn_Lamp : PySem.W.subIn K (.type "NoneType") (.ref C_Lamp) = some false)
    (i_gcd : PySem.W.nsIn K mainGlobals "gcd" = some (some (.builtin "math.gcd")))
    : ∃ fd : FuncData, (∀ (s : Shared) (v : Value), BindsTo s fd ⟨[v], []⟩ [("_law_script", v)]) ∧ ∀ base : Heap, K.In base → base.Ns mainGlobals mg → FnOk l.prog w K mg base CX0 10 fa fd ["_law_script"] (spLawB K) := by
  have e := hfa.symm.trans (PySem.W.mg_of X G a_l_law)
  cases e
  exact ⟨_, fun s v => .of_eq rfl, fun base _ _ => ok_l_law (T := {
    C_Lamp := C_Lamp
    cl_Lamp := ⟨pg_Lamp, hd_Lamp, po_Lamp, sa_Lamp⟩
    gC_Lamp := PySem.W.mg_of X G aC_Lamp
    kl_Lamp := ⟨⟨pg_Lamp, hd_Lamp, po_Lamp, sa_Lamp⟩, kha_Lamp, khn_Lamp, kht_Lamp, khm_Lamp⟩
    na_Lamp_period := na_Lamp_period
    na_Lamp_beat := na_Lamp_beat
    C_Light := C_Light
    cl_Light := ⟨pg_Light, hd_Light, po_Light, sa_Light⟩
    gC_Light := PySem.W.mg_of X G aC_Light
    kl_Light := ⟨⟨pg_Light, hd_Light, po_Light, sa_Light⟩, kha_Light, khn_Light, kht_Light, khm_Light⟩
    na_Light__lamps := na_Light__lamps
    f_is_whole := f_is_whole
    d_is_whole := PySem.W.fnOf "is_whole" "is_whole" (defArgs s_is_whole) (defBody s_is_whole) (defScope s_is_whole) .none kV_is_whole dc_is_whole pm_is_whole an_is_whole cd_is_whole ct_is_whole
    F_is_whole := fun_mk (st := s_is_whole) l_is_whole c_is_whole k_is_whole
    b_is_whole := (fun_mk (st := s_is_whole) l_is_whole c_is_whole k_is_whole).binds (ps := ["thing"]) fun _ _ _ _ _ _ us hl => match us, hl with | [_], _ => rfl
    g_is_whole := PySem.W.mg_of X G a_is_whole
    f_check_beat := f_check_beat
    d_check_beat := PySem.W.fnOf "check_beat" "check_beat" (defArgs s_check_beat) (defBody s_check_beat) (defScope s_check_beat) .none kV_check_beat dc_check_beat pm_check_beat an_check_beat cd_check_beat ct_check_beat
    F_check_beat := fun_mk (st := s_check_beat) l_check_beat c_check_beat k_check_beat
    b_check_beat := (fun_mk (st := s_check_beat) l_check_beat c_check_beat k_check_beat).binds (ps := ["thing"]) fun _ _ _ _ _ _ us hl => match us, hl with | [_], _ => rfl
    g_check_beat := PySem.W.mg_of X G a_check_beat
    f_inverse := f_inverse
    d_inverse := PySem.W.fnOf "inverse" "inverse" (defArgs s_inverse) (defBody s_inverse) (defScope s_inverse) .none kV_inverse dc_inverse pm_inverse an_inverse cd_inverse ct_inverse
    F_inverse := fun_mk (st := s_inverse) l_inverse c_inverse k_inverse
    b_inverse := (fun_mk (st := s_inverse) l_inverse c_inverse k_inverse).binds (ps := ["number", "modulus"]) fun _ _ _ _ _ _ us hl => match us, hl with | [_, _], _ => rfl
    g_inverse := PySem.W.mg_of X G a_inverse
    f_Lamp_init := f_Lamp_init
    d_Lamp_init := PySem.W.fnOf "__init__" "Lamp.__init__" (defArgs s_Lamp_init) (defBody s_Lamp_init) (defScope s_Lamp_init) .none kV_Lamp_init dc_Lamp_init pm_Lamp_init an_Lamp_init cd_Lamp_init ct_Lamp_init
    F_Lamp_init := fun_mk (st := s_Lamp_init) l_Lamp_init c_Lamp_init k_Lamp_init
    b_Lamp_init := (fun_mk (st := s_Lamp_init) l_Lamp_init c_Lamp_init k_Lamp_init).binds (ps := ["self", "period", "beat"]) fun _ _ _ _ _ _ us hl => match us, hl with | [_, _, _], _ => rfl
    m_Lamp_init := ⟨a_Lamp_init, j_Lamp_init, k_Lamp_init⟩
    mk_Lamp := ⟨mk_Lamp, a_Lamp_init, j_Lamp_init, kc_Lamp⟩
    f_Lamp_eq := f_Lamp_eq
    d_Lamp_eq := PySem.W.fnOf "__eq__" "Lamp.__eq__" (defArgs s_Lamp_eq) (defBody s_Lamp_eq) (defScope s_Lamp_eq) .none kV_Lamp_eq dc_Lamp_eq pm_Lamp_eq an_Lamp_eq cd_Lamp_eq ct_Lamp_eq
    F_Lamp_eq := fun_mk (st := s_Lamp_eq) l_Lamp_eq c_Lamp_eq k_Lamp_eq
    b_Lamp_eq := (fun_mk (st := s_Lamp_eq) l_Lamp_eq c_Lamp_eq k_Lamp_eq).binds (ps := ["self", "other"]) fun _ _ _ _ _ _ us hl => match us, hl with | [_, _], _ => rfl
    m_Lamp_eq := ⟨a_Lamp_eq, j_Lamp_eq, k_Lamp_eq⟩
    f_Lamp_next_shine := f_Lamp_next_shine
    d_Lamp_next_shine := PySem.W.fnOf "next_shine" "Lamp.next_shine" (defArgs s_Lamp_next_shine) (defBody s_Lamp_next_shine) (defScope s_Lamp_next_shine) .none kV_Lamp_next_shine dc_Lamp_next_shine pm_Lamp_next_shine an_Lamp_next_shine cd_Lamp_next_shine ct_Lamp_next_shine
    F_Lamp_next_shine := fun_mk (st := s_Lamp_next_shine) l_Lamp_next_shine c_Lamp_next_shine k_Lamp_next_shine
    b_Lamp_next_shine := (fun_mk (st := s_Lamp_next_shine) l_Lamp_next_shine c_Lamp_next_shine k_Lamp_next_shine).binds (ps := ["self", "begin"]) fun _ _ _ _ _ _ us hl => match us, hl with | [_, _], _ => rfl
    m_Lamp_next_shine := ⟨a_Lamp_next_shine, j_Lamp_next_shine, k_Lamp_next_shine⟩
    f_seen_from := f_seen_from
    d_seen_from := PySem.W.fnOf "seen_from" "seen_from" (defArgs s_seen_from) (defBody s_seen_from) (defScope s_seen_from) .none kV_seen_from dc_seen_from pm_seen_from an_seen_from cd_seen_from ct_seen_from
    F_seen_from := fun_mk (st := s_seen_from) l_seen_from c_seen_from k_seen_from
    b_seen_from := (fun_mk (st := s_seen_from) l_seen_from c_seen_from k_seen_from).binds (ps := ["lamp", "other"]) fun _ _ _ _ _ _ us hl => match us, hl with | [_, _], _ => rfl
    g_seen_from := PySem.W.mg_of X G a_seen_from
    f_l_source := f_l_source
    d_l_source := PySem.W.fnOf "_law_source" "_law_source" (defArgs s_l_source) (defBody s_l_source) (defScope s_l_source) .none kV_l_source dc_l_source pm_l_source an_l_source cd_l_source ct_l_source
    F_l_source := fun_mk (st := s_l_source) l_l_source c_l_source k_l_source
    b_l_source := (fun_mk (st := s_l_source) l_l_source c_l_source k_l_source).binds (ps := ["_law_cell"]) fun _ _ _ _ _ _ us hl => match us, hl with | [_], _ => rfl
    g_l_source := PySem.W.mg_of X G a_l_source
    f_l_take := f_l_take
    d_l_take := PySem.W.fnOf "_law_take" "_law_take" (defArgs s_l_take) (defBody s_l_take) (defScope s_l_take) .none kV_l_take dc_l_take pm_l_take an_l_take cd_l_take ct_l_take
    F_l_take := fun_mk (st := s_l_take) l_l_take c_l_take k_l_take
    b_l_take := (fun_mk (st := s_l_take) l_l_take c_l_take k_l_take).binds (ps := ["_law_source_here", "_law_many"]) fun _ _ _ _ _ _ us hl => match us, hl with | [_, _], _ => rfl
    g_l_take := PySem.W.mg_of X G a_l_take
    f_shining_rows := f_shining_rows
    d_shining_rows := PySem.W.fnOf "shining_rows" "shining_rows" (defArgs s_shining_rows) (defBody s_shining_rows) (defScope s_shining_rows) .none kV_shining_rows dc_shining_rows pm_shining_rows an_shining_rows cd_shining_rows ct_shining_rows
    F_shining_rows := fun_mk (st := s_shining_rows) l_shining_rows c_shining_rows k_shining_rows
    b_shining_rows := (fun_mk (st := s_shining_rows) l_shining_rows c_shining_rows k_shining_rows).binds (ps := ["numbered", "begin", "many"]) fun _ _ _ _ _ _ us hl => match us, hl with | [_, _, _], _ => rfl
    g_shining_rows := PySem.W.mg_of X G a_shining_rows
    f_copied := f_copied
    d_copied := PySem.W.fnOf "_copied" "_copied" (defArgs s_copied) (defBody s_copied) (defScope s_copied) .none kV_copied dc_copied pm_copied an_copied cd_copied ct_copied
    F_copied := fun_mk (st := s_copied) l_copied c_copied k_copied
    b_copied := (fun_mk (st := s_copied) l_copied c_copied k_copied).binds (ps := ["lamps"]) fun _ _ _ _ _ _ us hl => match us, hl with | [_], _ => rfl
    g_copied := PySem.W.mg_of X G a_copied
    f_Light_init := f_Light_init
    d_Light_init := PySem.W.fnOf "__init__" "Light.__init__" (defArgs s_Light_init) (defBody s_Light_init) (defScope s_Light_init) .none kV_Light_init dc_Light_init pm_Light_init an_Light_init cd_Light_init ct_Light_init
    F_Light_init := fun_mk (st := s_Light_init) l_Light_init c_Light_init k_Light_init
    b_Light_init := (fun_mk (st := s_Light_init) l_Light_init c_Light_init k_Light_init).binds (ps := ["self", "lamps"]) fun _ _ _ _ _ _ us hl => match us, hl with | [_, _], _ => rfl
    m_Light_init := ⟨a_Light_init, j_Light_init, k_Light_init⟩
    mk_Light := ⟨mk_Light, a_Light_init, j_Light_init, kc_Light⟩
    f_Light_lamps := f_Light_lamps
    d_Light_lamps := PySem.W.fnOf "lamps" "Light.lamps" (defArgs s_Light_lamps) (defBody s_Light_lamps) (defScope s_Light_lamps) .none kV_Light_lamps dc_Light_lamps pm_Light_lamps an_Light_lamps cd_Light_lamps ct_Light_lamps
    F_Light_lamps := fun_mk (st := s_Light_lamps) l_Light_lamps c_Light_lamps k_Light_lamps
    b_Light_lamps := (fun_mk (st := s_Light_lamps) l_Light_lamps c_Light_lamps k_Light_lamps).binds (ps := ["self"]) fun _ _ _ _ _ _ us hl => match us, hl with | [_], _ => rfl
    m_Light_lamps := ⟨a_Light_lamps, j_Light_lamps, k_Light_lamps⟩
    f_Light_wait := f_Light_wait
    d_Light_wait := PySem.W.fnOf "wait" "Light.wait" (defArgs s_Light_wait) (defBody s_Light_wait) (defScope s_Light_wait) .none kV_Light_wait dc_Light_wait pm_Light_wait an_Light_wait cd_Light_wait ct_Light_wait
    F_Light_wait := fun_mk (st := s_Light_wait) l_Light_wait c_Light_wait k_Light_wait
    b_Light_wait := (fun_mk (st := s_Light_wait) l_Light_wait c_Light_wait k_Light_wait).binds (ps := ["self"]) fun _ _ _ _ _ _ us hl => match us, hl with | [_], _ => rfl
    m_Light_wait := ⟨a_Light_wait, j_Light_wait, k_Light_wait⟩
    f_empty_places := f_empty_places
    d_empty_places := PySem.W.fnOf "empty_places" "empty_places" (defArgs s_empty_places) (defBody s_empty_places) (defScope s_empty_places) .none kV_empty_places dc_empty_places pm_empty_places an_empty_places cd_empty_places ct_empty_places
    F_empty_places := fun_mk (st := s_empty_places) l_empty_places c_empty_places k_empty_places
    b_empty_places := (fun_mk (st := s_empty_places) l_empty_places c_empty_places k_empty_places).binds (ps := ["rows"]) fun _ _ _ _ _ _ us hl => match us, hl with | [_], _ => rfl
    g_empty_places := PySem.W.mg_of X G a_empty_places
    f_least_paper := f_least_paper
    d_least_paper := PySem.W.fnOf "least_paper" "least_paper" (defArgs s_least_paper) (defBody s_least_paper) (defScope s_least_paper) .none kV_least_paper dc_least_paper pm_least_paper an_least_paper cd_least_paper ct_least_paper
    F_least_paper := fun_mk (st := s_least_paper) l_least_paper c_least_paper k_least_paper
    b_least_paper := (fun_mk (st := s_least_paper) l_least_paper c_least_paper k_least_paper).binds (ps := ["rows"]) fun _ _ _ _ _ _ us hl => match us, hl with | [_], _ => rfl
    g_least_paper := PySem.W.mg_of X G a_least_paper
    f_seen_rows := f_seen_rows
    d_seen_rows := PySem.W.fnOf "seen_rows" "seen_rows" (defArgs s_seen_rows) (defBody s_seen_rows) (defScope s_seen_rows) .none kV_seen_rows dc_seen_rows pm_seen_rows an_seen_rows cd_seen_rows ct_seen_rows
    F_seen_rows := fun_mk (st := s_seen_rows) l_seen_rows c_seen_rows k_seen_rows
    b_seen_rows := (fun_mk (st := s_seen_rows) l_seen_rows c_seen_rows k_seen_rows).binds (ps := ["lamp", "numbered", "first", "many"]) fun _ _ _ _ _ _ us hl => match us, hl with | [_, _, _, _], _ => rfl
    g_seen_rows := PySem.W.mg_of X G a_seen_rows
    f_rows := f_rows
    d_rows := PySem.W.fnOf "_rows" "_rows" (defArgs s_rows) (defBody s_rows) (defScope s_rows) .none kV_rows dc_rows pm_rows an_rows cd_rows ct_rows
    F_rows := fun_mk (st := s_rows) l_rows c_rows k_rows
    b_rows := (fun_mk (st := s_rows) l_rows c_rows k_rows).binds (ps := ["lamp", "other", "first"]) fun _ _ _ _ _ _ us hl => match us, hl with | [_, _, _], _ => rfl
    g_rows := PySem.W.mg_of X G a_rows
    f_papers := f_papers
    d_papers := PySem.W.fnOf "_papers" "_papers" (defArgs s_papers) (defBody s_papers) (defScope s_papers) .none kV_papers dc_papers pm_papers an_papers cd_papers ct_papers
    F_papers := fun_mk (st := s_papers) l_papers c_papers k_papers
    b_papers := (fun_mk (st := s_papers) l_papers c_papers k_papers).binds (ps := ["one", "other"]) fun _ _ _ _ _ _ us hl => match us, hl with | [_, _], _ => rfl
    g_papers := PySem.W.mg_of X G a_papers
    f_first_beats := f_first_beats
    d_first_beats := PySem.W.fnOf "_first_beats" "_first_beats" (defArgs s_first_beats) (defBody s_first_beats) (defScope s_first_beats) .none kV_first_beats dc_first_beats pm_first_beats an_first_beats cd_first_beats ct_first_beats
    F_first_beats := fun_mk (st := s_first_beats) l_first_beats c_first_beats k_first_beats
    b_first_beats := (fun_mk (st := s_first_beats) l_first_beats c_first_beats k_first_beats).binds (ps := ["one", "other", "begin"]) fun _ _ _ _ _ _ us hl => match us, hl with | [_, _, _], _ => rfl
    g_first_beats := PySem.W.mg_of X G a_first_beats
    f_parted := f_parted
    d_parted := PySem.W.fnOf "parted" "parted" (defArgs s_parted) (defBody s_parted) (defScope s_parted) .none (.ref D_parted) dc_parted pm_parted an_parted cd_parted ct_parted
    F_parted := fun_mk (st := s_parted) l_parted c_parted k_parted
    bd_parted := bd1 2 l_parted c_parted k_parted kd_parted rfl fun D doc pm an cdv ct us ks h1 h2 => match us, ks, h1, h2 with | [_, _], [_], _, _ => ⟨_, _, _, _, _, _, rfl, rfl, rfl⟩
    g_parted := PySem.W.mg_of X G a_parted
    f_last_beats := f_last_beats
    d_last_beats := PySem.W.fnOf "_last_beats" "_last_beats" (defArgs s_last_beats) (defBody s_last_beats) (defScope s_last_beats) .none kV_last_beats dc_last_beats pm_last_beats an_last_beats cd_last_beats ct_last_beats
    F_last_beats := fun_mk (st := s_last_beats) l_last_beats c_last_beats k_last_beats
    b_last_beats := (fun_mk (st := s_last_beats) l_last_beats c_last_beats k_last_beats).binds (ps := ["one", "other", "begin"]) fun _ _ _ _ _ _ us hl => match us, hl with | [_, _, _], _ => rfl
    g_last_beats := PySem.W.mg_of X G a_last_beats
    f_parted_back := f_parted_back
    d_parted_back := PySem.W.fnOf "parted_back" "parted_back" (defArgs s_parted_back) (defBody s_parted_back) (defScope s_parted_back) .none (.ref D_parted_back) dc_parted_back pm_parted_back an_parted_back cd_parted_back ct_parted_back
    F_parted_back := fun_mk (st := s_parted_back) l_parted_back c_parted_back k_parted_back
    bd_parted_back := bd1 2 l_parted_back c_parted_back k_parted_back kd_parted_back rfl fun D doc pm an cdv ct us ks h1 h2 => match us, ks, h1, h2 with | [_, _], [_], _, _ => ⟨_, _, _, _, _, _, rfl, rfl, rfl⟩
    g_parted_back := PySem.W.mg_of X G a_parted_back
    f_l_one := f_l_one
    d_l_one := PySem.W.fnOf "_law_one" "_law_one" (defArgs s_l_one) (defBody s_l_one) (defScope s_l_one) .none kV_l_one dc_l_one pm_l_one an_l_one cd_l_one ct_l_one
    F_l_one := fun_mk (st := s_l_one) l_l_one c_l_one k_l_one
    b_l_one := (fun_mk (st := s_l_one) l_l_one c_l_one k_l_one).binds (ps := ["_law_source_here", "_law_some"]) fun _ _ _ _ _ _ us hl => match us, hl with | [_, _], _ => rfl
    g_l_one := PySem.W.mg_of X G a_l_one
    f_l_wait := f_l_wait
    d_l_wait := PySem.W.fnOf "_law_wait" "_law_wait" (defArgs s_l_wait) (defBody s_l_wait) (defScope s_l_wait) .none kV_l_wait dc_l_wait pm_l_wait an_l_wait cd_l_wait ct_l_wait
    F_l_wait := fun_mk (st := s_l_wait) l_l_wait c_l_wait k_l_wait
    b_l_wait := (fun_mk (st := s_l_wait) l_l_wait c_l_wait k_l_wait).binds (ps := ["_law_many"]) fun _ _ _ _ _ _ us hl => match us, hl with | [_], _ => rfl
    g_l_wait := PySem.W.mg_of X G a_l_wait
    f_l_period := f_l_period
    d_l_period := PySem.W.fnOf "_law_period" "_law_period" (defArgs s_l_period) (defBody s_l_period) (defScope s_l_period) .none kV_l_period dc_l_period pm_l_period an_l_period cd_l_period ct_l_period
    F_l_period := fun_mk (st := s_l_period) l_l_period c_l_period k_l_period
    b_l_period := (fun_mk (st := s_l_period) l_l_period c_l_period k_l_period).binds (ps := ["_law_source_here"]) fun _ _ _ _ _ _ us hl => match us, hl with | [_], _ => rfl
    g_l_period := PySem.W.mg_of X G a_l_period
    f_l_lamps := f_l_lamps
    d_l_lamps := PySem.W.fnOf "_law_lamps" "_law_lamps" (defArgs s_l_lamps) (defBody s_l_lamps) (defScope s_l_lamps) .none kV_l_lamps dc_l_lamps pm_l_lamps an_l_lamps cd_l_lamps ct_l_lamps
    F_l_lamps := fun_mk (st := s_l_lamps) l_l_lamps c_l_lamps k_l_lamps
    b_l_lamps := (fun_mk (st := s_l_lamps) l_l_lamps c_l_lamps k_l_lamps).binds (ps := ["_law_source_here", "_law_most"]) fun _ _ _ _ _ _ us hl => match us, hl with | [_, _], _ => rfl
    g_l_lamps := PySem.W.mg_of X G a_l_lamps
    f_l_made := f_l_made
    d_l_made := PySem.W.fnOf "_law_made" "_law_made" (defArgs s_l_made) (defBody s_l_made) (defScope s_l_made) .none kV_l_made dc_l_made pm_l_made an_l_made cd_l_made ct_l_made
    F_l_made := fun_mk (st := s_l_made) l_l_made c_l_made k_l_made
    b_l_made := (fun_mk (st := s_l_made) l_l_made c_l_made k_l_made).binds (ps := ["_law_some"]) fun _ _ _ _ _ _ us hl => match us, hl with | [_], _ => rfl
    g_l_made := PySem.W.mg_of X G a_l_made
    f_l_mixed := f_l_mixed
    d_l_mixed := PySem.W.fnOf "_law_mixed" "_law_mixed" (defArgs s_l_mixed) (defBody s_l_mixed) (defScope s_l_mixed) .none kV_l_mixed dc_l_mixed pm_l_mixed an_l_mixed cd_l_mixed ct_l_mixed
    F_l_mixed := fun_mk (st := s_l_mixed) l_l_mixed c_l_mixed k_l_mixed
    b_l_mixed := (fun_mk (st := s_l_mixed) l_l_mixed c_l_mixed k_l_mixed).binds (ps := ["_law_source_here", "_law_some"]) fun _ _ _ _ _ _ us hl => match us, hl with | [_, _], _ => rfl
    g_l_mixed := PySem.W.mg_of X G a_l_mixed
    f_l_cell_at := f_l_cell_at
    d_l_cell_at := PySem.W.fnOf "_law_cell_at" "_law_cell_at" (defArgs s_l_cell_at) (defBody s_l_cell_at) (defScope s_l_cell_at) .none kV_l_cell_at dc_l_cell_at pm_l_cell_at an_l_cell_at cd_l_cell_at ct_l_cell_at
    F_l_cell_at := fun_mk (st := s_l_cell_at) l_l_cell_at c_l_cell_at k_l_cell_at
    b_l_cell_at := (fun_mk (st := s_l_cell_at) l_l_cell_at c_l_cell_at k_l_cell_at).binds (ps := ["_law_script", "_law_k"]) fun _ _ _ _ _ _ us hl => match us, hl with | [_, _], _ => rfl
    g_l_cell_at := PySem.W.mg_of X G a_l_cell_at
    f_l_lit := f_l_lit
    d_l_lit := PySem.W.fnOf "_law_lit" "_law_lit" (defArgs s_l_lit) (defBody s_l_lit) (defScope s_l_lit) .none kV_l_lit dc_l_lit pm_l_lit an_l_lit cd_l_lit ct_l_lit
    F_l_lit := fun_mk (st := s_l_lit) l_l_lit c_l_lit k_l_lit
    b_l_lit := (fun_mk (st := s_l_lit) l_l_lit c_l_lit k_l_lit).binds (ps := ["_law_some", "_law_beat"]) fun _ _ _ _ _ _ us hl => match us, hl with | [_, _], _ => rfl
    g_l_lit := PySem.W.mg_of X G a_l_lit
    f_l_first := f_l_first
    d_l_first := PySem.W.fnOf "_law_first" "_law_first" (defArgs s_l_first) (defBody s_l_first) (defScope s_l_first) .none kV_l_first dc_l_first pm_l_first an_l_first cd_l_first ct_l_first
    F_l_first := fun_mk (st := s_l_first) l_l_first c_l_first k_l_first
    b_l_first := (fun_mk (st := s_l_first) l_l_first c_l_first k_l_first).binds (ps := ["_law_lamp", "_law_some", "_law_moment"]) fun _ _ _ _ _ _ us hl => match us, hl with | [_, _, _], _ => rfl
    g_l_first := PySem.W.mg_of X G a_l_first
    f_first_amiss := f_first_amiss
    d_first_amiss := PySem.W.fnOf "first_amiss" "first_amiss" (defArgs s_first_amiss) (defBody s_first_amiss) (defScope s_first_amiss) .none kV_first_amiss dc_first_amiss pm_first_amiss an_first_amiss cd_first_amiss ct_first_amiss
    F_first_amiss := fun_mk (st := s_first_amiss) l_first_amiss c_first_amiss k_first_amiss
    b_first_amiss := (fun_mk (st := s_first_amiss) l_first_amiss c_first_amiss k_first_amiss).binds (ps := ["paper", "rows"]) fun _ _ _ _ _ _ us hl => match us, hl with | [_, _], _ => rfl
    g_first_amiss := PySem.W.mg_of X G a_first_amiss
    f_check_within := f_check_within
    d_check_within := PySem.W.fnOf "check_within" "check_within" (defArgs s_check_within) (defBody s_check_within) (defScope s_check_within) .none kV_check_within dc_check_within pm_check_within an_check_within cd_check_within ct_check_within
    F_check_within := fun_mk (st := s_check_within) l_check_within c_check_within k_check_within
    b_check_within := (fun_mk (st := s_check_within) l_check_within c_check_within k_check_within).binds (ps := ["one", "other", "papers"]) fun _ _ _ _ _ _ us hl => match us, hl with | [_, _, _], _ => rfl
    g_check_within := PySem.W.mg_of X G a_check_within
    f_l_pieces := f_l_pieces
    d_l_pieces := PySem.W.fnOf "_law_pieces" "_law_pieces" (defArgs s_l_pieces) (defBody s_l_pieces) (defScope s_l_pieces) .none kV_l_pieces dc_l_pieces pm_l_pieces an_l_pieces cd_l_pieces ct_l_pieces
    F_l_pieces := fun_mk (st := s_l_pieces) l_l_pieces c_l_pieces k_l_pieces
    b_l_pieces := (fun_mk (st := s_l_pieces) l_l_pieces c_l_pieces k_l_pieces).binds (ps := ["_law_lamp", "_law_many"]) fun _ _ _ _ _ _ us hl => match us, hl with | [_, _], _ => rfl
    g_l_pieces := PySem.W.mg_of X G a_l_pieces
    f_l_split := f_l_split
    d_l_split := PySem.W.fnOf "_law_split" "_law_split" (defArgs s_l_split) (defBody s_l_split) (defScope s_l_split) .none kV_l_split dc_l_split pm_l_split an_l_split cd_l_split ct_l_split
    F_l_split := fun_mk (st := s_l_split) l_l_split c_l_split k_l_split
    b_l_split := (fun_mk (st := s_l_split) l_l_split c_l_split k_l_split).binds (ps := ["_law_source_here", "_law_some"]) fun _ _ _ _ _ _ us hl => match us, hl with | [_, _], _ => rfl
    g_l_split := PySem.W.mg_of X G a_l_split
    f_l_last := f_l_last
    d_l_last := PySem.W.fnOf "_law_last" "_law_last" (defArgs s_l_last) (defBody s_l_last) (defScope s_l_last) .none kV_l_last dc_l_last pm_l_last an_l_last cd_l_last ct_l_last
    F_l_last := fun_mk (st := s_l_last) l_l_last c_l_last k_l_last
    b_l_last := (fun_mk (st := s_l_last) l_l_last c_l_last k_l_last).binds (ps := ["_law_lamp", "_law_some", "_law_moment"]) fun _ _ _ _ _ _ us hl => match us, hl with | [_, _, _], _ => rfl
    g_l_last := PySem.W.mg_of X G a_l_last
    f_l_alike := f_l_alike
    d_l_alike := PySem.W.fnOf "_law_alike" "_law_alike" (defArgs s_l_alike) (defBody s_l_alike) (defScope s_l_alike) .none kV_l_alike dc_l_alike pm_l_alike an_l_alike cd_l_alike ct_l_alike
    F_l_alike := fun_mk (st := s_l_alike) l_l_alike c_l_alike k_l_alike
    b_l_alike := (fun_mk (st := s_l_alike) l_l_alike c_l_alike k_l_alike).binds (ps := ["_law_one_here", "_law_other"]) fun _ _ _ _ _ _ us hl => match us, hl with | [_, _], _ => rfl
    g_l_alike := PySem.W.mg_of X G a_l_alike
    f_l_law := fa
    d_l_law := PySem.W.fnOf "law" "law" (defArgs s_l_law) (defBody s_l_law) (defScope s_l_law) .none kV_l_law dc_l_law pm_l_law an_l_law cd_l_law ct_l_law
    F_l_law := fun_mk (st := s_l_law) l_l_law c_l_law k_l_law
    b_l_law := (fun_mk (st := s_l_law) l_l_law c_l_law k_l_law).binds (ps := ["_law_script"]) fun _ _ _ _ _ _ us hl => match us, hl with | [_], _ => rfl
    g_l_law := PySem.W.mg_of X G a_l_law
    kb_parted_begin := Fun.kbn (fun_mk (st := s_parted) l_parted c_parted k_parted) 2 ["begin"] [0] fun _ _ _ _ _ _ us ws h1 h2 => match us, ws, h1, h2 with | [_, _], [_], _, _ => rfl
    kb_parted_back_begin := Fun.kbn (fun_mk (st := s_parted_back) l_parted_back c_parted_back k_parted_back) 2 ["begin"] [0] fun _ _ _ _ _ _ us ws h1 h2 => match us, ws, h1, h2 with | [_, _], [_], _, _ => rfl
    ne_Lamp := ⟨ne1_Lamp, ne2_Lamp⟩
    n_isinstance := PySem.W.mg_none_of X G n_isinstance
    n_int := PySem.W.mg_none_of X G n_int
    n_bool := PySem.W.mg_none_of X G n_bool
    n_range := PySem.W.mg_none_of X G n_range
    n_len := PySem.W.mg_none_of X G n_len
    n_list := PySem.W.mg_none_of X G n_list
    n_enumerate := PySem.W.mg_none_of X G n_enumerate
    n_tuple := PySem.W.mg_none_of X G n_tuple
    n_all := PySem.W.mg_none_of X G n_all
    n_min := PySem.W.mg_none_of X G n_min
    n_max := PySem.W.mg_none_of X G n_max
    n_zip := PySem.W.mg_none_of X G n_zip
    t_MOST_LAMPS := t_MOST_LAMPS
    c_MOST_LAMPS := PySem.W.mg_of X G c_MOST_LAMPS
    ic_Lamp := ic_Lamp
    tc_Lamp := tc_Lamp
    sn_Lamp := sn_Lamp
    i_gcd := PySem.W.mg_of X G i_gcd
    })⟩
theorem walk {l : PySem.W.OpenLaw} {q : Program} {loose : List Str} {XP : (Str → Option Value) → Heap → Prop} {YP : World → Heap → Prop} {d : DefRec} {K : Params → PySem.W.Frag} (hn : l.most = some 63) (hdf : d.params.defaults = [])
    (hY : ∀ (w : World) (h : Heap), YP w h → (K w.params).In h)
    (F : ∀ (w : World) (mg : Str → Option Value) (fa : Addr) (h : Heap), (K w.params).In h → h.Ns mainGlobals mg → mg d.name = some (.ref fa) →
      ∃ fd : FuncData, (∀ (s : Shared) (u : Value), BindsTo s fd ⟨[u], []⟩ [("_law_script", u)]) ∧ ∀ base : Heap, (K w.params).In base → base.Ns mainGlobals mg → FnOk l.prog w (K w.params) mg base CX0 10 fa fd ["_law_script"] (spLawB (K w.params))) :
    PySem.W.WalkO q loose XP YP l.row.toRowW d [] (fun f vs => PySem.call f vs) :=
  L2.walk_ofB (n := 63) (k := 10) (x := "_law_script") (CX := fun _ => CX0) (sp := fun w => spLawB (K w.params)) hn (by decide) hdf ⟨rfl, by decide, by decide⟩ hY F (fun _ _ a ns hl hB _ hS => ⟨a, ns, rfl, hS, hl, hB, fun _ => rfl⟩) fun _ _ _ _ _ z => z
end Own
open PySem PySem.W PyProof.Rows
set_option maxRecDepth 100000 in
set_option maxHeartbeats 0 in
theorem PySem.Challenge.cw_farlamps_k32_whole_split_lamps_holds : PySem.Challenge.rw_farlamps_k32_whole_split_lamps.Holds := by
  w_on; o_law; k_head; (case hw => w_witness2)
  k_fill
  refine Own.walk (l := PySem.Challenge.rw_farlamps_k32_whole_split_lamps) rfl rfl (fun w h Y => PySem.W.kIn_of Y) ?F
  case F =>
    intro w mg fa h KX G hmg
    refine' Own.all_mk KX G hmg ?aC_Lamp ?pg_Lamp ?hd_Lamp ?po_Lamp ?sa_Lamp ?mk_Lamp ?kc_Lamp ?kha_Lamp ?khn_Lamp ?kht_Lamp ?khm_Lamp ?na_Lamp_period ?na_Lamp_beat ?aC_Light ?pg_Light ?hd_Light ?po_Light ?sa_Light ?mk_Light ?kc_Light ?kha_Light ?khn_Light ?kht_Light ?khm_Light ?na_Light__lamps ?a_is_whole ?l_is_whole ?c_is_whole ?k_is_whole ?a_check_beat ?l_check_beat ?c_check_beat ?k_check_beat ?a_inverse ?l_inverse ?c_inverse ?k_inverse ?a_Lamp_init ?j_Lamp_init ?l_Lamp_init ?c_Lamp_init ?k_Lamp_init ?a_Lamp_eq ?j_Lamp_eq ?l_Lamp_eq ?c_Lamp_eq ?k_Lamp_eq ?a_Lamp_next_shine ?j_Lamp_next_shine ?l_Lamp_next_shine ?c_Lamp_next_shine ?k_Lamp_next_shine ?a_seen_from ?l_seen_from ?c_seen_from ?k_seen_from ?a_l_source ?l_l_source ?c_l_source ?k_l_source ?a_l_take ?l_l_take ?c_l_take ?k_l_take ?a_shining_rows ?l_shining_rows ?c_shining_rows ?k_shining_rows ?a_copied ?l_copied ?c_copied ?k_copied ?a_Light_init ?j_Light_init ?l_Light_init ?c_Light_init ?k_Light_init ?a_Light_lamps ?j_Light_lamps ?l_Light_lamps ?c_Light_lamps ?k_Light_lamps ?a_Light_wait ?j_Light_wait ?l_Light_wait ?c_Light_wait ?k_Light_wait ?a_empty_places ?l_empty_places ?c_empty_places ?k_empty_places ?a_least_paper ?l_least_paper ?c_least_paper ?k_least_paper ?a_seen_rows ?l_seen_rows ?c_seen_rows ?k_seen_rows ?a_rows ?l_rows ?c_rows ?k_rows ?a_papers ?l_papers ?c_papers ?k_papers ?a_first_beats ?l_first_beats ?c_first_beats ?k_first_beats ?a_parted ?l_parted ?c_parted ?k_parted ?kd_parted ?a_last_beats ?l_last_beats ?c_last_beats ?k_last_beats ?a_parted_back ?l_parted_back ?c_parted_back ?k_parted_back ?kd_parted_back ?a_l_one ?l_l_one ?c_l_one ?k_l_one ?a_l_wait ?l_l_wait ?c_l_wait ?k_l_wait ?a_l_period ?l_l_period ?c_l_period ?k_l_period ?a_l_lamps ?l_l_lamps ?c_l_lamps ?k_l_lamps ?a_l_made ?l_l_made ?c_l_made ?k_l_made ?a_l_mixed ?l_l_mixed ?c_l_mixed ?k_l_mixed ?a_l_cell_at ?l_l_cell_at ?c_l_cell_at ?k_l_cell_at ?a_l_lit ?l_l_lit ?c_l_lit ?k_l_lit ?a_l_first ?l_l_first ?c_l_first ?k_l_first ?a_first_amiss ?l_first_amiss ?c_first_amiss ?k_first_amiss ?a_check_within ?l_check_within ?c_check_within ?k_check_within ?a_l_pieces ?l_l_pieces ?c_l_pieces ?k_l_pieces ?a_l_split ?l_l_split ?c_l_split ?k_l_split ?a_l_last ?l_l_last ?c_l_last ?k_l_last ?a_l_alike ?l_l_alike ?c_l_alike ?k_l_alike ?a_l_law ?l_l_law ?c_l_law ?k_l_law ?ne1_Lamp ?ne2_Lamp ?n_isinstance ?n_int ?n_bool ?n_range ?n_len ?n_list ?n_enumerate ?n_tuple ?n_all ?n_min ?n_max ?n_zip ?c_MOST_LAMPS ?ic_Lamp ?tc_Lamp ?sn_Lamp ?i_gcd
    (case aC_Lamp => k_is)
    (case pg_Lamp => k_is)
    (case hd_Lamp => k_is)
    (case po_Lamp => k_is)
    (case sa_Lamp => k_is)
    (case mk_Lamp => k_is)
    (case kc_Lamp => k_is)
    (case kha_Lamp => k_is)
    (case khn_Lamp => k_is)
    (case kht_Lamp => k_is)
    (case khm_Lamp => k_is)
    (case na_Lamp_period => k_is)
    (case na_Lamp_beat => k_is)
    (case aC_Light => k_is)
    (case pg_Light => k_is)
    (case hd_Light => k_is)
    (case po_Light => k_is)
    (case sa_Light => k_is)
    (case mk_Light => k_is)
    (case kc_Light => k_is)
    (case kha_Light => k_is)
    (case khn_Light => k_is)
    (case kht_Light => k_is)
    (case khm_Light => k_is)
    (case na_Light__lamps => k_is)
    (case a_is_whole => k_is)
    (case l_is_whole => k_is)
    (case c_is_whole => k_is)
    (case k_is_whole => k_is)
    (case a_check_beat => k_is)
    (case l_check_beat => k_is)
    (case c_check_beat => k_is)
    (case k_check_beat => k_is)
    (case a_inverse => k_is)
    (case l_inverse => k_is)
    (case c_inverse => k_is)
    (case k_inverse => k_is)
    (case a_Lamp_init => k_is)
    (case j_Lamp_init => k_is)
    (case l_Lamp_init => k_is)
    (case c_Lamp_init => k_is)
    (case k_Lamp_init => k_is)
    (case a_Lamp_eq => k_is)
    (case j_Lamp_eq => k_is)
    (case l_Lamp_eq => k_is)
    (case c_Lamp_eq => k_is)
    (case k_Lamp_eq => k_is)
    (case a_Lamp_next_shine => k_is)
    (case j_Lamp_next_shine => k_is)
    (case l_Lamp_next_shine => k_is)
    (case c_Lamp_next_shine => k_is)
    (case k_Lamp_next_shine => k_is)
    (case a_seen_from => k_is)
    (case l_seen_from => k_is)
    (case c_seen_from => k_is)
    (case k_seen_from => k_is)
    (case a_l_source => k_is)
    (case l_l_source => k_is)
    (case c_l_source => k_is)
    (case k_l_source => k_is)
    (case a_l_take => k_is)
    (case l_l_take => k_is)
    (case c_l_take => k_is)
    (case k_l_take => k_is)
    (case a_shining_rows => k_is)
    (case l_shining_rows => k_is)
    (case c_shining_rows => k_is)
    (case k_shining_rows => k_is)
    (case a_copied => k_is)
    (case l_copied => k_is)
    (case c_copied => k_is)
    (case k_copied => k_is)
    (case a_Light_init => k_is)
    (case j_Light_init => k_is)
    (case l_Light_init => k_is)
    (case c_Light_init => k_is)
    (case k_Light_init => k_is)
    (case a_Light_lamps => k_is)
    (case j_Light_lamps => k_is)
    (case l_Light_lamps => k_is)
    (case c_Light_lamps => k_is)
    (case k_Light_lamps => k_is)
    (case a_Light_wait => k_is)
    (case j_Light_wait => k_is)
    (case l_Light_wait => k_is)
    (case c_Light_wait => k_is)
    (case k_Light_wait => k_is)
    (case a_empty_places => k_is)
    (case l_empty_places => k_is)
    (case c_empty_places => k_is)
    (case k_empty_places => k_is)
    (case a_least_paper => k_is)
    (case l_least_paper => k_is)
    (case c_least_paper => k_is)
    (case k_least_paper => k_is)
    (case a_seen_rows => k_is)
    (case l_seen_rows => k_is)
    (case c_seen_rows => k_is)
    (case k_seen_rows => k_is)
    (case a_rows => k_is)
    (case l_rows => k_is)
    (case c_rows => k_is)
    (case k_rows => k_is)
    (case a_papers => k_is)
    (case l_papers => k_is)
    (case c_papers => k_is)
    (case k_papers => k_is)
    (case a_first_beats => k_is)
    (case l_first_beats => k_is)
    (case c_first_beats => k_is)
    (case k_first_beats => k_is)
    (case a_parted => k_is)
    (case l_parted => k_is)
    (case c_parted => k_is)
    (case k_parted => k_is)
    (case kd_parted => k_is)
    (case a_last_beats => k_is)
    (case l_last_beats => k_is)
    (case c_last_beats => k_is)
    (case k_last_beats => k_is)
    (case a_parted_back => k_is)
    (case l_parted_back => k_is)
    (case c_parted_back => k_is)
    (case k_parted_back => k_is)
    (case kd_parted_back => k_is)
    (case a_l_one => k_is)
    (case l_l_one => k_is)
    (case c_l_one => k_is)
    (case k_l_one => k_is)
    (case a_l_wait => k_is)
    (case l_l_wait => k_is)
    (case c_l_wait => k_is)
    (case k_l_wait => k_is)
    (case a_l_period => k_is)
    (case l_l_period => k_is)
    (case c_l_period => k_is)
    (case k_l_period => k_is)
    (case a_l_lamps => k_is)
    (case l_l_lamps => k_is)
    (case c_l_lamps => k_is)
    (case k_l_lamps => k_is)
    (case a_l_made => k_is)
    (case l_l_made => k_is)
    (case c_l_made => k_is)
    (case k_l_made => k_is)
    (case a_l_mixed => k_is)
    (case l_l_mixed => k_is)
    (case c_l_mixed => k_is)
    (case k_l_mixed => k_is)
    (case a_l_cell_at => k_is)
    (case l_l_cell_at => k_is)
    (case c_l_cell_at => k_is)
    (case k_l_cell_at => k_is)
    (case a_l_lit => k_is)
    (case l_l_lit => k_is)
    (case c_l_lit => k_is)
    (case k_l_lit => k_is)
    (case a_l_first => k_is)
    (case l_l_first => k_is)
    (case c_l_first => k_is)
    (case k_l_first => k_is)
    (case a_first_amiss => k_is)
    (case l_first_amiss => k_is)
    (case c_first_amiss => k_is)
    (case k_first_amiss => k_is)
    (case a_check_within => k_is)
    (case l_check_within => k_is)
    (case c_check_within => k_is)
    (case k_check_within => k_is)
    (case a_l_pieces => k_is)
    (case l_l_pieces => k_is)
    (case c_l_pieces => k_is)
    (case k_l_pieces => k_is)
    (case a_l_split => k_is)
    (case l_l_split => k_is)
    (case c_l_split => k_is)
    (case k_l_split => k_is)
    (case a_l_last => k_is)
    (case l_l_last => k_is)
    (case c_l_last => k_is)
    (case k_l_last => k_is)
    (case a_l_alike => k_is)
    (case l_l_alike => k_is)
    (case c_l_alike => k_is)
    (case k_l_alike => k_is)
    (case a_l_law => k_is)
    (case l_l_law => k_is)
    (case c_l_law => k_is)
    (case k_l_law => k_is)
    (case ne1_Lamp => k_is)
    (case ne2_Lamp => k_is)
    (case n_isinstance => k_is)
    (case n_int => k_is)
    (case n_bool => k_is)
    (case n_range => k_is)
    (case n_len => k_is)
    (case n_list => k_is)
    (case n_enumerate => k_is)
    (case n_tuple => k_is)
    (case n_all => k_is)
    (case n_min => k_is)
    (case n_max => k_is)
    (case n_zip => k_is)
    (case c_MOST_LAMPS => k_is)
    (case ic_Lamp => k_is)
    (case tc_Lamp => k_is)
    (case sn_Lamp => k_is)
    (case i_gcd => k_is)
